package pipeline

// heap keeps results whose turn has not come. Below the one at place i stand
// those at 2*i + 1 and 2*i + 2, and none is lower than the one above it: so the
// lowest is first.
type heap[Piece any] struct {
	list []result[Piece]
}

// isNext tells whether the lowest number is that one.
func (h *heap[Piece]) isNext(number int) bool {
	return len(h.list) > 0 && h.list[0].number == number
}

func (h *heap[Piece]) push(added result[Piece]) {
	h.list = append(h.list, added)
	h.siftUp(len(h.list) - 1)
}

// pop takes the result of the lowest number out of a heap that has one.
func (h *heap[Piece]) pop() result[Piece] {
	lowest, last := h.list[0], len(h.list)-1
	h.list[0] = h.list[last]
	h.list = h.list[:last]
	h.siftDown(0)
	return lowest
}

// siftUp brings what stands at a place up, until what is above it is lower.
func (h *heap[Piece]) siftUp(at int) {
	for at > 0 {
		above := (at - 1) / 2
		if !h.less(at, above) {
			return
		}
		h.swap(at, above)
		at = above
	}
}

// siftDown brings what stands at a place down, until what is below it is
// higher.
func (h *heap[Piece]) siftDown(at int) {
	for {
		below := 2*at + 1
		if below >= len(h.list) {
			return
		}
		if right := below + 1; right < len(h.list) && h.less(right, below) {
			below = right
		}
		if !h.less(below, at) {
			return
		}
		h.swap(below, at)
		at = below
	}
}

func (h *heap[Piece]) less(i int, j int) bool {
	return h.list[i].number < h.list[j].number
}

func (h *heap[Piece]) swap(i int, j int) {
	h.list[i], h.list[j] = h.list[j], h.list[i]
}
