package shard

import (
	"mosaic/api"
	"mosaic/layout"
)

// tooShort is what a reader panics with where the bytes end too soon.
type tooShort struct{}

// reader goes through a file; rest is what it has not read yet.
type reader struct {
	rest string
}

// take reads so many bytes, or gives up and leaves what is there.
func (r *reader) take(count int) string {
	if count > len(r.rest) {
		panic(tooShort{})
	}
	taken := r.rest[:count]
	r.rest = r.rest[count:]
	return taken
}

// number reads a number of so many bytes, the highest first.
func (r *reader) number(count int) int {
	taken, number := r.take(count), 0
	for i := range len(taken) {
		number = number<<8 | int(taken[i])
	}
	return number
}

// header reads what stands in a header, whether it is good or not.
func (r *reader) header() api.Header {
	var h api.Header
	r.take(len(mark))
	h.K, h.N, h.Index = r.number(1), r.number(1), r.number(1)
	r.take(1)
	h.Block, h.Length = r.number(2), r.number(4)
	r.take(layout.SumBytes)
	return h
}

// goodFrame reads the next frame, and tells whether it is the one of that
// number.
func (r *reader) goodFrame(h api.Header, number int) bool {
	found := r.take(layout.FrameBytes(h.Params))
	frame, _ := Frame(h.Index, number, layout.BlockOf(found))
	return found == frame
}

// untilEnd runs read, which ends early where the bytes end too soon. Any other
// panic would be a fault of the program, and is not hidden here.
func untilEnd(read func()) {
	defer func() {
		if given := recover(); given != nil {
			if _, short := given.(tooShort); !short {
				panic(given)
			}
		}
	}()
	read()
}

// readHeader reads the header of a file, and tells whether it is good.
func readHeader(from *reader) (h api.Header, good bool) {
	untilEnd(func() {
		file := from.rest
		h = from.header()
		// What Head does not give back, byte for byte, is no header; of one
		// that may not be it gives nothing.
		head, _ := Head(h)
		good = head == file[:layout.HeadBytes]
	})
	return h, good
}

// readBadFrames reads the frames behind a header, and answers the numbers of
// those that are not good.
func readBadFrames(from *reader, h api.Header) []int {
	var bad []int
	number, end := 0, layout.Stripes(h)
	untilEnd(func() {
		for ; number < end; number++ {
			if !from.goodFrame(h, number) {
				bad = append(bad, number)
			}
		}
	})
	// Where the bytes ended too soon, that frame is not all there, and none
	// behind it is.
	for ; number < end; number++ {
		bad = append(bad, number)
	}
	return bad
}
