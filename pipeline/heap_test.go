package pipeline

import (
	"math/rand"
	"slices"
	"testing"
)

// drain takes all numbers out of a heap.
func drain(h *heap[string]) []int {
	var out []int
	for len(h.list) > 0 {
		out = append(out, h.pop().number)
	}
	return out
}

func TestHeapGivesTheLowestFirst(t *testing.T) {
	r := rand.New(rand.NewSource(1))
	for size := range 70 {
		for range 20 {
			var h heap[string]
			order := r.Perm(size)
			for _, number := range order {
				h.push(result[string]{number: number})
			}
			got := drain(&h)
			if !slices.IsSorted(got) || len(got) != size {
				t.Fatalf("%v comes out as %v", order, got)
			}
		}
	}
}

// Pushed and popped by turns, against a list that is sorted again and again.
func TestHeapByTurns(t *testing.T) {
	r := rand.New(rand.NewSource(2))
	var h heap[string]
	var kept []int
	for next := range 5000 {
		if len(kept) > 0 && r.Intn(2) == 0 {
			if got := h.pop().number; got != kept[0] {
				t.Fatalf("%d comes out, want %d", got, kept[0])
			}
			kept = kept[1:]
		}
		number := next ^ r.Intn(64)<<13
		h.push(result[string]{number: number})
		kept = append(kept, number)
		slices.Sort(kept)
	}
	if got := drain(&h); !slices.Equal(got, kept) {
		t.Fatalf("what is left comes out as %v, want %v", got, kept)
	}
}

func TestHeapKeepsThePieces(t *testing.T) {
	var h heap[string]
	h.push(result[string]{2, "two", true})
	h.push(result[string]{0, "", false})
	h.push(result[string]{1, "one", true})
	for _, want := range []result[string]{{0, "", false}, {1, "one", true}, {2, "two", true}} {
		if got := h.pop(); got != want {
			t.Errorf("%v comes out, want %v", got, want)
		}
	}
}

func TestHeapTellsWhoIsNext(t *testing.T) {
	var h heap[string]
	if h.isNext(0) {
		t.Error("0 is next in a heap without results")
	}
	h.push(result[string]{number: 3})
	h.push(result[string]{number: 1})
	for number := range 5 {
		if h.isNext(number) != (number == 1) {
			t.Errorf("of 3 and 1: that %d is next is told as %t", number, h.isNext(number))
		}
	}
}
