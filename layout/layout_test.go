package layout_test

import (
	"math"
	"testing"

	"mosaic/api"
	"mosaic/layout"
)

func TestWithin(t *testing.T) {
	for _, c := range []struct {
		number, low, high int
		want              bool
	}{
		{0, 1, 3, false}, {1, 1, 3, true}, {2, 1, 3, true}, {3, 1, 3, true}, {4, 1, 3, false},
		{2, 2, 2, true}, {2, 3, 1, false}, {math.MinInt, 0, math.MaxInt, false}, {math.MaxInt, 0, math.MaxInt, true},
	} {
		if got := layout.Within(c.number, c.low, c.high); got != c.want {
			t.Errorf("Within(%d, %d, %d) = %t", c.number, c.low, c.high, got)
		}
	}
}

func params(numbers [3]int) api.Params {
	return api.Params{K: numbers[0], N: numbers[1], Block: numbers[2]}
}

func TestParamsMayBe(t *testing.T) {
	for _, p := range [][3]int{{1, 1, 1}, {1, 1, 256}, {1, 32, 1}, {32, 32, 1}, {32, 32, 256}, {5, 5, 7}, {4, 5, 7}} {
		if !layout.ParamsMayBe(params(p)) {
			t.Errorf("%v may not be", p)
		}
	}
	for _, p := range [][3]int{
		{}, {0, 1, 1}, {0, 0, 1}, {-1, 3, 1}, {4, 3, 1}, {33, 32, 1}, {33, 33, 1}, {1, 33, 1}, {1, 0, 1},
		{1, 1, 0}, {1, 1, -1}, {1, 1, 257}, {32, 32, 257}, {math.MinInt, math.MaxInt, 1}, {1, 2, math.MaxInt}, {1, 2, math.MinInt},
	} {
		if layout.ParamsMayBe(params(p)) {
			t.Errorf("%v may be", p)
		}
	}
}

func TestStripes(t *testing.T) {
	for _, c := range []struct{ k, block, length, want int }{
		{2, 2, 0, 0}, {2, 2, 1, 1}, {2, 2, 4, 1}, {2, 2, 5, 2}, {2, 2, 8, 2}, {2, 2, 9, 3},
		{1, 1, 16384, 16384}, {32, 256, 16384, 2}, {31, 256, 16384, 3}, {3, 256, 16384, 22},
	} {
		h := api.Header{Params: api.Params{K: c.k, N: 32, Block: c.block}, Length: c.length}
		if got := layout.Stripes(h); got != c.want {
			t.Errorf("K %d, Block %d, Length %d: %d stripes, want %d", c.k, c.block, c.length, got, c.want)
		}
	}
}

func TestPlaces(t *testing.T) {
	h := api.Header{Params: api.Params{K: 2, N: 3, Block: 5}, Length: 21}
	if got := layout.FrameBytes(h.Params); got != 13 {
		t.Errorf("a frame has %d bytes", got)
	}
	if got := layout.FramePlace(h.Params, 0); got != 18 {
		t.Errorf("the first frame begins at %d", got)
	}
	if got := layout.FramePlace(h.Params, 2); got != 18+2*13 {
		t.Errorf("the third frame begins at %d", got)
	}
	if got := layout.WholeBytes(h); got != 18+3*13 {
		t.Errorf("a whole file has %d bytes", got)
	}
	if got := layout.BlockOf("1234block6789"); got != "block" {
		t.Errorf("the block is %q", got)
	}
}
