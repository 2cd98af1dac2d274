package mosaic_test

import (
	"math"
	"math/rand"
	"slices"
	"strings"
	"testing"

	"mosaic/api"
	"mosaic/mosaic"
	"mosaic/shard"
)

func params(k int, n int, block int) api.Params {
	return api.Params{K: k, N: n, Block: block}
}

// noise answers n bytes that hang on seed.
func noise(n int, seed int64) string {
	list := make([]byte, n)
	rand.New(rand.NewSource(seed)).Read(list)
	return string(list)
}

// edges are the numbers around two bounds, and far ones; among these such whose
// low bytes may be.
func edges(low int, high int) []int {
	return []int{
		low - 1, low, low + 1, high - 1, high, high + 1,
		math.MinInt, math.MinInt + 1, -1 << 32, -256, -1, 0, 257, 1 << 16, 1<<16 + 1, 1 << 32, 1<<32 + 1, math.MaxInt - 1, math.MaxInt,
	}
}

func encode(t *testing.T, p api.Params, stream string) []string {
	t.Helper()
	files, errno := mosaic.Encode(p, 3, stream)
	if errno != api.OK || len(files) != p.N {
		t.Fatalf("Encode(%+v, 3, %d bytes): %d files, %d", p, len(stream), len(files), errno)
	}
	return files
}

// checkEncode holds the files of a stream against the document.
func checkEncode(t *testing.T, p api.Params, workers int, stream string) {
	t.Helper()
	got, errno := mosaic.Encode(p, workers, stream)
	if errno != api.OK {
		t.Fatalf("Encode(%+v, %d, %d bytes): %d", p, workers, len(stream), errno)
	}
	if want := filesOf(p, stream); !slices.Equal(got, want) {
		t.Fatalf("Encode(%+v, %d, %d bytes) = %q, want %q", p, workers, len(stream), got, want)
	}
}

func checkNoFiles(t *testing.T, p api.Params, workers int, stream string, want api.Errno) {
	t.Helper()
	if got, errno := mosaic.Encode(p, workers, stream); got != nil || errno != want {
		t.Fatalf("Encode(%+v, %d, %d bytes) = %d files, %d, want nil, %d", p, workers, len(stream), len(got), errno, want)
	}
}

func TestP10Example(t *testing.T) {
	files := encode(t, params(2, 3, 2), "abcde")
	mixed := func(a byte, b byte) byte { return times(142, a) ^ times(244, b) }
	for i, blocks := range [][2]string{
		{"ab", "e\x00"},
		{"cd", "\x00\x00"},
		{string([]byte{mixed('a', 'c'), mixed('b', 'd')}), string([]byte{times(142, 'e'), 0})},
	} {
		want := headOf(params(2, 3, 2), i, 5) + frameOf(i, 0, blocks[0]) + frameOf(i, 1, blocks[1])
		if files[i] != want || len(want) != 18+2*10 {
			t.Errorf("file %d is %q, want %q", i, files[i], want)
		}
	}
}

// Each bound of K, N and Block, with streams around the ends of stripes.
func TestP10FilesByTheDocument(t *testing.T) {
	for _, p := range []api.Params{
		params(1, 1, 1), params(1, 1, 256), params(1, 2, 3), params(1, 32, 1), params(1, 32, 256),
		params(2, 2, 2), params(2, 3, 4), params(3, 7, 8), params(4, 5, 9), params(5, 10, 7), params(16, 32, 17),
		params(31, 32, 1), params(31, 32, 256), params(32, 32, 1), params(32, 32, 256),
	} {
		size := p.K * p.Block
		for _, length := range []int{0, 1, p.Block - 1, p.Block, p.Block + 1, size - 1, size, size + 1, 2*size - 1, 2 * size, 2*size + 1, 3*size + size/2} {
			if length <= api.MaxLength {
				checkEncode(t, p, 4, noise(length, int64(length)))
			}
		}
	}
}

func TestP10AllSmallParameters(t *testing.T) {
	for n := 1; n <= 6; n++ {
		for k := 1; k <= n; k++ {
			for block := 1; block <= 4; block++ {
				for length := range 3 * k * block {
					checkEncode(t, params(k, n, block), 2, noise(length, 1))
				}
			}
		}
	}
}

func TestP10NoBytes(t *testing.T) {
	for _, p := range []api.Params{params(1, 1, 1), params(2, 3, 2), params(32, 32, 256)} {
		for i, file := range encode(t, p, "") {
			if file != headOf(p, i, 0) {
				t.Errorf("%+v: file %d of no bytes is %q", p, i, file)
			}
		}
	}
}

func TestP10LongestStream(t *testing.T) {
	longest := noise(api.MaxLength, 3)
	for _, p := range []api.Params{params(1, 2, 1), params(2, 3, 1), params(3, 5, 256), params(32, 32, 256), params(16, 32, 256), params(7, 9, 100)} {
		checkEncode(t, p, 16, longest)
		checkEncode(t, p, 16, longest[1:])
		checkNoFiles(t, p, 16, longest+"x", api.ErrLarge)
		checkNoFiles(t, p, 16, longest+longest, api.ErrLarge)
	}
	checkNoFiles(t, params(1, 1, 1), 1, strings.Repeat("x", 1<<20), api.ErrLarge)
}

// The bytes of a last stripe that the stream does not fill are 0, and so is
// what the other files have of them.
func TestP10LastStripe(t *testing.T) {
	p := params(3, 5, 4)
	for _, c := range []struct{ stream, padded string }{
		{"abcdefghijkl", "abcdefghijkl"},
		{"abcdefghijklm", "abcdefghijklm" + strings.Repeat("\x00", 11)},
		{"abcd", "abcd" + strings.Repeat("\x00", 8)},
	} {
		short, full := encode(t, p, c.stream), encode(t, p, c.padded)
		for i := range short {
			if short[i][18:] != full[i][18:] {
				t.Errorf("%q: the frames of file %d are not those of %q", c.stream, i, c.padded)
			}
		}
	}
}

func TestP10FilesAreWhole(t *testing.T) {
	for _, p := range []api.Params{params(1, 1, 1), params(2, 3, 4), params(10, 32, 20), params(32, 32, 256)} {
		for _, length := range []int{0, 1, 1000, api.MaxLength} {
			for i, file := range encode(t, p, noise(length, 2)) {
				scan := shard.Look(file)
				if scan.State != api.Whole || scan.Header != (api.Header{Params: p, Index: i, Length: length}) {
					t.Errorf("%+v: file %d of %d bytes is %+v", p, i, length, scan)
				}
			}
		}
	}
}

func TestP10ParametersThatMayNotBe(t *testing.T) {
	for _, k := range edges(1, 32) {
		for _, n := range edges(1, 32) {
			for _, block := range edges(1, 256) {
				p := params(k, n, block)
				if 1 <= k && k <= n && n <= 32 && 1 <= block && block <= 256 {
					checkEncode(t, p, 2, "abcde")
				} else {
					checkNoFiles(t, p, 2, "abcde", api.ErrParams)
				}
			}
		}
	}
}

func TestP10Workers(t *testing.T) {
	for _, workers := range edges(1, 16) {
		if 1 <= workers && workers <= 16 {
			checkEncode(t, params(2, 3, 2), workers, "abcdefghijklmnopqrstuvwxyz")
		} else {
			checkNoFiles(t, params(2, 3, 2), workers, "abcde", api.ErrParams)
			checkNoFiles(t, params(2, 3, 2), workers, "", api.ErrParams)
		}
	}
}

// Where the parameters or the workers may not be either, that goes ahead.
func TestP1FirstErrorOfEncode(t *testing.T) {
	large := strings.Repeat("x", api.MaxLength+1)
	checkNoFiles(t, params(0, 3, 2), 1, large, api.ErrParams)
	checkNoFiles(t, params(2, 33, 2), 1, large, api.ErrParams)
	checkNoFiles(t, params(2, 3, 257), 1, large, api.ErrParams)
	checkNoFiles(t, params(2, 3, 2), 0, large, api.ErrParams)
	checkNoFiles(t, params(2, 3, 2), 17, large, api.ErrParams)
	checkNoFiles(t, params(0, 0, 0), 0, large, api.ErrParams)
	checkNoFiles(t, params(2, 3, 2), 1, large, api.ErrLarge)
}

func TestP14EncodeDoesNotHangOnWorkers(t *testing.T) {
	for _, p := range []api.Params{params(1, 3, 1), params(2, 3, 2), params(5, 9, 8), params(31, 32, 1)} {
		for _, length := range []int{0, 1, 100, 3001} {
			stream := noise(length, 5)
			want, _ := mosaic.Encode(p, 1, stream)
			for workers := 2; workers <= 16; workers++ {
				if got, errno := mosaic.Encode(p, workers, stream); !slices.Equal(got, want) || errno != api.OK {
					t.Fatalf("%+v, %d bytes: %d workers make other files than one", p, length, workers)
				}
			}
		}
	}
}
