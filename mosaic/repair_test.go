package mosaic_test

import (
	"math"
	"math/rand"
	"slices"
	"strings"
	"testing"

	"mosaic/api"
	"mosaic/mosaic"
)

// checkRepairWith holds what Repair answers against what is wanted, for a few
// numbers of workers.
func checkRepairWith(t *testing.T, fail int, want []string, number int, errno api.Errno, files []string) {
	t.Helper()
	for _, workers := range []int{1, 2, 16} {
		got, told, gave := mosaic.Repair(files, workers, fail)
		if !slices.Equal(got, want) || told != number || gave != errno || errno != api.OK && got != nil {
			t.Fatalf("Repair of %d files, %d workers, fail %d = %q, %d, %d, want %q, %d, %d", len(files), workers, fail, got, told, gave, want, number, errno)
		}
	}
}

// checkRepair is for files of which whole ones can be made, by so many writes:
// each of these may fail, and no other.
func checkRepair(t *testing.T, want []string, writes int, files ...string) {
	t.Helper()
	for _, fail := range []int{math.MinInt, -1 << 32, -2, -1, writes, writes + 1, 32, 33, 1 << 32, math.MaxInt} {
		checkRepairWith(t, fail, want, writes, api.OK, files)
	}
	for fail := range writes {
		checkRepairWith(t, fail, nil, 0, api.ErrIO, files)
	}
}

// checkNoRepair is for files of which none can be made: no write is, so none
// can fail.
func checkNoRepair(t *testing.T, stripe int, errno api.Errno, files ...string) {
	t.Helper()
	for _, fail := range []int{math.MinInt, -1, 0, 1, math.MaxInt} {
		checkRepairWith(t, fail, nil, stripe, errno, files)
	}
}

func TestP13Example(t *testing.T) {
	p := params(2, 3, 2)
	files := encode(t, p, "abcde")
	damaged := []string{files[0], spoiled(files[1], p, 0), files[2]}
	checkRepairWith(t, -1, files, 1, api.OK, damaged)
	checkRepairWith(t, 0, nil, 0, api.ErrIO, damaged)
	checkRepairWith(t, 1, files, 1, api.OK, damaged)
}

// Each bound of K, N and Block; none is written, so none can fail.
func TestP14RepairOfWholeFilesWritesNone(t *testing.T) {
	for _, p := range []api.Params{
		params(1, 1, 1), params(1, 1, 256), params(1, 32, 1), params(1, 32, 256), params(2, 3, 2), params(16, 32, 9),
		params(31, 32, 1), params(32, 32, 1), params(32, 32, 256),
	} {
		size := p.K * p.Block
		for _, length := range []int{0, 1, size - 1, size, size + 1, 2 * size} {
			files := encode(t, p, noise(length, int64(length)))
			checkRepairWith(t, 0, files, 0, api.OK, files)
			checkRepairWith(t, -1, files, 0, api.OK, files)
		}
	}
	for _, p := range []api.Params{params(1, 2, 1), params(3, 5, 256), params(32, 32, 256)} {
		files := encode(t, p, noise(api.MaxLength, 13))
		checkRepairWith(t, 0, files, 0, api.OK, files)
	}
}

// Every choice of files, in their places and, others being left out, without
// them: what is not there is written.
func TestP13AnyKFiles(t *testing.T) {
	for n := 1; n <= 6; n++ {
		for k := 1; k <= n; k++ {
			files := encode(t, params(k, n, 3), noise(3*k*3+1, int64(n)))
			for bits := 1; bits < 1<<n; bits++ {
				inPlace := slices.Clone(files)
				for i := range inPlace {
					if bits>>i&1 == 0 {
						inPlace[i] = ""
					}
				}
				chosen := choice(files, bits)
				if len(chosen) < k {
					checkNoRepair(t, 0, api.ErrTooFew, inPlace...)
					checkNoRepair(t, 0, api.ErrTooFew, chosen...)
					continue
				}
				checkRepair(t, files, n-len(chosen), inPlace...)
				moved := n
				for i, file := range chosen {
					if file == files[i] {
						moved--
					}
				}
				checkRepair(t, files, moved, chosen...)
			}
		}
	}
}

func TestP13FewerFilesThanN(t *testing.T) {
	files := encode(t, params(2, 5, 2), "abcdefg")
	checkRepair(t, files, 1, files[:4]...)
	checkRepair(t, files, 3, files[:2]...)
	checkRepair(t, files, 5, files[1:]...)
	checkRepair(t, files, 5, files[3:]...)
	// No bytes at the end of the list are the same as no file there.
	checkRepair(t, files, 3, files[0], files[1], "")
	checkRepair(t, files, 3, files[0], files[1], "", "", "")
}

func TestP13MoreFilesThanN(t *testing.T) {
	files := encode(t, params(2, 3, 2), "abcde")
	more := func(others ...string) []string { return append(slices.Clone(files), others...) }
	checkRepair(t, files, 0, more("")...)
	checkRepair(t, files, 0, more("x", files[0], files[1][:25])...)
	checkRepair(t, files, 0, more(make([]string, 29)...)...)
	checkRepair(t, files, 0, more(strings.Split(strings.Repeat("x", 29), "")...)...)
	checkRepair(t, files, 3, "", "", "", files[0], files[2])
	checkRepair(t, files, 2, files[0]+"x", files[1], "", "y", files[0])
	checkRepair(t, files, 3, append(make([]string, 30), files[1:]...)...)
}

func TestP13FilesOutOfOrder(t *testing.T) {
	files := encode(t, params(2, 3, 2), "abcde")
	checkRepair(t, files, 2, files[1], files[0], files[2])
	checkRepair(t, files, 2, files[2], files[1], files[0])
	checkRepair(t, files, 3, files[1], files[2], files[0])
	checkRepair(t, files, 2, files[2], files[1])
	checkRepair(t, files, 1, files[0], files[0], files[2])
	checkRepair(t, files, 2, files[2], files[2], files[2], files[1])
}

func TestP13BytesBehindAFile(t *testing.T) {
	files := encode(t, params(2, 3, 2), "abcde")
	checkRepair(t, files, 1, files[0]+"x", files[1], files[2])
	checkRepair(t, files, 3, files[0]+"x", files[1]+"\x00", files[2]+files[2])
	checkRepair(t, files, 1, files[0], files[1], files[2]+strings.Repeat("x", 100000))
	none := encode(t, params(2, 3, 2), "")
	checkRepair(t, none, 1, none[0]+"x", none[1], none[2])
	checkRepair(t, none, 2, none[0])
}

// What is Missing or Unknown is left out of the stream, and written over.
func TestP13FilesThatAreLeftOut(t *testing.T) {
	files := encode(t, params(2, 3, 2), "abcde")
	other := encode(t, params(3, 4, 9), "another stream")
	for _, out := range []string{"", "x", "MOSC", files[0][:17], changed(files[1], 3, 1), changed(files[2], 17, 128), changed(other[0], 9, 2)} {
		checkRepair(t, files, 1, files[0], out, files[2])
		checkRepair(t, files, 3, out, files[0], files[1])
		checkRepair(t, files, 0, files[0], files[1], files[2], out)
		checkNoRepair(t, 0, api.ErrNoHeader, out)
		checkNoRepair(t, 0, api.ErrTooFew, out, files[1])
	}
}

func TestP13TooFewGoodFrames(t *testing.T) {
	p := params(2, 3, 2)
	files := encode(t, p, noise(4*20, 6))
	checkNoRepair(t, 0, api.ErrTooFew, files[0])
	checkNoRepair(t, 0, api.ErrTooFew, files[2], files[2])
	checkNoRepair(t, 1, api.ErrTooFew, files[2], files[0][:28])
	for first := range 20 {
		checkNoRepair(t, first, api.ErrTooFew, twoSpoiled(files, p, first)...)
	}
}

func TestP13FilesThatDisagree(t *testing.T) {
	files := encode(t, params(2, 3, 2), "abcde")
	for _, others := range [][]string{
		encode(t, params(1, 3, 2), "abcde"), encode(t, params(2, 4, 2), "abcde"), encode(t, params(2, 3, 3), "abcde"),
		encode(t, params(2, 3, 2), "abcd"), encode(t, params(2, 3, 2), "abcdef"), encode(t, params(2, 3, 2), ""),
	} {
		checkNoRepair(t, 0, api.ErrDisagree, files[0], files[1], files[2], others[0])
		checkNoRepair(t, 0, api.ErrDisagree, others[1], files[1], files[2])
		checkNoRepair(t, 0, api.ErrDisagree, files[0], "", others[2][:18], "x")
	}
}

func TestP13HowManyFiles(t *testing.T) {
	checkNoRepair(t, 0, api.ErrNoHeader)
	checkNoRepair(t, 0, api.ErrNoHeader, make([]string, 32)...)
	checkNoRepair(t, 0, api.ErrLarge, make([]string, 33)...)
	checkNoRepair(t, 0, api.ErrLarge, make([]string, 1000)...)
	files := encode(t, params(3, 32, 2), "abcdefg")
	checkRepair(t, files, 0, files...)
	checkRepair(t, files, 29, files[:3]...)
	checkRepair(t, files, 32, append(make([]string, 29), files[:3]...)...)
	checkNoRepair(t, 0, api.ErrLarge, append(slices.Clone(files), "")...)
	checkNoRepair(t, 0, api.ErrLarge, append(slices.Clone(files), files[0])...)
}

func TestP13Workers(t *testing.T) {
	files := encode(t, params(2, 3, 2), "abcde")
	for _, workers := range edges(1, 16) {
		want, writes, errno := files, 1, api.OK
		if workers < 1 || workers > 16 {
			want, writes, errno = nil, 0, api.ErrParams
		}
		got, number, told := mosaic.Repair(files[:2], workers, -1)
		if !slices.Equal(got, want) || number != writes || told != errno || errno != api.OK && got != nil {
			t.Errorf("%d workers: %q, %d, %d", workers, got, number, told)
		}
	}
}

// Where a write would fail too, the errors of Decode go ahead, and among these
// the one that is named first.
func TestP1FirstErrorOfRepair(t *testing.T) {
	large := make([]string, 33)
	for i := range large {
		large[i] = encode(t, params(2, 3, 2), strings.Repeat("x", i))[0]
	}
	for _, workers := range []int{-1, 0, 17} {
		for _, files := range [][]string{nil, large, {"x"}, large[5:6], large[5:7], encode(t, params(2, 3, 2), "abcde")[1:]} {
			if got, number, errno := mosaic.Repair(files, workers, 0); got != nil || number != 0 || errno != api.ErrParams {
				t.Errorf("%d workers, %d files: %q, %d, %d", workers, len(files), got, number, errno)
			}
		}
	}
	checkNoRepair(t, 0, api.ErrLarge, large...)
	checkNoRepair(t, 0, api.ErrDisagree, large[5], large[6])
	checkNoRepair(t, 0, api.ErrTooFew, large[5])
}

// The files are made of the stream alone: bytes of the last stripe behind it,
// which Encode has as 0, are not kept.
func TestP13BytesBehindTheStream(t *testing.T) {
	p := params(2, 3, 2)
	full := encode(t, p, "abcdefgh")
	var files []string
	for i, file := range full {
		files = append(files, headOf(p, i, 5)+file[18:])
	}
	checkRepair(t, encode(t, p, "abcde"), 3, files...)
	// Of a single byte behind the stream, only the files that it is in.
	var one []string
	for i, file := range encode(t, p, "abcdefgh"[:7]+"\x00") {
		one = append(one, headOf(p, i, 6)+file[18:])
	}
	checkRepair(t, encode(t, p, "abcdef"), 2, one...)
}

// All frames are good, but not of one stream: it is written as Decode chooses,
// and the files that do not fit it are written.
func TestP13FilesOfTwoStreams(t *testing.T) {
	p := params(2, 3, 2)
	a, b := encode(t, p, "abcdefgh"), encode(t, p, "ABCDEFGH")
	checkRepair(t, a, 1, a[0], a[1], b[2])
	checkRepair(t, encode(t, p, "ABcdEFgh"), 1, b[0], a[1], a[2])
	checkRepair(t, encode(t, p, "ABcdEFgh"), 1, b[0], a[1], b[2])
	checkRepair(t, encode(t, p, "abcdEFgh"), 2, spoiled(a[0], p, 1), a[1], a[2], b[0])
	checkRepair(t, b, 3, b[1], b[0], a[1], a[0], a[2])
}

// Every change of one byte of one file is seen and mended by one write.
func TestP14RepairOfOneByteChanged(t *testing.T) {
	p := params(2, 3, 4)
	files := encode(t, p, "a stream of three stripes"[:20])
	for i, file := range files {
		for at := range len(file) {
			damaged := slices.Clone(files)
			damaged[i] = changed(file, at, byte(1+at*7%255))
			checkRepair(t, files, 1, damaged...)
		}
		for size := range len(file) {
			damaged := slices.Clone(files)
			damaged[i] = file[:size]
			checkRepair(t, files, 1, damaged...)
		}
	}
}

// Just K frames of each stripe are good, at other files each.
func TestP14RepairGivesWhatEncodeGave(t *testing.T) {
	r := rand.New(rand.NewSource(13))
	for _, p := range []api.Params{params(1, 1, 1), params(1, 3, 2), params(2, 3, 2), params(3, 7, 4), params(5, 5, 3), params(8, 16, 10), params(32, 32, 4)} {
		size := p.K * p.Block
		for _, length := range []int{4 * size, 5*size - 1, 4*size + 1} {
			whole := encode(t, p, noise(length, int64(p.N)))
			files := slices.Clone(whole)
			for number := range (length + size - 1) / size {
				for _, i := range r.Perm(p.N)[p.K:] {
					files[i] = spoiled(files[i], p, number)
				}
			}
			writes := 0
			for i := range files {
				if files[i] != whole[i] {
					writes++
				}
			}
			checkRepair(t, whole, writes, files...)
		}
	}
}

// Files of two streams and what is left of them, in any order, with any write
// that fails, against the document.
func TestP13Drawn(t *testing.T) {
	r := rand.New(rand.NewSource(14))
	found := map[api.Errno]int{}
	for range 1500 {
		p, streams := drawnStreams(t, r)
		files := slices.Clone(streams[0][:r.Intn(p.N+1)])
		for range r.Intn(2 * p.N) {
			files = append(files, drawnFile(r, p, streams))
		}
		for range min(len(files), r.Intn(p.N)) {
			files[r.Intn(len(files))] = drawnFile(r, p, streams)
		}
		files = withStray(t, r, p, files)
		fail := r.Intn(2*p.N) - 1
		want, number, errno := repairOf(files, fail)
		checkRepairWith(t, fail, want, number, errno, files)
		found[errno]++
	}
	checkFound(t, found, api.OK, api.ErrNoHeader, api.ErrDisagree, api.ErrTooFew, api.ErrIO)
}

func TestP14RepairDoesNotHangOnWorkers(t *testing.T) {
	p := params(3, 5, 2)
	whole := encode(t, p, noise(6*300+1, 7))
	for _, first := range []int{0, 1, 150, 300, -1} {
		files := slices.Clone(whole)
		files[3] = spoiled(files[3], p, 7)
		if first >= 0 {
			for i := range 3 {
				files[i] = files[i][:18+first*10]
			}
		}
		for _, fail := range []int{-1, 0, 1} {
			want, number, errno := mosaic.Repair(files, 1, fail)
			for workers := 2; workers <= 16; workers++ {
				if got, told, gave := mosaic.Repair(files, workers, fail); !slices.Equal(got, want) || told != number || gave != errno {
					t.Fatalf("%d workers: %d files, %d, %d; one: %d files, %d, %d", workers, len(got), told, gave, len(want), number, errno)
				}
			}
		}
	}
}

// What is handed in has more files behind it, and is out of order, so that
// sorting or mending it in place would be seen.
func TestP2RepairWritesNothingHandedIn(t *testing.T) {
	files := encode(t, params(2, 5, 3), "some bytes to be split")
	for _, list := range [][]string{
		{files[4], files[3], files[2], files[1], files[0]},
		{files[4], "", files[3][:20], "x", files[0], "y", files[1]},
		{files[0], files[1], "", "", "", "", ""},
	} {
		before := slices.Clone(list)
		for end := range len(list) {
			for _, fail := range []int{-1, 0, 2} {
				mosaic.Repair(list[:end], 3, fail)
				if !slices.Equal(list, before) {
					t.Errorf("Repair of %d files has changed what was handed in", end)
				}
			}
		}
	}
}

// Also files that are whole, and are not written, come back as new ones.
func TestP2RepairedFilesAreNewMemory(t *testing.T) {
	for _, p := range []api.Params{params(1, 1, 1), params(1, 4, 256), params(3, 5, 4)} {
		for _, length := range []int{0, 1, 255, 256} {
			files := encode(t, p, noise(length, 4))
			first, _, _ := mosaic.Repair(files, 2, 0)
			second, _, _ := mosaic.Repair(files, 2, 0)
			for i, file := range first {
				for j := range files {
					if sharesRoom(file, files[j]) || sharesRoom(file, second[j]) || i != j && sharesRoom(file, first[j]) {
						t.Errorf("%+v, %d bytes: file %d shares room with file %d", p, length, i, j)
					}
				}
			}
			before := slices.Clone(files)
			first = first[:cap(first)]
			for i := range first {
				first[i] = "overwritten"
			}
			if !slices.Equal(files, before) || !slices.Equal(second, before) {
				t.Errorf("%+v, %d bytes: the lists share room", p, length)
			}
			checkRepairWith(t, 0, before, 0, api.OK, files)
		}
	}
}
