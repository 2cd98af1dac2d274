package mosaic_test

import (
	"math/rand"
	"slices"
	"testing"

	"mosaic/api"
	"mosaic/mosaic"
	"mosaic/shard"
)

// sameScan holds two scans against each other; a list without elements may be
// nil.
func sameScan(a api.Scan, b api.Scan) bool {
	return a.State == b.State && a.Header == b.Header && slices.Equal(a.Bad, b.Bad) && a.Behind == b.Behind
}

// checkScans holds what Verify tells against what is wanted of each file.
func checkScans(t *testing.T, files []string, want []api.Scan) {
	t.Helper()
	got, errno := mosaic.Verify(files)
	if errno != api.OK || !slices.EqualFunc(got, want, sameScan) {
		t.Fatalf("Verify(%q) = %+v, %d, want %+v", files, got, errno, want)
	}
}

// scansOf are the scans of files by the document.
func scansOf(files []string) []api.Scan {
	scans := make([]api.Scan, len(files))
	for i, file := range files {
		scans[i] = scanOf(file)
	}
	return scans
}

func TestP12EachState(t *testing.T) {
	p := params(2, 3, 2)
	files := encode(t, p, "abcde")
	header := func(index int) api.Header { return api.Header{Params: p, Index: index, Length: 5} }
	checkScans(t,
		[]string{
			files[0], "", spoiled(files[2], p, 1), "x", files[1] + "yy", files[0][:37],
			spoiled(files[1], p, 0)[:18+10], spoiled(files[2], p, 0) + "z", changed(files[0], 5, 1), files[2],
		},
		[]api.Scan{
			{State: api.Whole, Header: header(0)},
			{State: api.Missing},
			{State: api.Damaged, Header: header(2), Bad: []int{1}},
			{State: api.Unknown},
			{State: api.Damaged, Header: header(1), Behind: 2},
			{State: api.Damaged, Header: header(0), Bad: []int{1}},
			{State: api.Damaged, Header: header(1), Bad: []int{0, 1}},
			{State: api.Damaged, Header: header(2), Bad: []int{0}, Behind: 1},
			{State: api.Unknown},
			{State: api.Whole, Header: header(2)},
		})
}

// What Decode would refuse, Verify tells: no file hangs on another.
func TestP12FilesOfOneListMayDiffer(t *testing.T) {
	a, b := encode(t, params(2, 3, 2), "abcde"), encode(t, params(1, 2, 256), "another stream")
	for _, files := range [][]string{{a[0], b[0]}, {b[1], a[2], a[2], b[1]}, {a[1]}, {"x", "x"}, {"", ""}} {
		checkScans(t, files, scansOf(files))
	}
}

func TestP12HowManyFiles(t *testing.T) {
	checkScans(t, nil, nil)
	checkScans(t, []string{}, nil)
	all := encode(t, params(3, 32, 2), "abcdefg")
	for count := range 33 {
		checkScans(t, all[:count], scansOf(all[:count]))
		checkScans(t, make([]string, count), slices.Repeat([]api.Scan{{State: api.Missing}}, count))
	}
	for _, files := range [][]string{make([]string, 33), append(slices.Clone(all), ""), append(slices.Clone(all), all[0]), make([]string, 34), make([]string, 1000)} {
		if got, errno := mosaic.Verify(files); got != nil || errno != api.ErrLarge {
			t.Errorf("Verify of %d files = %d scans, %d", len(files), len(got), errno)
		}
	}
}

// Files of any kind, against the document, and against Look of each.
func TestP12Drawn(t *testing.T) {
	r := rand.New(rand.NewSource(12))
	var found [5]int
	for range 500 {
		p, streams := drawnStreams(t, r)
		var files []string
		for range r.Intn(33) {
			files = append(files, drawnFile(r, p, streams))
		}
		if len(files) > 0 {
			files[r.Intn(len(files))] = ""
		}
		want := scansOf(files)
		checkScans(t, files, want)
		for i, file := range files {
			if look := shard.Look(file); !sameScan(look, want[i]) {
				t.Fatalf("Look(%q) = %+v, want %+v", file, look, want[i])
			}
			found[want[i].State]++
		}
	}
	if slices.Min(found[1:]) < 50 {
		t.Errorf("too few of one kind: %v", found)
	}
}

// What one answer has, all of it and behind its lists, is written into: the
// others do not change, nor does one list of an answer by another.
func TestP2ScansAreNewMemory(t *testing.T) {
	p := params(2, 3, 2)
	whole := encode(t, p, noise(40, 1))
	damaged := changed(spoiled(spoiled(whole[1], p, 2), p, 4), len(whole[1])-1, 1)
	files := []string{damaged, whole[0], damaged, whole[2][:50], "", damaged + "x"}
	want := scansOf(files)
	first, _ := mosaic.Verify(files)
	second, _ := mosaic.Verify(files)
	for i := range first {
		bad := first[i].Bad[:cap(first[i].Bad)]
		for place := range bad {
			bad[place] = -1
		}
		for j := i + 1; j < len(first); j++ {
			if !sameScan(first[j], want[j]) {
				t.Errorf("the list of scan %d shares room with that of scan %d", i, j)
			}
		}
	}
	first = first[:cap(first)]
	for i := range first {
		first[i] = api.Scan{State: -1, Bad: []int{-1}, Behind: -1}
	}
	if !slices.EqualFunc(second, want, sameScan) {
		t.Errorf("two answers share room: %+v, want %+v", second, want)
	}
	checkScans(t, files, want)
}

// What is handed in has more files behind it.
func TestP2VerifyWritesNothingHandedIn(t *testing.T) {
	files := encode(t, params(2, 5, 3), "some bytes to be split")
	list := []string{files[4], "", files[3][:20], "x", files[0], files[1] + "y"}
	before := slices.Clone(list)
	for end := range len(list) {
		mosaic.Verify(list[:end])
		if !slices.Equal(list, before) {
			t.Errorf("Verify of %d files has changed what was handed in", end)
		}
	}
}
