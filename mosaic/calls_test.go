package mosaic_test

import (
	"runtime"
	"slices"
	"strings"
	"sync"
	"testing"
	"testing/synctest"
	"time"
	"unsafe"

	"mosaic/api"
	"mosaic/mosaic"
)

// sharesRoom tells whether two texts have bytes in the same place.
func sharesRoom(a string, b string) bool {
	if a == "" || b == "" {
		return false
	}
	from, other := uintptr(unsafe.Pointer(unsafe.StringData(a))), uintptr(unsafe.Pointer(unsafe.StringData(b)))
	return from < other+uintptr(len(b)) && other < from+uintptr(len(a))
}

// callsOfEachKind are calls that answer, that have too few frames, and that are
// refused, for some number of workers.
func callsOfEachKind(t *testing.T) []func(workers int) {
	stream := noise(2000, 1)
	files := encode(t, params(3, 5, 4), stream)
	encodeCall := func(p api.Params, stream string) func(int) {
		return func(workers int) { mosaic.Encode(p, workers, stream) }
	}
	decodeCall := func(files ...string) func(int) {
		return func(workers int) { mosaic.Decode(files, workers) }
	}
	repairCall := func(fail int, files ...string) func(int) {
		return func(workers int) { mosaic.Repair(files, workers, fail) }
	}
	return []func(int){
		encodeCall(params(3, 5, 4), stream), encodeCall(params(1, 1, 1), ""), encodeCall(params(0, 1, 1), stream),
		encodeCall(params(1, 2, 1), strings.Repeat("x", api.MaxLength+1)),
		decodeCall(files...), decodeCall(files[0]), decodeCall(files[0], files[1], files[2][:500]),
		decodeCall(), decodeCall(files[0], encode(t, params(3, 5, 4), "x")[0]), decodeCall(make([]string, 33)...),
		repairCall(0, files...), repairCall(-1, files[1:]...), repairCall(0, files[1:]...), repairCall(0, files[0]),
		repairCall(0, files[0], files[1], files[2][:500]), repairCall(0), repairCall(0, make([]string, 33)...),
		func(int) { mosaic.Verify(files) }, func(int) { mosaic.Verify(make([]string, 33)) },
	}
}

// A bubble tells it where goroutines are left that wait and cannot end.
func TestP1NoGoroutineIsLeftWaiting(t *testing.T) {
	for _, call := range callsOfEachKind(t) {
		for _, workers := range []int{0, 1, 2, 7, 16} {
			synctest.Test(t, func(*testing.T) { call(workers) })
		}
	}
}

// A goroutine that has told its end may take a moment to be gone.
func TestP1AllGoroutinesEnd(t *testing.T) {
	calls := callsOfEachKind(t)
	before := runtime.NumGoroutine()
	for _, call := range calls {
		for workers := 1; workers <= 16; workers++ {
			call(workers)
			for moments := 0; runtime.NumGoroutine() > before; moments++ {
				if moments == 1000 {
					t.Fatalf("%d goroutines, %d before", runtime.NumGoroutine(), before)
				}
				time.Sleep(time.Millisecond)
			}
		}
	}
}

// Calls that run beside each other give what each gives alone.
func TestP1AnswersHangOnArgumentsAlone(t *testing.T) {
	p, stream := params(3, 6, 5), noise(1234, 2)
	files := encode(t, p, stream)
	scans := scansOf(files)
	var all sync.WaitGroup
	for i := range 16 {
		all.Go(func() {
			if got, errno := mosaic.Encode(p, 1+i, stream); !slices.Equal(got, files) || errno != api.OK {
				t.Errorf("call %d: Encode answers other files, and %d", i, errno)
			}
			if got, number, errno := mosaic.Decode(files[i%4:], 1+i); got != stream || number != 0 || errno != api.OK {
				t.Errorf("call %d: Decode answers %q, %d, %d", i, got, number, errno)
			}
			if got, number, errno := mosaic.Decode(files[:2], 1+i); got != "" || number != 0 || errno != api.ErrTooFew {
				t.Errorf("call %d: Decode answers %q, %d, %d", i, got, number, errno)
			}
			if got, writes, errno := mosaic.Repair(files[:4], 1+i, -1); !slices.Equal(got, files) || writes != 2 || errno != api.OK {
				t.Errorf("call %d: Repair answers %d files, %d, %d", i, len(got), writes, errno)
			}
			if got, stripe, errno := mosaic.Repair(files[:2], 1+i, 0); got != nil || stripe != 0 || errno != api.ErrTooFew {
				t.Errorf("call %d: Repair answers %d files, %d, %d", i, len(got), stripe, errno)
			}
			if got, errno := mosaic.Verify(files); !slices.EqualFunc(got, scans, sameScan) || errno != api.OK {
				t.Errorf("call %d: Verify answers %+v, %d", i, got, errno)
			}
		})
	}
	all.Wait()
}

// What is handed in has more files behind it, and is out of order, so that
// sorting it would be seen.
func TestP2DecodeWritesNothingHandedIn(t *testing.T) {
	files := encode(t, params(2, 5, 3), "some bytes to be split")
	for _, list := range [][]string{
		{files[4], files[3], files[2], files[1], files[0]},
		{files[4], "", files[3][:20], "x", files[0]},
		{files[4], files[4], "", files[4], "y"},
	} {
		for end := range len(list) {
			before := slices.Clone(list)
			mosaic.Decode(list[:end], 3)
			if !slices.Equal(list, before) {
				t.Errorf("Decode of %d files has changed what was handed in", end)
			}
		}
	}
}

func TestP2StreamIsNewMemory(t *testing.T) {
	for _, p := range []api.Params{params(1, 1, 1), params(1, 2, 256), params(2, 3, 4)} {
		for _, length := range []int{1, 2, 100, 256, 257} {
			stream := noise(length, 3)
			files := encode(t, p, stream)
			got, _, _ := mosaic.Decode(files, 2)
			cut := slices.Clone(files)
			for i := range cut {
				cut[i] = cut[i][:len(cut[i])-1]
			}
			ahead, _, _ := mosaic.Decode(cut, 2)
			for _, file := range files {
				if sharesRoom(got, file) || sharesRoom(ahead, file) {
					t.Errorf("%+v, %d bytes: the stream shares room with a file", p, length)
				}
			}
		}
	}
}

func TestP2FilesAreNewMemory(t *testing.T) {
	for _, p := range []api.Params{params(1, 1, 1), params(1, 4, 256), params(3, 5, 4)} {
		for _, length := range []int{0, 1, 255, 256} {
			stream := noise(length, 4)
			first, second := encode(t, p, stream), encode(t, p, stream)
			for i, file := range first {
				if sharesRoom(file, stream) || sharesRoom(file, second[i]) || i > 0 && sharesRoom(file, first[i-1]) {
					t.Errorf("%+v, %d bytes: file %d shares room", p, length, i)
				}
			}
			first = first[:cap(first)]
			for i := range first {
				first[i] = "overwritten"
			}
			if third := encode(t, p, stream); !slices.Equal(second, filesOf(p, stream)) || !slices.Equal(third, second) {
				t.Errorf("%+v, %d bytes: the lists share room", p, length)
			}
		}
	}
}

// seedBytes has f begin with files, whole and cut otherwise, and behind each
// what is to be added.
func seedBytes(f *testing.F, behind ...any) {
	add := func(data string, size int, workers int) {
		f.Add(append([]any{[]byte(data), size, workers}, behind...)...)
	}
	for _, p := range []api.Params{params(1, 1, 1), params(2, 3, 2), params(3, 4, 5)} {
		for _, length := range []int{0, 1, 17} {
			files, _ := mosaic.Encode(p, 1, noise(length, 5))
			all := strings.Join(files, "")
			add(all, len(files[0]), 1)
			add(all[len(files[0])-3:], len(files[0]), 16)
			add(all, 18, 0)
		}
	}
}

// cutIntoFiles cuts bytes into files of one size.
func cutIntoFiles(data []byte, size int) []string {
	var files []string
	for part := range slices.Chunk(data, 1+max(0, size-1)%4096) {
		files = append(files, string(part))
	}
	return files
}

// Any bytes, cut into files, against the document.
func FuzzP1Decode(f *testing.F) {
	seedBytes(f)
	f.Fuzz(func(t *testing.T, data []byte, size int, workers int) {
		files := cutIntoFiles(data, size)
		want, stripe, errno := streamOf(files)
		if workers < 1 || workers > 16 {
			want, stripe, errno = "", 0, api.ErrParams
		}
		if got, number, told := mosaic.Decode(files, workers); got != want || number != stripe || told != errno {
			t.Fatalf("%q, %d, %d, want %q, %d, %d", got, number, told, want, stripe, errno)
		}
	})
}

// Any bytes, cut into files, to be told of and repaired, against the document.
func FuzzP1Repair(f *testing.F) {
	seedBytes(f, 0)
	seedBytes(f, 1)
	f.Fuzz(func(t *testing.T, data []byte, size int, workers int, fail int) {
		files := cutIntoFiles(data, size)
		want, number, errno := repairOf(files, fail)
		if workers < 1 || workers > 16 {
			want, number, errno = nil, 0, api.ErrParams
		}
		got, told, gave := mosaic.Repair(files, workers, fail)
		if !slices.Equal(got, want) || told != number || gave != errno || errno != api.OK && got != nil {
			t.Fatalf("%q, %d, %d, want %q, %d, %d", got, told, gave, want, number, errno)
		}
		if len(files) <= 32 {
			checkScans(t, files, scansOf(files))
		}
	})
}
