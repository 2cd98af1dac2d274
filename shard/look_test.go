package shard_test

import (
	"math/rand"
	"reflect"
	"slices"
	"strings"
	"sync"
	"testing"

	"mosaic/api"
	"mosaic/shard"
)

// countStripes counts by laying stripe behind stripe, not by dividing.
func countStripes(h api.Header) int {
	count := 0
	for laid := 0; laid < h.Length; laid += h.K * h.Block {
		count++
	}
	return count
}

// framesOf writes good frames, with blocks that hang on their numbers.
func framesOf(h api.Header) []string {
	frames := make([]string, countStripes(h))
	for i := range frames {
		frames[i] = frameOf(h.Index, i, noise(h.Block, int64(i)))
	}
	return frames
}

func wholeFile(h api.Header) string {
	return headOf(h) + strings.Join(framesOf(h), "")
}

// numbers are those from low to below end.
func numbers(low int, end int) []int {
	var list []int
	for i := low; i < end; i++ {
		list = append(list, i)
	}
	return list
}

// checkLook holds what Look tells against what is wanted; a list without
// elements may be nil.
func checkLook(t *testing.T, file string, want api.Scan) {
	t.Helper()
	got := shard.Look(file)
	if got.State != want.State || got.Header != want.Header || got.Behind != want.Behind || !slices.Equal(got.Bad, want.Bad) {
		t.Fatalf("Look(%q) = %+v, want %+v", file, got, want)
	}
}

func checkUnknown(t *testing.T, file string) {
	t.Helper()
	checkLook(t, file, api.Scan{State: api.Unknown})
}

func checkDamaged(t *testing.T, file string, h api.Header, behind int, bad ...int) {
	t.Helper()
	checkLook(t, file, api.Scan{State: api.Damaged, Header: h, Behind: behind, Bad: bad})
}

func checkWhole(t *testing.T, file string, h api.Header) {
	t.Helper()
	checkLook(t, file, api.Scan{State: api.Whole, Header: h})
}

// changed answers s with the byte at a place XORed.
func changed(s string, at int, by byte) string {
	list := []byte(s)
	list[at] ^= by
	return string(list)
}

func TestP9NoBytes(t *testing.T) {
	checkLook(t, "", api.Scan{State: api.Missing})
}

func TestP9FewerBytesThanAHeader(t *testing.T) {
	for _, h := range []api.Header{header(2, 3, 4, 1, 5), header(1, 1, 1, 0, 0)} {
		for size := 1; size < 18; size++ {
			checkUnknown(t, headOf(h)[:size])
			checkUnknown(t, noise(size, 1))
			checkUnknown(t, strings.Repeat("\x00", size))
		}
	}
}

// A good header somewhere else does not make a file known.
func TestP9HeaderThatStandsElsewhere(t *testing.T) {
	h := header(2, 3, 4, 1, 5)
	file := wholeFile(h)
	checkUnknown(t, "\x00"+file)
	checkUnknown(t, file[1:])
	checkUnknown(t, file[18:]+file[:18])
	checkUnknown(t, noise(500, 2))
}

func TestP9HeaderOfWhichOneByteIsChanged(t *testing.T) {
	file := wholeFile(header(2, 3, 4, 1, 17))
	for at := range 18 {
		for by := 1; by < 256; by++ {
			checkUnknown(t, changed(file, at, byte(by)))
			checkUnknown(t, changed(file[:18], at, byte(by)))
		}
	}
}

// The sum is right, but the header is none that Head gives.
func TestP9HeaderThatMayNotBe(t *testing.T) {
	for _, h := range []api.Header{
		header(0, 3, 4, 1, 5), header(4, 3, 4, 1, 5), header(255, 3, 4, 1, 5), header(0, 0, 4, 0, 5),
		header(2, 33, 4, 1, 5), header(2, 255, 4, 1, 5), header(33, 33, 4, 1, 5),
		header(2, 3, 4, 3, 5), header(2, 3, 4, 255, 5), header(2, 32, 4, 32, 5),
		header(2, 3, 0, 1, 5), header(2, 3, 257, 1, 5), header(2, 3, 65535, 1, 5),
		header(2, 3, 4, 1, 16385), header(2, 3, 4, 1, 1<<31), header(2, 3, 4, 1, 1<<32-1),
	} {
		checkUnknown(t, headOf(h))
		checkUnknown(t, headOf(h)+noise(1000, 3))
	}
	good := headOf(header(2, 3, 4, 1, 5))[:14]
	for at := range 14 {
		if at >= 4 && at != 7 {
			continue
		}
		for by := 1; by < 256; by++ {
			s := changed(good, at, byte(by))
			checkUnknown(t, withSum(s, s))
		}
	}
}

// Each parameter at its bounds: those that may be are known.
func TestP9HeadersAtTheirBounds(t *testing.T) {
	for _, h := range []api.Header{
		header(1, 1, 1, 0, 0), header(1, 1, 1, 0, 1), header(32, 32, 256, 31, 16384), header(1, 32, 256, 31, 16384),
		header(32, 32, 256, 0, 8192), header(32, 32, 256, 0, 8193), header(1, 2, 1, 1, 16384), header(31, 32, 1, 31, 16383),
	} {
		checkWhole(t, wholeFile(h), h)
	}
}

func TestP9WholeFilesAtManyLengths(t *testing.T) {
	for k := 1; k <= 4; k++ {
		for block := 1; block <= 9; block++ {
			for length := range 80 {
				h := header(k, 5, block, length%5, length)
				file, count := wholeFile(h), countStripes(h)
				checkWhole(t, file, h)
				checkDamaged(t, file+frameOf(h.Index, count, noise(block, 4)), h, block+8)
				if count > 0 {
					checkDamaged(t, file[:len(file)-block-8], h, 0, count-1)
				}
			}
		}
	}
}

func TestP9StreamOfNoStripes(t *testing.T) {
	for _, h := range []api.Header{header(1, 1, 1, 0, 0), header(2, 3, 4, 1, 0), header(32, 32, 256, 31, 0)} {
		head := headOf(h)
		checkWhole(t, head, h)
		checkDamaged(t, head+"x", h, 1)
		checkDamaged(t, head+frameOf(h.Index, 0, noise(h.Block, 5)), h, h.Block+8)
	}
}

func TestP9FileThatIsCutOff(t *testing.T) {
	for _, h := range []api.Header{header(2, 3, 4, 1, 33), header(1, 2, 1, 1, 7), header(3, 3, 256, 2, 3000)} {
		file, count := wholeFile(h), countStripes(h)
		for size := 18; size < len(file); size++ {
			checkDamaged(t, file[:size], h, 0, numbers((size-18)/(h.Block+8), count)...)
		}
		checkWhole(t, file, h)
	}
}

// The most stripes that there can be, and none of them there.
func TestP9MostFramesMissing(t *testing.T) {
	h := header(1, 32, 1, 31, 16384)
	checkDamaged(t, headOf(h), h, 0, numbers(0, 16384)...)
	checkDamaged(t, headOf(h)+"\x00\x00\x00\x00", h, 0, numbers(0, 16384)...)
}

func TestP9FrameOfWhichOneByteIsChanged(t *testing.T) {
	h := header(2, 3, 4, 1, 25)
	file := wholeFile(h)
	for at := 18; at < len(file); at++ {
		for by := 1; by < 256; by++ {
			checkDamaged(t, changed(file, at, byte(by)), h, 0, (at-18)/12)
		}
	}
}

// The frame is whole, but of another number.
func TestP9FrameThatBearsAnotherNumber(t *testing.T) {
	h := header(2, 3, 4, 1, 32)
	for at := range 4 {
		for number := range 300 {
			frames := framesOf(h)
			frames[at] = frameOf(h.Index, number, "abcd")
			file := headOf(h) + strings.Join(frames, "")
			if number == at {
				checkWhole(t, file, h)
			} else {
				checkDamaged(t, file, h, 0, at)
			}
		}
	}
	frames := framesOf(h)
	slices.Reverse(frames)
	checkDamaged(t, headOf(h)+strings.Join(frames, ""), h, 0, 0, 1, 2, 3)
}

// The frame is whole, but of another file.
func TestP9FrameThatBearsAnotherIndex(t *testing.T) {
	h := header(2, 32, 4, 9, 24)
	for at := range 3 {
		for index := range 32 {
			frames := framesOf(h)
			frames[at] = frameOf(index, at, "abcd")
			file := headOf(h) + strings.Join(frames, "")
			if index == h.Index {
				checkWhole(t, file, h)
			} else {
				checkDamaged(t, file, h, 0, at)
			}
		}
	}
}

// Any block will do, so long as the sum is its own.
func TestP9FrameOfAnotherBlock(t *testing.T) {
	h := header(2, 3, 4, 1, 16)
	frames := framesOf(h)
	checkWhole(t, headOf(h)+frameOf(1, 0, "\x00\x00\x00\x00")+frames[1], h)
	checkWhole(t, headOf(h)+frames[0]+frameOf(1, 1, "\xff\xff\xff\xff"), h)
	// A good frame of a block of another length stands in no place of its own.
	checkDamaged(t, headOf(h)+frameOf(1, 0, "abc")+frames[1], h, 0, 0, 1)
	checkDamaged(t, headOf(h)+frameOf(1, 0, "abcde")+frames[1], h, 1, 0, 1)
}

func TestP9BytesInsertedAndTakenOut(t *testing.T) {
	h := header(2, 3, 4, 1, 24)
	f := framesOf(h)
	checkDamaged(t, headOf(h)+f[0]+"x"+f[1]+f[2], h, 1, 1, 2)
	checkDamaged(t, headOf(h)+f[0]+f[1][1:]+f[2], h, 0, 1, 2)
	checkDamaged(t, headOf(h)+f[1]+f[2], h, 0, 0, 1, 2)
	checkDamaged(t, headOf(h)+f[0]+f[2], h, 0, 1, 2)
	checkDamaged(t, headOf(h)+f[0]+f[0]+f[1]+f[2], h, 12, 1, 2)
}

func TestP9BytesBehindAWholeFile(t *testing.T) {
	h := header(2, 3, 4, 1, 24)
	for _, behind := range []int{1, 2, 11, 12, 13, 24, 1000, 100000} {
		checkDamaged(t, wholeFile(h)+noise(behind, 6), h, behind)
	}
	checkDamaged(t, wholeFile(h)+wholeFile(h), h, 54)
	// Damage and bytes behind, both are told.
	checkDamaged(t, changed(wholeFile(h), 31, 1)+"xyz", h, 3, 1)
}

// Frames damaged in all ways at once, each told apart from the others.
func TestP9AllSetsOfBadFrames(t *testing.T) {
	h := header(1, 4, 3, 2, 24)
	for set := range 1 << 8 {
		frames := framesOf(h)
		var bad []int
		for i := range frames {
			if set>>i&1 == 1 {
				frames[i] = changed(frames[i], (i*5+set)%11, 0x40)
				bad = append(bad, i)
			}
		}
		file := headOf(h) + strings.Join(frames, "")
		if set == 0 {
			checkWhole(t, file, h)
		} else {
			checkDamaged(t, file, h, 0, bad...)
		}
	}
}

// What Head and Frame write is what Look reads.
func TestP9ReadsWhatIsWritten(t *testing.T) {
	h := header(3, 8, 5, 7, 100)
	file, errno := shard.Head(h)
	if errno != api.OK {
		t.Fatal(errno)
	}
	for i := range 7 {
		frame, errno := shard.Frame(7, i, noise(5, int64(i)))
		if errno != api.OK {
			t.Fatal(errno)
		}
		file += frame
	}
	checkWhole(t, file, h)
}

// Any bytes behind a good header, and any at all: Look answers, and tells no
// more than the file has.
func TestP1LookOfAnyBytes(t *testing.T) {
	r := rand.New(rand.NewSource(7))
	for i := range 3000 {
		bytes := noise(r.Intn(300), int64(i))
		checkLook(t, "x"+bytes, api.Scan{State: api.Unknown})
		n := 1 + r.Intn(32)
		h := header(1+r.Intn(n), n, 1+r.Intn(256), r.Intn(n), r.Intn(16385))
		count := countStripes(h)
		want := api.Scan{State: api.Damaged, Header: h, Bad: numbers(0, count)}
		want.Behind = max(0, len(bytes)-count*(h.Block+8))
		if count == 0 && bytes == "" {
			want.State = api.Whole
		}
		checkLook(t, headOf(h)+bytes, want)
	}
}

func FuzzP1Look(f *testing.F) {
	h := header(2, 3, 4, 1, 17)
	f.Add(wholeFile(h))
	f.Add(wholeFile(h)[:40])
	f.Add("")
	f.Add(wholeFile(h) + "xy")
	f.Fuzz(func(t *testing.T, file string) {
		got := shard.Look(file)
		switch got.State {
		case api.Missing, api.Unknown:
			if !reflect.DeepEqual(got.Header, api.Header{}) || len(got.Bad) != 0 || got.Behind != 0 {
				t.Fatalf("Look(%q) = %+v", file, got)
			}
		case api.Whole, api.Damaged:
			if !strings.HasPrefix(file, headOf(got.Header)) || (got.State == api.Whole) != (len(got.Bad) == 0 && got.Behind == 0) {
				t.Fatalf("Look(%q) = %+v", file, got)
			}
		default:
			t.Fatalf("Look(%q) = %+v", file, got)
		}
	})
}

func TestP2BadIsNewMemory(t *testing.T) {
	h := header(1, 2, 1, 1, 9)
	file := headOf(h)
	first, second := shard.Look(file), shard.Look(file)
	room := first.Bad[:cap(first.Bad)]
	for i := range room {
		room[i] = -1
	}
	if !slices.Equal(second.Bad, numbers(0, 9)) {
		t.Errorf("two answers share room: %v", second.Bad)
	}
	checkDamaged(t, file, h, 0, numbers(0, 9)...)
}

// Calls that run beside each other give what each gives alone.
func TestP1AnswerHangsOnArgumentsAlone(t *testing.T) {
	h := header(2, 3, 4, 1, 50)
	file := changed(wholeFile(h), 50, 1)[:80]
	want := shard.Look(file)
	answers := make([]api.Scan, 8)
	var all sync.WaitGroup
	for i := range answers {
		all.Go(func() {
			shard.Look(file[:i*9])
			answers[i] = shard.Look(file)
		})
	}
	all.Wait()
	for i, got := range answers {
		if !reflect.DeepEqual(got, want) {
			t.Errorf("call %d: %+v, want %+v", i, got, want)
		}
	}
}
