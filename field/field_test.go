package field_test

import (
	"bytes"
	"sync"
	"testing"

	"mosaic/api"
	"mosaic/field"
)

// product multiplies by the document's definition: as polynomials, and then
// what is left of the division by x^8 + x^4 + x^3 + x^2 + 1.
func product(a byte, b byte) byte {
	polynomial := 0
	for i := range 8 {
		if b>>i&1 == 1 {
			polynomial ^= int(a) << i
		}
	}
	for degree := 14; degree >= 8; degree-- {
		if polynomial>>degree&1 == 1 {
			polynomial ^= 0b1_0001_1101 << (degree - 8)
		}
	}
	return byte(polynomial)
}

// pattern answers n bytes that differ from their neighbours, some of them with
// the highest bit set.
func pattern(n int, seed int) []byte {
	list := make([]byte, n)
	for i := range list {
		list[i] = byte((i+seed)*151 + i*i*7 + seed)
	}
	return list
}

// overwrite fills a list and its spare room.
func overwrite(list []byte) {
	list = list[:cap(list)]
	for i := range list {
		list[i] ^= 0xff
	}
}

func TestP3Examples(t *testing.T) {
	for _, c := range []struct{ a, b, want byte }{
		{2, 128, 29}, {3, 7, 9}, {0, 0, 0}, {0, 255, 0}, {255, 0, 0}, {1, 255, 255}, {255, 1, 255},
	} {
		if got := field.Mul(c.a, c.b); got != c.want {
			t.Errorf("Mul(%d, %d) = %d, want %d", c.a, c.b, got, c.want)
		}
	}
	for _, c := range []struct{ a, b, want byte }{
		{1, 2, 142}, {9, 7, 3}, {1, 3, 244}, {0, 255, 0}, {255, 255, 1}, {255, 1, 255},
	} {
		if got, errno := field.Div(c.a, c.b); got != c.want || errno != api.OK {
			t.Errorf("Div(%d, %d) = %d, %d, want %d", c.a, c.b, got, errno, c.want)
		}
	}
}

func TestP3MulOfAllPairs(t *testing.T) {
	for a := range 256 {
		for b := range 256 {
			if got, want := field.Mul(byte(a), byte(b)), product(byte(a), byte(b)); got != want {
				t.Fatalf("Mul(%d, %d) = %d, want %d", a, b, got, want)
			}
		}
	}
}

func TestP3DivOfAllPairs(t *testing.T) {
	for a := range 256 {
		for b := 1; b < 256; b++ {
			got, errno := field.Div(byte(a), byte(b))
			if errno != api.OK || product(got, byte(b)) != byte(a) {
				t.Fatalf("Div(%d, %d) = %d, %d", a, b, got, errno)
			}
		}
	}
}

func TestP3DivByZero(t *testing.T) {
	for a := range 256 {
		if got, errno := field.Div(byte(a), 0); got != 0 || errno != api.ErrParams {
			t.Errorf("Div(%d, 0) = %d, %d, want 0, ErrParams", a, got, errno)
		}
	}
}

func TestP4Example(t *testing.T) {
	got, errno := field.MulAdd([]byte{1, 2}, []byte{3, 4}, 2)
	if !bytes.Equal(got, []byte{7, 10}) || errno != api.OK {
		t.Errorf("MulAdd = %v, %d, want 7 10", got, errno)
	}
}

// The lengths take in those that are no multiple of eight, and of less than
// eight bytes; each is held against the definition at every factor.
func TestP4AllFactorsAtManyLengths(t *testing.T) {
	lengths := []int{255, 256, 257, 1000}
	for n := range 42 {
		lengths = append(lengths, n)
	}
	for _, n := range lengths {
		dst, src := pattern(n, 3), pattern(n, 100)
		for c := range 256 {
			got, errno := field.MulAdd(dst, src, byte(c))
			if errno != api.OK || len(got) != n {
				t.Fatalf("MulAdd of %d bytes, %d: %d bytes, %d", n, c, len(got), errno)
			}
			for i := range n {
				if want := dst[i] ^ product(src[i], byte(c)); got[i] != want {
					t.Fatalf("MulAdd of %d bytes, %d: byte %d is %d, want %d", n, c, i, got[i], want)
				}
			}
		}
	}
}

// A byte must not spill into those beside it, wherever it stands in its word.
func TestP4ByteLeavesItsNeighboursAlone(t *testing.T) {
	const n = 21
	dst := pattern(n, 9)
	for at := range n {
		for value := range 256 {
			src := make([]byte, n)
			src[at] = byte(value)
			want := bytes.Clone(dst)
			want[at] ^= product(byte(value), 0xb5)
			if got, _ := field.MulAdd(dst, src, 0xb5); !bytes.Equal(got, want) {
				t.Fatalf("byte %d of src is %d: %v, want %v", at, value, got, want)
			}
		}
	}
}

func TestP4LengthsThatDiffer(t *testing.T) {
	for _, c := range [][2]int{
		{0, 1}, {1, 0}, {7, 8}, {8, 7}, {8, 9}, {9, 10}, {10, 9}, {8, 16}, {16, 8}, {0, 100000}, {100000, 3},
	} {
		for _, factor := range []byte{0, 1, 2, 255} {
			got, errno := field.MulAdd(pattern(c[0], 1), pattern(c[1], 2), factor)
			if got != nil || errno != api.ErrLarge {
				t.Errorf("MulAdd of %d and %d bytes: %v, %d, want nil, ErrLarge", c[0], c[1], got, errno)
			}
		}
	}
	if got, errno := field.MulAdd(nil, []byte{1}, 1); got != nil || errno != api.ErrLarge {
		t.Errorf("MulAdd of nil and a byte: %v, %d", got, errno)
	}
	// Spare room is no part of a list.
	if got, errno := field.MulAdd(make([]byte, 4, 8), make([]byte, 8), 1); got != nil || errno != api.ErrLarge {
		t.Errorf("MulAdd of 4 bytes with room for 8, and 8: %v, %d", got, errno)
	}
}

func TestP4NoBytes(t *testing.T) {
	for _, lists := range [][2][]byte{{nil, nil}, {nil, {}}, {{}, nil}, {{}, {}}} {
		if got, errno := field.MulAdd(lists[0], lists[1], 7); len(got) != 0 || errno != api.OK {
			t.Errorf("MulAdd of no bytes: %v, %d", got, errno)
		}
	}
}

func TestP2MulAddWritesNothingHandedIn(t *testing.T) {
	for n := range 34 {
		roomOfDst, roomOfSrc := pattern(n+19, 5), pattern(n+19, 6)
		wantDst, wantSrc := bytes.Clone(roomOfDst), bytes.Clone(roomOfSrc)
		for _, c := range []byte{0, 1, 2, 0x8e, 255} {
			got, errno := field.MulAdd(roomOfDst[3:3+n], roomOfSrc[3:3+n], c)
			if errno != api.OK {
				t.Fatalf("MulAdd of %d bytes: %d", n, errno)
			}
			again, _ := field.MulAdd(roomOfDst[3:3+n], roomOfSrc[3:3+n], c)
			kept := bytes.Clone(again)
			overwrite(got)
			if !bytes.Equal(roomOfDst, wantDst) || !bytes.Equal(roomOfSrc, wantSrc) {
				t.Fatalf("MulAdd of %d bytes, %d: what was handed in is changed", n, c)
			}
			if !bytes.Equal(again, kept) {
				t.Fatalf("MulAdd of %d bytes, %d: two answers share room", n, c)
			}
		}
	}
}

func TestP2MulAddOfListsThatShareRoom(t *testing.T) {
	room := pattern(40, 1)
	for _, shift := range []int{0, 1, 7, 8, 15} {
		before := bytes.Clone(room)
		dst, src := room[shift:shift+25], room[:25]
		got, errno := field.MulAdd(dst, src, 29)
		if errno != api.OK || !bytes.Equal(room, before) {
			t.Fatalf("MulAdd of lists %d bytes apart: %d, or written into", shift, errno)
		}
		for i := range got {
			if want := before[shift+i] ^ product(before[i], 29); got[i] != want {
				t.Fatalf("lists %d bytes apart: byte %d is %d, want %d", shift, i, got[i], want)
			}
		}
	}
}

// Calls that run beside each other give what each gives alone.
func TestP1AnswerHangsOnArgumentsAlone(t *testing.T) {
	dst, src := pattern(203, 1), pattern(203, 2)
	want, _ := field.MulAdd(dst, src, 77)
	answers := make([][]byte, 8)
	var all sync.WaitGroup
	for i := range answers {
		all.Go(func() {
			field.MulAdd(src, dst, byte(i))
			answers[i], _ = field.MulAdd(dst, src, 77)
		})
	}
	all.Wait()
	for i, got := range answers {
		if !bytes.Equal(got, want) {
			t.Errorf("call %d: %v, want %v", i, got, want)
		}
	}
}
