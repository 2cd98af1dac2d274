package field

import "testing"

// All eight bytes of a word are multiplied at once, each as if alone.
func TestMulWordIsEightProducts(t *testing.T) {
	for _, word := range []uint64{0, 1, 0x0123456789abcdef, 0x8080808080808080, 0xff00ff00ff00ff00, 0xffffffffffffffff} {
		for c := range 256 {
			got := mulWord(word, byte(c))
			for i := range 8 {
				if want := Mul(byte(word>>(8*i)), byte(c)); byte(got>>(8*i)) != want {
					t.Fatalf("mulWord(%#x, %d) = %#x: byte %d is not %d", word, c, got, i, want)
				}
			}
		}
	}
}

func TestLoadAndStoreOfPartsOfAWord(t *testing.T) {
	for n := range 12 {
		part, copied := make([]byte, n), make([]byte, n)
		for i := range part {
			part[i] = byte(0xf1 + i)
		}
		store(copied, load(part))
		for i := range part {
			if want := part[i]; i < wordBytes && copied[i] != want || i >= wordBytes && copied[i] != 0 {
				t.Fatalf("of %d bytes byte %d comes back as %d, not %d", n, i, copied[i], want)
			}
		}
	}
}
