package shard_test

import (
	"encoding/binary"
	"hash/crc32"
	"math"
	"math/rand"
	"strings"
	"testing"

	"mosaic/api"
	"mosaic/shard"
)

// sumOf is the check sum as the library has it.
func sumOf(s string) uint32 {
	return crc32.Checksum([]byte(s), crc32.MakeTable(crc32.Castagnoli))
}

// withSum answers s with the sum of summed behind it.
func withSum(s string, summed string) string {
	return string(binary.BigEndian.AppendUint32([]byte(s), sumOf(summed)))
}

// headOf writes a header by the document, also one that may not be.
func headOf(h api.Header) string {
	list := []byte{'M', 'O', 'S', 'C', byte(h.K), byte(h.N), byte(h.Index), 0}
	list = binary.BigEndian.AppendUint16(list, uint16(h.Block))
	list = binary.BigEndian.AppendUint32(list, uint32(h.Length))
	return withSum(string(list), string(list))
}

// frameOf writes a frame by the document.
func frameOf(index int, number int, block string) string {
	frame := string(binary.BigEndian.AppendUint32(nil, uint32(number))) + block
	return withSum(frame, string([]byte{byte(index)})+frame)
}

func header(k int, n int, block int, index int, length int) api.Header {
	return api.Header{Params: api.Params{K: k, N: n, Block: block}, Index: index, Length: length}
}

// noise answers n bytes that hang on seed.
func noise(n int, seed int64) string {
	list := make([]byte, n)
	rand.New(rand.NewSource(seed)).Read(list)
	return string(list)
}

// edges are the numbers around some bounds, and far ones; among these such
// whose low bytes may be.
func edges(bounds ...int) []int {
	list := []int{math.MinInt, math.MinInt + 1, -1 << 32, -256, 257, 1 << 16, 1<<16 + 1, 1 << 32, 1<<32 + 1, math.MaxInt - 1, math.MaxInt}
	for _, bound := range bounds {
		list = append(list, bound-1, bound, bound+1)
	}
	return list
}

func within(number int, low int, high int) bool {
	return low <= number && number <= high
}

func TestP7Examples(t *testing.T) {
	for _, c := range []struct {
		s    string
		want uint32
	}{
		{"123456789", 0xE3069283},
		{"", 0},
		{"\x00", 0x527D5351},
		{"\xff", 0xFF000000},
		{strings.Repeat("\x00", 32), 0x8A9136AA},
		{strings.Repeat("\xff", 32), 0x62A8AB43},
	} {
		if got := shard.Sum(c.s); got != c.want {
			t.Errorf("Sum(%q) = %#x, want %#x", c.s, got, c.want)
		}
	}
}

// stepByStep is the sum by the document's words.
func stepByStep(s string) uint32 {
	word := uint32(0xffffffff)
	for _, b := range []byte(s) {
		word ^= uint32(b)
		for range 8 {
			set := word&1 == 1
			word >>= 1
			if set {
				word ^= 0x82F63B78
			}
		}
	}
	return word ^ 0xffffffff
}

func TestP7AllBytesAndManyLengths(t *testing.T) {
	var texts []string
	for a := range 256 {
		texts = append(texts, string([]byte{byte(a)}), string([]byte{byte(a), 0}), string([]byte{7, byte(a)}))
	}
	for n := range 300 {
		texts = append(texts, noise(n, int64(n)))
	}
	texts = append(texts, noise(100000, 1), "Köln, \u20ac and \xff\xfe\x80: bytes, not letters")
	for _, s := range texts {
		if got := shard.Sum(s); got != sumOf(s) || got != stepByStep(s) {
			t.Fatalf("Sum of %d bytes = %#x, want %#x", len(s), got, sumOf(s))
		}
	}
}

func TestP8HeadExamples(t *testing.T) {
	for _, c := range []struct {
		h    api.Header
		want string
	}{
		{header(2, 3, 4, 1, 5), "MOSC\x02\x03\x01\x00\x00\x04\x00\x00\x00\x05"},
		{header(1, 1, 1, 0, 0), "MOSC\x01\x01\x00\x00\x00\x01\x00\x00\x00\x00"},
		{header(32, 32, 256, 31, 16384), "MOSC\x20\x20\x1f\x00\x01\x00\x00\x00\x40\x00"},
		{header(3, 9, 255, 8, 0x1234), "MOSC\x03\x09\x08\x00\x00\xff\x00\x00\x12\x34"},
	} {
		want := withSum(c.want, c.want)
		if got, errno := shard.Head(c.h); got != want || errno != api.OK {
			t.Errorf("Head(%v) = %q, %d, want %q", c.h, got, errno, want)
		}
	}
}

// checkHead holds a header against the document, if it may be or not.
func checkHead(t *testing.T, h api.Header) {
	t.Helper()
	want, wantErrno := "", api.ErrParams
	if within(h.N, 1, 32) && within(h.K, 1, h.N) && within(h.Block, 1, 256) && within(h.Index, 0, h.N-1) && within(h.Length, 0, 16384) {
		want, wantErrno = headOf(h), api.OK
	}
	if got, errno := shard.Head(h); got != want || errno != wantErrno {
		t.Fatalf("Head(%v) = %q, %d, want %q, %d", h, got, errno, want, wantErrno)
	}
}

// Each number at its bounds and far out, while the others may be.
func TestP8HeadAtEachBound(t *testing.T) {
	for _, x := range edges(0, 1, 3, 7, 32, 256, 16384) {
		checkHead(t, header(x, 7, 4, 1, 5))
		checkHead(t, header(x, 32, 4, 1, 5))
		checkHead(t, header(3, x, 4, 1, 5))
		checkHead(t, header(1, x, 4, 0, 5))
		checkHead(t, header(3, 7, x, 1, 5))
		checkHead(t, header(3, 7, 4, x, 5))
		checkHead(t, header(3, 32, 4, x, 5))
		checkHead(t, header(3, 7, 4, 1, x))
		checkHead(t, header(x, x, 4, 0, 5))
		checkHead(t, header(x, x, x, x, x))
	}
}

func TestP8HeadOfAllParameters(t *testing.T) {
	for k := -1; k <= 34; k++ {
		for n := -1; n <= 34; n++ {
			for index := -1; index <= 33; index++ {
				checkHead(t, header(k, n, 1+(k*n+300)%256, index, (k+2)*(n+2)*12))
			}
		}
	}
	for block := range 258 {
		checkHead(t, header(2, 5, block, 4, block*60))
	}
	for length := -2; length <= 16386; length++ {
		checkHead(t, header(2, 5, 16, 3, length))
	}
}

func TestP8FrameExamples(t *testing.T) {
	for _, c := range []struct {
		index, number int
		block         string
		body, summed  string
	}{
		{1, 0, "abcd", "\x00\x00\x00\x00abcd", "\x01\x00\x00\x00\x00abcd"},
		{31, 16384, "x", "\x00\x00\x40\x00x", "\x1f\x00\x00\x40\x00x"},
		{0, 258, "\x00\xff", "\x00\x00\x01\x02\x00\xff", "\x00\x00\x00\x01\x02\x00\xff"},
	} {
		want := withSum(c.body, c.summed)
		if got, errno := shard.Frame(c.index, c.number, c.block); got != want || errno != api.OK {
			t.Errorf("Frame(%d, %d, %q) = %q, %d, want %q", c.index, c.number, c.block, got, errno, want)
		}
	}
}

// checkFrame holds a frame against the document, if it may be or not.
func checkFrame(t *testing.T, index int, number int, block string) {
	t.Helper()
	want, wantErrno := "", api.ErrParams
	if within(index, 0, 31) && within(number, 0, 16384) && within(len(block), 1, 256) {
		want, wantErrno = frameOf(index, number, block), api.OK
	}
	if got, errno := shard.Frame(index, number, block); got != want || errno != wantErrno {
		t.Fatalf("Frame(%d, %d, %d bytes) = %q, %d, want %q, %d", index, number, len(block), got, errno, want, wantErrno)
	}
}

func TestP8FrameAtEachBound(t *testing.T) {
	for _, x := range edges(0, 32, 256, 16384) {
		checkFrame(t, x, 3, "block")
		checkFrame(t, 3, x, "block")
		checkFrame(t, x, x, "block")
		checkFrame(t, x, x, "")
	}
	for size := range 300 {
		checkFrame(t, 5, 70, noise(size, 1))
	}
	for _, size := range []int{512, 1 << 16, 1<<16 + 1, 1 << 20} {
		checkFrame(t, 5, 70, noise(size, 1))
	}
}

func TestP8FrameOfAllIndexesAndNumbers(t *testing.T) {
	for index := -1; index <= 33; index++ {
		for number := -1; number <= 16386; number += 163 {
			checkFrame(t, index, number, noise(9, int64(number)))
		}
	}
	for number := -2; number <= 16386; number++ {
		checkFrame(t, 17, number, "ab")
	}
}
