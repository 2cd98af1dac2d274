package mosaic_test

import (
	"math/rand"
	"slices"
	"strings"
	"testing"

	"mosaic/api"
	"mosaic/mosaic"
)

// checkAnswer holds what Decode answers against what is wanted, for a few
// numbers of workers.
func checkAnswer(t *testing.T, want string, stripe int, errno api.Errno, files ...string) {
	t.Helper()
	for _, workers := range []int{1, 2, 16} {
		stream, number, told := mosaic.Decode(files, workers)
		if stream != want || number != stripe || told != errno {
			t.Fatalf("Decode of %d files, %d workers = %q, %d, %d, want %q, %d, %d", len(files), workers, stream, number, told, want, stripe, errno)
		}
	}
}

func checkStream(t *testing.T, want string, files ...string) {
	t.Helper()
	checkAnswer(t, want, 0, api.OK, files...)
}

func checkTooFew(t *testing.T, want string, stripe int, files ...string) {
	t.Helper()
	checkAnswer(t, want, stripe, api.ErrTooFew, files...)
}

func checkError(t *testing.T, errno api.Errno, files ...string) {
	t.Helper()
	checkAnswer(t, "", 0, errno, files...)
}

// changed answers s with the byte at a place XORed.
func changed(s string, at int, by byte) string {
	list := []byte(s)
	list[at] ^= by
	return string(list)
}

// spoiled answers a file with a frame that is not good any more.
func spoiled(file string, p api.Params, number int) string {
	return changed(file, 18+number*(p.Block+8)+4, 0x55)
}

// choice answers the elements of a list whose bit is set.
func choice(list []string, bits int) []string {
	var chosen []string
	for i, element := range list {
		if bits>>i&1 == 1 {
			chosen = append(chosen, element)
		}
	}
	return chosen
}

// shuffled answers a list in another order.
func shuffled(r *rand.Rand, list []string) []string {
	list = slices.Clone(list)
	r.Shuffle(len(list), func(i int, j int) { list[i], list[j] = list[j], list[i] })
	return list
}

func TestP11Examples(t *testing.T) {
	files := encode(t, params(2, 3, 2), "abcde")
	checkStream(t, "abcde", files...)
	checkStream(t, "abcde", files[0], files[1])
	checkStream(t, "abcde", files[0], files[2])
	checkStream(t, "abcde", files[1], files[2])
	checkTooFew(t, "", 0, files[0])
	checkTooFew(t, "", 0, files[1])
	checkTooFew(t, "", 0, files[2])
	checkTooFew(t, "abcd", 1, files[2], files[0][:28])
	checkError(t, api.ErrNoHeader)
}

// Every choice of files, in another order: K of them will do, fewer will not.
func TestP11AnyKFiles(t *testing.T) {
	r := rand.New(rand.NewSource(1))
	for n := 1; n <= 7; n++ {
		for k := 1; k <= n; k++ {
			stream := noise(5*k*3+1, int64(n))
			files := encode(t, params(k, n, 3), stream)
			for bits := 1; bits < 1<<n; bits++ {
				chosen := shuffled(r, choice(files, bits))
				if len(chosen) >= k {
					checkStream(t, stream, chosen...)
				} else {
					checkTooFew(t, "", 0, chosen...)
				}
			}
		}
	}
}

// Each bound of K, N and Block, and streams around the ends of stripes.
func TestP11Bounds(t *testing.T) {
	r := rand.New(rand.NewSource(2))
	for _, p := range []api.Params{
		params(1, 1, 1), params(1, 1, 256), params(1, 32, 1), params(1, 32, 256), params(16, 32, 9),
		params(31, 32, 1), params(31, 32, 256), params(32, 32, 1), params(32, 32, 256),
	} {
		size := p.K * p.Block
		for _, length := range []int{0, 1, size - 1, size, size + 1, 2 * size, api.MaxLength - 1, api.MaxLength} {
			if length > api.MaxLength {
				continue
			}
			stream := noise(length, int64(length))
			files := shuffled(r, encode(t, p, stream))
			stripes := (length + size - 1) / size
			for _, workers := range []int{1, 16} {
				if got, number, errno := mosaic.Decode(files[:p.K], workers); got != stream || number != 0 || errno != api.OK {
					t.Fatalf("%+v, %d bytes, %d workers: %d bytes, %d, %d", p, length, workers, len(got), number, errno)
				}
			}
			if p.K > 1 && stripes > 0 {
				checkTooFew(t, "", 0, files[:p.K-1]...)
			}
		}
	}
}

// Of no bytes there is no stripe that could have too few frames.
func TestP11StreamWithoutBytes(t *testing.T) {
	for _, p := range []api.Params{params(1, 1, 1), params(2, 3, 2), params(32, 32, 256)} {
		files := encode(t, p, "")
		checkStream(t, "", files...)
		checkStream(t, "", files[p.N-1])
		checkStream(t, "", files[0]+"and more")
	}
}

func TestP11Workers(t *testing.T) {
	files := encode(t, params(2, 3, 2), "abcde")
	for _, workers := range edges(1, 16) {
		want, errno := "abcde", api.OK
		if workers < 1 || workers > 16 {
			want, errno = "", api.ErrParams
		}
		if got, number, told := mosaic.Decode(files, workers); got != want || number != 0 || told != errno {
			t.Errorf("%d workers: %q, %d, %d", workers, got, number, told)
		}
	}
}

func TestP11HowManyFiles(t *testing.T) {
	checkError(t, api.ErrNoHeader)
	checkError(t, api.ErrNoHeader, "")
	checkError(t, api.ErrNoHeader, make([]string, 32)...)
	checkError(t, api.ErrLarge, make([]string, 33)...)
	checkError(t, api.ErrLarge, make([]string, 1000)...)
	files := encode(t, params(3, 32, 2), "abcdefg")
	checkStream(t, "abcdefg", files...)
	checkError(t, api.ErrLarge, append(slices.Clone(files), "")...)
	checkError(t, api.ErrLarge, append(slices.Clone(files), files[0])...)
	checkStream(t, "abcdefg", append(make([]string, 29), files[:3]...)...)
	checkError(t, api.ErrLarge, append(make([]string, 30), files[:3]...)...)
}

func TestP1FirstErrorOfDecode(t *testing.T) {
	large := make([]string, 33)
	for _, workers := range []int{-1, 0, 17} {
		for _, files := range [][]string{nil, large, {"x"}, encode(t, params(2, 3, 2), "abcde")[:1]} {
			if got, number, errno := mosaic.Decode(files, workers); got != "" || number != 0 || errno != api.ErrParams {
				t.Errorf("%d workers, %d files: %q, %d, %d", workers, len(files), got, number, errno)
			}
		}
	}
	for i := range large {
		large[i] = encode(t, params(2, 3, 2), strings.Repeat("x", i))[0]
	}
	checkError(t, api.ErrLarge, large...)
	// Too few good frames, and files that disagree.
	checkError(t, api.ErrDisagree, large[5], large[6])
}

// What is Missing or Unknown counts neither as a file nor against others,
// wherever it stands.
func TestP11FilesThatAreLeftOut(t *testing.T) {
	files := encode(t, params(2, 3, 2), "abcde")
	other := encode(t, params(3, 4, 9), "another stream")
	left := []string{"", "x", "MOSC", files[0][:17], changed(files[1], 3, 1), changed(files[2], 17, 128), changed(other[0], 9, 2), noise(100, 1)}
	for _, out := range left {
		checkError(t, api.ErrNoHeader, out)
		checkStream(t, "abcde", out, files[2], files[1])
		checkStream(t, "abcde", files[2], out, files[1])
		checkStream(t, "abcde", files[2], files[1], out)
		checkTooFew(t, "", 0, out, files[2])
		checkTooFew(t, "abcd", 1, files[1], out, files[2][:37])
	}
	checkError(t, api.ErrNoHeader, left...)
	checkStream(t, "abcde", slices.Concat(left, files[1:], left)...)
}

func TestP11FilesThatDisagree(t *testing.T) {
	files := encode(t, params(2, 3, 2), "abcde")
	for _, others := range [][]string{
		encode(t, params(1, 3, 2), "abcde"), encode(t, params(3, 3, 2), "abcde"),
		encode(t, params(2, 2, 2), "abcde"), encode(t, params(2, 4, 2), "abcde"),
		encode(t, params(2, 3, 1), "abcde"), encode(t, params(2, 3, 3), "abcde"),
		encode(t, params(2, 3, 2), "abcd"), encode(t, params(2, 3, 2), "abcdef"), encode(t, params(2, 3, 2), ""),
	} {
		for _, other := range others {
			checkError(t, api.ErrDisagree, other, files[0], files[1], files[2])
			checkError(t, api.ErrDisagree, files[0], files[1], other)
			checkError(t, api.ErrDisagree, files[0], "", other, "x", files[2])
			// The header tells it, also where no frame is there or needed.
			checkError(t, api.ErrDisagree, files[0], files[1], other[:18])
			checkError(t, api.ErrDisagree, files[0], other)
		}
	}
}

// Two streams of one length, told apart by what is chosen.
func TestP11FirstFileOfAnIndexCounts(t *testing.T) {
	p := params(2, 3, 2)
	a, b := encode(t, p, "abcdefgh"), encode(t, p, "ABCDEFGH")
	checkStream(t, "abcdefgh", a[0], a[1], b[0], b[1])
	checkStream(t, "ABCDEFGH", b[0], a[0], b[1], a[1])
	checkStream(t, "ABcdEFgh", b[0], a[0], a[1], b[1])
	checkStream(t, "abCDefGH", a[0], b[1], a[1], b[0])
	checkStream(t, "abCDefGH", b[1], a[1], a[0], b[0])
	// Where its frame is not good, the next one of this Index counts, for this
	// stripe alone.
	checkStream(t, "ABcdefgh", spoiled(a[0], p, 0), a[1], b[0], b[1])
	checkStream(t, "abcdEFgh", spoiled(a[0], p, 1), a[1], b[0], b[1])
	checkStream(t, "abcdefGH", a[0], spoiled(a[1], p, 1), b[0], b[1])
	checkStream(t, "abcdEFgh", a[0][:30], b[0], a[1])
	checkStream(t, "ABcdefgh", spoiled(a[0], p, 0), spoiled(b[0], p, 1), a[1], b[0])
	checkStream(t, "abcdefgh", spoiled(a[0], p, 0), spoiled(a[0], p, 1), a[1])
	// Twice the same Index is no second frame.
	checkTooFew(t, "", 0, a[0], a[0])
	checkTooFew(t, "", 0, a[0], b[0])
	checkTooFew(t, "", 0, b[2], a[2], b[2])
	checkTooFew(t, "abcd", 1, spoiled(a[0], p, 1), spoiled(a[0], p, 1), a[1], b[1])
}

// There are more good frames than K: those of the lowest Index count, in
// whatever order the files stand.
func TestP11LowestIndexCounts(t *testing.T) {
	r := rand.New(rand.NewSource(3))
	p := params(2, 5, 2)
	a, b := encode(t, p, "abcdefgh"), encode(t, p, "ABCDEFGH")
	for range 30 {
		checkStream(t, "abcdefgh", shuffled(r, []string{a[0], a[1], b[2], b[3], b[4]})...)
		checkStream(t, "abcdefgh", shuffled(r, []string{a[1], a[3], b[4]})...)
		checkStream(t, "ABCDefGH", shuffled(r, []string{spoiled(a[0], p, 0), b[1], b[2], a[3]})...)
	}
}

// Just K good frames of each stripe, at other files each; then one fewer of one
// stripe.
func TestP11OneFrameFewer(t *testing.T) {
	r := rand.New(rand.NewSource(4))
	for _, p := range []api.Params{params(1, 1, 1), params(1, 3, 2), params(2, 3, 2), params(3, 7, 4), params(5, 5, 3), params(8, 16, 10), params(32, 32, 4)} {
		size := p.K * p.Block
		for _, length := range []int{4 * size, 5*size - 1, 4*size + 1} {
			stream := noise(length, int64(p.N))
			files := encode(t, p, stream)
			last := make([]int, 5)
			for number := range (length + size - 1) / size {
				order := r.Perm(p.N)
				for _, i := range order[p.K:] {
					files[i] = spoiled(files[i], p, number)
				}
				last[number] = order[0]
			}
			checkStream(t, stream, files...)
			checkStream(t, stream, shuffled(r, files)...)
			for number := range (length + size - 1) / size {
				fewer := slices.Clone(files)
				fewer[last[number]] = spoiled(fewer[last[number]], p, number)
				checkTooFew(t, stream[:number*size], number, shuffled(r, fewer)...)
			}
		}
	}
}

// twoSpoiled answers three files of 20 stripes, in each of some of which,
// beginning with first, two have no good frame.
func twoSpoiled(files []string, p api.Params, first int) []string {
	damaged := slices.Clone(files)
	for number := first; number < 20; number += 1 + number%3 {
		damaged[number%3] = spoiled(damaged[number%3], p, number)
		damaged[(number+1)%3] = spoiled(damaged[(number+1)%3], p, number)
	}
	return damaged
}

func TestP11LowestStripeIsTold(t *testing.T) {
	p := params(2, 3, 2)
	stream := noise(4*20, 5)
	files := encode(t, p, stream)
	for first := range 20 {
		checkTooFew(t, stream[:4*first], first, twoSpoiled(files, p, first)...)
	}
}

// A file that is cut off gives the frames that are all there.
func TestP11FileCutAnywhere(t *testing.T) {
	files := encode(t, params(2, 2, 3), "abcdefghijklmnopq")
	for size := range len(files[1]) {
		cut := files[1][:size]
		if whole := (size - 18) / 11; size < 18 {
			checkTooFew(t, "", 0, files[0], cut)
		} else {
			checkTooFew(t, "abcdefghijklmnopq"[:6*whole], whole, files[0], cut)
		}
	}
}

func TestP11BytesBehindAFile(t *testing.T) {
	files := encode(t, params(2, 3, 2), "abcde")
	checkStream(t, "abcde", files[2]+"x", files[1]+files[1])
	checkStream(t, "abcde", files[0]+strings.Repeat("x", 100000), files[1])
}

// The last stripe has other bytes than 0 where the stream has no more: they are
// no part of it.
func TestP11BytesBehindTheStream(t *testing.T) {
	p := params(2, 3, 2)
	full := encode(t, p, "abcdefgh")
	for _, length := range []int{5, 6, 7} {
		var files []string
		for i, file := range full {
			files = append(files, headOf(p, i, length)+file[18:])
		}
		checkStream(t, "abcdefgh"[:length], files...)
		checkStream(t, "abcdefgh"[:length], files[2], files[0])
	}
}

// Every change of one byte of a header or a frame costs this file or this frame
// and nothing else; two files of three are left.
func TestP14OneByteChanged(t *testing.T) {
	p := params(2, 3, 4)
	stream := "a stream of three stripes"[:20]
	files := encode(t, p, stream)
	for i, file := range files {
		for at := range len(file) {
			damaged := slices.Clone(files)
			damaged[i] = changed(file, at, byte(1+at*7%255))
			checkStream(t, stream, damaged...)
			two := slices.Delete(slices.Clone(damaged), (i+1)%3, (i+1)%3+1)
			number := max(0, (at-18)/12)
			checkTooFew(t, stream[:number*8], number, two...)
		}
	}
}

// drawnFile draws a file of one of several streams, most often damaged.
func drawnFile(r *rand.Rand, p api.Params, streams [][]string) string {
	file := streams[r.Intn(len(streams))][r.Intn(p.N)]
	for range r.Intn(4) {
		if frames := (len(file) - 18) / (p.Block + 8); frames > 0 {
			file = spoiled(file, p, r.Intn(frames))
		}
	}
	switch r.Intn(12) {
	case 0:
		return file[:r.Intn(len(file))]
	case 1:
		return file + noise(r.Intn(30), 1)
	case 2:
		return changed(file, r.Intn(18), byte(1+r.Intn(255)))
	}
	return file
}

// drawnStreams draws parameters, and answers the files of two streams of one
// length.
func drawnStreams(t *testing.T, r *rand.Rand) (api.Params, [][]string) {
	n := 1 + r.Intn(9)
	p := params(1+r.Intn(n), n, 1+r.Intn(12))
	length := r.Intn(5 * p.K * p.Block)
	return p, [][]string{encode(t, p, noise(length, 1)), encode(t, p, noise(length, 2))}
}

// withStray answers files behind which now and then one stands that agrees with
// none of them.
func withStray(t *testing.T, r *rand.Rand, p api.Params, files []string) []string {
	if r.Intn(20) > 0 {
		return files
	}
	return append(files, encode(t, p, noise(5*p.K*p.Block, 3))[0])
}

// checkFound tells it where a drawn test has seen an answer too seldom.
func checkFound(t *testing.T, found map[api.Errno]int, wanted ...api.Errno) {
	t.Helper()
	for _, errno := range wanted {
		if found[errno] < 40 {
			t.Errorf("too few of one kind: %v", found)
		}
	}
}

// Files of two streams and what is left of them, in any order, against the
// document.
func TestP11Drawn(t *testing.T) {
	r := rand.New(rand.NewSource(6))
	found := map[api.Errno]int{}
	for range 1500 {
		p, streams := drawnStreams(t, r)
		var files []string
		for range r.Intn(3 * p.N) {
			files = append(files, drawnFile(r, p, streams))
		}
		files = withStray(t, r, p, files)
		want, stripe, errno := streamOf(files)
		checkAnswer(t, want, stripe, errno, files...)
		found[errno]++
	}
	checkFound(t, found, api.OK, api.ErrNoHeader, api.ErrDisagree, api.ErrTooFew)
}

func TestP14DecodeDoesNotHangOnWorkers(t *testing.T) {
	p := params(3, 5, 2)
	stream := noise(6*300+1, 7)
	whole := encode(t, p, stream)
	for _, first := range []int{0, 1, 150, 300, -1} {
		files := slices.Clone(whole)
		if first >= 0 {
			for i := range 3 {
				files[i] = files[i][:18+first*10]
			}
		}
		want, stripe, errno := mosaic.Decode(files, 1)
		for workers := 2; workers <= 16; workers++ {
			if got, number, told := mosaic.Decode(files, workers); got != want || number != stripe || told != errno {
				t.Fatalf("%d workers: %d bytes, %d, %d; one: %d bytes, %d, %d", workers, len(got), number, told, len(want), stripe, errno)
			}
		}
	}
}
