package grid_test

import (
	"math"
	"reflect"
	"sync"
	"testing"

	"mosaic/api"
	"mosaic/field"
	"mosaic/grid"
)

// copyOf copies a matrix with all its rows, and their spare room.
func copyOf(m [][]byte) [][]byte {
	rows := make([][]byte, len(m))
	for i := range m {
		rows[i] = append([]byte{}, m[i][:cap(m[i])]...)[:len(m[i])]
	}
	return rows
}

// sameRoom tells whether two matrices have the same rows, spare room too.
func sameRoom(a [][]byte, b [][]byte) bool {
	for i := range a {
		if len(a[i]) != len(b[i]) || string(a[i][:cap(a[i])]) != string(b[i][:cap(a[i])]) {
			return false
		}
	}
	return len(a) == len(b)
}

// overwrite fills a row and its spare room.
func overwrite(row []byte) {
	row = row[:cap(row)]
	for i := range row {
		row[i] ^= 0xff
	}
}

// checkRoomOfRows overwrites one row of m after the other, and asks whether
// those that have not had their turn stay as they are.
func checkRoomOfRows(t *testing.T, m [][]byte) {
	t.Helper()
	for i := range m {
		rest := copyOf(m[i+1:])
		overwrite(m[i])
		for j, row := range m[i+1:] {
			if string(row) != string(rest[j]) {
				t.Fatalf("of %d rows, row %d shares room with row %d", len(m), i, i+1+j)
			}
		}
	}
}

func TestP5Examples(t *testing.T) {
	for _, c := range []struct {
		k, n int
		want [][]byte
	}{
		{2, 4, [][]byte{{1, 0}, {0, 1}, {142, 244}, {244, 142}}},
		{1, 1, [][]byte{{1}}},
		{1, 2, [][]byte{{1}, {1}}},
		{3, 3, [][]byte{{1, 0, 0}, {0, 1, 0}, {0, 0, 1}}},
	} {
		if got, errno := grid.Generator(c.k, c.n); !reflect.DeepEqual(got, c.want) || errno != api.OK {
			t.Errorf("Generator(%d, %d) = %v, %d, want %v", c.k, c.n, got, errno, c.want)
		}
	}
}

// checkGenerator holds a Generator against its definition, entry by entry.
func checkGenerator(t *testing.T, k int, n int, got [][]byte) {
	t.Helper()
	if len(got) != n {
		t.Fatalf("Generator(%d, %d): %d rows", k, n, len(got))
	}
	for i, row := range got {
		if len(row) != k {
			t.Fatalf("Generator(%d, %d): row %d has %d entries", k, n, i, len(row))
		}
		for j, entry := range row {
			good := field.Mul(entry, byte(i^j)) == 1
			if i < k {
				good = entry == 1 && i == j || entry == 0 && i != j
			}
			if !good {
				t.Fatalf("Generator(%d, %d): row %d has %d at %d", k, n, i, entry, j)
			}
		}
	}
}

func TestP5AllNumbersAroundTheBounds(t *testing.T) {
	for k := -2; k <= 35; k++ {
		for n := -2; n <= 35; n++ {
			got, errno := grid.Generator(k, n)
			if 1 <= k && k <= n && n <= 32 {
				if errno != api.OK {
					t.Fatalf("Generator(%d, %d): %d", k, n, errno)
				}
				checkGenerator(t, k, n, got)
			} else if got != nil || errno != api.ErrParams {
				t.Fatalf("Generator(%d, %d) = %v, %d, want nil, ErrParams", k, n, got, errno)
			}
		}
	}
}

func TestP5FarNumbers(t *testing.T) {
	numbers := []int{math.MinInt, math.MinInt + 1, math.MinInt32, -256, 0, 1, 32, 33, 256, 257, 1 << 32, 1<<32 + 1, math.MaxInt - 1, math.MaxInt}
	for _, k := range numbers {
		for _, n := range numbers {
			if 1 <= k && k <= n && n <= 32 {
				continue
			}
			if got, errno := grid.Generator(k, n); got != nil || errno != api.ErrParams {
				t.Errorf("Generator(%d, %d) = %v, %d, want nil, ErrParams", k, n, got, errno)
			}
		}
	}
}

func TestP2GeneratorIsNewMemory(t *testing.T) {
	for _, c := range [][2]int{{1, 1}, {1, 32}, {3, 7}, {8, 9}, {32, 32}} {
		first, _ := grid.Generator(c[0], c[1])
		checkRoomOfRows(t, first)
		clear(first[:cap(first)])
		second, _ := grid.Generator(c[0], c[1])
		checkGenerator(t, c[0], c[1], second)
	}
}

// Calls that run beside each other give what each gives alone.
func TestP1AnswerHangsOnArgumentsAlone(t *testing.T) {
	m, _ := grid.Generator(5, 10)
	want, _ := grid.Invert(m[5:])
	answers := make([][][]byte, 8)
	var all sync.WaitGroup
	for i := range answers {
		all.Go(func() {
			grid.Invert(m[i%6 : i%6+5])
			answers[i], _ = grid.Invert(m[5:])
		})
	}
	all.Wait()
	for i, got := range answers {
		if !reflect.DeepEqual(got, want) {
			t.Errorf("call %d: %v, want %v", i, got, want)
		}
	}
}
