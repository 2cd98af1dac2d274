package grid_test

import (
	"math/rand"
	"reflect"
	"slices"
	"testing"

	"mosaic/api"
	"mosaic/field"
	"mosaic/grid"
)

// square makes a matrix of n rows, its entries told by a rule.
func square(n int, entry func(i int, j int) byte) [][]byte {
	m := make([][]byte, n)
	for i := range m {
		m[i] = make([]byte, n)
		for j := range m[i] {
			m[i][j] = entry(i, j)
		}
	}
	return m
}

// unit is the matrix with 1 at equal places and else 0.
func unit(n int) [][]byte {
	return square(n, func(i int, j int) byte {
		if i == j {
			return 1
		}
		return 0
	})
}

func times(a [][]byte, b [][]byte) [][]byte {
	return square(len(a), func(i int, j int) byte {
		var sum byte
		for x := range a {
			sum ^= field.Mul(a[i][x], b[x][j])
		}
		return sum
	})
}

// determinant expands by the first row: in this field no sign changes.
func determinant(m [][]byte) byte {
	if len(m) == 0 {
		return 1
	}
	var sum byte
	for j, entry := range m[0] {
		minor := square(len(m)-1, func(row int, column int) byte {
			if column >= j {
				column++
			}
			return m[row+1][column]
		})
		sum ^= field.Mul(entry, determinant(minor))
	}
	return sum
}

// checkInverse asks for the inverse of a matrix that has one.
func checkInverse(t *testing.T, m [][]byte) {
	t.Helper()
	got, errno := grid.Invert(m)
	if errno != api.OK || len(got) != len(m) {
		t.Fatalf("Invert(%v) = %v, %d", m, got, errno)
	}
	for _, row := range got {
		if len(row) != len(m) {
			t.Fatalf("Invert(%v) has a row of %d entries", m, len(row))
		}
	}
	if !reflect.DeepEqual(times(got, m), unit(len(m))) || !reflect.DeepEqual(times(m, got), unit(len(m))) {
		t.Fatalf("Invert(%v) = %v: the product is not 1", m, got)
	}
}

func checkError(t *testing.T, m [][]byte, want api.Errno) {
	t.Helper()
	if got, errno := grid.Invert(m); got != nil || errno != want {
		t.Fatalf("Invert(%v) = %v, %d, want nil, %d", m, got, errno, want)
	}
}

func TestP6Examples(t *testing.T) {
	for _, c := range []struct{ m, want [][]byte }{
		{[][]byte{{2}}, [][]byte{{142}}},
		{[][]byte{{0, 1}, {1, 0}}, [][]byte{{0, 1}, {1, 0}}},
		{[][]byte{{1, 2}, {3, 4}}, [][]byte{{2, 1}, {143, 142}}},
	} {
		if got, errno := grid.Invert(c.m); !reflect.DeepEqual(got, c.want) || errno != api.OK {
			t.Errorf("Invert(%v) = %v, %d, want %v", c.m, got, errno, c.want)
		}
	}
}

func TestP6OneEntry(t *testing.T) {
	checkError(t, [][]byte{{0}}, api.ErrSingular)
	for a := 1; a < 256; a++ {
		checkInverse(t, [][]byte{{byte(a)}})
	}
}

// A matrix has an inverse just if its determinant is not 0; entries of few
// values make both kinds frequent.
func TestP6AgreesWithTheDeterminant(t *testing.T) {
	r := rand.New(rand.NewSource(6))
	values := []byte{0, 0, 1, 1, 2, 3, 142, 255}
	var found [2]int
	for n := 1; n <= 5; n++ {
		for range 600 {
			m := square(n, func(int, int) byte { return values[r.Intn(len(values))] })
			if determinant(m) == 0 {
				checkError(t, m, api.ErrSingular)
				found[0]++
			} else {
				checkInverse(t, m)
				found[1]++
			}
		}
	}
	if found[0] < 200 || found[1] < 200 {
		t.Errorf("too few of one kind: %v", found)
	}
}

// Turned-about unit matrices have 0 where the pivots must stand, at all sizes.
func TestP6RowsOutOfOrder(t *testing.T) {
	r := rand.New(rand.NewSource(7))
	for n := 1; n <= 32; n++ {
		checkInverse(t, unit(n))
		backward := unit(n)
		slices.Reverse(backward)
		checkInverse(t, backward)
		order := r.Perm(n)
		checkInverse(t, square(n, func(i int, j int) byte {
			if order[i] == j {
				return byte(1 + r.Intn(255))
			}
			return 0
		}))
	}
}

// Of the sizes up to the greatest: a product of two triangles has an inverse;
// with one row made a sum of two others it has none.
func TestP6GreatMatrices(t *testing.T) {
	r := rand.New(rand.NewSource(8))
	for n := 3; n <= 32; n++ {
		low := square(n, func(i int, j int) byte {
			if i < j {
				return 0
			}
			return byte(1 + r.Intn(255))
		})
		high := square(n, func(i int, j int) byte { return low[n-1-i][n-1-j] })
		m := times(low, high)
		checkInverse(t, m)
		order := r.Perm(n)
		m[order[0]], _ = field.MulAdd(m[order[1]], m[order[2]], byte(1+r.Intn(255)))
		checkError(t, m, api.ErrSingular)
	}
}

func TestP6WithoutInverse(t *testing.T) {
	for n := 1; n <= 32; n++ {
		checkError(t, square(n, func(int, int) byte { return 0 }), api.ErrSingular)
		for gone := range n {
			row, column := unit(n), unit(n)
			clear(row[gone])
			for i := range column {
				column[i][gone] = 0
			}
			checkError(t, row, api.ErrSingular)
			checkError(t, column, api.ErrSingular)
			if n > 1 {
				twice := unit(n)
				twice[gone] = twice[(gone+1)%n]
				checkError(t, twice, api.ErrSingular)
			}
		}
	}
	checkError(t, [][]byte{{1, 2, 3}, {4, 5, 6}, {5, 7, 5}}, api.ErrSingular)
}

func TestP6MatricesThatAreNone(t *testing.T) {
	checkError(t, nil, api.ErrParams)
	checkError(t, [][]byte{}, api.ErrParams)
	checkError(t, [][]byte{nil}, api.ErrParams)
	checkError(t, [][]byte{{}}, api.ErrParams)
	checkError(t, [][]byte{{1, 2}}, api.ErrParams)
	checkError(t, [][]byte{{1}, {2}}, api.ErrParams)
	checkError(t, [][]byte{nil, nil}, api.ErrParams)
	checkError(t, unit(33), api.ErrParams)
	checkError(t, unit(64), api.ErrParams)
	checkError(t, make([][]byte, 100000), api.ErrParams)
}

// A row of another length counts wherever it stands, and goes ahead of the
// missing inverse; its spare room is no part of it.
func TestP6RowOfAnotherLength(t *testing.T) {
	for n := 1; n <= 32; n++ {
		for at := range n {
			for _, length := range []int{0, n - 1, n + 1, 2 * n, 300} {
				m, none := unit(n), square(n, func(int, int) byte { return 0 })
				m[at], none[at] = make([]byte, length), make([]byte, length)
				checkError(t, m, api.ErrParams)
				checkError(t, none, api.ErrParams)
			}
			m := unit(n)
			m[at] = m[at][:n-1]
			checkError(t, m, api.ErrParams)
		}
	}
}

// The rows lie in one list, each with the next as its spare room, and there
// are more rows behind the matrix.
func TestP2InvertWritesNothingHandedIn(t *testing.T) {
	r := rand.New(rand.NewSource(9))
	for n := 1; n <= 31; n++ {
		room := make([]byte, n*n+5)
		for i := range room {
			room[i] = byte(r.Intn(3))
		}
		rows := make([][]byte, n+2)
		for i := range n {
			rows[i] = room[i*n : i*n+n]
		}
		rows[n], rows[n+1] = room[:1], room[1:2]
		before, places := copyOf(rows), append([][]byte{}, rows...)
		got, _ := grid.Invert(rows[:n])
		for _, row := range got {
			overwrite(row)
		}
		clear(got[:cap(got)])
		if !sameRoom(rows, before) {
			t.Fatalf("Invert of %d rows: what was handed in is changed", n)
		}
		for i := range rows {
			if &rows[i][0] != &places[i][0] {
				t.Fatalf("Invert of %d rows: row %d was moved", n, i)
			}
		}
	}
}

func TestP2InverseIsNewMemory(t *testing.T) {
	for n := 1; n <= 32; n++ {
		m := unit(n)
		before := copyOf(m)
		first, _ := grid.Invert(m)
		second, _ := grid.Invert(m)
		checkRoomOfRows(t, append(first, second...))
		if !sameRoom(m, before) {
			t.Fatalf("Invert of %d rows: the answer shares room with what was handed in", n)
		}
	}
}

// Every k rows of a Generator can be inverted: all choices at small numbers.
func TestP14RowsOfAGenerator(t *testing.T) {
	for n := 1; n <= 7; n++ {
		for k := 1; k <= n; k++ {
			g, _ := grid.Generator(k, n)
			for choice := range 1 << n {
				var m [][]byte
				for i := range n {
					if choice>>i&1 == 1 {
						m = append(m, g[i])
					}
				}
				if len(m) == k {
					checkInverse(t, m)
				}
			}
		}
	}
}

// The greatest Generators: many rows that are no unit rows.
func TestP14RowsOfGreatGenerators(t *testing.T) {
	r := rand.New(rand.NewSource(10))
	for k := 1; k <= 32; k++ {
		g, _ := grid.Generator(k, 32)
		checkInverse(t, g[32-k:])
		var m [][]byte
		for _, i := range r.Perm(32)[:k] {
			m = append(m, g[i])
		}
		checkInverse(t, m)
	}
}
