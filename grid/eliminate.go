package grid

import "mosaic/field"

// besideUnit answers the rows of m, each with that of the unit matrix behind
// it: the steps that make the left half the unit matrix make the right half
// the inverse of m.
func besideUnit(m [][]byte) [][]byte {
	rows := make([][]byte, len(m))
	for i := range rows {
		rows[i] = make([]byte, 2*len(m))
		copy(rows[i], m[i])
		rows[i][len(m)+i] = 1
	}
	return rows
}

// raisePivot brings a row that is not 0 in column i to place i, with 1 there.
// The rows ahead of i are done, so only those from i on are asked; false, if
// none of them will do.
func raisePivot(rows [][]byte, i int) bool {
	for j := i; j < len(rows); j++ {
		if rows[j][i] != 0 {
			rows[i], rows[j] = rows[j], rows[i]
			rows[i] = toOne(rows[i], i)
			return true
		}
	}
	return false
}

// toOne divides a row by its entry i, which is not 0.
func toOne(row []byte, i int) []byte {
	factor, _ := field.Div(1, row[i])
	return addTimes(make([]byte, len(row)), row, factor)
}

// clearColumn makes column i 0 in all rows but row i, which has 1 there.
func clearColumn(rows [][]byte, i int) {
	for j := range rows {
		if j != i {
			rows[j] = addTimes(rows[j], rows[i], rows[j][i])
		}
	}
}

// addTimes answers row plus c times other. All rows here are of one length, so
// there is no error to tell.
func addTimes(row []byte, other []byte, c byte) []byte {
	sum, _ := field.MulAdd(row, other, c)
	return sum
}

// rightHalf copies the right halves, so that no row keeps room of its left one.
func rightHalf(rows [][]byte) [][]byte {
	half := make([][]byte, len(rows))
	for i := range half {
		half[i] = make([]byte, len(rows))
		copy(half[i], rows[i][len(rows):])
	}
	return half
}
