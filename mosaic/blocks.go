package mosaic

import "mosaic/field"

// combine answers for each row the sum of its entries times the blocks, which
// are as many as the entries, all of one size.
func combine(rows [][]byte, blocks [][]byte) [][]byte {
	made := make([][]byte, len(rows))
	for i, row := range rows {
		made[i] = make([]byte, len(blocks[0]))
		for j, entry := range row {
			// The blocks are of one size, so there is no error to tell.
			made[i], _ = field.MulAdd(made[i], blocks[j], entry)
		}
	}
	return made
}
