package mosaic

import (
	"cmp"
	"slices"

	"mosaic/api"
	"mosaic/grid"
	"mosaic/layout"
	"mosaic/pipeline"
	"mosaic/shard"
)

// knownFile is a file whose header is good.
type knownFile struct {
	api.Scan
	text string
}

// knownFiles answers the files that are neither Missing nor Unknown, in their
// order.
func knownFiles(files []string) []knownFile {
	var known []knownFile
	for _, file := range files {
		scan := shard.Look(file)
		if scan.State != api.Missing && scan.State != api.Unknown {
			known = append(known, knownFile{scan, file})
		}
	}
	return known
}

// agree tells whether all files are of the same parameters and length.
func agree(known []knownFile) bool {
	first := known[0].Header
	return !slices.ContainsFunc(known, func(f knownFile) bool {
		return f.Header.Params != first.Params || f.Header.Length != first.Length
	})
}

// goodFrame tells whether the frame of that number is good.
func (f knownFile) goodFrame(number int) bool {
	_, bad := slices.BinarySearch(f.Bad, number)
	return !bad
}

// block answers the block of a frame that is good.
func (f knownFile) block(number int) []byte {
	params := f.Header.Params
	frame := f.text[layout.FramePlace(params, number):][:layout.FrameBytes(params)]
	return []byte(layout.BlockOf(frame))
}

// joiner makes a stream of files that agree. The header is that of any of
// them; the files stand by rising Index, and those of one Index in the order
// in which they were handed in.
type joiner struct {
	header api.Header
	rows   [][]byte
	known  []knownFile
}

func newJoiner(known []knownFile) joiner {
	byIndex := slices.Clone(known)
	slices.SortStableFunc(byIndex, func(a, b knownFile) int {
		return cmp.Compare(a.Header.Index, b.Header.Index)
	})
	header := known[0].Header
	rows, _ := grid.Generator(header.K, header.N)
	return joiner{header, rows, byIndex}
}

// stream makes the stream; where a stripe cannot be made: what there is ahead of
// the first such stripe, and its number.
func (j joiner) stream(workers int) (string, int, api.Errno) {
	var stream []byte
	stripes := layout.Stripes(j.header)
	made := pipeline.Run(stripes, workers, j.stripe, func(part []byte) {
		stream = append(stream, part...)
	})
	if made < stripes {
		return string(stream), made, api.ErrTooFew
	}
	// The last stripe may have more bytes than were left of the stream.
	return string(stream[:j.header.Length]), 0, api.OK
}

// stripe makes the bytes of a stripe, or gives it up.
func (j joiner) stripe(number int) []byte {
	var rows, blocks [][]byte
	for _, file := range j.chosen(number) {
		rows = append(rows, j.rows[file.Header.Index])
		blocks = append(blocks, file.block(number))
	}
	// Every K rows of a Generator can be inverted.
	inverse, _ := grid.Invert(rows)
	return slices.Concat(combine(inverse, blocks)...)
}

// chosen answers the files of which a stripe is made, or gives it up: of each
// Index the first one whose frame is good, and of these the K lowest.
func (j joiner) chosen(number int) []knownFile {
	var chosen []knownFile
	last := -1
	for _, file := range j.known {
		if file.Header.Index == last || !file.goodFrame(number) {
			continue
		}
		chosen = append(chosen, file)
		last = file.Header.Index
		if len(chosen) == j.header.K {
			return chosen
		}
	}
	panic(pipeline.GiveUp{})
}
