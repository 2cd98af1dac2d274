package mosaic

import (
	"mosaic/api"
	"mosaic/grid"
	"mosaic/layout"
	"mosaic/pipeline"
	"mosaic/shard"
)

// splitter makes the files of a stream. The header is that of all of them, but
// for the Index.
type splitter struct {
	header api.Header
	rows   [][]byte
	stream string
}

// newSplitter is for parameters and a stream that may be: so neither the
// Generator nor, later, a header or a frame tells an error.
func newSplitter(p api.Params, stream string) splitter {
	rows, _ := grid.Generator(p.K, p.N)
	return splitter{api.Header{Params: p, Length: len(stream)}, rows, stream}
}

// files makes all files.
func (s splitter) files(workers int) []string {
	files := make([][]byte, s.header.N)
	for i := range files {
		files[i] = s.head(i)
	}
	pipeline.Run(layout.Stripes(s.header), workers, s.frames, func(frames []string) {
		for i, frame := range frames {
			files[i] = append(files[i], frame...)
		}
	})
	return texts(files)
}

// head writes the header of the file of that Index.
func (s splitter) head(index int) []byte {
	header := s.header
	header.Index = index
	head, _ := shard.Head(header)
	return []byte(head)
}

// frames makes the frames of a stripe, one for each file.
func (s splitter) frames(stripe int) []string {
	frames := texts(combine(s.rows, s.blocks(stripe)))
	for i, block := range frames {
		frames[i], _ = shard.Frame(i, stripe, block)
	}
	return frames
}

// blocks cuts the blocks of a stripe out of the stream.
func (s splitter) blocks(stripe int) [][]byte {
	blocks := make([][]byte, s.header.K)
	for j := range blocks {
		blocks[j] = make([]byte, s.header.Block)
		from := (stripe*s.header.K + j) * s.header.Block
		copy(blocks[j], s.stream[min(from, len(s.stream)):])
	}
	return blocks
}

func texts(lists [][]byte) []string {
	copies := make([]string, len(lists))
	for i, list := range lists {
		copies[i] = string(list)
	}
	return copies
}
