// Package layout: which numbers may be, and what stands where in a file: see DOC.md.
package layout

import "mosaic/api"

const (
	HeadBytes   = 18
	NumberBytes = 4
	SumBytes    = 4
)

// Within tells whether a number is from low to high.
func Within(number int, low int, high int) bool {
	return low <= number && number <= high
}

// ParamsMayBe tells whether parameters may be.
func ParamsMayBe(p api.Params) bool {
	return Within(p.N, 1, api.MaxFiles) && Within(p.K, 1, p.N) && Within(p.Block, 1, api.MaxBlock)
}

// Stripes answers of how many stripes a stream is.
func Stripes(h api.Header) int {
	size := h.K * h.Block
	return (h.Length + size - 1) / size
}

// FrameBytes answers how many bytes a frame has.
func FrameBytes(p api.Params) int {
	return NumberBytes + p.Block + SumBytes
}

// FramePlace answers where in a file the frame of that number begins.
func FramePlace(p api.Params, number int) int {
	return HeadBytes + number*FrameBytes(p)
}

// WholeBytes answers how many bytes a whole file has.
func WholeBytes(h api.Header) int {
	return FramePlace(h.Params, Stripes(h))
}

// BlockOf answers the block that stands in a frame.
func BlockOf(frame string) string {
	return frame[NumberBytes : len(frame)-SumBytes]
}
