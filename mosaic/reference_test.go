package mosaic_test

// What the document asks of the calls, written a second time: slowly, byte by
// byte, and without the packages of the program.

import (
	"encoding/binary"
	"hash/crc32"
	"strings"

	"mosaic/api"
)

// times is a product by its definition.
func times(a byte, b byte) byte {
	product := 0
	for i := range 8 {
		product ^= int(a) << i * int(b>>i&1)
	}
	for i := 14; i >= 8; i-- {
		product ^= 0x11d << (i - 8) * (product >> i & 1)
	}
	return byte(product)
}

// inverseOf tries all elements.
func inverseOf(a byte) byte {
	for b := 1; b < 256; b++ {
		if times(a, byte(b)) == 1 {
			return byte(b)
		}
	}
	return 0
}

// rowOf is the row i of a Generator with k columns.
func rowOf(k int, i int) []byte {
	row := make([]byte, k)
	for j := range row {
		if i >= k {
			row[j] = inverseOf(byte(i ^ j))
		} else if i == j {
			row[j] = 1
		}
	}
	return row
}

// withSum answers s with the sum of summed behind it.
func withSum(s string, summed string) string {
	sum := crc32.Checksum([]byte(summed), crc32.MakeTable(crc32.Castagnoli))
	return string(binary.BigEndian.AppendUint32([]byte(s), sum))
}

func headOf(p api.Params, index int, length int) string {
	list := []byte{'M', 'O', 'S', 'C', byte(p.K), byte(p.N), byte(index), 0, byte(p.Block >> 8), byte(p.Block)}
	list = binary.BigEndian.AppendUint32(list, uint32(length))
	return withSum(string(list), string(list))
}

func frameOf(index int, number int, block string) string {
	frame := string(binary.BigEndian.AppendUint32(nil, uint32(number))) + block
	return withSum(frame, string([]byte{byte(index)})+frame)
}

// byteOf is the byte of a stream at a place, 0 where it has no more.
func byteOf(stream string, at int) byte {
	if at < len(stream) {
		return stream[at]
	}
	return 0
}

// filesOf are the files of a stream.
func filesOf(p api.Params, stream string) []string {
	files := make([]string, p.N)
	for i := range files {
		row := rowOf(p.K, i)
		var file strings.Builder
		file.WriteString(headOf(p, i, len(stream)))
		for t := 0; t*p.K*p.Block < len(stream); t++ {
			block := make([]byte, p.Block)
			for at := range block {
				for j, entry := range row {
					block[at] ^= times(entry, byteOf(stream, (t*p.K+j)*p.Block+at))
				}
			}
			file.WriteString(frameOf(i, t, string(block)))
		}
		files[i] = file.String()
	}
	return files
}

// headerIn reads a header; false, if it is not good.
func headerIn(file string) (api.Header, bool) {
	if len(file) < 18 {
		return api.Header{}, false
	}
	p := api.Params{K: int(file[4]), N: int(file[5]), Block: int(file[8])<<8 | int(file[9])}
	h := api.Header{Params: p, Index: int(file[6]), Length: int(binary.BigEndian.Uint32([]byte(file[10:])))}
	mayBe := p.K >= 1 && p.K <= p.N && p.N <= 32 && p.Block >= 1 && p.Block <= 256 && h.Index < p.N && h.Length <= 16384
	return h, mayBe && headOf(p, h.Index, h.Length) == file[:18]
}

// blockIn reads the block of a frame; false, if the frame is not good.
func blockIn(file string, h api.Header, number int) (string, bool) {
	from := 18 + number*(h.Block+8)
	if len(file) < from+h.Block+8 {
		return "", false
	}
	frame := file[from : from+h.Block+8]
	block := frame[4 : 4+h.Block]
	return block, frame == frameOf(h.Index, number, block)
}

// solve finds the blocks of which the rows make others: what is handed in is
// eliminated in place.
func solve(rows [][]byte, blocks [][]byte) [][]byte {
	add := func(to []byte, from []byte, c byte) {
		for x := range to {
			to[x] ^= times(c, from[x])
		}
	}
	for i := range rows {
		for j := i; rows[i][i] == 0; j++ {
			rows[i], rows[j] = rows[j], rows[i]
			blocks[i], blocks[j] = blocks[j], blocks[i]
		}
		factor := inverseOf(rows[i][i]) ^ 1
		add(rows[i], append([]byte{}, rows[i]...), factor)
		add(blocks[i], append([]byte{}, blocks[i]...), factor)
		for j := range rows {
			if j != i {
				c := rows[j][i]
				add(rows[j], rows[i], c)
				add(blocks[j], blocks[i], c)
			}
		}
	}
	return blocks
}

// stripeOf makes a stripe of files; false, if there are too few good frames.
func stripeOf(files []string, p api.Params, number int) (string, bool) {
	var rows, blocks [][]byte
	for index := range p.N {
		for _, file := range files {
			h, known := headerIn(file)
			if !known || h.Index != index || len(rows) == p.K {
				continue
			}
			if block, good := blockIn(file, h, number); good {
				rows = append(rows, rowOf(p.K, index))
				blocks = append(blocks, []byte(block))
				break
			}
		}
	}
	if len(rows) < p.K {
		return "", false
	}
	var stripe string
	for _, block := range solve(rows, blocks) {
		stripe += string(block)
	}
	return stripe, true
}

// streamOf is what Decode must answer, for a number of workers that may be.
func streamOf(files []string) (string, int, api.Errno) {
	if len(files) > 32 {
		return "", 0, api.ErrLarge
	}
	var all []api.Header
	for _, file := range files {
		if h, known := headerIn(file); known {
			h.Index = 0
			all = append(all, h)
		}
	}
	if len(all) == 0 {
		return "", 0, api.ErrNoHeader
	}
	for _, h := range all {
		if h != all[0] {
			return "", 0, api.ErrDisagree
		}
	}
	stream := ""
	for number := 0; len(stream) < all[0].Length; number++ {
		stripe, made := stripeOf(files, all[0].Params, number)
		if !made {
			return stream, number, api.ErrTooFew
		}
		stream += stripe
	}
	return stream[:all[0].Length], 0, api.OK
}

// scanOf is what Verify must tell of a file.
func scanOf(file string) api.Scan {
	if file == "" {
		return api.Scan{State: api.Missing}
	}
	h, known := headerIn(file)
	if !known {
		return api.Scan{State: api.Unknown}
	}
	scan := api.Scan{State: api.Whole, Header: h}
	end := 18
	for number := 0; number*h.K*h.Block < h.Length; number++ {
		if _, good := blockIn(file, h, number); !good {
			scan.State = api.Damaged
			scan.Bad = append(scan.Bad, number)
		}
		end += h.Block + 8
	}
	if len(file) > end {
		scan.State, scan.Behind = api.Damaged, len(file)-end
	}
	return scan
}

// repairOf is what Repair must answer, for a number of workers that may be.
func repairOf(files []string, fail int) ([]string, int, api.Errno) {
	stream, stripe, errno := streamOf(files)
	if errno != api.OK {
		return nil, stripe, errno
	}
	var params api.Params
	for _, file := range files {
		if h, known := headerIn(file); known {
			params = h.Params
		}
	}
	made, writes := filesOf(params, stream), 0
	for i := range made {
		if i < len(files) && files[i] == made[i] {
			continue
		}
		if writes == fail {
			return nil, 0, api.ErrIO
		}
		writes++
	}
	return made, writes, api.OK
}
