package tests

import (
	"bytes"
	"image"
	"image/jpeg"
	"math/rand/v2"
	"slices"
	"testing"

	"loop.example/g00016/impl"
)

// segment has the library's mark ahead of data and how long they are.
func segment(mark byte, data []byte) []byte {
	return slices.Concat([]byte{255, mark, byte((len(data) + 2) / 256), byte(len(data) + 2)}, data)
}

// asTable tells a code as the library has it: how many words of each length, and the symbols in the words' order.
func asTable(kind byte, lengths []int) []byte {
	counts, symbols := make([]byte, 16), []byte{}
	for length := 1; length <= 15; length++ {
		for symbol := range lengths {
			if lengths[symbol] == length {
				counts[length-1]++
				symbols = append(symbols, byte(symbol))
			}
		}
	}
	return segment(0xC4, slices.Concat([]byte{kind}, counts, symbols))
}

func asScales(table byte, scales []int) []byte {
	data := []byte{table}
	for _, place := range scanPlaces() {
		data = append(data, byte(scales[place]))
	}
	return segment(0xDB, data)
}

// asJpeg has a file's one scan under the library's heads.
func asJpeg(p impl.Photo, codes [][]int, scan []byte) []byte {
	planes := byte(len(p.Planes))
	file := slices.Concat([]byte{255, 0xD8}, asScales(0, slowScales(p.Quality, false)), asScales(1, slowScales(p.Quality, true)))
	frame := []byte{8, byte(p.Height / 256), byte(p.Height), byte(p.Width / 256), byte(p.Width), planes}
	start := []byte{planes}
	for plane := range planes {
		table, factors := min(plane, 1), byte(0x11)
		if p.Half && plane == 0 {
			factors = 0x22
		}
		frame = append(frame, plane+1, factors, table)
		start = append(start, plane+1, 0x11*table)
	}
	file = slices.Concat(file, segment(0xC0, frame))
	for i, lengths := range codes {
		file = slices.Concat(file, asTable(byte(16*(i%2)+i/2), lengths))
	}
	file = slices.Concat(file, segment(0xDD, []byte{byte(p.Every / 256), byte(p.Every)}), segment(0xDA, append(start, 0, 63, 0)))
	return slices.Concat(file, scan, []byte{255, 0xD9})
}

// libraryPlanes are as the library reads them, at their own sides.
func libraryPlanes(t *testing.T, p impl.Photo, file []byte) [][]int {
	t.Helper()
	read, err := jpeg.Decode(bytes.NewReader(file))
	if err != nil {
		t.Fatalf("%s: %v", describedPhoto(p), err)
	}
	at := func(width int, height int, list []byte, stride int) []int {
		var samples []int
		for y := range height {
			for _, b := range list[y*stride : y*stride+width] {
				samples = append(samples, int(b))
			}
		}
		return samples
	}
	switch im := read.(type) {
	case *image.Gray:
		return [][]int{at(p.Width, p.Height, im.Pix, im.Stride)}
	case *image.YCbCr:
		width, height := p.Width, p.Height
		if p.Half {
			width, height = ceiling(width, 2), ceiling(height, 2)
		}
		return [][]int{at(p.Width, p.Height, im.Y, im.YStride), at(width, height, im.Cb, im.CStride), at(width, height, im.Cr, im.CStride)}
	}
	t.Fatalf("%s: a picture of another kind", describedPhoto(p))
	return nil
}

// The library turns blocks by other sums, so that samples may be a little apart.
func TestScansAreThoseThatTheLibraryReads(t *testing.T) {
	r := rand.New(rand.NewPCG(9, 50))
	farthest := 0
	for range 400 {
		p := somePhoto(r)
		p.Steps = false
		file := impl.EncodePhoto(p)
		blocks := impl.DecodePhoto(file).Blocks
		tells := slowTells(p, blocks)
		codes := codesOf(p, tells)
		behind := len(tellPhoto(p, nil, codes)[0])
		laid := slowLaid(p, blocks)
		for plane, samples := range libraryPlanes(t, p, asJpeg(p, codes, file[behind:])) {
			for i, sample := range samples {
				farthest = max(farthest, magnitude(sample-laid[plane].Samples[i]))
			}
		}
	}
	if farthest > 2 {
		t.Errorf("samples are up to %d apart", farthest)
	}
}
