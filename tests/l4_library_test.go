package tests

import (
	"bytes"
	"compress/zlib"
	"encoding/binary"
	"hash/crc32"
	"image"
	"image/color"
	"image/png"
	"math/rand/v2"
	"slices"
	"testing"

	"loop.example/g00016/impl"
)

func pngChunk(name string, data []byte) []byte {
	out := binary.BigEndian.AppendUint32(nil, uint32(len(data)))
	out = slices.Concat(out, []byte(name), data)
	return binary.BigEndian.AppendUint32(out, crc32.ChecksumIEEE(out[4:]))
}

// pngRows has each row of a picture behind a kind of filter, each kind in its turn.
func pngRows(im impl.Image) []byte {
	var rows, above []byte
	long, step := im.Width*im.Planes, max(1, im.Planes*im.Depth/8)
	for y := range im.Height {
		row := impl.PackRow(im.Samples[y*long:(y+1)*long], im.Depth)
		kind := y % filterKinds
		rows = append(rows, byte(kind))
		rows = append(rows, impl.FilterRow(kind, step, above, row)...)
		above = row
	}
	return rows
}

func pngFile(im impl.Image, woven bool) []byte {
	colourType := [...]byte{0, 0, 4, 2, 6}[im.Planes]
	head := binary.BigEndian.AppendUint32(nil, uint32(im.Width))
	head = binary.BigEndian.AppendUint32(head, uint32(im.Height))
	head = append(head, byte(im.Depth), colourType, 0, 0, 0)
	rows := pngRows(im)
	if woven {
		head[12], rows = 1, nil
		for _, part := range impl.Split(im) {
			rows = append(rows, pngRows(part)...)
		}
	}
	var packed bytes.Buffer
	w := zlib.NewWriter(&packed)
	w.Write(rows)
	w.Close()
	return slices.Concat([]byte("\x89PNG\r\n\x1a\n"), pngChunk("IHDR", head), pngChunk("IDAT", packed.Bytes()), pngChunk("IEND", nil))
}

// samplesAt has the planes of a pixel of what the library has read, in as many bits as they had.
func samplesAt(read image.Image, x int, y int, planes int, depth int) []int {
	var c color.NRGBA64
	switch p := read.(type) {
	case *image.NRGBA:
		n := p.NRGBAAt(x, y)
		c = color.NRGBA64{R: uint16(n.R) * 257, G: uint16(n.G) * 257, B: uint16(n.B) * 257, A: uint16(n.A) * 257}
	case *image.NRGBA64:
		c = p.NRGBA64At(x, y)
	default:
		r, g, b, a := read.At(x, y).RGBA()
		c = color.NRGBA64{R: uint16(r), G: uint16(g), B: uint16(b), A: uint16(a)}
	}
	all := [][]uint16{{}, {c.R}, {c.R, c.A}, {c.R, c.G, c.B}, {c.R, c.G, c.B, c.A}}[planes]
	var samples []int
	for _, sample := range all {
		samples = append(samples, int(sample)>>(16-depth))
	}
	return samples
}

func TestPicturesAreThoseThatTheLibraryReads(t *testing.T) {
	r := rand.New(rand.NewPCG(4, 21))
	for planes := 1; planes <= 4; planes++ {
		for _, depth := range depthsOf(planes) {
			for _, c := range [][2]int{{1, 1}, {1, 7}, {7, 1}, {3, 2}, {8, 8}, {13, 11}, {33, 20}} {
				im := someImage(r, c[0], c[1], planes, depth)
				for _, woven := range []bool{false, true} {
					read, err := png.Decode(bytes.NewReader(pngFile(im, woven)))
					if err != nil {
						t.Fatalf("%s, woven %v: %v", described(im), woven, err)
					}
					var samples []int
					for y := range im.Height {
						for x := range im.Width {
							samples = append(samples, samplesAt(read, x, y, planes, depth)...)
						}
					}
					if !slices.Equal(samples, im.Samples) {
						t.Fatalf("%s, woven %v: the library reads %v, not %v", described(im), woven, samples, im.Samples)
					}
				}
			}
		}
	}
}
