package tests

import (
	"bytes"
	"image/color"
	"image/png"
	"math/rand/v2"
	"slices"
	"testing"

	"loop.example/g00016/impl"
)

// asPng has the chunks of a still's file under the library's names.
func asPng(t *testing.T, file []byte) []byte {
	t.Helper()
	out := []byte("\x89PNG\r\n\x1a\n")
	for _, c := range impl.ReadChunks(file).List {
		switch c.Name {
		case "HEAD":
			colourType := [...]byte{0, 0, 4, 2, 6}[c.Data[9]]
			if c.Data[10] == 1 {
				colourType = 3
			}
			out = append(out, pngChunk("IHDR", slices.Concat(c.Data[:9], []byte{colourType, 0, 0, c.Data[11]}))...)
		case "PALE":
			out = append(out, pngChunk("PLTE", c.Data)...)
		case "NOTE":
			out = append(out, pngChunk("tEXt", c.Data)...)
		case "DATA":
			out = append(out, pngChunk("IDAT", c.Data)...)
		case "DONE":
			out = append(out, pngChunk("IEND", c.Data)...)
		default:
			t.Fatalf("a chunk %s", c.Name)
		}
	}
	return out
}

func TestStillsAreThoseThatTheLibraryReads(t *testing.T) {
	r := rand.New(rand.NewPCG(5, 17))
	for range 400 {
		s := someStill(r)
		if len(s.Palette) > 1<<s.Image.Depth {
			s.Palette = s.Palette[:1<<s.Image.Depth]
		}
		read, err := png.Decode(bytes.NewReader(asPng(t, impl.EncodeStill(s, r.IntN(3)))))
		if err != nil {
			t.Fatalf("%s: %v", describedStill(s), err)
		}
		want := impl.Colours(s)
		var samples []int
		for y := range want.Height {
			for x := range want.Width {
				if len(s.Palette) == 0 {
					samples = append(samples, samplesAt(read, x, y, want.Planes, want.Depth)...)
					continue
				}
				c := color.NRGBAModel.Convert(read.At(x, y)).(color.NRGBA)
				samples = append(samples, int(c.R), int(c.G), int(c.B))
			}
		}
		if !slices.Equal(samples, want.Samples) {
			t.Fatalf("%s: the library reads %v, not %v", describedStill(s), samples, want.Samples)
		}
	}
}
