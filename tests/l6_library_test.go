package tests

import (
	"bytes"
	"compress/lzw"
	"image"
	"image/color"
	"image/gif"
	"io"
	"math/rand/v2"
	"slices"
	"testing"

	"loop.example/g00016/impl"
)

func asBytes(list []int) []byte {
	return []byte(wordKey(list))
}

func TestWordsAreThoseThatTheLibraryReads(t *testing.T) {
	r := rand.New(rand.NewPCG(6, 19))
	for bits := 2; bits <= 8; bits++ {
		for range 60 {
			list := someList(r, bits, r.IntN(6000))
			reader := lzw.NewReader(bytes.NewReader(impl.WordsPack(bits, list)), lzw.LSB, bits)
			if got, err := io.ReadAll(reader); err != nil || !bytes.Equal(got, asBytes(list)) {
				t.Fatalf("bits %d: the library reads %d of %d numbers: %v", bits, len(got), len(list), err)
			}
		}
	}
}

func TestWordsUnpackOfTheLibrarys(t *testing.T) {
	r := rand.New(rand.NewPCG(6, 20))
	for bits := 2; bits <= 8; bits++ {
		for range 60 {
			list := someList(r, bits, r.IntN(20001))
			var packed bytes.Buffer
			writer := lzw.NewWriter(&packed, lzw.LSB, bits)
			if _, err := writer.Write(asBytes(list)); err != nil || writer.Close() != nil {
				t.Fatal(err)
			}
			got := impl.WordsUnpack(bits, packed.Bytes(), len(list))
			if got.Err != 0 || got.Next != packed.Len() || !slices.Equal(got.List, list) {
				t.Fatalf("bits %d: %d numbers of the library's are read with error %d as %d", bits, len(list), got.Err, len(got.List))
			}
		}
	}
}

// asGif has the same words and blocks under the library's heads.
func asGif(m impl.Moving) []byte {
	bits := bitsOfNumber(len(m.Palette) - 1)
	file := slices.Concat([]byte("GIF89a"), shorts(m.Width, m.Height), []byte{byte(0xF0 | (bits - 1)), 0, 0})
	for _, colour := range m.Palette {
		file = append(file, byte(colour>>16), byte(colour>>8), byte(colour))
	}
	for _, f := range m.Frames {
		file = slices.Concat(file, []byte{0x21, 0xF9, 4, byte((f.Dispose + 1) << 2)}, shorts(f.Delay), []byte{0, 0})
		words := impl.WordsPack(max(2, bits), f.Pixels)
		file = slices.Concat(file, []byte{44}, shorts(f.X, f.Y, f.Width, f.Height), []byte{0, byte(max(2, bits))}, blocksOf(words, 255))
	}
	return append(file, 59)
}

func TestFramesAreThoseThatTheLibraryReads(t *testing.T) {
	r := rand.New(rand.NewPCG(6, 21))
	for range 200 {
		m := someMoving(r)
		read, err := gif.DecodeAll(bytes.NewReader(asGif(m)))
		if err != nil || len(read.Image) != len(m.Frames) {
			t.Fatalf("%s: %v", describedMoving(m), err)
		}
		decoded := impl.DecodeMoving(impl.EncodeMoving(m)).Moving
		for i, f := range decoded.Frames {
			im := read.Image[i]
			if im.Rect != image.Rect(f.X, f.Y, f.X+f.Width, f.Y+f.Height) || read.Delay[i] != f.Delay || int(read.Disposal[i]) != f.Dispose+1 {
				t.Fatalf("%s: frame %d at %v", describedMoving(m), i, im.Rect)
			}
			for at, pixel := range f.Pixels {
				colour := decoded.Palette[pixel]
				want := color.RGBA{byte(colour >> 16), byte(colour >> 8), byte(colour), 255}
				if got := im.At(f.X+at%f.Width, f.Y+at/f.Width); got != want {
					t.Fatalf("%s: frame %d: %v, not %v", describedMoving(m), i, got, want)
				}
			}
		}
	}
}
