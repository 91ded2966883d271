package tests

import (
	"bytes"
	"encoding/binary"
	"math"
	"math/rand/v2"
	"slices"
	"strconv"
	"testing"

	"loop.example/g00016/impl"
)

// partsOf has the pictures of which the rows stand in the file.
func partsOf(s impl.Still) []impl.Image {
	if s.Woven {
		return slowSplit(s.Image)
	}
	return []impl.Image{s.Image}
}

// slowRows has the rows of a still by the document's words, each filter tried by itself.
func slowRows(s impl.Still) []byte {
	step := max(1, s.Image.Planes*s.Image.Depth/8)
	var rows []byte
	for _, part := range partsOf(s) {
		var above []byte
		for samples := range slices.Chunk(part.Samples, part.Width*part.Planes) {
			row := packedRow(samples, part.Depth)
			kind := slowBest(step, above, row)
			rows = append(rows, byte(kind))
			rows = append(rows, slowFilter(kind, step, above, row)...)
			above = row
		}
	}
	return rows
}

func headOf(s impl.Still) []byte {
	head := binary.BigEndian.AppendUint32(nil, uint32(s.Image.Width))
	head = binary.BigEndian.AppendUint32(head, uint32(s.Image.Height))
	head = append(head, byte(s.Image.Depth), byte(s.Image.Planes), 0, 0)
	if len(s.Palette) > 0 {
		head[10] = 1
	}
	if s.Woven {
		head[11] = 1
	}
	return head
}

// chunksAhead are those that stand ahead of the DATA.
func chunksAhead(s impl.Still) []impl.Chunk {
	list := []impl.Chunk{{Name: "HEAD", Data: headOf(s)}}
	if len(s.Palette) > 0 {
		pale := impl.Chunk{Name: "PALE"}
		for _, colour := range s.Palette {
			pale.Data = append(pale.Data, byte(colour/65536), byte(colour/256), byte(colour))
		}
		list = append(list, pale)
	}
	for _, n := range s.Notes {
		list = append(list, impl.Chunk{Name: "NOTE", Data: []byte(n.Key + "\x00" + n.Value)})
	}
	return list
}

// dataChunks cuts packed bytes into as many as are said.
func dataChunks(packed []byte, each int) []impl.Chunk {
	var list []impl.Chunk
	for part := range slices.Chunk(packed, each) {
		list = append(list, impl.Chunk{Name: "DATA", Data: slices.Clone(part)})
	}
	return list
}

func stillChunks(s impl.Still, kind int) []impl.Chunk {
	return slices.Concat(chunksAhead(s), dataChunks(impl.Wrap(slowRows(s), kind), 1000), []impl.Chunk{{Name: "DONE"}})
}

// checkStill asks for just the file that the document tells, and that it is read again.
func checkStill(t *testing.T, s impl.Still) {
	t.Helper()
	was := cloneStill(s)
	for kind := range 3 {
		file := impl.EncodeStill(s, kind)
		if !bytes.Equal(file, fileOf(stillChunks(was, kind)...)) {
			t.Fatalf("%s, kind %d: a file of %d bytes, another one than said", describedStill(s), kind, len(file))
		}
		kept := slices.Clone(file)
		got := impl.DecodeStill(file)
		if got.Err != 0 || !sameStill(got.Still, was) {
			t.Fatalf("%s, kind %d: read with error %d as %s", describedStill(s), kind, got.Err, describedStill(got.Still))
		}
		if !bytes.Equal(file, kept) || !sameStill(s, was) {
			t.Fatalf("%s, kind %d: an argument was written", describedStill(s), kind)
		}
	}
}

// bothWays is a still as it is, and with its rows the other way.
func bothWays(s impl.Still) []impl.Still {
	other := cloneStill(s)
	other.Woven = !s.Woven
	return []impl.Still{s, other}
}

func TestEncodeStillByHand(t *testing.T) {
	s := impl.Still{
		Image:   impl.Image{Width: 3, Height: 2, Planes: 1, Depth: 2, Samples: []int{0, 1, 2, 0, 2, 0}},
		Palette: []int{0x010203, 0xFFFEFD, 0x800040},
		Notes:   []impl.Note{{Key: "by", Value: "hand"}, {Key: "none"}},
	}
	// The rows pack to 18 and 20 (base 16): 18 as it is, 20 less 18 by what is above.
	rows := []byte{0, 0x18, 2, 0x08}
	file := slices.Concat(fileMark,
		pngChunk("HEAD", []byte{0, 0, 0, 3, 0, 0, 0, 2, 2, 1, 1, 0}),
		pngChunk("PALE", []byte{1, 2, 3, 255, 254, 253, 128, 0, 64}),
		pngChunk("NOTE", []byte("by\x00hand")), pngChunk("NOTE", []byte("none\x00")),
		pngChunk("DATA", wrapped([]byte{1, 4, 0, 251, 255, 0, 0x18, 2, 0x08}, rows)), pngChunk("DONE", nil))
	if got := impl.EncodeStill(s, impl.PackStored); !bytes.Equal(got, file) {
		t.Errorf("%x, not %x", got, file)
	}
	if got := impl.DecodeStill(file); got.Err != 0 || !sameStill(got.Still, s) {
		t.Errorf("%v", got)
	}
	s = impl.Still{Image: impl.Image{Width: 2, Height: 2, Planes: 3, Depth: 8, Samples: []int{1, 2, 3, 4, 5, 6, 7, 8, 9, 7, 8, 9}}, Woven: true}
	// The passes are 1 2 3; 4 5 6; 7 8 9 7 8 9: of the last row by what is ahead a pixel is left.
	rows = []byte{0, 1, 2, 3, 0, 4, 5, 6, 1, 7, 8, 9, 0, 0, 0}
	file = slices.Concat(fileMark,
		pngChunk("HEAD", []byte{0, 0, 0, 2, 0, 0, 0, 2, 8, 3, 0, 1}),
		pngChunk("DATA", wrapped(slices.Concat([]byte{1, 15, 0, 240, 255}, rows), rows)), pngChunk("DONE", nil))
	if got := impl.EncodeStill(s, impl.PackStored); !bytes.Equal(got, file) {
		t.Errorf("%x, not %x", got, file)
	}
	if got := impl.DecodeStill(file); got.Err != 0 || !sameStill(got.Still, s) {
		t.Errorf("%v", got)
	}
}

func TestStillsOfEachShapeAreReadAgain(t *testing.T) {
	r := rand.New(rand.NewPCG(5, 6))
	for planes := 1; planes <= 4; planes++ {
		for _, depth := range depthsOf(planes) {
			for _, c := range [][2]int{{1, 1}, {1, 9}, {9, 1}, {2, 2}, {5, 3}, {8, 8}, {17, 10}} {
				for _, s := range bothWays(impl.Still{Image: someImage(r, c[0], c[1], planes, depth)}) {
					checkStill(t, s)
				}
			}
		}
	}
}

func TestStillsOfAllSmallSidesAreReadAgain(t *testing.T) {
	r := rand.New(rand.NewPCG(5, 7))
	for width := 1; width <= 10; width++ {
		for height := 1; height <= 10; height++ {
			for _, s := range bothWays(impl.Still{Image: someImage(r, width, height, 1, 1)}) {
				checkStill(t, s)
			}
		}
	}
}

func TestSomeStillsAreReadAgain(t *testing.T) {
	r := rand.New(rand.NewPCG(5, 8))
	for range 250 {
		checkStill(t, someStill(r))
	}
}

// filteredImage has rows of which each kind of filter in its turn leaves little.
func filteredImage(r *rand.Rand, width int, height int, planes int, depth int) impl.Image {
	im := impl.Image{Width: width, Height: height, Planes: planes, Depth: depth}
	step := planes * depth / 8
	above := someBytes(r, width*step)
	for y := range height {
		left := make([]byte, width*step)
		for i := range left {
			left[i] = byte(r.IntN(5) - 2)
		}
		above = impl.UnfilterRow(y%filterKinds, step, above, left)
		im.Samples = append(im.Samples, impl.UnpackRow(above, width*planes, depth)...)
	}
	return im
}

func TestStillsOfEachKindOfFilterAreReadAgain(t *testing.T) {
	r := rand.New(rand.NewPCG(5, 15))
	for planes := 1; planes <= 4; planes++ {
		for _, depth := range []int{8, 16} {
			im := filteredImage(r, 16, 20, planes, depth)
			for _, s := range bothWays(impl.Still{Image: im}) {
				checkStill(t, s)
			}
			met := [filterKinds]int{}
			for row := range slices.Chunk(slowRows(impl.Still{Image: im}), 1+2*planes*depth) {
				met[row[0]]++
			}
			if slices.Contains(met[:], 0) {
				t.Errorf("%s: kinds of filters that were best: %v", described(im), met)
			}
		}
	}
}

func TestStillsAtTheirLimitsAreReadAgain(t *testing.T) {
	r := rand.New(rand.NewPCG(5, 9))
	checkStill(t, impl.Still{Image: someImage(r, 187, 16, 1, 16)})
	checkStill(t, impl.Still{Image: someImage(r, 78, 38, 1, 16), Woven: true})
	checkStill(t, impl.Still{Image: someImage(r, 4, 338, 4, 8), Woven: true})
	checkStill(t, impl.Still{Image: someImage(r, 512, 8, 1, 8)})
	checkStill(t, impl.Still{Image: someImage(r, 8, 512, 1, 8)})
	checkStill(t, impl.Still{Image: someImage(r, 512, 1, 4, 16)})
	s := impl.Still{Image: someImage(r, 64, 64, 1, 8), Palette: someColours(r, 256)}
	for range impl.MaxTexts {
		s.Notes = append(s.Notes, impl.Note{Key: someText(r, impl.MaxKey, 32, 126), Value: someText(r, 1000, 1, 255)})
	}
	for _, s := range bothWays(s) {
		checkStill(t, s)
	}
	for _, many := range []int{1, 2, 255, 256} {
		s := palettedStill(many, 0, many-1)
		for i := range s.Palette {
			s.Palette[i] = 16777215 - i*65793
		}
		checkStill(t, s)
	}
	for depth := 1; depth <= 8; depth *= 2 {
		checkStill(t, impl.Still{Image: someImage(r, 7, 5, 1, depth), Palette: someColours(r, 256)})
	}
}

// dataSizes has how many bytes each DATA has.
func dataSizes(t *testing.T, file []byte) []int {
	t.Helper()
	var list []int
	for _, c := range impl.ReadChunks(file).List {
		if c.Name == "DATA" {
			list = append(list, len(c.Data))
		}
	}
	return list
}

func TestEncodeStillPutsAThousandBytesIntoEachData(t *testing.T) {
	r := rand.New(rand.NewPCG(5, 10))
	// Stored, wrapped bytes are 11 more than the rows.
	for _, c := range []struct {
		width, height int
		sizes         []int
	}{
		{1, 1, []int{13}}, {37, 26, []int{999}}, {42, 23, []int{1000}}, {98, 10, []int{1000, 1}},
		{6, 284, []int{1000, 999}}, {220, 9, []int{1000, 1000}}, {198, 10, []int{1000, 1000, 1}}, {64, 64, []int{1000, 1000, 1000, 1000, 171}},
	} {
		s := impl.Still{Image: someImage(r, c.width, c.height, 1, 8)}
		if got := dataSizes(t, impl.EncodeStill(s, impl.PackStored)); !slices.Equal(got, c.sizes) {
			t.Errorf("%s: DATA of %v bytes, not %v", describedStill(s), got, c.sizes)
		}
		checkStill(t, s)
	}
	met := map[int]bool{}
	for kind := impl.PackFixed; kind <= impl.PackOwn; kind++ {
		for height := 1; height <= 60; height++ {
			s := impl.Still{Image: someImage(r, 25, height, 1, 8)}
			sizes := dataSizes(t, impl.EncodeStill(s, kind))
			last := len(sizes) - 1
			if last < 0 || sizes[last] < 1 || sizes[last] > 1000 || slices.ContainsFunc(sizes[:last], func(many int) bool { return many != 1000 }) {
				t.Errorf("%s, kind %d: DATA of %v bytes", describedStill(s), kind, sizes)
			}
			met[len(sizes)] = true
		}
	}
	if !met[1] || !met[2] {
		t.Errorf("how many DATA there were: %v", met)
	}
}

func TestEncodeStillOfKindsThatAreNone(t *testing.T) {
	r := rand.New(rand.NewPCG(5, 11))
	for _, kind := range []int{math.MinInt, -1, 3, 4, 256, math.MaxInt} {
		for range 5 {
			if got := impl.EncodeStill(someStill(r), kind); len(got) > 0 {
				t.Errorf("kind %d: a file of %d bytes", kind, len(got))
			}
		}
	}
}

func TestEncodeStillIsNewMemoryAndReadsNoFurther(t *testing.T) {
	for kind := range 3 {
		s := palettedStill(4, 0, 1, 2, 3)
		s.Notes = []impl.Note{{Key: "k", Value: "v"}}
		was := cloneStill(s)
		want := impl.EncodeStill(was, kind)
		clear(impl.EncodeStill(s, kind))
		s.Image.Samples = append(s.Image.Samples, 999)[:4]
		s.Palette = append(s.Palette, -5)[:4]
		s.Notes = append(s.Notes, impl.Note{})[:1]
		got := impl.EncodeStill(s, kind)
		if !bytes.Equal(got, want) || !sameStill(s, was) {
			t.Errorf("kind %d: another file, or the still was written", kind)
		}
		if s.Image.Samples[:5][4] != 999 || s.Palette[:5][4] != -5 || s.Notes[:2][1] != (impl.Note{}) {
			t.Errorf("kind %d: what lies behind was written", kind)
		}
	}
}

func TestEncodeStillTellsEachOfItsParts(t *testing.T) {
	s := palettedStill(2, 0, 1)
	s.Notes = []impl.Note{{Key: "a", Value: "b"}, {Key: "c", Value: "d"}}
	turned := cloneStill(s)
	slices.Reverse(turned.Notes)
	woven := cloneStill(s)
	woven.Woven = true
	bare := cloneStill(s)
	bare.Palette = nil
	files := map[string]string{}
	for i, s := range []impl.Still{s, turned, woven, bare} {
		file := string(impl.EncodeStill(s, impl.PackOwn))
		if other, ok := files[file]; ok {
			t.Errorf("stills %d and %s have the same file", i, other)
		}
		files[file] = strconv.Itoa(i)
		checkStill(t, s)
	}
}
