package tests

import (
	"bytes"
	"encoding/binary"
	"math/rand/v2"
	"slices"
	"strconv"
	"testing"

	"loop.example/g00016/impl"
)

// shorts has two bytes for each number, the lowest first.
func shorts(numbers ...int) []byte {
	var data []byte
	for _, n := range numbers {
		data = binary.LittleEndian.AppendUint16(data, uint16(n))
	}
	return data
}

func movingHead(m impl.Moving) []byte {
	head := append([]byte{77, 79, 86, 49}, shorts(m.Width, m.Height)...)
	head = append(head, byte(bitsOfNumber(len(m.Palette)-1)))
	for _, colour := range m.Palette {
		head = append(head, byte(colour), byte(colour/256), byte(colour/65536))
	}
	return append(head, shorts(m.Loops)...)
}

func frameHead(f impl.Frame) []byte {
	hollow := f.Hollow
	if hollow == -1 {
		hollow = 65535
	}
	return slices.Concat([]byte{44}, shorts(f.X, f.Y, f.Width, f.Height, f.Delay), []byte{byte(f.Dispose)}, shorts(hollow))
}

// blocksOf cuts bytes into blocks of so many, with the empty one behind them.
func blocksOf(data []byte, each int) []byte {
	var blocks []byte
	for block := range slices.Chunk(data, each) {
		blocks = append(append(blocks, byte(len(block))), block...)
	}
	return append(blocks, 0)
}

func bookBitsOf(m impl.Moving) int {
	return max(2, bitsOfNumber(len(m.Palette)-1))
}

func wordsOf(m impl.Moving, f impl.Frame) []byte {
	return slowTeller(bookBitsOf(m), f.Pixels).data()
}

// movingFile goes by the document's words.
func movingFile(m impl.Moving) []byte {
	file := movingHead(m)
	for _, f := range m.Frames {
		file = slices.Concat(file, frameHead(f), blocksOf(wordsOf(m, f), 255))
	}
	return append(file, 59)
}

// checkMoving asks for just the file that the document tells, and that it is read again.
func checkMoving(t *testing.T, m impl.Moving) {
	t.Helper()
	was := cloneMoving(m)
	file := impl.EncodeMoving(m)
	if want := movingFile(was); !bytes.Equal(file, want) {
		t.Fatalf("%s: a file of %d bytes, another one than the %d said", describedMoving(m), len(file), len(want))
	}
	kept := slices.Clone(file)
	got := impl.DecodeMoving(file)
	if got.Err != 0 || !sameMoving(got.Moving, was) {
		t.Fatalf("%s: read with error %d as %s", describedMoving(m), got.Err, describedMoving(got.Moving))
	}
	if !bytes.Equal(file, kept) || !sameMoving(m, was) {
		t.Fatalf("%s: an argument was written", describedMoving(m))
	}
}

func TestEncodeMovingByHand(t *testing.T) {
	m := impl.Moving{Width: 3, Height: 258, Palette: []int{0x010203, 0xFFFEFD}, Loops: 0x1234, Frames: []impl.Frame{
		{X: 1, Y: 257, Width: 2, Height: 1, Delay: 0xABCD, Dispose: 2, Hollow: -1, Pixels: []int{1, 1}},
		{X: 0, Y: 255, Width: 1, Height: 3, Delay: 0, Dispose: 0, Hollow: 1, Pixels: []int{0, 0, 0}},
	}}
	file := slices.Concat([]byte("MOV1"), []byte{3, 0, 2, 1, 1, 3, 2, 1, 0xFD, 0xFE, 0xFF, 0x34, 0x12},
		[]byte{44, 1, 0, 1, 1, 2, 0, 1, 0, 0xCD, 0xAB, 2, 255, 255, 2}, lowBytes("001"+"100"+"100"+"101"), []byte{0},
		[]byte{44, 0, 0, 255, 0, 1, 0, 3, 0, 0, 0, 0, 1, 0, 2}, lowBytes("001"+"000"+"011"+"101"), []byte{0}, []byte{59})
	if got := impl.EncodeMoving(m); !bytes.Equal(got, file) {
		t.Errorf("%x, not %x", got, file)
	}
	if got := impl.DecodeMoving(file); got.Err != 0 || !sameMoving(got.Moving, m) {
		t.Errorf("%v", got)
	}
}

func TestSomeMovingPicturesAreReadAgain(t *testing.T) {
	r := rand.New(rand.NewPCG(6, 7))
	for range 600 {
		checkMoving(t, someMoving(r))
	}
}

func TestMovingPicturesOfEachNumberOfColoursAreReadAgain(t *testing.T) {
	r := rand.New(rand.NewPCG(6, 8))
	for colours := 2; colours <= 256; colours *= 2 {
		m := plainMoving(20, 15, colours)
		m.Palette = someColours(r, colours)
		for hollow := -1; hollow < colours; hollow++ {
			m.Frames = []impl.Frame{someFrame(r, m)}
			m.Frames[0].Hollow = hollow
			checkMoving(t, m)
		}
		for pixel := range colours {
			m.Frames = []impl.Frame{{Width: 1, Height: 1, Hollow: -1, Pixels: []int{pixel}}}
			checkMoving(t, m)
		}
	}
}

func TestMovingPicturesAtTheirLimitsAreReadAgain(t *testing.T) {
	r := rand.New(rand.NewPCG(6, 9))
	for _, colours := range []int{2, 16, 256} {
		m := plainMoving(64, 64, colours)
		m.Palette, m.Loops = someColours(r, colours), 65535
		m.Frames = nil
		for i := range 4 {
			f := plainFrame(0, 0, 64, 64)
			f.Delay, f.Dispose, f.Hollow = 65535, i%3, colours-1
			for at := range f.Pixels {
				f.Pixels[at] = r.IntN(colours)
			}
			m.Frames = append(m.Frames, f)
		}
		checkMoving(t, m)
		if long := len(impl.EncodeMoving(m)); long > impl.MaxFile {
			t.Errorf("a file of %d bytes", long)
		}
		m.Frames = nil
		for range impl.MaxFrames {
			f := plainFrame(r.IntN(45), r.IntN(45), 20, 20)
			for at := range f.Pixels {
				f.Pixels[at] = r.IntN(colours)
			}
			m.Frames = append(m.Frames, f)
		}
		checkMoving(t, m)
	}
	for _, c := range [][2]int{{512, 8}, {8, 512}, {512, 1}, {1, 512}, {1, 1}} {
		m := plainMoving(c[0], c[1], 4)
		m.Frames = append(m.Frames, plainFrame(c[0]-1, c[1]-1, 1, 1), plainFrame(0, c[1]-1, c[0], 1), plainFrame(c[0]-1, 0, 1, c[1]))
		checkMoving(t, m)
	}
}

// blockSizes has how many bytes each block of a file with one frame has, the empty one too.
func blockSizes(m impl.Moving, file []byte) []int {
	blocks := file[len(movingHead(m))+len(frameHead(m.Frames[0])) : len(file)-1]
	var sizes []int
	for len(blocks) > 0 {
		sizes = append(sizes, int(blocks[0]))
		blocks = blocks[1+int(blocks[0]):]
	}
	return sizes
}

func TestEncodeMovingPutsAsManyBytesIntoABlockAsThereAre(t *testing.T) {
	met := map[int]bool{}
	words := slices.Concat(shortWords(8, 900)...)
	for many := 200; many < 700; many++ {
		m := impl.Moving{Width: 512, Height: 2, Palette: make([]int, 256)}
		m.Frames = []impl.Frame{plainFrame(0, 0, min(many, 512), 1)}
		if many > 512 {
			m.Frames[0] = plainFrame(0, 0, many/2, 2)
		}
		copy(m.Frames[0].Pixels, words)
		long := len(wordsOf(m, m.Frames[0]))
		met[long] = true
		var want []int
		for left := long; left > 0; left -= 255 {
			want = append(want, min(left, 255))
		}
		if got := blockSizes(m, impl.EncodeMoving(m)); !slices.Equal(got, append(want, 0)) {
			t.Errorf("%d bytes in blocks of %v", long, got)
		}
		checkMoving(t, m)
	}
	for _, long := range []int{254, 255, 256, 257, 509, 510, 511} {
		if !met[long] && !met[long+1] {
			t.Errorf("no words of %d bytes", long)
		}
	}
	if !met[255] || !met[510] {
		t.Error("no words that fill their blocks")
	}
}

func TestEncodeMovingTellsEachOfItsParts(t *testing.T) {
	base := plainMoving(4, 4, 4)
	base.Frames = []impl.Frame{plainFrame(1, 1, 2, 2), plainFrame(0, 0, 1, 1)}
	files := map[string]int{}
	for i, change := range []func(*impl.Moving){
		func(m *impl.Moving) {}, func(m *impl.Moving) { m.Width++ }, func(m *impl.Moving) { m.Height++ },
		func(m *impl.Moving) { m.Palette[3] = 1 }, func(m *impl.Moving) { m.Palette = make([]int, 8) }, func(m *impl.Moving) { m.Loops = 1 },
		func(m *impl.Moving) { m.Frames = m.Frames[:1] }, func(m *impl.Moving) { slices.Reverse(m.Frames) },
		func(m *impl.Moving) { m.Frames[1].X = 1 }, func(m *impl.Moving) { m.Frames[1].Y = 1 },
		func(m *impl.Moving) { m.Frames[1] = plainFrame(0, 0, 2, 1) }, func(m *impl.Moving) { m.Frames[1] = plainFrame(0, 0, 1, 2) },
		func(m *impl.Moving) { m.Frames[1].Delay = 1 }, func(m *impl.Moving) { m.Frames[1].Dispose = 1 },
		func(m *impl.Moving) { m.Frames[1].Hollow = 0 }, func(m *impl.Moving) { m.Frames[1].Pixels[0] = 1 },
	} {
		m := cloneMoving(base)
		change(&m)
		checkMoving(t, m)
		file := string(impl.EncodeMoving(m))
		if other, ok := files[file]; ok {
			t.Errorf("pictures %d and %d have the same file", i, other)
		}
		files[file] = i
	}
}

func TestEncodeMovingIsNewMemoryAndReadsNoFurther(t *testing.T) {
	m := plainMoving(3, 2, 4)
	want := movingFile(m)
	clear(impl.EncodeMoving(m))
	m.Palette = append(m.Palette, -5)[:4]
	m.Frames = append(m.Frames, impl.Frame{X: 7})[:1]
	m.Frames[0].Pixels = append(m.Frames[0].Pixels, 9)[:6]
	if got := impl.EncodeMoving(m); !bytes.Equal(got, want) {
		t.Errorf("%x, not %x", got, want)
	}
	if m.Palette[:5][4] != -5 || m.Frames[:2][1].X != 7 || m.Frames[0].Pixels[:7][6] != 9 {
		t.Error("what lies behind was written")
	}
}

func TestMovingPicturesOfFilledBooksAreReadAgain(t *testing.T) {
	for bits := 5; bits <= 8; bits++ {
		list := slices.Concat(shortWords(bits, 5000)...)
		for many := 4080; many <= 4096; many += 8 {
			m := plainMoving(8, 512, 1<<bits)
			m.Frames = []impl.Frame{plainFrame(0, 0, 8, many/8)}
			copy(m.Frames[0].Pixels, list)
			if told := slowTeller(bits, m.Frames[0].Pixels).told; bits == 8 && many == 4096 {
				full := slices.ContainsFunc(told, func(w telling) bool { return w.number == 256 && w.count == fullCount(8) })
				if !full {
					t.Errorf("%s pixels fill no book", strconv.Itoa(many))
				}
			}
			checkMoving(t, m)
		}
	}
}
