package tests

import (
	"bytes"
	"math/rand/v2"
	"slices"
	"strconv"
	"testing"

	"loop.example/g00016/impl"
)

// A fileWalker goes through a file byte by byte; it panics with the error.
type fileWalker struct {
	data []byte
	at   int
}

func (w *fileWalker) next() int {
	if w.at == len(w.data) {
		panic(impl.ErrShort)
	}
	w.at++
	return int(w.data[w.at-1])
}

func (w *fileWalker) short() int {
	low := w.next()
	return low + 256*w.next()
}

func (w *fileWalker) head() impl.Moving {
	for _, want := range []int{77, 79, 86, 49} {
		if w.next() != want {
			panic(impl.ErrCode)
		}
	}
	m := impl.Moving{Width: w.short(), Height: w.short()}
	k := w.next()
	if k < 1 || k > 8 {
		panic(impl.ErrRange)
	}
	for range 1 << k {
		low, middle, high := w.next(), w.next(), w.next()
		m.Palette = append(m.Palette, low+256*middle+65536*high)
	}
	m.Loops = w.short()
	if m.Width < 1 || m.Width > 512 || m.Height < 1 || m.Height > 512 || m.Width*m.Height > 4096 {
		panic(impl.ErrRange)
	}
	return m
}

func (w *fileWalker) blocks() []byte {
	var data []byte
	for many := w.next(); many > 0; many = w.next() {
		for range many {
			data = append(data, byte(w.next()))
		}
	}
	return data
}

func (w *fileWalker) frame(m impl.Moving) impl.Frame {
	if len(m.Frames) == 40 {
		panic(impl.ErrMany)
	}
	f := impl.Frame{X: w.short(), Y: w.short(), Width: w.short(), Height: w.short(), Delay: w.short(), Dispose: w.next(), Hollow: w.short()}
	if f.Hollow == 65535 {
		f.Hollow = -1
	}
	if f.Width < 1 || f.Height < 1 || f.X+f.Width > m.Width || f.Y+f.Height > m.Height || f.Dispose > 2 || f.Hollow >= len(m.Palette) {
		panic(impl.ErrRange)
	}
	pixels := f.Width * f.Height
	for _, other := range m.Frames {
		pixels += len(other.Pixels)
	}
	if pixels > 16384 {
		panic(impl.ErrMany)
	}
	data := w.blocks()
	words := slowUnwords(bookBitsOf(m), data, f.Width*f.Height)
	switch {
	case len(words.List) < f.Width*f.Height:
		panic(impl.ErrShort)
	case words.Next < len(data):
		panic(impl.ErrMore)
	case slices.Max(words.List) >= len(m.Palette):
		panic(impl.ErrRange)
	}
	f.Pixels = words.List
	return f
}

func (w *fileWalker) moving() impl.Moving {
	if len(w.data) > 60000 {
		panic(impl.ErrForm)
	}
	m := w.head()
	for {
		switch w.next() {
		case 44:
			m.Frames = append(m.Frames, w.frame(m))
		case 59:
			if len(m.Frames) == 0 {
				panic(impl.ErrRange)
			}
			if w.at < len(w.data) {
				panic(impl.ErrMore)
			}
			return m
		default:
			panic(impl.ErrCode)
		}
	}
}

func slowDecodeMoving(data []byte) impl.MovingRes {
	w := fileWalker{data: data}
	var m impl.Moving
	if err := codeOfPanic(func() { m = w.moving() }); err != 0 {
		return impl.MovingRes{Err: err}
	}
	return impl.MovingRes{Moving: m}
}

func checkMovingFile(t *testing.T, what string, data []byte, err int) {
	t.Helper()
	was := slices.Clone(data)
	got, want := impl.DecodeMoving(data), slowDecodeMoving(data)
	if got.Err != err || want.Err != err {
		t.Errorf("%s: error %d, not %d (a slow reader: %d)", what, got.Err, err, want.Err)
	}
	if !sameMoving(got.Moving, want.Moving) {
		t.Errorf("%s: read as %s, not %s", what, describedMoving(got.Moving), describedMoving(want.Moving))
	}
	if !bytes.Equal(data, was) {
		t.Errorf("%s: the data were written", what)
	}
	if got.Err == 0 && !impl.GoodMoving(got.Moving) {
		t.Errorf("%s: what is read is not good", what)
	}
}

// smallMoving has two frames, one of them with a Hollow.
func smallMoving() impl.Moving {
	m := plainMoving(3, 2, 4)
	m.Palette, m.Loops = []int{1, 0x020304, 0xFFFFFF, 0}, 7
	m.Frames[0].Pixels = []int{0, 1, 2, 3, 3, 3}
	f := plainFrame(1, 1, 2, 1)
	f.Delay, f.Dispose, f.Hollow = 9, 1, 2
	m.Frames = append(m.Frames, f)
	return m
}

func TestDecodeMovingOfTheFirstBytes(t *testing.T) {
	file := movingFile(smallMoving())
	checkMovingFile(t, "as it is", file, 0)
	for at := range 4 {
		for b := range 256 {
			data := slices.Clone(file)
			data[at] = byte(b)
			want := 0
			if data[at] != file[at] {
				want = impl.ErrCode
			}
			checkMovingFile(t, "first bytes", data, want)
			if want != 0 {
				checkMovingFile(t, "first bytes, nothing behind", data[:at+1], want)
			}
		}
		checkMovingFile(t, "first bytes alone", file[:at], impl.ErrShort)
	}
	checkMovingFile(t, "nothing", nil, impl.ErrShort)
	checkMovingFile(t, "an empty list", []byte{}, impl.ErrShort)
	checkMovingFile(t, "the first bytes of a still", fileMark, impl.ErrCode)
}

func TestDecodeMovingOfFilesCutAtEachByte(t *testing.T) {
	r := rand.New(rand.NewPCG(6, 10))
	for range 25 {
		file := movingFile(someMoving(r))
		for many := range file {
			checkMovingFile(t, "cut to "+strconv.Itoa(many), file[:many], impl.ErrShort)
		}
	}
}

func TestDecodeMovingOfPaletteSizes(t *testing.T) {
	m := smallMoving()
	file := movingFile(m)
	for k := range 256 {
		data := slices.Clone(file)
		data[8] = byte(k)
		if k < 1 || k > 8 {
			checkMovingFile(t, "k "+strconv.Itoa(k), data, impl.ErrRange)
			checkMovingFile(t, "k, nothing behind", data[:9], impl.ErrRange)
			data[4], data[5] = 0, 0
			checkMovingFile(t, "k, and no columns", data[:9], impl.ErrRange)
		} else {
			checkMovingFile(t, "k alone", data[:9], impl.ErrShort)
		}
		data[0] = 1
		checkMovingFile(t, "k, and another first byte", data, impl.ErrCode)
	}
	for colours := 2; colours <= 256; colours *= 2 {
		checkMovingFile(t, "so many colours", movingFile(plainMoving(3, 2, colours)), 0)
	}
}

func TestDecodeMovingOfHeads(t *testing.T) {
	for _, c := range []struct {
		width, height int
		good          bool
	}{
		{1, 1, true}, {512, 8, true}, {8, 512, true}, {64, 64, true}, {241, 16, true},
		{0, 1, false}, {1, 0, false}, {0, 0, false}, {513, 1, false}, {1, 513, false}, {64, 65, false}, {512, 9, false}, {9, 512, false},
		{65535, 1, false}, {1, 65535, false}, {65535, 65535, false}, {256, 17, false}, {258, 1, true}, {3, 259, true},
	} {
		m := plainMoving(1, 1, 2)
		m.Width, m.Height, m.Loops = c.width, c.height, 513
		file, head := movingFile(m), movingHead(m)
		what := sides(c.width, c.height)
		for many := range head {
			checkMovingFile(t, what+", a head that is cut", head[:many], impl.ErrShort)
		}
		if c.good {
			checkMovingFile(t, what, file, 0)
			checkMovingFile(t, what+", the head alone", head, impl.ErrShort)
			continue
		}
		checkMovingFile(t, what, file, impl.ErrRange)
		checkMovingFile(t, what+", the head alone", head, impl.ErrRange)
		checkMovingFile(t, what+", another byte behind", append(head, 7), impl.ErrRange)
	}
	for _, loops := range []int{0, 1, 255, 256, 32768, 65535} {
		m := smallMoving()
		m.Loops = loops
		checkMovingFile(t, "Loops", movingFile(m), 0)
	}
}

func TestDecodeMovingOfMarks(t *testing.T) {
	m := smallMoving()
	head := movingHead(m)
	first := slices.Concat(frameHead(m.Frames[0]), blocksOf(wordsOf(m, m.Frames[0]), 255))
	for mark := range 256 {
		if mark == 44 || mark == 59 {
			continue
		}
		checkMovingFile(t, "a mark "+strconv.Itoa(mark), append(slices.Clone(head), byte(mark)), impl.ErrCode)
		checkMovingFile(t, "a mark behind a frame", slices.Concat(head, first, []byte{byte(mark)}), impl.ErrCode)
		checkMovingFile(t, "a mark, more behind", slices.Concat(head, first, []byte{byte(mark), 59}), impl.ErrCode)
	}
	checkMovingFile(t, "no frame", append(slices.Clone(head), 59), impl.ErrRange)
	checkMovingFile(t, "no frame, bytes behind", append(slices.Clone(head), 59, 59), impl.ErrRange)
	checkMovingFile(t, "one frame", slices.Concat(head, first, []byte{59}), 0)
	for _, behind := range [][]byte{{0}, {59}, {44}, {255, 255}, first, make([]byte, 5000)} {
		checkMovingFile(t, "bytes behind", slices.Concat(head, first, []byte{59}, behind), impl.ErrMore)
	}
	checkMovingFile(t, "no last mark", slices.Concat(head, first), impl.ErrShort)
	checkMovingFile(t, "an empty block more", slices.Concat(head, first, []byte{0, 59}), impl.ErrCode)
}

func TestDecodeMovingOfHowManyFrames(t *testing.T) {
	m := smallMoving()
	for _, many := range []int{1, 2, 39, 40, 41, 42, 100} {
		m.Frames = slices.Repeat([]impl.Frame{plainFrame(1, 0, 2, 2)}, many)
		want := 0
		if many > 40 {
			want = impl.ErrMany
		}
		checkMovingFile(t, strconv.Itoa(many)+" frames", movingFile(m), want)
	}
	m.Frames = slices.Repeat([]impl.Frame{plainFrame(1, 0, 2, 2)}, 40)
	file := movingFile(m)
	file = file[:len(file)-1]
	checkMovingFile(t, "40 frames and 44", append(slices.Clone(file), 44), impl.ErrMany)
	checkMovingFile(t, "40 frames and a frame that may not be", slices.Concat(file, frameHead(impl.Frame{})), impl.ErrMany)
	checkMovingFile(t, "40 frames and another mark", append(slices.Clone(file), 45), impl.ErrCode)
	checkMovingFile(t, "40 frames", file, impl.ErrShort)
}

func TestDecodeMovingOfFramesThatMayNotBe(t *testing.T) {
	for _, c := range []struct {
		what string
		f    impl.Frame
		good bool
	}{
		{"all of it", plainFrame(0, 0, 3, 2), true}, {"the last pixel", plainFrame(2, 1, 1, 1), true},
		{"no columns", plainFrame(0, 0, 0, 1), false}, {"no rows", plainFrame(0, 0, 1, 0), false},
		{"a column beyond", plainFrame(0, 0, 4, 1), false}, {"a row beyond", plainFrame(0, 0, 1, 3), false},
		{"a column beyond from the last one", plainFrame(2, 0, 2, 1), false}, {"a row beyond from the last one", plainFrame(0, 1, 1, 2), false},
		{"behind the last column", plainFrame(3, 0, 1, 1), false}, {"behind the last row", plainFrame(0, 2, 1, 1), false},
		{"no columns behind the last one", plainFrame(3, 0, 0, 1), false}, {"no rows behind the last one", plainFrame(0, 2, 1, 0), false},
		{"columns that wrap at 16 bits", plainFrame(65535, 0, 2, 1), false}, {"rows that wrap at 16 bits", plainFrame(0, 65535, 1, 2), false},
		{"as many columns as can be told", impl.Frame{Width: 65535, Height: 1}, false}, {"as many rows as can be told", impl.Frame{Width: 1, Height: 65535}, false},
		{"Dispose 2", impl.Frame{Width: 1, Height: 1, Dispose: 2, Pixels: []int{0}}, true}, {"Dispose 3", impl.Frame{Width: 1, Height: 1, Dispose: 3, Pixels: []int{0}}, false},
		{"Dispose 255", impl.Frame{Width: 1, Height: 1, Dispose: 255, Pixels: []int{0}}, false},
		{"Delay 65535", impl.Frame{Width: 1, Height: 1, Delay: 65535, Pixels: []int{0}}, true},
		{"Hollow 3", impl.Frame{Width: 1, Height: 1, Hollow: 3, Pixels: []int{0}}, true}, {"Hollow 4", impl.Frame{Width: 1, Height: 1, Hollow: 4, Pixels: []int{0}}, false},
		{"Hollow 255", impl.Frame{Width: 1, Height: 1, Hollow: 255, Pixels: []int{0}}, false}, {"Hollow 65534", impl.Frame{Width: 1, Height: 1, Hollow: 65534, Pixels: []int{0}}, false},
	} {
		for _, ahead := range []int{0, 1, 3} {
			m := smallMoving()
			m.Frames = slices.Repeat(m.Frames[1:], ahead)
			file := movingFile(m)
			head := slices.Concat(file[:len(file)-1], frameHead(c.f))
			want, short := 0, impl.ErrShort
			if !c.good {
				want, short = impl.ErrRange, impl.ErrRange
			}
			checkMovingFile(t, c.what, slices.Concat(head, blocksOf(slowTeller(2, c.f.Pixels).data(), 255), []byte{59}), want)
			checkMovingFile(t, c.what+", nothing behind", head, short)
			checkMovingFile(t, c.what+", a byte fewer", head[:len(head)-1], impl.ErrShort)
		}
	}
}

func TestDecodeMovingOfAllPixelsTogether(t *testing.T) {
	m := plainMoving(64, 64, 2)
	m.Frames = slices.Repeat(m.Frames, 4)
	file := movingFile(m)
	checkMovingFile(t, "just as many as may be", file, 0)
	file = file[:len(file)-1]
	checkMovingFile(t, "one more", slices.Concat(file, frameHead(plainFrame(5, 5, 1, 1))), impl.ErrMany)
	checkMovingFile(t, "one more, in a frame that may not be", slices.Concat(file, frameHead(plainFrame(64, 5, 1, 1))), impl.ErrRange)
	checkMovingFile(t, "one more, a byte fewer", slices.Concat(file, frameHead(plainFrame(5, 5, 1, 1))[:13]), impl.ErrShort)
	m.Frames[2] = plainFrame(1, 0, 63, 64)
	m.Frames = append(m.Frames, plainFrame(0, 63, 64, 1))
	file = movingFile(m)
	checkMovingFile(t, "as many again", file, 0)
	checkMovingFile(t, "and one more", slices.Concat(file[:len(file)-1], frameHead(plainFrame(0, 0, 1, 1)), []byte{0, 59}), impl.ErrMany)
}

func TestDecodeMovingOfWords(t *testing.T) {
	m := plainMoving(3, 1, 4)
	head := slices.Concat(movingHead(m), frameHead(m.Frames[0]))
	for _, c := range []struct {
		what string
		data []byte
		err  int
	}{
		{"as they are", lowBytes("001" + "000" + "011" + "101"), 0},
		{"told otherwise", lowBytes("001" + "000" + "000" + "000" + "1010"), 0},
		{"with clears", lowBytes("001" + "001" + "000" + "001" + "000" + "000" + "101"), 0},
		{"nothing", nil, impl.ErrShort},
		{"no clear", lowBytes("000" + "000" + "000" + "101"), impl.ErrOrder},
		{"end first", lowBytes("101"), impl.ErrOrder},
		{"a word that is none", lowBytes("001" + "000" + "111" + "101"), impl.ErrCode},
		{"a word that is none behind enough", lowBytes("001" + "000" + "000" + "000" + "1001" + "1010"), impl.ErrCode},
		{"no end", lowBytes("001" + "000" + "01"), impl.ErrShort},
		{"no end behind enough", lowBytes("001" + "000" + "011" + "001" + "001"), impl.ErrShort},
		{"one more", lowBytes("001" + "000" + "011" + "000" + "1010"), impl.ErrMany},
		{"one more and no end", lowBytes("001" + "000" + "011" + "0000000"), impl.ErrMany},
		{"one fewer", lowBytes("001" + "000" + "000" + "101"), impl.ErrShort},
		{"none", lowBytes("001" + "101"), impl.ErrShort},
		{"one fewer and a byte behind", append(lowBytes("001"+"000"+"000"+"101"), 0), impl.ErrShort},
		{"a byte behind", append(lowBytes("001"+"000"+"011"+"101"), 0), impl.ErrMore},
		{"many bytes behind", append(lowBytes("001"+"000"+"011"+"101"), make([]byte, 3000)...), impl.ErrMore},
		{"all of it twice", slices.Repeat(lowBytes("001"+"000"+"011"+"101"), 2), impl.ErrMore},
		{"bits left over", lowBytes("001" + "000" + "011" + "101" + "1111"), 0},
	} {
		for _, each := range []int{1, 2, 100, 254, 255} {
			file := slices.Concat(head, blocksOf(c.data, each), []byte{59})
			checkMovingFile(t, c.what+", blocks of "+strconv.Itoa(each), file, c.err)
			if c.err != 0 {
				checkMovingFile(t, c.what+", nothing behind", file[:len(file)-1], c.err)
				checkMovingFile(t, c.what+", no empty block behind", file[:len(file)-2], impl.ErrShort)
			}
		}
	}
	behind := slices.Concat(head, blocksOf(lowBytes("001"+"000"+"011"+"101"), 255)[:3], []byte{1, 0, 0, 59})
	checkMovingFile(t, "a block behind the words", behind, impl.ErrMore)
	early := slices.Concat(head, []byte{1}, lowBytes("001" + "000" + "011" + "101")[:1], []byte{0, 1}, lowBytes("001" + "000" + "011" + "101")[1:], []byte{0, 59})
	checkMovingFile(t, "an empty block within the words", early, impl.ErrShort)
}

func TestDecodeMovingOfNumbersThatAreNoColours(t *testing.T) {
	// Two colours alone have fewer bits than the book.
	m := plainMoving(2, 2, 2)
	for at := range 4 {
		for number := range 4 {
			m.Frames[0].Pixels = make([]int, 4)
			m.Frames[0].Pixels[at] = number
			want := 0
			if number > 1 {
				want = impl.ErrRange
			}
			file := movingFile(m)
			checkMovingFile(t, "a number "+strconv.Itoa(number), file, want)
			if want == 0 {
				continue
			}
			checkMovingFile(t, "a number that is no colour, and no more", file[:len(file)-1], want)
			words := append(wordsOf(m, m.Frames[0]), 0)
			more := slices.Concat(movingHead(m), frameHead(m.Frames[0]), blocksOf(words, 255), []byte{59})
			checkMovingFile(t, "a number that is no colour, and a byte behind", more, impl.ErrMore)
			fewer := slices.Concat(movingHead(m), frameHead(m.Frames[0]), blocksOf(slowTeller(2, []int{0, 3, 2}).data(), 255), []byte{59})
			checkMovingFile(t, "numbers that are no colours, and one fewer", fewer, impl.ErrShort)
		}
	}
	for colours := 4; colours <= 256; colours *= 2 {
		m := plainMoving(2, 2, colours)
		m.Frames[0].Pixels[3] = colours - 1
		checkMovingFile(t, "the last colour", movingFile(m), 0)
	}
}

// clearedWords are the words of a list behind as many clears as fill that many bytes just.
func clearedWords(bits int, list []int, many int) []byte {
	w := teller{bits: bits}
	w.clear()
	tail := slowTeller(bits, list)
	for len(w.text)+bits+1+len(tail.text) <= 8*many {
		w.clear()
	}
	w.text = append(w.text, tail.text...)
	return w.data()
}

func TestDecodeMovingOfFilesAsLongAsMayBe(t *testing.T) {
	m := plainMoving(64, 64, 4)
	for more := -1; more <= 2; more++ {
		head := slices.Concat(movingHead(m), frameHead(m.Frames[0]))
		room := impl.MaxFile + more - len(head) - 2
		blocks := room / 256
		words := clearedWords(2, m.Frames[0].Pixels, room-blocks-1)
		file := slices.Concat(head, blocksOf(words, 255), []byte{59})
		if len(file) != impl.MaxFile+more {
			t.Fatalf("%d bytes", len(file))
		}
		want := 0
		if more > 0 {
			want = impl.ErrForm
		}
		checkMovingFile(t, strconv.Itoa(more)+" bytes more than may be", file, want)
	}
	file := movingFile(m)
	checkMovingFile(t, "bytes behind, as many as may be", append(file, make([]byte, impl.MaxFile-len(file))...), impl.ErrMore)
	checkMovingFile(t, "bytes behind, one more", append(file, make([]byte, impl.MaxFile-len(file)+1)...), impl.ErrForm)
	checkMovingFile(t, "no good bytes, one more than may be", make([]byte, impl.MaxFile+1), impl.ErrForm)
	checkMovingFile(t, "no good bytes, as many as may be", make([]byte, impl.MaxFile), impl.ErrCode)
}

// changedMoving is the file of a picture that need not be good any more: one or two numbers of it are changed.
func changedMoving(r *rand.Rand, m impl.Moving) []byte {
	m = cloneMoving(m)
	f := &m.Frames[r.IntN(len(m.Frames))]
	switch r.IntN(15) {
	case 0:
		f.X = r.IntN(m.Width + 2)
	case 1:
		f.Y = r.IntN(m.Height + 2)
	case 2:
		f.Width = r.IntN(m.Width + 2)
	case 3:
		f.Height = r.IntN(m.Height + 2)
	case 4:
		f.Dispose = r.IntN(5)
	case 5:
		f.Hollow = r.IntN(2 * len(m.Palette))
	case 6:
		f.Pixels = append(f.Pixels, 0)
	case 7:
		f.Pixels = f.Pixels[:len(f.Pixels)-1]
	case 8:
		f.Pixels[r.IntN(len(f.Pixels))] = r.IntN(1 << bookBitsOf(m))
	case 9:
		m.Width = []int{0, 1, 513, m.Width + 1}[r.IntN(4)]
	case 10:
		m.Height = []int{0, 1, 513, m.Height + 1}[r.IntN(4)]
	case 11:
		m.Frames = slices.Repeat(m.Frames, 1+r.IntN(50/len(m.Frames)))
	case 12:
		m.Frames = nil
	case 13:
		return append(movingFile(m), byte(r.IntN(256)))
	}
	return movingFile(m)
}

func TestDecodeMovingOfPicturesThatAreChanged(t *testing.T) {
	r := rand.New(rand.NewPCG(6, 11))
	var met [9]int
	for range 6000 {
		m := someMoving(r)
		if r.IntN(3) == 0 {
			m = smallMoving()
		}
		data := changedMoving(r, m)
		for range max(0, r.IntN(4)-2) {
			data = hurt(r, data)
		}
		want := slowDecodeMoving(data).Err
		met[want]++
		checkMovingFile(t, "a changed "+describedMoving(m), data, want)
	}
	for _, err := range []int{0, impl.ErrShort, impl.ErrCode, impl.ErrRange, impl.ErrMany, impl.ErrMore} {
		if met[err] < 20 {
			t.Errorf("error %d was met %d times", err, met[err])
		}
	}
}

func TestDecodeMovingOfEachBitTurned(t *testing.T) {
	r := rand.New(rand.NewPCG(6, 12))
	var met [9]int
	for _, m := range []impl.Moving{smallMoving(), plainMoving(3, 3, 2), someMoving(r), someMoving(r)} {
		file := movingFile(m)
		for bit := range 8 * len(file) {
			data := slices.Clone(file)
			data[bit/8] ^= 1 << (bit % 8)
			want := slowDecodeMoving(data).Err
			met[want]++
			checkMovingFile(t, "bit "+strconv.Itoa(bit), data, want)
		}
	}
	for err := impl.ErrShort; err <= impl.ErrMore; err++ {
		if met[err] == 0 && err != impl.ErrSum {
			t.Errorf("error %d was not met", err)
		}
	}
}

func TestDecodeMovingOfAnyBytes(t *testing.T) {
	r := rand.New(rand.NewPCG(6, 13))
	for range 4000 {
		data := someBytes(r, r.IntN(80))
		checkMovingFile(t, "any bytes", data, slowDecodeMoving(data).Err)
		data = slices.Concat([]byte("MOV1"), data)
		checkMovingFile(t, "any bytes behind the first ones", data, slowDecodeMoving(data).Err)
		m := smallMoving()
		data = slices.Concat(movingHead(m), frameHead(m.Frames[r.IntN(2)]), someBytes(r, r.IntN(12)))
		checkMovingFile(t, "any bytes behind a frame's head", data, slowDecodeMoving(data).Err)
		data = hurt(r, movingFile(someMoving(r)))
		checkMovingFile(t, "hurt bytes", data, slowDecodeMoving(data).Err)
	}
}

func TestDecodeMovingOfTheFaultThatIsMetFirst(t *testing.T) {
	m := smallMoving()
	bad := cloneMoving(m)
	bad.Frames[0].Dispose = 3
	bad.Frames[1].Pixels = []int{0}
	checkMovingFile(t, "a frame that may not be ahead of one with fewer numbers", movingFile(bad), impl.ErrRange)
	bad = cloneMoving(m)
	bad.Frames[0].Pixels = []int{0, 1, 2, 3, 3}
	bad.Frames[1].Dispose = 3
	checkMovingFile(t, "fewer numbers ahead of a frame that may not be", movingFile(bad), impl.ErrShort)
	bad.Frames[0].Pixels = []int{0, 1, 2, 3, 3, 3, 3}
	checkMovingFile(t, "more numbers ahead of a frame that may not be", movingFile(bad), impl.ErrMany)
	checkMovingFile(t, "more numbers, bytes behind", append(movingFile(bad), 1), impl.ErrMany)
	bad = cloneMoving(m)
	bad.Width = 513
	bad.Frames = nil
	checkMovingFile(t, "no good sides and no frame", movingFile(bad), impl.ErrRange)
	checkMovingFile(t, "no good sides and another mark", append(movingHead(bad), 1), impl.ErrRange)
	bad = cloneMoving(m)
	bad.Frames[1].Hollow = 4
	bad.Frames[1].Width = 3
	checkMovingFile(t, "a frame that may not be in two ways", movingFile(bad), impl.ErrRange)
	checkMovingFile(t, "a good picture behind a good one", slices.Concat(movingFile(m), movingFile(m)), impl.ErrMore)
}

func TestDecodeMovingIsNewMemory(t *testing.T) {
	m := smallMoving()
	file := movingFile(m)
	got := impl.DecodeMoving(file)
	kept := slices.Clone(file)
	_ = append(got.Moving.Palette, 9, 9, 9)
	_ = append(got.Moving.Frames, impl.Frame{})
	for i := range got.Moving.Frames {
		_ = append(got.Moving.Frames[i].Pixels, 9, 9, 9)
	}
	if !sameMoving(got.Moving, m) || !bytes.Equal(file, kept) {
		t.Error("lists share memory")
	}
	clear(file)
	if !sameMoving(got.Moving, m) {
		t.Error("the picture hangs on the file")
	}
	for i := range got.Moving.Frames {
		clear(got.Moving.Frames[i].Pixels)
		m.Frames[i].Pixels = make([]int, len(m.Frames[i].Pixels))
		if !sameMoving(got.Moving, m) {
			t.Error("frames share memory")
		}
	}
	clear(got.Moving.Palette)
	clear(got.Moving.Frames)
	checkMovingFile(t, "read again", kept, 0)
	for many := range kept {
		data := slices.Clone(kept)[:many]
		checkMovingFile(t, "what lies behind", data, impl.ErrShort)
	}
}
