package tests

import (
	"math"
	"math/rand/v2"
	"slices"
	"strconv"
	"testing"

	"loop.example/g00016/impl"
)

// plainFrame has pixels of 0 alone and no Hollow.
func plainFrame(x int, y int, width int, height int) impl.Frame {
	return impl.Frame{X: x, Y: y, Width: width, Height: height, Hollow: -1, Pixels: make([]int, width*height)}
}

// plainMoving has one frame that fills it.
func plainMoving(width int, height int, colours int) impl.Moving {
	return impl.Moving{Width: width, Height: height, Palette: make([]int, colours), Frames: []impl.Frame{plainFrame(0, 0, width, height)}}
}

func someFrame(r *rand.Rand, m impl.Moving) impl.Frame {
	f := impl.Frame{X: r.IntN(m.Width), Y: r.IntN(m.Height), Delay: []int{0, 65535, r.IntN(65536)}[r.IntN(3)], Dispose: r.IntN(3), Hollow: -1}
	f.Width, f.Height = 1+r.IntN(m.Width-f.X), 1+r.IntN(m.Height-f.Y)
	if r.IntN(2) == 0 {
		f.Hollow = r.IntN(len(m.Palette))
	}
	f.Pixels = make([]int, f.Width*f.Height)
	few := 1 + r.IntN(len(m.Palette))
	for i := range f.Pixels {
		f.Pixels[i] = r.IntN(few)
	}
	return f
}

// someMoving is a good one.
func someMoving(r *rand.Rand) impl.Moving {
	m := impl.Moving{Width: 1 + r.IntN(14), Height: 1 + r.IntN(14), Palette: someColours(r, 2<<r.IntN(8))}
	m.Loops = []int{0, 1, 65535, r.IntN(65536)}[r.IntN(4)]
	for range 1 + r.IntN(6) {
		m.Frames = append(m.Frames, someFrame(r, m))
	}
	return m
}

func cloneMoving(m impl.Moving) impl.Moving {
	m.Palette, m.Frames = slices.Clone(m.Palette), slices.Clone(m.Frames)
	for i := range m.Frames {
		m.Frames[i].Pixels = slices.Clone(m.Frames[i].Pixels)
	}
	return m
}

func sameFrame(a, b impl.Frame) bool {
	return a.X == b.X && a.Y == b.Y && a.Width == b.Width && a.Height == b.Height && a.Delay == b.Delay &&
		a.Dispose == b.Dispose && a.Hollow == b.Hollow && slices.Equal(a.Pixels, b.Pixels)
}

func sameMoving(a, b impl.Moving) bool {
	return a.Width == b.Width && a.Height == b.Height && a.Loops == b.Loops &&
		slices.Equal(a.Palette, b.Palette) && slices.EqualFunc(a.Frames, b.Frames, sameFrame)
}

func describedMoving(m impl.Moving) string {
	return "picture of " + sides(m.Width, m.Height) + ", colours and frames " + sides(len(m.Palette), len(m.Frames))
}

// checkGoodMoving asks what hangs on it too: none that is not good has a file or screens.
func checkGoodMoving(t *testing.T, what string, m impl.Moving, want bool) {
	t.Helper()
	was := cloneMoving(m)
	if got := impl.GoodMoving(m); got != want {
		t.Errorf("%s: %s: good is %v", what, describedMoving(m), got)
	}
	if got := impl.EncodeMoving(m); (len(got) > 0) != want {
		t.Errorf("%s: %s: a file of %d bytes", what, describedMoving(m), len(got))
	}
	if got := impl.Screens(m); want && len(got) != len(m.Frames) || !want && len(got) > 0 {
		t.Errorf("%s: %s: %d screens", what, describedMoving(m), len(got))
	}
	if !sameMoving(m, was) {
		t.Errorf("%s: the picture was written", what)
	}
}

// farNumbers are those that may be beyond an int once something is added to them, or taken away.
var farNumbers = []int{math.MinInt, math.MinInt + 1, math.MinInt + 512, -1 << 32, -65536, -512, 1 << 31, 1 << 32, 1<<32 + 1, math.MaxInt - 512, math.MaxInt - 1, math.MaxInt}

func TestGoodMovingOfTheZeroValue(t *testing.T) {
	checkGoodMoving(t, "the zero value", impl.Moving{}, false)
	m := plainMoving(1, 1, 2)
	checkGoodMoving(t, "the least", m, true)
	m.Frames[0] = impl.Frame{}
	checkGoodMoving(t, "the zero value of a frame", m, false)
}

func TestGoodMovingOfSides(t *testing.T) {
	for _, c := range []struct {
		width, height int
		good          bool
	}{
		{1, 1, true}, {512, 1, true}, {1, 512, true}, {512, 8, true}, {8, 512, true}, {64, 64, true}, {63, 65, true}, {241, 16, true}, {17, 240, true},
		{0, 1, false}, {1, 0, false}, {0, 0, false}, {-1, 1, false}, {1, -1, false}, {-1, -1, false}, {513, 1, false}, {1, 513, false},
		{512, 9, false}, {9, 512, false}, {64, 65, false}, {241, 17, false}, {512, 512, false}, {1 << 32, 1 << 32, false},
		{math.MaxInt, 2, false}, {2, math.MaxInt, false}, {math.MinInt, math.MinInt, false}, {-64, -64, false},
	} {
		m := plainMoving(1, 1, 2)
		m.Width, m.Height = c.width, c.height
		checkGoodMoving(t, "with a frame of one pixel", m, c.good)
		if c.good {
			checkGoodMoving(t, "with a frame that fills it", plainMoving(c.width, c.height, 2), true)
			m.Frames[0] = plainFrame(c.width-1, c.height-1, 1, 1)
			checkGoodMoving(t, "with its last pixel", m, true)
		}
	}
}

func TestGoodMovingOfColours(t *testing.T) {
	for many := range 600 {
		good := slices.Contains([]int{2, 4, 8, 16, 32, 64, 128, 256}, many)
		checkGoodMoving(t, "so many colours", plainMoving(2, 2, many), good)
	}
	for _, many := range []int{1024, 4096, 65536} {
		checkGoodMoving(t, "so many colours", plainMoving(2, 2, many), false)
	}
	for _, c := range append(slices.Clone(farNumbers), -1, 0, 1, 16777214, 16777215, 16777216, 1<<24+5) {
		for at := range 4 {
			m := plainMoving(2, 2, 4)
			m.Palette[at] = c
			checkGoodMoving(t, "the colour "+strconv.Itoa(c), m, c >= 0 && c <= 16777215)
		}
	}
}

func TestGoodMovingOfLoops(t *testing.T) {
	for _, loops := range append(slices.Clone(farNumbers), -2, -1, 0, 1, 65534, 65535, 65536, 65537) {
		m := plainMoving(2, 2, 4)
		m.Loops = loops
		checkGoodMoving(t, "Loops of "+strconv.Itoa(loops), m, loops >= 0 && loops <= 65535)
	}
}

func TestGoodMovingOfHowManyFrames(t *testing.T) {
	for many := range 100 {
		m := plainMoving(2, 2, 4)
		m.Frames = nil
		for i := range many {
			m.Frames = append(m.Frames, plainFrame(i%2, i/2%2, 1, 1))
		}
		checkGoodMoving(t, "so many frames", m, many >= 1 && many <= 40)
	}
	m := plainMoving(2, 2, 4)
	m.Frames = []impl.Frame{}
	checkGoodMoving(t, "an empty list of frames", m, false)
}

// withFrame is a good picture of 5 by 4 whose second frame is this one.
func withFrame(f impl.Frame) impl.Moving {
	m := plainMoving(5, 4, 4)
	m.Frames = []impl.Frame{plainFrame(1, 1, 2, 2), f, plainFrame(0, 0, 5, 4)}
	return m
}

func TestGoodMovingOfPlacesOfFrames(t *testing.T) {
	for x := -2; x <= 6; x++ {
		for width := -1; width <= 7; width++ {
			good := x >= 0 && width >= 1 && x+width <= 5
			checkGoodMoving(t, "columns "+sides(x, width), withFrame(plainFrame(x, 3, max(width, 0), 1)), good && width >= 0)
			f := plainFrame(x, 2, max(width, 0), 2)
			f.Width = width
			checkGoodMoving(t, "columns and two rows "+sides(x, width), withFrame(f), good)
		}
	}
	for y := -2; y <= 5; y++ {
		for height := -1; height <= 6; height++ {
			good := y >= 0 && height >= 1 && y+height <= 4
			f := plainFrame(4, y, 1, max(height, 0))
			f.Height = height
			checkGoodMoving(t, "rows "+sides(y, height), withFrame(f), good)
		}
	}
	f := plainFrame(1, 1, 2, 2)
	f.Width, f.Height = -2, -2
	checkGoodMoving(t, "both sides below 0, their product as many as the pixels", withFrame(f), false)
}

func TestGoodMovingOfPlacesBeyondAnInt(t *testing.T) {
	for _, n := range farNumbers {
		for _, m := range append(slices.Clone(farNumbers), -1, 0, 1, 2, 5) {
			for i := range 4 {
				f := plainFrame(1, 1, 1, 1)
				switch i {
				case 0:
					f.X, f.Width = n, m
				case 1:
					f.X, f.Width = m, n
				case 2:
					f.Y, f.Height = n, m
				case 3:
					f.Y, f.Height = m, n
				}
				for many := range 3 {
					f.Pixels = make([]int, many)
					checkGoodMoving(t, "numbers "+sides(n, m), withFrame(f), false)
				}
			}
		}
	}
}

func TestGoodMovingOfDelaysAndDisposesAndHollows(t *testing.T) {
	for _, n := range append(slices.Clone(farNumbers), -3, -2, -1, 0, 1, 2, 3, 4, 5, 255, 256, 65534, 65535, 65536) {
		f := plainFrame(1, 1, 2, 2)
		f.Delay = n
		checkGoodMoving(t, "Delay "+strconv.Itoa(n), withFrame(f), n >= 0 && n <= 65535)
		f = plainFrame(1, 1, 2, 2)
		f.Dispose = n
		checkGoodMoving(t, "Dispose "+strconv.Itoa(n), withFrame(f), n >= 0 && n <= 2)
		f = plainFrame(1, 1, 2, 2)
		f.Hollow = n
		checkGoodMoving(t, "Hollow "+strconv.Itoa(n), withFrame(f), n >= -1 && n <= 3)
	}
	for many := 2; many <= 256; many *= 2 {
		for _, hollow := range []int{-1, 0, many - 1, many, 255, 256, 65535} {
			m := plainMoving(2, 2, many)
			m.Frames[0].Hollow = hollow
			checkGoodMoving(t, "Hollow "+strconv.Itoa(hollow), m, hollow < many)
		}
	}
}

func TestGoodMovingOfPixels(t *testing.T) {
	for many := range 30 {
		f := plainFrame(1, 1, 3, 2)
		f.Pixels = make([]int, many)
		checkGoodMoving(t, strconv.Itoa(many)+" pixels", withFrame(f), many == 6)
	}
	for colours := 2; colours <= 256; colours *= 2 {
		for _, pixel := range append(slices.Clone(farNumbers), -2, -1, 0, 1, colours-1, colours, colours+1, 2*colours, 256) {
			for at := range 4 {
				m := plainMoving(2, 2, colours)
				m.Frames = append(m.Frames, plainFrame(0, 0, 2, 2))
				m.Frames[at%2].Pixels[at] = pixel
				checkGoodMoving(t, "the pixel "+strconv.Itoa(pixel), m, pixel >= 0 && pixel < colours)
			}
		}
	}
}

func TestGoodMovingOfAllPixelsTogether(t *testing.T) {
	m := plainMoving(64, 64, 2)
	for range 3 {
		m.Frames = append(m.Frames, plainFrame(0, 0, 64, 64))
	}
	checkGoodMoving(t, "just as many as may be", m, true)
	more := m
	more.Frames = append(slices.Clone(m.Frames), plainFrame(5, 5, 1, 1))
	checkGoodMoving(t, "one more", more, false)
	more.Frames = append([]impl.Frame{plainFrame(5, 5, 1, 1)}, m.Frames...)
	checkGoodMoving(t, "one more, first", more, false)
	more.Frames[4] = plainFrame(0, 0, 63, 65)
	checkGoodMoving(t, "one fewer, but beyond an edge", more, false)
	more.Frames[4] = plainFrame(0, 0, 64, 63)
	checkGoodMoving(t, "a row fewer and one", more, true)
	m = plainMoving(64, 64, 2)
	m.Frames = nil
	for range 40 {
		m.Frames = append(m.Frames, plainFrame(3, 2, 41, 10))
	}
	checkGoodMoving(t, "40 frames of 410", m, false)
	for i := range 16 {
		m.Frames[i] = plainFrame(3, 2, 8, 50)
	}
	checkGoodMoving(t, "24 frames of 410, 16 of 400", m, true)
	for i := range m.Frames {
		m.Frames[i] = plainFrame(0, 0, 64, 64)
	}
	checkGoodMoving(t, "40 full frames", m, false)
}

func TestGoodMovingReadsNoFurther(t *testing.T) {
	m := plainMoving(2, 2, 4)
	m.Palette = append(m.Palette, -1)[:4]
	m.Frames[0].Pixels = append(m.Frames[0].Pixels, 99)[:4]
	m.Frames = append(m.Frames, impl.Frame{X: -1})[:1]
	checkGoodMoving(t, "what lies behind is not good", m, true)
	if m.Palette[:5][4] != -1 || m.Frames[0].Pixels[:5][4] != 99 || m.Frames[:2][1].X != -1 {
		t.Error("what lies behind was written")
	}
}
