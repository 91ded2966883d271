package tests

import (
	"math"
	"math/rand/v2"
	"slices"
	"strconv"
	"testing"

	"loop.example/g00016/impl"
)

func emptyScreen(many int) []int {
	return alike(-1, many)
}

// inFrame asks for a pixel of the picture.
func inFrame(f impl.Frame, x int, y int) bool {
	return x >= f.X && x < f.X+f.Width && y >= f.Y && y < f.Y+f.Height
}

// shown is a screen once a frame was put on it, each pixel by itself.
func shown(screen []int, width int, f impl.Frame) []int {
	seen := slices.Clone(screen)
	for at := range seen {
		x, y := at%width, at/width
		if !inFrame(f, x, y) {
			continue
		}
		if pixel := f.Pixels[(y-f.Y)*f.Width+x-f.X]; pixel != f.Hollow {
			seen[at] = pixel
		}
	}
	return seen
}

func slowScreens(m impl.Moving) [][]int {
	var list [][]int
	screen := emptyScreen(m.Width * m.Height)
	for _, f := range m.Frames {
		seen := shown(screen, m.Width, f)
		list = append(list, seen)
		switch f.Dispose {
		case 0:
			screen = seen
		case 1:
			screen = slices.Clone(seen)
			for at := range screen {
				if inFrame(f, at%m.Width, at/m.Width) {
					screen[at] = -1
				}
			}
		}
	}
	return list
}

func checkScreens(t *testing.T, m impl.Moving) {
	t.Helper()
	was := cloneMoving(m)
	got, want := impl.Screens(m), slowScreens(was)
	if !slices.EqualFunc(got, want, slices.Equal) {
		t.Fatalf("%s: screens %v, not %v", describedMoving(m), got, want)
	}
	if !sameMoving(m, was) {
		t.Fatalf("%s: the picture was written", describedMoving(m))
	}
	for i := range got {
		_ = append(got[i], 9, 9, 9)
		for at := range got[i] {
			got[i][at] = 999
		}
		want[i] = alike(999, len(want[i]))
		if !slices.EqualFunc(got, want, slices.Equal) {
			t.Fatalf("%s: screen %d shares memory with another one", describedMoving(m), i)
		}
	}
	if !sameMoving(m, was) {
		t.Fatalf("%s: a screen shares memory with the picture", describedMoving(m))
	}
}

// movingOf has frames with this Dispose and Hollow each over one row of four pixels.
func movingOf(frames ...impl.Frame) impl.Moving {
	m := impl.Moving{Width: 4, Height: 1, Palette: make([]int, 8)}
	for _, f := range frames {
		f.Width, f.Height = len(f.Pixels), 1
		m.Frames = append(m.Frames, f)
	}
	return m
}

func TestScreensByHand(t *testing.T) {
	for _, c := range []struct {
		what string
		m    impl.Moving
		want [][]int
	}{
		{"one", movingOf(impl.Frame{X: 1, Hollow: -1, Pixels: []int{5, 6}}), [][]int{{-1, 5, 6, -1}}},
		{"one with Hollow", movingOf(impl.Frame{X: 1, Hollow: 5, Pixels: []int{5, 6, 5}}), [][]int{{-1, -1, 6, -1}}},
		{"frames that overlap", movingOf(
			impl.Frame{Hollow: -1, Pixels: []int{1, 1, 1}}, impl.Frame{X: 1, Hollow: -1, Pixels: []int{2, 2, 2}}, impl.Frame{X: 2, Hollow: 3, Pixels: []int{3, 4}},
		), [][]int{{1, 1, 1, -1}, {1, 2, 2, 2}, {1, 2, 2, 4}}},
		{"a place that becomes nothing", movingOf(
			impl.Frame{Hollow: -1, Pixels: []int{1, 1, 1, 1}}, impl.Frame{X: 1, Dispose: 1, Hollow: -1, Pixels: []int{2, 2}}, impl.Frame{Hollow: -1, Pixels: []int{3}},
		), [][]int{{1, 1, 1, 1}, {1, 2, 2, 1}, {3, -1, -1, 1}}},
		{"a place that becomes nothing, under Hollow too", movingOf(
			impl.Frame{Hollow: -1, Pixels: []int{1, 1, 1, 1}}, impl.Frame{X: 1, Dispose: 1, Hollow: 2, Pixels: []int{2, 5, 2}}, impl.Frame{Hollow: 0, Pixels: []int{0}},
		), [][]int{{1, 1, 1, 1}, {1, 1, 5, 1}, {1, -1, -1, -1}}},
		{"as it was ahead", movingOf(
			impl.Frame{Hollow: -1, Pixels: []int{1, 1}}, impl.Frame{X: 1, Dispose: 2, Hollow: -1, Pixels: []int{2, 2}}, impl.Frame{X: 3, Hollow: -1, Pixels: []int{3}},
		), [][]int{{1, 1, -1, -1}, {1, 2, 2, -1}, {1, 1, -1, 3}}},
		{"as it was ahead, twice", movingOf(
			impl.Frame{Dispose: 2, Hollow: -1, Pixels: []int{1, 1}}, impl.Frame{X: 1, Dispose: 2, Hollow: -1, Pixels: []int{2, 2}}, impl.Frame{X: 3, Hollow: -1, Pixels: []int{3}},
		), [][]int{{1, 1, -1, -1}, {-1, 2, 2, -1}, {-1, -1, -1, 3}}},
		{"each of the three behind each", movingOf(
			impl.Frame{Dispose: 0, Hollow: -1, Pixels: []int{1, 1, 1, 1}}, impl.Frame{X: 1, Dispose: 2, Hollow: -1, Pixels: []int{2, 2}},
			impl.Frame{X: 2, Dispose: 1, Hollow: -1, Pixels: []int{3}}, impl.Frame{X: 2, Dispose: 2, Hollow: -1, Pixels: []int{4, 4}},
			impl.Frame{X: 0, Dispose: 1, Hollow: -1, Pixels: []int{5}}, impl.Frame{X: 3, Dispose: 0, Hollow: 7, Pixels: []int{7}},
		), [][]int{{1, 1, 1, 1}, {1, 2, 2, 1}, {1, 1, 3, 1}, {1, 1, 4, 4}, {5, 1, -1, 1}, {-1, 1, -1, 1}}},
		{"Hollow alone", movingOf(impl.Frame{Hollow: 0, Pixels: []int{0, 0, 0, 0}}, impl.Frame{Hollow: 0, Pixels: []int{0, 1, 0, 0}}), [][]int{{-1, -1, -1, -1}, {-1, 1, -1, -1}}},
	} {
		if got := impl.Screens(c.m); !slices.EqualFunc(got, c.want, slices.Equal) {
			t.Errorf("%s: %v, not %v", c.what, got, c.want)
		}
		checkScreens(t, c.m)
	}
}

func TestScreensOfSomePictures(t *testing.T) {
	r := rand.New(rand.NewPCG(6, 14))
	for range 1500 {
		checkScreens(t, someMoving(r))
	}
	for range 500 {
		m := someMoving(r)
		m.Palette = make([]int, 8)
		m.Frames = nil
		for range 10 {
			m.Frames = append(m.Frames, someFrame(r, m))
		}
		checkScreens(t, m)
	}
}

func TestScreensOfAllDisposes(t *testing.T) {
	for i := range 81 {
		m := plainMoving(5, 4, 8)
		m.Frames = nil
		for j, place := range []impl.Frame{plainFrame(0, 0, 3, 3), plainFrame(1, 1, 4, 2), plainFrame(2, 0, 2, 4), plainFrame(0, 2, 5, 2)} {
			place.Dispose = []int{i, i / 3, i / 9, i / 27}[j] % 3
			for at := range place.Pixels {
				place.Pixels[at] = (at*j + j + 1) % 8
			}
			place.Hollow = j * 2
			m.Frames = append(m.Frames, place)
		}
		checkScreens(t, m)
	}
}

func TestScreensAtTheirLimits(t *testing.T) {
	r := rand.New(rand.NewPCG(6, 15))
	m := plainMoving(64, 64, 256)
	m.Frames = nil
	for i := range impl.MaxFrames {
		f := plainFrame(i, 2*i/3, 20, 20)
		f.Dispose, f.Pixels = i%3, someSamples(r, 400, 8)
		m.Frames = append(m.Frames, f)
	}
	checkScreens(t, m)
	for _, c := range [][2]int{{512, 8}, {8, 512}, {1, 1}} {
		checkScreens(t, plainMoving(c[0], c[1], 2))
	}
}

func TestScreensOfPicturesThatAreNotGood(t *testing.T) {
	good := smallMoving()
	for i, change := range []func(*impl.Moving){
		func(m *impl.Moving) { m.Width = 2 }, func(m *impl.Moving) { m.Height = 0 }, func(m *impl.Moving) { m.Palette = m.Palette[:3] },
		func(m *impl.Moving) { m.Palette[0] = -1 }, func(m *impl.Moving) { m.Loops = -1 }, func(m *impl.Moving) { m.Frames = nil },
		func(m *impl.Moving) { m.Frames[1].X = 2 }, func(m *impl.Moving) { m.Frames[1].Delay = 65536 }, func(m *impl.Moving) { m.Frames[1].Dispose = 3 },
		func(m *impl.Moving) { m.Frames[1].Hollow = 4 }, func(m *impl.Moving) { m.Frames[1].Pixels[0] = 4 }, func(m *impl.Moving) { m.Frames[1].Pixels = nil },
	} {
		m := cloneMoving(good)
		change(&m)
		if got := impl.Screens(m); len(got) > 0 {
			t.Errorf("change %d: %d screens", i, len(got))
		}
	}
	if got := impl.Screens(impl.Moving{}); len(got) > 0 {
		t.Errorf("the zero value: %d screens", len(got))
	}
}

// slowBetween lets a frame grow by a column or a row at a time, until it has the next place that differs.
func slowBetween(width int, height int, before []int, after []int) impl.Frame {
	best := impl.Frame{Width: 1, Height: 1, Hollow: -1}
	first := true
	for at := range after {
		if before[at] == after[at] {
			continue
		}
		x, y := at%width, at/width
		if first {
			best.X, best.Y, first = x, y, false
		}
		for ; x < best.X; best.X-- {
			best.Width++
		}
		for ; y < best.Y; best.Y-- {
			best.Height++
		}
		best.Width, best.Height = max(best.Width, x-best.X+1), max(best.Height, y-best.Y+1)
	}
	for y := range best.Height {
		for x := range best.Width {
			best.Pixels = append(best.Pixels, after[(best.Y+y)*width+best.X+x])
		}
	}
	if !slices.Contains(best.Pixels, -1) {
		return best
	}
	for colour := 255; colour >= 0; colour-- {
		if !slices.Contains(best.Pixels, colour) {
			best.Hollow = colour
		}
	}
	for i := range best.Pixels {
		if best.Pixels[i] == -1 {
			best.Pixels[i] = best.Hollow
		}
	}
	return best
}

// checkBetween asks for the frame, and for what it makes of the screen.
func checkBetween(t *testing.T, width int, height int, before []int, after []int) {
	t.Helper()
	wasBefore, wasAfter := slices.Clone(before), slices.Clone(after)
	got, want := impl.Between(width, height, before, after), slowBetween(width, height, before, after)
	if !sameFrame(got, want) {
		t.Fatalf("%s: %v, not %v", sides(width, height), got, want)
	}
	seen := shown(before, width, got)
	for at, number := range after {
		if number == -1 {
			number = before[at]
		}
		if seen[at] != number {
			t.Fatalf("%s: at %d is %d, not %d", sides(width, height), at, seen[at], number)
		}
	}
	if !slices.Equal(before, wasBefore) || !slices.Equal(after, wasAfter) {
		t.Fatalf("%s: a screen was written", sides(width, height))
	}
	clear(got.Pixels)
	_ = append(got.Pixels, 9, 9, 9)
	if !slices.Equal(before, wasBefore) || !slices.Equal(after, wasAfter) {
		t.Fatalf("%s: the frame shares memory with a screen", sides(width, height))
	}
}

func TestBetweenByHand(t *testing.T) {
	for _, c := range []struct {
		what          string
		width, height int
		before, after []int
		want          impl.Frame
	}{
		{"no difference", 2, 2, []int{1, 2, 3, 4}, []int{1, 2, 3, 4}, impl.Frame{Width: 1, Height: 1, Hollow: -1, Pixels: []int{1}}},
		{"no difference, nothing there", 2, 2, []int{-1, -1, -1, -1}, []int{-1, -1, -1, -1}, impl.Frame{Width: 1, Height: 1, Hollow: 0, Pixels: []int{0}}},
		{"no difference, nothing beside", 2, 1, []int{0, -1}, []int{0, -1}, impl.Frame{Width: 1, Height: 1, Hollow: -1, Pixels: []int{0}}},
		{"the first corner", 2, 2, []int{1, 2, 3, 4}, []int{9, 2, 3, 4}, impl.Frame{Width: 1, Height: 1, Hollow: -1, Pixels: []int{9}}},
		{"the second corner", 2, 2, []int{1, 2, 3, 4}, []int{1, 9, 3, 4}, impl.Frame{X: 1, Width: 1, Height: 1, Hollow: -1, Pixels: []int{9}}},
		{"the third corner", 2, 2, []int{1, 2, 3, 4}, []int{1, 2, 9, 4}, impl.Frame{Y: 1, Width: 1, Height: 1, Hollow: -1, Pixels: []int{9}}},
		{"the last corner", 2, 2, []int{1, 2, 3, 4}, []int{1, 2, 3, 255}, impl.Frame{X: 1, Y: 1, Width: 1, Height: 1, Hollow: -1, Pixels: []int{255}}},
		{"two corners", 2, 2, []int{1, 2, 3, 4}, []int{1, 5, 6, 4}, impl.Frame{Width: 2, Height: 2, Hollow: -1, Pixels: []int{1, 5, 6, 4}}},
		{"all", 2, 1, []int{1, 2}, []int{2, 1}, impl.Frame{Width: 2, Height: 1, Hollow: -1, Pixels: []int{2, 1}}},
		{"two places and what is between", 3, 1, []int{1, 2, 3}, []int{7, 2, 8}, impl.Frame{Width: 3, Height: 1, Hollow: -1, Pixels: []int{7, 2, 8}}},
		{"nothing where a colour was", 3, 1, []int{1, 2, 3}, []int{1, -1, 3}, impl.Frame{X: 1, Width: 1, Height: 1, Hollow: 0, Pixels: []int{0}}},
		{"nothing and a colour", 3, 1, []int{1, 2, 3}, []int{0, -1, 3}, impl.Frame{Width: 2, Height: 1, Hollow: 1, Pixels: []int{0, 1}}},
		{"nothing where nothing was, between", 3, 1, []int{1, -1, 3}, []int{0, -1, 1}, impl.Frame{Width: 3, Height: 1, Hollow: 2, Pixels: []int{0, 2, 1}}},
		{"a colour of the other screen, and beside the frame", 3, 1, []int{0, 0, 0}, []int{0, -1, 5}, impl.Frame{X: 1, Width: 2, Height: 1, Hollow: 0, Pixels: []int{0, 5}}},
		{"a colour where nothing was", 2, 1, []int{-1, -1}, []int{-1, 4}, impl.Frame{X: 1, Width: 1, Height: 1, Hollow: -1, Pixels: []int{4}}},
	} {
		if got := impl.Between(c.width, c.height, c.before, c.after); !sameFrame(got, c.want) {
			t.Errorf("%s: %v, not %v", c.what, got, c.want)
		}
		checkBetween(t, c.width, c.height, c.before, c.after)
	}
}

func TestBetweenOfEachTwoPlaces(t *testing.T) {
	before := someSamples(rand.New(rand.NewPCG(6, 16)), 35, 8)
	for first := range 35 {
		for second := range 35 {
			for _, number := range []int{-1, 0, 77} {
				after := slices.Clone(before)
				after[first], after[second] = number, number
				checkBetween(t, 7, 5, before, after)
				checkBetween(t, 5, 7, after, before)
			}
		}
	}
}

func someScreen(r *rand.Rand, many int, colours int) []int {
	screen := make([]int, many)
	for i := range screen {
		screen[i] = r.IntN(colours+1) - 1
	}
	return screen
}

func TestBetweenOfSomeScreens(t *testing.T) {
	r := rand.New(rand.NewPCG(6, 17))
	for range 4000 {
		width, height := 1+r.IntN(9), 1+r.IntN(9)
		before := someScreen(r, width*height, 1+r.IntN(256))
		after := slices.Clone(before)
		for range r.IntN(5) {
			after[r.IntN(len(after))] = r.IntN(257) - 1
		}
		if r.IntN(8) == 0 {
			after = someScreen(r, width*height, 1+r.IntN(256))
		}
		checkBetween(t, width, height, before, after)
	}
}

func TestBetweenOfHollow(t *testing.T) {
	// The least colour that lacks, wherever it is.
	for lacks := range 257 {
		before, after := alike(7, 16*17), make([]int, 16*17)
		for i := range after {
			if after[i] = i % 256; after[i] == lacks {
				after[i] = -1
			}
		}
		after[16*17-1] = -1
		checkBetween(t, 16, 17, before, after)
		got := impl.Between(16, 17, emptyScreen(16*17), after)
		want := lacks
		if lacks == 256 {
			want = -1
		}
		if got.Hollow != want {
			t.Errorf("Hollow %d, not %d", got.Hollow, want)
		}
		if last := impl.Between(16, 17, before, after).Pixels[16*17-1]; last != want {
			t.Errorf("for nothing stands %d, not %d", last, want)
		}
	}
}

func TestBetweenOfSidesAndListsThatMayNotBe(t *testing.T) {
	zero := impl.Frame{}
	for _, c := range []struct {
		width, height int
		good          bool
	}{
		{1, 1, true}, {512, 8, true}, {8, 512, true}, {64, 64, true}, {512, 1, true}, {1, 512, true},
		{0, 1, false}, {1, 0, false}, {0, 0, false}, {-1, -1, false}, {-1, 1, false}, {513, 1, false}, {1, 513, false}, {64, 65, false}, {512, 9, false},
		{math.MaxInt, 1, false}, {1, math.MinInt, false}, {1 << 32, 1 << 32, false}, {1 << 62, 4, false}, {math.MinInt, math.MinInt, false}, {-8, -8, false},
	} {
		many := 0
		if product := c.width * c.height; product > 0 && product <= 10000 {
			many = product
		}
		before, after := make([]int, many), alike(1, many)
		if got := impl.Between(c.width, c.height, before, after); sameFrame(got, zero) == c.good {
			t.Errorf("%s: %v", sides(c.width, c.height), got)
		}
		if c.good {
			checkBetween(t, c.width, c.height, before, after)
		}
	}
	for before := range 9 {
		for after := range 9 {
			got := impl.Between(2, 3, make([]int, before), make([]int, after))
			if good := before == 6 && after == 6; sameFrame(got, zero) == good {
				t.Errorf("lists of %d and %d: %v", before, after, got)
			}
		}
	}
	for _, number := range append(slices.Clone(farNumbers), -3, -2, -1, 0, 255, 256, 257) {
		for at := range 6 {
			wrong := alike(5, 6)
			wrong[at] = number
			good := number >= -1 && number <= 255
			for i, got := range []impl.Frame{impl.Between(2, 3, wrong, alike(5, 6)), impl.Between(2, 3, alike(5, 6), wrong), impl.Between(2, 3, wrong, wrong)} {
				if sameFrame(got, zero) == good {
					t.Errorf("number %s at %d, %d: %v", strconv.Itoa(number), at, i, got)
				}
			}
		}
	}
}

func TestBetweenReadsNoFurther(t *testing.T) {
	before, after := append(alike(1, 4), -9, 999)[:4], append([]int{1, 2, 1, 1}, -9, 999)[:4]
	want := impl.Frame{X: 1, Width: 1, Height: 1, Hollow: -1, Pixels: []int{2}}
	if got := impl.Between(2, 2, before, after); !sameFrame(got, want) {
		t.Errorf("%v", got)
	}
	if before[:6][4] != -9 || after[:6][5] != 999 {
		t.Error("what lies behind was written")
	}
}

func TestFramesBetweenScreensShowThem(t *testing.T) {
	r := rand.New(rand.NewPCG(6, 18))
	for range 300 {
		width, height := 1+r.IntN(8), 1+r.IntN(8)
		m := impl.Moving{Width: width, Height: height, Palette: someColours(r, 256)}
		screen := emptyScreen(width * height)
		var want [][]int
		for range 1 + r.IntN(8) {
			next := slices.Clone(screen)
			for range r.IntN(6) {
				next[r.IntN(len(next))] = r.IntN(256)
			}
			m.Frames = append(m.Frames, impl.Between(width, height, screen, next))
			want = append(want, next)
			screen = next
		}
		got := impl.DecodeMoving(impl.EncodeMoving(m))
		if screens := impl.Screens(got.Moving); got.Err != 0 || !slices.EqualFunc(screens, want, slices.Equal) {
			t.Fatalf("%s: error %d, screens %v, not %v", describedMoving(m), got.Err, screens, want)
		}
	}
}
