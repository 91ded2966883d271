package tests

import (
	"math"
	"math/rand/v2"
	"slices"
	"testing"

	"loop.example/g00016/impl"
)

// placeOf has between which two of the old samples the new one lies, and how far from the first, in 256 parts.
func placeOf(x int, old int, side int) (int, int, int) {
	s := max(0, floorOf((2*x+1)*old*256, 2*side)-128)
	i, f := floorOf(s, 256), s%256
	if i+1 > old-1 {
		return old - 1, old - 1, f
	}
	return i, i + 1, f
}

func slowResize(p impl.Plane, width int, height int) impl.Plane {
	of := func(i int, j int) int { return p.Samples[j*p.Width+i] }
	other := impl.Plane{Width: width, Height: height}
	for y := range height {
		for x := range width {
			i, i2, f := placeOf(x, p.Width, width)
			j, j2, g := placeOf(y, p.Height, height)
			upper := (256-f)*of(i, j) + f*of(i2, j)
			lower := (256-f)*of(i, j2) + f*of(i2, j2)
			other.Samples = append(other.Samples, floorOf((256-g)*upper+g*lower+32768, 65536))
		}
	}
	return other
}

func resizeTo(width int, height int) func(impl.Plane) impl.Plane {
	return func(p impl.Plane) impl.Plane { return impl.Resize(p, width, height) }
}

func checkResize(t *testing.T, p impl.Plane, width int, height int) {
	t.Helper()
	what := "Resize to " + sides(width, height)
	checkMade(t, what, p, slowResize(p, width, height), resizeTo(width, height))
	if !samePlane(impl.Resize(flipped(p), height, width), flipped(impl.Resize(p, width, height))) {
		t.Fatalf("%s of %s: rows are not as columns", what, sides(p.Width, p.Height))
	}
}

// greatShapes are those that a good plane may have at most.
func greatShapes() [][2]int {
	return [][2]int{{512, 1}, {1, 512}, {512, 8}, {8, 512}, {64, 64}, {455, 9}, {9, 455}, {511, 8}, {1, 1}, {128, 32}, {3, 512}}
}

func TestResizeByHand(t *testing.T) {
	row := impl.Plane{Width: 3, Height: 1, Samples: []int{10, 20, 40}}
	two := impl.Plane{Width: 2, Height: 1, Samples: []int{0, 255}}
	square := impl.Plane{Width: 2, Height: 2, Samples: []int{0, 100, 200, 44}}
	for _, c := range []struct {
		p             impl.Plane
		width, height int
		want          []int
	}{
		{row, 6, 1, []int{10, 13, 18, 25, 35, 40}},
		{row, 3, 1, []int{10, 20, 40}},
		{row, 1, 1, []int{20}},
		{row, 3, 2, []int{10, 20, 40, 10, 20, 40}},
		// In the middle of 1/4 and 7/4: 12.5 and 35.
		{row, 2, 1, []int{13, 35}},
		{two, 4, 1, []int{0, 64, 191, 255}},
		{two, 1, 1, []int{128}},
		{two, 1, 3, []int{128, 128, 128}},
		{two, 3, 1, []int{0, 128, 255}},
		{square, 1, 1, []int{86}},
		{square, 1, 2, []int{50, 122}},
		{square, 2, 1, []int{100, 72}},
		{square, 4, 2, []int{0, 25, 75, 100, 200, 161, 83, 44}},
		{evenPlane(1, 1, 9), 2, 3, []int{9, 9, 9, 9, 9, 9}},
		{evenPlane(1, 1, 255), 1, 1, []int{255}},
	} {
		want := impl.Plane{Width: c.width, Height: c.height, Samples: c.want}
		checkMade(t, "by hand", c.p, want, resizeTo(c.width, c.height))
	}
}

func TestResizeOfAllSmallSides(t *testing.T) {
	r := rand.New(rand.NewPCG(7, 30))
	for old := 1; old <= 20; old++ {
		for side := 1; side <= 20; side++ {
			height, newHeight := 1+r.IntN(6), 1+r.IntN(6)
			checkResize(t, somePlane(r, old, height), side, newHeight)
			checkResize(t, starkPlane(r, old, height), side, newHeight)
			checkResize(t, somePlane(r, old, 1), side, 1)
		}
	}
}

func TestResizeToItsOwnSides(t *testing.T) {
	r := rand.New(rand.NewPCG(7, 31))
	for width := 1; width <= 16; width++ {
		for height := 1; height <= 16; height++ {
			p := somePlane(r, width, height)
			checkMade(t, "its own sides", p, p, resizeTo(width, height))
		}
	}
	for _, c := range greatShapes() {
		p := somePlane(r, c[0], c[1])
		checkMade(t, "its own sides", p, p, resizeTo(c[0], c[1]))
	}
	for width := 1; width <= 512; width++ {
		p := somePlane(r, width, 1)
		checkMade(t, "its own sides", p, p, resizeTo(width, 1))
	}
}

func TestResizeToAndFromGreatSides(t *testing.T) {
	r := rand.New(rand.NewPCG(7, 32))
	for _, old := range greatShapes() {
		for _, c := range append(greatShapes(), [2]int{2, 2}, [2]int{7, 5}) {
			checkResize(t, somePlane(r, old[0], old[1]), c[0], c[1])
		}
	}
	p, q := somePlane(r, 7, 1), somePlane(r, 512, 1)
	for side := 1; side <= 512; side++ {
		checkResize(t, p, side, 1)
		checkResize(t, q, side, 1)
	}
}

// The outermost new samples lie outside the middles of the old ones where there are more of them.
func TestResizeAtTheFirstAndTheLast(t *testing.T) {
	r := rand.New(rand.NewPCG(7, 33))
	for old := 1; old <= 12; old++ {
		for side := old; side <= 40; side++ {
			p := somePlane(r, old, 3)
			got := impl.Resize(p, side, 3)
			for y := range 3 {
				if got.Samples[y*side] != p.Samples[y*old] || got.Samples[y*side+side-1] != p.Samples[y*old+old-1] {
					t.Fatalf("%d columns of %v in row %d: %v", side, p, y, got)
				}
			}
			got = impl.Resize(flipped(p), 3, side)
			for x := range 3 {
				if got.Samples[x] != p.Samples[x*old] || got.Samples[3*(side-1)+x] != p.Samples[x*old+old-1] {
					t.Fatalf("%d rows of %v in column %d: %v", side, flipped(p), x, got)
				}
			}
		}
	}
}

func TestResizeFromASideOfOne(t *testing.T) {
	r := rand.New(rand.NewPCG(7, 34))
	for side := 1; side <= 40; side++ {
		p := somePlane(r, 1, 5)
		want := impl.Plane{Width: side, Height: 5}
		for _, sample := range p.Samples {
			want.Samples = append(want.Samples, slices.Repeat([]int{sample}, side)...)
		}
		checkMade(t, "of one column", p, want, resizeTo(side, 5))
		checkMade(t, "of one row", flipped(p), flipped(want), resizeTo(5, side))
	}
}

// Each rest of a sum in 65536 parts is too much to go through; each side of the half is met.
func TestResizeIsRounded(t *testing.T) {
	r := rand.New(rand.NewPCG(7, 35))
	for range 3000 {
		p := impl.Plane{Width: 2, Height: 2, Samples: []int{r.IntN(3), r.IntN(3), r.IntN(3), r.IntN(3)}}
		checkResize(t, p, 1+r.IntN(30), 1+r.IntN(30))
	}
	half := impl.Plane{Width: 2, Height: 1, Samples: []int{0, 1}}
	checkMade(t, "just a half", half, evenPlane(1, 1, 1), resizeTo(1, 1))
	// With 255 columns of two the middle one is at 128 parts of 256, the one ahead at 125.
	got := impl.Resize(half, 255, 1)
	for x, sample := range got.Samples {
		if (x >= 127) != (sample == 1) {
			t.Fatalf("column %d: %v", x, got)
		}
	}
}

func TestResizeToOtherSides(t *testing.T) {
	r := rand.New(rand.NewPCG(7, 36))
	bad := slices.Concat(extremes(), around(1, -512, 0), []int{513, 514, 1024, 4096, 4097})
	for _, old := range [][2]int{{1, 1}, {3, 4}, {64, 64}} {
		p := somePlane(r, old[0], old[1])
		for _, side := range bad {
			if side == 1 {
				continue
			}
			for _, other := range append(slices.Clone(bad), 1, 2, 8, 64, 512) {
				checkMade(t, "to "+sides(side, other), p, impl.Plane{}, resizeTo(side, other))
				checkMade(t, "to "+sides(other, side), p, impl.Plane{}, resizeTo(other, side))
			}
		}
		for _, c := range [][2]int{{65, 64}, {64, 65}, {512, 9}, {9, 512}, {512, 512}, {241, 17}, {17, 241}} {
			checkMade(t, "to "+sides(c[0], c[1]), p, impl.Plane{}, resizeTo(c[0], c[1]))
		}
	}
}

func TestResizeOfBadPlanes(t *testing.T) {
	for _, c := range [][2]int{{4, 2}, {1, 1}, {8, 4}, {512, 8}, {0, 0}, {-4, 2}, {3, 3}} {
		checkNoneOfBad(t, resizeTo(c[0], c[1]))
	}
	for what, p := range badPlanes() {
		if got := madeOf(t, p, resizeTo(p.Width, p.Height)); !isNoPlane(got) {
			t.Errorf("%s: a plane of %s", what, sides(got.Width, got.Height))
		}
	}
	checkNoneOfBad(t, resizeTo(math.MinInt, math.MaxInt))
}

func TestResizeOfEvenPlanes(t *testing.T) {
	for sample := range 256 {
		for _, c := range [][2]int{{1, 1}, {3, 7}, {5, 2}, {13, 11}, {29, 3}} {
			checkMade(t, "even", evenPlane(5, 3, sample), evenPlane(c[0], c[1], sample), resizeTo(c[0], c[1]))
		}
	}
}
