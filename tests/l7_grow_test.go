package tests

import (
	"math"
	"math/rand/v2"
	"slices"
	"testing"

	"loop.example/g00016/impl"
)

// neighbourOf is the one on the side on which place x of the plane grown lies; itself where there is none.
func neighbourOf(x int, side int) int {
	i := x / 2
	if x%2 == 0 && i > 0 {
		return i - 1
	}
	if x%2 == 1 && i < side-1 {
		return i + 1
	}
	return i
}

func slowGrow(p impl.Plane, width int, height int) impl.Plane {
	of := func(i int, j int) int { return p.Samples[j*p.Width+i] }
	grown := impl.Plane{Width: width, Height: height}
	for y := range height {
		for x := range width {
			i, j := x/2, y/2
			i2, j2 := neighbourOf(x, p.Width), neighbourOf(y, p.Height)
			sum := 9*of(i, j) + 3*of(i2, j) + 3*of(i, j2) + of(i2, j2)
			grown.Samples = append(grown.Samples, floorOf(sum+8, 16))
		}
	}
	return grown
}

func growTo(width int, height int) func(impl.Plane) impl.Plane {
	return func(p impl.Plane) impl.Plane { return impl.Grow(p, width, height) }
}

// checkGrow tries twice and one less, each with each; where the product is too great none may come.
func checkGrow(t *testing.T, p impl.Plane) {
	t.Helper()
	for width := 2*p.Width - 1; width <= 2*p.Width; width++ {
		for height := 2*p.Height - 1; height <= 2*p.Height; height++ {
			what := "Grow to " + sides(width, height)
			if width*height > 4096 {
				checkMade(t, what, p, impl.Plane{}, growTo(width, height))
				continue
			}
			checkMade(t, what, p, slowGrow(p, width, height), growTo(width, height))
			if !samePlane(impl.Grow(flipped(p), height, width), flipped(impl.Grow(p, width, height))) {
				t.Fatalf("%s: rows are not as columns", what)
			}
		}
	}
}

func TestGrowByHand(t *testing.T) {
	row := impl.Plane{Width: 2, Height: 1, Samples: []int{0, 16}}
	column := impl.Plane{Width: 1, Height: 3, Samples: []int{10, 20, 5}}
	square := impl.Plane{Width: 2, Height: 2, Samples: []int{0, 160, 80, 255}}
	for _, c := range []struct {
		p             impl.Plane
		width, height int
		want          []int
	}{
		{row, 4, 2, []int{0, 4, 12, 16, 0, 4, 12, 16}},
		{row, 4, 1, []int{0, 4, 12, 16}},
		{row, 3, 2, []int{0, 4, 12, 0, 4, 12}},
		{row, 3, 1, []int{0, 4, 12}},
		// 12.5 is 13, 17.5 is 18; 16.25, 8.75 and 5.
		{column, 1, 6, []int{10, 13, 18, 16, 9, 5}},
		{column, 2, 5, []int{10, 10, 13, 13, 18, 18, 16, 16, 9, 9}},
		{square, 4, 4, []int{0, 40, 120, 160, 20, 61, 143, 184, 60, 103, 188, 231, 80, 124, 211, 255}},
		{square, 3, 3, []int{0, 40, 120, 20, 61, 143, 60, 103, 188}},
		{evenPlane(1, 1, 200), 1, 1, []int{200}},
		{evenPlane(1, 1, 201), 2, 1, []int{201, 201}},
		{evenPlane(1, 1, 202), 1, 2, []int{202, 202}},
		{evenPlane(1, 1, 203), 2, 2, []int{203, 203, 203, 203}},
	} {
		want := impl.Plane{Width: c.width, Height: c.height, Samples: c.want}
		checkMade(t, "by hand", c.p, want, growTo(c.width, c.height))
	}
}

func TestGrowOfAllSmallSides(t *testing.T) {
	r := rand.New(rand.NewPCG(7, 20))
	for width := 1; width <= 12; width++ {
		for height := 1; height <= 12; height++ {
			checkGrow(t, somePlane(r, width, height))
			checkGrow(t, starkPlane(r, width, height))
		}
	}
}

// What a single sample adds to each place around it: weights and neighbours, and none of them farther off.
func TestGrowOfASingleSample(t *testing.T) {
	for at := range 25 {
		p := evenPlane(5, 5, 0)
		p.Samples[at] = 160
		checkGrow(t, p)
		p = evenPlane(5, 5, 255)
		p.Samples[at] = 0
		checkGrow(t, p)
	}
	p := evenPlane(5, 5, 0)
	p.Samples[12] = 160
	got := impl.Grow(p, 10, 10)
	for y, row := range [][]int{{10, 30, 30, 10}, {30, 90, 90, 30}, {30, 90, 90, 30}, {10, 30, 30, 10}} {
		if found := got.Samples[(y+3)*10+3:][:4]; !slices.Equal(found, row) {
			t.Errorf("row %d: %v, not %v", y, found, row)
		}
	}
}

// Each rest of a sum in sixteen parts, so that the rounding is seen.
func TestGrowIsRounded(t *testing.T) {
	var met [16]int
	for a := range 5 {
		for b := range 5 {
			for c := range 5 {
				for d := range 5 {
					met[(9*a+3*b+3*c+d)%16]++
					checkGrow(t, impl.Plane{Width: 2, Height: 2, Samples: []int{a, b, c, d}})
				}
			}
		}
	}
	if slices.Contains(met[:], 0) {
		t.Errorf("not each rest was met: %v", met)
	}
}

// The product alone is asked for: a side may be above MaxSide.
func TestGrowAtTheGreatestProduct(t *testing.T) {
	r := rand.New(rand.NewPCG(7, 21))
	for _, c := range []struct {
		old, sides [2]int
		good       bool
	}{
		{[2]int{32, 32}, [2]int{64, 64}, true}, {[2]int{32, 32}, [2]int{63, 64}, true},
		{[2]int{512, 2}, [2]int{1024, 4}, true}, {[2]int{2, 512}, [2]int{4, 1024}, true}, {[2]int{512, 2}, [2]int{1023, 4}, true},
		{[2]int{512, 1}, [2]int{1024, 1}, true}, {[2]int{1, 512}, [2]int{1, 1024}, true}, {[2]int{512, 1}, [2]int{1024, 2}, true},
		{[2]int{257, 1}, [2]int{513, 2}, true}, {[2]int{256, 4}, [2]int{512, 8}, true}, {[2]int{256, 5}, [2]int{511, 9}, false},
		{[2]int{293, 4}, [2]int{585, 7}, true}, {[2]int{293, 4}, [2]int{586, 7}, false}, // 4095 and 4102
		{[2]int{8, 137}, [2]int{15, 273}, true}, {[2]int{8, 137}, [2]int{15, 274}, false}, // 4095 and 4110
		{[2]int{121, 9}, [2]int{241, 17}, false}, {[2]int{9, 121}, [2]int{17, 241}, false}, // 4097
		{[2]int{33, 32}, [2]int{65, 64}, false}, {[2]int{33, 32}, [2]int{65, 63}, true},
		{[2]int{512, 3}, [2]int{1024, 5}, false}, {[2]int{512, 8}, [2]int{1024, 16}, false}, {[2]int{512, 8}, [2]int{1023, 15}, false},
		{[2]int{64, 64}, [2]int{128, 128}, false}, {[2]int{64, 64}, [2]int{127, 127}, false},
	} {
		p := somePlane(r, c.old[0], c.old[1])
		want := impl.Plane{}
		if c.good {
			want = slowGrow(p, c.sides[0], c.sides[1])
		}
		checkMade(t, "to "+sides(c.sides[0], c.sides[1]), p, want, growTo(c.sides[0], c.sides[1]))
		checkGrow(t, p)
	}
}

func TestGrowToOtherSides(t *testing.T) {
	r := rand.New(rand.NewPCG(7, 22))
	for _, old := range [][2]int{{1, 1}, {2, 1}, {1, 2}, {3, 4}, {5, 5}, {16, 2}, {512, 1}} {
		p := somePlane(r, old[0], old[1])
		others := slices.Concat(extremes(), around(1, 0, -2*old[0], -2*old[1], 4096), around(4, old[0], old[1], 2*old[0], 2*old[1]))
		for _, width := range others {
			for _, height := range others {
				good := (width == 2*old[0] || width == 2*old[0]-1) && (height == 2*old[1] || height == 2*old[1]-1)
				if good {
					continue
				}
				checkMade(t, "to "+sides(width, height), p, impl.Plane{}, growTo(width, height))
			}
		}
	}
}

func TestGrowOfBadPlanes(t *testing.T) {
	for _, c := range [][2]int{{8, 4}, {7, 3}, {8, 3}, {7, 4}, {0, 0}, {-8, -4}, {6, 4}, {1, 1}, {0, 4}, {8, 0}, {-1, -1}, {2, 2}} {
		checkNoneOfBad(t, growTo(c[0], c[1]))
	}
	for what, p := range badPlanes() {
		for _, less := range []int{0, 1} {
			if got := madeOf(t, p, growTo(2*p.Width-less, 2*p.Height-less)); !isNoPlane(got) {
				t.Errorf("%s: a plane of %s", what, sides(got.Width, got.Height))
			}
		}
	}
	checkNoneOfBad(t, growTo(math.MaxInt, math.MinInt))
}

func TestGrowOfEvenPlanes(t *testing.T) {
	for sample := range 256 {
		for less := range 4 {
			width, height := 6-less%2, 4-less/2
			checkMade(t, "even", evenPlane(3, 2, sample), evenPlane(width, height, sample), growTo(width, height))
		}
	}
}
