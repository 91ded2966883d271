package tests

import (
	"math"
	"math/rand/v2"
	"slices"
	"strconv"
	"testing"

	"loop.example/g00016/impl"
)

// samplesFrom has those of so many columns and rows that there are.
func samplesFrom(p impl.Plane, x int, y int, columns int, rows int) []int {
	var list []int
	for j := y; j < y+rows; j++ {
		for i := x; i < x+columns; i++ {
			if i < p.Width && j < p.Height {
				list = append(list, p.Samples[j*p.Width+i])
			}
		}
	}
	return list
}

func meanOf(list []int) int {
	sum := 0
	for _, n := range list {
		sum += n
	}
	return (sum + len(list)/2) / len(list)
}

func slowShrink(p impl.Plane, by int) impl.Plane {
	small := impl.Plane{}
	for y := 0; y < p.Height; y += by {
		small.Height++
		small.Width = 0
		for x := 0; x < p.Width; x += by {
			small.Width++
			small.Samples = append(small.Samples, meanOf(samplesFrom(p, x, y, by, by)))
		}
	}
	return small
}

func shrinkBy(by int) func(impl.Plane) impl.Plane {
	return func(p impl.Plane) impl.Plane { return impl.Shrink(p, by) }
}

func checkShrink(t *testing.T, p impl.Plane) {
	t.Helper()
	for _, by := range []int{2, 4} {
		what := "Shrink by " + strconv.Itoa(by)
		checkMade(t, what, p, slowShrink(p, by), shrinkBy(by))
		if !samePlane(impl.Shrink(flipped(p), by), flipped(impl.Shrink(p, by))) {
			t.Fatalf("%s of %s: rows are not as columns", what, sides(p.Width, p.Height))
		}
	}
}

func TestShrinkByHand(t *testing.T) {
	for _, c := range []struct {
		p    impl.Plane
		by   int
		want impl.Plane
	}{
		{impl.Plane{Width: 3, Height: 1, Samples: []int{10, 20, 40}}, 2, impl.Plane{Width: 2, Height: 1, Samples: []int{15, 40}}},
		{impl.Plane{Width: 1, Height: 3, Samples: []int{10, 20, 40}}, 2, impl.Plane{Width: 1, Height: 2, Samples: []int{15, 40}}},
		{impl.Plane{Width: 3, Height: 1, Samples: []int{10, 20, 40}}, 4, impl.Plane{Width: 1, Height: 1, Samples: []int{23}}},
		{impl.Plane{Width: 1, Height: 1, Samples: []int{9}}, 2, impl.Plane{Width: 1, Height: 1, Samples: []int{9}}},
		{impl.Plane{Width: 1, Height: 1, Samples: []int{9}}, 4, impl.Plane{Width: 1, Height: 1, Samples: []int{9}}},
		{impl.Plane{Width: 2, Height: 1, Samples: []int{1, 2}}, 2, impl.Plane{Width: 1, Height: 1, Samples: []int{2}}},
		{impl.Plane{Width: 2, Height: 2, Samples: []int{0, 0, 0, 1}}, 2, impl.Plane{Width: 1, Height: 1, Samples: []int{0}}},
		{impl.Plane{Width: 2, Height: 2, Samples: []int{0, 0, 1, 1}}, 2, impl.Plane{Width: 1, Height: 1, Samples: []int{1}}},
		{impl.Plane{Width: 3, Height: 3, Samples: []int{1, 3, 9, 5, 7, 10, 100, 103, 255}}, 2, impl.Plane{Width: 2, Height: 2, Samples: []int{4, 10, 102, 255}}},
		{impl.Plane{Width: 5, Height: 2, Samples: []int{0, 1, 2, 3, 200, 4, 5, 6, 8, 201}}, 4, impl.Plane{Width: 2, Height: 1, Samples: []int{4, 201}}},
		{impl.Plane{Width: 4, Height: 1, Samples: []int{255, 255, 255, 254}}, 4, impl.Plane{Width: 1, Height: 1, Samples: []int{255}}},
	} {
		checkMade(t, "by hand", c.p, c.want, shrinkBy(c.by))
	}
}

func TestShrinkOfAllSmallSides(t *testing.T) {
	r := rand.New(rand.NewPCG(7, 10))
	for width := 1; width <= 18; width++ {
		for height := 1; height <= 18; height++ {
			checkShrink(t, somePlane(r, width, height))
			checkShrink(t, starkPlane(r, width, height))
		}
	}
}

func TestShrinkOfGreatSides(t *testing.T) {
	r := rand.New(rand.NewPCG(7, 11))
	for _, c := range [][2]int{
		{512, 1}, {1, 512}, {512, 8}, {8, 512}, {64, 64}, {511, 8}, {8, 511}, {510, 7}, {509, 5}, {6, 509}, {63, 65}, {455, 9}, {3, 512}, {512, 3},
	} {
		checkShrink(t, somePlane(r, c[0], c[1]))
		checkShrink(t, evenPlane(c[0], c[1], 255))
	}
}

// Each number of samples that a block may have, with each rest that their sum may have.
func TestShrinkIsRounded(t *testing.T) {
	met := map[int]bool{}
	for _, by := range []int{2, 4} {
		for width := 1; width <= by; width++ {
			for height := 1; height <= by; height++ {
				many := width * height
				met[many] = true
				for sum := range 3*many + 1 {
					p := evenPlane(width, height, 7*(by-2)+sum/many)
					for i := range sum % many {
						p.Samples[many-1-i]++
					}
					want := 7*(by-2) + (2*sum+many)/(2*many)
					checkMade(t, strconv.Itoa(sum)+" of "+strconv.Itoa(many), p, evenPlane(1, 1, want), shrinkBy(by))
				}
			}
		}
	}
	for _, many := range []int{1, 2, 3, 4, 6, 8, 9, 12, 16} {
		if !met[many] {
			t.Errorf("no block of %d samples", many)
		}
	}
}

// A block with fewer samples, where the side ends, is of those alone, whichever row or column it is in.
func TestShrinkWhereTheSideEnds(t *testing.T) {
	for _, by := range []int{2, 4} {
		for rest := 1; rest < by; rest++ {
			side := 2*by + rest
			p := evenPlane(side, side, 100)
			for i := range p.Samples {
				if i%side >= 2*by || i/side >= 2*by {
					p.Samples[i] = 40
				}
			}
			want := evenPlane(3, 3, 100)
			for _, i := range []int{2, 5, 6, 7, 8} {
				want.Samples[i] = 40
			}
			checkMade(t, "where the side ends", p, want, shrinkBy(by))
		}
	}
}

func TestShrinkByOtherNumbers(t *testing.T) {
	r := rand.New(rand.NewPCG(7, 12))
	bys := slices.Concat(extremes(), around(2, -8, -4, -2), []int{0, 1, 3, 5, 6, 7, 8, 9, 12, 16, 32, 64, 512})
	for _, by := range bys {
		if by == 2 || by == 4 {
			t.Fatal("no other number")
		}
		for _, c := range [][2]int{{1, 1}, {4, 4}, {3, 5}, {8, 8}, {64, 64}} {
			checkMade(t, "by "+strconv.Itoa(by), somePlane(r, c[0], c[1]), impl.Plane{}, shrinkBy(by))
		}
	}
}

func TestShrinkOfBadPlanes(t *testing.T) {
	for _, by := range []int{2, 4, 0, 1, 3, -2, math.MinInt, math.MaxInt} {
		checkNoneOfBad(t, shrinkBy(by))
	}
}

func TestShrinkOfEvenPlanes(t *testing.T) {
	for sample := range 256 {
		for _, by := range []int{2, 4} {
			checkMade(t, "even", evenPlane(7, 5, sample), evenPlane((7+by-1)/by, (5+by-1)/by, sample), shrinkBy(by))
		}
	}
}
