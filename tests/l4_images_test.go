package tests

import (
	"math"
	"math/rand/v2"
	"slices"
	"testing"

	"loop.example/g00016/impl"
)

var depths = []int{1, 2, 4, 8, 16}

var noDepths = []int{math.MinInt, -16, -8, -1, 0, 3, 5, 6, 7, 9, 10, 12, 15, 17, 24, 32, 63, 64, 65, math.MaxInt}

func greatest(depth int) int {
	return 1<<depth - 1
}

// depthsOf are those that an image of so many planes may have.
func depthsOf(planes int) []int {
	if planes == 1 {
		return depths
	}
	return []int{8, 16}
}

func someSamples(r *rand.Rand, many int, depth int) []int {
	samples := make([]int, many)
	for i := range samples {
		samples[i] = r.IntN(greatest(depth) + 1)
	}
	return samples
}

func someImage(r *rand.Rand, width int, height int, planes int, depth int) impl.Image {
	return impl.Image{
		Width: width, Height: height, Planes: planes, Depth: depth,
		Samples: someSamples(r, width*height*planes, depth),
	}
}

func cloneImage(im impl.Image) impl.Image {
	im.Samples = slices.Clone(im.Samples)
	return im
}

func sameImage(a, b impl.Image) bool {
	return a.Width == b.Width && a.Height == b.Height && a.Planes == b.Planes && a.Depth == b.Depth &&
		slices.Equal(a.Samples, b.Samples)
}

// described is short for images of many samples.
func described(im impl.Image) string {
	return "image of " + sides(im.Width, im.Height) + ", planes and depth " + sides(im.Planes, im.Depth)
}

func checkGood(t *testing.T, what string, im impl.Image, want bool) {
	t.Helper()
	was := slices.Clone(im.Samples)
	if got := impl.GoodImage(im); got != want {
		t.Errorf("%s: %s, %d samples: good is %v", what, described(im), len(im.Samples), got)
	}
	if !slices.Equal(im.Samples, was) {
		t.Errorf("%s: samples were written", what)
	}
}

func TestPictureLimits(t *testing.T) {
	if impl.MaxSide != 512 || impl.MaxPixels != 4096 || impl.MaxRow != 4096 {
		t.Errorf("%d %d %d", impl.MaxSide, impl.MaxPixels, impl.MaxRow)
	}
}

func TestGoodImageOfSides(t *testing.T) {
	for _, c := range []struct {
		width, height int
		good          bool
	}{
		{1, 1, true}, {1, 2, true}, {2, 1, true}, {5, 7, true},
		{512, 1, true}, {1, 512, true}, {512, 8, true}, {8, 512, true}, {64, 64, true}, {455, 9, true},
		{513, 1, false}, {1, 513, false}, {4096, 1, false}, {1, 4096, false},
		{512, 9, false}, {9, 512, false}, {65, 64, false}, {64, 65, false}, {4097, 1, false}, {241, 17, false},
		{0, 0, false}, {0, 1, false}, {1, 0, false}, {0, 512, false}, {513, 0, false},
		{-1, 1, false}, {1, -1, false}, {-1, -1, false}, {-4, -5, false}, {-64, -64, false},
	} {
		for planes := 1; planes <= 4; planes++ {
			for _, depth := range depthsOf(planes) {
				im := impl.Image{Width: c.width, Height: c.height, Planes: planes, Depth: depth}
				im.Samples = make([]int, max(0, c.width*c.height*planes))
				checkGood(t, "sides", im, c.good)
			}
		}
	}
}

func TestGoodImageOfSidesBeyondAnInt(t *testing.T) {
	great := []int{math.MinInt, math.MinInt + 1, -1 << 32, -1, 0, 1, 2, 4, 8, 1 << 20, 1 << 31, 1 << 32, 1 << 33, 1 << 61, 1 << 62, math.MaxInt - 1, math.MaxInt}
	for _, width := range great {
		for _, height := range great {
			if width >= 1 && width <= 512 && height >= 1 && height <= 512 {
				continue
			}
			for planes := 1; planes <= 4; planes++ {
				im := impl.Image{Width: width, Height: height, Planes: planes, Depth: 8}
				checkGood(t, "great sides, no samples", im, false)
				// What a product has that has gone beyond an int.
				if product := width * height * planes; product > 0 && product <= 40000 {
					im.Samples = make([]int, product)
					checkGood(t, "great sides, a product's samples", im, false)
				}
			}
		}
	}
}

func TestGoodImageOfPlanesAndDepths(t *testing.T) {
	for _, planes := range []int{math.MinInt, -2, -1, 0, 1, 2, 3, 4, 5, 8, math.MaxInt} {
		for _, depth := range slices.Concat(depths, noDepths) {
			im := impl.Image{Width: 3, Height: 2, Planes: planes, Depth: depth}
			good := planes >= 1 && planes <= 4 && slices.Contains(depths, depth) && (planes == 1 || depth >= 8)
			if planes >= -2 && planes <= 8 {
				im.Samples = make([]int, max(0, 6*planes))
			}
			checkGood(t, "planes and depths", im, good)
		}
	}
}

func TestGoodImageOfHowManySamples(t *testing.T) {
	r := rand.New(rand.NewPCG(4, 1))
	for planes := 1; planes <= 4; planes++ {
		for _, depth := range depthsOf(planes) {
			im := someImage(r, 5, 3, planes, depth)
			all := im.Samples
			for many := range len(all) {
				im.Samples = all[:many]
				checkGood(t, "too few", im, false)
			}
			im.Samples = append(slices.Clone(all), 0)
			checkGood(t, "one too many", im, false)
			im.Samples = slices.Concat(all, all)
			checkGood(t, "twice as many", im, false)
			// Those behind the length count for nothing.
			im.Samples = append(slices.Clone(all), -1, math.MaxInt)[:len(all)]
			checkGood(t, "others behind", im, true)
		}
	}
}

func TestGoodImageOfSampleRanges(t *testing.T) {
	r := rand.New(rand.NewPCG(4, 2))
	for planes := 1; planes <= 4; planes++ {
		for _, depth := range depthsOf(planes) {
			im := someImage(r, 4, 3, planes, depth)
			checkGood(t, "some samples", im, true)
			for i := range im.Samples {
				for _, c := range []struct {
					sample int
					good   bool
				}{
					{0, true}, {greatest(depth), true},
					{-1, false}, {greatest(depth) + 1, false}, {2*greatest(depth) + 2, false},
					{math.MinInt, false}, {math.MaxInt, false}, {-greatest(depth) - 1, false},
				} {
					bad := cloneImage(im)
					bad.Samples[i] = c.sample
					checkGood(t, "a sample at its range", bad, c.good)
				}
			}
		}
	}
}

func TestGoodImageOfTheZeroValue(t *testing.T) {
	checkGood(t, "zero value", impl.Image{}, false)
	checkGood(t, "zero value with an empty list", impl.Image{Samples: []int{}}, false)
	checkGood(t, "zero value with a sample", impl.Image{Samples: []int{0}}, false)
}
