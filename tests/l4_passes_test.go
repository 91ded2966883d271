package tests

import (
	"math"
	"math/rand/v2"
	"slices"
	"strconv"
	"testing"

	"loop.example/g00016/impl"
)

// passOf has the pass of each pixel of a square of eight by eight, by the document's beginnings and steps.
var passOf = [8][8]int{
	{0, 5, 3, 5, 1, 5, 3, 5},
	{6, 6, 6, 6, 6, 6, 6, 6},
	{4, 5, 4, 5, 4, 5, 4, 5},
	{6, 6, 6, 6, 6, 6, 6, 6},
	{2, 5, 3, 5, 2, 5, 3, 5},
	{6, 6, 6, 6, 6, 6, 6, 6},
	{4, 5, 4, 5, 4, 5, 4, 5},
	{6, 6, 6, 6, 6, 6, 6, 6},
}

var stepsOf = [7]impl.Pass{
	{X: 0, Y: 0, StepX: 8, StepY: 8}, {X: 4, Y: 0, StepX: 8, StepY: 8}, {X: 0, Y: 4, StepX: 4, StepY: 8},
	{X: 2, Y: 0, StepX: 4, StepY: 4}, {X: 0, Y: 2, StepX: 2, StepY: 4}, {X: 1, Y: 0, StepX: 2, StepY: 2},
	{X: 0, Y: 1, StepX: 1, StepY: 2},
}

func sides(width int, height int) string {
	return strconv.Itoa(width) + " by " + strconv.Itoa(height)
}

// slowPasses counts pixels one by one.
func slowPasses(width int, height int) []impl.Pass {
	var columns, rows [7]map[int]int
	for i := range columns {
		columns[i], rows[i] = map[int]int{}, map[int]int{}
	}
	for y := range height {
		for x := range width {
			pass := passOf[y%8][x%8]
			columns[pass][x]++
			rows[pass][y]++
		}
	}
	var passes []impl.Pass
	for i, p := range stepsOf {
		if len(columns[i]) > 0 {
			p.Width, p.Height = len(columns[i]), len(rows[i])
			passes = append(passes, p)
		}
	}
	return passes
}

// slowSplit goes through the image once for each pass.
func slowSplit(im impl.Image) []impl.Image {
	var parts []impl.Image
	for i, p := range stepsOf {
		part := impl.Image{Planes: im.Planes, Depth: im.Depth}
		at := 0
		for y := range im.Height {
			for x := range im.Width {
				if passOf[y%8][x%8] == i {
					part.Samples = append(part.Samples, im.Samples[at:at+im.Planes]...)
					part.Width, part.Height = (x-p.X)/p.StepX+1, (y-p.Y)/p.StepY+1
				}
				at += im.Planes
			}
		}
		if len(part.Samples) > 0 {
			parts = append(parts, part)
		}
	}
	return parts
}

func sameImages(a, b []impl.Image) bool {
	return slices.EqualFunc(a, b, sameImage)
}

func cloneImages(parts []impl.Image) []impl.Image {
	list := slices.Clone(parts)
	for i := range list {
		list[i] = cloneImage(list[i])
	}
	return list
}

func checkSplit(t *testing.T, im impl.Image) {
	t.Helper()
	was := cloneImage(im)
	parts := impl.Split(im)
	if !sameImages(parts, slowSplit(im)) {
		t.Fatalf("%s: split is %v", described(im), parts)
	}
	for i, p := range impl.Passes(im.Width, im.Height) {
		if !impl.GoodImage(parts[i]) || parts[i].Width != p.Width || parts[i].Height != p.Height {
			t.Fatalf("%s: part %d is not of its pass: %v", described(im), i, parts[i])
		}
	}
	kept := cloneImages(parts)
	if got := impl.Merge(im.Width, im.Height, parts); !sameImage(got, was) {
		t.Fatalf("%s: merged again it is %v", described(im), got)
	}
	if !sameImage(im, was) || !sameImages(parts, kept) {
		t.Fatalf("%s: an argument was written", described(im))
	}
}

func checkNoMerge(t *testing.T, what string, width int, height int, parts []impl.Image) {
	t.Helper()
	if got := impl.Merge(width, height, parts); !sameImage(got, impl.Image{}) {
		t.Errorf("%s: %d parts merged to %s", what, len(parts), described(got))
	}
}

func TestPassesByHand(t *testing.T) {
	for _, c := range []struct {
		width, height int
		passes        [][6]int
	}{
		{1, 1, [][6]int{{0, 0, 8, 8, 1, 1}}},
		{2, 1, [][6]int{{0, 0, 8, 8, 1, 1}, {1, 0, 2, 2, 1, 1}}},
		{1, 2, [][6]int{{0, 0, 8, 8, 1, 1}, {0, 1, 1, 2, 1, 1}}},
		{4, 4, [][6]int{{0, 0, 8, 8, 1, 1}, {2, 0, 4, 4, 1, 1}, {0, 2, 2, 4, 2, 1}, {1, 0, 2, 2, 2, 2}, {0, 1, 1, 2, 4, 2}}},
		{5, 1, [][6]int{{0, 0, 8, 8, 1, 1}, {4, 0, 8, 8, 1, 1}, {2, 0, 4, 4, 1, 1}, {1, 0, 2, 2, 2, 1}}},
		{1, 5, [][6]int{{0, 0, 8, 8, 1, 1}, {0, 4, 4, 8, 1, 1}, {0, 2, 2, 4, 1, 1}, {0, 1, 1, 2, 1, 2}}},
		{8, 8, [][6]int{{0, 0, 8, 8, 1, 1}, {4, 0, 8, 8, 1, 1}, {0, 4, 4, 8, 2, 1}, {2, 0, 4, 4, 2, 2}, {0, 2, 2, 4, 4, 2}, {1, 0, 2, 2, 4, 4}, {0, 1, 1, 2, 8, 4}}},
		{9, 9, [][6]int{{0, 0, 8, 8, 2, 2}, {4, 0, 8, 8, 1, 2}, {0, 4, 4, 8, 3, 1}, {2, 0, 4, 4, 2, 3}, {0, 2, 2, 4, 5, 2}, {1, 0, 2, 2, 4, 5}, {0, 1, 1, 2, 9, 4}}},
		{512, 512, [][6]int{{0, 0, 8, 8, 64, 64}, {4, 0, 8, 8, 64, 64}, {0, 4, 4, 8, 128, 64}, {2, 0, 4, 4, 128, 128}, {0, 2, 2, 4, 256, 128}, {1, 0, 2, 2, 256, 256}, {0, 1, 1, 2, 512, 256}}},
	} {
		var got [][6]int
		for _, p := range impl.Passes(c.width, c.height) {
			got = append(got, [6]int{p.X, p.Y, p.StepX, p.StepY, p.Width, p.Height})
		}
		if !slices.Equal(got, c.passes) {
			t.Errorf("%s: %v, not %v", sides(c.width, c.height), got, c.passes)
		}
	}
}

// TestPassesHoldEachPixelOnce goes from 1 by 1 on, so that there are fewer columns or rows than a pass has steps.
func TestPassesHoldEachPixelOnce(t *testing.T) {
	for width := 1; width <= 26; width++ {
		for height := 1; height <= 26; height++ {
			passes := impl.Passes(width, height)
			if want := slowPasses(width, height); !slices.Equal(passes, want) {
				t.Fatalf("%s: %v, not %v", sides(width, height), passes, want)
			}
			seen := make([]int, width*height)
			for _, p := range passes {
				if p.Width < 1 || p.Height < 1 {
					t.Fatalf("%s: a pass without pixels: %v", sides(width, height), p)
				}
				for j := range p.Height {
					for i := range p.Width {
						seen[(p.Y+j*p.StepY)*width+p.X+i*p.StepX]++
					}
				}
			}
			if slices.Min(seen) != 1 || slices.Max(seen) != 1 {
				t.Fatalf("%s: pixels in so many passes: %v", sides(width, height), seen)
			}
		}
	}
}

func TestPassesAtTheirLimits(t *testing.T) {
	for _, long := range []int{510, 511, 512} {
		for _, short := range []int{1, 2, 7, 8, 9, 512} {
			for _, c := range [][2]int{{long, short}, {short, long}} {
				if got := impl.Passes(c[0], c[1]); !slices.Equal(got, slowPasses(c[0], c[1])) {
					t.Errorf("%s: %v", sides(c[0], c[1]), got)
				}
			}
		}
	}
	for _, bad := range []int{0, -1, -8, 513, 1 << 32, math.MinInt, math.MaxInt} {
		for _, other := range []int{1, 8, 512, 0, bad} {
			if a, b := impl.Passes(bad, other), impl.Passes(other, bad); len(a) > 0 || len(b) > 0 {
				t.Errorf("%s: %v %v", sides(bad, other), a, b)
			}
		}
	}
}

func TestPassesAreNewMemory(t *testing.T) {
	clear(impl.Passes(9, 9))
	if got := impl.Passes(9, 9); !slices.Equal(got, slowPasses(9, 9)) {
		t.Errorf("two answers share memory: %v", got)
	}
}

func TestSplitByHand(t *testing.T) {
	im := impl.Image{Width: 3, Height: 3, Planes: 2, Depth: 16, Samples: []int{
		0, 1, 10, 11, 20, 21,
		100, 101, 110, 111, 120, 121,
		200, 201, 210, 211, 220, 221,
	}}
	parts := []impl.Image{
		{Width: 1, Height: 1, Planes: 2, Depth: 16, Samples: []int{0, 1}},
		{Width: 1, Height: 1, Planes: 2, Depth: 16, Samples: []int{20, 21}},
		{Width: 2, Height: 1, Planes: 2, Depth: 16, Samples: []int{200, 201, 220, 221}},
		{Width: 1, Height: 2, Planes: 2, Depth: 16, Samples: []int{10, 11, 210, 211}},
		{Width: 3, Height: 1, Planes: 2, Depth: 16, Samples: []int{100, 101, 110, 111, 120, 121}},
	}
	if got := impl.Split(im); !sameImages(got, parts) {
		t.Errorf("%v, not %v", got, parts)
	}
	if got := impl.Merge(3, 3, parts); !sameImage(got, im) {
		t.Errorf("%v, not %v", got, im)
	}
}

func TestSplitsOfAllSmallSidesAreMerged(t *testing.T) {
	r := rand.New(rand.NewPCG(4, 12))
	for width := 1; width <= 18; width++ {
		for height := 1; height <= 18; height++ {
			planes := 1 + r.IntN(4)
			of := depthsOf(planes)
			checkSplit(t, someImage(r, width, height, planes, of[r.IntN(len(of))]))
		}
	}
}

func TestSplitsOfEachShapeAreMerged(t *testing.T) {
	r := rand.New(rand.NewPCG(4, 13))
	for planes := 1; planes <= 4; planes++ {
		for _, depth := range depthsOf(planes) {
			for _, c := range [][2]int{
				{1, 1}, {1, 2}, {2, 1}, {1, 9}, {9, 1}, {5, 7}, {16, 16}, {17, 15},
				{1, 512}, {512, 1}, {512, 8}, {8, 512}, {64, 64}, {3, 512}, {511, 5},
			} {
				checkSplit(t, someImage(r, c[0], c[1], planes, depth))
			}
		}
	}
}

func TestSplitOfImagesThatAreNotGood(t *testing.T) {
	r := rand.New(rand.NewPCG(4, 14))
	good := someImage(r, 4, 3, 1, 4)
	for _, change := range []func(im *impl.Image){
		func(im *impl.Image) { im.Width = 0 },
		func(im *impl.Image) { im.Height = -3 },
		func(im *impl.Image) { im.Width, im.Height = 3, 5 },
		func(im *impl.Image) { im.Width, im.Height = math.MaxInt, math.MaxInt },
		func(im *impl.Image) { im.Width, im.Height = 1<<32, 1<<32 },
		func(im *impl.Image) { im.Width, im.Height, im.Samples = 513, 1, make([]int, 513) },
		func(im *impl.Image) { im.Width, im.Height, im.Samples = 65, 64, make([]int, 65*64) },
		func(im *impl.Image) { im.Planes = 0 },
		func(im *impl.Image) { im.Planes = 2 },
		func(im *impl.Image) { im.Planes, im.Depth, im.Samples = 5, 8, make([]int, 60) },
		func(im *impl.Image) { im.Planes, im.Samples = 2, make([]int, 24) },
		func(im *impl.Image) { im.Depth = 3 },
		func(im *impl.Image) { im.Depth, im.Samples[0] = 2, 4 },
		func(im *impl.Image) { im.Samples[11] = 16 },
		func(im *impl.Image) { im.Samples[5] = -1 },
		func(im *impl.Image) { im.Samples = im.Samples[:11] },
		func(im *impl.Image) { im.Samples = append(im.Samples, 0) },
		func(im *impl.Image) { im.Samples = nil },
		func(im *impl.Image) { *im = impl.Image{} },
	} {
		bad := cloneImage(good)
		change(&bad)
		if got := impl.Split(bad); len(got) > 0 {
			t.Errorf("%s, %d samples: split is %v", described(bad), len(bad.Samples), got)
		}
	}
	checkSplit(t, good)
}

func TestMergeOfOtherSides(t *testing.T) {
	r := rand.New(rand.NewPCG(4, 15))
	for width := 1; width <= 9; width++ {
		for height := 1; height <= 9; height++ {
			im := someImage(r, width, height, 1, 8)
			parts := impl.Split(im)
			for otherWidth := 1; otherWidth <= 9; otherWidth++ {
				for otherHeight := 1; otherHeight <= 9; otherHeight++ {
					got := impl.Merge(otherWidth, otherHeight, parts)
					fits := sameSides(parts, slowPasses(otherWidth, otherHeight))
					if !fits && !sameImage(got, impl.Image{}) || fits && !sameImages(slowSplit(got), parts) {
						t.Fatalf("%s merged to %s", described(im), described(got))
					}
				}
			}
		}
	}
}

func sameSides(parts []impl.Image, passes []impl.Pass) bool {
	return slices.EqualFunc(parts, passes, func(part impl.Image, p impl.Pass) bool {
		return part.Width == p.Width && part.Height == p.Height
	})
}

// TestMergeOfSidesThatAreAlike: the parts of a column of two pixels are those of a row of two as well.
func TestMergeOfSidesThatAreAlike(t *testing.T) {
	parts := impl.Split(impl.Image{Width: 1, Height: 2, Planes: 1, Depth: 8, Samples: []int{7, 9}})
	want := impl.Image{Width: 2, Height: 1, Planes: 1, Depth: 8, Samples: []int{7, 9}}
	if got := impl.Merge(2, 1, parts); !sameImage(got, want) {
		t.Errorf("%v, not %v", got, want)
	}
}

func TestMergeOfSidesOutOfTheirRange(t *testing.T) {
	one := []impl.Image{{Width: 1, Height: 1, Planes: 1, Depth: 8, Samples: []int{1}}}
	full := impl.Split(someImage(rand.New(rand.NewPCG(4, 16)), 512, 8, 1, 8))
	for _, bad := range []int{0, -1, 513, 1 << 32, 1 << 62, math.MinInt, math.MaxInt} {
		for _, parts := range [][]impl.Image{nil, {}, one, full} {
			checkNoMerge(t, "a width out of its range", bad, 1, parts)
			checkNoMerge(t, "a height out of its range", 1, bad, parts)
			checkNoMerge(t, "both out of their range", bad, bad, parts)
		}
	}
}

func TestMergeOfTooFewPartsOrTooMany(t *testing.T) {
	r := rand.New(rand.NewPCG(4, 17))
	for _, c := range [][2]int{{1, 1}, {1, 2}, {2, 1}, {3, 2}, {4, 4}, {9, 9}, {64, 64}} {
		parts := impl.Split(someImage(r, c[0], c[1], 1, 8))
		for i := range parts {
			checkNoMerge(t, "one too few", c[0], c[1], slices.Delete(slices.Clone(parts), i, i+1))
			checkNoMerge(t, "one twice", c[0], c[1], slices.Insert(slices.Clone(parts), i, parts[i]))
		}
		checkNoMerge(t, "one too many", c[0], c[1], append(slices.Clone(parts), parts[0]))
		checkNoMerge(t, "a zero value too many", c[0], c[1], append(slices.Clone(parts), impl.Image{}))
		checkNoMerge(t, "none", c[0], c[1], nil)
		// Behind the length there is what lacks.
		checkNoMerge(t, "what lies behind the length", c[0], c[1], parts[:len(parts)-1])
	}
}

func TestMergeOfAnotherOrder(t *testing.T) {
	r := rand.New(rand.NewPCG(4, 18))
	parts := impl.Split(someImage(r, 11, 10, 3, 8))
	if len(parts) != 7 {
		t.Fatalf("%d parts", len(parts))
	}
	for i := range parts {
		for j := range i {
			other := slices.Clone(parts)
			other[i], other[j] = other[j], other[i]
			if parts[i].Width == parts[j].Width && parts[i].Height == parts[j].Height {
				if got := impl.Merge(11, 10, other); !sameImages(slowSplit(got), other) {
					t.Errorf("%d and %d, of the same sides, the other way: %v", j, i, got)
				}
			} else {
				checkNoMerge(t, "another order", 11, 10, other)
			}
		}
	}
}

func TestMergeOfPartsThatAreNotGoodOrUnlike(t *testing.T) {
	r := rand.New(rand.NewPCG(4, 19))
	parts := impl.Split(someImage(r, 8, 8, 2, 8))
	for what, change := range map[string]func(im *impl.Image){
		"a width more":         func(im *impl.Image) { im.Width++ },
		"a width less":         func(im *impl.Image) { im.Width-- },
		"a height more":        func(im *impl.Image) { im.Height++ },
		"a height less":        func(im *impl.Image) { im.Height-- },
		"wider by a column":    func(im *impl.Image) { *im = someImage(r, im.Width+1, im.Height, 2, 8) },
		"higher by a row":      func(im *impl.Image) { *im = someImage(r, im.Width, im.Height+1, 2, 8) },
		"other planes":         func(im *impl.Image) { *im = someImage(r, im.Width, im.Height, 3, 8) },
		"one plane":            func(im *impl.Image) { *im = someImage(r, im.Width, im.Height, 1, 8) },
		"planes told as more":  func(im *impl.Image) { im.Planes = 3 },
		"planes told as less":  func(im *impl.Image) { im.Planes = 1 },
		"another depth":        func(im *impl.Image) { im.Depth = 16 },
		"no depth":             func(im *impl.Image) { im.Depth = 0 },
		"a depth of one plane": func(im *impl.Image) { *im = someImage(r, im.Width, im.Height, 2, 4) },
		"a sample below 0":     func(im *impl.Image) { im.Samples[len(im.Samples)-1] = -1 },
		"a sample too great":   func(im *impl.Image) { im.Samples[0] = 256 },
		"a sample too few":     func(im *impl.Image) { im.Samples = im.Samples[:len(im.Samples)-1] },
		"a sample too many":    func(im *impl.Image) { im.Samples = append(im.Samples, 0) },
		"no samples":           func(im *impl.Image) { im.Samples = nil },
		"the zero value":       func(im *impl.Image) { *im = impl.Image{} },
		"great sides":          func(im *impl.Image) { im.Width, im.Height = 1<<32, 1<<32 },
	} {
		for i := range parts {
			bad := cloneImages(parts)
			change(&bad[i])
			checkNoMerge(t, what, 8, 8, bad)
		}
	}
	if got := impl.Merge(8, 8, parts); !sameImages(slowSplit(got), parts) {
		t.Errorf("the parts themselves: %v", got)
	}
}

// likeParts has a part for each pass, each good by itself where it may be.
func likeParts(width int, height int, planes int, depth int) []impl.Image {
	var parts []impl.Image
	for _, p := range slowPasses(width, height) {
		parts = append(parts, impl.Image{
			Width: p.Width, Height: p.Height, Planes: planes, Depth: depth,
			Samples: make([]int, p.Width*p.Height*max(0, planes)),
		})
	}
	return parts
}

func TestMergeOfPartsOfNoImage(t *testing.T) {
	// Each part is good, but together they have too many pixels.
	for _, c := range [][2]int{{65, 64}, {64, 65}, {512, 9}, {9, 512}, {90, 90}} {
		parts := likeParts(c[0], c[1], 1, 8)
		for _, part := range parts {
			checkGood(t, "a part of too many pixels", part, true)
		}
		checkNoMerge(t, "too many pixels", c[0], c[1], parts)
	}
	checkNoMerge(t, "the most pixels", 512, 512, likeParts(512, 512, 1, 8))
	for _, c := range [][2]int{{0, 8}, {-1, 8}, {5, 8}, {1, 3}, {1, 0}, {1, 32}, {2, 4}, {4, 1}} {
		checkNoMerge(t, "planes and depths that are none", 3, 3, likeParts(3, 3, c[0], c[1]))
		checkNoMerge(t, "a pixel of planes and depths that are none", 1, 1, likeParts(1, 1, c[0], c[1]))
	}
	if got := impl.Merge(64, 64, likeParts(64, 64, 4, 16)); len(got.Samples) != 16384 {
		t.Errorf("just as many pixels and planes as may be: %s", described(got))
	}
}

func TestSplitAndMergeAreNewMemory(t *testing.T) {
	r := rand.New(rand.NewPCG(4, 20))
	for _, c := range [][2]int{{1, 1}, {1, 5}, {5, 1}, {9, 9}} {
		im := someImage(r, c[0], c[1], 1, 8)
		want := slowSplit(im)
		parts := impl.Split(im)
		for i := range parts {
			grown := append(parts[i].Samples, 300, 300, 300)
			clear(grown)
			clear(parts[i].Samples)
			if !sameImages(parts[i+1:], want[i+1:]) {
				t.Errorf("%s: two lists of one answer share memory", described(im))
			}
		}
		if !sameImages(impl.Split(im), want) {
			t.Errorf("%s: the image was written by what was split off", described(im))
		}
		clear(impl.Merge(c[0], c[1], want).Samples)
		if !sameImages(want, slowSplit(im)) {
			t.Errorf("%s: the parts were written by what was merged", described(im))
		}
	}
}
