package tests

import (
	"math"
	"math/rand/v2"
	"slices"
	"testing"

	"loop.example/g00016/impl"
)

// What stands around a plane's samples in the memory in which a test hands it in.
const notOfThePlane = 7777

func somePlane(r *rand.Rand, width int, height int) impl.Plane {
	return impl.Plane{Width: width, Height: height, Samples: someSamples(r, width*height, 8)}
}

func evenPlane(width int, height int, sample int) impl.Plane {
	return impl.Plane{Width: width, Height: height, Samples: slices.Repeat([]int{sample}, width*height)}
}

// starkPlane has samples of 0 and 255 alone.
func starkPlane(r *rand.Rand, width int, height int) impl.Plane {
	p := somePlane(r, width, height)
	for i, sample := range p.Samples {
		p.Samples[i] = 255 * (sample & 1)
	}
	return p
}

func samePlane(a, b impl.Plane) bool {
	return a.Width == b.Width && a.Height == b.Height && slices.Equal(a.Samples, b.Samples)
}

func isNoPlane(p impl.Plane) bool {
	return p.Width == 0 && p.Height == 0 && len(p.Samples) == 0
}

// flipped has the columns as rows.
func flipped(p impl.Plane) impl.Plane {
	f := impl.Plane{Width: p.Height, Height: p.Width}
	for x := range p.Width {
		for y := range p.Height {
			f.Samples = append(f.Samples, p.Samples[y*p.Width+x])
		}
	}
	return f
}

// madeOf makes a plane of p, which stands amid other memory then, and looks whether any of that is written or shared.
func madeOf(t *testing.T, p impl.Plane, change func(impl.Plane) impl.Plane) impl.Plane {
	t.Helper()
	around := slices.Repeat([]int{notOfThePlane}, len(p.Samples)+8)
	copy(around[4:], p.Samples)
	was := slices.Clone(around)
	handed := p
	handed.Samples = around[4 : 4+len(p.Samples)]
	got := change(handed)
	if !slices.Equal(around, was) {
		t.Fatalf("plane of %s: an argument was written", sides(p.Width, p.Height))
	}
	kept := got
	kept.Samples = slices.Clone(got.Samples)
	all := got.Samples[:cap(got.Samples)]
	for i := range all {
		all[i] = -5
	}
	if !slices.Equal(around, was) {
		t.Fatalf("plane of %s: the answer shares its memory", sides(p.Width, p.Height))
	}
	return kept
}

func checkMade(t *testing.T, what string, p impl.Plane, want impl.Plane, change func(impl.Plane) impl.Plane) {
	t.Helper()
	got := madeOf(t, p, change)
	if samePlane(got, want) {
		checkWithin(t, what, p, got)
		return
	}
	if len(p.Samples)+len(got.Samples)+len(want.Samples) > 200 {
		t.Fatalf("%s: of %s a plane of %s, %d samples, not as %s", what, sides(p.Width, p.Height), sides(got.Width, got.Height), len(got.Samples), sides(want.Width, want.Height))
	}
	t.Fatalf("%s: of %v %v, not %v", what, p, got, want)
}

// checkWithin asks for no sample beyond those that there were.
func checkWithin(t *testing.T, what string, p impl.Plane, made impl.Plane) {
	t.Helper()
	if len(made.Samples) == 0 {
		return
	}
	if slices.Min(made.Samples) < slices.Min(p.Samples) || slices.Max(made.Samples) > slices.Max(p.Samples) {
		t.Fatalf("%s: of %s: samples in %d..%d become %d..%d", what, sides(p.Width, p.Height),
			slices.Min(p.Samples), slices.Max(p.Samples), slices.Min(made.Samples), slices.Max(made.Samples))
	}
}

// checkNoneOfBad asks for the zero value of each plane that is not good.
func checkNoneOfBad(t *testing.T, change func(impl.Plane) impl.Plane) {
	t.Helper()
	for what, p := range badPlanes() {
		if got := madeOf(t, p, change); !isNoPlane(got) {
			t.Errorf("%s: a plane of %s, %d samples", what, sides(got.Width, got.Height), len(got.Samples))
		}
	}
}

// badPlanes are like one of 4 by 2, but for one thing.
func badPlanes() map[string]impl.Plane {
	eight := []int{1, 2, 3, 4, 5, 6, 7, 8}
	with := func(at int, sample int) impl.Plane {
		p := impl.Plane{Width: 4, Height: 2, Samples: slices.Clone(eight)}
		p.Samples[at] = sample
		return p
	}
	return map[string]impl.Plane{
		"the zero value":           {},
		"no samples":               {Width: 4, Height: 2},
		"an empty list":            {Width: 4, Height: 2, Samples: []int{}},
		"one sample too few":       {Width: 4, Height: 2, Samples: eight[:7]},
		"one sample too many":      {Width: 4, Height: 2, Samples: append(slices.Clone(eight), 9)},
		"no columns":               {Width: 0, Height: 2, Samples: eight},
		"no rows":                  {Width: 4, Height: 0, Samples: eight},
		"sides of 0":               {Samples: []int{1}},
		"columns below 0":          {Width: -4, Height: 2, Samples: eight},
		"both below 0":             {Width: -4, Height: -2, Samples: eight},
		"other sides":              {Width: 3, Height: 2, Samples: eight},
		"first sample -1":          with(0, -1),
		"last sample -1":           with(7, -1),
		"first sample 256":         with(0, 256),
		"last sample 256":          with(7, 256),
		"the least sample":         with(3, math.MinInt),
		"the greatest sample":      with(4, math.MaxInt),
		"a column too many":        evenPlane(513, 1, 3),
		"a row too many":           evenPlane(1, 513, 3),
		"a pixel too many":         evenPlane(241, 17, 3),
		"a product of 0 beyond":    {Width: 1 << 32, Height: 1 << 32},
		"a product of 8 beyond":    {Width: 1<<61 + 1, Height: 8, Samples: eight},
		"the least sides":          {Width: math.MinInt, Height: math.MinInt},
		"the greatest sides":       {Width: math.MaxInt, Height: math.MaxInt, Samples: []int{1}},
		"greatest and least sides": {Width: math.MaxInt, Height: math.MinInt},
	}
}

func checkGoodPlane(t *testing.T, what string, p impl.Plane, want bool) {
	t.Helper()
	was := slices.Clone(p.Samples)
	if got := impl.GoodPlane(p); got != want {
		t.Errorf("%s: plane of %s, %d samples: good is %v", what, sides(p.Width, p.Height), len(p.Samples), got)
	}
	if !slices.Equal(p.Samples, was) {
		t.Errorf("%s: samples were written", what)
	}
}

func TestGoodPlaneOfSides(t *testing.T) {
	for _, c := range []struct {
		width, height int
		good          bool
	}{
		{1, 1, true}, {1, 2, true}, {2, 1, true}, {5, 7, true},
		{512, 1, true}, {1, 512, true}, {512, 8, true}, {8, 512, true}, {64, 64, true}, {455, 9, true},
		{513, 1, false}, {1, 513, false}, {4096, 1, false}, {1, 4096, false}, {1024, 2, false},
		{512, 9, false}, {9, 512, false}, {65, 64, false}, {64, 65, false}, {4097, 1, false}, {241, 17, false},
		{0, 0, false}, {0, 1, false}, {1, 0, false}, {0, 512, false}, {513, 0, false},
		{-1, 1, false}, {1, -1, false}, {-1, -1, false}, {-4, -5, false}, {-64, -64, false},
	} {
		p := impl.Plane{Width: c.width, Height: c.height, Samples: make([]int, max(0, c.width*c.height))}
		checkGoodPlane(t, "sides", p, c.good)
	}
}

func TestGoodPlaneOfSidesBeyondAnInt(t *testing.T) {
	great := []int{math.MinInt, math.MinInt + 1, -1 << 32, 1 << 31, 1 << 32, 1 << 33, 1<<60 + 1, 1 << 61, 1<<61 + 1, 1 << 62, math.MaxInt - 1, math.MaxInt}
	others := append([]int{-512, -1, 0, 1, 2, 3, 4, 8, 16, 511, 512}, great...)
	for _, a := range great {
		for _, b := range others {
			for _, two := range [][2]int{{a, b}, {b, a}} {
				p := impl.Plane{Width: two[0], Height: two[1]}
				checkGoodPlane(t, "great sides, no samples", p, false)
				// What a product has that has gone beyond an int.
				if product := a * b; product > 0 && product <= 2*impl.MaxPixels {
					p.Samples = make([]int, product)
					checkGoodPlane(t, "great sides, a product's samples", p, false)
				}
			}
		}
	}
}

func TestGoodPlaneOfHowManySamples(t *testing.T) {
	r := rand.New(rand.NewPCG(7, 4))
	p := somePlane(r, 5, 3)
	all := p.Samples
	for many := range len(all) {
		p.Samples = all[:many]
		checkGoodPlane(t, "too few", p, false)
	}
	p.Samples = append(slices.Clone(all), 0)
	checkGoodPlane(t, "one too many", p, false)
	p.Samples = slices.Concat(all, all)
	checkGoodPlane(t, "twice as many", p, false)
	// Those behind the length count for nothing.
	p.Samples = append(slices.Clone(all), -1, math.MaxInt)[:len(all)]
	checkGoodPlane(t, "others behind", p, true)
}

func TestGoodPlaneOfSampleRanges(t *testing.T) {
	r := rand.New(rand.NewPCG(7, 5))
	for i := range 12 {
		for _, c := range []struct {
			sample int
			good   bool
		}{
			{0, true}, {1, true}, {128, true}, {254, true}, {255, true},
			{-1, false}, {256, false}, {257, false}, {-255, false}, {-256, false}, {511, false}, {512, false},
			{1 << 32, false}, {math.MinInt, false}, {math.MaxInt, false},
		} {
			p := somePlane(r, 4, 3)
			p.Samples[i] = c.sample
			checkGoodPlane(t, "a sample at its range", p, c.good)
		}
	}
}

func TestGoodPlaneOfBadOnes(t *testing.T) {
	for what, p := range badPlanes() {
		checkGoodPlane(t, what, p, false)
	}
	checkGoodPlane(t, "as those, but good", impl.Plane{Width: 4, Height: 2, Samples: []int{1, 2, 3, 4, 5, 6, 7, 8}}, true)
}

// Bads, goods and sizes of all kinds: each call answers, and what it answers has as many samples as it says.
func TestSizesOfAnyArguments(t *testing.T) {
	r := rand.New(rand.NewPCG(7, 6))
	numbers := append(extremes(), -513, -512, -4, -2, -1, 0, 1, 2, 3, 4, 5, 7, 8, 9, 15, 16, 64, 128, 511, 512, 513, 1023, 1024, 1025, 4096, 4097)
	some := func() int { return numbers[r.IntN(len(numbers))] }
	for range 30000 {
		p := impl.Plane{Width: some(), Height: some()}
		if r.IntN(2) == 0 {
			p.Width, p.Height = 1+r.IntN(9), 1+r.IntN(9)
		}
		if many := p.Width * p.Height; many > 0 && many <= impl.MaxPixels {
			p.Samples = someSamples(r, many, 8)
		}
		if len(p.Samples) > 0 && r.IntN(4) == 0 {
			p.Samples[r.IntN(len(p.Samples))] = some()
		}
		by, width, height := some(), some(), some()
		for what, change := range map[string]func(impl.Plane) impl.Plane{
			"Shrink": func(p impl.Plane) impl.Plane { return impl.Shrink(p, by) },
			"Grow":   func(p impl.Plane) impl.Plane { return impl.Grow(p, width, height) },
			"Resize": func(p impl.Plane) impl.Plane { return impl.Resize(p, width, height) },
		} {
			got := madeOf(t, p, change)
			if !impl.GoodPlane(p) && !isNoPlane(got) || len(got.Samples) != got.Width*got.Height {
				t.Fatalf("%s of %s by %d or to %s: %s, %d samples", what, sides(p.Width, p.Height), by, sides(width, height), sides(got.Width, got.Height), len(got.Samples))
			}
			checkWithin(t, what, p, got)
		}
	}
}
