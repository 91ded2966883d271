package tests

import (
	"math"
	"math/rand/v2"
	"slices"
	"testing"

	"loop.example/g00016/impl"
)

// A guessing is what Guess is asked.
type guessing struct {
	mode   int
	size   int
	left   []int
	above  []int
	corner int
}

func areSamples(list []int) bool {
	return allWithin(list, 0, 255)
}

func (g guessing) mayBe() bool {
	if g.size != 4 && g.size != 8 || g.mode < 0 || g.mode > 3 || !areSamples([]int{g.corner}) {
		return false
	}
	for _, list := range [][]int{g.left, g.above} {
		if len(list) != 0 && len(list) != g.size || !areSamples(list) {
			return false
		}
	}
	hasLeft, hasAbove := len(g.left) > 0, len(g.above) > 0
	return []bool{true, hasLeft, hasAbove, hasLeft && hasAbove}[g.mode]
}

// slowMean looks for the number that is nearest, the upper one of two that are as near.
func slowMean(samples []int) int {
	if len(samples) == 0 {
		return 128
	}
	sum := 0
	for _, sample := range samples {
		sum += sample
	}
	for mean := 0; ; mean++ {
		if 2*sum < (2*mean+1)*len(samples) {
			return mean
		}
	}
}

func (g guessing) slow() []int {
	if !g.mayBe() {
		return nil
	}
	var square []int
	for row := range g.size {
		for column := range g.size {
			sample := 0
			if g.mode == 0 {
				sample = slowMean(slices.Concat(g.left, g.above))
			} else if g.mode == 1 {
				sample = g.left[row]
			} else if g.mode == 2 {
				sample = g.above[column]
			} else {
				sample = clippedNumber(g.left[row] + g.above[column] - g.corner)
			}
			square = append(square, sample)
		}
	}
	return square
}

// made asks twice, of lists amid other memory.
func (g guessing) made(t *testing.T) []int {
	t.Helper()
	around, handed := amidLists([][]int{g.left, g.above}, 7777)
	was := cloneLists(around)
	ask := func() []int { return impl.Guess(g.mode, g.size, handed[0], handed[1], g.corner) }
	got, again := ask(), ask()
	if !sameLists(around, was) || !slices.Equal(got, again) {
		t.Fatalf("%v: an argument was written, or two calls are not alike", g)
	}
	kept := slices.Clone(got)
	checkApart(t, "a guess", around, got, again)
	return kept
}

func (g guessing) check(t *testing.T) []int {
	t.Helper()
	got, want := g.made(t), g.slow()
	if !slices.Equal(got, want) {
		t.Fatalf("%v:\n%v, not\n%v", g, got, want)
	}
	return got
}

func (g guessing) checkNone(t *testing.T, what string) {
	t.Helper()
	if got := g.check(t); len(got) > 0 {
		t.Errorf("%s: %v: %v", what, g, got)
	}
}

// someSide has samples, some of them at the ends of what they may be.
func someSide(r *rand.Rand, many int) []int {
	side := someSamples(r, many, 8)
	if r.IntN(3) == 0 {
		for i := range side {
			side[i] = 255 * (side[i] & 1)
		}
	}
	return side
}

func someGuessing(r *rand.Rand, mode int, size int) guessing {
	return guessing{mode: mode, size: size, left: someSide(r, size), above: someSide(r, size), corner: someSide(r, 1)[0]}
}

func TestGuessByHand(t *testing.T) {
	left, above := []int{10, 20, 30, 41}, []int{1, 2, 3, 250}
	for _, c := range []struct {
		asked guessing
		want  []int
	}{
		// (357 + 4) / 8
		{guessing{0, 4, left, above, 255}, alike(45, 16)},
		// (101 + 2) / 4, (256 + 2) / 4
		{guessing{0, 4, left, nil, 7}, alike(25, 16)},
		{guessing{0, 4, nil, above, 7}, alike(64, 16)},
		{guessing{0, 4, nil, nil, 7}, alike(128, 16)},
		{guessing{0, 8, nil, nil, 0}, alike(128, 64)},
		{guessing{1, 4, left, above, 7}, []int{10, 10, 10, 10, 20, 20, 20, 20, 30, 30, 30, 30, 41, 41, 41, 41}},
		{guessing{2, 4, left, above, 7}, []int{1, 2, 3, 250, 1, 2, 3, 250, 1, 2, 3, 250, 1, 2, 3, 250}},
		{guessing{3, 4, left, above, 12}, []int{0, 0, 1, 248, 9, 10, 11, 255, 19, 20, 21, 255, 30, 31, 32, 255}},
		{guessing{3, 4, left, above, 0}, []int{11, 12, 13, 255, 21, 22, 23, 255, 31, 32, 33, 255, 42, 43, 44, 255}},
		{guessing{3, 4, left, above, 255}, []int{0, 0, 0, 5, 0, 0, 0, 15, 0, 0, 0, 25, 0, 0, 0, 36}},
		{guessing{1, 8, []int{1, 2, 3, 4, 5, 6, 7, 8}, nil, 0}, slices.Concat(alike(1, 8), alike(2, 8), alike(3, 8), alike(4, 8), alike(5, 8), alike(6, 8), alike(7, 8), alike(8, 8))},
		{guessing{2, 8, nil, []int{1, 2, 3, 4, 5, 6, 7, 8}, 0}, slices.Repeat([]int{1, 2, 3, 4, 5, 6, 7, 8}, 8)},
	} {
		if got := c.asked.check(t); !slices.Equal(got, c.want) {
			t.Errorf("%v: %v, not %v", c.asked, got, c.want)
		}
	}
}

func TestGuessOfSomeSides(t *testing.T) {
	r := rand.New(rand.NewPCG(13, 1))
	for range 1500 {
		for mode := range 4 {
			for _, size := range []int{4, 8} {
				someGuessing(r, mode, size).check(t)
			}
		}
	}
}

// TestGuessByWhatThereIs has each mode with both, one and none of what stands around, as nil and as an empty list.
func TestGuessByWhatThereIs(t *testing.T) {
	r := rand.New(rand.NewPCG(13, 2))
	for _, size := range []int{4, 8} {
		for mode := range 4 {
			g := someGuessing(r, mode, size)
			for _, left := range [][]int{nil, {}, g.left} {
				for _, above := range [][]int{nil, {}, g.above} {
					asked := guessing{mode, size, left, above, g.corner}
					if got := impl.Guess(mode, size, left, above, g.corner); !slices.Equal(got, asked.slow()) {
						t.Errorf("%v: %v", asked, got)
					}
					lacks := mode%2 == 1 && len(left) == 0 || mode >= 2 && len(above) == 0
					if got := asked.check(t); lacks != (len(got) == 0) {
						t.Errorf("%v: %v", asked, got)
					}
				}
			}
		}
	}
}

// TestGuessOfEachMean has every sum that four, eight and sixteen samples may have.
func TestGuessOfEachMean(t *testing.T) {
	r := rand.New(rand.NewPCG(13, 3))
	for _, c := range []struct{ size, left, above int }{{4, 4, 0}, {4, 0, 4}, {4, 4, 4}, {8, 8, 0}, {8, 0, 8}, {8, 8, 8}} {
		many := c.left + c.above
		for sum := range 255*many + 1 {
			samples := alike(sum/many, many)
			for i := range sum % many {
				samples[i]++
			}
			r.Shuffle(many, func(i int, j int) { samples[i], samples[j] = samples[j], samples[i] })
			got := impl.Guess(0, c.size, samples[:c.left], samples[c.left:], sum%256)
			want := (2*sum + many) / (2 * many)
			if !slices.Equal(got, alike(want, c.size*c.size)) {
				t.Fatalf("size %d, %d samples whose sum is %d: %v, not %d", c.size, many, sum, got, want)
			}
		}
	}
}

// TestGuessOfEachSlope has mode 3 with each sum from the least to the greatest, and around both ends with each corner.
func TestGuessOfEachSlope(t *testing.T) {
	for _, corner := range []int{0, 1, 127, 128, 254, 255} {
		for first := range 256 {
			left := []int{first, 255 - first, 0, 255}
			for _, above := range [][]int{{0, 1, 254, 255}, {corner, max(0, corner-1), min(255, corner+1), 255 - corner}} {
				guessing{3, 4, left, above, corner}.check(t)
			}
		}
	}
}

// The corner counts in mode 3 alone.
func TestGuessByTheCorner(t *testing.T) {
	r := rand.New(rand.NewPCG(13, 4))
	for mode := range 4 {
		g := someGuessing(r, mode, 8)
		g.left, g.above = alike(100, 8), alike(150, 8)
		for corner := range 256 {
			g.corner = corner
			g.check(t)
		}
		for _, corner := range slices.Concat(extremes(), []int{-257, -256, -255, -2, -1, 256, 257, 300, 511, 512}) {
			g.corner = corner
			g.checkNone(t, "a corner that is no sample")
			(guessing{0, 8, nil, nil, corner}).checkNone(t, "a corner that is no sample, nothing else")
		}
	}
}

func TestGuessOfNoMode(t *testing.T) {
	r := rand.New(rand.NewPCG(13, 5))
	for _, size := range []int{4, 8} {
		for _, mode := range slices.Concat(extremes(), []int{-256, -4, -3, -2, -1, 4, 5, 6, 7, 8, 256}) {
			g := someGuessing(r, mode, size)
			g.checkNone(t, "no mode")
			(guessing{mode, size, nil, nil, 0}).checkNone(t, "no mode, nothing around")
		}
	}
}

func TestGuessOfNoSize(t *testing.T) {
	r := rand.New(rand.NewPCG(13, 6))
	for mode := range 4 {
		for _, size := range slices.Concat(extremes(), []int{-64, -16, -8, -4, -1, 0, 1, 2, 3, 5, 6, 7, 9, 12, 15, 16, 32, 64}) {
			for many := range 18 {
				side := someSide(r, many)
				(guessing{mode, size, side, side, 9}).checkNone(t, "no size")
				(guessing{mode, size, side, nil, 9}).checkNone(t, "no size")
				(guessing{mode, size, nil, side, 9}).checkNone(t, "no size")
			}
		}
	}
}

// TestGuessOfSidesOfOtherLengths has them even where the mode does not look at that side.
func TestGuessOfSidesOfOtherLengths(t *testing.T) {
	r := rand.New(rand.NewPCG(13, 7))
	for mode := range 4 {
		for _, size := range []int{4, 8} {
			for many := range 2*size + 2 {
				g := someGuessing(r, mode, size)
				for _, asked := range []guessing{
					{mode, size, someSide(r, many), g.above, g.corner},
					{mode, size, g.left, someSide(r, many), g.corner},
					{mode, size, someSide(r, many), nil, g.corner},
					{mode, size, nil, someSide(r, many), g.corner},
					{mode, size, someSide(r, many), someSide(r, many), g.corner},
				} {
					asked.check(t)
					if many != 0 && many != size {
						asked.checkNone(t, "a side of another length")
					}
				}
			}
		}
	}
}

func TestGuessOfSampleRanges(t *testing.T) {
	r := rand.New(rand.NewPCG(13, 8))
	for mode := range 4 {
		for _, size := range []int{4, 8} {
			for at := range 2 * size {
				for _, sample := range []int{0, 255, -1, 256, -256, 511, 1 << 32, math.MinInt, math.MaxInt} {
					g := someGuessing(r, mode, size)
					if at < size {
						g.left[at] = sample
					} else {
						g.above[at-size] = sample
					}
					if got := g.check(t); (len(got) > 0) != (sample == 0 || sample == 255) {
						t.Errorf("%v: %v", g, got)
					}
				}
			}
		}
	}
}

func TestGuessOfSharedSides(t *testing.T) {
	side := []int{1, 2, 3, 4, 5, 6, 7, 8, 9}
	was := slices.Clone(side)
	// The last of the one is the first of the other.
	got := impl.Guess(3, 4, side[:4], side[3:7], 2)
	want := guessing{3, 4, side[:4], side[3:7], 2}.slow()
	if !slices.Equal(got, want) || !slices.Equal(side, was) {
		t.Errorf("%v, not %v; %v", got, want, side)
	}
}

func TestGuessOfAnyArguments(t *testing.T) {
	r := rand.New(rand.NewPCG(13, 9))
	numbers := append(extremes(), -9, -1, 0, 1, 2, 3, 4, 5, 7, 8, 9, 128, 255, 256)
	some := func() int { return numbers[r.IntN(len(numbers))] }
	lengths := []int{0, 0, 3, 4, 4, 4, 5, 8, 8, 8, 9}
	met := map[bool]int{}
	for range 20000 {
		g := someGuessing(r, r.IntN(4), 4<<r.IntN(2))
		g.left, g.above = someSide(r, lengths[r.IntN(len(lengths))]), someSide(r, lengths[r.IntN(len(lengths))])
		switch r.IntN(8) {
		case 0:
			g.mode = some()
		case 1:
			g.size = some()
		case 2:
			g.corner = some()
		case 3:
			for _, side := range [][]int{g.left, g.above} {
				if len(side) > 0 {
					side[r.IntN(len(side))] = some()
				}
			}
		}
		met[len(g.check(t)) > 0]++
	}
	if met[true] < 1000 || met[false] < 1000 {
		t.Errorf("with an answer and without: %v", met)
	}
}
