package tests

import (
	"math/rand/v2"
	"slices"
	"strconv"
	"testing"

	"loop.example/g00016/impl"
)

const greatestScale = 255

// baseOf is a place's scale before it is weighed by the quality.
func baseOf(row int, column int, colour bool) int {
	if colour {
		return 10 + 6*(row+column)
	}
	return 8 + 3*(row+column) + floorOf(row*column, 2)
}

// unclipped is a scale ahead of what is least and greatest.
func unclipped(quality int, row int, column int, colour bool) int {
	s := 200 - 2*quality
	if quality < 50 {
		s = floorOf(5000, quality)
	}
	return floorOf(baseOf(row, column, colour)*s+50, 100)
}

func slowScales(quality int, colour bool) []int {
	var scales []int
	for row := range 8 {
		for column := range 8 {
			three := []int{1, unclipped(quality, row, column, colour), greatestScale}
			slices.Sort(three)
			scales = append(scales, three[1])
		}
	}
	return scales
}

func scalesMade(t *testing.T, quality int, colour bool) []int {
	t.Helper()
	return listMade(t, nil, 0, -5, func([]int) []int { return impl.Scales(quality, colour) })
}

func TestScalesByHand(t *testing.T) {
	plain := []int{
		8, 11, 14, 17, 20, 23, 26, 29,
		11, 14, 18, 21, 25, 28, 32, 35,
		14, 18, 22, 26, 30, 34, 38, 42,
		17, 21, 26, 30, 35, 39, 44, 48,
		20, 25, 30, 35, 40, 45, 50, 55,
		23, 28, 34, 39, 45, 50, 56, 61,
		26, 32, 38, 44, 50, 56, 62, 68,
		29, 35, 42, 48, 55, 61, 68, 74,
	}
	if got := scalesMade(t, 50, false); !slices.Equal(got, plain) {
		t.Errorf("quality 50: %v", got)
	}
	var coloured []int
	for place := range blockNumbers {
		coloured = append(coloured, []int{10, 16, 22, 28, 34, 40, 46, 52, 58, 64, 70, 76, 82, 88, 94}[place/8+place%8])
	}
	if got := scalesMade(t, 50, true); !slices.Equal(got, coloured) {
		t.Errorf("quality 50 with colour: %v", got)
	}
	for _, c := range []struct {
		quality int
		colour  bool
		place   int
		want    int
	}{
		// (8 * 102 + 50) / 100, (74 * 102 + 50) / 100, (94 * 102 + 50) / 100
		{49, false, 0, 8}, {49, false, 63, 75}, {49, true, 63, 96},
		// (74 * 98 + 50) / 100, (94 * 98 + 50) / 100
		{51, false, 0, 8}, {51, false, 63, 73}, {51, true, 63, 92},
		// (8 * 5000 + 50) / 100 is 400.
		{1, false, 0, 255}, {1, true, 0, 255},
		// (8 * 2500 + 50) / 100 is 200.
		{2, false, 0, 200}, {2, true, 0, 250}, {2, false, 1, 255},
		// 5000 / 3 is 1666; (8 * 1666 + 50) / 100 is 133, (14 * 1666 + 50) / 100 is 233.
		{3, false, 0, 133}, {3, false, 9, 233}, {3, false, 3, 255},
		// (8 * 2 + 50) / 100 is 0, (74 * 2 + 50) / 100 is 1.
		{99, false, 0, 1}, {99, false, 63, 1}, {99, true, 63, 2},
		{98, false, 0, 1}, {98, true, 63, 4}, {75, false, 0, 4}, {75, false, 63, 37}, {75, true, 63, 47},
		{100, false, 0, 1}, {100, false, 63, 1}, {100, true, 63, 1},
	} {
		if got := impl.Scales(c.quality, c.colour); len(got) != blockNumbers || got[c.place] != c.want {
			t.Errorf("quality %d, colour %v, place %d: %v, not %d", c.quality, c.colour, c.place, got, c.want)
		}
	}
}

func TestScalesOfAllQualities(t *testing.T) {
	for _, colour := range []bool{false, true} {
		var ahead []int // of what is least and greatest
		for quality := 1; quality <= 100; quality++ {
			got, want := scalesMade(t, quality, colour), slowScales(quality, colour)
			if !slices.Equal(got, want) {
				t.Fatalf("quality %d, colour %v:\n%v, not\n%v", quality, colour, got, want)
			}
			for place := range got {
				ahead = append(ahead, unclipped(quality, place/8, place%8, colour))
			}
		}
		checkClippedOnBothSides(t, ahead)
	}
}

// checkClippedOnBothSides asks for numbers just within and just beyond what a scale may be.
func checkClippedOnBothSides(t *testing.T, ahead []int) {
	t.Helper()
	for _, span := range [][2]int{{0, 0}, {1, 1}, {2, 2}, {250, 255}, {256, 261}} {
		if !slices.ContainsFunc(ahead, func(n int) bool { return n >= span[0] && n <= span[1] }) {
			t.Errorf("no scale is in %v before it is clipped", span)
		}
	}
}

func TestScalesFallWithTheQuality(t *testing.T) {
	for _, colour := range []bool{false, true} {
		for quality := 1; quality < 100; quality++ {
			worse, better := impl.Scales(quality, colour), impl.Scales(quality+1, colour)
			for place := range worse {
				if better[place] > worse[place] || better[place] < 1 || worse[place] > greatestScale {
					t.Fatalf("quality %d at %d: %d and then %d", quality, place, worse[place], better[place])
				}
			}
		}
		if got := impl.Scales(100, colour); !slices.Equal(got, evenBlock(1)) {
			t.Errorf("quality 100, colour %v: %v", colour, got)
		}
		if got := impl.Scales(1, colour); !slices.Equal(got, evenBlock(255)) {
			t.Errorf("quality 1, colour %v: %v", colour, got)
		}
	}
}

func TestScalesOfNoQuality(t *testing.T) {
	for _, quality := range slices.Concat(extremes(), around(3, -100, -50), []int{-5, -4, -3, -2, -1, 0, 101, 102, 150, 199, 200, 256, 5000, 5001}) {
		for _, colour := range []bool{false, true} {
			if got := impl.Scales(quality, colour); len(got) > 0 {
				t.Errorf("quality %d: %v", quality, got)
			}
		}
	}
}

// A scaling is Coarse or Fine.
type scaling func(block []int, scales []int) []int

// scaledMade looks at the memory of both lists.
func scaledMade(t *testing.T, scale scaling, block []int, scales []int) []int {
	t.Helper()
	got := blockMade(t, block, func(block []int) []int { return scale(block, scales) })
	again := blockMade(t, scales, func(scales []int) []int { return scale(block, scales) })
	if !slices.Equal(got, again) {
		t.Fatalf("of %v: %v and then %v", block, got, again)
	}
	return got
}

func checkScaled(t *testing.T, what string, scale scaling, block []int, scales []int, want []int) {
	t.Helper()
	if got := scaledMade(t, scale, block, scales); !slices.Equal(got, want) {
		t.Fatalf("%s: of %v by %v:\n%v, not\n%v", what, block, scales, got, want)
	}
}

// isCoarse asks whether so many scales are nearest to the number, those farther from 0 where two are as near.
func isCoarse(coarse int, number int, scale int) bool {
	if number < 0 || number == 0 && coarse < 0 {
		number, coarse = -number, -coarse
	}
	return (2*coarse-1)*scale <= 2*number && 2*number < (2*coarse+1)*scale
}

func slowCoarse(number int, scale int) int {
	for coarse := number/scale - 2; ; coarse++ {
		if isCoarse(coarse, number, scale) {
			return coarse
		}
	}
}

func slowFine(number int, scale int) int {
	three := []int{leastInBlock, number * scale, greatestInBlock}
	slices.Sort(three)
	return three[1]
}

func eachScaled(block []int, scales []int, scale func(int, int) int) []int {
	var made []int
	for place, number := range block {
		made = append(made, scale(number, scales[place]))
	}
	return made
}

// eachBlock goes through blocks that have each number that a block may have.
func eachBlock(see func(block []int)) {
	for first := leastInBlock; first < greatestInBlock; first += blockNumbers {
		block := make([]int, blockNumbers)
		for i := range block {
			block[i] = first + i
		}
		see(block)
	}
}

func TestCoarseByHand(t *testing.T) {
	for _, c := range []struct{ scale, number, want int }{
		{8, 3, 0}, {8, 4, 1}, {8, 11, 1}, {8, 12, 2}, {8, -3, 0}, {8, -4, -1}, {8, -11, -1}, {8, -12, -2},
		{7, 3, 0}, {7, 4, 1}, {7, 10, 1}, {7, 11, 2}, {7, -3, 0}, {7, -4, -1}, {7, -10, -1}, {7, -11, -2},
		{1, 0, 0}, {1, 1, 1}, {1, -1, -1}, {1, greatestInBlock, greatestInBlock}, {1, leastInBlock, leastInBlock},
		{2, 1, 1}, {2, -1, -1}, {2, 2, 1}, {2, 3, 2}, {2, -3, -2}, {2, greatestInBlock, 16384}, {2, leastInBlock, -16384},
		{3, 1, 0}, {3, 2, 1}, {3, -1, 0}, {3, -2, -1},
		{255, 127, 0}, {255, 128, 1}, {255, -127, 0}, {255, -128, -1}, {255, 382, 1}, {255, 383, 2}, {255, greatestInBlock, 128}, {255, leastInBlock, -129},
		{254, 126, 0}, {254, 127, 1}, {254, -126, 0}, {254, -127, -1},
	} {
		checkScaled(t, "by hand", impl.Coarse, evenBlock(c.number), evenBlock(c.scale), evenBlock(c.want))
		if got := slowCoarse(c.number, c.scale); got != c.want {
			t.Errorf("the slow one of %d by %d: %d, not %d", c.number, c.scale, got, c.want)
		}
	}
}

func TestFineByHand(t *testing.T) {
	for _, c := range []struct{ scale, number, want int }{
		{8, 2, 16}, {8, -2, -16}, {8, 0, 0}, {1, -7, -7}, {255, 1, 255}, {255, -1, -255},
		{1, greatestInBlock, greatestInBlock}, {1, leastInBlock, leastInBlock},
		{2, 16383, 32766}, {2, 16384, 32767}, {2, -16384, -32768}, {2, -16385, -32768},
		{255, 128, 32640}, {255, 129, 32767}, {255, -128, -32640}, {255, -129, -32768},
		{255, greatestInBlock, greatestInBlock}, {255, leastInBlock, leastInBlock},
		{128, 255, 32640}, {128, 256, 32767}, {128, -256, -32768}, {128, -257, -32768},
	} {
		checkScaled(t, "by hand", impl.Fine, evenBlock(c.number), evenBlock(c.scale), evenBlock(c.want))
	}
}

func TestCoarseOfAllNumbersByAllScales(t *testing.T) {
	for scale := 1; scale <= greatestScale; scale++ {
		scales := evenBlock(scale)
		eachBlock(func(block []int) {
			got := impl.Coarse(block, scales)
			if len(got) != blockNumbers {
				t.Fatalf("of %v by %d: %v", block, scale, got)
			}
			for place, coarse := range got {
				if !isCoarse(coarse, block[place], scale) {
					t.Fatalf("%d by %d: %d", block[place], scale, coarse)
				}
			}
		})
	}
}

func TestFineOfAllNumbersByAllScales(t *testing.T) {
	for scale := 1; scale <= greatestScale; scale++ {
		scales := evenBlock(scale)
		eachBlock(func(block []int) {
			got := impl.Fine(block, scales)
			if len(got) != blockNumbers {
				t.Fatalf("of %v by %d: %v", block, scale, got)
			}
			for place, fine := range got {
				if fine != max(leastInBlock, min(greatestInBlock, block[place]*scale)) {
					t.Fatalf("%d by %d: %d", block[place], scale, fine)
				}
			}
		})
	}
}

func TestFineOfCoarseIsAtMostHalfAScaleAway(t *testing.T) {
	for scale := 1; scale <= greatestScale; scale++ {
		scales := evenBlock(scale)
		eachBlock(func(block []int) {
			coarse := impl.Coarse(block, scales)
			fine := impl.Fine(coarse, scales)
			if len(fine) != blockNumbers {
				t.Fatalf("of %v by %d: %v", coarse, scale, fine)
			}
			for place, number := range fine {
				if away := number - block[place]; 2*away > scale || 2*away < -scale {
					t.Fatalf("%d by %d: back to %d", block[place], scale, number)
				}
			}
			if again := impl.Coarse(fine, scales); !slices.Equal(again, coarse) {
				t.Fatalf("by %d: %v and then %v", scale, coarse, again)
			}
		})
	}
}

// Each place has its own scale.
func TestScalesAreThoseOfTheirPlaces(t *testing.T) {
	r := rand.New(rand.NewPCG(8, 10))
	for range 1000 {
		scales := make([]int, blockNumbers)
		for i := range scales {
			scales[i] = 1 + r.IntN(greatestScale)
		}
		for _, block := range [][]int{someBlock(r, greatestInBlock), someBlock(r, 300), eitherBlock(r, leastInBlock, greatestInBlock)} {
			checkScaled(t, "Coarse", impl.Coarse, block, scales, eachScaled(block, scales, slowCoarse))
			checkScaled(t, "Fine", impl.Fine, block, scales, eachScaled(block, scales, slowFine))
		}
	}
	for quality := 1; quality <= 100; quality++ {
		for _, colour := range []bool{false, true} {
			block, scales := someBlock(r, 2000), impl.Scales(quality, colour)
			checkScaled(t, "Coarse", impl.Coarse, block, scales, eachScaled(block, scales, slowCoarse))
			checkScaled(t, "Fine", impl.Fine, block, scales, eachScaled(block, scales, slowFine))
		}
	}
}

func checkNotScaled(t *testing.T, what string, block []int, scales []int) {
	t.Helper()
	for name, scale := range map[string]scaling{"Coarse": impl.Coarse, "Fine": impl.Fine} {
		if got := scaledMade(t, scale, block, scales); len(got) > 0 {
			t.Fatalf("%s: %s of %d numbers by %d: %v", what, name, len(block), len(scales), got)
		}
	}
}

func TestScalesThatAreNone(t *testing.T) {
	r := rand.New(rand.NewPCG(8, 11))
	block := someBlock(r, 1000)
	bad := append(extremes(), -256, -255, -8, -2, -1, 0, 256, 257, 258, 300, 511, 512, 32767, 32768, 65537)
	for place := range blockNumbers {
		for _, scale := range bad {
			scales := evenBlock(8)
			scales[place] = scale
			checkNotScaled(t, strconv.Itoa(scale)+" at "+strconv.Itoa(place), block, scales)
			checkNotScaled(t, strconv.Itoa(scale)+" for nothing", evenBlock(0), scales)
		}
		scales := evenBlock(1)
		scales[place] = 255
		checkScaled(t, "one of 255", impl.Coarse, block, scales, eachScaled(block, scales, slowCoarse))
		checkScaled(t, "one of 255", impl.Fine, block, scales, eachScaled(block, scales, slowFine))
	}
	for many := range 200 {
		if many != blockNumbers {
			checkNotScaled(t, "so many scales", block, alike(8, many))
			checkNotScaled(t, "so many of both", alike(8, many), alike(8, many))
		}
	}
	checkNotScaled(t, "no scales", block, nil)
	checkNotScaled(t, "one too few of more", block, alike(8, 100)[:63])
	checkNotScaled(t, "many", block, alike(8, 4096))
}

func TestBlocksThatAreNoneAreNotScaled(t *testing.T) {
	bad := append(extremes(), leastInBlock-1, greatestInBlock+1, -65536, 65536)
	for place := range blockNumbers {
		for _, number := range bad {
			checkNotScaled(t, strconv.Itoa(number)+" at "+strconv.Itoa(place), loneBlock(place, number), evenBlock(255))
		}
	}
	for many := range 200 {
		if many != blockNumbers {
			checkNotScaled(t, "so many numbers", make([]int, many), evenBlock(1))
		}
	}
	checkNotScaled(t, "no numbers", nil, evenBlock(1))
	checkNotScaled(t, "nothing at all", nil, nil)
	checkNotScaled(t, "many", make([]int, 4096), evenBlock(1))
}
