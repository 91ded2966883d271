package tests

import (
	"math"
	"math/rand/v2"
	"slices"
	"testing"

	"loop.example/g00016/impl"
)

const (
	leastInSmall    = -65536
	greatestInSmall = 65535
)

// smallRows are the document's T.
var smallRows = [4][4]int{{1, 1, 1, 1}, {2, 1, -1, -2}, {1, -1, -1, 1}, {1, -2, 2, -1}}

// The document's table: m of the three classes for each r, and v.
var (
	toldFactors  = [6][3]int{{13107, 5243, 8066}, {11916, 4660, 7490}, {10082, 4194, 6554}, {9362, 3647, 5825}, {8192, 3355, 5243}, {7282, 2893, 4559}}
	finerFactors = [6][3]int{{10, 16, 13}, {11, 18, 14}, {13, 20, 16}, {14, 23, 18}, {16, 25, 20}, {18, 29, 23}}
)

// Which class each place of a small block has, seen by hand.
var smallClasses = [16]int{
	0, 2, 0, 2,
	2, 1, 2, 1,
	0, 2, 0, 2,
	2, 1, 2, 1,
}

func isSmall(block []int) bool {
	return len(block) == 16 && allWithin(block, leastInSmall, greatestInSmall)
}

// A smallTurning says how a slow turn back goes: which way first, how it halves, and how it rounds what is 64 times too great.
type smallTurning struct {
	columnsFirst bool
	half         func(number int) int
	round        func(number int) int
}

func flooredHalf(number int) int { return floorOf(number, 2) }

func roundedOf64(number int) int { return floorOf(number+32, 64) }

var toldSmallTurning = smallTurning{half: flooredHalf, round: roundedOf64}

func eachSmallRow(block []int, change func(row []int) []int) []int {
	var made []int
	for row := range 4 {
		made = append(made, change(block[4*row:4*row+4])...)
	}
	return made
}

func (s smallTurning) back(row []int) []int {
	a, b, c, d := row[0], row[1], row[2], row[3]
	e, f := a+c, a-c
	g, h := s.half(b)-d, b+s.half(d)
	return []int{e + h, f + g, f - g, e - h}
}

func (s smallTurning) inverse(block []int) []int {
	if !isSmall(block) {
		return nil
	}
	made := asRows(asRows(block, 4), 4)
	if s.columnsFirst {
		made = asRows(eachSmallRow(asRows(made, 4), s.back), 4)
		made = eachSmallRow(made, s.back)
	} else {
		made = eachSmallRow(made, s.back)
		made = asRows(eachSmallRow(asRows(made, 4), s.back), 4)
	}
	return eachNumber(made, s.round)
}

func slowSmallForward(block []int) []int {
	if !isSmall(block) {
		return nil
	}
	var made []int
	for v := range 4 {
		for u := range 4 {
			sum := 0
			for i, number := range block {
				sum += smallRows[v][i/4] * smallRows[u][i%4] * number
			}
			made = append(made, sum)
		}
	}
	return made
}

func slowSmallCoarse(number int, class int, step int) int {
	size := floorOf(magnitude(number)*toldFactors[step%6][class]+twoTo(14+step/6), twoTo(15+step/6))
	if number < 0 {
		return -size
	}
	return size
}

func slowSmallFine(number int, class int, step int) int {
	three := []int{leastInSmall, number * finerFactors[step%6][class] * twoTo(step/6), greatestInSmall}
	slices.Sort(three)
	return three[1]
}

func eachByClass(block []int, step int, change func(number int, class int, step int) int) []int {
	if !isSmall(block) || step < 0 || step > 40 {
		return nil
	}
	var made []int
	for place, number := range block {
		made = append(made, change(number, smallClasses[place], step))
	}
	return made
}

func checkSmallTurns(t *testing.T, block []int) {
	t.Helper()
	checkTurn(t, "SmallForward", block, slowSmallForward(block), impl.SmallForward)
	checkTurn(t, "SmallInverse", block, toldSmallTurning.inverse(block), impl.SmallInverse)
}

func checkSmallSteps(t *testing.T, block []int, step int) {
	t.Helper()
	coarse := func(block []int) []int { return impl.SmallCoarse(block, step) }
	fine := func(block []int) []int { return impl.SmallFine(block, step) }
	checkTurn(t, "SmallCoarse", block, eachByClass(block, step, slowSmallCoarse), coarse)
	checkTurn(t, "SmallFine", block, eachByClass(block, step, slowSmallFine), fine)
}

func checkNothingSmall(t *testing.T, what string, block []int) {
	t.Helper()
	checkSmallTurns(t, block)
	checkSmallSteps(t, block, 7)
	if len(impl.SmallForward(block))+len(impl.SmallInverse(block))+len(impl.SmallCoarse(block, 7))+len(impl.SmallFine(block, 7)) > 0 {
		t.Errorf("%s: of %v an answer", what, block)
	}
}

func someSmall(r *rand.Rand, far int) []int {
	return someBlock(r, far)[:16:16]
}

func loneSmall(place int, number int) []int {
	return loneBlock(place, number)[:16:16]
}

func TestSmallForwardByHand(t *testing.T) {
	for _, c := range []struct{ block, want []int }{
		{alike(0, 16), alike(0, 16)},
		{alike(10, 16), loneSmall(0, 160)},
		{alike(-3, 16), loneSmall(0, -48)},
		{loneSmall(0, 1), []int{1, 2, 1, 1, 2, 4, 2, 2, 1, 2, 1, 1, 1, 2, 1, 1}},
		{loneSmall(5, 1), []int{1, 1, -1, -2, 1, 1, -1, -2, -1, -1, 1, 2, -2, -2, 2, 4}},
		{loneSmall(3, 1), []int{1, -2, 1, -1, 2, -4, 2, -2, 1, -2, 1, -1, 1, -2, 1, -1}},
		{loneSmall(12, -1), []int{-1, -2, -1, -1, 2, 4, 2, 2, -1, -2, -1, -1, 1, 2, 1, 1}},
		// A slope across, and one down.
		{slices.Repeat([]int{0, 1, 2, 3}, 4), []int{24, -28, 0, -4, 0, 0, 0, 0, 0, 0, 0, 0, 0, 0, 0, 0}},
		{slices.Concat(alike(0, 4), alike(1, 4), alike(2, 4), alike(3, 4)), []int{24, 0, 0, 0, -28, 0, 0, 0, 0, 0, 0, 0, -4, 0, 0, 0}},
		// Beyond what a small block may have.
		{alike(greatestInSmall, 16), loneSmall(0, 16*greatestInSmall)},
		{alike(leastInSmall, 16), loneSmall(0, 16*leastInSmall)},
	} {
		checkTurn(t, "SmallForward by hand", c.block, c.want, impl.SmallForward)
		checkSmallTurns(t, c.block)
	}
}

func TestSmallInverseByHand(t *testing.T) {
	for _, c := range []struct{ block, want []int }{
		{alike(0, 16), alike(0, 16)},
		{loneSmall(0, 640), alike(10, 16)},
		{loneSmall(0, 31), alike(0, 16)},
		{loneSmall(0, 32), alike(1, 16)},
		{loneSmall(0, -32), alike(0, 16)},
		{loneSmall(0, -33), alike(-1, 16)},
		// 129 >> 1 is 64; (129 + 32) >> 6 is 2, (-129 + 32) >> 6 is -2.
		{loneSmall(1, 129), slices.Repeat([]int{2, 1, -1, -2}, 4)},
		// -129 >> 1 is -65; (-65 + 32) >> 6 is -1, (65 + 32) >> 6 is 1.
		{loneSmall(1, -129), slices.Repeat([]int{-2, -1, 1, 2}, 4)},
		{loneSmall(2, 64), slices.Repeat([]int{1, -1, -1, 1}, 4)},
		{loneSmall(3, 129), slices.Repeat([]int{1, -2, 2, -1}, 4)},
		// -193 >> 1 is -97; (-97 + 32) >> 6 is -2, (97 + 32) >> 6 is 2.
		{loneSmall(3, -193), slices.Repeat([]int{-2, 3, -3, 2}, 4)},
		{loneSmall(4, 129), slices.Concat(alike(2, 4), alike(1, 4), alike(-1, 4), alike(-2, 4))},
		{loneSmall(8, 64), slices.Concat(alike(1, 4), alike(-1, 4), alike(-1, 4), alike(1, 4))},
		{loneSmall(12, -193), slices.Concat(alike(-2, 4), alike(3, 4), alike(-3, 4), alike(2, 4))},
	} {
		checkTurn(t, "SmallInverse by hand", c.block, c.want, impl.SmallInverse)
		checkSmallTurns(t, c.block)
	}
}

func TestSmallTurnsOfEachNumberAlone(t *testing.T) {
	numbers := slices.Concat(around(2, leastInSmall+2, greatestInSmall-2), around(130, 0), []int{-4097, -255, 255, 1023, 4096})
	for place := range 16 {
		for _, number := range numbers {
			checkSmallTurns(t, loneSmall(place, number))
		}
	}
}

func TestSmallTurnsOfSomeBlocks(t *testing.T) {
	r := rand.New(rand.NewPCG(13, 51))
	for _, far := range []int{1, 2, 3, 10, 100, 255, 4000, greatestInSmall} {
		for range 300 {
			checkSmallTurns(t, someSmall(r, far))
		}
	}
	for range 500 {
		checkSmallTurns(t, eitherBlock(r, leastInSmall, greatestInSmall)[:16])
	}
}

// TestSmallTurnsOfTheEnds has the greatest and the least numbers where each sum is made greatest and least by them.
func TestSmallTurnsOfTheEnds(t *testing.T) {
	for v := range 4 {
		for u := range 4 {
			for _, ends := range [][2]int{{leastInSmall, greatestInSmall}, {greatestInSmall, leastInSmall}, {leastInSmall, 0}, {0, greatestInSmall}} {
				block := alike(ends[0], 16)
				for i := range block {
					if smallRows[v][i/4]*smallRows[u][i%4] > 0 {
						block[i] = ends[1]
					}
				}
				checkSmallTurns(t, block)
			}
		}
	}
}

// TestSmallInverseIsNoOther counts the blocks of which other roundings, or columns first, tell other numbers, so that
// the tests above would see them.
func TestSmallInverseIsNoOther(t *testing.T) {
	r := rand.New(rand.NewPCG(13, 52))
	towardsZeroHalf := func(number int) int { return number / 2 }
	towardsZeroOf64 := func(number int) int { return (number + 32) / 64 }
	cut := func(number int) int { return floorOf(number, 64) }
	for what, other := range map[string]smallTurning{
		"columns first":          {columnsFirst: true, half: flooredHalf, round: roundedOf64},
		"halves towards 0":       {half: towardsZeroHalf, round: roundedOf64},
		"halves upwards":         {half: func(number int) int { return floorOf(number+1, 2) }, round: roundedOf64},
		"64ths towards 0":        {half: flooredHalf, round: towardsZeroOf64},
		"64ths cut":              {half: flooredHalf, round: cut},
		"64ths rounded downward": {half: flooredHalf, round: func(number int) int { return floorOf(number+31, 64) }},
	} {
		seen := 0
		for range 2000 {
			block := someSmall(r, 300)
			got := impl.SmallInverse(block)
			if !slices.Equal(got, toldSmallTurning.inverse(block)) {
				t.Fatalf("of %v: %v", block, got)
			}
			if !slices.Equal(got, other.inverse(block)) {
				seen++
			}
		}
		if seen < 50 {
			t.Errorf("%s: seen in %d blocks", what, seen)
		}
	}
}

func TestSmallBlocksOfOtherLengths(t *testing.T) {
	for many := range 66 {
		if many != 16 {
			checkNothingSmall(t, "another length", alike(1, many))
		}
	}
	checkNothingSmall(t, "no list", nil)
}

func TestSmallBlocksOfNumberRanges(t *testing.T) {
	for place := range 16 {
		for _, number := range []int{leastInSmall, leastInSmall + 1, greatestInSmall - 1, greatestInSmall} {
			block := loneSmall(place, number)
			checkSmallTurns(t, block)
			checkSmallSteps(t, block, place)
			if len(impl.SmallForward(block)) != 16 || len(impl.SmallInverse(block)) != 16 || len(impl.SmallCoarse(block, 40)) != 16 || len(impl.SmallFine(block, 40)) != 16 {
				t.Errorf("%d at %d: no answer", number, place)
			}
		}
		for _, number := range slices.Concat(extremes(), []int{leastInSmall - 2, leastInSmall - 1, greatestInSmall + 1, greatestInSmall + 2}) {
			checkNothingSmall(t, "a number too far", loneSmall(place, number))
		}
	}
}

func TestSmallCoarseByHand(t *testing.T) {
	for _, c := range []struct{ place, step, number, want int }{
		// (160 * 13107 + 16384) >> 15 is 64, by 2^16 32, by 2^21 1.
		{0, 0, 160, 64}, {0, 6, 160, 32}, {0, 36, 160, 1}, {0, 0, -160, -64},
		// 2 * 13107 + 16384 is 42598, 1 * 13107 + 16384 is 29491, of 32768.
		{0, 0, 1, 0}, {0, 0, 2, 1}, {0, 0, -1, 0}, {0, 0, -2, -1},
		// 3 * 5243 + 16384 is 32113, 4 * 5243 + 16384 is 37356.
		{5, 0, 3, 0}, {5, 0, 4, 1}, {5, 0, -3, 0}, {5, 0, -4, -1},
		// 2 * 8066 + 16384 is 32516, 3 * 8066 + 16384 is 40582.
		{1, 0, 2, 0}, {1, 0, 3, 1}, {4, 0, -2, 0}, {4, 0, -3, -1},
		// 2 * 8192 + 16384 is just 32768.
		{0, 4, 1, 0}, {0, 4, 2, 1}, {0, 4, -2, -1}, {0, 10, 4, 1}, {0, 10, 3, 0}, {0, 10, -4, -1},
		// (65535 * 13107 + 16384) >> 15 is 26214, and of 65536, too.
		{0, 0, greatestInSmall, 26214}, {0, 0, leastInSmall, -26214},
		// Step 40: r is 4, s is 6: (65536 * 8192 + 2^20) >> 21 is 256.
		{0, 40, leastInSmall, -256}, {15, 40, leastInSmall, -105}, {14, 40, leastInSmall, -164},
		// Step 5: (100 * 7282 + 16384) >> 15, (100 * 2893 + 16384) >> 15, (100 * 4559 + 16384) >> 15
		{8, 5, 100, 22}, {7, 5, 100, 9}, {9, 5, 100, 14},
	} {
		got := impl.SmallCoarse(loneSmall(c.place, c.number), c.step)
		if !slices.Equal(got, loneSmall(c.place, c.want)) {
			t.Errorf("step %d, %d at %d: %v, not %d", c.step, c.number, c.place, got, c.want)
		}
	}
}

func TestSmallFineByHand(t *testing.T) {
	for _, c := range []struct{ place, step, number, want int }{
		{0, 0, 64, 640}, {0, 6, 32, 640}, {0, 36, 1, 640}, {0, 0, -64, -640},
		{5, 0, 1, 16}, {1, 0, 1, 13}, {0, 5, 1, 18}, {13, 5, -1, -29}, {12, 5, 1, 23}, {2, 40, 1, 1024}, {7, 40, -1, -1600}, {11, 40, 1, 1280},
		// 6553 * 10 and 6554 * 10; -6553 * 10 and -6554 * 10.
		{0, 0, 6553, 65530}, {0, 0, 6554, greatestInSmall}, {0, 0, -6553, -65530}, {0, 0, -6554, leastInSmall},
		// 4096 * 16 is one too many, -4096 * 16 is not.
		{5, 0, 4095, 65520}, {5, 0, 4096, greatestInSmall}, {5, 0, -4096, leastInSmall}, {5, 0, -4097, leastInSmall},
		{0, 0, greatestInSmall, greatestInSmall}, {0, 0, leastInSmall, leastInSmall},
		{5, 40, greatestInSmall, greatestInSmall}, {5, 40, leastInSmall, leastInSmall}, {15, 40, 40, 64000}, {15, 40, 41, greatestInSmall},
	} {
		got := impl.SmallFine(loneSmall(c.place, c.number), c.step)
		if !slices.Equal(got, loneSmall(c.place, c.want)) {
			t.Errorf("step %d, %d at %d: %v, not %d", c.step, c.number, c.place, got, c.want)
		}
	}
}

// TestSmallStepsOfAllNumbers has each number with each step; over the steps it stands at places of each class.
func TestSmallStepsOfAllNumbers(t *testing.T) {
	for step := range 41 {
		for first := leastInSmall; first < greatestInSmall; first += 16 {
			block := make([]int, 16)
			for i := range block {
				block[(i+5*step+first/16)&15] = first + i
			}
			coarse, fine := impl.SmallCoarse(block, step), impl.SmallFine(block, step)
			if !slices.Equal(coarse, eachByClass(block, step, slowSmallCoarse)) || !slices.Equal(fine, eachByClass(block, step, slowSmallFine)) {
				t.Fatalf("step %d of %v: %v and %v", step, block, coarse, fine)
			}
		}
	}
}

// TestSmallCoarseAtEachRounding has the numbers just below and just at each one that is told by one more.
func TestSmallCoarseAtEachRounding(t *testing.T) {
	for step := range 41 {
		for place := range 16 {
			class := smallClasses[place]
			whole := twoTo(15 + step/6)
			for told := 1; told < 60; told++ {
				// The least number of which m times it is told - 1/2 or more.
				number := floorOf((2*told-1)*whole/2+toldFactors[step%6][class]-1, toldFactors[step%6][class])
				if number > greatestInSmall {
					break
				}
				for sign := -1; sign <= 1; sign += 2 {
					at, below := impl.SmallCoarse(loneSmall(place, sign*number), step), impl.SmallCoarse(loneSmall(place, sign*(number-1)), step)
					if at[place] != sign*told || below[place] != sign*(told-1) {
						t.Fatalf("step %d at %d: of %d %d, of %d %d", step, place, sign*number, at[place], sign*(number-1), below[place])
					}
				}
			}
		}
	}
}

func TestSmallStepsOfSomeBlocks(t *testing.T) {
	r := rand.New(rand.NewPCG(13, 53))
	for step := range 41 {
		for _, far := range []int{3, 100, 9180, greatestInSmall} {
			for range 10 {
				checkSmallSteps(t, someSmall(r, far), step)
			}
		}
	}
}

func TestSmallStepsOfNoStep(t *testing.T) {
	r := rand.New(rand.NewPCG(13, 54))
	for _, step := range slices.Concat(extremes(), []int{-41, -40, -7, -6, -5, -2, -1, 41, 42, 46, 47, 48, 63, 64, 128, 255}) {
		block := someSmall(r, 100)
		checkSmallSteps(t, block, step)
		if len(impl.SmallCoarse(block, step))+len(impl.SmallFine(block, step)) > 0 {
			t.Errorf("step %d: an answer", step)
		}
	}
	if impl.MaxStep != 40 {
		t.Errorf("MaxStep is %d", impl.MaxStep)
	}
}

// throughStep goes forward, coarse, fine and back.
func throughStep(block []int, step int) []int {
	return impl.SmallInverse(impl.SmallFine(impl.SmallCoarse(impl.SmallForward(block), step), step))
}

// farthestBy is how far away a step may lead numbers in -255..255. Each fine number is at most half of what one coarse
// number stands for away, and a little more, as the factors are rounded ones; back it counts 1 or 1/2 along each side,
// of 64; what halves leave out is less than a tenth in all.
func farthestBy(step int) int {
	sum := 0.0
	for place, class := range smallClasses {
		m, v := float64(toldFactors[step%6][class]), float64(finerFactors[step%6][class])
		whole := []float64{16, 25, 20}[class] // what forward and back make of a number
		off := math.Abs(m*v/32768-64/whole) * 255 * 36
		weights := []float64{1, 1, 1, 0.5}
		sum += weights[place/4] * weights[place%4] * (v*float64(twoTo(step/6))/2 + off) / 64
	}
	return int(sum + 0.5 + 0.1)
}

// TestSmallBlocksThroughEachStep has the less away the less the step is, in all, and at no place more than may be.
func TestSmallBlocksThroughEachStep(t *testing.T) {
	r := rand.New(rand.NewPCG(13, 55))
	var blocks [][]int
	for range 1500 {
		blocks = append(blocks, someSmall(r, 255), someSmall(r, 60))
	}
	for range 500 {
		blocks = append(blocks, eitherBlock(r, -255, 255)[:16])
	}
	last := -1
	for step := range 41 {
		away := 0
		for _, block := range blocks {
			for i, number := range throughStep(block, step) {
				away += magnitude(number - block[i])
				if magnitude(number-block[i]) > farthestBy(step) {
					t.Fatalf("step %d of %v: %d at %d", step, block, number, i)
				}
			}
		}
		if away <= last {
			t.Errorf("step %d: %d away in all, and %d the step before", step, away, last)
		}
		last = away
	}
}
