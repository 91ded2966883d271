package tests

import (
	"math"
	"math/rand/v2"
	"slices"
	"strconv"
	"testing"

	"loop.example/g00016/impl"
)

const (
	blockNumbers    = 64
	leastInBlock    = -32768
	greatestInBlock = 32767
)

// The cosines as the document has them.
const (
	c1 = 4017
	c2 = 3784
	c3 = 3406
	c4 = 2896
	c5 = 2276
	c6 = 1567
	c7 = 799
)

// waveRows is the matrix, each number gone through by hand.
var waveRows = [8][8]int{
	{2896, 2896, 2896, 2896, 2896, 2896, 2896, 2896},
	{c1, c3, c5, c7, -c7, -c5, -c3, -c1},
	{c2, c6, -c6, -c2, -c2, -c6, c6, c2},
	{c3, -c7, -c1, -c5, c5, c1, c7, -c3},
	{c4, -c4, -c4, c4, c4, -c4, -c4, c4},
	{c5, -c1, c7, c3, -c3, -c7, c1, -c5},
	{c6, -c2, c2, -c6, -c6, c2, -c2, c6},
	{c7, -c5, c3, -c1, c1, -c3, c5, -c7},
}

// A turning says how a slow turn goes: each of its steps rounds a sum that is to be divided.
type turning struct {
	columnsFirst bool
	first        func(sum int, by int) int
	second       func(sum int, by int) int
}

func roundedFloor(sum int, by int) int {
	return floorOf(sum+by/2, by)
}

// A block's number by its row and column.
func numberOf(block []int, row int, column int) int {
	return block[8*row+column]
}

func turnedRows(block []int, weight func(to int, from int) int, round func(int) int) []int {
	var made []int
	for row := range 8 {
		for to := range 8 {
			sum := 0
			for from := range 8 {
				sum += weight(to, from) * numberOf(block, row, from)
			}
			made = append(made, round(sum))
		}
	}
	return made
}

func asColumns(block []int) []int {
	var made []int
	for row := range 8 {
		for column := range 8 {
			made = append(made, numberOf(block, column, row))
		}
	}
	return made
}

// slowTurn turns rows and columns one step behind the other.
func (k turning) slowTurn(block []int, weight func(to int, from int) int) []int {
	first := func(sum int) int { return k.first(sum, 1024) }
	second := func(sum int) int { return k.second(sum, 65536) }
	if k.columnsFirst {
		return turnedRows(asColumns(turnedRows(asColumns(block), weight, first)), weight, second)
	}
	return asColumns(turnedRows(asColumns(turnedRows(block, weight, first)), weight, second))
}

func forwardWeight(to int, from int) int { return waveRows[to][from] }

func inverseWeight(to int, from int) int { return waveRows[from][to] }

func slowForward(block []int) []int {
	return turning{first: roundedFloor, second: roundedFloor}.slowTurn(block, forwardWeight)
}

func slowInverse(block []int) []int {
	return turning{columnsFirst: true, first: roundedFloor, second: roundedFloor}.slowTurn(block, inverseWeight)
}

// someBlock has numbers in -far..far.
func someBlock(r *rand.Rand, far int) []int {
	block := make([]int, blockNumbers)
	for i := range block {
		block[i] = r.IntN(2*far+1) - far
	}
	return block
}

func evenBlock(number int) []int {
	return slices.Repeat([]int{number}, blockNumbers)
}

// eitherBlock has one of two numbers at each place.
func eitherBlock(r *rand.Rand, a int, b int) []int {
	block := evenBlock(a)
	for i := range block {
		if r.IntN(2) == 0 {
			block[i] = b
		}
	}
	return block
}

// loneBlock has one number that may be other than 0.
func loneBlock(place int, number int) []int {
	block := make([]int, blockNumbers)
	block[place] = number
	return block
}

// waveBlock has one of both numbers where row v and row u of the matrix are above 0 together, or below; else the other.
func waveBlock(v int, u int, same int, other int) []int {
	block := evenBlock(other)
	for i := range block {
		if waveRows[v][i/8]*waveRows[u][i%8] > 0 {
			block[i] = same
		}
	}
	return block
}

// listMade makes a list of one that stands amid other memory, and looks whether any of that is written or shared, and
// whether two calls share any.
func listMade[In comparable, Out comparable](t *testing.T, list []In, beside In, over Out, change func([]In) []Out) []Out {
	t.Helper()
	around := slices.Repeat([]In{beside}, len(list)+8)
	copy(around[4:], list)
	was := slices.Clone(around)
	handed := around[4 : 4+len(list)]
	got := change(handed)
	kept := slices.Clone(got)
	all := got[:cap(got)]
	for i := range all {
		all[i] = over
	}
	if !slices.Equal(around, was) {
		t.Fatalf("%v: an argument was written, or the answer shares its memory", was[4:4+len(list)])
	}
	if again := change(handed); !slices.Equal(again, kept) {
		t.Fatalf("of %v: %v and then %v", handed, kept, again)
	}
	for _, number := range all {
		if number != over {
			t.Fatalf("of %v: two answers share memory", handed)
		}
	}
	return kept
}

func blockMade(t *testing.T, block []int, change func([]int) []int) []int {
	t.Helper()
	return listMade(t, block, 7777, -5, change)
}

func checkTurn(t *testing.T, what string, block []int, want []int, turn func([]int) []int) {
	t.Helper()
	if got := blockMade(t, block, turn); !slices.Equal(got, want) {
		t.Fatalf("%s: of %v\n%v, not\n%v", what, block, got, want)
	}
}

func checkTurns(t *testing.T, block []int) {
	t.Helper()
	checkTurn(t, "Forward", block, slowForward(block), impl.Forward)
	checkTurn(t, "Inverse", block, slowInverse(block), impl.Inverse)
}

func checkNoTurns(t *testing.T, what string, block []int) {
	t.Helper()
	for name, turn := range map[string]func([]int) []int{"Forward": impl.Forward, "Inverse": impl.Inverse} {
		if got := blockMade(t, block, turn); len(got) > 0 {
			t.Fatalf("%s: %s of %d numbers: %v", what, name, len(block), got)
		}
	}
}

// The table above is that of the document's rule and, but for its row 0, of the cosines.
func TestWaveRows(t *testing.T) {
	told := []int{0, c1, c2, c3, c4, c5, c6, c7}
	for u, row := range waveRows {
		for x, number := range row {
			n := (2*x + 1) * u % 32
			if n > 16 {
				n = 32 - n
			}
			want := 2896
			if n >= 9 {
				want = -told[16-n]
			} else if n >= 1 {
				want = told[n]
			}
			cosine := math.Round(4096 * math.Cos(float64((2*x+1)*u)*math.Pi/16))
			if number != want || u > 0 && number != int(cosine) {
				t.Errorf("row %d, column %d: %d, not %d or %v", u, x, number, want, cosine)
			}
		}
	}
}

func TestTurnsByHand(t *testing.T) {
	// (8 * 2896 * -100 + 512) >> 10 = -2262; (8 * 2896 * -2262 + 32768) >> 16 = -800
	checkTurn(t, "even", evenBlock(-100), loneBlock(0, -800), impl.Forward)
	checkTurn(t, "even", loneBlock(0, -800), evenBlock(-100), impl.Inverse)
	// (2896 * -1 + 512) >> 10 = -3, (4017 * -1 + 512) >> 10 = -4, which are less than a half of 65536 parts then.
	checkTurn(t, "-1 alone", loneBlock(0, -1), loneBlock(0, 0), impl.Forward)
	checkTurn(t, "-1 alone", loneBlock(9, -1), loneBlock(0, 0), impl.Inverse)
	// (2896 * -8 + 512) >> 10 = -23, (2896 * -23 + 32768) >> 16 = -1
	checkTurn(t, "-8 at the first place", loneBlock(0, -8), evenBlock(-1), impl.Inverse)
	// (2896 * 8 + 512) >> 10 = 23, (2896 * 23 + 32768) >> 16 = 1
	checkTurn(t, "8 at the first place", loneBlock(0, 8), evenBlock(1), impl.Inverse)
	// (2896 * -4 + 512) >> 10 = -11, (2896 * -11 + 32768) >> 16 = 0; of 4 it is 11 and 0.
	checkTurn(t, "-4 at the first place", loneBlock(0, -4), evenBlock(0), impl.Inverse)
	// (2896 * -724 + 512) >> 10 = -2048, and 2896 * -2048 is -90.5 times 65536: the upper one of two as near.
	checkTurn(t, "-724 at the first place", loneBlock(0, -724), evenBlock(-90), impl.Inverse)
	checkTurn(t, "nothing", evenBlock(0), evenBlock(0), impl.Forward)
	checkTurn(t, "nothing", evenBlock(0), evenBlock(0), impl.Inverse)
}

// 1024 is just what the first step divides by, so that a lone number tells each number of a row and of a column.
func TestTurnsOfALoneNumberTellTheMatrix(t *testing.T) {
	for place := range blockNumbers {
		row, column := place/8, place%8
		var forward, inverse []int
		for to := range blockNumbers {
			forward = append(forward, roundedFloor(waveRows[to/8][row]*waveRows[to%8][column], 65536))
			inverse = append(inverse, roundedFloor(waveRows[row][to/8]*waveRows[column][to%8], 65536))
		}
		checkTurn(t, "Forward of 1024 alone", loneBlock(place, 1024), forward, impl.Forward)
		checkTurn(t, "Inverse of 1024 alone", loneBlock(place, 1024), inverse, impl.Inverse)
	}
}

func TestTurnsOfALoneNumber(t *testing.T) {
	numbers := []int{leastInBlock, leastInBlock + 1, -12345, -1024, -513, -512, -511, -37, -2, -1, 0, 1, 2, 36, 511, 512, 513, 12345, greatestInBlock - 1, greatestInBlock}
	for place := range blockNumbers {
		for _, number := range numbers {
			checkTurns(t, loneBlock(place, number))
		}
	}
}

func TestForwardOfEvenBlocks(t *testing.T) {
	for number := leastInBlock; number <= greatestInBlock; number++ {
		want := loneBlock(0, roundedFloor(8*2896*roundedFloor(8*2896*number, 1024), 65536))
		if got := impl.Forward(evenBlock(number)); !slices.Equal(got, want) {
			t.Fatalf("%d everywhere: %v", number, got)
		}
	}
}

func TestTurnsOfAnyBlocks(t *testing.T) {
	r := rand.New(rand.NewPCG(8, 1))
	for _, far := range []int{1, 2, 3, 8, 15, 64, 255, 256, 1000, 2047, 5000, greatestInBlock} {
		for range 300 {
			checkTurns(t, someBlock(r, far))
			checkTurns(t, eitherBlock(r, -far, far))
			checkTurns(t, eitherBlock(r, 0, far))
			checkTurns(t, eitherBlock(r, -far, 0))
		}
	}
}

func TestTurnsOfTheLeastAndTheGreatest(t *testing.T) {
	r := rand.New(rand.NewPCG(8, 2))
	checkTurns(t, evenBlock(leastInBlock))
	checkTurns(t, evenBlock(greatestInBlock))
	for range 300 {
		checkTurns(t, eitherBlock(r, leastInBlock, greatestInBlock))
	}
	for place := range blockNumbers {
		checkTurns(t, waveBlock(place/8, place%8, leastInBlock, greatestInBlock))
		checkTurns(t, waveBlock(place/8, place%8, greatestInBlock, leastInBlock))
		block := evenBlock(leastInBlock)
		block[place] = greatestInBlock
		checkTurns(t, block)
	}
}

// What is answered is no block then: nothing in the document clips it.
func TestForwardBeyondABlock(t *testing.T) {
	for number, want := range map[int]int{leastInBlock: -262088, greatestInBlock: 262080} {
		got := impl.Forward(evenBlock(number))
		if !slices.Equal(got, loneBlock(0, want)) {
			t.Fatalf("%d everywhere: %v", number, got)
		}
		checkNoTurns(t, "an answer beyond a block", got)
	}
}

func towardsZero(sum int, by int) int { return (sum + by/2) / by }

func cutOff(sum int, by int) int { return sum / by }

func floored(sum int, by int) int { return floorOf(sum, by) }

func awayFromZero(sum int, by int) int {
	if sum < 0 {
		return -floorOf(-sum+by/2, by)
	}
	return floorOf(sum+by/2, by)
}

// Each other way to round one of the steps, or to take columns and rows, is seen in a block's answer: the blocks that
// are tried tell them from the document's.
func TestTurnsTellTheirSteps(t *testing.T) {
	r := rand.New(rand.NewPCG(8, 3))
	blocks := [][]int{loneBlock(0, -724), loneBlock(0, 724)}
	for range 800 {
		blocks = append(blocks, someBlock(r, 1+r.IntN(30)), loneBlock(r.IntN(blockNumbers), 1024*(r.IntN(63)-31)))
	}
	others := map[string]turning{
		"the other order":                    {columnsFirst: true, first: roundedFloor, second: roundedFloor},
		"first towards 0":                    {first: towardsZero, second: roundedFloor},
		"second towards 0":                   {first: roundedFloor, second: towardsZero},
		"first without a half":               {first: floored, second: roundedFloor},
		"second without a half":              {first: roundedFloor, second: floored},
		"first cut":                          {first: cutOff, second: roundedFloor},
		"second cut":                         {first: roundedFloor, second: cutOff},
		"a first half away from 0 below 0":   {first: awayFromZero, second: roundedFloor},
		"a second half away from 0 below 0":  {first: roundedFloor, second: awayFromZero},
		"first shifted together with second": {first: func(sum int, by int) int { return sum }, second: func(sum int, by int) int { return roundedFloor(sum, 1024*by) }},
	}
	for what, other := range others {
		forward, inverse := 0, 0
		for _, block := range blocks {
			forward += seenIn(t, other, block, forwardWeight, slowForward(block), impl.Forward)
			mirrored := other
			mirrored.columnsFirst = !other.columnsFirst
			inverse += seenIn(t, mirrored, block, inverseWeight, slowInverse(block), impl.Inverse)
		}
		if forward == 0 || inverse == 0 {
			t.Errorf("%s: seen in %d blocks of Forward and %d of Inverse", what, forward, inverse)
		}
	}
}

// seenIn is 1 where the other turn has another answer; the program's is the document's.
func seenIn(t *testing.T, other turning, block []int, weight func(int, int) int, want []int, turn func([]int) []int) int {
	t.Helper()
	if slices.Equal(other.slowTurn(block, weight), want) {
		return 0
	}
	if got := turn(block); !slices.Equal(got, want) {
		t.Fatalf("of %v\n%v, not\n%v", block, got, want)
	}
	return 1
}

func TestTurnsOfOtherLengths(t *testing.T) {
	checkNoTurns(t, "nil", nil)
	checkNoTurns(t, "empty", []int{})
	for many := range 200 {
		if many != blockNumbers {
			checkNoTurns(t, "so many numbers", make([]int, many))
		}
	}
	checkNoTurns(t, "very many", make([]int, 64*64))
	// Those behind the length count for nothing.
	long := append(evenBlock(3), leastInBlock-1, 5)
	checkTurns(t, long[:blockNumbers])
	checkNoTurns(t, "one too few of more", long[:blockNumbers-1])
}

func TestTurnsOfNumbersOutOfRange(t *testing.T) {
	bad := append(extremes(), leastInBlock-1, greatestInBlock+1, leastInBlock-2, greatestInBlock+2, 65535, 65536, -65536)
	for place := range blockNumbers {
		for _, number := range bad {
			checkNoTurns(t, strconv.Itoa(number)+" at "+strconv.Itoa(place), loneBlock(place, number))
			block := evenBlock(greatestInBlock)
			block[place] = number
			checkNoTurns(t, strconv.Itoa(number)+" amid the greatest", block)
		}
		for _, number := range []int{leastInBlock, greatestInBlock} {
			checkTurns(t, loneBlock(place, number))
		}
	}
}

func checkBack(t *testing.T, block []int) {
	t.Helper()
	back := impl.Inverse(impl.Forward(block))
	if len(back) != blockNumbers {
		t.Fatalf("of %v: %d numbers", block, len(back))
	}
	for i, number := range back {
		if number < block[i]-5 || number > block[i]+5 {
			t.Fatalf("of %v forward and back at %d: %d", block, i, number)
		}
	}
}

func TestForwardAndBackIsNear(t *testing.T) {
	r := rand.New(rand.NewPCG(8, 4))
	for number := -255; number <= 255; number++ {
		checkBack(t, evenBlock(number))
		for place := range blockNumbers {
			checkBack(t, loneBlock(place, number))
		}
	}
	for range 4000 {
		checkBack(t, someBlock(r, 255))
		checkBack(t, someBlock(r, 1+r.IntN(254)))
		checkBack(t, eitherBlock(r, -255, 255))
		checkBack(t, eitherBlock(r, r.IntN(511)-255, r.IntN(511)-255))
	}
	for place := range blockNumbers {
		checkBack(t, waveBlock(place/8, place%8, 255, -255))
		checkBack(t, waveBlock(place/8, place%8, -255, 255))
	}
}

// A block is changed number by number, so that it comes back farther away, at one place above all.
func TestForwardAndBackIsNearOfBlocksThatAreSought(t *testing.T) {
	r := rand.New(rand.NewPCG(8, 5))
	for range 12 {
		block, at := someBlock(r, 255), r.IntN(blockNumbers)
		far := squaresAway(block, at)
		for range 1500 {
			i := r.IntN(blockNumbers)
			was := block[i]
			block[i] = r.IntN(511) - 255
			if now := squaresAway(block, at); now >= far {
				far = now
				checkBack(t, block)
			} else {
				block[i] = was
			}
		}
	}
}

func squaresAway(block []int, at int) int {
	sum := 0
	for i, number := range impl.Inverse(impl.Forward(block)) {
		away := (number - block[i]) * (number - block[i])
		if i == at {
			away *= 500
		}
		sum += away
	}
	return sum
}

// No block of numbers in -255..255 can be 6 away or more: the matrix times itself is nearly even, and each of the four
// steps rounds by a half at most.
func TestForwardAndBackIsNearOfAllBlocks(t *testing.T) {
	var even [8][8]float64
	for a := range 8 {
		for b := range 8 {
			for u := range 8 {
				even[a][b] += float64(waveRows[u][a]*waveRows[u][b]) / (1 << 26)
			}
		}
	}
	for y := range 8 {
		for x := range 8 {
			bound := 0.5 + stepsAway(even, y, x)
			for place := range blockNumbers {
				self := 0.0
				if place == 8*y+x {
					self = 1
				}
				bound += 255 * math.Abs(even[y][place/8]*even[x][place%8]-self)
			}
			if bound >= 6 {
				t.Errorf("row %d, column %d: %v", y, x, bound)
			}
		}
	}
}

// stepsAway is what the first three steps' halves come to at most.
func stepsAway(even [8][8]float64, y int, x int) float64 {
	column, row, product := 0.0, 0.0, 0.0
	for i := range 8 {
		column += math.Abs(float64(waveRows[i][y])) / (1 << 10)
		row += math.Abs(float64(waveRows[i][x])) / (1 << 16)
		product += math.Abs(even[y][i])
	}
	return 0.5 * (product*row + column*row + row)
}
