package tests

import (
	"math"
	"math/rand/v2"
	"slices"
	"strconv"
	"testing"

	"loop.example/g00016/impl"
)

// scanByHand has the places by their row and column, two digits each, a line behind the other.
var scanByHand = [15]string{
	"00",
	"01 10",
	"20 11 02",
	"03 12 21 30",
	"40 31 22 13 04",
	"05 14 23 32 41 50",
	"60 51 42 33 24 15 06",
	"07 16 25 34 43 52 61 70",
	"71 62 53 44 35 26 17",
	"27 36 45 54 63 72",
	"73 64 55 46 37",
	"47 56 65 74",
	"75 66 57",
	"67 76",
	"77",
}

func scanPlaces() []int {
	var places []int
	for _, line := range scanByHand {
		for i := 0; i < len(line); i += 3 {
			places = append(places, int(line[i]-'0')*8+int(line[i+1]-'0'))
		}
	}
	return places
}

// scanned lays numbers in scan order from the second place on; the first number is handed in.
func scanned(first int, numbers []int) []int {
	block := make([]int, blockNumbers)
	for i, place := range scanPlaces() {
		if i == 0 {
			block[place] = first
		} else if i <= len(numbers) {
			block[place] = numbers[i-1]
		}
	}
	return block
}

// slowRuns looks back from each number to the one ahead.
func slowRuns(block []int) []impl.Run {
	var runs []impl.Run
	ahead := 0
	for i, place := range scanPlaces() {
		if i > 0 && block[place] != 0 {
			runs = append(runs, impl.Run{Zeros: i - ahead - 1, Value: block[place]})
			ahead = i
		}
	}
	if ahead < 63 {
		runs = append(runs, impl.Run{Zeros: 63 - ahead})
	}
	return runs
}

// areRuns asks each run by itself, and whether all together reach the end and go no further.
func areRuns(runs []impl.Run) bool {
	left := 63
	for i, run := range runs {
		if run.Zeros < 0 || run.Zeros > left || run.Value < leastInBlock || run.Value > greatestInBlock {
			return false
		}
		left -= run.Zeros
		if run.Value != 0 {
			left--
		} else if i < len(runs)-1 || run.Zeros == 0 {
			return false
		}
		if left < 0 {
			return false
		}
	}
	return left == 0
}

func slowBlock(runs []impl.Run) []int {
	if !areRuns(runs) {
		return nil
	}
	var numbers []int
	for _, run := range runs {
		numbers = append(numbers, alike(0, run.Zeros)...)
		numbers = append(numbers, run.Value)
	}
	return scanned(0, numbers[:63])
}

// withFirst has another first number.
func withFirst(block []int, first int) []int {
	other := slices.Clone(block)
	other[0] = first
	return other
}

func runsMade(t *testing.T, block []int) []impl.Run {
	t.Helper()
	return listMade(t, block, 7777, impl.Run{Zeros: -5, Value: -5}, impl.RunsOf)
}

// checkBlockOf says whether these are a block's runs.
func checkBlockOf(t *testing.T, runs []impl.Run) bool {
	t.Helper()
	got := listMade(t, runs, impl.Run{Zeros: 1, Value: 1}, -5, impl.BlockOf)
	if want := slowBlock(runs); !slices.Equal(got, want) {
		t.Fatalf("BlockOf(%v) = %v, not %v", runs, got, want)
	}
	if len(got) == 0 {
		return false
	}
	if again := impl.RunsOf(got); !slices.Equal(again, runs) || got[0] != 0 {
		t.Fatalf("BlockOf(%v) = %v, whose runs are %v", runs, got, again)
	}
	return true
}

func checkRuns(t *testing.T, block []int) {
	t.Helper()
	runs := runsMade(t, block)
	if want := slowRuns(block); !slices.Equal(runs, want) {
		t.Fatalf("RunsOf(%v) = %v, not %v", block, runs, want)
	}
	if !checkBlockOf(t, runs) || !slices.Equal(impl.BlockOf(runs), withFirst(block, 0)) {
		t.Fatalf("of %v %v and back %v", block, runs, impl.BlockOf(runs))
	}
}

func checkNoBlock(t *testing.T, what string, runs ...impl.Run) {
	t.Helper()
	if areRuns(runs) {
		t.Fatalf("%s: %v are a block's", what, runs)
	}
	if checkBlockOf(t, runs) {
		t.Fatalf("%s: a block of %v", what, runs)
	}
}

func checkBlock(t *testing.T, what string, runs ...impl.Run) {
	t.Helper()
	if !checkBlockOf(t, runs) {
		t.Fatalf("%s: no block of %v", what, runs)
	}
}

func TestScanOrderByHand(t *testing.T) {
	got := listMade(t, nil, 0, -5, func([]int) []int { return impl.ScanOrder() })
	if want := scanPlaces(); !slices.Equal(got, want) {
		t.Fatalf("%v, not %v", got, want)
	}
	for at, want := range map[int]int{0: 0, 1: 1, 2: 8, 3: 16, 5: 2, 6: 3, 9: 24, 27: 6, 28: 7, 35: 56, 36: 57, 42: 15, 43: 23, 48: 58, 60: 47, 61: 55, 62: 62, 63: 63} {
		if got[at] != want {
			t.Errorf("at %d: %d, not %d", at, got[at], want)
		}
	}
}

func TestScanOrderHasEachPlaceOnce(t *testing.T) {
	got := impl.ScanOrder()
	sorted := slices.Sorted(slices.Values(got))
	for place := range blockNumbers {
		if len(sorted) != blockNumbers || sorted[place] != place {
			t.Fatalf("%v", got)
		}
	}
}

// In each line rows fall where the line is even and rise where it is odd, one at a time; lines stand in order.
func TestScanOrderGoesByLines(t *testing.T) {
	got := impl.ScanOrder()
	for i := 1; i < len(got); i++ {
		row, column, line := got[i]/8, got[i]%8, got[i]/8+got[i]%8
		before := got[i-1]/8 + got[i-1]%8
		step := row - got[i-1]/8
		switch {
		case line == before && (line%2 == 0 && step == -1 || line%2 == 1 && step == 1):
		case line == before+1 && line%2 == 0 && row == min(line, 7):
		case line == before+1 && line%2 == 1 && column == min(line, 7):
		default:
			t.Fatalf("%d behind %d: %v", got[i], got[i-1], got)
		}
	}
}

// paired has the zeros and the value of each run behind each other.
func paired(numbers ...int) []impl.Run {
	var runs []impl.Run
	for pair := range slices.Chunk(numbers, 2) {
		runs = append(runs, impl.Run{Zeros: pair[0], Value: pair[1]})
	}
	return runs
}

func TestRunsByHand(t *testing.T) {
	for _, c := range []struct {
		first   int
		numbers []int
		want    []impl.Run
	}{
		{0, nil, paired(63, 0)},
		{9, nil, paired(63, 0)},
		{9, []int{5, 0, -2}, paired(0, 5, 1, -2, 60, 0)},
		{0, []int{1}, paired(0, 1, 62, 0)},
		{-4, append(alike(0, 62), 7), paired(62, 7)},
		{0, append(alike(0, 61), 7), paired(61, 7, 1, 0)},
		{0, append(alike(0, 60), 7, 0, -8), paired(60, 7, 1, -8)},
		{0, append(alike(0, 20), 3, 3), paired(20, 3, 0, 3, 41, 0)},
		{0, alike(-1, 63), slices.Repeat(paired(0, -1), 63)},
		{0, alike(-1, 62), append(slices.Repeat(paired(0, -1), 62), paired(1, 0)...)},
		{1, []int{leastInBlock, greatestInBlock}, paired(0, leastInBlock, 0, greatestInBlock, 61, 0)},
	} {
		block := scanned(c.first, c.numbers)
		if got := runsMade(t, block); !slices.Equal(got, c.want) {
			t.Errorf("RunsOf(%v) = %v, not %v", block, got, c.want)
		}
		checkRuns(t, block)
	}
}

func TestRunsOfOneNumberAtEachPlace(t *testing.T) {
	for i, place := range scanPlaces() {
		for _, number := range []int{1, -1, 300, leastInBlock, greatestInBlock} {
			block := loneBlock(place, number)
			want := []impl.Run{{Zeros: i - 1, Value: number}, {Zeros: 63 - i}}
			switch i {
			case 0:
				want = []impl.Run{{Zeros: 63}}
			case 63:
				want = want[:1]
			}
			if got := runsMade(t, block); !slices.Equal(got, want) {
				t.Fatalf("%d at %d: %v, not %v", number, place, got, want)
			}
			checkRuns(t, block)
			// The first number counts for nothing.
			if i > 0 && !slices.Equal(impl.RunsOf(withFirst(block, -77)), want) {
				t.Fatalf("%d at %d and a first number: %v", number, place, impl.RunsOf(withFirst(block, -77)))
			}
		}
	}
}

func TestRunsOfTwoNumbers(t *testing.T) {
	for a := range blockNumbers {
		for b := range blockNumbers {
			block := loneBlock(a, 3)
			block[b] = -4
			checkRuns(t, block)
		}
	}
}

// All ways in which the first ten and the last ten numbers can be 0 or not.
func TestRunsOfBothEnds(t *testing.T) {
	for pattern := range 1 << 10 {
		numbers, mirrored := alike(0, 63), alike(0, 63)
		for i := range 10 {
			if pattern>>i&1 == 1 {
				numbers[i], mirrored[62-i] = i+1, -i-1
			}
		}
		checkRuns(t, scanned(pattern, numbers))
		checkRuns(t, scanned(-pattern, mirrored))
	}
}

func TestRunsOfAnyBlocks(t *testing.T) {
	r := rand.New(rand.NewPCG(8, 20))
	for range 3000 {
		checkRuns(t, someBlock(r, greatestInBlock))
		checkRuns(t, someBlock(r, 1))
		checkRuns(t, eitherBlock(r, leastInBlock, 0))
		block, most := someBlock(r, 3), r.IntN(64)
		for _, place := range scanPlaces()[most:] {
			block[place] = 0
		}
		checkRuns(t, block)
		block = make([]int, blockNumbers)
		for range r.IntN(6) {
			block[r.IntN(blockNumbers)] = r.IntN(2001) - 1000
		}
		checkRuns(t, block)
	}
}

func TestRunsOfBlocksThatAreNone(t *testing.T) {
	none := func(what string, block []int) {
		t.Helper()
		if got := runsMade(t, block); len(got) > 0 {
			t.Fatalf("%s: %d numbers: %v", what, len(block), got)
		}
	}
	none("nil", nil)
	for many := range 200 {
		if many != blockNumbers {
			none("so many", make([]int, many))
			none("so many", alike(1, many))
		}
	}
	none("many", alike(1, 4096))
	for place := range blockNumbers {
		for _, number := range append(extremes(), leastInBlock-1, greatestInBlock+1, 65536) {
			none(strconv.Itoa(number)+" at "+strconv.Itoa(place), loneBlock(place, number))
		}
	}
}

func TestBlockOfRunsToTheEnd(t *testing.T) {
	for zeros := range 70 {
		if zeros == 62 {
			checkBlock(t, "just to the end", impl.Run{Zeros: zeros, Value: 5})
		} else {
			checkNoBlock(t, "a number elsewhere", impl.Run{Zeros: zeros, Value: 5})
		}
		if zeros == 63 {
			checkBlock(t, "nothing", impl.Run{Zeros: zeros})
		} else {
			checkNoBlock(t, "other zeros alone", impl.Run{Zeros: zeros})
		}
		for behind := range 70 {
			two := []impl.Run{{Zeros: zeros, Value: -9}, {Zeros: behind}}
			three := []impl.Run{{Zeros: zeros, Value: -9}, {Zeros: behind, Value: 1}}
			if zeros+1+behind == 63 && behind > 0 {
				checkBlock(t, "just to the end", two...)
			} else {
				checkNoBlock(t, "not to the end or beyond", two...)
			}
			if zeros+1+behind+1 == 63 {
				checkBlock(t, "a number at the end", three...)
			} else {
				checkNoBlock(t, "a number ahead of the end or beyond", three...)
			}
		}
	}
	checkNoBlock(t, "none")
	checkNoBlock(t, "an empty list", []impl.Run{}...)
}

func TestBlockOfRunsWithTheValue0(t *testing.T) {
	full := slices.Repeat(paired(0, 6), 63)
	checkBlock(t, "all numbers", full...)
	checkNoBlock(t, "a 0 too many", append(slices.Clone(full), paired(1, 0)...)...)
	checkNoBlock(t, "a run of nothing behind", append(slices.Clone(full), paired(0, 0)...)...)
	checkNoBlock(t, "a number too many", append(slices.Clone(full), paired(0, 6)...)...)
	checkNoBlock(t, "a run of nothing", paired(0, 0)...)
	checkNoBlock(t, "nothing and then all", paired(0, 0, 63, 0)...)
	checkNoBlock(t, "all and then nothing", paired(63, 0, 0, 0)...)
	checkNoBlock(t, "two runs to the end", paired(62, 0, 1, 0)...)
	checkNoBlock(t, "a run of 0 ahead of a number", paired(61, 0, 0, 1, 1, 0)...)
	checkNoBlock(t, "as if the 0 had a place", paired(20, 0, 41, 1)...)
	checkNoBlock(t, "as if the 0 had none", paired(20, 0, 42, 1)...)
	checkNoBlock(t, "a 0 told as a number", paired(61, 0, 0, 0)...)
	checkNoBlock(t, "62 and a 0", paired(62, 0)...)
	checkNoBlock(t, "63 runs of nothing", slices.Repeat(paired(0, 0), 63)...)
	for at := range 63 {
		with := slices.Clone(full)
		with[at] = impl.Run{}
		checkNoBlock(t, "a run of nothing amid", with...)
		with[at] = impl.Run{Zeros: 1}
		if at == 62 {
			checkBlock(t, "a 0 at the end", with...)
		} else {
			checkNoBlock(t, "a 0 amid", with...)
		}
		checkNoBlock(t, "a run of nothing more", slices.Insert(slices.Clone(full), at, impl.Run{})...)
	}
}

func TestBlockOfRunsWithFarZeros(t *testing.T) {
	for _, zeros := range append(extremes(), math.MaxInt-62, math.MaxInt-63, math.MinInt+62, math.MinInt+63, math.MinInt+64, -64, -63, -62, -2, -1, 64, 65, 127, 128, 1000) {
		for _, value := range []int{0, 1, -1, leastInBlock} {
			far := impl.Run{Zeros: zeros, Value: value}
			checkNoBlock(t, "alone", far)
			checkNoBlock(t, "first", far, impl.Run{Zeros: 63})
			checkNoBlock(t, "last", impl.Run{Value: 2}, far)
			checkNoBlock(t, "behind all", impl.Run{Zeros: 62, Value: 2}, far)
			checkNoBlock(t, "twice", far, far)
			checkNoBlock(t, "made up for", far, impl.Run{Zeros: -zeros, Value: 1}, impl.Run{Zeros: 61})
			checkNoBlock(t, "made up to the end", impl.Run{Zeros: 62 - zeros, Value: 1}, far)
			checkNoBlock(t, "many times", slices.Repeat([]impl.Run{far}, 200)...)
			if value != 0 {
				checkNoBlock(t, "made up at the end", far, impl.Run{Zeros: 62 - zeros})
				checkNoBlock(t, "made up by a number", far, impl.Run{Zeros: 61 - zeros, Value: 1})
			}
		}
	}
}

func TestBlockOfValuesAtTheirRange(t *testing.T) {
	for zeros := range 63 {
		for _, value := range []int{leastInBlock, leastInBlock + 1, -1, 1, greatestInBlock - 1, greatestInBlock} {
			checkBlock(t, "within", runsOfOne(zeros, value)...)
		}
		for _, value := range append(extremes(), leastInBlock-1, greatestInBlock+1, -65536, 65536) {
			checkNoBlock(t, "beyond", runsOfOne(zeros, value)...)
		}
	}
}

func runsOfOne(zeros int, value int) []impl.Run {
	runs := []impl.Run{{Zeros: zeros, Value: value}, {Zeros: 62 - zeros}}
	if zeros == 62 {
		return runs[:1]
	}
	return runs
}

func TestBlockOfAllFewRuns(t *testing.T) {
	var each []impl.Run
	for _, zeros := range []int{-1, 0, 1, 2, 30, 31, 59, 60, 61, 62, 63, 64} {
		for _, value := range []int{0, 1, -32768, 32768} {
			each = append(each, impl.Run{Zeros: zeros, Value: value})
		}
	}
	blocks := 0
	for _, a := range each {
		for _, b := range each {
			for _, c := range each {
				for _, runs := range [][]impl.Run{{a}, {a, b}, {a, b, c}} {
					if checkBlockOf(t, runs) {
						blocks++
					}
				}
			}
		}
	}
	if blocks == 0 {
		t.Error("no runs were a block's")
	}
}

// changedRuns has a thing that is other in a block's runs.
func changedRuns(r *rand.Rand, runs []impl.Run) []impl.Run {
	other := slices.Clone(runs)
	at := r.IntN(len(other))
	switch r.IntN(8) {
	case 0:
		other[at].Zeros += 2*r.IntN(2) - 1
	case 1:
		other[at].Value = 0
	case 2:
		other[at].Value += 2*r.IntN(2) - 1
	case 3:
		other = slices.Delete(other, at, at+1)
	case 4:
		other = slices.Insert(other, at, other[r.IntN(len(other))])
	case 5:
		other[at], other[len(other)-1] = other[len(other)-1], other[at]
	case 6:
		other = slices.Insert(other, at, impl.Run{Zeros: r.IntN(3)})
	case 7:
		other[at].Zeros++
		other[r.IntN(len(other))].Zeros--
	}
	return other
}

func TestBlockOfChangedRuns(t *testing.T) {
	r := rand.New(rand.NewPCG(8, 21))
	blocks, none := 0, 0
	for range 20000 {
		block := make([]int, blockNumbers)
		for range r.IntN(20) {
			block[r.IntN(blockNumbers)] = r.IntN(5) - 2
		}
		if checkBlockOf(t, changedRuns(r, slowRuns(block))) {
			blocks++
		} else {
			none++
		}
	}
	if blocks < 1000 || none < 1000 {
		t.Errorf("%d runs were a block's, %d were none's", blocks, none)
	}
}

func TestBlockOfVeryManyRuns(t *testing.T) {
	for _, run := range []impl.Run{{}, {Value: 1}, {Zeros: 63}, {Zeros: 62, Value: 1}, {Zeros: 63, Value: -1}, {Zeros: 1}} {
		if got := impl.BlockOf(slices.Repeat([]impl.Run{run}, 1<<20)); len(got) > 0 {
			t.Errorf("very many times %v: %v", run, got)
		}
	}
}

// Lists of any lengths and of any numbers: each call answers, and what it answers is a block's length or nothing.
func TestBlocksOfAnyArguments(t *testing.T) {
	r := rand.New(rand.NewPCG(8, 22))
	numbers := append(extremes(), leastInBlock-1, leastInBlock, -256, -255, -64, -63, -1, 0, 1, 2, 62, 63, 64, 255, 256, greatestInBlock, greatestInBlock+1)
	some := func(many int) []int {
		list := someBlock(r, 255)
		for len(list) < many {
			list = append(list, r.IntN(300)-20)
		}
		for range r.IntN(3) {
			list[r.IntN(len(list))] = numbers[r.IntN(len(numbers))]
		}
		return list[:many]
	}
	for range 20000 {
		a, b := some(60+r.IntN(8)), some(60+r.IntN(8))
		var runs []impl.Run
		for range r.IntN(70) {
			runs = append(runs, impl.Run{Zeros: numbers[r.IntN(len(numbers))], Value: numbers[r.IntN(len(numbers))]})
		}
		for what, got := range map[string][]int{
			"Forward": impl.Forward(a), "Inverse": impl.Inverse(a), "Coarse": impl.Coarse(a, b), "Fine": impl.Fine(a, b),
			"BlockOf": impl.BlockOf(runs), "Scales": impl.Scales(numbers[r.IntN(len(numbers))], r.IntN(2) == 0),
		} {
			if len(got) != 0 && len(got) != blockNumbers {
				t.Fatalf("%s: %d numbers", what, len(got))
			}
		}
		if got := impl.RunsOf(a); len(got) > 63 {
			t.Fatalf("RunsOf(%v) = %v", a, got)
		}
	}
}
