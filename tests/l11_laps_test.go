package tests

import (
	"math"
	"math/rand/v2"
	"slices"
	"strconv"
	"testing"

	"loop.example/g00016/impl"
)

// A slot's numbers go from the one to the other.
const (
	leastInSlot    = -1048576
	greatestInSlot = 1048575
)

// The document's k0 to k32.
var lapCosines = [33]int{
	16384, 16364, 16305, 16207, 16069, 15893, 15679, 15426, 15137, 14811, 14449, 14053, 13623, 13160, 12665, 12140, 11585, 11003, 10394, 9760, 9102,
	8423, 7723, 7005, 6270, 5520, 4756, 3981, 3196, 2404, 1606, 804, 0,
}

// cosineAt is the document's C.
func cosineAt(m int) int {
	m -= 128 * floorOf(m, 128)
	if m <= 32 {
		return lapCosines[m]
	} else if m <= 64 {
		return -lapCosines[64-m]
	} else if m <= 96 {
		return -lapCosines[m-64]
	}
	return lapCosines[128-m]
}

func crossing(i int, n int) int {
	return cosineAt((2*i + 17) * (2*n + 1))
}

// A lapping says how its sums are rounded: those of the window, and those of the cosines.
type lapping struct {
	window func(sum int, by int) int
	cosine func(sum int, by int) int
}

var toldLapping = lapping{roundedFloor, roundedFloor}

func (l lapping) lap(before []int, now []int) []int {
	if !isHop(before) || !isHop(now) {
		return nil
	}
	x := slices.Concat(before, now)
	var waves []int
	for n := range 16 {
		sum := 0
		for i := range 32 {
			sum += l.window(x[i]*cosineAt(31-2*i), 16384) * crossing(i, n)
		}
		waves = append(waves, l.cosine(sum, 16384))
	}
	return waves
}

// unlapAny takes any numbers.
func (l lapping) unlapAny(waves []int) []int {
	var samples []int
	for i := range 32 {
		sum := 0
		for n := range 16 {
			sum += waves[n] * crossing(i, n)
		}
		samples = append(samples, l.window(l.cosine(sum, 131072)*cosineAt(31-2*i), 16384))
	}
	return samples
}

func isSlot(numbers []int) bool {
	return len(numbers) == 16 && allWithin(numbers, leastInSlot, greatestInSlot)
}

func (l lapping) unlap(waves []int) []int {
	if !isSlot(waves) {
		return nil
	}
	return l.unlapAny(waves)
}

// lapMade laps two lists amid other memory twice.
func lapMade(t *testing.T, before []int, now []int) []int {
	t.Helper()
	around, handed := amidLists([][]int{before, now}, 7777777)
	was := cloneLists(around)
	got, again := impl.Lap(handed[0], handed[1]), impl.Lap(handed[0], handed[1])
	if !sameLists(around, was) || !slices.Equal(got, again) {
		t.Fatalf("of %v and %v: an argument was written, or two calls are not alike", before, now)
	}
	kept := slices.Clone(got)
	checkApart(t, "a lap", around, got, again)
	return kept
}

func checkLap(t *testing.T, before []int, now []int) []int {
	t.Helper()
	got, want := lapMade(t, before, now), toldLapping.lap(before, now)
	if !slices.Equal(got, want) {
		t.Fatalf("lap of %v and %v\n%v, not\n%v", before, now, got, want)
	}
	return got
}

func checkUnlap(t *testing.T, waves []int) []int {
	t.Helper()
	got, want := listMade(t, waves, 7777777, -5, impl.Unlap), toldLapping.unlap(waves)
	if !slices.Equal(got, want) {
		t.Fatalf("unlap of %v\n%v, not\n%v", waves, got, want)
	}
	return got
}

func checkNoLap(t *testing.T, what string, before []int, now []int) {
	t.Helper()
	if got := checkLap(t, before, now); len(got) > 0 {
		t.Errorf("%s: %v", what, got)
	}
}

func checkNoUnlap(t *testing.T, what string, waves []int) {
	t.Helper()
	if got := checkUnlap(t, waves); len(got) > 0 {
		t.Errorf("%s: %v", what, got)
	}
}

func TestCosinesOfLaps(t *testing.T) {
	for m := -300; m < 300; m++ {
		if want := int(math.Round(16384 * math.Cos(2*math.Pi*float64(m)/128))); cosineAt(m) != want {
			t.Errorf("%d: %d, not %d", m, cosineAt(m), want)
		}
	}
}

func TestWindow(t *testing.T) {
	want := []int{
		804, 2404, 3981, 5520, 7005, 8423, 9760, 11003, 12140, 13160, 14053, 14811, 15426, 15893, 16207, 16364,
		16364, 16207, 15893, 15426, 14811, 14053, 13160, 12140, 11003, 9760, 8423, 7005, 5520, 3981, 2404, 804,
	}
	first, second := impl.Window(), impl.Window()
	if !slices.Equal(first, want) || !slices.Equal(second, want) {
		t.Errorf("%v, %v", first, second)
	}
	checkApart(t, "two windows", nil, first, second)
	if got := impl.Window(); !slices.Equal(got, want) {
		t.Errorf("behind others that were written: %v", got)
	}
	checkLap(t, alike(100, 16), alike(-7, 16))
}

func TestLapByHand(t *testing.T) {
	zero := alike(0, 16)
	for _, c := range []struct{ before, now, want []int }{
		{zero, zero, zero},
		{loneTone(15, 16384), zero, []int{-10990, 13144, 8413, -14793, -5513, 15874, 2401, -16344, 803, 16187, -3976, -15407, 6996, 14036, -9748, -12125}},
		{zero, loneTone(0, -3), []int{2, -2, -3, 1, 3, -1, -3, 0, 3, 0, -3, -1, 3, 2, -2, -2}},
		{alike(100, 16), alike(100, 16), []int{-1131, 0, 1, 0, 0, 0, 0, 0, 1, -2, 2, 0, 0, 1, -2, 1}},
	} {
		if got := impl.Lap(c.before, c.now); !slices.Equal(got, c.want) {
			t.Errorf("%v and %v: %v, not %v", c.before, c.now, got, c.want)
		}
	}
}

func TestUnlapByHand(t *testing.T) {
	for _, c := range []struct{ waves, want []int }{
		{alike(0, 16), alike(0, 32)},
		{loneTone(0, 8), []int{0, 0, 0, 0, 0, 0, 0, 0, 0, 0, 0, 0, 0, -1, -1, -1, -1, -1, -1, -1, -1, -1, -1, -1, -1, -1, -1, 0, 0, 0, 0, 0}},
		{loneTone(15, -100), []int{0, 1, -3, 4, -5, 6, -7, 8, -9, 10, -10, 11, -10, 11, -10, 9, -8, 7, -6, 5, -4, 3, -2, 1, 1, -1, 2, -2, 2, -1, 1, 0}},
	} {
		if got := impl.Unlap(c.waves); !slices.Equal(got, c.want) {
			t.Errorf("%v: %v, not %v", c.waves, got, c.want)
		}
	}
}

func TestLapOfLoneSamples(t *testing.T) {
	zero := alike(0, 16)
	samples := append(around(3, 0, leastTone+3, greatestTone-3), -16384, -8192, -100, 100, 8191, 16384)
	for place := range 16 {
		for _, sample := range samples {
			checkLap(t, loneTone(place, sample), zero)
			checkLap(t, zero, loneTone(place, sample))
			checkLap(t, alike(leastTone, 16), loneTone(place, sample))
			checkLap(t, loneTone(place, sample), alike(greatestTone, 16))
		}
	}
}

func TestUnlapOfLoneNumbers(t *testing.T) {
	numbers := append(around(3, 0, leastInSlot+3, greatestInSlot-3), -65536, -1000, 1000, 65535)
	for place := range 16 {
		for _, number := range numbers {
			checkUnlap(t, loneTone(place, number))
			for _, other := range []int{leastInSlot, greatestInSlot, 1} {
				waves := alike(other, 16)
				waves[place] = number
				checkUnlap(t, waves)
			}
		}
	}
}

// The sums are greatest where each sample has the sign of what it counts; no lap is beyond a slot then.
func TestLapsOfTheGreatestSums(t *testing.T) {
	far := 0
	for n := range 16 {
		for _, ends := range [][2]int{{leastTone, greatestTone}, {greatestTone, leastTone}} {
			samples := make([]int, 32)
			for i := range samples {
				samples[i] = ends[0]
				if cosineAt(31-2*i)*crossing(i, n) > 0 {
					samples[i] = ends[1]
				}
			}
			waves := checkLap(t, samples[:16], samples[16:])
			far = max(far, magnitude(waves[n]))
			if !isSlot(waves) {
				t.Errorf("%v: %v", samples, waves)
			}
		}
	}
	if far != 429296 {
		t.Errorf("%d away from 0", far)
	}
	far = 0
	for i := range 32 {
		for _, ends := range [][2]int{{leastInSlot, greatestInSlot}, {greatestInSlot, leastInSlot}} {
			waves := make([]int, 16)
			for n := range waves {
				waves[n] = ends[0]
				if crossing(i, n) > 0 {
					waves[n] = ends[1]
				}
			}
			far = max(far, magnitude(checkUnlap(t, waves)[i]))
		}
	}
	if far != 1334001 {
		t.Errorf("%d away from 0", far)
	}
}

func TestLapsOfSomeSamples(t *testing.T) {
	r := rand.New(rand.NewPCG(11, 10))
	for range 3000 {
		checkLap(t, someHop(r), someHop(r))
		far := []int{1, 50, 5000, greatestInSlot}[r.IntN(4)]
		checkUnlap(t, someLine(r, 16, -far-1, far))
		checkUnlap(t, someNoise(r, 16, far))
	}
}

// Sums below 0 are floored as those above it: other ways to round are seen in each of the sums.
func TestLapsTellRoundingsApart(t *testing.T) {
	r := rand.New(rand.NewPCG(11, 11))
	others := []lapping{
		{towardsZero, roundedFloor}, {roundedFloor, towardsZero}, {cutOff, roundedFloor}, {roundedFloor, cutOff},
		{floored, roundedFloor}, {roundedFloor, floored}, {awayFromZero, roundedFloor}, {roundedFloor, awayFromZero},
	}
	laps, unlaps := make([]int, len(others)), make([]int, len(others))
	for try := range 4000 {
		before, now := someHop(r), someHop(r)
		waves := someNoise(r, 16, 1+r.IntN(2000))
		if try%2 == 0 {
			// Halves of what a sum is divided by are rare, but among multiples of great powers of two.
			before = eachNumber(before, func(n int) int { return n / 2048 * 2048 })
			now = eachNumber(now, func(n int) int { return n / 2048 * 2048 })
			waves = loneTone(r.IntN(16), []int{1 << 14, -1 << 14, 1 << 16, -3 << 14}[r.IntN(4)])
		}
		lap, unlap := checkLap(t, before, now), checkUnlap(t, waves)
		for i, other := range others {
			if !slices.Equal(other.lap(before, now), lap) {
				laps[i]++
			}
			if !slices.Equal(other.unlap(waves), unlap) {
				unlaps[i]++
			}
		}
	}
	if slices.Min(laps) == 0 || slices.Min(unlaps) == 0 {
		t.Errorf("laps %v, unlaps %v", laps, unlaps)
	}
}

func TestLapsOfOtherLengths(t *testing.T) {
	good := alike(5, 16)
	for many := range 70 {
		list := alike(5, many)
		if many != 16 {
			checkNoLap(t, "another length ahead", list, good)
			checkNoLap(t, "another length behind", good, list)
			checkNoLap(t, "another length", list, list)
			checkNoUnlap(t, "another length", list)
		}
	}
	checkNoLap(t, "nil", nil, nil)
	checkNoLap(t, "empty and nil", []int{}, nil)
	checkNoLap(t, "as many in all", alike(5, 15), alike(5, 17))
	checkNoLap(t, "as many in all", alike(5, 32), nil)
	checkNoUnlap(t, "nil", nil)
	checkNoUnlap(t, "empty", []int{})
	checkNoUnlap(t, "very many", make([]int, 4000))
	// Those behind the length count for nothing.
	long := append(alike(7, 16), 1<<40, 5)
	if lap, unlap := checkLap(t, long[:16], long[:16]), checkUnlap(t, long[:16]); len(lap) != 16 || len(unlap) != 32 {
		t.Errorf("%v, %v", lap, unlap)
	}
	// The two lists may be one, or a piece of one.
	whole := someHop(rand.New(rand.NewPCG(11, 12)))
	if got := impl.Lap(whole, whole); !slices.Equal(got, checkLap(t, whole, slices.Clone(whole))) {
		t.Errorf("%v", got)
	}
}

func TestLapsOfNumbersOutOfRange(t *testing.T) {
	zero := alike(0, 16)
	samples := append(extremes(), around(2, leastTone, greatestTone)...)
	numbers := append(extremes(), around(2, leastInSlot, greatestInSlot)...)
	for place := range 16 {
		for _, sample := range append(samples, -65536, 65536) {
			good := sample >= leastTone && sample <= greatestTone
			for _, other := range [][]int{zero, alike(greatestTone, 16)} {
				lone := slices.Clone(other)
				lone[place] = sample
				for _, got := range [][]int{checkLap(t, lone, other), checkLap(t, other, lone), checkLap(t, lone, lone)} {
					if (len(got) == 16) != good {
						t.Errorf("%d at %d: %v", sample, place, got)
					}
				}
			}
		}
		for _, number := range append(numbers, 2*leastInSlot, 2*greatestInSlot) {
			good := number >= leastInSlot && number <= greatestInSlot
			for _, other := range [][]int{zero, alike(leastInSlot, 16)} {
				lone := slices.Clone(other)
				lone[place] = number
				if got := checkUnlap(t, lone); (len(got) == 32) != good {
					t.Errorf("%d at %d: %v", number, place, got)
				}
			}
		}
	}
}

// lapsAway says how far laps and back take the second of three blocks.
func lapsAway(t *testing.T, blocks []int) int {
	t.Helper()
	first, second := checkLap(t, blocks[:16], blocks[16:32]), checkLap(t, blocks[16:32], blocks[32:48])
	early, late := checkUnlap(t, first), checkUnlap(t, second)
	far := 0
	for i := range 16 {
		far = max(far, magnitude(early[16+i]+late[i]-blocks[16+i]))
	}
	if far > 4 {
		t.Fatalf("%v: %d away", blocks, far)
	}
	return far
}

const (
	leastOf14Bits    = -8192
	greatestOf14Bits = 8191
)

// lapError is how much of sample j of three blocks comes to the sample i of the second one beside itself, as the
// cosines are whole numbers.
func lapError(i int, j int) float64 {
	sum := 0.0
	for slot := range 2 {
		from, to := j-16*slot, 16+i-16*slot
		if from < 0 || from >= 32 {
			continue
		}
		for n := range 16 {
			sum += float64(cosineAt(31-2*from)*crossing(from, n)) / (1 << 28) * float64(crossing(to, n)*cosineAt(31-2*to)) / (1 << 31)
		}
	}
	if j == 16+i {
		sum--
	}
	return sum
}

func TestLapsOf14BitsAndBack(t *testing.T) {
	r := rand.New(rand.NewPCG(11, 13))
	far := 0
	for _, even := range []int{leastOf14Bits, -1, 0, 1, greatestOf14Bits} {
		far = max(far, lapsAway(t, alike(even, 48)))
		for at := range 48 {
			for _, end := range []int{leastOf14Bits, greatestOf14Bits} {
				list := alike(even, 48)
				list[at] = end
				far = max(far, lapsAway(t, list))
				copy(list[at:], alike(end, 48-at))
				far = max(far, lapsAway(t, list))
			}
		}
	}
	for range 3000 {
		far = max(far, lapsAway(t, someLine(r, 48, leastOf14Bits, greatestOf14Bits)))
		list := slices.Concat(inRange(someHop(r), leastOf14Bits, greatestOf14Bits), inRange(someHop(r), leastOf14Bits, greatestOf14Bits), inRange(someHop(r), leastOf14Bits, greatestOf14Bits))
		far = max(far, lapsAway(t, list))
	}
	if far < 2 {
		t.Errorf("at most %d away", far)
	}
}

// What the cosines leave out adds up where each sample has the sign that its share has; from there on samples that take
// the rounding further away are kept.
func TestLapsOf14BitsThatAreFarthestAway(t *testing.T) {
	r := rand.New(rand.NewPCG(11, 14))
	far := 0
	for i := range 16 {
		for _, ends := range [][2]int{{leastOf14Bits, greatestOf14Bits}, {greatestOf14Bits, leastOf14Bits}} {
			list := make([]int, 48)
			for j := range list {
				list[j] = ends[0]
				if lapError(i, j) > 0 {
					list[j] = ends[1]
				}
			}
			most := lapsAway(t, list)
			for range 100 {
				other := slices.Clone(list)
				at := r.IntN(48)
				other[at] = max(leastOf14Bits, min(greatestOf14Bits, other[at]+r.IntN(61)-30))
				if away := lapsAway(t, other); away >= most {
					most, list = away, other
				}
			}
			far = max(far, most)
		}
	}
	if far < 3 {
		t.Errorf("at most %d away", far)
	}
	t.Log("at most " + strconv.Itoa(far) + " away")
}
