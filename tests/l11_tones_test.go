package tests

import (
	"math/rand/v2"
	"slices"
	"strconv"
	"testing"

	"loop.example/g00016/impl"
)

// hopsOf has a block of 0, the samples in blocks, and a block of 0.
func hopsOf(list []int) [][]int {
	hops := [][]int{make([]int, 16)}
	for from := 0; from < len(list); from += 16 {
		hop := make([]int, 16)
		copy(hop, list[from:])
		hops = append(hops, hop)
	}
	return append(hops, make([]int, 16))
}

func twoTo(grade int) int {
	power := 1
	for range grade {
		power *= 2
	}
	return power
}

func slowTonesOf(rate int, quality int, list []int) impl.Tones {
	if rate < 1 || rate > 1000000 || quality < 0 || quality > 15 || !allWithin(list, leastTone, greatestTone) {
		return impl.Tones{}
	}
	x := impl.Tones{Rate: rate, Quality: quality, Length: len(list)}
	hops := hopsOf(list)
	for j := range len(hops) - 1 {
		var grades, numbers []int
		for _, power := range slowPowers(hops[j+1]) {
			grades = append(grades, slowGrade(power, quality))
		}
		for i, n := range toldLapping.lap(hops[j], hops[j+1]) {
			numbers = append(numbers, slowCoarse(n, twoTo(grades[i/2])))
		}
		x.Slots, x.Grades = append(x.Slots, numbers), append(x.Grades, grades)
	}
	return x
}

// slowSums are the samples of tones ahead of being held in their range.
func slowSums(x impl.Tones) []int {
	var unlaps [][]int
	for j, numbers := range x.Slots {
		var waves []int
		for i, n := range numbers {
			waves = append(waves, n*twoTo(x.Grades[j][i/2]))
		}
		unlaps = append(unlaps, toldLapping.unlapAny(waves))
	}
	var sums []int
	for j := 1; j < len(unlaps); j++ {
		for i := range 16 {
			sums = append(sums, unlaps[j-1][16+i]+unlaps[j][i])
		}
	}
	return sums[:x.Length]
}

// slowSoundOf asks for good tones.
func slowSoundOf(x impl.Tones) []int {
	return inRange(slowSums(x), leastTone, greatestTone)
}

// tonesMade makes tones twice, of a list amid other memory.
func tonesMade(t *testing.T, rate int, quality int, list []int) impl.Tones {
	t.Helper()
	around, handed := amid(list, 7777777)
	was := slices.Clone(around)
	got, again := impl.TonesOf(rate, quality, handed), impl.TonesOf(rate, quality, handed)
	if !slices.Equal(around, was) || !sameTones(got, again) {
		t.Fatalf("of %d samples: an argument was written, or two calls are not alike", len(list))
	}
	kept := cloneTones(got)
	checkApart(t, describedTones(got), [][]int{around}, slices.Concat(got.Slots, got.Grades, again.Slots, again.Grades)...)
	return kept
}

// checkTones asks for their sound, too.
func checkTones(t *testing.T, rate int, quality int, list []int) impl.Tones {
	t.Helper()
	got, want := tonesMade(t, rate, quality, list), slowTonesOf(rate, quality, list)
	if !sameTones(got, want) {
		t.Fatalf("rate %d, quality %d, %v:\n%v, not\n%v", rate, quality, list, got, want)
	}
	if want.Rate > 0 {
		if !impl.GoodTones(got) {
			t.Fatalf("rate %d, quality %d, %v: %v is not good", rate, quality, list, got)
		}
		checkHeard(t, got)
	}
	return got
}

func checkHeard(t *testing.T, x impl.Tones) []int {
	t.Helper()
	got, want := heardMade(t, x), slowSoundOf(x)
	if !slices.Equal(got, want) {
		t.Fatalf("sound of %v\n%v, not\n%v", x, got, want)
	}
	return got
}

func checkNoTones(t *testing.T, what string, rate int, quality int, list []int) {
	t.Helper()
	if got := tonesMade(t, rate, quality, list); !sameTones(got, impl.Tones{}) {
		t.Errorf("%s: %s", what, describedTones(got))
	}
}

func someToneList(r *rand.Rand, many int) []int {
	far := []int{1, 30, 1000, 8191, greatestTone}[r.IntN(5)]
	return someLine(r, many, -far-1, far)
}

func TestTonesByHand(t *testing.T) {
	got := impl.TonesOf(100, 3, nil)
	if want := (impl.Tones{Rate: 100, Quality: 3, Slots: [][]int{alike(0, 16)}, Grades: [][]int{alike(0, 8)}}); !sameTones(got, want) {
		t.Errorf("of no samples: %v", got)
	}
	// A lone 16 has the power 1 in each wave, the grade 1 at quality 0: each number is halved.
	list := append(alike(0, 8), loneTone(0, 16)...)[:10]
	got = impl.TonesOf(7, 0, list)
	lone := loneTone(8, 16)
	first, second := toldLapping.lap(alike(0, 16), lone), toldLapping.lap(lone, alike(0, 16))
	want := impl.Tones{Rate: 7, Length: 10, Slots: [][]int{eachNumber(first, func(n int) int { return slowCoarse(n, 2) }), second}, Grades: [][]int{alike(1, 8), alike(0, 8)}}
	if !sameTones(got, want) {
		t.Errorf("of a lone 16: %v, not %v", got, want)
	}
}

func TestTonesOfLengths(t *testing.T) {
	r := rand.New(rand.NewPCG(11, 30))
	for many := range 100 {
		for range 4 {
			x := checkTones(t, 1+r.IntN(1000000), r.IntN(16), someToneList(r, many))
			if len(x.Slots) != ceiling(many, 16)+1 || x.Length != many {
				t.Errorf("of %d samples: %s", many, describedTones(x))
			}
		}
	}
	for _, many := range []int{3983, 3984, 3985, 3999, 4000} {
		if x := checkTones(t, 44100, 2, someToneList(r, many)); x.Length != many {
			t.Errorf("of %d samples: %s", many, describedTones(x))
		}
	}
	for _, many := range []int{4001, 4002, 4016, 8000, 1 << 17} {
		checkNoTones(t, "too many samples", 44100, 2, make([]int, many))
	}
}

func TestTonesOfHeads(t *testing.T) {
	list := []int{500, -500, 20, 3}
	for _, n := range append(slices.Clone(farNumbers), -1000000, -1, 0, 1, 2, 999999, 1000000, 1000001, 1<<20-1, 1<<20) {
		if x := checkTones(t, n, 2, list); (x.Length == 4) != (n >= 1 && n <= 1000000) {
			t.Errorf("rate %d: %s", n, describedTones(x))
		}
	}
	for _, n := range append(slices.Clone(farNumbers), around(20, 0)...) {
		if x := checkTones(t, 9, n, list); (x.Length == 4) != (n >= 0 && n <= 15) {
			t.Errorf("quality %d: %s", n, describedTones(x))
		}
	}
	checkNoTones(t, "no rate, of no samples", 0, 0, nil)
	checkNoTones(t, "another quality, of no samples", 1, 16, nil)
}

func TestTonesOfSamplesOutOfRange(t *testing.T) {
	for _, sample := range append(extremes(), around(2, leastTone, greatestTone)...) {
		good := sample >= leastTone && sample <= greatestTone
		for _, many := range []int{1, 16, 20, 40} {
			for _, at := range []int{0, many / 2, many - 1} {
				list := alike(3, many)
				list[at] = sample
				if x := checkTones(t, 9, 0, list); (x.Length == many) != good {
					t.Errorf("%d at %d of %d: %s", sample, at, many, describedTones(x))
				}
			}
		}
	}
}

// Each quality takes as much from each grade, and a number at a half goes away from 0, below 0 too.
func TestTonesOfQualities(t *testing.T) {
	r := rand.New(rand.NewPCG(11, 31))
	grades, halves := map[int]int{}, map[bool]int{}
	for range 60 {
		list := someToneList(r, 1+r.IntN(60))
		hops := hopsOf(list)
		for quality := range 16 {
			x := checkTones(t, 1, quality, list)
			for j := range x.Slots {
				for i, n := range toldLapping.lap(hops[j], hops[j+1]) {
					grade := x.Grades[j][i/2]
					grades[grade]++
					if by := twoTo(grade); grade > 0 && magnitude(n)%by == by/2 {
						halves[n > 0]++
						if 2*by*magnitude(x.Slots[j][i]) != 2*magnitude(n)+by || (x.Slots[j][i] > 0) != (n > 0) {
							t.Errorf("%d by %d: %d", n, by, x.Slots[j][i])
						}
					}
				}
			}
		}
	}
	if len(grades) != 13 || min(halves[true], halves[false]) < 100 {
		t.Errorf("grades %v, halves above 0 %d, below %d", grades, halves[true], halves[false])
	}
}

// A slot's grades are those of the later one of its two blocks.
func TestTonesOfTheLaterBlock(t *testing.T) {
	loud := alike(20000, 16)
	for at := range 3 {
		list := make([]int, 48)
		copy(list[16*at:], loud)
		x := checkTones(t, 1, 0, list)
		for j, grades := range x.Grades {
			want := 0
			if j == at {
				want = 12
			}
			if grades[0] != want || slices.Max(grades[1:]) != 0 {
				t.Errorf("block %d, slot %d: %v", at, j, grades)
			}
		}
		if slices.Equal(x.Slots[at+1], alike(0, 16)) || slices.Equal(x.Slots[at], alike(0, 16)) {
			t.Errorf("block %d: %v", at, x.Slots)
		}
	}
}

func TestTonesOfSomeSamples(t *testing.T) {
	r := rand.New(rand.NewPCG(11, 32))
	for range 400 {
		checkTones(t, 1+r.IntN(1000000), r.IntN(16), someToneList(r, r.IntN(120)))
	}
}

// At the highest quality samples of 14 bits have no grades but 0, and come back nearly as they were.
func TestTonesOf14BitsAndBack(t *testing.T) {
	r := rand.New(rand.NewPCG(11, 33))
	for try := range 400 {
		list := someLine(r, r.IntN(200), leastOf14Bits, greatestOf14Bits)
		if try == 0 {
			list = someLine(r, 4000, leastOf14Bits, greatestOf14Bits)
		}
		x := checkTones(t, 1, 15, list)
		for _, grades := range x.Grades {
			if slices.Max(grades) > 0 {
				t.Fatalf("of %v: %v", list, grades)
			}
		}
		for i, sample := range impl.SoundOf(x) {
			if magnitude(sample-list[i]) > 4 {
				t.Fatalf("of %v: sample %d is %d", list, i, sample)
			}
		}
	}
}

func TestSoundOfByHand(t *testing.T) {
	x := plainTones(16)
	x.Slots[0][3], x.Grades[0][1] = 5, 10
	first := toldLapping.unlap(loneTone(3, 5120))[16:]
	if got := impl.SoundOf(x); !slices.Equal(got, first) {
		t.Errorf("of the first slot: %v, not %v", got, first)
	}
	x.Slots[1][15], x.Grades[1][7], x.Grades[1][6] = -90, 4, 9
	second := toldLapping.unlap(loneTone(15, -1440))[:16]
	want := make([]int, 16)
	for i := range want {
		want[i] = first[i] + second[i]
	}
	if got := impl.SoundOf(x); !slices.Equal(got, want) {
		t.Errorf("of both slots: %v, not %v", got, want)
	}
	for many := 1; many <= 16; many++ {
		x.Length = many
		if got := impl.SoundOf(x); !slices.Equal(got, want[:many]) {
			t.Errorf("%d samples of both slots: %v, not %v", many, got, want[:many])
		}
	}
}

func TestSoundOfLengths(t *testing.T) {
	r := rand.New(rand.NewPCG(11, 34))
	for many := range 70 {
		x := plainTones(many)
		for j := range x.Slots {
			x.Slots[j] = someNoise(r, 16, 3000)
		}
		if got := checkHeard(t, x); len(got) != many {
			t.Errorf("%d samples, not %d", len(got), many)
		}
	}
	for _, many := range []int{3985, 3999, 4000} {
		if got := checkHeard(t, plainTones(many)); len(got) != many {
			t.Errorf("%d samples, not %d", len(got), many)
		}
	}
}

// Sums beyond the samples' ends are those; those at the ends are as they are.
func TestSoundOfSumsBeyondTheEnds(t *testing.T) {
	r := rand.New(rand.NewPCG(11, 35))
	met := map[int]int{}
	for range 3000 {
		x := plainTones(16)
		grade := r.IntN(4)
		for j := range x.Slots {
			x.Slots[j] = someNoise(r, 16, []int{20000, 30000, 60000, greatestInSlot}[r.IntN(4)]/twoTo(grade))
			x.Grades[j] = alike(grade, 8)
		}
		got := checkHeard(t, x)
		for i, sum := range slowSums(x) {
			if sum < leastTone || sum > greatestTone {
				met[got[i]]++
			}
		}
	}
	if len(met) != 2 || min(met[leastTone], met[greatestTone]) < 1000 {
		t.Errorf("%v", met)
	}
	// Slots that take the first sample to each number around the ends.
	for _, end := range []int{leastTone, greatestTone} {
		near := map[int]int{}
		for n := -8; n <= 8; n++ {
			x := plainTones(1)
			weight := float64(crossing(16, 0)) / 131072 * float64(cosineAt(-1)) / 16384
			x.Slots[0][0] = int(float64(end)/weight) + 4*n
			near[slowSums(x)[0]-end] = checkHeard(t, x)[0] - end
		}
		for away := -1; away <= 1; away++ {
			want := away
			if away == -1 && end == leastTone || away == 1 && end == greatestTone {
				want = 0
			}
			if got, ok := near[away]; !ok || got != want {
				t.Errorf("%d beside %d: %d, not %d (%v)", away, end, got, want, near)
			}
		}
	}
}

// By grades numbers come that are beyond those that Unlap takes: their sums are made all the same.
func TestSoundOfTheGreatestNumbers(t *testing.T) {
	r := rand.New(rand.NewPCG(11, 36))
	met := map[bool]int{}
	for range 500 {
		x := someTones(r)
		for j := range x.Slots {
			if r.IntN(2) == 0 {
				x.Grades[j] = alike(12, 8)
				for i := range x.Slots[j] {
					x.Slots[j][i] = []int{leastInSlot, greatestInSlot, 0, 1, -1, 255, -256, 256, -257}[r.IntN(9)]
				}
			}
			for i, n := range x.Slots[j] {
				met[isSlot(alike(n*twoTo(x.Grades[j][i/2]), 16))]++
			}
		}
		checkHeard(t, x)
	}
	if min(met[true], met[false]) < 1000 {
		t.Errorf("%v", met)
	}
}

func TestSoundOfTonesThatAreNotGood(t *testing.T) {
	for what, change := range map[string]func(x *impl.Tones){
		"the rate":        func(x *impl.Tones) { x.Rate = 0 },
		"the quality":     func(x *impl.Tones) { x.Quality = 16 },
		"the length":      func(x *impl.Tones) { x.Length = 33 },
		"a length below":  func(x *impl.Tones) { x.Length = -1 },
		"a slot":          func(x *impl.Tones) { x.Slots[2] = x.Slots[2][:15] },
		"a number":        func(x *impl.Tones) { x.Slots[2][15] = greatestInSlot + 1 },
		"grades":          func(x *impl.Tones) { x.Grades[2] = x.Grades[2][:7] },
		"a grade":         func(x *impl.Tones) { x.Grades[2][7] = 13 },
		"a grade below 0": func(x *impl.Tones) { x.Grades[2][7] = -1 },
		"no slots":        func(x *impl.Tones) { x.Slots = nil },
		"no grades":       func(x *impl.Tones) { x.Grades = nil },
	} {
		x := plainTones(32)
		if got := impl.SoundOf(x); len(got) != 32 {
			t.Errorf("ahead of %s: %v", what, got)
		}
		change(&x)
		checkGoodTones(t, what, x, false)
	}
	if got := impl.SoundOf(impl.Tones{}); len(got) > 0 {
		t.Errorf("of the zero value: %v", got)
	}
}

// What a grade takes from a number comes back but for the rounding: half of its power of two at most.
func TestTonesAreNearTheirLaps(t *testing.T) {
	r := rand.New(rand.NewPCG(11, 37))
	for range 200 {
		list := someToneList(r, 32)
		hops := hopsOf(list)
		x := impl.TonesOf(1, r.IntN(16), list)
		for j, numbers := range x.Slots {
			for i, n := range impl.Lap(hops[j], hops[j+1]) {
				by := twoTo(x.Grades[j][i/2])
				if 2*magnitude(numbers[i]*by-n) > by {
					t.Fatalf("slot %d of %v: number %d is %d by %d, not %s", j, list, i, numbers[i], by, strconv.Itoa(n))
				}
			}
		}
	}
}
