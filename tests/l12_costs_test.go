package tests

import (
	"math"
	"math/rand/v2"
	"slices"
	"strconv"
	"testing"

	"loop.example/g00016/impl"
)

// slowLikely is L of the document, with its b from the number's text.
func slowLikely(v int) int {
	if v == 0 {
		v = 1
	}
	b := len(strconv.FormatInt(int64(v), 2)) - 1
	return 256*(8-b) - 256*(v-twoTo(b))/twoTo(b)
}

// likelyParts is what L is asked of for a choice at those odds.
func likelyParts(odds int, bit int) int {
	if bit == 1 {
		odds = 4096 - odds
	}
	return (odds + 8) / 16
}

func slowOddsCost(places int, list []impl.Choice) int {
	if !areChoices(places, list) {
		return -1
	}
	sum, odds := 0, slowOdds{}
	for _, c := range list {
		sum += slowLikely(likelyParts(odds.of(c.Place), c.Bit))
		odds.learn(c)
	}
	return sum
}

// checkOddsCost asks for it with the choices amid other ones.
func checkOddsCost(t *testing.T, places int, list []impl.Choice) int {
	t.Helper()
	around, handed := amid(list, impl.Choice{Place: 1, Bit: 7})
	was := slices.Clone(around)
	got, want := impl.OddsCost(places, handed), slowOddsCost(places, list)
	if got != want || impl.OddsCost(places, handed) != got {
		t.Fatalf("%s: they cost %d, not %d", describedChoices(places, list), got, want)
	}
	if !slices.Equal(around, was) {
		t.Errorf("%s: an argument was written", describedChoices(places, list))
	}
	if none := len(impl.OddsPack(places, list)) == 0; none != (got == -1) {
		t.Errorf("%s: they cost %d, and have bytes: %v", describedChoices(places, list), got, !none)
	}
	return got
}

func TestOddsCostByHand(t *testing.T) {
	for _, c := range []struct {
		list []impl.Choice
		want int
	}{
		{nil, 0},
		{fresh(0, 0), 256},
		{fresh(0, 1), 256},
		{fresh(0, 0, 1, 1, 0), 4 * 256},
		// Odds 2112: of 4096 2112 are 132 of 256, 1984 are 124.
		{chosenBits(0, 0, 0), 256 + 256 - 8},
		{chosenBits(0, 0, 1), 256 + 512 - 240},
		{chosenBits(0, 1, 1), 256 + 256 - 8},
		{chosenBits(0, 1, 0), 256 + 512 - 240},
		// Odds 2112, then 2174: 136 (with 8 more, 2182 sixteenths are 136), and 120.
		{chosenBits(0, 0, 0, 0), 256 + 248 + 256 - 16},
		{chosenBits(0, 0, 0, 1), 256 + 248 + 512 - 224},
		// Odds 2112, then 2112 - 66: 2046 are 128, as 2050 of the bit 1 are.
		{chosenBits(0, 0, 1, 0), 256 + 272 + 256},
		{chosenBits(0, 0, 1, 1), 256 + 272 + 256},
		// Another place between counts for nothing.
		{slices.Concat(chosenBits(3, 0, 0), chosenBits(0, 1), chosenBits(3, 0)), 256 + 248 + 256 + 240},
	} {
		if got := checkOddsCost(t, 20, c.list); got != c.want {
			t.Errorf("%s: %d, not %d", describedChoices(20, c.list), got, c.want)
		}
	}
	// At the end odds are 4065: 254 of 256, of which 126 are above 128, and 2 for the other bit.
	run := chosenBits(0, alike(0, 1000)...)
	cost := checkOddsCost(t, 1, run)
	if got := checkOddsCost(t, 1, append(slices.Clone(run), impl.Choice{})); got != cost+256-2*126 {
		t.Errorf("one more: %d and then %d", cost, got)
	}
	if got := checkOddsCost(t, 1, append(run, impl.Choice{Bit: 1})); got != cost+256*7 {
		t.Errorf("another one: %d and then %d", cost, got)
	}
}

// The costs from each odds, with either bit. So near their ends odds do not come that 0, 1, 255 or 256 parts of 256 would.
func TestOddsCostOfAllOdds(t *testing.T) {
	met := map[int]int{}
	for odds, bits := range waysToOdds() {
		ahead := checkOddsCost(t, 1, chosenBits(0, bits...))
		for bit := range 2 {
			parts := likelyParts(odds, bit)
			cost := checkOddsCost(t, 1, chosenBits(0, append(slices.Clone(bits), bit)...)) - ahead
			if before, known := met[parts]; known && before != cost {
				t.Errorf("%d parts cost %d and %d", parts, before, cost)
			}
			met[parts] = cost
			if want := slowLikely(parts); cost != want {
				t.Errorf("odds %d, bit %d: %d, not %d", odds, bit, cost, want)
			}
		}
	}
	for parts := 2; parts <= 254; parts++ {
		cost, known := met[parts]
		if exact := -256 * math.Log2(float64(parts)/256); !known || float64(cost) < exact-1 || float64(cost) > exact+23 {
			t.Errorf("%d parts: %d, %v, and the logarithm %f", parts, cost, known, exact)
		}
		if power := parts&(parts-1) == 0; power && float64(cost) != -256*math.Log2(float64(parts)/256) {
			t.Errorf("%d parts: %d", parts, cost)
		}
	}
	if len(met) != 253 {
		t.Errorf("%d costs", len(met))
	}
	for _, parts := range []int{0, 1, 255, 256} {
		if cost, known := met[parts]; known {
			t.Errorf("%d parts cost %d", parts, cost)
		}
	}
}

// A list costs what its parts at each place cost, as places have odds of their own.
func TestOddsCostIsASum(t *testing.T) {
	r := rand.New(rand.NewPCG(12, 20))
	for range 2000 {
		places := someManyPlaces(r)
		list := someChoices(r, places, r.IntN(300))
		sum := 0
		for place := range places {
			var there []impl.Choice
			for _, c := range list {
				if c.Place == place {
					there = append(there, c)
				}
			}
			if len(there) > 0 {
				sum += checkOddsCost(t, places, there)
			}
		}
		if got := checkOddsCost(t, places, list); got != sum {
			t.Fatalf("%s: %d, not %d", describedChoices(places, list), got, sum)
		}
	}
}

func TestOddsCostOfManyChoices(t *testing.T) {
	r := rand.New(rand.NewPCG(12, 22))
	for _, places := range []int{1, 2, 512} {
		list := someChoices(r, places, 20001)
		checkOddsCost(t, places, list[:20000])
		if got := checkOddsCost(t, places, list); got != -1 {
			t.Errorf("%d places: one more: %d", places, got)
		}
		for _, bit := range []int{0, 1} {
			checkOddsCost(t, places, slices.Repeat(chosenAt(bit, places-1), 20000))
		}
	}
}

func TestOddsCostOfWhatIsNotValid(t *testing.T) {
	for _, places := range []int{1, 2, 300, 512} {
		if got := checkOddsCost(t, places, nil); got != 0 {
			t.Errorf("%d places, nothing: %d", places, got)
		}
		for _, wrong := range wrongChoices(places) {
			for _, list := range [][]impl.Choice{{wrong}, {{}, wrong}, {wrong, {}}} {
				if got := checkOddsCost(t, places, list); got != -1 {
					t.Errorf("%s: %d", describedChoices(places, list), got)
				}
			}
		}
	}
	for _, places := range []int{math.MinInt, -1, 0, 513, math.MaxInt} {
		for _, list := range [][]impl.Choice{nil, {}, {{}}, {{Place: -1}}, {{Place: places - 1}}} {
			if got := checkOddsCost(t, places, list); got != -1 {
				t.Errorf("%s: %d", describedChoices(places, list), got)
			}
		}
	}
}
