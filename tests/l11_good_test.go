package tests

import (
	"bytes"
	"math"
	"math/rand/v2"
	"slices"
	"strconv"
	"testing"

	"loop.example/g00016/impl"
)

func slowGrade(power int, quality int) int {
	if power < 0 || quality < 0 || quality > 15 {
		return 0
	}
	many := 0
	if power > 0 {
		many = len(strconv.FormatInt(int64(power), 2))
	}
	return max(0, min(12, (many+1)/2-quality))
}

func slowSlots(length int) int {
	return ceiling(length, 16) + 1
}

// plainTones have numbers and grades of 0 alone.
func plainTones(length int) impl.Tones {
	x := impl.Tones{Rate: 8000, Quality: 3, Length: length}
	for range slowSlots(length) {
		x.Slots = append(x.Slots, make([]int, 16))
		x.Grades = append(x.Grades, make([]int, 8))
	}
	return x
}

// someTones have numbers and grades of all kinds that may be.
func someTones(r *rand.Rand) impl.Tones {
	x := plainTones([]int{0, 1, 15, 16, 17, r.IntN(100), r.IntN(300)}[r.IntN(7)])
	x.Rate, x.Quality = []int{1, 8000, 1000000, 1 + r.IntN(1000000)}[r.IntN(4)], r.IntN(16)
	for j := range x.Slots {
		far := []int{0, 1, 3, 20, 500, 8000, 100000, greatestInSlot}[r.IntN(8)]
		x.Slots[j] = someLine(r, 16, -far-1, far)
		grade := r.IntN(13)
		for i := range x.Grades[j] {
			x.Grades[j][i] = []int{0, 12, grade, grade, r.IntN(13)}[r.IntN(5)]
		}
	}
	return x
}

func cloneTones(x impl.Tones) impl.Tones {
	x.Slots, x.Grades = cloneLists(x.Slots), cloneLists(x.Grades)
	return x
}

func sameTones(a, b impl.Tones) bool {
	return a.Rate == b.Rate && a.Quality == b.Quality && a.Length == b.Length && sameLists(a.Slots, b.Slots) && sameLists(a.Grades, b.Grades)
}

func describedTones(x impl.Tones) string {
	return "tones of rate " + strconv.Itoa(x.Rate) + ", quality " + strconv.Itoa(x.Quality) + ", length " + strconv.Itoa(x.Length) +
		" in " + strconv.Itoa(len(x.Slots)) + " slots and " + strconv.Itoa(len(x.Grades)) + " lists of grades"
}

// amidTones has slots and grades amid other memory: all of that, and the tones.
func amidTones(x impl.Tones) ([][]int, impl.Tones) {
	slots, handedSlots := amidLists(x.Slots, 77777777)
	grades, handedGrades := amidLists(x.Grades, 7777)
	x.Slots, x.Grades = handedSlots, handedGrades
	return slices.Concat(slots, grades), x
}

// toneFileMade makes a file twice, of tones amid other memory.
func toneFileMade(t *testing.T, x impl.Tones) []byte {
	t.Helper()
	around, handed := amidTones(x)
	was := cloneLists(around)
	got, again := impl.EncodeTones(handed), impl.EncodeTones(handed)
	kept := slices.Clone(got)
	clear(got[:cap(got)])
	if !sameLists(around, was) || !bytes.Equal(kept, again) {
		t.Fatalf("%s: an argument was written, or two calls are not alike", describedTones(x))
	}
	return kept
}

// heardMade makes the sound of tones twice, amid other memory.
func heardMade(t *testing.T, x impl.Tones) []int {
	t.Helper()
	around, handed := amidTones(x)
	was := cloneLists(around)
	got, again := impl.SoundOf(handed), impl.SoundOf(handed)
	if !sameLists(around, was) || !slices.Equal(got, again) {
		t.Fatalf("%s: an argument was written, or two calls are not alike", describedTones(x))
	}
	kept := slices.Clone(got)
	checkApart(t, describedTones(x), around, got, again)
	return kept
}

// checkGoodTones asks what hangs on it, too: none that are not good have a sound or a file; of good ones the sound is as
// long as said, and the file is read as they.
func checkGoodTones(t *testing.T, what string, x impl.Tones, want bool) {
	t.Helper()
	was := cloneTones(x)
	if got := impl.GoodTones(x); got != want {
		t.Errorf("%s: %s: good is %v", what, describedTones(x), got)
	}
	if !sameTones(x, was) {
		t.Errorf("%s: the tones were written", what)
	}
	file, heard := toneFileMade(t, x), heardMade(t, x)
	if (len(file) > 0) != want || !want && len(heard) > 0 || want && len(heard) != x.Length {
		t.Errorf("%s: %s: a file of %d bytes, and %d samples", what, describedTones(x), len(file), len(heard))
	}
	if !want {
		return
	}
	if err, got := impl.DecodeTones(file); err != 0 || !sameTones(got, x) {
		t.Errorf("%s: %s: read with error %d as %s", what, describedTones(x), err, describedTones(got))
	}
}

func TestGradeByHand(t *testing.T) {
	for _, c := range [][3]int{
		{0, 0, 0}, {1, 0, 1}, {2, 0, 1}, {3, 0, 1}, {4, 0, 2}, {7, 0, 2}, {8, 0, 2}, {15, 0, 2}, {16, 0, 3},
		{4, 1, 1}, {4, 2, 0}, {4, 3, 0}, {1, 15, 0}, {1<<30 - 1, 0, 12}, {1 << 30, 15, 1}, {1<<22 - 1, 0, 11}, {1 << 22, 0, 12},
		{math.MaxInt, 0, 12}, {math.MaxInt, 15, 12}, {-1, 0, 0}, {math.MinInt, 0, 0}, {1 << 40, -1, 0}, {1 << 40, 16, 0},
	} {
		if got := impl.Grade(c[0], c[1]); got != c[2] {
			t.Errorf("power %d, quality %d: %d, not %d", c[0], c[1], got, c[2])
		}
	}
}

func TestGradeOfAllPowers(t *testing.T) {
	powers := append(extremes(), around(300, 0)...)
	for power := 1; power > 0 && power < math.MaxInt/2; power *= 2 {
		powers = append(powers, power-1, power, power+1, -power)
	}
	powers = append(powers, math.MaxInt/2, math.MaxInt/2+1)
	qualities := append(slices.Clone(farNumbers), around(20, 0)...)
	met := map[int]int{}
	for _, power := range powers {
		for _, quality := range qualities {
			got, want := impl.Grade(power, quality), slowGrade(power, quality)
			if got != want {
				t.Errorf("power %d, quality %d: %d, not %d", power, quality, got, want)
			}
			met[got]++
		}
	}
	if len(met) != 13 {
		t.Errorf("%v", met)
	}
}

func TestGoodTonesOfTheZeroValue(t *testing.T) {
	checkGoodTones(t, "the zero value", impl.Tones{}, false)
	least := plainTones(0)
	least.Rate, least.Quality = 1, 0
	checkGoodTones(t, "the least", least, true)
	checkGoodTones(t, "a rate alone", impl.Tones{Rate: 1}, false)
}

func TestGoodTonesOfHeads(t *testing.T) {
	for _, n := range append(slices.Clone(farNumbers), -1000000, -1, 0, 1, 2, 999999, 1000000, 1000001, 1<<20-1, 1<<20, 1<<20+1) {
		x := plainTones(17)
		x.Rate = n
		checkGoodTones(t, "Rate", x, n >= 1 && n <= 1000000)
	}
	for _, n := range append(slices.Clone(farNumbers), around(20, 0)...) {
		x := plainTones(17)
		x.Quality = n
		checkGoodTones(t, "Quality", x, n >= 0 && n <= 15)
	}
}

func TestGoodTonesOfLengths(t *testing.T) {
	for _, n := range append(around(40, 0), around(20, 4000)...) {
		// Slots as that length has them, though it may not be.
		checkGoodTones(t, "Length", plainTones(n), n >= 0 && n <= 4000)
	}
	// 17 to 32 samples have three slots.
	for _, n := range append(slices.Clone(farNumbers), around(60, 0)...) {
		x := plainTones(20)
		x.Length = n
		checkGoodTones(t, "another Length", x, n >= 17 && n <= 32)
	}
	for _, n := range append(slices.Clone(farNumbers), -16, -15, -1, 0, 1) {
		x := plainTones(0)
		x.Length = n
		checkGoodTones(t, "another Length with one slot", x, n == 0)
		x.Slots, x.Grades = nil, nil
		checkGoodTones(t, "a Length without slots", x, false)
	}
}

func TestGoodTonesOfHowManyLists(t *testing.T) {
	for _, length := range []int{0, 1, 16, 17, 3984, 3985, 4000} {
		many := slowSlots(length)
		for _, slots := range []int{0, many - 1, many, many + 1} {
			for _, grades := range []int{0, many - 1, many, many + 1} {
				x := plainTones(length)
				x.Slots = append(x.Slots, make([]int, 16))[:slots]
				x.Grades = append(x.Grades, make([]int, 8))[:grades]
				checkGoodTones(t, "so many lists", x, slots == many && grades == many)
			}
		}
	}
}

func TestGoodTonesOfLongLists(t *testing.T) {
	for j := range 3 {
		for many := range 40 {
			x := plainTones(32)
			x.Slots[j] = make([]int, many)
			checkGoodTones(t, "a slot of so many", x, many == 16)
			x = plainTones(32)
			x.Grades[j] = make([]int, many)
			checkGoodTones(t, "grades of so many", x, many == 8)
		}
		x := plainTones(32)
		x.Slots[j] = nil
		checkGoodTones(t, "a slot that is nil", x, false)
		x = plainTones(32)
		x.Grades[j] = nil
		checkGoodTones(t, "grades that are nil", x, false)
	}
	x := plainTones(32)
	x.Slots[1], x.Slots[2] = make([]int, 15), make([]int, 17)
	checkGoodTones(t, "as many numbers in all", x, false)
	x = plainTones(32)
	x.Grades[0], x.Grades[1] = make([]int, 9), make([]int, 7)
	checkGoodTones(t, "as many grades in all", x, false)
	x = plainTones(32)
	x.Slots, x.Grades = x.Grades, x.Slots
	checkGoodTones(t, "slots for grades", x, false)
}

func TestGoodTonesOfNumbers(t *testing.T) {
	numbers := append(extremes(), around(2, leastInSlot, greatestInSlot)...)
	grades := append(extremes(), around(20, 0)...)
	for j := range 3 {
		for at := range 16 {
			for _, n := range numbers {
				x := plainTones(32)
				x.Slots[j][at] = n
				checkGoodTones(t, "a number "+strconv.Itoa(n), x, n >= leastInSlot && n <= greatestInSlot)
			}
		}
		for at := range 8 {
			for _, n := range grades {
				x := plainTones(32)
				x.Grades[j][at] = n
				checkGoodTones(t, "a grade "+strconv.Itoa(n), x, n >= 0 && n <= 12)
			}
		}
	}
}

func TestGoodTonesOfSomeTones(t *testing.T) {
	r := rand.New(rand.NewPCG(11, 20))
	for range 300 {
		checkGoodTones(t, "some tones", someTones(r), true)
	}
}
