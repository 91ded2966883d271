package tests

import (
	"math/rand/v2"
	"slices"
	"strconv"
	"testing"

	"loop.example/g00016/impl"
)

// A list's numbers go from the one to the other.
const (
	leastInList    = -67108864
	greatestInList = 67108863
)

// allWithin says whether a list of that chapter has numbers within those ends alone.
func allWithin(list []int, least int, most int) bool {
	return len(list) <= 4000 && (len(list) == 0 || slices.Min(list) >= least && slices.Max(list) <= most)
}

func isList(list []int) bool {
	return allWithin(list, leastInList, greatestInList)
}

// differences are those of each number and the one ahead of it.
func differences(list []int) []int {
	var made []int
	for i := 1; i < len(list); i++ {
		made = append(made, list[i]-list[i-1])
	}
	return made
}

// slowResidue takes differences of differences, as often as the order says.
func slowResidue(order int, list []int) []int {
	if order < 0 || order > 4 || !isList(list) {
		return nil
	}
	rest := list
	for range min(order, len(list)) {
		rest = differences(rest)
	}
	return slices.Concat(list[:min(order, len(list))], rest)
}

// foretoldBy goes on with the numbers so that their last difference of differences stays.
func foretoldBy(ahead []int) int {
	sum := 0
	for len(ahead) > 0 {
		sum += ahead[len(ahead)-1]
		ahead = differences(ahead)
	}
	return sum
}

func slowRestore(order int, list []int) []int {
	if order < 0 || order > 4 || !allWithin(list, -2147483648, 2147483647) {
		return nil
	}
	var made []int
	for i, number := range list {
		if i >= order {
			number += foretoldBy(made[i-order:])
		}
		if !isList([]int{number}) {
			return nil
		}
		made = append(made, number)
	}
	return made
}

// soundListMade makes a list of one amid other memory.
func soundListMade(t *testing.T, list []int, change func([]int) []int) []int {
	t.Helper()
	return listMade(t, list, 77777777, -5, change)
}

// checkResidue asks for the way back, too.
func checkResidue(t *testing.T, order int, list []int) {
	t.Helper()
	want := slowResidue(order, list)
	got := soundListMade(t, list, func(list []int) []int { return impl.Residue(order, list) })
	if !slices.Equal(got, want) {
		t.Fatalf("order %d: of %v\n%v, not\n%v", order, list, got, want)
	}
	if order < 0 || order > 4 || !isList(list) {
		return
	}
	if back := checkRestore(t, order, got); !slices.Equal(back, list) {
		t.Fatalf("order %d: of %v\n%v, and back\n%v", order, list, got, back)
	}
}

func checkRestore(t *testing.T, order int, list []int) []int {
	t.Helper()
	want := slowRestore(order, list)
	got := soundListMade(t, list, func(list []int) []int { return impl.Restore(order, list) })
	if !slices.Equal(got, want) {
		t.Fatalf("order %d: restored of %v\n%v, not\n%v", order, list, got, want)
	}
	if len(got) > 0 && !slices.Equal(impl.Residue(order, got), list) {
		t.Fatalf("order %d: restored of %v\n%v, of which Residue makes another list", order, list, got)
	}
	return got
}

// someNoise has numbers that are at most so far from 0.
func someNoise(r *rand.Rand, many int, far int) []int {
	list := make([]int, many)
	for i := range list {
		list[i] = r.IntN(2*far+1) - far
	}
	return list
}

// inRange moves all that is beyond the ends to them.
func inRange(list []int, least int, most int) []int {
	return eachNumber(list, func(n int) int { return max(least, min(most, n)) })
}

// curve has the values of a polynomial with some noise.
func curve(r *rand.Rand, many int, far int) []int {
	rows := someNoise(r, r.IntN(4)+1, min(far, 50))
	list := someNoise(r, many, r.IntN(3))
	for i := range list {
		for at := len(rows) - 1; at > 0; at-- {
			rows[at-1] += rows[at]
		}
		list[i] += rows[0]
	}
	return list
}

// someLine has numbers between those ends: even, noisy, rising, stark ones, and such of which a part is unlike the rest.
func someLine(r *rand.Rand, many int, least int, most int) []int {
	switch r.IntN(7) {
	case 0:
		return alike(least+r.IntN(most-least+1), many)
	case 1:
		return inRange(someNoise(r, many, 1+r.IntN(8)), least, most)
	case 2:
		return inRange(someNoise(r, many, most), least, most)
	case 3, 4:
		return inRange(curve(r, many, most), least, most)
	case 5:
		list := make([]int, many)
		for i := range list {
			list[i] = []int{least, most}[(i+r.IntN(5)/4)%2]
		}
		return list
	}
	list := inRange(curve(r, many, most), least, most)
	if from := r.IntN(many + 1); from < many {
		copy(list[from:], someLine(r, 1+r.IntN(many-from), least, most))
	}
	return list
}

func someSoundList(r *rand.Rand, many int) []int {
	far := []int{3, 100, 32767, 1 << 23, 1<<26 - 1}[r.IntN(5)]
	return someLine(r, many, -far-1, far)
}

func TestSoundLimits(t *testing.T) {
	if impl.MaxSamples != 4000 || impl.MaxFrame != 512 {
		t.Errorf("%d, %d", impl.MaxSamples, impl.MaxFrame)
	}
}

func TestResidueByHand(t *testing.T) {
	list := []int{10, -3, 7, 100, 4, 4}
	for order, want := range [][]int{
		{10, -3, 7, 100, 4, 4},
		{10, -13, 10, 93, -96, 0},
		{10, -3, 23, 83, -189, 96},
		{10, -3, 7, 60, -272, 285},
		{10, -3, 7, 100, -332, 557},
	} {
		if got := impl.Residue(order, list); !slices.Equal(got, want) {
			t.Errorf("order %d: %v, not %v", order, got, want)
		}
		if got := impl.Restore(order, want); !slices.Equal(got, list) {
			t.Errorf("order %d, restored: %v", order, got)
		}
	}
}

// Each number ahead counts as the formula says: a lone 1 shows the weights.
func TestResidueOfALoneNumber(t *testing.T) {
	for order, want := range [][]int{{1, 0, 0, 0, 0}, {1, -1, 0, 0, 0}, {1, -2, 1, 0, 0}, {1, -3, 3, -1, 0}, {1, -4, 6, -4, 1}} {
		list := []int{0, 0, 0, 0, 1, 0, 0, 0, 0}
		if got := impl.Residue(order, list); !slices.Equal(got[4:], want) {
			t.Errorf("order %d: %v, not %v", order, got[4:], want)
		}
	}
}

func TestResidueOfShortLists(t *testing.T) {
	numbers := []int{leastInList, -2, 0, 5, greatestInList}
	lists := [][]int{nil}
	for at := 0; at < len(lists); at++ {
		for order := -1; order <= 5; order++ {
			checkResidue(t, order, lists[at])
		}
		if len(lists[at]) < 5 {
			for _, number := range numbers {
				lists = append(lists, append(slices.Clone(lists[at]), number))
			}
		}
	}
}

func TestResidueOfOtherOrders(t *testing.T) {
	for _, order := range append(slices.Clone(farNumbers), -4, -3, -2, -1, 5, 6, 7, 8, 255, 256) {
		for _, list := range [][]int{nil, {1}, {1, 2, 3, 4, 5, 6, 7, 8, 9}} {
			if got := impl.Residue(order, list); len(got) > 0 {
				t.Errorf("Residue, order %d: %v", order, got)
			}
			if got := impl.Restore(order, list); len(got) > 0 {
				t.Errorf("Restore, order %d: %v", order, got)
			}
		}
	}
}

func TestResidueOfSomeLists(t *testing.T) {
	r := rand.New(rand.NewPCG(10, 1))
	for range 3000 {
		list := someSoundList(r, r.IntN(40))
		for order := range 5 {
			checkResidue(t, order, list)
		}
	}
}

func TestResidueOfManyNumbers(t *testing.T) {
	r := rand.New(rand.NewPCG(10, 2))
	for order := range 5 {
		for _, many := range []int{3999, 4000} {
			for range 5 {
				checkResidue(t, order, someSoundList(r, many))
			}
		}
		for _, many := range []int{4001, 4002, 8000} {
			list := make([]int, many)
			checkResidue(t, order, list)
			if got := impl.Residue(order, list); len(got) > 0 {
				t.Errorf("Residue of %d numbers: %d", many, len(got))
			}
			if got := impl.Restore(order, list); len(got) > 0 {
				t.Errorf("Restore of %d numbers: %d", many, len(got))
			}
		}
	}
}

func TestResidueOfNumbersBeyondTheEnds(t *testing.T) {
	numbers := append(slices.Clone(extremes()), around(2, leastInList, greatestInList)...)
	for order := range 5 {
		for _, number := range numbers {
			for at := range 7 {
				list := []int{1, -1, 3, 0, 0, 2, 1}
				list[at] = number
				checkResidue(t, order, list)
				if got := impl.Residue(order, list); (len(got) > 0) != (number >= leastInList && number <= greatestInList) {
					t.Errorf("order %d, %d at %d: %v", order, number, at, got)
				}
			}
		}
	}
}

// The least and the greatest residues are of lists that go from one end to the other, as the signs of the weights do.
func TestResidueBeyondTheRangeOfLists(t *testing.T) {
	for order, want := range []int{greatestInList, 1<<27 - 1, 1<<28 - 2, 1<<29 - 4, 1<<30 - 8} {
		list := make([]int, 11)
		for i := range list {
			list[i] = []int{greatestInList, leastInList}[i%2]
		}
		checkResidue(t, order, list)
		if got := slices.Max(impl.Residue(order, list)); got != want {
			t.Errorf("order %d: %d, not %d", order, got, want)
		}
	}
}

func TestRestoreOfNumbersBeyondTheEnds(t *testing.T) {
	numbers := append(slices.Clone(extremes()), around(2, leastInList, greatestInList, -1<<27, 1<<27, -1<<30, 1<<30, -2147483648, 2147483647)...)
	for order := range 5 {
		for _, number := range numbers {
			for at := range 7 {
				for _, list := range [][]int{make([]int, 7), {1, -1, 3, 0, 0, 2, 1}, alike(greatestInList, 7), alike(leastInList, 7)} {
					list[at] = number
					checkRestore(t, order, list)
				}
			}
		}
	}
}

// A number that is restored may be at an end, but not beyond it: each residue at the place asked is tried around it.
func TestRestoreAtTheEnds(t *testing.T) {
	r := rand.New(rand.NewPCG(10, 3))
	for order := range 5 {
		for range 60 {
			list := someSoundList(r, 1+r.IntN(9))
			at := r.IntN(len(list))
			for _, end := range []int{leastInList, greatestInList} {
				list[at] = end
				residue := impl.Residue(order, list)
				for _, more := range []int{-1, 0, 1} {
					other := slices.Clone(residue[:at+1])
					other[at] += more
					got := checkRestore(t, order, other)
					within := end+more >= leastInList && end+more <= greatestInList
					if (len(got) > 0) != within || within && got[at] != end+more {
						t.Errorf("order %d, %d and %d: %v", order, end, more, got)
					}
				}
			}
		}
	}
}

// By order 3 and 4 numbers come that are far beyond an int, if nobody looks.
func TestRestoreOfListsThatRunAway(t *testing.T) {
	r := rand.New(rand.NewPCG(10, 4))
	for order := 1; order <= 4; order++ {
		for _, first := range []int{1, -1, 70000, -2147483648, 2147483647} {
			list := append(make([]int, 4), alike(first, 3996)...)
			if got := checkRestore(t, order, list); len(got) > 0 && (order > 2 || magnitude(first) > 1) {
				t.Errorf("order %d, on by %d: %d numbers", order, first, len(got))
			}
		}
		for range 200 {
			checkRestore(t, order, someNoise(r, 1+r.IntN(300), []int{1, 1000, 1 << 20, 1 << 31}[r.IntN(4)]))
		}
	}
}

func TestRestoreOfSomeLists(t *testing.T) {
	r := rand.New(rand.NewPCG(10, 5))
	met := map[string]int{}
	for range 4000 {
		list := someSoundList(r, 1+r.IntN(12))
		order := r.IntN(5)
		met["order "+strconv.Itoa(order)+", restored "+strconv.FormatBool(len(checkRestore(t, order, list)) > 0)]++
	}
	if len(met) != 9 {
		t.Errorf("%v", met)
	}
}
