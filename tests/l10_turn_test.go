package tests

import (
	"math/rand/v2"
	"slices"
	"testing"

	"loop.example/g00016/impl"
)

// A pairing is Turn, Unturn or a slow one.
type pairing func(way int, a []int, b []int) ([]int, []int)

func mayBePaired(way int, a []int, b []int, least int, most int) bool {
	return way >= 0 && way <= 2 && len(a) == len(b) && allWithin(a, least, most) && allWithin(b, least, most)
}

func slowTurn(way int, a []int, b []int) ([]int, []int) {
	if !mayBePaired(way, a, b, leastInList, greatestInList) {
		return nil, nil
	}
	var first, second []int
	for i := range a {
		first = append(first, []int{a[i], a[i], floorOf(a[i]+b[i], 2)}[way])
		second = append(second, []int{b[i], a[i] - b[i], a[i] - b[i]}[way])
	}
	return first, second
}

// slowUnturn tries the numbers that may be told so: where the second one is a difference, both sums that have that mean.
func slowUnturn(way int, a []int, b []int) ([]int, []int) {
	if !mayBePaired(way, a, b, -268435456, 268435455) {
		return nil, nil
	}
	var first, second []int
	for i := range a {
		tries := [][2]int{{a[i], b[i]}, {a[i], a[i] - b[i]}}
		for _, sum := range []int{2 * a[i], 2*a[i] + 1} {
			tries = append(tries, [2]int{floorOf(sum+b[i], 2), floorOf(sum-b[i], 2)})
		}
		at := slices.IndexFunc(tries, func(try [2]int) bool {
			x, y := slowTurn(way, try[:1], try[1:])
			return len(x) > 0 && x[0] == a[i] && y[0] == b[i]
		})
		if at < 0 {
			return nil, nil
		}
		first, second = append(first, tries[at][0]), append(second, tries[at][1])
	}
	return first, second
}

// pairMade turns two lists amid other memory twice.
func pairMade(t *testing.T, way int, a []int, b []int, turn pairing) ([]int, []int) {
	t.Helper()
	around, handed := amidLists([][]int{a, b}, 77777777)
	was := cloneLists(around)
	x, y := turn(way, handed[0], handed[1])
	again, other := turn(way, handed[0], handed[1])
	if !sameLists(around, was) || !slices.Equal(x, again) || !slices.Equal(y, other) {
		t.Fatalf("way %d of %v and %v: an argument was written, or two calls are not alike", way, a, b)
	}
	kept := cloneLists([][]int{x, y})
	checkApart(t, "a pair", around, x, y, again, other)
	return kept[0], kept[1]
}

func checkPair(t *testing.T, what string, way int, a []int, b []int, turn pairing, slow pairing) ([]int, []int) {
	t.Helper()
	x, y := pairMade(t, way, a, b, turn)
	wantX, wantY := slow(way, a, b)
	if !slices.Equal(x, wantX) || !slices.Equal(y, wantY) {
		t.Fatalf("%s, way %d of %v and %v\n%v and %v, not\n%v and %v", what, way, a, b, x, y, wantX, wantY)
	}
	return x, y
}

// checkPaired asks for the way back, too.
func checkPaired(t *testing.T, way int, a []int, b []int) {
	t.Helper()
	x, y := checkPair(t, "Turn", way, a, b, impl.Turn, slowTurn)
	if !mayBePaired(way, a, b, leastInList, greatestInList) {
		if len(x) > 0 || len(y) > 0 {
			t.Fatalf("Turn, way %d of %v and %v: %v and %v", way, a, b, x, y)
		}
		return
	}
	if backA, backB := checkUnpaired(t, way, x, y); !slices.Equal(backA, a) || !slices.Equal(backB, b) {
		t.Fatalf("way %d of %v and %v: %v and %v, and back %v and %v", way, a, b, x, y, backA, backB)
	}
}

func checkUnpaired(t *testing.T, way int, x []int, y []int) ([]int, []int) {
	t.Helper()
	return checkPair(t, "Unturn", way, x, y, impl.Unturn, slowUnturn)
}

func TestTurnByHand(t *testing.T) {
	a, b := []int{5, -3, -1, 0, 7}, []int{2, 4, 0, -1, 7}
	for way, want := range [][2][]int{
		{{5, -3, -1, 0, 7}, {2, 4, 0, -1, 7}},
		{{5, -3, -1, 0, 7}, {3, -7, -1, 1, 0}},
		{{3, 0, -1, -1, 7}, {3, -7, -1, 1, 0}},
	} {
		x, y := impl.Turn(way, a, b)
		if !slices.Equal(x, want[0]) || !slices.Equal(y, want[1]) {
			t.Errorf("way %d: %v and %v", way, x, y)
		}
		x, y = impl.Unturn(way, x, y)
		if !slices.Equal(x, a) || !slices.Equal(y, b) {
			t.Errorf("way %d, back: %v and %v", way, x, y)
		}
	}
}

func TestTurnOfSmallNumbers(t *testing.T) {
	for way := range 3 {
		for a := -9; a <= 9; a++ {
			for b := -9; b <= 9; b++ {
				checkPaired(t, way, []int{a}, []int{b})
				// All pairs are what some numbers are turned to.
				if x, y := checkUnpaired(t, way, []int{a}, []int{b}); len(x) != 1 || len(y) != 1 {
					t.Errorf("way %d of %d and %d: %v and %v", way, a, b, x, y)
				}
			}
		}
	}
}

func TestTurnAtTheEnds(t *testing.T) {
	numbers := around(2, leastInList, greatestInList, leastInList/2, greatestInList/2, 0)
	for way := range 3 {
		for _, a := range numbers {
			for _, b := range numbers {
				checkPaired(t, way, []int{a}, []int{b})
			}
		}
	}
}

func TestUnturnAtTheEnds(t *testing.T) {
	numbers := around(2, -1<<28, -1<<27, -1<<26, -1<<25, 0, 1<<25, 1<<26, 1<<27, 1<<28)
	met := map[bool]int{}
	for way := range 3 {
		for _, a := range numbers {
			for _, b := range numbers {
				x, _ := checkUnpaired(t, way, []int{a}, []int{b})
				met[len(x) > 0]++
			}
		}
	}
	if met[true] < 1000 || met[false] < 1000 {
		t.Errorf("%v", met)
	}
}

// A number that may not be takes the answer from all the others.
func TestTurnOfNumbersBeyondTheEnds(t *testing.T) {
	numbers := append(slices.Clone(extremes()), around(1, leastInList, greatestInList, -1<<28, 1<<28-1)...)
	for way := range 3 {
		for _, number := range numbers {
			for at := range 4 {
				for side := range 2 {
					lists := [][]int{{1, 2, 3, 4}, {-4, 3, 2, 0}}
					lists[side][at] = number
					checkPaired(t, way, lists[0], lists[1])
					checkUnpaired(t, way, lists[0], lists[1])
				}
			}
		}
	}
}

func TestTurnOfOtherWays(t *testing.T) {
	for _, way := range append(slices.Clone(farNumbers), -2, -1, 3, 4, 256, 257, 258) {
		for _, list := range [][]int{nil, {0}, {1, 2, 3}} {
			checkPaired(t, way, list, list)
			if x, y := checkUnpaired(t, way, list, list); len(x) > 0 || len(y) > 0 {
				t.Errorf("way %d: %v and %v", way, x, y)
			}
		}
	}
}

func TestTurnOfUnlikeLengths(t *testing.T) {
	for way := range 3 {
		for a := range 5 {
			for b := range 5 {
				checkPaired(t, way, alike(3, a), alike(-4, b))
				if x, y := checkUnpaired(t, way, alike(3, a), alike(-4, b)); len(x) != len(y) || a != b && len(x) > 0 {
					t.Errorf("way %d of %d and %d numbers: %v and %v", way, a, b, x, y)
				}
			}
		}
	}
}

func TestTurnOfManyNumbers(t *testing.T) {
	r := rand.New(rand.NewPCG(10, 10))
	for way := range 3 {
		for _, many := range []int{3999, 4000, 4001, 8000} {
			a, b := someNoise(r, many, 1<<26-1), someNoise(r, many, 1<<26-1)
			checkPaired(t, way, a, b)
			if x, y := checkUnpaired(t, way, alike(1, many), alike(1, many)); many > 4000 && (len(x) > 0 || len(y) > 0) {
				t.Errorf("way %d of %d numbers: %d and %d", way, many, len(x), len(y))
			}
		}
	}
}

func TestTurnOfSomeLists(t *testing.T) {
	r := rand.New(rand.NewPCG(10, 11))
	for range 2000 {
		many := r.IntN(20)
		checkPaired(t, r.IntN(3), someSoundList(r, many), someSoundList(r, many))
		far := []int{100, 1 << 26, 1 << 27, 1<<28 - 1}[r.IntN(4)]
		checkUnpaired(t, r.IntN(3), someNoise(r, many, far), someNoise(r, many, far))
	}
}

// The same memory may be handed in twice.
func TestTurnOfAListAndItself(t *testing.T) {
	for way := range 3 {
		list := []int{3, -4, 5}
		x, y := impl.Turn(way, list, list)
		wantX, wantY := slowTurn(way, []int{3, -4, 5}, []int{3, -4, 5})
		if !slices.Equal(x, wantX) || !slices.Equal(y, wantY) {
			t.Errorf("way %d: %v and %v", way, x, y)
		}
		checkApart(t, "Turn of a list and itself", [][]int{list}, x, y)
		x, y = impl.Unturn(way, list, list)
		checkApart(t, "Unturn of a list and itself", [][]int{list}, x, y)
	}
}
