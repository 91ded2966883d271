package tests

import (
	"math"
	"math/rand/v2"
	"slices"
	"testing"

	"loop.example/g00016/impl"
)

// mark is a coin or a pair of the document's rows; it says by itself how often it holds each symbol's coin.
type mark struct {
	worth, place int
	pair         bool
	coins        map[int]int
}

func marksInOrder(a, b mark) int {
	switch {
	case a.worth != b.worth:
		return a.worth - b.worth
	case a.pair != b.pair && a.pair:
		return 1
	case a.pair != b.pair:
		return -1
	}
	return a.place - b.place
}

func pairOf(a, b mark, place int) mark {
	p := mark{worth: a.worth + b.worth, place: place, pair: true, coins: map[int]int{}}
	for _, m := range []mark{a, b} {
		for symbol, n := range m.coins {
			p.coins[symbol] += n
		}
	}
	return p
}

// lengthsByRows goes by the document's words for lists that are valid; it does nothing in a short way.
func lengthsByRows(counts []int, limit int) []int {
	var coins []mark
	for symbol, count := range counts {
		if count > 0 {
			coins = append(coins, mark{worth: count, place: symbol, coins: map[int]int{symbol: 1}})
		}
	}
	slices.SortFunc(coins, marksInOrder)
	for place := range coins {
		coins[place].place = place
	}
	lengths := make([]int, len(counts))
	if len(coins) == 1 {
		for symbol := range coins[0].coins {
			lengths[symbol] = 1
		}
	}
	row := slices.Clone(coins)
	for range limit - 1 {
		next := slices.Clone(coins)
		for i := 1; i < len(row); i += 2 {
			next = append(next, pairOf(row[i-1], row[i], i/2))
		}
		slices.SortFunc(next, marksInOrder)
		row = next
	}
	for i := range 2*len(coins) - 2 {
		for symbol, n := range row[i].coins {
			lengths[symbol] += n
		}
	}
	return lengths
}

func costOf(counts []int, lengths []int) int {
	cost := 0
	for i := range counts {
		cost += counts[i] * lengths[i]
	}
	return cost
}

// sharesOf is how many words of MaxCode bits begin with one of the code's.
func sharesOf(lengths []int) int {
	shares := 0
	for _, length := range lengths {
		if length > 0 {
			shares += 1 << (impl.MaxCode - length)
		}
	}
	return shares
}

// leastCost goes over all codes for counts that are all above 0.
func leastCost(counts []int, limit int) int {
	least := math.MaxInt
	lengths := make([]int, len(counts))
	var try func(at int)
	try = func(at int) {
		if at == len(lengths) {
			if sharesOf(lengths) <= 1<<impl.MaxCode {
				least = min(least, costOf(counts, lengths))
			}
			return
		}
		for length := 1; length <= limit; length++ {
			lengths[at] = length
			try(at + 1)
		}
	}
	try(0)
	return least
}

func alike(count int, many int) []int {
	return slices.Repeat([]int{count}, many)
}

func checkLengths(t *testing.T, counts []int, limit int, want []int) {
	t.Helper()
	was := slices.Clone(counts)
	got := impl.CodeLengths(counts, limit)
	if !slices.Equal(got, want) {
		t.Errorf("CodeLengths(%v, %d) = %v, not %v", was, limit, got, want)
	}
	if !slices.Equal(counts, was) {
		t.Errorf("CodeLengths wrote its counts: %v were %v", counts, was)
	}
}

func TestLengthsByHand(t *testing.T) {
	for _, c := range []struct {
		counts []int
		limit  int
		want   []int
	}{
		{nil, 1, nil},
		{nil, 15, nil},
		{[]int{0}, 7, []int{0}},
		{[]int{0, 0, 0}, 1, []int{0, 0, 0}},
		{[]int{1}, 1, []int{1}},
		{[]int{1}, 15, []int{1}},
		{[]int{0, 0, 1000000000}, 15, []int{0, 0, 1}},
		{[]int{7, 0, 0}, 2, []int{1, 0, 0}},
		{[]int{3, 4}, 1, []int{1, 1}},
		{[]int{1, 1000000000}, 15, []int{1, 1}},
		{[]int{0, 9, 0, 1, 0}, 4, []int{0, 1, 0, 1, 0}},
		{[]int{8, 4, 2, 1}, 3, []int{1, 2, 3, 3}},
		{[]int{1, 2, 4, 8}, 15, []int{3, 3, 2, 1}},
		{[]int{8, 0, 4, 0, 2, 1}, 2, []int{2, 0, 2, 0, 2, 2}},
		{[]int{4, 4, 4, 4}, 15, []int{2, 2, 2, 2}},
		{[]int{1000000000, 1000000000, 1000000000}, 2, []int{2, 2, 1}},
		{[]int{1, 1, 2, 3, 5, 8, 13, 21}, 15, []int{7, 7, 6, 5, 4, 3, 2, 1}},
		{[]int{21, 13, 8, 5, 3, 2, 1, 1}, 7, []int{1, 2, 3, 4, 5, 6, 7, 7}},
		{[]int{1, 1, 2, 3, 5, 8, 13, 21}, 6, []int{6, 6, 5, 4, 3, 2, 2, 2}},
		{[]int{1, 1, 2, 3, 5, 8, 13, 21}, 3, []int{3, 3, 3, 3, 3, 3, 3, 3}},
	} {
		checkLengths(t, c.counts, c.limit, c.want)
	}
}

// TestLengthsOfEqualWorths has counts whose lengths would be others if any of the ties went the other way.
func TestLengthsOfEqualWorths(t *testing.T) {
	for _, c := range []struct {
		why    string
		counts []int
		limit  int
		want   []int
	}{
		{"a coin goes ahead of a pair", []int{1, 1, 2, 2}, 3, []int{2, 2, 2, 2}},
		{"a coin goes ahead of a pair, whatever its symbol", []int{2, 2, 1, 1}, 15, []int{2, 2, 2, 2}},
		{"a coin goes ahead of a pair in a later row", []int{1, 1, 1, 1, 4, 4}, 5, []int{3, 3, 3, 3, 2, 2}},
		{"two coins go by their symbols", []int{1, 1, 1}, 4, []int{2, 2, 1}},
		{"two coins go by their symbols behind a lesser one", []int{5, 5, 1, 5}, 2, []int{2, 2, 2, 2}},
		{"two coins of three go by their symbols", []int{5, 5, 1}, 3, []int{2, 1, 2}},
		{"two pairs go by their places", []int{1, 1, 1, 1, 1}, 3, []int{3, 3, 2, 2, 2}},
		{"two pairs go by their places in every row", []int{1, 1, 1, 1, 1}, 15, []int{3, 3, 2, 2, 2}},
		{"pairs and coins of six", []int{9, 9, 9, 9, 9, 9}, 15, []int{3, 3, 3, 3, 2, 2}},
	} {
		if want := lengthsByRows(c.counts, c.limit); !slices.Equal(want, c.want) {
			t.Errorf("%s: the rows give %v", c.why, want)
		}
		checkLengths(t, c.counts, c.limit, c.want)
	}
}

func TestLengthsAreThoseOfTheRows(t *testing.T) {
	r := rand.New(rand.NewPCG(2, 1))
	for n := range 4000 {
		counts := make([]int, r.IntN(20))
		for i := range counts {
			counts[i] = r.IntN(1 + n%9)
		}
		least := 1
		for 1<<least < len(counts) {
			least++
		}
		for limit := least; limit <= impl.MaxCode; limit++ {
			if got, want := impl.CodeLengths(counts, limit), lengthsByRows(counts, limit); !slices.Equal(got, want) {
				t.Fatalf("CodeLengths(%v, %d) = %v, not %v", counts, limit, got, want)
			}
		}
	}
}

func TestLengthsOfManySymbolsAreThoseOfTheRows(t *testing.T) {
	r := rand.New(rand.NewPCG(2, 2))
	for n := range 40 {
		counts := make([]int, impl.MaxSymbols-n)
		for i := range counts {
			counts[i] = int(1000000000 >> r.IntN(31))
		}
		for _, limit := range []int{9, 10, 15} {
			if got, want := impl.CodeLengths(counts, limit), lengthsByRows(counts, limit); !slices.Equal(got, want) {
				t.Fatalf("CodeLengths(%v, %d) = %v, not %v", counts, limit, got, want)
			}
		}
	}
}

// TestLengthsCostLeast counts over all codes there are.
func TestLengthsCostLeast(t *testing.T) {
	r := rand.New(rand.NewPCG(2, 3))
	lists := [][]int{{1, 1, 2, 3, 5}, {1, 2, 4, 8, 16}, {1, 1, 2, 3, 5, 8}, {1000000000, 1, 1, 1}, {1, 1, 1, 1, 4, 4}}
	for n := range 120 {
		counts := make([]int, 1+n%5)
		for i := range counts {
			counts[i] = 1 + r.IntN(1<<(n%7))
		}
		lists = append(lists, counts)
	}
	for _, counts := range lists {
		for limit := 1; limit <= 6; limit++ {
			if len(counts) > 1<<limit {
				continue
			}
			lengths := impl.CodeLengths(counts, limit)
			if least := leastCost(counts, limit); len(lengths) != len(counts) || costOf(counts, lengths) != least {
				t.Fatalf("CodeLengths(%v, %d) = %v, and %d is the least cost", counts, limit, lengths, least)
			}
		}
	}
}

func TestLengthsKeepTheLimitAndAreWhole(t *testing.T) {
	r := rand.New(rand.NewPCG(2, 4))
	for n := range 600 {
		counts := make([]int, 2+r.IntN(impl.MaxSymbols-1))
		for i := range counts {
			counts[i] = int(1000000000>>r.IntN(31)) * r.IntN(2)
		}
		counts[0], counts[1] = 1, 1+n
		for limit := 9; limit <= impl.MaxCode; limit++ {
			lengths := impl.CodeLengths(counts, limit)
			if len(lengths) != len(counts) || sharesOf(lengths) != 1<<impl.MaxCode || impl.CodeKind(lengths) != 2 {
				t.Fatalf("CodeLengths(%v, %d) = %v, no whole code", counts, limit, lengths)
			}
			for i, length := range lengths {
				if length > limit || (length > 0) != (counts[i] > 0) {
					t.Fatalf("CodeLengths(%v, %d) has %d for symbol %d", counts, limit, length, i)
				}
			}
		}
	}
}

// TestLengthsOfALimitThatIsPassed has counts each as great as all ahead together: without a limit their
// code grows by a bit for each.
func TestLengthsOfALimitThatIsPassed(t *testing.T) {
	counts := make([]int, 29)
	for i := range counts {
		counts[i] = 1 << i
	}
	for many := 2; many <= len(counts); many++ {
		for limit := 5; limit <= impl.MaxCode; limit++ {
			lengths := impl.CodeLengths(counts[:many], limit)
			if longest := slices.Max(lengths); longest != min(limit, many-1) {
				t.Errorf("%d counts by a limit of %d: the longest has %d bits", many, limit, longest)
			}
			if want := lengthsByRows(counts[:many], limit); !slices.Equal(lengths, want) {
				t.Errorf("CodeLengths(%v, %d) = %v, not %v", counts[:many], limit, lengths, want)
			}
		}
	}
}

func TestLengthsOfAsManyAsTheLimitHolds(t *testing.T) {
	for limit := 1; limit <= 8; limit++ {
		many := 1 << limit
		counts := make([]int, impl.MaxSymbols)
		want := make([]int, impl.MaxSymbols)
		for i := range many {
			counts[impl.MaxSymbols-1-i] = 1 + i*i
			want[impl.MaxSymbols-1-i] = limit
		}
		checkLengths(t, counts, limit, want)
		counts[0] = 1
		checkLengths(t, counts, limit, nil)
		if lengths := impl.CodeLengths(counts, limit+1); len(lengths) != impl.MaxSymbols {
			t.Errorf("one more by a limit of one more: %v", lengths)
		}
	}
	checkLengths(t, []int{1, 1}, 1, []int{1, 1})
	checkLengths(t, []int{1, 1, 1}, 1, nil)
	checkLengths(t, []int{1, 0, 1, 0}, 1, []int{1, 0, 1, 0})
}

func TestLengthsAtTheirLimits(t *testing.T) {
	if impl.MaxSymbols != 300 || impl.MaxCode != 15 {
		t.Errorf("MaxSymbols is %d, MaxCode %d", impl.MaxSymbols, impl.MaxCode)
	}
	// 212 words of 8 bits and 88 of 9 are a whole code: 2 * 212 + 88 is 512.
	checkLengths(t, alike(1, 300), 15, append(alike(9, 88), alike(8, 212)...))
	checkLengths(t, alike(1000000000, 300), 9, append(alike(9, 88), alike(8, 212)...))
	checkLengths(t, alike(0, 300), 15, alike(0, 300))
	checkLengths(t, alike(0, 301), 15, nil)
	checkLengths(t, alike(1, 301), 15, nil)
	checkLengths(t, append(alike(0, 300), 1), 15, nil)
	for _, limit := range []int{0, -1, 16, 17, 62, 63, 64, 65, 1000, math.MinInt, math.MaxInt} {
		checkLengths(t, []int{1}, limit, nil)
		checkLengths(t, []int{0, 0}, limit, nil)
		checkLengths(t, []int{1, 2, 3}, limit, nil)
	}
	for _, bad := range []int{-1, 1000000001, math.MinInt, math.MaxInt} {
		for _, counts := range [][]int{{bad}, {bad, 1}, {1, bad}, {0, bad, 0}, {1, 2, bad, 3}} {
			checkLengths(t, counts, 15, nil)
			checkLengths(t, counts, 1, nil)
		}
	}
	checkLengths(t, []int{1000000000}, 1, []int{1})
	checkLengths(t, []int{1000000000, 0}, 1, []int{1, 0})
	checkLengths(t, []int{1000000000, 999999999, 1000000000}, 2, []int{2, 2, 1})
}

func TestLengthsAreNewMemory(t *testing.T) {
	counts := []int{4, 3, 2, 1, 9, 9}
	first := impl.CodeLengths(counts[:4], 5)
	if !slices.Equal(first, []int{1, 2, 3, 3}) {
		t.Errorf("what lies behind the length counted: %v", first)
	}
	clear(impl.CodeLengths(counts[:4], 5))
	clear(first)
	if !slices.Equal(impl.CodeLengths(counts[:4], 5), []int{1, 2, 3, 3}) || !slices.Equal(counts, []int{4, 3, 2, 1, 9, 9}) {
		t.Errorf("an answer shares memory: %v", counts)
	}
}
