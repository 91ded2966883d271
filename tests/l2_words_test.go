package tests

import (
	"math"
	"math/rand/v2"
	"slices"
	"strings"
	"testing"

	"loop.example/g00016/impl"
)

// wordsByOrder follows the document's words: symbol by symbol in order of (length, symbol).
func wordsByOrder(lengths []int) []int {
	words := make([]int, len(lengths))
	word, last := 0, 0
	for length := 1; length <= impl.MaxCode; length++ {
		for symbol := range lengths {
			if lengths[symbol] != length {
				continue
			}
			if last > 0 {
				word = (word + 1) << (length - last)
			}
			words[symbol], last = word, length
		}
	}
	return words
}

// wordTexts has each word as a text of 0 and 1, the empty text for symbols without one.
func wordTexts(lengths []int) []string {
	texts := make([]string, len(lengths))
	for symbol, word := range wordsByOrder(lengths) {
		for i := lengths[symbol] - 1; i >= 0; i-- {
			texts[symbol] += string(rune('0' + word>>i&1))
		}
	}
	return texts
}

// kindByShares goes by the document's sum.
func kindByShares(lengths []int) int {
	k := sharesOf(lengths)
	switch {
	case k == 0 || k > 32768:
		return 0
	case k < 32768:
		return 1
	}
	return 2
}

// someLengths are those of a code, whole or not; some lists are of no code.
func someLengths(r *rand.Rand) []int {
	lengths := make([]int, 1+r.IntN(40))
	for i := range lengths {
		lengths[i] = r.IntN(impl.MaxCode+1) * r.IntN(2)
	}
	if r.IntN(2) == 0 {
		for i := range lengths {
			lengths[i] = r.IntN(50)
		}
		lengths = impl.CodeLengths(lengths, 7+r.IntN(9))
	}
	if r.IntN(3) == 0 {
		lengths[r.IntN(len(lengths))] = 0
	}
	return lengths
}

// steps are the lengths of a code of one word of each length up to most, and one more of most.
func steps(most int) []int {
	var lengths []int
	for length := 1; length <= most; length++ {
		lengths = append(lengths, length)
	}
	return append(lengths, most)
}

func TestKindByHand(t *testing.T) {
	for _, c := range []struct {
		lengths []int
		kind    int
	}{
		{nil, 0},
		{[]int{0}, 0},
		{[]int{0, 0, 0, 0}, 0},
		{[]int{1}, 1},
		{[]int{0, 1, 0}, 1},
		{[]int{15}, 1},
		{[]int{1, 1}, 2},
		{[]int{1, 0, 0, 1}, 2},
		{[]int{1, 1, 15}, 0},
		{[]int{1, 1, 1}, 0},
		{[]int{1, 2}, 1},
		{[]int{1, 2, 2}, 2},
		{[]int{2, 2, 1}, 2},
		{[]int{2, 2, 1, 15}, 0},
		{[]int{2, 2, 2}, 1},
		{steps(15), 2},
		{steps(15)[1:], 1},
		{steps(15)[:15], 1},
		{append(steps(15), 15), 0},
		{[]int{16}, 0},
		{[]int{1, 16}, 0},
		{[]int{16, 1, 1}, 0},
		{[]int{1, 1, 16}, 0},
		{[]int{-1}, 0},
		{[]int{1, -1}, 0},
		{[]int{1, 1, -1}, 0},
		{[]int{1, 1, math.MinInt}, 0},
		{[]int{1, 1, math.MaxInt}, 0},
		{[]int{1, 1, 64}, 0},
		{alike(1, 300), 0},
		{alike(9, 300), 1},
		{alike(15, 300), 1},
		{alike(8, 300), 0},
		{alike(8, 256), 2},
		{alike(8, 257), 0},
		{append(alike(9, 88), alike(8, 212)...), 2},
		{append(alike(9, 88), alike(8, 213)...), 0},
		{append(alike(0, 299), 1), 1},
		{append(alike(0, 298), 1, 1), 2},
		{append(alike(0, 299), 1, 1), 0},
		{alike(15, 301), 0},
		{append(alike(0, 300), 1), 0},
	} {
		if kind := impl.CodeKind(c.lengths); kind != c.kind {
			t.Errorf("CodeKind(%v) = %d, not %d", c.lengths, kind, c.kind)
		}
	}
}

func TestWordsByHand(t *testing.T) {
	for _, c := range []struct {
		lengths, words []int
	}{
		{[]int{1}, []int{0}},
		{[]int{0, 0, 5}, []int{0, 0, 0}},
		{[]int{15}, []int{0}},
		{[]int{1, 1}, []int{0, 1}},
		{[]int{2, 1}, []int{2, 0}},
		{[]int{3, 3, 3}, []int{0, 1, 2}},
		{[]int{4, 0, 2, 4}, []int{4, 0, 0, 5}},
		{[]int{2, 4, 2, 0, 4}, []int{0, 8, 1, 0, 9}},
		{[]int{1, 15}, []int{0, 16384}},
		{[]int{15, 1}, []int{16384, 0}},
		{[]int{3, 3, 3, 3, 3, 2, 4, 4}, []int{2, 3, 4, 5, 6, 0, 14, 15}},
		{steps(15), []int{0, 2, 6, 14, 30, 62, 126, 254, 510, 1022, 2046, 4094, 8190, 16382, 32766, 32767}},
		{append(alike(0, 298), 1, 1), append(alike(0, 299), 1)},
	} {
		got := impl.CodeWords(c.lengths)
		if !slices.Equal(got, c.words) {
			t.Errorf("CodeWords(%v) = %v, not %v", c.lengths, got, c.words)
		}
	}
}

func TestWordsOfNoCode(t *testing.T) {
	for _, lengths := range [][]int{
		nil, {0}, {0, 0}, {1, 1, 1}, {1, 1, 15}, {1, 16}, {1, -1}, {math.MaxInt}, {1, math.MinInt},
		append(alike(0, 300), 1), alike(8, 257), append(steps(15), 15),
	} {
		if words := impl.CodeWords(lengths); len(words) > 0 {
			t.Errorf("CodeWords(%v) = %v", lengths, words)
		}
	}
}

func TestWordsAreInOrderAndBeginNoOther(t *testing.T) {
	r := rand.New(rand.NewPCG(2, 5))
	kinds := [3]int{}
	for range 3000 {
		lengths := someLengths(r)
		was := slices.Clone(lengths)
		kind := kindByShares(lengths)
		kinds[kind]++
		if got := impl.CodeKind(lengths); got != kind {
			t.Fatalf("CodeKind(%v) = %d, not %d", lengths, got, kind)
		}
		var want []int
		if kind > 0 {
			want = wordsByOrder(lengths)
		}
		words := impl.CodeWords(lengths)
		if !slices.Equal(words, want) {
			t.Fatalf("CodeWords(%v) = %v, not %v", lengths, words, want)
		}
		if kind > 0 {
			checkNoWordBeginsAnother(t, lengths, words)
		}
		if !slices.Equal(lengths, was) {
			t.Fatalf("the lengths were written: %v", lengths)
		}
	}
	if slices.Min(kinds[:]) < 100 {
		t.Errorf("too few of a kind: %v", kinds)
	}
}

func checkNoWordBeginsAnother(t *testing.T, lengths []int, words []int) {
	t.Helper()
	for i, a := range lengths {
		if words[i] < 0 || words[i] >= 1<<a {
			t.Fatalf("lengths %v: the word %d has no %d bits", lengths, words[i], a)
		}
		for j, b := range lengths {
			if i != j && a > 0 && a <= b && words[j]>>(b-a) == words[i] {
				t.Fatalf("lengths %v: the word of %d begins that of %d", lengths, i, j)
			}
		}
	}
}

func TestWordsAreNewMemory(t *testing.T) {
	lengths := []int{2, 1, 2, 1, 1}
	clear(impl.CodeWords(lengths[:3]))
	if words := impl.CodeWords(lengths[:3]); !slices.Equal(words, []int{2, 0, 3}) {
		t.Errorf("CodeWords = %v", words)
	}
	if impl.CodeKind(lengths[:3]) != 2 || impl.CodeCost([]int{1, 1, 1}, lengths[:3]) != 5 {
		t.Error("what lies behind the length counted")
	}
	if !slices.Equal(lengths, []int{2, 1, 2, 1, 1}) {
		t.Errorf("the lengths were written: %v", lengths)
	}
}

func TestCostByHand(t *testing.T) {
	const most = 1000000000
	for _, c := range []struct {
		counts, lengths []int
		cost            int
	}{
		{nil, nil, 0},
		{[]int{0}, []int{0}, 0},
		{[]int{7}, []int{0}, 0},
		{[]int{0}, []int{15}, 0},
		{[]int{7}, []int{15}, 105},
		{[]int{1, 2, 3}, []int{4, 5, 6}, 32},
		{[]int{5, 5, 5}, []int{1, 1, 1}, 15},
		{[]int{most}, []int{15}, 15 * most},
		{alike(most, 300), alike(15, 300), 300 * 15 * most},
		{alike(1, 300), alike(1, 300), 300},
		{[]int{1}, nil, -1},
		{nil, []int{1}, -1},
		{[]int{1, 2}, []int{1}, -1},
		{[]int{1}, []int{1, 1}, -1},
		{[]int{1, 0}, []int{1}, -1},
		{[]int{most + 1}, []int{1}, -1},
		{[]int{most + 1}, []int{0}, -1},
		{[]int{-1}, []int{1}, -1},
		{[]int{-1}, []int{0}, -1},
		{[]int{1, 2, -1}, []int{1, 2, 2}, -1},
		{[]int{math.MaxInt, 1}, []int{1, 1}, -1},
		{[]int{math.MinInt, 1}, []int{1, 1}, -1},
		{[]int{1, 1}, []int{1, 16}, -1},
		{[]int{1, 0}, []int{1, 16}, -1},
		{[]int{1, 1}, []int{-1, 1}, -1},
		{[]int{0, 1}, []int{-1, 1}, -1},
		{[]int{1}, []int{math.MaxInt}, -1},
		{[]int{1}, []int{math.MinInt}, -1},
		{alike(1, 301), alike(9, 301), -1},
		{alike(0, 301), alike(0, 301), -1},
	} {
		counts, lengths := slices.Clone(c.counts), slices.Clone(c.lengths)
		if cost := impl.CodeCost(counts, lengths); cost != c.cost {
			t.Errorf("CodeCost(%v, %v) = %d, not %d", c.counts, c.lengths, cost, c.cost)
		}
		if !slices.Equal(counts, c.counts) || !slices.Equal(lengths, c.lengths) {
			t.Errorf("CodeCost wrote its arguments: %v %v", counts, lengths)
		}
	}
}

func TestCostIsTheBitsThatAreWritten(t *testing.T) {
	r := rand.New(rand.NewPCG(2, 6))
	for range 200 {
		list := make([]int, 1+r.IntN(400))
		counts := make([]int, 30)
		for i := range list {
			list[i] = min(r.IntN(30), r.IntN(30), r.IntN(30))
			counts[list[i]]++
		}
		lengths := impl.CodeLengths(counts, 8)
		texts, bits := wordTexts(lengths), 0
		for _, symbol := range list {
			bits += len(texts[symbol])
		}
		if cost := impl.CodeCost(counts, lengths); cost != bits {
			t.Fatalf("CodeCost of %v and %v: %d, not %d", counts, lengths, cost, bits)
		}
	}
}

// TestWordTexts holds the tests' own words against some written by hand.
func TestWordTexts(t *testing.T) {
	if got := strings.Join(wordTexts([]int{3, 1, 0, 3, 2}), " "); got != "110 0  111 10" {
		t.Errorf("%q", got)
	}
}
