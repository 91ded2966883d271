package tests

import (
	"bytes"
	"math"
	"math/rand/v2"
	"slices"
	"testing"

	"loop.example/g00016/impl"
)

// A teller tells words by the document's words, each as a text of bits with the lowest one first.
type teller struct {
	bits  int
	count int
	text  []byte
	told  []telling
}

// A telling is what was told at which count since the last clear.
type telling struct {
	number, count, width int
}

// widthOfWords has the least width for the number that the newest word has at that count.
func widthOfWords(bits int, count int) int {
	width := bits + 1
	for width < 12 && 1<<bits+1+count >= 1<<width {
		width++
	}
	return width
}

func (w *teller) put(number int) {
	width := widthOfWords(w.bits, w.count)
	w.told = append(w.told, telling{number, w.count, width})
	w.text = append(w.text, lowText(number, width)...)
}

func (w *teller) clear() {
	w.put(1 << w.bits)
	w.count = 0
}

func (w *teller) words(list ...int) {
	for _, word := range list {
		w.put(word)
		w.count++
	}
}

func (w *teller) end() []byte {
	w.put(1<<w.bits + 1)
	return w.data()
}

func (w *teller) data() []byte {
	return lowBytes(string(w.text))
}

func bitsOfNumber(n int) int {
	many := 0
	for ; n > 0; n /= 2 {
		many++
	}
	return many
}

func wordKey(numbers []int) string {
	key := make([]byte, len(numbers))
	for i, number := range numbers {
		key[i] = byte(number)
	}
	return string(key)
}

// slowTeller keeps the book as texts and looks for the longest word from the longest one there is downwards.
func slowTeller(bits int, list []int) *teller {
	w := &teller{bits: bits}
	var book map[string]int
	longest := 0
	start := func() {
		w.clear()
		book, longest = map[string]int{}, 1
		for number := range 1 << bits {
			book[wordKey([]int{number})] = number
		}
	}
	start()
	for len(list) > 0 {
		n := min(longest, len(list))
		for ; n > 1; n-- {
			if _, ok := book[wordKey(list[:n])]; ok {
				break
			}
		}
		w.words(book[wordKey(list[:n])])
		if made := 1<<bits + 1 + w.count; n < len(list) && made == 4096 {
			start()
		} else if n < len(list) {
			book[wordKey(list[:n+1])] = made
			longest = max(longest, n+1)
		}
		list = list[n:]
	}
	w.end()
	return w
}

func checkWords(t *testing.T, bits int, list []int) {
	t.Helper()
	was := slices.Clone(list)
	want := slowTeller(bits, was).data()
	packed := impl.WordsPack(bits, list)
	if !bytes.Equal(packed, want) {
		t.Fatalf("WordsPack(%d, %d numbers) has %d bytes, another string than the %d said", bits, len(list), len(packed), len(want))
	}
	kept := slices.Clone(packed)
	got := impl.WordsUnpack(bits, packed, len(list))
	if got.Err != 0 || got.Next != len(packed) || !slices.Equal(got.List, was) {
		t.Fatalf("bits %d: %d numbers are read with error %d as %d, %d of %d bytes", bits, len(list), got.Err, len(got.List), got.Next, len(packed))
	}
	if len(list) > 0 {
		if got := impl.WordsUnpack(bits, packed, len(list)-1); !sameSymbols(got, impl.Symbols{Err: impl.ErrMany}) {
			t.Fatalf("bits %d: %d numbers, one fewer asked for: error %d", bits, len(list), got.Err)
		}
	}
	if !slices.Equal(list, was) || !bytes.Equal(packed, kept) {
		t.Fatalf("bits %d: an argument was written", bits)
	}
}

// fullCount is how many words were told where the newest one would be MaxWords.
func fullCount(bits int) int {
	return 4096 - 1<<bits - 1
}

// A bookEntry is a word and what words it was made longer by.
type bookEntry struct {
	numbers []int
	longer  map[int]bool
}

func startEntries(bits int) [][]*bookEntry {
	heads := make([][]*bookEntry, 1<<bits)
	for number := range heads {
		heads[number] = []*bookEntry{{[]int{number}, map[int]bool{}}}
	}
	return heads
}

// shortWords has words that are as short as the book allows, so that few numbers fill it; each is the longest one that
// the numbers begin with there. Those of one head stand in order of their length.
func shortWords(bits int, words int) [][]int {
	var list [][]int
	heads, head, count := startEntries(bits), 0, 0
	for range words {
		word := heads[head][0]
		list = append(list, word.numbers)
		next := (head + len(word.longer)) % len(heads)
		for word.longer[next] {
			next = (next + 1) % len(heads)
		}
		word.longer[next] = true
		heads[head] = append(heads[head], &bookEntry{append(slices.Clone(word.numbers), next), map[int]bool{}})
		if len(word.longer) == len(heads) {
			heads[head] = heads[head][1:]
		}
		head = next
		count++
		if count == fullCount(bits) {
			heads, count = startEntries(bits), 0
		}
	}
	return list
}

func someList(r *rand.Rand, bits int, many int) []int {
	list := make([]int, many)
	letters := 1 + r.IntN(1<<bits)
	for i := range list {
		switch list[i] = r.IntN(letters); {
		case i > 0 && letters%3 == 0 && r.IntN(10) > 0:
			list[i] = list[i-1]
		case i > 9 && letters%3 == 1 && r.IntN(10) > 0:
			list[i] = list[i-9]
		}
	}
	return list
}

func TestBookLimits(t *testing.T) {
	if impl.MaxWords != 4096 || impl.MaxFrames != 40 {
		t.Errorf("%d %d", impl.MaxWords, impl.MaxFrames)
	}
}

func TestWordsPackByHand(t *testing.T) {
	for _, c := range []struct {
		bits int
		list []int
		text string
	}{
		{2, nil, "001" + "101"},
		{2, []int{3}, "001" + "110" + "101"},
		// The new words are 6 and 7; with 8 the width is 4.
		{2, []int{0, 1}, "001" + "000" + "100" + "101"},
		{2, []int{0, 1, 2}, "001" + "000" + "100" + "010" + "1010"},
		{2, []int{0, 0, 0}, "001" + "000" + "011" + "101"},
		{2, []int{0, 0, 0, 0}, "001" + "000" + "011" + "000" + "1010"},
		{2, []int{0, 0, 0, 0, 0, 0}, "001" + "000" + "011" + "111" + "1010"},
		{2, []int{0, 1, 0, 1}, "001" + "000" + "100" + "011" + "1010"},
		{2, []int{0, 1, 0, 1, 0, 1, 0}, "001" + "000" + "100" + "011" + "0001" + "1010"},
		{3, []int{7, 7, 7}, "0001" + "1110" + "0101" + "1001"},
		{8, []int{255}, "000000001" + "111111110" + "100000001"},
		{8, []int{1, 2, 1, 2}, "000000001" + "100000000" + "010000000" + "010000001" + "100000001"},
	} {
		if got, want := impl.WordsPack(c.bits, c.list), lowBytes(c.text); !bytes.Equal(got, want) {
			t.Errorf("WordsPack(%d, %v) = %08b, not %08b", c.bits, c.list, got, want)
		}
		checkWords(t, c.bits, c.list)
	}
}

func TestWordsPackOfBitsThatAreNone(t *testing.T) {
	for _, bits := range []int{math.MinInt, -2, -1, 0, 1, 9, 10, 12, 16, 63, 64, 65, math.MaxInt} {
		for _, list := range [][]int{nil, {0}, {0, 1, 0}} {
			if got := impl.WordsPack(bits, list); len(got) > 0 {
				t.Errorf("bits %d: %d bytes", bits, len(got))
			}
		}
	}
}

func TestWordsPackOfEachNumber(t *testing.T) {
	for bits := 2; bits <= 8; bits++ {
		for number := -3; number <= 300; number++ {
			good := number >= 0 && number < 1<<bits
			for _, list := range [][]int{{number}, {0, number, 0}, {number, 0, 0}, {1, 1, 1, number}} {
				if got := impl.WordsPack(bits, list); (len(got) > 0) != good {
					t.Errorf("bits %d: %v has %d bytes", bits, list, len(got))
				}
				if good {
					checkWords(t, bits, list)
				}
			}
		}
		for _, number := range []int{math.MinInt, math.MinInt + 1, -1 << 32, 1 << 32, 1<<32 + 1, math.MaxInt} {
			if got := impl.WordsPack(bits, []int{0, number}); len(got) > 0 {
				t.Errorf("bits %d: the number %d has %d bytes", bits, number, len(got))
			}
		}
	}
}

func TestWordsOfAllShortLists(t *testing.T) {
	for many := range 8 {
		for i := range 1 << (2 * many) {
			list := make([]int, many)
			for j := range list {
				list[j] = i >> (2 * j) & 3
			}
			checkWords(t, 2, list)
		}
	}
}

func TestWordsOfSomeLists(t *testing.T) {
	r := rand.New(rand.NewPCG(6, 1))
	for bits := 2; bits <= 8; bits++ {
		for range 120 {
			checkWords(t, bits, someList(r, bits, r.IntN(700)))
		}
		for range 3 {
			checkWords(t, bits, someList(r, bits, 5000+r.IntN(15001)))
		}
	}
}

func TestWordsOfAsManyNumbersAsMayBe(t *testing.T) {
	r := rand.New(rand.NewPCG(6, 2))
	for bits := 2; bits <= 8; bits++ {
		for _, list := range [][]int{make([]int, impl.MaxFields), alike(1<<bits-1, impl.MaxFields), someList(r, bits, impl.MaxFields)} {
			checkWords(t, bits, list)
			for _, more := range []int{1, 2, 1000} {
				if got := impl.WordsPack(bits, append(slices.Clone(list), make([]int, more)...)); len(got) > 0 {
					t.Errorf("bits %d: %d numbers more than may be have %d bytes", bits, more, len(got))
				}
			}
		}
	}
	// Words of one number each: more is told than there are numbers.
	list := slices.Concat(shortWords(8, 20000)...)[:impl.MaxFields]
	if w := slowTeller(8, list); len(w.told) < impl.MaxFields {
		t.Fatalf("%d told", len(w.told))
	}
	checkWords(t, 8, list)
}

func TestWordsOfRunsOfOneNumber(t *testing.T) {
	for bits := 2; bits <= 8; bits++ {
		for many := range 150 {
			for _, number := range []int{0, 1<<bits - 1} {
				list := alike(number, many)
				checkWords(t, bits, list)
				// In a run each word from the second on is told just when it is made, but for the last one at most.
				told := slowTeller(bits, list).told
				for i, w := range told[1:max(1, len(told)-2)] {
					if i > 0 && w.number != 1<<bits+1+w.count {
						t.Errorf("bits %d: of %d alike the word %d at %d", bits, many, w.number, w.count)
					}
				}
			}
		}
	}
}

// passingCounts are those at which the number of the newest word is the first one of a width, or MaxWords.
func passingCounts(bits int) []int {
	var counts []int
	for width := bits + 1; width <= 12; width++ {
		counts = append(counts, 1<<width-1<<bits-1)
	}
	return counts
}

func TestWordsPackWhereOneWidthPassesToTheNext(t *testing.T) {
	for bits := 2; bits <= 8; bits++ {
		words := shortWords(bits, fullCount(bits)+5)
		for _, passing := range passingCounts(bits) {
			for count := max(0, passing-3); count <= passing+3; count++ {
				list := slices.Concat(words[:count]...)
				checkWords(t, bits, list)
				checkWords(t, bits, slices.Concat(list, words[count][:1]))
				told := slowTeller(bits, list).told
				if end := told[len(told)-1]; count <= fullCount(bits) && (len(told) != count+2 || end.count != count) {
					t.Errorf("bits %d: %d words, end was told at %d", bits, count, end.count)
				}
			}
		}
	}
}

func TestWordsPackOfWidthsByHand(t *testing.T) {
	for bits := 2; bits <= 8; bits++ {
		words := shortWords(bits, fullCount(bits))
		for _, passing := range passingCounts(bits) {
			for _, count := range []int{passing - 1, passing} {
				many := bits + 1
				for counted := range count {
					many += min(12, bitsOfNumber(1<<bits+1+counted))
				}
				many += min(12, bitsOfNumber(1<<bits+1+count))
				if got := impl.WordsPack(bits, slices.Concat(words[:count]...)); len(got) != (many+7)/8 {
					t.Errorf("bits %d: %d words have %d bytes, not %d bits", bits, count, len(got), many)
				}
			}
		}
	}
}

func TestWordsPackOfTheFullBook(t *testing.T) {
	for bits := 2; bits <= 8; bits++ {
		full := fullCount(bits)
		words := shortWords(bits, 2*full+10)
		list := slices.Concat(words[:full]...)
		told := slowTeller(bits, list).told
		if end := told[len(told)-1]; end != (telling{1<<bits + 1, full, 12}) {
			t.Fatalf("bits %d: end just at the full book: %v", bits, end)
		}
		checkWords(t, bits, list)
		for more := 1; more <= 5; more++ {
			list := slices.Concat(words[:full+more]...)
			told := slowTeller(bits, list).told
			if told[full+1] != (telling{1 << bits, full, 12}) || told[full+2].width != bits+1 {
				t.Fatalf("bits %d: behind the full book: %v", bits, told[full+1:])
			}
			checkWords(t, bits, list)
		}
		// Full for a second time, where so many numbers may be.
		for count := 2*full - 2; count < len(words); count++ {
			if list := slices.Concat(words[:count]...); len(list) <= impl.MaxFields {
				checkWords(t, bits, list)
			} else if bits > 3 {
				t.Errorf("bits %d: %d numbers for %d words", bits, len(list), count)
			}
		}
	}
}

func TestWordsPackIsNewMemoryAndReadsNoFurther(t *testing.T) {
	for bits := 2; bits <= 8; bits++ {
		list := append([]int{0, 1, 2, 3, 0, 1}, -9, 99999)[:6]
		want := impl.WordsPack(bits, slices.Clone(list))
		clear(impl.WordsPack(bits, list))
		if got := impl.WordsPack(bits, list); !bytes.Equal(got, want) {
			t.Errorf("bits %d: %v, not %v", bits, got, want)
		}
		if behind := list[:8]; behind[6] != -9 || behind[7] != 99999 {
			t.Errorf("bits %d: what lies behind was written", bits)
		}
	}
}
