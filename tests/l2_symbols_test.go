package tests

import (
	"bytes"
	"math"
	"math/rand/v2"
	"slices"
	"strings"
	"testing"

	"loop.example/g00016/impl"
)

func sameSymbols(a, b impl.Symbols) bool {
	return a.Err == b.Err && a.Next == b.Next && slices.Equal(a.List, b.List)
}

// bitText has the bits of data in high order, as a text of 0 and 1.
func bitText(data []byte) string {
	var text strings.Builder
	for i := range 8 * len(data) {
		text.WriteByte('0' + data[i/8]>>(7-i%8)&1)
	}
	return text.String()
}

// textBytes is the other way: bits left over are 0.
func textBytes(text string) []byte {
	data := make([]byte, (len(text)+7)/8)
	for i := range text {
		data[i/8] |= (text[i] - '0') << (7 - i%8)
	}
	return data
}

// oneByTexts looks for the word that bits begin with, and for words that begin with all of bits.
func oneByTexts(texts []string, bits string) (int, int) {
	for symbol, word := range texts {
		if word != "" && strings.HasPrefix(bits, word) {
			return symbol, 0
		}
	}
	for _, word := range texts {
		if word != "" && strings.HasPrefix(word, bits) {
			return 0, impl.ErrShort
		}
	}
	return 0, impl.ErrCode
}

// readByTexts reads by the document's words, of a code and places that are valid.
func readByTexts(texts []string, data []byte, at int, many int) impl.Symbols {
	bits := bitText(data)
	bits = bits[min(at, len(bits)):]
	s := impl.Symbols{Next: at}
	for range many {
		symbol, err := oneByTexts(texts, bits)
		if err != 0 {
			return impl.Symbols{Err: err}
		}
		s.List = append(s.List, symbol)
		s.Next += len(texts[symbol])
		bits = bits[len(texts[symbol]):]
	}
	return s
}

func checkRead(t *testing.T, lengths []int, data []byte, at int, many int, want impl.Symbols) {
	t.Helper()
	wasLengths, wasData := slices.Clone(lengths), slices.Clone(data)
	if got := impl.ReadSymbols(lengths, data, at, many); !sameSymbols(got, want) {
		t.Fatalf("ReadSymbols(%v, %08b, %d, %d) = %v, not %v", lengths, data, at, many, got, want)
	}
	if !slices.Equal(lengths, wasLengths) || !bytes.Equal(data, wasData) {
		t.Fatalf("ReadSymbols wrote its arguments: %v %v", lengths, data)
	}
}

func TestSymbolsByHand(t *testing.T) {
	for _, c := range []struct {
		lengths, list []int
		bits          string
	}{
		{[]int{1}, nil, ""},
		{[]int{1}, []int{0}, "0"},
		{[]int{1}, []int{0, 0, 0, 0, 0, 0, 0, 0, 0}, "000000000"},
		{[]int{0, 3}, []int{1, 1, 1}, "000000000"},
		{[]int{1, 1}, []int{1, 0, 1, 1}, "1011"},
		{[]int{2, 1, 2}, []int{0, 1, 2, 0}, "1001110"},
		{[]int{3, 1, 0, 3, 2}, []int{0, 1, 3, 4, 4, 0}, "11001111010110"},
		{[]int{1, 2, 3, 3}, []int{3, 3, 2}, "111111110"},
		{[]int{1, 15}, []int{1, 0, 1}, "1000000000000000100000000000000"},
		{steps(15), []int{15, 14, 0, 13}, "111111111111111111111111111110011111111111110"},
	} {
		was := slices.Clone(c.list)
		data := impl.WriteSymbols(c.lengths, c.list)
		if !bytes.Equal(data, textBytes(c.bits)) {
			t.Errorf("WriteSymbols(%v, %v) = %08b, not %s", c.lengths, c.list, data, c.bits)
		}
		checkRead(t, c.lengths, textBytes(c.bits), 0, len(c.list), impl.Symbols{List: c.list, Next: len(c.bits)})
		if !slices.Equal(c.list, was) {
			t.Errorf("WriteSymbols wrote its list: %v", c.list)
		}
	}
}

func TestSymbolsThatAreWrittenAreRead(t *testing.T) {
	r := rand.New(rand.NewPCG(2, 7))
	for range 2000 {
		lengths := someLengths(r)
		if kindByShares(lengths) == 0 {
			continue
		}
		var having []int
		for symbol, length := range lengths {
			if length > 0 {
				having = append(having, symbol)
			}
		}
		list := make([]int, r.IntN(60))
		texts, bits := wordTexts(lengths), ""
		for i := range list {
			list[i] = having[r.IntN(len(having))]
			bits += texts[list[i]]
		}
		if data := impl.WriteSymbols(lengths, list); !bytes.Equal(data, textBytes(bits)) {
			t.Fatalf("WriteSymbols(%v, %v) = %08b, not %s", lengths, list, data, bits)
		}
		ahead := strings.Repeat("1", r.IntN(20))
		behind := strings.Repeat("1", r.IntN(20))
		want := impl.Symbols{List: list, Next: len(ahead) + len(bits)}
		checkRead(t, lengths, textBytes(ahead+bits+behind), len(ahead), len(list), want)
	}
}

func TestSymbolsOfEveryCountedCodeAreRead(t *testing.T) {
	r := rand.New(rand.NewPCG(2, 8))
	for n := range 100 {
		counts := make([]int, 2+r.IntN(impl.MaxSymbols-1))
		list := make([]int, 1+r.IntN(3000))
		for i := range list {
			list[i] = r.IntN(len(counts)) >> (n % 8)
			counts[list[i]]++
		}
		lengths := impl.CodeLengths(counts, 9+n%7)
		data := impl.WriteSymbols(lengths, list)
		bits := impl.CodeCost(counts, lengths)
		if len(data) != (bits+7)/8 {
			t.Fatalf("%d bits are written in %d bytes", bits, len(data))
		}
		checkRead(t, lengths, data, 0, len(list), impl.Symbols{List: list, Next: bits})
	}
}

// TestSymbolsOfAllSmallCodes goes over all codes of three symbols with up to four bits, and all bytes.
func TestSymbolsOfAllSmallCodes(t *testing.T) {
	for n := range 125 {
		lengths := []int{n % 5, n / 5 % 5, n / 25}
		if kindByShares(lengths) == 0 {
			continue
		}
		texts := wordTexts(lengths)
		for b := range 256 {
			data := []byte{byte(b)}
			for at := range 10 {
				for _, many := range []int{0, 1, 2, 3, 8, 9} {
					checkRead(t, lengths, data, at, many, readByTexts(texts, data, at, many))
				}
			}
		}
	}
}

func TestSymbolsOfAnyBytes(t *testing.T) {
	r := rand.New(rand.NewPCG(2, 9))
	met := [5]int{}
	for range 20000 {
		lengths := someLengths(r)
		if kindByShares(lengths) == 0 {
			continue
		}
		data := someBytes(r, r.IntN(8))
		at, many := r.IntN(8*len(data)+20), r.IntN(12)
		want := readByTexts(wordTexts(lengths), data, at, many)
		met[want.Err]++
		checkRead(t, lengths, data, at, many, want)
	}
	if met[0] < 100 || met[impl.ErrShort] < 100 || met[impl.ErrCode] < 100 {
		t.Errorf("too few of an answer: %v", met)
	}
}

// TestSymbolsThatEndOrAreNone has bits left over, so that bits may end within a word or begin none.
func TestSymbolsThatEndOrAreNone(t *testing.T) {
	short, code := impl.Symbols{Err: impl.ErrShort}, impl.Symbols{Err: impl.ErrCode}
	for _, c := range []struct {
		lengths  []int
		data     []byte
		at, many int
		want     impl.Symbols
	}{
		{[]int{1, 2}, []byte{0b00000001}, 7, 1, short},
		{[]int{1, 2}, []byte{0b00000011}, 6, 1, code},
		{[]int{1, 2}, []byte{0b00000010}, 6, 1, impl.Symbols{List: []int{1}, Next: 8}},
		{[]int{1, 2}, []byte{0b00000010}, 6, 2, short},
		{[]int{3}, []byte{0b00000001}, 7, 1, code},
		{[]int{3}, []byte{0b00000001}, 6, 1, code},
		{[]int{3}, []byte{0b00000001}, 5, 1, code},
		{[]int{3}, []byte{0b00000000}, 7, 1, short},
		{[]int{3}, []byte{0b00000000}, 6, 1, short},
		{[]int{3}, []byte{0b00000000}, 5, 1, impl.Symbols{List: []int{0}, Next: 8}},
		{[]int{1}, []byte{0b00000001}, 0, 7, impl.Symbols{List: alike(0, 7), Next: 7}},
		{[]int{1}, []byte{0b00000001}, 0, 8, code},
		{[]int{1}, []byte{0b00000000}, 0, 9, short},
		{[]int{2, 2, 2}, []byte{0b00000011}, 6, 1, code},
		{[]int{2, 2, 2}, []byte{0b00000011}, 7, 1, short},
		{[]int{2, 2, 2, 2}, []byte{0b00000011}, 7, 1, short},
		{[]int{4, 4, 4, 4, 4}, []byte{0b00000010}, 6, 1, code},
		{[]int{4, 4, 4, 4, 4}, []byte{0b00000010}, 5, 1, short},
		{[]int{4, 4, 4, 4, 4}, []byte{0b00000001}, 7, 1, code},
		{[]int{15, 15}, []byte{0, 0}, 0, 1, impl.Symbols{List: []int{0}, Next: 15}},
		{[]int{15, 15}, []byte{0, 0}, 1, 1, impl.Symbols{List: []int{0}, Next: 16}},
		{[]int{15, 15}, []byte{0, 0}, 2, 1, short},
		{[]int{15, 15}, []byte{0, 1}, 1, 1, impl.Symbols{List: []int{1}, Next: 16}},
		{[]int{15, 15}, []byte{0, 1}, 2, 1, code},
		{[]int{15, 15}, []byte{0, 2}, 1, 1, code},
		{steps(15), []byte{255, 255}, 0, 1, impl.Symbols{List: []int{15}, Next: 15}},
		{steps(15), []byte{255, 255}, 1, 1, impl.Symbols{List: []int{15}, Next: 16}},
		{steps(15), []byte{255, 255}, 2, 1, short},
		{steps(15)[:15], []byte{255, 255}, 1, 1, code},
		{steps(15)[:15], []byte{255, 255}, 2, 1, short},
	} {
		checkRead(t, c.lengths, c.data, c.at, c.many, c.want)
	}
}

func TestSymbolsAtPlacesAndOfNumbers(t *testing.T) {
	form, short := impl.Symbols{Err: impl.ErrForm}, impl.Symbols{Err: impl.ErrShort}
	lengths, data := []int{1, 1}, []byte{0xA5, 0x0F}
	for _, at := range []int{-1, -8, math.MinInt} {
		for _, many := range []int{0, 1, 2} {
			checkRead(t, lengths, data, at, many, form)
			checkRead(t, lengths, nil, at, many, form)
		}
	}
	for _, many := range []int{-1, impl.MaxFields + 1, math.MinInt, math.MaxInt} {
		for _, at := range []int{0, 16, 17, math.MaxInt} {
			checkRead(t, lengths, data, at, many, form)
		}
	}
	for _, at := range []int{16, 17, 24, 1000, math.MaxInt - 1, math.MaxInt} {
		checkRead(t, lengths, data, at, 0, impl.Symbols{Next: at})
		checkRead(t, lengths, data, at, 1, short)
		checkRead(t, []int{0, 15}, data, at, 1, short)
		checkRead(t, lengths, nil, at, 1, short)
	}
	checkRead(t, lengths, nil, 0, 0, impl.Symbols{})
	checkRead(t, lengths, nil, 0, 1, short)
	checkRead(t, lengths, data, 15, 1, impl.Symbols{List: []int{1}, Next: 16})
	checkRead(t, lengths, data, 0, 16, impl.Symbols{List: []int{1, 0, 1, 0, 0, 1, 0, 1, 0, 0, 0, 0, 1, 1, 1, 1}, Next: 16})
	checkRead(t, lengths, data, 0, 17, short)
}

func TestSymbolsOfNoCode(t *testing.T) {
	for _, lengths := range [][]int{
		nil, {0, 0}, {1, 1, 1}, {1, 1, 15}, {1, 16}, {1, -1}, {math.MinInt}, {math.MaxInt, 1},
		append(alike(0, 300), 1), append(steps(15), 15),
	} {
		if data := impl.WriteSymbols(lengths, []int{0}); len(data) > 0 {
			t.Errorf("WriteSymbols by %v: %v", lengths, data)
		}
		if data := impl.WriteSymbols(lengths, nil); len(data) > 0 {
			t.Errorf("WriteSymbols of nothing by %v: %v", lengths, data)
		}
		for many := range 3 {
			checkRead(t, lengths, []byte{0, 0}, 0, many, impl.Symbols{Err: impl.ErrForm})
		}
	}
}

func TestSymbolsWithoutAWord(t *testing.T) {
	lengths := []int{1, 0, 2, 2}
	for _, bad := range []int{1, 4, 5, 300, -1, -2, math.MinInt, math.MaxInt} {
		for _, list := range [][]int{{bad}, {bad, 0}, {0, bad}, {3, bad, 2}} {
			if data := impl.WriteSymbols(lengths, list); len(data) > 0 {
				t.Errorf("WriteSymbols(%v, %v) = %v", lengths, list, data)
			}
		}
	}
	if data := impl.WriteSymbols(lengths, []int{3, 0, 2}); !bytes.Equal(data, []byte{0b11010000}) {
		t.Errorf("WriteSymbols(%v, ..) = %08b", lengths, data)
	}
}

func TestSymbolsAsManyAsMayBe(t *testing.T) {
	lengths := []int{15, 15, 1}
	list := make([]int, impl.MaxFields+1)
	for i := range list {
		list[i] = i % 3
	}
	bits := impl.MaxFields/3*31 + 15 + 15
	data := impl.WriteSymbols(lengths, list[:impl.MaxFields])
	if len(data) != (bits+7)/8 {
		t.Fatalf("just as many as may be: %d bytes", len(data))
	}
	checkRead(t, lengths, data, 0, impl.MaxFields, impl.Symbols{List: list[:impl.MaxFields], Next: bits})
	checkRead(t, lengths, data, 0, impl.MaxFields+1, impl.Symbols{Err: impl.ErrForm})
	if more := impl.WriteSymbols(lengths, list); len(more) > 0 {
		t.Errorf("one too many: %d bytes", len(more))
	}
	checkRead(t, []int{1}, make([]byte, 2500), 0, 20000, impl.Symbols{List: make([]int, 20000), Next: 20000})
	checkRead(t, []int{1}, make([]byte, 2500), 1, 20000, impl.Symbols{Err: impl.ErrShort})
	checkRead(t, []int{1}, make([]byte, 2501), 0, 20001, impl.Symbols{Err: impl.ErrForm})
}

func TestSymbolsAreNewMemoryAndReadNoFurther(t *testing.T) {
	lengths, data, list := []int{2, 1, 2, 1}, []byte{0b10011111, 0}, []int{0, 1, 2, 2}
	clear(impl.ReadSymbols(lengths[:3], data, 0, 3).List)
	checkRead(t, lengths[:3], data[:1], 0, 4, impl.Symbols{List: []int{0, 1, 2, 2}, Next: 7})
	checkRead(t, lengths[:3], data[:1], 0, 5, impl.Symbols{Err: impl.ErrShort})
	clear(impl.WriteSymbols(lengths[:3], list[:3]))
	if got := impl.WriteSymbols(lengths[:3], list[:3]); !bytes.Equal(got, []byte{0b10011000}) {
		t.Errorf("WriteSymbols = %08b", got)
	}
	if !slices.Equal(list, []int{0, 1, 2, 2}) || !slices.Equal(lengths, []int{2, 1, 2, 1}) || data[0] != 0b10011111 {
		t.Errorf("an argument was written: %v %v %v", lengths, data, list)
	}
}
