package tests

import (
	"bytes"
	"compress/flate"
	"math"
	"math/rand/v2"
	"slices"
	"strings"
	"testing"

	"loop.example/g00016/impl"
)

// slowReader goes through the text of the bits by the document's words; it ends by a panic with the error.
type slowReader struct {
	bits string
	at   int
	most int
	out  []byte
}

func (s *slowReader) number(bits int) int {
	if s.at+bits > len(s.bits) {
		panic(impl.ErrShort)
	}
	n := 0
	for i := range bits {
		n |= int(s.bits[s.at+i]-'0') << i
	}
	s.at += bits
	return n
}

// symbol looks at no more bits than a word can have; where no bit is left, the data ended.
func (s *slowReader) symbol(texts []string) int {
	if s.at == len(s.bits) {
		panic(impl.ErrShort)
	}
	symbol, err := oneByTexts(texts, s.bits[s.at:min(len(s.bits), s.at+15)])
	if err != 0 {
		panic(err)
	}
	s.at += len(texts[symbol])
	return symbol
}

func (s *slowReader) tell(b byte) {
	if len(s.out) == s.most {
		panic(impl.ErrMany)
	}
	s.out = append(s.out, b)
}

func (s *slowReader) stored() {
	for s.at%8 > 0 {
		s.at++
	}
	many := s.number(16)
	if s.number(16) != 65535-many {
		panic(impl.ErrSum)
	}
	for range many {
		s.tell(byte(s.number(8)))
	}
}

func (s *slowReader) told(spans []span, symbol int) int {
	return spans[symbol].from + s.number(spans[symbol].bits)
}

func (s *slowReader) pieces(c coding) {
	for {
		symbol := s.symbol(c.symbols)
		switch {
		case symbol < 256:
			s.tell(byte(symbol))
			continue
		case symbol == 256:
			return
		case symbol > 285:
			panic(impl.ErrCode)
		}
		length := s.told(lengthSpans(), symbol-257)
		symbol = s.symbol(c.backs)
		if symbol > 29 {
			panic(impl.ErrCode)
		}
		back := s.told(backSpans(), symbol)
		if back > len(s.out) {
			panic(impl.ErrRange)
		}
		for range length {
			s.tell(s.out[len(s.out)-back])
		}
	}
}

func (s *slowReader) limited(bits int, least int, most int) int {
	n := least + s.number(bits)
	if n > most {
		panic(impl.ErrRange)
	}
	return n
}

// mustServe asks for what the code of symbols and that of ways back must be, if they have words.
func mustServe(lengths []int) {
	sum := sharesOf(lengths)
	if sum != 32768 && !(sum == 16384 && slices.Max(lengths) == 1) {
		panic(impl.ErrCode)
	}
}

func (s *slowReader) own() coding {
	symbols, backs := s.limited(5, 257, 286), s.limited(5, 1, 30)
	kinds := make([]int, 19)
	for _, kind := range lengthOrder[:s.number(4)+4] {
		kinds[kind] = s.number(3)
	}
	if sharesOf(kinds) != 32768 {
		panic(impl.ErrCode)
	}
	words := wordTexts(kinds)
	var row []int
	for len(row) < symbols+backs {
		kind, length := s.symbol(words), 0
		if kind < 16 {
			row = append(row, kind)
			continue
		}
		if kind == 16 {
			if len(row) == 0 {
				panic(impl.ErrCode)
			}
			length = row[len(row)-1]
		}
		row = append(row, alike(length, repeats[kind].from+s.number(repeats[kind].bits))...)
		if len(row) > symbols+backs {
			panic(impl.ErrRange)
		}
	}
	if row[256] == 0 {
		panic(impl.ErrCode)
	}
	mustServe(row[:symbols])
	if slices.Max(row[symbols:]) > 0 {
		mustServe(row[symbols:])
	}
	return coding{wordTexts(row[:symbols]), wordTexts(row[symbols:])}
}

func (s *slowReader) blocks() {
	for last := 0; last == 0; {
		last = s.number(1)
		switch s.number(2) {
		case 0:
			s.stored()
		case 1:
			s.pieces(fixedCoding())
		case 2:
			s.pieces(s.own())
		case 3:
			panic(impl.ErrCode)
		}
	}
}

func slowUnpack(data []byte, most int) (plain impl.Plain) {
	if most < 0 || most > impl.MaxPacked || len(data) > impl.MaxPacked {
		return impl.Plain{Err: impl.ErrForm}
	}
	s := slowReader{bits: lowBits(data), most: most}
	defer func() {
		if err := recover(); err != nil {
			plain = impl.Plain{Err: err.(int)}
		}
	}()
	s.blocks()
	return impl.Plain{Data: s.out, Used: (s.at + 7) / 8}
}

func checkUnpack(t *testing.T, what string, data []byte, most int, want impl.Plain) {
	t.Helper()
	was := slices.Clone(data)
	checkPlain(t, what, impl.Unpack(data, most), want)
	if !bytes.Equal(data, was) {
		t.Fatalf("%s: Unpack wrote its argument", what)
	}
}

// checkText unpacks a text of bits, with more bytes behind them.
func checkText(t *testing.T, what string, text string, most int, err int, plain string) {
	t.Helper()
	want := impl.Plain{Err: err}
	if err == 0 {
		want = impl.Plain{Data: []byte(plain), Used: (len(text) + 7) / 8}
	}
	checkUnpack(t, what, lowBytes(text), most, want)
	checkUnpack(t, what+", by a slow one", lowBytes(text), most, slowUnpack(lowBytes(text), most))
}

// checkTextAndMore has 0 behind, so that an error isn't one of data that end.
func checkTextAndMore(t *testing.T, what string, text string, most int, err int, plain string) {
	t.Helper()
	want := impl.Plain{Err: err}
	if err == 0 {
		want = impl.Plain{Data: []byte(plain), Used: (len(text) + 7) / 8}
	}
	data := append(lowBytes(text), make([]byte, 40)...)
	checkUnpack(t, what, data, most, want)
	checkUnpack(t, what+", by a slow one", data, most, slowUnpack(data, most))
}

// fixedText is a fixed block.
func fixedText(last bool, pieces ...impl.Piece) string {
	c := fixedCoding()
	return lastText(last) + "10" + c.piecesText(pieces) + c.symbols[256]
}

func lastText(last bool) string {
	if last {
		return "1"
	}
	return "0"
}

// storedText is a stored block behind so many bits; what is left of the byte is 1.
func storedText(ahead int, last bool, plain string) string {
	text := lastText(last) + "00"
	for (ahead+len(text))%8 > 0 {
		text += "1"
	}
	n := len(plain)
	return text + lowText(n, 16) + lowText(^n, 16) + lowBits([]byte(plain))
}

// A whole code of the 19, with a word for each.
var allKinds = slices.Concat(alike(4, 13), alike(5, 6))

// plainTellings tells each length by itself.
func plainTellings(row []int) []tellingOf {
	list := make([]tellingOf, len(row))
	for i, length := range row {
		list[i] = tellingOf{length, 1}
	}
	return list
}

// ownStart is the start of a last block with an own code.
func ownStart(symbols, backs []int) string {
	return "101" + ownHead(symbols, backs, allKinds, 19, plainTellings(slices.Concat(symbols, backs)))
}

// lengthsWith has so many lengths: those said of symbols, and 0.
func lengthsWith(many int, said map[int]int) []int {
	lengths := make([]int, many)
	for symbol, length := range said {
		lengths[symbol] = length
	}
	return lengths
}

func TestUnpackAsksItsArgumentsFirst(t *testing.T) {
	form := impl.Plain{Err: impl.ErrForm}
	for _, data := range [][]byte{nil, {7}, {3, 0}, {1, 0, 0, 0xFF, 0xFF}} {
		for _, most := range []int{-1, impl.MaxPacked + 1, math.MinInt, math.MaxInt} {
			checkUnpack(t, "most", data, most, form)
			checkPlain(t, "Unwrap", impl.Unwrap(data, most), form)
		}
	}
	data := append([]byte{3, 0}, make([]byte, impl.MaxPacked)...)
	for _, most := range []int{0, 5, impl.MaxPacked} {
		checkUnpack(t, "too many bytes", data[:impl.MaxPacked+1], most, form)
		checkUnpack(t, "as many bytes as may be", data[:impl.MaxPacked], most, impl.Plain{Used: 2})
	}
	data[0] = 7
	checkUnpack(t, "too many bytes, and a kind that is none", data, 0, form)
}

func TestUnpackOfStored(t *testing.T) {
	for _, c := range []struct {
		data []byte
		most int
		want impl.Plain
	}{
		{[]byte{}, 9, impl.Plain{Err: impl.ErrShort}},
		{[]byte{1}, 9, impl.Plain{Err: impl.ErrShort}},
		{[]byte{1, 0}, 9, impl.Plain{Err: impl.ErrShort}},
		{[]byte{1, 0, 0}, 9, impl.Plain{Err: impl.ErrShort}},
		{[]byte{1, 0, 0, 0xFF}, 9, impl.Plain{Err: impl.ErrShort}},
		{[]byte{1, 0, 0, 0}, 9, impl.Plain{Err: impl.ErrShort}},
		{[]byte{1, 0, 0, 0xFF, 0xFF}, 9, impl.Plain{Used: 5}},
		{[]byte{0xF9, 0, 0, 0xFF, 0xFF}, 9, impl.Plain{Used: 5}},
		{[]byte{1, 0, 0, 0xFF, 0xFF}, 0, impl.Plain{Used: 5}},
		{[]byte{1, 0, 0, 0xFF, 0xFF, 7}, 0, impl.Plain{Used: 5}},
		{[]byte{0, 0, 0, 0xFF, 0xFF}, 9, impl.Plain{Err: impl.ErrShort}},
		{[]byte{1, 0, 0, 0xFF, 0x7F}, 9, impl.Plain{Err: impl.ErrSum}},
		{[]byte{1, 0, 0, 0xFE, 0xFF}, 9, impl.Plain{Err: impl.ErrSum}},
		{[]byte{1, 0, 0, 0, 0}, 9, impl.Plain{Err: impl.ErrSum}},
		{[]byte{1, 1, 0, 1, 0, 9}, 0, impl.Plain{Err: impl.ErrSum}},
		{[]byte{1, 2, 0, 0xFD, 0xFF, 8, 9}, 2, impl.Plain{Data: []byte{8, 9}, Used: 7}},
		{[]byte{1, 2, 0, 0xFD, 0xFF, 8, 9, 10}, 3, impl.Plain{Data: []byte{8, 9}, Used: 7}},
		{[]byte{1, 2, 0, 0xFD, 0xFF, 8, 9}, 1, impl.Plain{Err: impl.ErrMany}},
		{[]byte{1, 2, 0, 0xFD, 0xFF, 8, 9}, 0, impl.Plain{Err: impl.ErrMany}},
		{[]byte{1, 2, 0, 0xFD, 0xFF, 8}, 2, impl.Plain{Err: impl.ErrShort}},
		{[]byte{1, 2, 0, 0xFD, 0xFF}, 2, impl.Plain{Err: impl.ErrShort}},
		// Byte by byte: the data end ahead of a byte too many, or behind it.
		{[]byte{1, 2, 0, 0xFD, 0xFF, 8}, 1, impl.Plain{Err: impl.ErrShort}},
		{[]byte{1, 3, 0, 0xFC, 0xFF, 8, 9}, 1, impl.Plain{Err: impl.ErrMany}},
		{[]byte{1, 2, 0, 0xFD, 0xFF}, 0, impl.Plain{Err: impl.ErrShort}},
	} {
		checkUnpack(t, "stored", c.data, c.most, c.want)
		checkUnpack(t, "stored, by a slow one", c.data, c.most, slowUnpack(c.data, c.most))
	}
	plain := strings.Repeat("stored", 6666)
	text := storedText(0, true, plain[:39995])
	checkText(t, "as much as there can be", text, impl.MaxPacked, 0, plain[:39995])
	checkText(t, "one too many", text, 39994, impl.ErrMany, "")
}

func TestUnpackOfKinds(t *testing.T) {
	for _, b := range []byte{6, 7, 0xFE, 0xFF} {
		checkUnpack(t, "kind 3", []byte{b}, 9, impl.Plain{Err: impl.ErrCode})
	}
	first := fixedText(false, literals("ab")...)
	checkTextAndMore(t, "kind 3 behind a block", first+"011", 9, impl.ErrCode, "")
	checkTextAndMore(t, "kind 3 behind bytes too many", first+"011", 1, impl.ErrMany, "")
	checkText(t, "no last block", fixedText(false), 9, impl.ErrShort, "")
}

func TestUnpackOfSeveralBlocks(t *testing.T) {
	for ahead := range 8 {
		// Each literal of 9 bits moves what is behind it by one more bit.
		text := fixedText(false, alikePieces(ahead, 200)...)
		text += storedText(len(text), false, "xyz") + fixedText(false, copied(4, 3))
		text += storedText(len(text), false, "") + "001" + ownText(append(literals("own"), copied(8, 3)))
		text += fixedText(true, copied(3, 18))
		plain := strings.Repeat("\xc8", ahead) + "xyzxyzx" + "ownownownow" + "xyz"
		checkText(t, "blocks", text, 100, 0, plain)
		checkTextAndMore(t, "blocks, and more", text, 100, 0, plain)
		checkText(t, "blocks, as much as asked", text, len(plain), 0, plain)
		checkText(t, "blocks, more than asked", text, len(plain)-1, impl.ErrMany, "")
	}
}

func alikePieces(many int, literal int) []impl.Piece {
	return slices.Repeat([]impl.Piece{{Literal: literal}}, many)
}

// TestUnpackOfDataThatEnd cuts streams at each bit: what stands ahead moves them, so that a byte ends at each.
func TestUnpackOfDataThatEnd(t *testing.T) {
	own := "101" + ownText(append(literals("own, own"), copied(8, 3), copied(20, 5), copied(258, 1)))
	fixed := fixedText(true, append(literals("fixed\xff"), copied(258, 1), copied(25, 7))...)
	for ahead := range 8 {
		first := fixedText(false, alikePieces(ahead, 200)...)
		for _, text := range []string{first + own, first + fixed, first + storedText(len(first), true, "stored")} {
			data := lowBytes(text)
			if plain := impl.Unpack(data, 1000); plain.Err != 0 || plain.Used != len(data) {
				t.Fatalf("%d ahead: %v", ahead, plain)
			}
			for end := range data {
				checkUnpack(t, "cut", data[:end], 1000, impl.Plain{Err: impl.ErrShort})
				checkUnpack(t, "cut, and nothing asked", data[:end], 0, slowUnpack(data[:end], 0))
			}
		}
	}
}

// TestUnpackLengthsAndWaysBack has each symbol with all its bits off and on.
func TestUnpackLengthsAndWaysBack(t *testing.T) {
	c := fixedCoding()
	fresh := string(someBytes(rand.New(rand.NewPCG(3, 13)), 3))
	first := "110" + c.piecesText(literals(fresh))
	for i, s := range lengthSpans() {
		for _, more := range []int{0, 1<<s.bits - 1} {
			text := first + c.symbols[257+i] + lowText(more, s.bits) + c.backs[2] + c.symbols[256]
			plain := strings.Repeat(fresh, 100)[:3+s.from+more]
			checkText(t, "length", text, len(plain), 0, plain)
			checkText(t, "length, more than asked", text, len(plain)-1, impl.ErrMany, "")
		}
	}
	plain := string(someBytes(rand.New(rand.NewPCG(3, 14)), impl.MaxBack))
	stored := storedText(0, false, plain)
	for i, s := range backSpans() {
		for _, more := range []int{0, 1<<s.bits - 1} {
			text := "110" + c.symbols[257] + c.backs[i] + lowText(more, s.bits) + c.symbols[256]
			again := strings.Repeat(plain[len(plain)-s.from-more:], 3)[:3]
			data, want := lowBytes(stored+text), append([]byte(plain), again...)
			checkUnpack(t, "way back", data, len(want), impl.Plain{Data: want, Used: len(data)})
		}
	}
}

func TestUnpackOfLongestCopies(t *testing.T) {
	c := fixedCoding()
	for _, words := range []string{c.symbols[285], c.symbols[284] + "11111"} {
		text := "110" + c.symbols['a'] + words + c.backs[0] + c.symbols[256]
		checkText(t, "258", text, 259, 0, strings.Repeat("a", 259))
		checkText(t, "258, one less asked", text, 258, impl.ErrMany, "")
	}
	checkText(t, "257", "110"+c.symbols['a']+c.symbols[284]+"01111"+c.backs[0]+c.symbols[256], 300, 0, strings.Repeat("a", 258))
}

func TestUnpackOfSymbolsThatAreNone(t *testing.T) {
	c := fixedCoding()
	for _, symbol := range []int{286, 287} {
		text := "110" + c.symbols['a'] + c.symbols[symbol]
		checkText(t, "a symbol at the end", text, 9, impl.ErrCode, "")
		checkTextAndMore(t, "a symbol", text, 9, impl.ErrCode, "")
		checkTextAndMore(t, "a symbol behind too much", text, 0, impl.ErrMany, "")
	}
	for _, symbol := range []int{30, 31} {
		text := "110" + c.symbols['a'] + c.symbols[257] + c.backs[symbol]
		checkText(t, "a way back at the end", text, 9, impl.ErrCode, "")
		checkTextAndMore(t, "a way back", text, 9, impl.ErrCode, "")
	}
}

func TestUnpackOfCopiesFromAhead(t *testing.T) {
	checkText(t, "the example", "110"+"0000001"+"00000", 9, impl.ErrRange, "")
	for many := range 6 {
		a := literals("abcdefg"[:many])
		checkTextAndMore(t, "from ahead", fixedText(true, append(a, copied(3, many+1))...), 99, impl.ErrRange, "")
		checkTextAndMore(t, "from far ahead", fixedText(true, append(a, copied(3, 32768))...), 99, impl.ErrRange, "")
		checkTextAndMore(t, "from ahead, and too much", fixedText(true, append(a, copied(258, many+1))...), many, impl.ErrRange, "")
		if many > 0 {
			checkText(t, "from the beginning", fixedText(true, append(a, copied(3, many))...), 99, 0, strings.Repeat("abcdefg"[:many], 9)[:many+3])
		}
	}
	text := fixedText(false, literals("abc")...) + fixedText(true, copied(5, 3))
	checkText(t, "from the block ahead", text, 99, 0, "abcabcab")
}

func TestUnpackOfOwnCodesTooMany(t *testing.T) {
	for more := range 32 {
		for back := range 32 {
			text := "101" + lowText(more, 5) + lowText(back, 5)
			want := impl.ErrCode
			if more > 29 || back > 29 {
				want = impl.ErrRange
			}
			checkTextAndMore(t, "how many", text, 99, want, "")
		}
	}
	// The first one is asked as soon as it is read: its bits end with the byte.
	checkUnpack(t, "287 symbols, and no more", lowBytes("101"+lowText(30, 5)), 99, impl.Plain{Err: impl.ErrRange})
	checkUnpack(t, "288 symbols, and no more", lowBytes("101"+lowText(31, 5)), 99, impl.Plain{Err: impl.ErrRange})
	checkUnpack(t, "286 symbols, and no more", lowBytes("101"+lowText(29, 5)), 99, impl.Plain{Err: impl.ErrShort})
	checkUnpack(t, "31 ways back, and no more", lowBytes("101"+lowText(29, 5)+lowText(30, 5)), 99, impl.Plain{Err: impl.ErrRange})
	checkUnpack(t, "30 ways back, and no more", lowBytes("101"+lowText(29, 5)+lowText(29, 5)), 99, impl.Plain{Err: impl.ErrShort})
	full := ownStart(alike(9, 286), alike(5, 30))
	checkTextAndMore(t, "as many as may be, not whole", full, 99, impl.ErrCode, "")
	symbols := slices.Concat(alike(8, 226), alike(9, 60))
	backs := slices.Concat(alike(5, 28), alike(4, 2))
	words := wordTexts(symbols)
	checkText(t, "as many as may be", ownStart(symbols, backs)+words['a']+words[285]+wordTexts(backs)[0]+words[256], 999, 0, strings.Repeat("a", 259))
}

func TestUnpackOfLengthsOfLengths(t *testing.T) {
	symbols, backs := lengthsWith(257, map[int]int{256: 1}), []int{0}
	row := slices.Concat(symbols, backs)
	for _, c := range []struct {
		kinds map[int]int
		err   int
	}{
		{map[int]int{0: 1, 1: 1}, 0},
		{map[int]int{0: 1, 1: 2, 2: 2}, 0},
		{map[int]int{0: 1, 1: 7, 2: 2, 3: 3, 4: 4, 5: 5, 6: 6, 7: 7}, 0},
		{map[int]int{0: 1, 1: 2}, impl.ErrCode},
		{map[int]int{0: 2, 1: 2, 2: 2}, impl.ErrCode},
		{map[int]int{0: 1, 1: 1, 2: 7}, impl.ErrCode},
		{map[int]int{0: 1, 1: 1, 2: 1}, impl.ErrCode},
		{map[int]int{0: 1}, impl.ErrCode},
		{map[int]int{18: 1}, impl.ErrCode},
		{map[int]int{0: 7}, impl.ErrCode},
		{nil, impl.ErrCode},
	} {
		kinds := lengthsWith(19, c.kinds)
		text := "101" + ownHead(symbols, backs, kinds, 19, nil)
		if c.err == 0 {
			text = "101" + ownHead(symbols, backs, kinds, 19, plainTellings(row)) + "0"
		}
		checkTextAndMore(t, "lengths of lengths", text, 99, c.err, "")
	}
}

// zerosBy18 tells so many 0.
func zerosBy18(many int) []tellingOf {
	var list []tellingOf
	for ; many > 138+10; many -= 138 {
		list = append(list, tellingOf{18, 138})
	}
	return append(list, tellingOf{18, many})
}

// TestUnpackOfAsManyLengthsOfLengthsAsAreTold has codes whose rows are of 18 and one length, which is the last that is told.
func TestUnpackOfAsManyLengthsOfLengthsAsAreTold(t *testing.T) {
	for length := 1; length <= 8; length++ {
		many := 1 << length
		zeros := max(30, 257-many)
		symbols, backs := slices.Concat(alike(0, zeros), alike(length, many)), alike(0, 11)
		list := slices.Concat(zerosBy18(zeros), plainTellings(alike(length, many)), zerosBy18(11))
		kinds := lengthsWith(19, map[int]int{18: 1, length: 1})
		last := slices.Index(lengthOrder, length) + 1
		end := wordTexts(symbols)[256]
		for kind := last; kind <= 19; kind++ {
			checkText(t, "told to the last one", "101"+ownHead(symbols, backs, kinds, kind, list)+end, 9, 0, "")
		}
		checkTextAndMore(t, "one fewer told", "101"+ownHead(symbols, backs, kinds, last-1, list)+end, 9, impl.ErrCode, "")
	}
}

func TestUnpackOfRows(t *testing.T) {
	zeros, end := []tellingOf{{18, 138}, {18, 118}}, tellingOf{1, 1}
	for _, c := range []struct {
		what string
		list []tellingOf
		err  int
	}{
		{"whole", append(zeros, end, tellingOf{0, 1}), 0},
		{"16 first", []tellingOf{{16, 3}}, impl.ErrCode},
		{"16 behind 0", append([]tellingOf{{0, 1}, {16, 6}, {17, 10}, {18, 138}}, tellingOf{18, 101}, end, tellingOf{0, 1}), 0},
		{"16 behind 17", append([]tellingOf{{17, 3}, {16, 3}, {18, 138}}, tellingOf{18, 112}, end, tellingOf{0, 1}), 0},
		{"one by 17 too many", append(zeros, end, tellingOf{17, 3}), impl.ErrRange},
		{"one by 16 too many", append(zeros, end, tellingOf{16, 3}), impl.ErrRange},
		{"one by 18 too many", append(zeros, end, tellingOf{18, 11}), impl.ErrRange},
		{"all by 18", []tellingOf{{18, 138}, {18, 120}}, impl.ErrCode},
		{"one more than all by 18", []tellingOf{{18, 138}, {18, 121}}, impl.ErrRange},
		{"many more than all by 18", []tellingOf{{18, 138}, {18, 138}}, impl.ErrRange},
		{"256 without a length", []tellingOf{{18, 138}, {18, 117}, {1, 1}, {0, 1}, {0, 1}}, impl.ErrCode},
	} {
		text := "101" + ownHead(make([]int, 257), []int{0}, allKinds, 19, c.list)
		if c.err == 0 {
			text += "0"
		}
		checkTextAndMore(t, c.what, text, 9, c.err, "")
	}
	// 16 with nothing ahead is met ahead of its further bits: with one of these ahead the bytes end behind its word.
	for ahead := range 8 {
		text := fixedText(false, alikePieces(ahead, 200)...) + "101" + ownHead(make([]int, 257), []int{0}, allKinds, 19, nil)
		if text += wordTexts(allKinds)[16]; len(text)%8 == 0 {
			checkText(t, "16 first, at the end", text, 9, impl.ErrCode, "")
		}
	}
}

// TestUnpackOfRunsFromSymbolsToWaysBack: it is one row.
func TestUnpackOfRunsFromSymbolsToWaysBack(t *testing.T) {
	zeros := []tellingOf{{18, 138}, {18, 118}}
	symbols := lengthsWith(260, map[int]int{256: 1})
	text := "101" + ownHead(symbols, make([]int, 8), allKinds, 19, append(zeros, tellingOf{1, 1}, tellingOf{18, 11}))
	checkText(t, "zeros", text+"0", 9, 0, "")
	// 255..258 have the length 2, so have four ways back: one is told by itself, the others as the one ahead again.
	symbols = lengthsWith(259, map[int]int{255: 2, 256: 2, 257: 2, 258: 2})
	list := []tellingOf{{18, 138}, {18, 117}, {2, 1}, {16, 4}, {16, 3}}
	text = "101" + ownHead(symbols, alike(2, 4), allKinds, 19, list)
	checkText(t, "lengths", text+"00"+"10"+"01"+"01", 9, impl.ErrRange, "")
	checkText(t, "lengths", text+"00"+"10"+"00"+"11"+"11"+"01", 9, 0, "\xff\xff\xff\xff\xff\xff\xff\xff")
}

func TestUnpackOfCodesThatDoNotServe(t *testing.T) {
	one := map[int]int{256: 1}
	whole := map[int]int{97: 1, 256: 2, 257: 2}
	for _, c := range []struct {
		what    string
		symbols map[int]int
		backs   []int
		err     int
		behind  string
	}{
		{"one symbol", one, []int{0}, 0, "0"},
		{"one symbol, another bit", one, []int{0}, impl.ErrCode, "1"},
		{"one symbol of 2 bits", map[int]int{256: 2}, []int{0}, impl.ErrCode, "00"},
		{"one symbol of 15 bits", map[int]int{256: 15}, []int{0}, impl.ErrCode, "000000000000000"},
		{"one other symbol", map[int]int{97: 1}, []int{0}, impl.ErrCode, "0"},
		{"two symbols without 256", map[int]int{97: 1, 98: 1}, []int{0}, impl.ErrCode, "0"},
		{"no symbol", nil, []int{0}, impl.ErrCode, "0"},
		{"two symbols", map[int]int{97: 1, 256: 1}, []int{0}, 0, "1"},
		{"two symbols that leave bits over", map[int]int{97: 2, 256: 1}, []int{0}, impl.ErrCode, "0"},
		{"two symbols of 2 bits", map[int]int{97: 2, 256: 2}, []int{0}, impl.ErrCode, "0"},
		{"three symbols of 1 bit", map[int]int{97: 1, 98: 1, 256: 1}, []int{0}, impl.ErrCode, "0"},
		{"a word too many", map[int]int{97: 1, 98: 1, 256: 15}, []int{0}, impl.ErrCode, "0"},
		{"no ways back", whole, make([]int, 30), 0, "10"},
		{"no ways back, and one asked for", whole, make([]int, 30), impl.ErrCode, "0110"},
		{"no ways back, and one asked for by 1", whole, make([]int, 30), impl.ErrCode, "0111"},
		{"one way back", whole, []int{1}, 0, "011010"},
		{"one way back, the last one", whole, lengthsWith(30, map[int]int{29: 1}), impl.ErrRange, "0110" + "0000000000000"},
		{"one way back, another bit", whole, []int{1}, impl.ErrCode, "0111"},
		{"one way back of 2 bits", whole, []int{2}, impl.ErrCode, "10"},
		{"one way back of 15 bits", whole, []int{15}, impl.ErrCode, "10"},
		{"two ways back", whole, []int{1, 1}, 0, "00" + "111" + "10"},
		{"two ways back that leave bits over", whole, []int{1, 2}, impl.ErrCode, "10"},
		{"two ways back of 2 bits", whole, []int{2, 2}, impl.ErrCode, "10"},
		{"three ways back of 1 bit", whole, []int{1, 1, 1}, impl.ErrCode, "10"},
		{"a way back too many", whole, []int{1, 1, 0, 15}, impl.ErrCode, "10"},
	} {
		plain := map[string]string{"one way back": "aaaa", "two ways back": "aaaaa"}[c.what]
		symbols := lengthsWith(258, c.symbols)
		checkTextAndMore(t, c.what, ownStart(symbols, c.backs)+c.behind, 99, c.err, plain)
	}
}

// manyText has fixed pieces of so many bytes, all of them 0.
func manyText(many int) string {
	return fixedText(true, fullPieces(many)...)
}

func TestUnpackOfMost(t *testing.T) {
	text := manyText(1000)
	zeros := string(make([]byte, impl.MaxPacked+1))
	for _, most := range []int{1000, 1001, impl.MaxPacked} {
		checkTextAndMore(t, "most", text, most, 0, zeros[:1000])
	}
	for _, most := range []int{0, 1, 2, 3, 259, 260, 261, 998, 999} {
		checkTextAndMore(t, "most", text, most, impl.ErrMany, "")
	}
	checkTextAndMore(t, "as many as may be", manyText(impl.MaxPacked), impl.MaxPacked, 0, zeros[:impl.MaxPacked])
	checkTextAndMore(t, "one fewer asked", manyText(impl.MaxPacked), impl.MaxPacked-1, impl.ErrMany, "")
	checkTextAndMore(t, "one more", manyText(impl.MaxPacked+1), impl.MaxPacked, impl.ErrMany, "")
	// What comes behind a byte too many does not count.
	c := fixedCoding()
	for _, behind := range []string{c.symbols[286], c.symbols[257] + c.backs[31], c.symbols[257] + c.backs[4], ""} {
		text := "110" + c.symbols[1] + c.symbols[2] + behind
		checkTextAndMore(t, "too many first", text, 1, impl.ErrMany, "")
	}
	checkText(t, "too many, at the end", "110"+c.symbols[1]+c.symbols[2]+"00000", 1, impl.ErrMany, "")
	checkText(t, "one, and then the end", "110"+c.symbols[1]+"00000", 1, impl.ErrShort, "")
}

func TestUnpackUsed(t *testing.T) {
	for ahead := range 8 {
		text := fixedText(true, alikePieces(ahead, 200)...)
		want := impl.Plain{Data: bytes.Repeat([]byte{200}, ahead), Used: (10 + 9*ahead + 7) / 8}
		for behind := range 4 {
			data := append(lowBytes(text), make([]byte, behind)...)
			checkUnpack(t, "bytes behind", data, 99, want)
		}
		// The bits behind the last block may be any.
		data := lowBytes(text)
		for bit := len(text); bit < 8*len(data); bit++ {
			data[bit/8] |= 1 << (bit % 8)
		}
		checkUnpack(t, "bits behind", data, 99, want)
	}
}

func TestUnpackOfTheLibrarys(t *testing.T) {
	r := rand.New(rand.NewPCG(3, 15))
	for _, many := range []int{0, 1, 5, 100, 2000, 20000, impl.MaxPacked} {
		for _, data := range kindsOfData(r, many) {
			for _, level := range []int{flate.NoCompression, flate.BestSpeed, 6, flate.BestCompression, flate.HuffmanOnly} {
				var packed bytes.Buffer
				w, err := flate.NewWriter(&packed, level)
				if err != nil {
					t.Fatal(err)
				}
				w.Write(data)
				w.Close()
				if packed.Len() > impl.MaxPacked {
					checkUnpack(t, "too long", packed.Bytes(), many, impl.Plain{Err: impl.ErrForm})
					continue
				}
				checkUnpack(t, "the library's", packed.Bytes(), many, impl.Plain{Data: data, Used: packed.Len()})
				if many > 0 {
					checkUnpack(t, "the library's, fewer asked", packed.Bytes(), many-1, impl.Plain{Err: impl.ErrMany})
				}
			}
		}
	}
}

// hurt turns some bits, or cuts.
func hurt(r *rand.Rand, data []byte) []byte {
	data = slices.Clone(data)
	for range r.IntN(4) {
		if len(data) > 0 {
			data[min(r.IntN(len(data)), r.IntN(len(data)))] ^= 1 << r.IntN(8)
		}
	}
	if r.IntN(4) == 0 {
		data = data[:r.IntN(len(data)+1)]
	}
	return data
}

func TestUnpackOfHurtBytes(t *testing.T) {
	r := rand.New(rand.NewPCG(3, 16))
	var whole [][]byte
	for _, many := range []int{2, 10, 40} {
		for _, data := range kindsOfData(r, many) {
			for kind := range 3 {
				whole = append(whole, impl.Pack(data, kind))
			}
		}
	}
	met := [8]int{}
	for range 12000 {
		data := hurt(r, whole[r.IntN(len(whole))])
		most := []int{0, 20, 45, 1000}[r.IntN(4)]
		want := slowUnpack(data, most)
		met[want.Err]++
		checkUnpack(t, "hurt", data, most, want)
	}
	for _, err := range []int{0, impl.ErrShort, impl.ErrSum, impl.ErrCode, impl.ErrRange, impl.ErrMany} {
		if met[err] < 20 {
			t.Errorf("error %d was met %d times", err, met[err])
		}
	}
}

func TestUnpackOfAnyBytes(t *testing.T) {
	r := rand.New(rand.NewPCG(3, 17))
	for n := range 1 << 16 {
		data := []byte{byte(n), byte(n >> 8)}
		checkUnpack(t, "two bytes", data, 1, slowUnpack(data, 1))
	}
	for n := range 6000 {
		data := someBytes(r, r.IntN(60))
		if len(data) > 0 && n%2 == 0 {
			// Few kinds of own codes are right by chance; these have no more symbols or ways back than may be.
			data[0] = data[0]&^7 | 5
			data[0] &^= 1 << 6
		}
		checkUnpack(t, "any bytes", data, 50, slowUnpack(data, 50))
	}
	for range 300 {
		data := someBytes(r, r.IntN(impl.MaxPacked+1))
		plain := impl.Unpack(data, impl.MaxPacked)
		if len(plain.Data) > impl.MaxPacked || plain.Used > len(data) || plain.Err != 0 && (len(plain.Data) > 0 || plain.Used != 0) {
			t.Fatalf("error %d, %d bytes of %d, used %d", plain.Err, len(plain.Data), len(data), plain.Used)
		}
	}
}

func TestUnpackReadsNoFurtherAndIsNewMemory(t *testing.T) {
	data := append(impl.Pack([]byte("stored"), impl.PackStored), 9)
	whole := impl.Plain{Data: []byte("stored"), Used: 11}
	clear(impl.Unpack(data, 6).Data)
	checkUnpack(t, "again", data, 6, whole)
	checkUnpack(t, "no further", data[:10], 6, impl.Plain{Err: impl.ErrShort})
	plain := impl.Unpack(data, 6)
	clear(data)
	checkPlain(t, "the data cleared", plain, whole)
}
