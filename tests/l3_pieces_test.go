package tests

import (
	"bytes"
	"math"
	"math/rand/v2"
	"slices"
	"strings"
	"testing"

	"loop.example/g00016/impl"
)

// span is a symbol of the document's tables: the first number that it stands for, and its further bits.
type span struct {
	from, bits int
}

// lengthSpans has the symbols from 257 on.
func lengthSpans() []span {
	var spans []span
	for length := 3; length <= 10; length++ {
		spans = append(spans, span{length, 0})
	}
	for i, from := range []int{11, 19, 35, 67, 131} {
		for k := range 4 {
			spans = append(spans, span{from + k<<(i+1), i + 1})
		}
	}
	return append(spans, span{258, 0})
}

func backSpans() []span {
	spans := []span{{1, 0}, {2, 0}, {3, 0}, {4, 0}}
	next := 5
	for k := 2; k <= 14; k++ {
		for range 2 {
			spans = append(spans, span{next, k - 1})
			next += 1 << (k - 1)
		}
	}
	return spans
}

// toldBy is the last symbol that begins at or below n, and the text of its further bits.
func toldBy(spans []span, n int) (int, string) {
	symbol := len(spans) - 1
	for spans[symbol].from > n {
		symbol--
	}
	return symbol, lowText(n-spans[symbol].from, spans[symbol].bits)
}

// lowText has a number's bits, the lowest first.
func lowText(n int, bits int) string {
	var text strings.Builder
	for i := range bits {
		text.WriteByte(byte('0' + n>>i&1))
	}
	return text.String()
}

// coding is a code for pieces as texts: words of symbols, and of ways back.
type coding struct {
	symbols, backs []string
}

func fixedCoding() coding {
	lengths := slices.Concat(alike(8, 144), alike(9, 112), alike(7, 24), alike(8, 8))
	return coding{wordTexts(lengths), wordTexts(alike(5, 32))}
}

// pieceText has the bits of one piece.
func (c coding) pieceText(p impl.Piece) string {
	if p.Length == 0 {
		return c.symbols[p.Literal]
	}
	symbol, further := toldBy(lengthSpans(), p.Length)
	back, furtherBack := toldBy(backSpans(), p.Back)
	return c.symbols[257+symbol] + further + c.backs[back] + furtherBack
}

func (c coding) piecesText(pieces []impl.Piece) string {
	var text strings.Builder
	for _, p := range pieces {
		text.WriteString(c.pieceText(p))
	}
	return text.String()
}

// reach is how many bytes a piece tells.
func reach(p impl.Piece) int {
	return max(1, p.Length)
}

// inOrder says which of two rows for the same bytes CutPieces would rather have, by its four sentences.
func inOrder(c coding, a, b []impl.Piece) int {
	if n := len(c.piecesText(a)) - len(c.piecesText(b)); n != 0 {
		return n
	}
	if n := len(a) - len(b); n != 0 {
		return n
	}
	for i := range a {
		if n := reach(b[i]) - reach(a[i]); n != 0 {
			return n
		}
	}
	for i := range a {
		if n := a[i].Back - b[i].Back; n != 0 {
			return n
		}
	}
	return 0
}

// bestOfAll goes over all rows of pieces for data.
func bestOfAll(c coding, data []byte) []impl.Piece {
	var best, row []impl.Piece
	found := false
	var try func(at int)
	try = func(at int) {
		if at == len(data) {
			if !found || inOrder(c, row, best) < 0 {
				best, found = slices.Clone(row), true
			}
			return
		}
		row = append(row, impl.Piece{Literal: int(data[at])})
		try(at + 1)
		row = row[:len(row)-1]
		for back := 1; back <= at; back++ {
			for length := 1; at+length <= len(data) && data[at+length-1] == data[at+length-1-back]; length++ {
				if length >= 3 && length <= 258 {
					row = append(row, impl.Piece{Length: length, Back: back})
					try(at + length)
					row = row[:len(row)-1]
				}
			}
		}
	}
	try(0)
	return best
}

// bitsOfLengths and bitsOfBacks have what a number costs in the fixed code.
func bitsOfLengths() [259]int {
	var bits [259]int
	c := fixedCoding()
	for length := 3; length <= 258; length++ {
		symbol, further := toldBy(lengthSpans(), length)
		bits[length] = len(c.symbols[257+symbol]) + len(further)
	}
	return bits
}

func bitsOfBacks() [impl.MaxPlain]int {
	var bits [impl.MaxPlain]int
	for back := 1; back < len(bits); back++ {
		_, further := toldBy(backSpans(), back)
		bits[back] = 5 + len(further)
	}
	return bits
}

var (
	lengthBits = bitsOfLengths()
	backBits   = bitsOfBacks()
)

// slowRow is a row of pieces from some place on.
type slowRow struct {
	cost, count int
	first       impl.Piece
}

func (r slowRow) behind(p impl.Piece) slowRow {
	bits := lengthBits[p.Length] + backBits[p.Back]
	if p.Length == 0 {
		bits = 8
		if p.Literal >= 144 {
			bits = 9
		}
	}
	return slowRow{r.cost + bits, r.count + 1, p}
}

// nearest has of each length, up to most, the least way back from a place; 0 where there is none. alikeFrom has for
// each place how many bytes from there on are as those from the place behind on; it is changed to those from this one on.
func nearest(data []byte, at int, most int, alikeFrom []int) [259]int {
	var back [259]int
	for from := range at {
		if data[from] == data[at] {
			alikeFrom[from] = alikeFrom[from+1] + 1
			back[min(alikeFrom[from], most)] = at - from
		} else {
			alikeFrom[from] = 0
		}
	}
	for length := most - 1; length > 0; length-- {
		if longer := back[length+1]; longer > 0 && (back[length] == 0 || longer < back[length]) {
			back[length] = longer
		}
	}
	return back
}

// slowCut holds each place against each one ahead of it, and tries each length with its least way back, the longest first.
func slowCut(data []byte) []impl.Piece {
	rows, alikeFrom := make([]slowRow, len(data)+1), make([]int, len(data)+1)
	for at := len(data) - 1; at >= 0; at-- {
		most := min(258, len(data)-at)
		back := nearest(data, at, most, alikeFrom)
		best := slowRow{cost: math.MaxInt}
		for length := most; length > 0; length-- {
			p := impl.Piece{Length: length, Back: back[length]}
			switch {
			case length == 1:
				p = impl.Piece{Literal: int(data[at])}
			case length == 2 || p.Back == 0:
				continue
			}
			if next := rows[at+length].behind(p); next.cost < best.cost || next.cost == best.cost && next.count < best.count {
				best = next
			}
		}
		rows[at] = best
	}
	var row []impl.Piece
	for at := 0; at < len(data); at += reach(rows[at].first) {
		row = append(row, rows[at].first)
	}
	return row
}

func checkPlain(t *testing.T, what string, got impl.Plain, want impl.Plain) {
	t.Helper()
	if got.Err != want.Err || got.Used != want.Used || !bytes.Equal(got.Data, want.Data) {
		t.Fatalf("%s: error %d, used %d, %d bytes %.40x, not error %d, used %d, %d bytes %.40x",
			what, got.Err, got.Used, len(got.Data), got.Data, want.Err, want.Used, len(want.Data), want.Data)
	}
}

func checkCut(t *testing.T, data []byte, want []impl.Piece) {
	t.Helper()
	was := slices.Clone(data)
	got := impl.CutPieces(data)
	if !slices.Equal(got, want) {
		t.Fatalf("CutPieces(%.100x) = %v, not %v", data, got, want)
	}
	if !bytes.Equal(data, was) {
		t.Fatalf("CutPieces wrote its argument: %.100x, was %.100x", data, was)
	}
	checkPlain(t, "JoinPieces of CutPieces", impl.JoinPieces(got), impl.Plain{Data: data})
}

func literals(text string) []impl.Piece {
	pieces := make([]impl.Piece, len(text))
	for i := range len(text) {
		pieces[i].Literal = int(text[i])
	}
	return pieces
}

func copied(length int, back int) impl.Piece {
	return impl.Piece{Length: length, Back: back}
}

// freshBytes has no three bytes twice, and none of 144 or above.
func freshBytes(r *rand.Rand, many int) []byte {
	seen := map[string]bool{}
	data := []byte{1, 2}
	for len(data) < many {
		next := append(data, byte(r.IntN(144)))
		if three := string(next[len(next)-3:]); !seen[three] {
			seen[three], data = true, next
		}
	}
	return data
}

// kindsOfData has data of many shapes, so many bytes of each.
func kindsOfData(r *rand.Rand, many int) [][]byte {
	var all [][]byte
	for _, letters := range []int{1, 2, 3, 5, 20, 256} {
		data := make([]byte, many)
		for i := range data {
			data[i] = byte(140 + r.IntN(letters))
		}
		all = append(all, data)
	}
	for _, period := range []int{1, 2, 7, 300, 1000} {
		for _, rare := range []int{10, 100} {
			data := make([]byte, many)
			for i := range data {
				data[i] = byte(i % period * 37)
				if r.IntN(rare) == 0 {
					data[i] = byte(r.Uint32())
				}
			}
			all = append(all, data)
		}
	}
	words := strings.Fields("to be or not to be that is the question whether tis nobler in the mind to suffer")
	var text []byte
	for len(text) < many {
		text = append(append(text, words[r.IntN(len(words))]...), ' ')
	}
	return append(all, text[:many], freshBytes(r, many+3)[3:])
}

func TestCutByHand(t *testing.T) {
	for _, c := range []struct {
		data string
		want []impl.Piece
	}{
		{"", nil},
		{"a", literals("a")},
		{"\xff", literals("\xff")},
		{"aa", literals("aa")},
		{"aaa", literals("aaa")},
		{"aaaa", append(literals("a"), copied(3, 1))},
		{"aaaaaa", append(literals("a"), copied(5, 1))},
		{"ababa", append(literals("ab"), copied(3, 2))},
		{"abababab", append(literals("ab"), copied(6, 2))},
		{"abcabcabc", append(literals("abc"), copied(6, 3))},
		{"abcdabc", append(literals("abcd"), copied(3, 4))},
		{"abcdab", literals("abcdab")},
		// Both ways back tell three bytes; the least is taken.
		{"abc1abc2abc", slices.Concat(literals("abc1"), []impl.Piece{copied(3, 4)}, literals("2"), []impl.Piece{copied(3, 4)})},
		// A longer copy may come from further back.
		{"abcd1abc2abcd", slices.Concat(literals("abcd1"), []impl.Piece{copied(3, 5)}, literals("2"), []impl.Piece{copied(4, 9)})},
	} {
		checkCut(t, []byte(c.data), c.want)
	}
}

func TestCutCostsLeastOfAllRows(t *testing.T) {
	c := fixedCoding()
	letters := []byte{97, 200, 98}
	for _, set := range []struct{ letters, most int }{{1, 12}, {2, 11}, {3, 7}} {
		for many := range set.most + 1 {
			total := 1
			for range many {
				total *= set.letters
			}
			for n := range total {
				data := make([]byte, many)
				for i := range data {
					data[i] = letters[n%set.letters]
					n /= set.letters
				}
				checkCut(t, data, bestOfAll(c, data))
			}
		}
	}
}

// TestCutCostsLeastOfSomeRows has bytes between, so that ways back have further bits.
func TestCutCostsLeastOfSomeRows(t *testing.T) {
	c := fixedCoding()
	r := rand.New(rand.NewPCG(3, 1))
	for range 300 {
		data := someBytes(r, 4)
		for range 3 {
			from := r.IntN(len(data) - 2)
			again := data[from:min(len(data), from+3+r.IntN(3))]
			data = slices.Concat(data, someBytes(r, r.IntN(9)), again)
		}
		checkCut(t, data, bestOfAll(c, data))
	}
}

func TestCutIsThatOfASlowOne(t *testing.T) {
	r := rand.New(rand.NewPCG(3, 2))
	for many := range 120 {
		for _, data := range kindsOfData(r, many) {
			checkCut(t, data, slowCut(data))
		}
	}
	for _, many := range []int{257, 258, 259, 260, 261, 262, 516, 517, 518, 519, 520, 700, 1500} {
		for _, data := range kindsOfData(r, many) {
			checkCut(t, data, slowCut(data))
		}
	}
}

func TestCutOfAsManyBytesAsMayBe(t *testing.T) {
	if impl.MaxPlain != 6000 || impl.MaxPacked != 40000 || impl.MaxBack != 32768 {
		t.Errorf("limits: %d %d %d", impl.MaxPlain, impl.MaxPacked, impl.MaxBack)
	}
	r := rand.New(rand.NewPCG(3, 3))
	for _, data := range kindsOfData(r, impl.MaxPlain) {
		checkCut(t, data, slowCut(data))
	}
	for _, data := range kindsOfData(r, impl.MaxPlain+1) {
		if pieces := impl.CutPieces(data); len(pieces) > 0 {
			t.Errorf("CutPieces of a byte too many: %d pieces", len(pieces))
		}
	}
}

// TestCutOfAlikeBytes: a copy of 258 is cheap, so of rows with as many pieces the first ones are the longest.
func TestCutOfAlikeBytes(t *testing.T) {
	for _, c := range []struct {
		many int
		want []impl.Piece
	}{
		{258, []impl.Piece{copied(257, 1)}},
		{259, []impl.Piece{copied(258, 1)}},
		{260, []impl.Piece{copied(258, 1), {}}},
		{261, []impl.Piece{copied(258, 1), {}, {}}},
		{262, []impl.Piece{copied(258, 1), copied(3, 1)}},
		{517, []impl.Piece{copied(258, 1), copied(258, 1)}},
		{775, []impl.Piece{copied(258, 1), copied(258, 1), copied(258, 1)}},
	} {
		want := append([]impl.Piece{{}}, c.want...)
		checkCut(t, make([]byte, c.many), want)
	}
}

func TestCutOfCopiesOfEachLength(t *testing.T) {
	r := rand.New(rand.NewPCG(3, 4))
	fresh := freshBytes(r, 700)
	for length := 3; length <= 258; length++ {
		// A literal ahead of the copy, one that was not there, so that no copy goes over both.
		data := slices.Concat(fresh[:300], []byte{250}, fresh[20:20+length])
		want := append(literals(string(data[:301])), copied(length, 281))
		checkCut(t, data, want)
	}
	data := slices.Concat(fresh[:300], []byte{250}, fresh[20:279])
	checkCut(t, data, slowCut(data))
	if pieces := impl.CutPieces(data); len(pieces) != 303 {
		t.Errorf("259 bytes again: %v", pieces[301:])
	}
}

// TestCutOfFarCopies: within MaxPlain bytes no way back costs as much as the three literals that it saves, but a
// longer copy from far may cost more than a literal and a near one.
func TestCutOfFarCopies(t *testing.T) {
	r := rand.New(rand.NewPCG(3, 5))
	for _, back := range []int{3, 4, 5, 6, 7, 8, 9, 4096, 4097, 5996, 5997} {
		fresh := freshBytes(r, back)
		data := append(fresh, fresh[:3]...)
		checkCut(t, data, append(literals(string(fresh)), copied(3, back)))
	}
	fresh := freshBytes(r, 5000)
	// "wxyz" stands far ahead, "xyz" near: 7 + 5 + 11 bits against 8 and 7 + 5 + 1.
	data := slices.Concat([]byte{200, 201, 202, 203}, fresh, []byte{201, 202, 203, 210, 211, 200, 201, 202, 203})
	pieces := impl.CutPieces(data)
	if last := pieces[len(pieces)-2:]; !slices.Equal(last, []impl.Piece{{Literal: 200}, copied(3, 6)}) {
		t.Errorf("a literal and a near copy: %v", last)
	}
	data = slices.Concat([]byte{200, 201, 202, 203}, fresh, []byte{210, 211, 200, 201, 202, 203})
	pieces = impl.CutPieces(data)
	if last := pieces[len(pieces)-1]; last != copied(4, 5006) {
		t.Errorf("a copy from far: %v", last)
	}
}

func TestCutReadsNoFurtherAndIsNewMemory(t *testing.T) {
	data := []byte("abcabcabcabc")
	checkCut(t, data[:6], append(literals("abc"), copied(3, 3)))
	clear(impl.CutPieces(data))
	checkCut(t, data, append(literals("abc"), copied(9, 3)))
}

func TestJoinByHand(t *testing.T) {
	form, far := impl.Plain{Err: impl.ErrForm}, impl.Plain{Err: impl.ErrRange}
	a := impl.Piece{Literal: 97}
	for _, c := range []struct {
		pieces []impl.Piece
		want   impl.Plain
	}{
		{nil, impl.Plain{}},
		{[]impl.Piece{{}}, impl.Plain{Data: []byte{0}}},
		{[]impl.Piece{{Literal: 255}}, impl.Plain{Data: []byte{255}}},
		{[]impl.Piece{a, copied(3, 1)}, impl.Plain{Data: []byte("aaaa")}},
		{append(literals("abc"), copied(7, 3)), impl.Plain{Data: []byte("abcabcabca")}},
		{append(literals("abc"), copied(4, 2)), impl.Plain{Data: []byte("abcbcbc")}},
		{append(literals("abcd"), copied(3, 4), copied(3, 2)), impl.Plain{Data: []byte("abcdabcbcb")}},
		{[]impl.Piece{a, copied(258, 1)}, impl.Plain{Data: bytes.Repeat([]byte("a"), 259)}},

		{[]impl.Piece{{Literal: -1}}, form},
		{[]impl.Piece{{Literal: 256}}, form},
		{[]impl.Piece{{Literal: math.MinInt}}, form},
		{[]impl.Piece{{Literal: math.MaxInt}}, form},
		{[]impl.Piece{a, {Literal: 97, Length: 3, Back: 1}}, form},
		{[]impl.Piece{a, {Literal: 97, Length: 3}}, form},
		{[]impl.Piece{a, {Literal: 97, Back: 1}}, form},
		{[]impl.Piece{a, copied(0, 1)}, form},
		{[]impl.Piece{a, copied(1, 1)}, form},
		{[]impl.Piece{a, copied(2, 1)}, form},
		{[]impl.Piece{a, copied(259, 1)}, form},
		{[]impl.Piece{a, copied(-3, 1)}, form},
		{[]impl.Piece{a, copied(math.MaxInt, 1)}, form},
		{[]impl.Piece{a, copied(math.MinInt, 1)}, form},
		{[]impl.Piece{a, copied(3, 0)}, form},
		{[]impl.Piece{a, copied(3, -1)}, form},
		{[]impl.Piece{a, copied(3, impl.MaxBack+1)}, form},
		{[]impl.Piece{a, copied(3, math.MaxInt)}, form},
		{[]impl.Piece{a, copied(3, math.MinInt)}, form},

		{[]impl.Piece{copied(3, 1)}, far},
		{[]impl.Piece{a, copied(3, 2)}, far},
		{[]impl.Piece{a, copied(3, 1), copied(3, 5)}, far},
		{[]impl.Piece{a, copied(3, impl.MaxBack)}, far},

		// The piece that comes first ends it.
		{[]impl.Piece{copied(3, 1), {Literal: -1}}, far},
		{[]impl.Piece{{Literal: -1}, copied(3, 1)}, form},
		{[]impl.Piece{copied(2, 1)}, form},
	} {
		was := slices.Clone(c.pieces)
		checkPlain(t, "JoinPieces", impl.JoinPieces(c.pieces), c.want)
		if !slices.Equal(c.pieces, was) {
			t.Errorf("JoinPieces wrote its argument: %v", c.pieces)
		}
	}
}

func TestJoinFromAsFarAsMayBe(t *testing.T) {
	data := someBytes(rand.New(rand.NewPCG(3, 6)), impl.MaxBack+1)
	pieces := literals(string(data))
	whole := impl.JoinPieces(append(pieces, copied(5, impl.MaxBack)))
	checkPlain(t, "from MaxBack", whole, impl.Plain{Data: slices.Concat(data, data[1:6])})
	short := impl.JoinPieces(append(pieces[:impl.MaxBack-1:impl.MaxBack-1], copied(5, impl.MaxBack)))
	checkPlain(t, "from ahead of the beginning", short, impl.Plain{Err: impl.ErrRange})
	exact := impl.JoinPieces(append(pieces[:impl.MaxBack:impl.MaxBack], copied(5, impl.MaxBack)))
	checkPlain(t, "from the beginning", exact, impl.Plain{Data: slices.Concat(data[:impl.MaxBack], data[:5])})
}

// fullPieces has pieces of so many bytes, all of them 0: two literals, long copies, and one more.
func fullPieces(many int) []impl.Piece {
	pieces := []impl.Piece{{}, {}}
	left := many - 2
	for ; left >= 258+3; left -= 258 {
		pieces = append(pieces, copied(258, 1))
	}
	if left > 258 {
		pieces = append(pieces, copied(3, 1))
		left -= 3
	}
	return append(pieces, copied(left, 1))
}

func TestJoinOfAsManyAsMayBe(t *testing.T) {
	many, none := impl.Plain{Err: impl.ErrMany}, impl.Plain{Data: make([]byte, impl.MaxPacked)}
	full := fullPieces(impl.MaxPacked)
	checkPlain(t, "just MaxPacked bytes", impl.JoinPieces(full), none)
	checkPlain(t, "one literal more", impl.JoinPieces(append(full, impl.Piece{})), many)
	checkPlain(t, "one copy more", impl.JoinPieces(append(full, copied(3, 1))), many)
	checkPlain(t, "a copy of one byte more", impl.JoinPieces(fullPieces(impl.MaxPacked+1)), many)
	checkPlain(t, "a piece that is none behind", impl.JoinPieces(append(full, copied(2, 1))), impl.Plain{Err: impl.ErrForm})
	checkPlain(t, "too much ahead of what is none", impl.JoinPieces(append(full, impl.Piece{}, copied(2, 1))), many)

	pieces := make([]impl.Piece, impl.MaxPacked+1)
	checkPlain(t, "just MaxPacked pieces", impl.JoinPieces(pieces[:impl.MaxPacked]), none)
	checkPlain(t, "a piece too many", impl.JoinPieces(pieces), many)
	pieces[0] = impl.Piece{Literal: -1}
	checkPlain(t, "a piece too many is asked first", impl.JoinPieces(pieces), many)
	checkPlain(t, "just MaxPacked pieces, the first one none", impl.JoinPieces(pieces[:impl.MaxPacked]), impl.Plain{Err: impl.ErrForm})
	pieces[0] = copied(3, 1)
	checkPlain(t, "a piece too many, the first one from ahead", impl.JoinPieces(pieces), many)
	checkPlain(t, "just MaxPacked pieces, the first one from ahead", impl.JoinPieces(pieces[:impl.MaxPacked]), impl.Plain{Err: impl.ErrRange})
}

func TestJoinIsNewMemory(t *testing.T) {
	pieces := append(literals("ab"), copied(3, 2))
	clear(impl.JoinPieces(pieces).Data)
	checkPlain(t, "again", impl.JoinPieces(pieces), impl.Plain{Data: []byte("ababa")})
	checkPlain(t, "no further", impl.JoinPieces(pieces[:2]), impl.Plain{Data: []byte("ab")})
}
