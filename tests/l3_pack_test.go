package tests

import (
	"bytes"
	"compress/flate"
	"fmt"
	"io"
	"math"
	"math/rand/v2"
	"slices"
	"strings"
	"testing"

	"loop.example/g00016/impl"
)

// lowBytes has the bits of a text from the lowest of each byte on; bits left over are 0.
func lowBytes(text string) []byte {
	data := make([]byte, (len(text)+7)/8)
	for i := range len(text) {
		data[i/8] |= (text[i] - '0') << (i % 8)
	}
	return data
}

// lowBits is the other way.
func lowBits(data []byte) string {
	var text strings.Builder
	for _, b := range data {
		text.WriteString(lowText(int(b), 8))
	}
	return text.String()
}

var lengthOrder = []int{16, 17, 18, 0, 8, 7, 9, 6, 10, 5, 11, 4, 12, 3, 13, 2, 14, 1, 15}

// tellingOf is one of the 19: 0..15 is a length, the others stand for several.
type tellingOf struct {
	symbol, many int
}

// repeats has of 16, 17 and 18 the least times and the further bits.
var repeats = map[int]span{16: {3, 2}, 17: {3, 3}, 18: {11, 7}}

// tellings has what is told of a row of lengths, run by run.
func tellings(row []int) []tellingOf {
	var list []tellingOf
	for len(row) > 0 {
		run := 1
		for run < len(row) && row[run] == row[0] {
			run++
		}
		list = append(list, tellingsOfRun(row[0], run)...)
		row = row[run:]
	}
	return list
}

func tellingsOfRun(length int, run int) []tellingOf {
	var list []tellingOf
	tell := func(symbol, many int) {
		list = append(list, tellingOf{symbol, many})
		run -= many
	}
	if length > 0 {
		tell(length, 1)
		for run >= 3 {
			tell(16, min(run, 6))
		}
	}
	for length == 0 && run >= 11 {
		tell(18, min(run, 138))
	}
	for length == 0 && run >= 3 {
		tell(17, run)
	}
	for run > 0 {
		tell(length, 1)
	}
	return list
}

func (c tellingOf) text(words []string) string {
	r := repeats[c.symbol]
	return words[c.symbol] + lowText(c.many-r.from, r.bits)
}

// ownHead has all of an own code that stands ahead of its pieces. Of the lengths of lengths so many are told.
func ownHead(symbols, backs []int, kinds []int, many int, list []tellingOf) string {
	var text strings.Builder
	text.WriteString(lowText(len(symbols)-257, 5) + lowText(len(backs)-1, 5) + lowText(many-4, 4))
	for _, kind := range lengthOrder[:many] {
		text.WriteString(lowText(kinds[kind], 3))
	}
	words := wordTexts(kinds)
	for _, c := range list {
		text.WriteString(c.text(words))
	}
	return text.String()
}

// behindLast is one more than the place of the last number above 0.
func behindLast(list []int) int {
	n := len(list)
	for n > 0 && list[n-1] == 0 {
		n--
	}
	return n
}

// ownCode has the lengths of an own code for pieces.
func ownCode(pieces []impl.Piece) ([]int, []int) {
	symbols, backs := make([]int, 286), make([]int, 30)
	symbols[256] = 1
	for _, p := range pieces {
		if p.Length == 0 {
			symbols[p.Literal]++
			continue
		}
		symbol, _ := toldBy(lengthSpans(), p.Length)
		symbols[257+symbol]++
		back, _ := toldBy(backSpans(), p.Back)
		backs[back]++
	}
	symbols, backs = lengthsByRows(symbols, 15), lengthsByRows(backs, 15)
	if behindLast(backs) == 0 {
		backs[0] = 1
	}
	return symbols[:max(257, behindLast(symbols))], backs[:max(1, behindLast(backs))]
}

// ownText has an own code and its pieces, by the document's words.
func ownText(pieces []impl.Piece) string {
	symbols, backs := ownCode(pieces)
	list := tellings(slices.Concat(symbols, backs))
	counts := make([]int, 19)
	for _, c := range list {
		counts[c.symbol]++
	}
	kinds := lengthsByRows(counts, 7)
	ordered := make([]int, 19)
	for i, kind := range lengthOrder {
		ordered[i] = kinds[kind]
	}
	c := coding{wordTexts(symbols), wordTexts(backs)}
	head := ownHead(symbols, backs, kinds, max(4, behindLast(ordered)), list)
	return head + c.piecesText(pieces) + c.symbols[256]
}

func packedByText(data []byte, kind int) []byte {
	pieces := impl.CutPieces(data)
	switch kind {
	case impl.PackStored:
		n := len(data)
		return append([]byte{1, byte(n), byte(n >> 8), ^byte(n), ^byte(n >> 8)}, data...)
	case impl.PackFixed:
		c := fixedCoding()
		return lowBytes("110" + c.piecesText(pieces) + c.symbols[256])
	}
	return lowBytes("101" + ownText(pieces))
}

// inflated is what the library makes of packed bytes.
func inflated(packed []byte) ([]byte, error) {
	return io.ReadAll(flate.NewReader(bytes.NewReader(packed)))
}

func checkPack(t *testing.T, data []byte) {
	t.Helper()
	for kind := range 3 {
		was := slices.Clone(data)
		packed := impl.Pack(data, kind)
		if !bytes.Equal(data, was) {
			t.Fatalf("Pack wrote its argument: %.100x, was %.100x", data, was)
		}
		if want := packedByText(data, kind); !bytes.Equal(packed, want) {
			t.Fatalf("Pack(%.100x, %d) = %.200x, not %.200x", data, kind, packed, want)
		}
		if plain, err := inflated(packed); err != nil || !bytes.Equal(plain, data) {
			t.Fatalf("Pack(%.100x, %d) is for the library %v: %.100x", data, kind, err, plain)
		}
		want := impl.Plain{Data: data, Used: len(packed)}
		checkPlain(t, "Unpack of Pack", impl.Unpack(packed, len(data)), want)
		checkPlain(t, "Unpack of Pack and more", impl.Unpack(append(packed, 0xFF, 0xFF), impl.MaxPacked), want)
		for _, most := range []int{0, len(data) / 2, len(data) - 1} {
			if most >= 0 && most < len(data) {
				checkPlain(t, "Unpack of too few", impl.Unpack(packed, most), impl.Plain{Err: impl.ErrMany})
			}
		}
	}
}

func TestPackByHand(t *testing.T) {
	for _, c := range []struct {
		data string
		kind int
		want []byte
	}{
		{"", impl.PackStored, []byte{1, 0, 0, 0xFF, 0xFF}},
		{"", impl.PackFixed, []byte{3, 0}},
		{"ab", impl.PackStored, []byte{1, 2, 0, 0xFD, 0xFF, 97, 98}},
		{"a", impl.PackFixed, []byte{0x4B, 0x04, 0x00}},
		// 1 10, 10010001 for a, 0000011 for a length of 5, 00000 for one back, 0000000.
		{"aaaaaa", impl.PackFixed, lowBytes("110" + "10010001" + "0000011" + "00000" + "0000000")},
		// 1 01, 257 and 1 and 18 lengths of lengths: 1 and 18 have one bit each. 256 zeros in two pieces; then 1 and 1; then the end.
		{"", impl.PackOwn, lowBytes("101" + "00000" + "00000" + "0111" + "000" + "000" + "100" + strings.Repeat("000", 14) + "100" +
			"1" + "1111111" + "1" + "1101011" + "0" + "0" + "0")},
	} {
		if got := impl.Pack([]byte(c.data), c.kind); !bytes.Equal(got, c.want) {
			t.Errorf("Pack(%q, %d) = %x, not %x", c.data, c.kind, got, c.want)
		}
	}
}

func TestPackOfKindsThatAreNone(t *testing.T) {
	for _, kind := range []int{-1, 3, 4, math.MinInt, math.MaxInt} {
		for _, data := range []string{"", "a", "hello hello hello"} {
			if packed := impl.Pack([]byte(data), kind); len(packed) > 0 {
				t.Errorf("Pack(%q, %d) = %x", data, kind, packed)
			}
			if wrapped := impl.Wrap([]byte(data), kind); len(wrapped) > 0 {
				t.Errorf("Wrap(%q, %d) = %x", data, kind, wrapped)
			}
		}
	}
}

func TestPackOfAllShortData(t *testing.T) {
	checkPack(t, nil)
	for b := range 256 {
		checkPack(t, []byte{byte(b)})
	}
	for n := range 1 << 8 {
		data := make([]byte, 8)
		for i := range data {
			data[i] = byte(n>>i&1) * 200
		}
		checkPack(t, data)
	}
}

func TestPackOfManyShapes(t *testing.T) {
	r := rand.New(rand.NewPCG(3, 7))
	for _, many := range []int{3, 7, 20, 50, 130, 258, 259, 300, 1000, 3000} {
		for _, data := range kindsOfData(r, many) {
			checkPack(t, data)
		}
	}
}

func TestPackOfAsManyBytesAsMayBe(t *testing.T) {
	r := rand.New(rand.NewPCG(3, 8))
	for _, data := range kindsOfData(r, impl.MaxPlain) {
		checkPack(t, data)
		for kind := range 3 {
			if packed := impl.Pack(append(data, 1), kind); len(packed) > 0 {
				t.Errorf("Pack of a byte too many by %d: %d bytes", kind, len(packed))
			}
		}
	}
}

// TestPackOwnOfWaysBack has none (one of length 1 is told then), one, and all that MaxPlain bytes can have.
func TestPackOwnOfWaysBack(t *testing.T) {
	r := rand.New(rand.NewPCG(3, 9))
	for _, c := range []struct {
		data  []byte
		backs []int
	}{
		{[]byte("abcdefgh"), []int{1}},
		{[]byte("aaaaaaaa"), []int{1}},
		{[]byte("abababab"), []int{0, 1}},
		{[]byte("abcdabcdabcd"), []int{0, 0, 0, 1}},
		{[]byte("aaaaaabababababab"), []int{1, 1}},
	} {
		if _, backs := ownCode(impl.CutPieces(c.data)); !slices.Equal(backs, c.backs) {
			t.Errorf("ways back of %q: %v", c.data, backs)
		}
		checkPack(t, c.data)
	}
	data := freshBytes(r, 1000)
	for back := 3; back < 4500; back = back*5/4 + 1 {
		for len(data) < back {
			data = append(data, byte(r.IntN(144)))
		}
		from := len(data) - back
		data = slices.Concat(data, []byte{byte(200 + r.IntN(50))}, data[from+1:min(len(data), from+9)])
	}
	if _, backs := ownCode(impl.CutPieces(data)); len(backs) < 20 {
		t.Errorf("too few ways back: %v", backs)
	}
	checkPack(t, data)
}

// someRuns makes data whose own codes have runs of all kinds: letters that come alike, some in a row, some apart.
func someRuns(r *rand.Rand) []byte {
	var data []byte
	letter := r.IntN(4)
	for letter < 256 {
		run := 1 + r.IntN(12)
		times := 1 + r.IntN(3)
		for ; run > 0 && letter < 256; run-- {
			for range times {
				data = append(data, byte(letter))
			}
			letter++
		}
		letter += []int{0, 1, 2, 3, 9, 10, 11, 12, 138, 139, 140, 141, 142}[r.IntN(13)]
	}
	r.Shuffle(len(data), func(i, j int) { data[i], data[j] = data[j], data[i] })
	return data
}

// someCopies makes data of few letters and short copies, so that lengths and ways back may be alike.
func someCopies(r *rand.Rand) []byte {
	data := []byte{255, 254, 253, 252}
	for range 4 + r.IntN(12) {
		from := max(0, len(data)-1-r.IntN(16))
		data = append(data, data[from:min(len(data), from+3+r.IntN(8))]...)
		data = append(data, byte(255-r.IntN(5)))
	}
	return data
}

// runsOf names the runs in a row, and those that go over from the symbols to the ways back.
func runsOf(symbols []int, backs []int) []string {
	var names []string
	row := slices.Concat(symbols, backs)
	for at := 0; at < len(row); {
		end := at
		for end < len(row) && row[end] == row[at] {
			end++
		}
		what := "alike"
		if row[at] == 0 {
			what = "zeros"
		}
		names = append(names, fmt.Sprint(what, " ", end-at))
		if at < len(symbols)-1 && end > len(symbols)+1 {
			names = append(names, "over")
		}
		at = end
	}
	return names
}

// TestPackOwnOfRuns goes on until each kind of run came.
func TestPackOwnOfRuns(t *testing.T) {
	r := rand.New(rand.NewPCG(3, 10))
	missing := map[string]bool{"over": true}
	for _, run := range []int{1, 2, 3, 4, 6, 7, 8, 9, 12, 13} {
		missing[fmt.Sprint("alike ", run)] = true
	}
	for _, run := range []int{1, 2, 3, 10, 11, 138, 139, 140, 141, 142} {
		missing[fmt.Sprint("zeros ", run)] = true
	}
	for n := 0; n < 300 || n < 20000 && len(missing) > 0; n++ {
		for _, data := range [][]byte{someRuns(r), someCopies(r)} {
			news := false
			for _, name := range runsOf(ownCode(impl.CutPieces(data))) {
				news = news || missing[name]
				delete(missing, name)
			}
			if news || n < 300 {
				checkPack(t, data)
			}
		}
	}
	if len(missing) > 0 {
		t.Errorf("these runs never came: %v", missing)
	}
}

// TestPackOwnOfLettersApart has two letters with each number of zeros between them.
func TestPackOwnOfLettersApart(t *testing.T) {
	for gap := range 254 {
		checkPack(t, []byte{0, byte(gap + 1)})
		checkPack(t, []byte{byte(gap + 1), byte(gap + 2)})
	}
}

// TestPackOwnNeverTellsOneLengthAlone: 256 has a length, and there are 258 lengths or more, so two of the 19 come.
func TestPackOwnNeverTellsOneLengthAlone(t *testing.T) {
	r := rand.New(rand.NewPCG(3, 11))
	all := make([]byte, 256)
	for i := range all {
		all[i] = byte(i)
	}
	for _, data := range append(kindsOfData(r, 600), nil, all, all[:255], all[:127]) {
		symbols, backs := ownCode(impl.CutPieces(data))
		list := tellings(slices.Concat(symbols, backs))
		if !slices.ContainsFunc(list, func(c tellingOf) bool { return c.symbol != list[0].symbol }) {
			t.Errorf("%.100x: %v", data, list)
		}
		checkPack(t, data)
	}
}

// unlikeLetters makes data of many letters, so that their lengths, and the lengths of these, are much unlike.
func unlikeLetters(r *rand.Rand) []byte {
	var data []byte
	share, step := r.Float64()*0.1, 1+r.IntN(20)
	for letter := range 250 {
		times := 1
		for times < 60 && r.Float64() < share*float64(letter%20+1) {
			times++
		}
		for range min(times, impl.MaxPlain-len(data)) {
			data = append(data, byte(letter*step))
		}
	}
	r.Shuffle(len(data), func(i, j int) { data[i], data[j] = data[j], data[i] })
	return data
}

// TestPackOwnKeepsItsLimit goes on until a code of the 19 without a limit had words of more than 7 bits.
func TestPackOwnKeepsItsLimit(t *testing.T) {
	r := rand.New(rand.NewPCG(3, 12))
	beyond := 0
	for range 200 {
		data := unlikeLetters(r)
		symbols, backs := ownCode(impl.CutPieces(data))
		counts := make([]int, 19)
		for _, c := range tellings(slices.Concat(symbols, backs)) {
			counts[c.symbol]++
		}
		if slices.Max(lengthsByRows(counts, 15)) > 7 {
			beyond++
			checkPack(t, data)
		}
	}
	if beyond < 5 {
		t.Errorf("only %d passed the limit", beyond)
	}
}

func TestPackReadsNoFurtherAndIsNewMemory(t *testing.T) {
	data := []byte("abcabcabcabc")
	for kind := range 3 {
		clear(impl.Pack(data[:6], kind))
		if got := impl.Pack(data[:6], kind); !bytes.Equal(got, packedByText(data[:6], kind)) {
			t.Errorf("Pack(%q, %d) = %x", data[:6], kind, got)
		}
	}
	checkPack(t, data)
}
