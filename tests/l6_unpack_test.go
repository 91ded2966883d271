package tests

import (
	"bytes"
	"math"
	"math/rand/v2"
	"slices"
	"strconv"
	"testing"

	"loop.example/g00016/impl"
)

// slowUnwords keeps each longer word of the book whole; it panics with the error.
func slowUnwords(bits int, data []byte, most int) impl.Symbols {
	in := slowReader{bits: lowBits(data)}
	book := map[int][]int{}
	var list, last []int
	count := 0
	for first := true; ; first = false {
		word := in.number(widthOfWords(bits, count))
		switch {
		case word == 1<<bits:
			clear(book)
			count = 0
			continue
		case first:
			panic(impl.ErrOrder)
		case word == 1<<bits+1:
			return impl.Symbols{List: list, Next: (in.at + 7) / 8}
		}
		count++
		made := 1<<bits + count
		numbers, known := book[word]
		if word < 1<<bits {
			numbers, known = []int{word}, true
		}
		if count > 1 && made < 4096 {
			if word == made {
				numbers, known = append(slices.Clone(last), last[0]), true
			}
			if known {
				book[made] = append(slices.Clone(last), numbers[0])
			}
		}
		if !known {
			panic(impl.ErrCode)
		}
		if len(list)+len(numbers) > most {
			panic(impl.ErrMany)
		}
		list = append(list, numbers...)
		last = numbers
	}
}

func slowWordsUnpack(bits int, data []byte, most int) impl.Symbols {
	if bits < 2 || bits > 8 || most < 0 || most > 20000 || len(data) > 60000 {
		return impl.Symbols{Err: impl.ErrForm}
	}
	var s impl.Symbols
	if err := codeOfPanic(func() { s = slowUnwords(bits, data, most) }); err != 0 {
		return impl.Symbols{Err: err}
	}
	return s
}

func checkUnwords(t *testing.T, what string, bits int, data []byte, most int, err int) {
	t.Helper()
	was := slices.Clone(data)
	got, want := impl.WordsUnpack(bits, data, most), slowWordsUnpack(bits, data, most)
	if got.Err != err || want.Err != err {
		t.Errorf("%s, bits %d, at most %d: error %d, not %d (a slow reader: %d)", what, bits, most, got.Err, err, want.Err)
	}
	if !sameSymbols(got, want) {
		t.Errorf("%s, bits %d, at most %d: %d numbers and %d bytes, not %d and %d", what, bits, most, len(got.List), got.Next, len(want.List), want.Next)
	}
	if !bytes.Equal(data, was) {
		t.Errorf("%s, bits %d: the data were written", what, bits)
	}
}

func TestWordsUnpackByHand(t *testing.T) {
	for _, c := range []struct {
		what string
		text string
		want impl.Symbols
	}{
		{"end alone", "001" + "101", impl.Symbols{Next: 1}},
		{"clear behind clear", "001" + "001" + "001" + "101", impl.Symbols{Next: 2}},
		{"a word", "001" + "110" + "101", impl.Symbols{List: []int{3}, Next: 2}},
		{"two words, the newest one of four bits", "001" + "110" + "010" + "101", impl.Symbols{List: []int{3, 2}, Next: 2}},
		{"three words", "001" + "110" + "010" + "000" + "1010", impl.Symbols{List: []int{3, 2, 0}, Next: 2}},
		{"the word that is just being made", "001" + "110" + "011" + "101", impl.Symbols{List: []int{3, 3, 3}, Next: 2}},
		{"that one twice", "001" + "110" + "011" + "111" + "1010", impl.Symbols{List: []int{3, 3, 3, 3, 3, 3}, Next: 2}},
		{"a word that was made ahead", "001" + "000" + "100" + "011" + "0110" + "1010", impl.Symbols{List: []int{0, 1, 0, 1, 0, 1}, Next: 3}},
		{"the last one made, behind another", "001" + "000" + "100" + "111" + "1010", impl.Symbols{List: []int{0, 1, 1, 1}, Next: 2}},
		{"clear between", "001" + "000" + "011" + "001" + "100" + "011" + "101", impl.Symbols{List: []int{0, 0, 0, 1, 1, 1}, Next: 3}},
		{"clear behind a word of four bits", "001" + "000" + "100" + "010" + "0010" + "110" + "101", impl.Symbols{List: []int{0, 1, 2, 3}, Next: 3}},
		{"no clear first", "000" + "101", impl.Symbols{Err: impl.ErrOrder}},
		{"end first", "101" + "001" + "101", impl.Symbols{Err: impl.ErrOrder}},
		{"a longer word first", "011" + "001" + "101", impl.Symbols{Err: impl.ErrOrder}},
		{"a longer word behind clear", "001" + "011" + "101", impl.Symbols{Err: impl.ErrCode}},
		{"another one behind clear", "001" + "111" + "101", impl.Symbols{Err: impl.ErrCode}},
		{"a longer word behind a second clear", "001" + "000" + "000" + "001" + "011" + "101", impl.Symbols{Err: impl.ErrCode}},
		{"one beyond the word that is just being made", "001" + "000" + "111" + "101", impl.Symbols{Err: impl.ErrCode}},
		{"one beyond, later", "001" + "000" + "000" + "000" + "1001" + "1010", impl.Symbols{Err: impl.ErrCode}},
		{"one far beyond", "001" + "000" + "000" + "000" + "1111" + "1010", impl.Symbols{Err: impl.ErrCode}},
		{"no end", "001" + "000" + "00", impl.Symbols{Err: impl.ErrShort}},
		{"nothing", "", impl.Symbols{Err: impl.ErrShort}},
		{"bits left over behind end", "001" + "101" + "11", impl.Symbols{Next: 1}},
		{"bytes behind end", "001" + "101" + "11" + "1111111100000000", impl.Symbols{Next: 1}},
		{"end with the last bit of a byte", "001" + "000" + "100" + "010" + "1010" + "11111111", impl.Symbols{List: []int{0, 1, 2}, Next: 2}},
	} {
		data := lowBytes(c.text)
		if got := impl.WordsUnpack(2, data, 100); !sameSymbols(got, c.want) {
			t.Errorf("%s: %v, not %v", c.what, got, c.want)
		}
		checkUnwords(t, c.what, 2, data, 100, c.want.Err)
	}
}

func TestWordsUnpackAsksItsArgumentsFirst(t *testing.T) {
	good := impl.WordsPack(2, []int{0, 1})
	for _, data := range [][]byte{good, nil, {0}, {255, 255}, impl.WordsPack(8, []int{0, 1})} {
		for _, bits := range []int{math.MinInt, -1, 0, 1, 9, 10, 12, 64, math.MaxInt} {
			checkUnwords(t, "other bits", bits, data, 2, impl.ErrForm)
		}
		for _, most := range []int{math.MinInt, -2, -1, 20001, 1 << 32, math.MaxInt} {
			checkUnwords(t, "another most", 2, data, most, impl.ErrForm)
			checkUnwords(t, "another most", 8, data, most, impl.ErrForm)
		}
	}
	checkUnwords(t, "the greatest most", 2, good, impl.MaxFields, 0)
	checkUnwords(t, "bytes behind, as many as may be", 2, slices.Concat(good, make([]byte, impl.MaxFile-len(good))), 2, 0)
	checkUnwords(t, "one byte more", 2, slices.Concat(good, make([]byte, impl.MaxFile-len(good)+1)), 2, impl.ErrForm)
	checkUnwords(t, "one byte more, none of them good", 2, make([]byte, impl.MaxFile+1), 2, impl.ErrForm)
	checkUnwords(t, "as many as may be, none of them good", 2, make([]byte, impl.MaxFile), 2, impl.ErrOrder)
}

func TestWordsUnpackOfAsManyBytesAsMayBe(t *testing.T) {
	for bits := 2; bits <= 8; bits++ {
		w := teller{bits: bits}
		for len(w.text)+2*(bits+1) <= 8*impl.MaxFile {
			w.clear()
		}
		checkUnwords(t, "clears alone", bits, w.data(), 5, impl.ErrShort)
		data := w.end()
		if len(data) != impl.MaxFile {
			t.Fatalf("bits %d: %d bytes", bits, len(data))
		}
		checkUnwords(t, "clears and end", bits, data, 0, 0)
		checkUnwords(t, "clears and end, and one byte behind", bits, append(data, 0), 0, impl.ErrForm)
	}
}

func TestWordsUnpackOfClears(t *testing.T) {
	r := rand.New(rand.NewPCG(6, 3))
	for range 500 {
		w := teller{bits: 2 + r.IntN(7)}
		w.clear()
		for range r.IntN(60) {
			switch {
			case r.IntN(4) == 0:
				w.clear()
			case w.count > 0 && r.IntN(2) == 0:
				w.words(1<<w.bits + 2 + r.IntN(w.count))
			default:
				w.words(r.IntN(1 << w.bits))
			}
		}
		data := w.end()
		want := slowWordsUnpack(w.bits, data, 20000)
		if want.Err != 0 {
			t.Fatalf("bits %d: %v is read with error %d", w.bits, w.told, want.Err)
		}
		many := len(want.List)
		checkUnwords(t, "clears between", w.bits, data, many, 0)
		checkUnwords(t, "clears between, any number", w.bits, data, 20000, 0)
		if many > 0 {
			checkUnwords(t, "clears between, one number fewer", w.bits, data, many-1, impl.ErrMany)
		}
	}
}

// spreadWords are single numbers, so many of them.
func spreadWords(bits int, many int) []int {
	list := make([]int, many)
	for i := range list {
		list[i] = i * 5 % (1 << bits)
	}
	return list
}

func TestWordsUnpackWhereOneWidthPassesToTheNext(t *testing.T) {
	for bits := 2; bits <= 8; bits++ {
		for _, passing := range passingCounts(bits) {
			for count := max(0, passing-3); count <= passing+3; count++ {
				what := strconv.Itoa(count) + " words"
				start := teller{bits: bits}
				start.clear()
				start.words(spreadWords(bits, count)...)
				with := func(more func(*teller)) []byte {
					w := start
					w.text = slices.Clone(w.text)
					more(&w)
					return w.end()
				}
				checkUnwords(t, what+" and end", bits, with(func(w *teller) {}), count, 0)
				checkUnwords(t, what+" and clear", bits, with(func(w *teller) { w.clear() }), count, 0)
				checkUnwords(t, what+", clear and a word", bits, with(func(w *teller) { w.clear(); w.words(1) }), count+1, 0)
				checkUnwords(t, what+" and one more", bits, with(func(w *teller) { w.words(1) }), count+1, 0)
				newest := 1<<bits + 1 + count
				want := 0
				if count == 0 {
					continue
				}
				if newest >= 4096 {
					want, newest = 0, 4095
				}
				checkUnwords(t, what+" and the newest", bits, with(func(w *teller) { w.words(newest) }), 20000, want)
				if width := widthOfWords(bits, count); newest+1 < 1<<width {
					checkUnwords(t, what+" and one beyond the newest", bits, with(func(w *teller) { w.words(newest + 1) }), 20000, impl.ErrCode)
				}
			}
		}
	}
}

func TestWordsUnpackOfTheFullBook(t *testing.T) {
	r := rand.New(rand.NewPCG(6, 4))
	for bits := 2; bits <= 8; bits++ {
		full := fullCount(bits)
		for _, more := range []int{-1, 0, 1, 2, 50, 3000} {
			w := teller{bits: bits}
			w.clear()
			w.words(spreadWords(bits, full)...)
			for i := range more {
				// Each word of the full book may be told, and none is made.
				switch i % 4 {
				case 0:
					w.words(4095)
				case 1:
					w.words(r.IntN(1 << bits))
				case 2:
					w.words(1<<bits + 2 + r.IntN(full-1))
				default:
					w.words(4094)
				}
			}
			checkUnwords(t, "told on, by "+strconv.Itoa(more), bits, slices.Clone(w.data()), 20000, impl.ErrShort)
			data := w.end()
			want := slowWordsUnpack(bits, data, 20000)
			checkUnwords(t, "told on and end, by "+strconv.Itoa(more), bits, data, len(want.List), 0)
			checkUnwords(t, "told on, one number fewer", bits, data, len(want.List)-1, impl.ErrMany)
		}
		w := teller{bits: bits}
		w.clear()
		w.words(spreadWords(bits, full+20)...)
		w.clear()
		w.words(0)
		beyond := w
		beyond.text = slices.Clone(w.text)
		beyond.words(1<<bits + 3)
		checkUnwords(t, "a longer word behind a clear of the full book", bits, beyond.end(), 20000, impl.ErrCode)
		w.words(1<<bits + 2)
		checkUnwords(t, "the newest word behind a clear of the full book", bits, w.end(), full+23, 0)
	}
}

func TestWordsUnpackOfMost(t *testing.T) {
	for bits := 2; bits <= 8; bits++ {
		checkUnwords(t, "none of none", bits, impl.WordsPack(bits, nil), 0, 0)
		for _, many := range []int{1, 2, 3, 10, 100} {
			data := impl.WordsPack(bits, alike(1, many))
			for most := range many {
				checkUnwords(t, strconv.Itoa(many)+" alike", bits, data, most, impl.ErrMany)
			}
			for _, most := range []int{many, many + 1, 20000} {
				checkUnwords(t, strconv.Itoa(many)+" alike", bits, data, most, 0)
			}
		}
		list := make([]int, impl.MaxFields)
		data := impl.WordsPack(bits, list)
		checkUnwords(t, "as many as may be", bits, data, impl.MaxFields, 0)
		checkUnwords(t, "as many as may be, one fewer asked", bits, data, impl.MaxFields-1, impl.ErrMany)
		w := slowTeller(bits, list)
		w = &teller{bits: bits, count: w.count, text: w.text[:len(w.text)-w.told[len(w.told)-1].width]}
		w.words(0)
		checkUnwords(t, "one more than may be", bits, w.end(), impl.MaxFields, impl.ErrMany)
	}
}

func TestWordsUnpackOfDataThatEnd(t *testing.T) {
	r := rand.New(rand.NewPCG(6, 5))
	for bits := 2; bits <= 8; bits++ {
		for range 30 {
			list := someList(r, bits, r.IntN(100))
			data := impl.WordsPack(bits, list)
			for many := range data {
				checkUnwords(t, "cut to "+strconv.Itoa(many), bits, data[:many], len(list), impl.ErrShort)
			}
			for range 5 {
				behind := slices.Concat(data, someBytes(r, 1+r.IntN(9)))
				checkUnwords(t, "bytes behind", bits, behind, len(list), 0)
				if got := impl.WordsUnpack(bits, behind, len(list)); got.Next != len(data) {
					t.Errorf("bits %d: Next is %d, not %d", bits, got.Next, len(data))
				}
			}
		}
	}
}

func TestWordsUnpackOfTheFaultThatIsMetFirst(t *testing.T) {
	for _, c := range []struct {
		what string
		text string
		most int
		err  int
	}{
		{"no clear, and short", "000" + "00000", 0, impl.ErrOrder},
		{"no clear, and too many", "110" + "110", 0, impl.ErrOrder},
		{"too many ahead of a word that is none", "001" + "000" + "000" + "000" + "1111", 2, impl.ErrMany},
		{"a word that is none ahead of too many", "001" + "000" + "111" + "000" + "0000", 1, impl.ErrCode},
		{"a word that is none, of as many as may be", "001" + "000" + "111", 1, impl.ErrCode},
		{"too many by the last word, ahead of the end of the bytes", "001" + "000" + "011", 2, impl.ErrMany},
		{"as many as may be, ahead of the end of the bytes", "001" + "000" + "011" + "001" + "001", 3, impl.ErrShort},
		{"a word that is none ahead of the end of the bytes", "001" + "111" + "00", 3, impl.ErrCode},
		{"end ahead of a word that is none", "001" + "101" + "111", 3, 0},
		{"as many as may be, and clear", "001" + "000" + "011" + "001" + "101", 3, 0},
		{"as many as may be, clear, and one more", "001" + "000" + "011" + "001" + "000" + "101", 3, impl.ErrMany},
	} {
		checkUnwords(t, c.what, 2, lowBytes(c.text), c.most, c.err)
	}
}

func TestWordsUnpackOfAnyBytes(t *testing.T) {
	r := rand.New(rand.NewPCG(6, 6))
	var met [9]int
	for range 20000 {
		bits := 2 + r.IntN(7)
		data := someBytes(r, r.IntN(40))
		switch r.IntN(4) {
		case 0:
			if len(data) > 1 {
				data[0], data[1] = 1<<(bits%8), byte(bits/8)
			}
		case 1, 2:
			data = hurt(r, impl.WordsPack(bits, someList(r, bits, r.IntN(80))))
		}
		most := r.IntN(120)
		want := slowWordsUnpack(bits, data, most).Err
		met[want]++
		checkUnwords(t, "any bytes", bits, data, most, want)
	}
	for _, err := range []int{0, impl.ErrShort, impl.ErrCode, impl.ErrOrder, impl.ErrMany} {
		if met[err] < 300 {
			t.Errorf("error %d was met %d times", err, met[err])
		}
	}
}

func TestWordsUnpackOfAllShortData(t *testing.T) {
	for bits := 2; bits <= 8; bits++ {
		for i := range 1 << 16 {
			data := []byte{byte(i), byte(i >> 8)}
			got, want := impl.WordsUnpack(bits, data, 5), slowWordsUnpack(bits, data, 5)
			if !sameSymbols(got, want) {
				t.Fatalf("bits %d: %08b is read as %v, not %v", bits, data, got, want)
			}
		}
	}
}

func TestWordsUnpackIsNewMemoryAndReadsNoFurther(t *testing.T) {
	for bits := 2; bits <= 8; bits++ {
		list := []int{0, 1, 2, 3, 0, 1, 2, 3, 3, 3, 3}
		packed := impl.WordsPack(bits, list)
		for many := range packed {
			data := slices.Clone(packed)[:many]
			checkUnwords(t, "what lies behind", bits, data, len(list), impl.ErrShort)
		}
		got := impl.WordsUnpack(bits, packed, len(list))
		clear(packed)
		if !slices.Equal(got.List, list) {
			t.Errorf("bits %d: the numbers hang on the bytes", bits)
		}
		clear(got.List)
		checkUnwords(t, "read again", bits, impl.WordsPack(bits, list), len(list), 0)
	}
}
