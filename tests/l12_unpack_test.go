package tests

import (
	"bytes"
	"math"
	"math/rand/v2"
	"slices"
	"strconv"
	"testing"

	"loop.example/g00016/impl"
)

// A slowUnpacker goes by the document's words; it panics with the error.
type slowUnpacker struct {
	odds  slowOdds
	data  []byte
	at    int
	code  int
	width int
}

func (u *slowUnpacker) next() int {
	mustHold(u.at < len(u.data), impl.ErrShort)
	u.at++
	return int(u.data[u.at-1])
}

func (u *slowUnpacker) begin() {
	for range 4 {
		u.code = u.code*256 + u.next()
	}
	u.width = 4294967295
	mustHold(u.code < u.width, impl.ErrCode)
}

func (u *slowUnpacker) choose(place int) int {
	s := u.width / 4096 * u.odds.of(place)
	c := impl.Choice{Place: place}
	if u.code < s {
		u.width = s
	} else {
		c.Bit = 1
		u.code -= s
		u.width -= s
	}
	u.odds.learn(c)
	for u.width < narrowest {
		u.width *= 256
		u.code = u.code*256 + u.next()
	}
	return c.Bit
}

func slowOddsUnpack(places int, data []byte, list []int) impl.Chosen {
	wrong := func(place int) bool { return place < 0 || place >= places }
	if places < 1 || places > 512 || len(list) > 20000 || slices.ContainsFunc(list, wrong) {
		return impl.Chosen{Err: impl.ErrForm}
	}
	var chosen impl.Chosen
	u := slowUnpacker{odds: slowOdds{}, data: data}
	err := codeOfPanic(func() {
		u.begin()
		for _, place := range list {
			chosen.Bits = append(chosen.Bits, u.choose(place))
		}
	})
	if err != 0 {
		return impl.Chosen{Err: err}
	}
	chosen.Next = u.at
	return chosen
}

func sameChosen(a, b impl.Chosen) bool {
	return a.Err == b.Err && a.Next == b.Next && slices.Equal(a.Bits, b.Bits)
}

// oddsUnpacked unpacks twice, with both lists amid other memory.
func oddsUnpacked(t *testing.T, what string, places int, data []byte, list []int) impl.Chosen {
	t.Helper()
	aroundData, handedData := amid(data, 0xA5)
	aroundList, handedList := amid(list, 7777)
	wasData, wasList := slices.Clone(aroundData), slices.Clone(aroundList)
	got, again := impl.OddsUnpack(places, handedData, handedList), impl.OddsUnpack(places, handedData, handedList)
	if !sameChosen(got, again) {
		t.Errorf("%s: two calls are not alike", what)
	}
	if !bytes.Equal(aroundData, wasData) || !slices.Equal(aroundList, wasList) {
		t.Errorf("%s: an argument was written", what)
	}
	kept := impl.Chosen{Err: got.Err, Bits: slices.Clone(got.Bits), Next: got.Next}
	checkApart(t, what, [][]int{aroundList}, got.Bits, again.Bits)
	return kept
}

func checkAnyOdds(t *testing.T, what string, places int, data []byte, list []int) impl.Chosen {
	t.Helper()
	got, want := oddsUnpacked(t, what, places, data, list), slowOddsUnpack(places, data, list)
	if !sameChosen(got, want) {
		t.Fatalf("%s, %d places: error %d, %d bits, next %d, not %d, %d, %d, or other bits", what, places, got.Err, len(got.Bits), got.Next, want.Err, len(want.Bits), want.Next)
	}
	if got.Err != 0 && (len(got.Bits) > 0 || got.Next != 0) {
		t.Errorf("%s: error %d, and more beside it", what, got.Err)
	}
	return got
}

func checkOddsError(t *testing.T, what string, places int, data []byte, list []int, err int) {
	t.Helper()
	if got := checkAnyOdds(t, what, places, data, list); got.Err != err {
		t.Errorf("%s, %d places, %d bytes, %d choices: error %d, not %d", what, places, len(data), len(list), got.Err, err)
	}
}

func TestOddsUnpackByHand(t *testing.T) {
	for _, c := range []struct {
		data []byte
		list []int
		want impl.Chosen
	}{
		{[]byte{0, 0, 0, 0}, nil, impl.Chosen{Next: 4}},
		{[]byte{1, 2, 3, 4, 5, 6}, nil, impl.Chosen{Next: 4}},
		{[]byte{0, 0, 0, 0}, []int{0}, impl.Chosen{Bits: []int{0}, Next: 4}},
		// The bit 0 has 7FFFF800 at first.
		{[]byte{0x7F, 0xFF, 0xF7, 0xFF}, []int{0}, impl.Chosen{Bits: []int{0}, Next: 4}},
		{[]byte{0x7F, 0xFF, 0xF8, 0x00}, []int{0}, impl.Chosen{Bits: []int{1}, Next: 4}},
		// Behind a bit 1 it has 40000000 at another place, 3E000000 at the same.
		{[]byte{0xBF, 0xFF, 0xF7, 0xFF}, []int{0, 1}, impl.Chosen{Bits: []int{1, 0}, Next: 4}},
		{[]byte{0xBF, 0xFF, 0xF8, 0x00}, []int{0, 1}, impl.Chosen{Bits: []int{1, 1}, Next: 4}},
		{[]byte{0xBD, 0xFF, 0xF7, 0xFF}, []int{2, 2}, impl.Chosen{Bits: []int{1, 0}, Next: 4}},
		{[]byte{0xBD, 0xFF, 0xF8, 0x00}, []int{2, 2}, impl.Chosen{Bits: []int{1, 1}, Next: 4}},
		// Seven bits 0 leave 1FFF800; of it the bit 0 has FFF800, for which a byte more is taken, and the bit 1 the rest.
		{[]byte{0, 0, 0, 0}, []int{0, 1, 2, 3, 4, 5, 6}, impl.Chosen{Bits: alike(0, 7), Next: 4}},
		{[]byte{0, 0, 0, 0}, []int{0, 1, 2, 3, 4, 5, 6, 7}, impl.Chosen{Err: impl.ErrShort}},
		{[]byte{0, 0, 0, 0, 9, 9}, []int{0, 1, 2, 3, 4, 5, 6, 7}, impl.Chosen{Bits: alike(0, 8), Next: 5}},
		{[]byte{0x00, 0xFF, 0xF8, 0x00}, []int{0, 1, 2, 3, 4, 5, 6, 7}, impl.Chosen{Bits: append(alike(0, 7), 1), Next: 4}},
		{[]byte{0x01, 0x7F, 0xF7, 0xFF, 0xFF}, []int{0, 1, 2, 3, 4, 5, 6, 7, 8}, impl.Chosen{Bits: append(alike(0, 7), 1, 0), Next: 5}},
		{[]byte{0x01, 0x7F, 0xF8, 0x00, 0x00}, []int{0, 1, 2, 3, 4, 5, 6, 7, 8}, impl.Chosen{Bits: append(alike(0, 7), 1, 1), Next: 5}},
		{[]byte{0x80, 0x3F, 0xF8, 0x00, 0x00}, []int{0, 1, 2, 3, 4, 5, 6, 7, 8, 9}, impl.Chosen{Bits: slices.Concat([]int{1}, alike(0, 8), []int{1}), Next: 5}},
		{[]byte{0, 0, 0}, nil, impl.Chosen{Err: impl.ErrShort}},
		{nil, nil, impl.Chosen{Err: impl.ErrShort}},
		{[]byte{255, 255, 255, 255}, nil, impl.Chosen{Err: impl.ErrCode}},
		{[]byte{255, 255, 255, 254}, nil, impl.Chosen{Next: 4}},
	} {
		if got := checkAnyOdds(t, "by hand", 10, c.data, c.list); !sameChosen(got, c.want) {
			t.Errorf("%x at %v: %v, not %v", c.data, c.list, got, c.want)
		}
	}
}

// checkOddsRead asks for choices again, with and without bytes behind them, and for ErrShort where any byte lacks.
func checkOddsRead(t *testing.T, r *rand.Rand, places int, list []impl.Choice) {
	t.Helper()
	data, at := impl.OddsPack(places, list), placesOf(list)
	want := impl.Chosen{Bits: bitsOf(list), Next: len(data)}
	for _, behind := range [][]byte{nil, {0}, {255}, {255, 255, 255, 255, 255}, someBytes(r, 1+r.IntN(50))} {
		if got := checkAnyOdds(t, "packed", places, slices.Concat(data, behind), at); !sameChosen(got, want) {
			t.Fatalf("%s: read otherwise with %d bytes behind", describedChoices(places, list), len(behind))
		}
	}
	for many := range data {
		checkOddsError(t, "cut to "+strconv.Itoa(many), places, data[:many], at, impl.ErrShort)
	}
}

func TestOddsUnpackOfWhatWasPacked(t *testing.T) {
	r := rand.New(rand.NewPCG(12, 10))
	for range 300 {
		places := someManyPlaces(r)
		checkOddsRead(t, r, places, someChoices(r, places, r.IntN(150)))
	}
	for bit := range 2 {
		checkOddsRead(t, r, 1, slices.Repeat(chosenAt(bit, 0), 1000))
		checkOddsRead(t, r, 512, slices.Repeat(chosenAt(bit, 511, 0, 3), 100))
	}
}

func TestOddsUnpackOfManyChoices(t *testing.T) {
	r := rand.New(rand.NewPCG(12, 11))
	for _, places := range []int{1, 512} {
		list := someChoices(r, places, 20000)
		data, at := impl.OddsPack(places, list), placesOf(list)
		got := checkAnyOdds(t, "as many as may be", places, data, at)
		if want := (impl.Chosen{Bits: bitsOf(list), Next: len(data)}); !sameChosen(got, want) {
			t.Errorf("%d places: 20000 choices are read otherwise", places)
		}
		checkOddsError(t, "cut", places, data[:len(data)-1], at, impl.ErrShort)
		for _, bytes := range [][]byte{data, append(slices.Clone(data), make([]byte, 100000)...), nil, {255, 255, 255, 255}} {
			checkOddsError(t, "one more", places, bytes, append(slices.Clone(at), 0), impl.ErrForm)
			checkOddsError(t, "many more", places, bytes, append(slices.Clone(at), at...), impl.ErrForm)
		}
		checkOddsError(t, "as many as may be, and many bytes behind", places, append(data, make([]byte, 100000)...), at, 0)
	}
}

// What is not valid is asked ahead of the bytes.
func TestOddsUnpackAsksItsArgumentsFirst(t *testing.T) {
	good := impl.OddsPack(4, fresh(0, 1, 0, 1, 1))
	for _, data := range [][]byte{good, nil, {0}, {0, 0, 0}, {255, 255, 255, 255}, {255, 255, 255, 255, 0}, {255, 255, 255, 254}} {
		for _, places := range []int{math.MinInt, -512, -1, 0, 513, 514, 1 << 16, 1 << 32, 1<<32 + 1, math.MaxInt} {
			for _, list := range [][]int{nil, {0}, {places - 1}, {-1}, {places}} {
				checkOddsError(t, "other places", places, data, list, impl.ErrForm)
			}
		}
		for _, places := range []int{1, 2, 4, 511, 512} {
			for _, wrong := range []int{math.MinInt, -1 << 32, -places, -1, places, places + 1, 512, 513, 1 << 16, 1 << 32, math.MaxInt} {
				for _, list := range [][]int{{wrong}, {0, wrong}, {wrong, 0}, {places - 1, 0, wrong, 0}, append(alike(0, 500), wrong)} {
					checkOddsError(t, "a place that may not be", places, data, list, impl.ErrForm)
				}
			}
			for many := range 5 {
				checkAnyOdds(t, "places that may be", places, data, alike(places-1, many))
			}
		}
	}
}

// The code is as great as the range, or one less; it cannot be greater in four bytes.
func TestOddsUnpackOfCodesNextToTheRange(t *testing.T) {
	for _, list := range [][]int{nil, {0}, {511}, alike(0, 100), placesOf(fresh(0, make([]int, 512)...)), alike(3, 20000)} {
		for _, behind := range [][]byte{nil, {0}, {255}, make([]byte, 20000), bytes.Repeat([]byte{255}, 20000)} {
			with := func(data ...byte) []byte { return slices.Concat(data, behind) }
			checkOddsError(t, "the range", 512, with(255, 255, 255, 255), list, impl.ErrCode)
			less := checkAnyOdds(t, "one less", 512, with(255, 255, 255, 254), list)
			if enough := len(behind) == 20000 || len(list) < 2; enough && less.Err != 0 || !enough && less.Err != impl.ErrShort {
				t.Errorf("%d places, %d bytes behind: error %d", len(list), len(behind), less.Err)
			}
			if slices.Contains(less.Bits, 0) && len(list) < 20000 && len(behind) > 1 && behind[0] == 255 {
				t.Errorf("%d places: a bit 0 at the upper end", len(list))
			}
			for at := range 4 {
				data := with(255, 255, 255, 255)
				data[at] = 254
				checkAnyOdds(t, "a lesser byte", 512, data, list)
			}
		}
		for many := range 4 {
			checkOddsError(t, "bytes of 255 alone", 512, bytes.Repeat([]byte{255}, many), list, impl.ErrShort)
			checkOddsError(t, "bytes of 0 alone", 512, make([]byte, many), list, impl.ErrShort)
		}
	}
}

// At the first byte that lacks it ends, though the code was none for these places.
func TestOddsUnpackOfOtherPlaces(t *testing.T) {
	r := rand.New(rand.NewPCG(12, 12))
	met, others := map[int]int{}, 0
	for range 4000 {
		places := someManyPlaces(r)
		list := someChoices(r, places, 1+r.IntN(200))
		data := impl.OddsPack(places, list)
		at := placesOf(list)
		switch r.IntN(4) {
		case 0:
			at[r.IntN(len(at))] = r.IntN(places)
		case 1:
			r.Shuffle(len(at), func(i, j int) { at[i], at[j] = at[j], at[i] })
		case 2:
			at = at[:r.IntN(len(at))]
		case 3:
			at = append(at, placesOf(someChoices(r, places, 1+r.IntN(100)))...)
		}
		got := checkAnyOdds(t, "other places", places, data, at)
		met[got.Err]++
		if got.Err == 0 && !slices.Equal(got.Bits, bitsOf(list)[:min(len(at), len(list))]) {
			others++
		}
		// Fewer places are the beginning of more.
		if first := at[:r.IntN(len(at)+1)]; got.Err == 0 {
			part := checkAnyOdds(t, "fewer places", places, data, first)
			if part.Err != 0 || part.Next > got.Next || !slices.Equal(part.Bits, got.Bits[:len(first)]) {
				t.Errorf("%d of %d places: %v", len(first), len(at), part)
			}
		}
	}
	checkMet(t, met, 0, impl.ErrShort)
	if others < 100 {
		t.Errorf("%d others", others)
	}
}

func TestOddsUnpackOfEachBitTurned(t *testing.T) {
	r := rand.New(rand.NewPCG(12, 13))
	for range 30 {
		places := someManyPlaces(r)
		list := someChoices(r, places, 1+r.IntN(100))
		data := impl.OddsPack(places, list)
		for i := range 8 * len(data) {
			turned := slices.Clone(data)
			turned[i/8] ^= 1 << (i % 8)
			checkAnyOdds(t, "a bit turned", places, turned, placesOf(list))
		}
	}
}

func TestOddsUnpackOfAnyBytes(t *testing.T) {
	r := rand.New(rand.NewPCG(12, 14))
	met := map[int]int{}
	for range 10000 {
		data := someBytes(r, r.IntN(40))
		if r.IntN(3) == 0 {
			for i := range min(len(data), 1+r.IntN(6)) {
				data[i] = []byte{0, 255}[r.IntN(2)]
			}
		}
		if r.IntN(10) == 0 {
			copy(data, []byte{255, 255, 255, 255})
		}
		places := someManyPlaces(r)
		got := checkAnyOdds(t, "any bytes", places, data, placesOf(someChoices(r, places, r.IntN(200))))
		met[got.Err]++
		if got.Err == 0 {
			checkPackedAgain(t, places, data, got)
		}
	}
	checkMet(t, met, 0, impl.ErrShort, impl.ErrCode)
}

// checkPackedAgain asks of bits at the place 0 that were read from any bytes to be read from their own bytes, too.
func checkPackedAgain(t *testing.T, places int, data []byte, got impl.Chosen) {
	t.Helper()
	at := make([]int, len(got.Bits))
	read := checkAnyOdds(t, "one place", places, data, at)
	if read.Err != 0 {
		return
	}
	packed := impl.OddsPack(places, chosenBits(0, read.Bits...))
	if again := impl.OddsUnpack(places, packed, at); len(packed) != read.Next || !slices.Equal(again.Bits, read.Bits) {
		t.Errorf("%x: read as %v, packed as %x and read as %v", data, read, packed, again)
	}
	if bytes.Compare(packed, data[:read.Next]) > 0 {
		t.Errorf("%x: read as %v, packed as %x, which is above it", data, read, packed)
	}
}
