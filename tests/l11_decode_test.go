package tests

import (
	"bytes"
	"math/rand/v2"
	"slices"
	"strings"
	"testing"

	"loop.example/g00016/impl"
)

// A toneWalker goes through a file bit by bit, by the document's words.
type toneWalker struct {
	bitWalker
	tones impl.Tones
}

func (w *toneWalker) head() {
	mustHold(len(w.data) <= 60000, impl.ErrForm)
	for _, want := range []int{84, 79, 78, 49} {
		mustHold(w.number(8) == want, impl.ErrCode)
	}
	w.tones.Rate, w.tones.Quality, w.tones.Length = w.number(20), w.number(4), w.number(12)
	spare := w.number(4)
	mustHold(w.tones.Rate >= 1 && w.tones.Rate <= 1000000 && w.tones.Length <= 4000 && spare == 0, impl.ErrRange)
}

// keyed asks behind each bit 0 whether the least number that may be told so is beyond already.
func (w *toneWalker) keyed(key int) int {
	zeros := 0
	for w.bit() == 0 {
		zeros++
		mustHold(zeros*twoTo(key) <= folded(leastInSlot), impl.ErrRange)
	}
	n := zeros*twoTo(key) + w.number(key)
	if n%2 == 1 {
		n = -n - 1
	}
	mustHold(n/2 >= leastInSlot && n/2 <= greatestInSlot, impl.ErrRange)
	return n / 2
}

func (w *toneWalker) slot() {
	var grades, numbers []int
	for range 8 {
		grades = append(grades, w.number(4))
		mustHold(slices.Max(grades) <= 12, impl.ErrRange)
	}
	key := w.number(5)
	mustHold(key <= 16, impl.ErrRange)
	for range 16 {
		numbers = append(numbers, w.keyed(key))
	}
	w.tones.Slots, w.tones.Grades = append(w.tones.Slots, numbers), append(w.tones.Grades, grades)
}

func slowDecodeTones(data []byte) (int, impl.Tones) {
	w := toneWalker{bitWalker: bitWalker{data: data}}
	err := codeOfPanic(func() {
		w.head()
		for range slowSlots(w.tones.Length) {
			w.slot()
		}
		for w.at%8 > 0 {
			mustHold(w.bit() == 0, impl.ErrCode)
		}
		mustHold(w.at == 8*len(data), impl.ErrMore)
	})
	if err != 0 {
		return err, impl.Tones{}
	}
	return 0, w.tones
}

// tonesRead reads a file twice, amid other memory.
func tonesRead(t *testing.T, what string, data []byte) (int, impl.Tones) {
	t.Helper()
	around, handed := amid(data, 0)
	was := slices.Clone(around)
	err, got := impl.DecodeTones(handed)
	other, again := impl.DecodeTones(handed)
	if err != other || !sameTones(got, again) {
		t.Errorf("%s: two calls are not alike", what)
	}
	if !bytes.Equal(around, was) {
		t.Errorf("%s: the data were written", what)
	}
	kept := cloneTones(got)
	checkApart(t, what, nil, slices.Concat(got.Slots, got.Grades, again.Slots, again.Grades)...)
	return err, kept
}

// checkAnyTones holds what is read against a slow reader alone.
func checkAnyTones(t *testing.T, what string, data []byte) (int, impl.Tones) {
	t.Helper()
	err, got := tonesRead(t, what, data)
	wantErr, want := slowDecodeTones(data)
	if err != wantErr || !sameTones(got, want) {
		t.Errorf("%s: error %d, %s, not %d, %s, or other numbers", what, err, describedTones(got), wantErr, describedTones(want))
	}
	if err != 0 && !sameTones(got, impl.Tones{}) {
		t.Errorf("%s: error %d, and more beside it", what, err)
	}
	if err == 0 && !impl.GoodTones(got) {
		t.Errorf("%s: %s is not good", what, describedTones(got))
	}
	return err, got
}

func checkTonesOfFile(t *testing.T, what string, data []byte, want int) impl.Tones {
	t.Helper()
	err, got := checkAnyTones(t, what, data)
	if err != want {
		t.Errorf("%s: error %d, not %d", what, err, want)
	}
	return got
}

// smallTones have three slots.
func smallTones() impl.Tones {
	x := plainTones(20)
	x.Slots = [][]int{
		{1, 5, 9, -13, 17, 22, -26, 29, 33, -700, 800, -900, 4, 4, 4, 3},
		{2, -6, 0, 0, 1, 2, 2, -1, 0, 0, 0, 0, 0, 0, 0, 0},
		{leastInSlot, 6, 9, 13, 18, 22, greatestInSlot, 30, 32, -1, 0, 0, 0, 1, 3, 70000},
	}
	x.Grades = [][]int{{0, 1, 2, 3, 4, 5, 6, 7}, {8, 9, 10, 11, 12, 0, 12, 1}, {3, 2, 1, 0, 5, 4, 12, 12}}
	return x
}

func anyGrades() []int {
	return []int{0, 12, 5, 1, 0, 7, 12, 3}
}

// plainSlot tells sixteen times 0 by the key 0.
func plainSlot() string {
	return slotText(alike(0, 8), 0, alike(0, 16)...)
}

func TestDecodeTonesByHand(t *testing.T) {
	for _, c := range []struct {
		numbers string
		want    []int
	}{
		{"00000" + strings.Repeat("1", 16), alike(0, 16)},
		{"00000" + "01" + "001" + "0001" + "00001" + strings.Repeat("1", 12), append([]int{-1, 1, -2, 2}, alike(0, 12)...)},
		{"00001" + "10" + "11" + "010" + "011" + "0010" + "0011" + strings.Repeat("10", 10), append([]int{0, -1, 1, -2, 2, -3}, alike(0, 10)...)},
		{"10000" + strings.Repeat("1"+"0000000000000011", 16), alike(-2, 16)},
		{"10000" + strings.Repeat("0", 31) + "1" + strings.Repeat("1", 16) + strings.Repeat("0", 31) + "1" + strings.Repeat("1", 15) + "0" + strings.Repeat("1"+strings.Repeat("0", 16), 14),
			append([]int{leastInSlot, greatestInSlot}, alike(0, 14)...)},
	} {
		for slots := 1; slots <= 3; slots++ {
			text := toneHeadText(77, 5, 16*(slots-1), 0) + strings.Repeat(plainSlot(), slots-1) + "0000" + "1100" + "0101" + "0001" + "0000" + "0111" + "1100" + "0011" + c.numbers
			want := plainTones(16 * (slots - 1))
			want.Rate, want.Quality, want.Slots[slots-1], want.Grades[slots-1] = 77, 5, c.want, anyGrades()
			if got := checkTonesOfFile(t, c.numbers, toneFile(text), 0); !sameTones(got, want) {
				t.Errorf("%s: %v, not %v", c.numbers, got, want)
			}
		}
	}
}

func TestDecodeTonesOfTooManyBytes(t *testing.T) {
	checkTooMany(t, impl.EncodeTones(smallTones()), func(what string, data []byte, err int) {
		checkTonesOfFile(t, what, data, err)
	})
}

func TestDecodeTonesOfTheFirstBytes(t *testing.T) {
	checkFirstBytes(t, impl.EncodeTones(smallTones()), func(what string, data []byte, err int) {
		checkTonesOfFile(t, what, data, err)
	})
	// Ahead of a head that may not be.
	head := toneFile(toneHeadText(0, 0, 4095, 15))
	checkFirstBytes(t, head, func(what string, data []byte, err int) {
		if err == 0 {
			err = impl.ErrRange
		}
		checkTonesOfFile(t, what, data, err)
	})
}

func TestDecodeTonesOfHeads(t *testing.T) {
	for _, c := range []struct {
		rate, quality, length, spare int
		good                         bool
	}{
		{1, 0, 0, 0, true}, {1000000, 15, 0, 0, true}, {1, 15, 1, 0, true}, {999999, 7, 16, 0, true}, {44100, 3, 17, 0, true}, {1, 0, 3999, 0, true}, {1, 0, 4000, 0, true},
		{0, 0, 0, 0, false}, {0, 15, 20, 0, false}, {1000001, 3, 0, 0, false}, {1<<20 - 1, 3, 0, 0, false},
		{1, 3, 4001, 0, false}, {1, 3, 4016, 0, false}, {1, 3, 4095, 0, false},
		{1, 3, 0, 1, false}, {1, 3, 0, 2, false}, {1, 3, 0, 4, false}, {1, 3, 0, 8, false}, {1, 3, 20, 15, false}, {0, 3, 4001, 9, false},
	} {
		head := toneHeadText(c.rate, c.quality, c.length, c.spare)
		for many := range 9 {
			checkTonesOfFile(t, "a head that is cut", toneFile(head)[:many], impl.ErrShort)
		}
		want := impl.ErrRange
		if c.good {
			want = impl.ErrShort
		}
		checkTonesOfFile(t, "a head alone", toneFile(head), want)
		// A grade of 15 is ErrRange, too, and so are bits 0 alone.
		checkTonesOfFile(t, "a head and more", toneFile(head, "11111111"), impl.ErrRange)
		slots := strings.Repeat(plainSlot(), slowSlots(c.length))
		if !c.good {
			checkTonesOfFile(t, "a head and all slots", toneFile(head, slots), impl.ErrRange)
			continue
		}
		x := plainTones(c.length)
		x.Rate, x.Quality = c.rate, c.quality
		if got := checkTonesOfFile(t, "a head and all slots", toneFile(head, slots), 0); !sameTones(got, x) {
			t.Errorf("%s, not %s", describedTones(got), describedTones(x))
		}
		// Its grades and its key are bits 0, as the filling is.
		checkTonesOfFile(t, "a slot more", toneFile(head, slots, plainSlot()), impl.ErrMore)
		checkTonesOfFile(t, "a slot fewer", toneFile(head, slots[len(plainSlot()):]), impl.ErrShort)
	}
}

// checkSlot asks for the error of a slot's bits, with no and some slots ahead of it: with nothing behind, with slots
// behind, and with what would be other errors.
func checkSlot(t *testing.T, what string, text string, err int) {
	t.Helper()
	for ahead := range 4 {
		start := strings.Repeat(plainSlot(), ahead)
		head := toneHeadText(1, 0, 16*ahead, 0)
		checkTonesOfFile(t, what, toneFile(head, start, text), err)
		if err == impl.ErrShort {
			continue
		}
		checkTonesOfFile(t, what+", a wrong grade behind", toneFile(head, start, text, "1111"), err)
		checkTonesOfFile(t, what+", a number behind", toneFile(head, start, text, strings.Repeat("0", 50), "1"), err)
		checkTonesOfFile(t, what+", more behind", toneFile(head, start, text, strings.Repeat("1", 80)), err)
		head = toneHeadText(1, 0, 16*ahead+32, 0)
		checkTonesOfFile(t, what+", slots behind", toneFile(head, start, text, plainSlot(), plainSlot()), err)
	}
}

func TestDecodeTonesOfGrades(t *testing.T) {
	for at := range 8 {
		for grade := range 16 {
			grades := anyGrades()
			grades[at] = grade
			if grade <= 12 {
				x := plainTones(0)
				x.Rate, x.Quality, x.Grades[0] = 1, 0, grades
				file := toneFile(toneHeadText(1, 0, 0, 0), slotText(grades, 0, alike(0, 16)...))
				if got := checkTonesOfFile(t, "a grade", file, 0); !sameTones(got, x) {
					t.Errorf("%v: %v", grades, got)
				}
				continue
			}
			text := slotText(grades, 0, alike(0, 16)...)
			checkSlot(t, "a grade", text, impl.ErrRange)
			checkSlot(t, "a grade and a key", slotText(grades, 31, 0), impl.ErrRange)
			// Nothing need stand behind the grade, but the rest of its byte.
			file := toneFile(toneHeadText(1, 0, 0, 0), text[:4*at+4])
			checkTonesOfFile(t, "a grade at the end", file, impl.ErrRange)
			checkTonesOfFile(t, "nothing of a grade", file[:9+at/2], impl.ErrShort)
		}
	}
	for many := range 8 {
		checkTonesOfFile(t, "too few grades", toneFile(toneHeadText(1, 0, 0, 0), strings.Repeat("0000", many)), impl.ErrShort)
	}
}

func TestDecodeTonesOfKeys(t *testing.T) {
	for key := range 32 {
		start := slotText(anyGrades(), 0)
		start = start[:len(start)-5] + asBits(key, 5)
		if key > 16 {
			checkSlot(t, "a key alone", start, impl.ErrRange)
			checkSlot(t, "a key", start+strings.Repeat("1"+strings.Repeat("0", key), 16), impl.ErrRange)
			checkSlot(t, "a key and no number", start+"000", impl.ErrRange)
			continue
		}
		numbers := slices.Concat([]int{-1, 1, twoTo(key), -twoTo(key)}, alike(0, 12))
		x := plainTones(0)
		x.Rate, x.Quality, x.Grades[0], x.Slots[0] = 1, 0, anyGrades(), numbers
		file := toneFile(toneHeadText(1, 0, 0, 0), slotText(anyGrades(), key, numbers...))
		if got := checkTonesOfFile(t, "a key", file, 0); !sameTones(got, x) {
			t.Errorf("key %d: %v", key, got)
		}
		checkTonesOfFile(t, "a key that is cut", toneFile(toneHeadText(1, 0, 0, 0), start)[:13], impl.ErrShort)
		checkTonesOfFile(t, "a key at the end", toneFile(toneHeadText(1, 0, 0, 0), start), impl.ErrShort)
	}
	// A key may be told whose numbers have more bits than they need.
	r := rand.New(rand.NewPCG(11, 50))
	for range 500 {
		x := someTones(r)
		var keys []int
		for _, numbers := range x.Slots {
			far := 0
			for _, n := range numbers {
				far = max(far, bitsOfNumber(folded(n)))
			}
			keys = append(keys, min(16, max(0, far-4)+r.IntN(8)))
		}
		if got := checkTonesOfFile(t, "any keys", toneFile(toneTexts(x, keys)...), 0); !sameTones(got, x) {
			t.Fatalf("%v: %v", x, got)
		}
	}
}

// runUpToByte begins a slot and tells a number so that so many bits 0 behind end a byte of the file.
func runUpToByte(key int, zeros int) string {
	head, start := toneHeadText(1, 0, 0, 0), slotText(anyGrades(), key)
	for first := 0; ; first++ {
		text := start + strings.Repeat("0", first) + "1" + strings.Repeat("0", key) + strings.Repeat("0", zeros)
		if (len(head)+len(text))%8 == 0 {
			return head + text
		}
	}
}

// As soon as so many bits 0 stand there that the number must be beyond, it is; with one fewer it may still be.
func TestDecodeTonesOfNumbersBeyondTheEnds(t *testing.T) {
	for key := 3; key <= 16; key++ {
		most := twoTo(21 - key)
		checkTonesOfFile(t, "just too many bits 0, and the end", toneFile(runUpToByte(key, most)), impl.ErrRange)
		checkTonesOfFile(t, "just too many bits 0, and a bit 1", toneFile(runUpToByte(key, most), "1"), impl.ErrRange)
		checkTonesOfFile(t, "a bit 0 more", toneFile(runUpToByte(key, most), "01"), impl.ErrRange)
		checkTonesOfFile(t, "many more", toneFile(runUpToByte(key, most), strings.Repeat("0", 800)), impl.ErrRange)
		checkTonesOfFile(t, "one fewer, and the end", toneFile(runUpToByte(key, most-1)), impl.ErrShort)
		checkTonesOfFile(t, "one fewer, a bit 1, and the end", toneFile(runUpToByte(key, most-1)+"1"), impl.ErrShort)
		checkTonesOfFile(t, "one fewer, and a bit 0", toneFile(runUpToByte(key, most-1)+"01"), impl.ErrRange)
		for _, c := range []struct {
			bits string
			n    int
		}{{strings.Repeat("1", key), leastInSlot}, {strings.Repeat("1", key-1) + "0", greatestInSlot}, {strings.Repeat("0", key), (most - 1) * twoTo(key) / 2}} {
			text := runUpToByte(key, most-1) + "1" + c.bits + strings.Repeat("1"+strings.Repeat("0", key), 14)
			got := checkTonesOfFile(t, "one fewer", toneFile(text), 0)
			if got.Slots[0][1] != c.n {
				t.Errorf("key %d, %s: %d, not %d", key, c.bits, got.Slots[0][1], c.n)
			}
			checkTonesOfFile(t, "one fewer, and more behind", append(toneFile(text), 0), impl.ErrMore)
		}
	}
	// By lesser keys no file has room for so many bits 0.
	for key := range 3 {
		start := runUpToByte(key, 0)
		for _, zeros := range []int{0, 8, 800, 200000, 8 * (60000 - 4 - len(start)/8)} {
			checkTonesOfFile(t, "many bits 0, and the end", toneFile(start, strings.Repeat("0", zeros)), impl.ErrShort)
		}
		text := start + strings.Repeat("0", 100000) + "1" + strings.Repeat("0", key) + strings.Repeat("1"+strings.Repeat("0", key), 14)
		if got := checkTonesOfFile(t, "many bits 0", toneFile(text), 0); got.Slots[0][1] != 50000*twoTo(key) {
			t.Errorf("key %d: %d", key, got.Slots[0][1])
		}
	}
}

// Each of a slot's numbers may be beyond; what stands behind it does not count.
func TestDecodeTonesOfEachNumberBeyond(t *testing.T) {
	for at := range 16 {
		for _, key := range []int{10, 15, 16} {
			numbers := slotText(anyGrades(), key, someNoise(rand.New(rand.NewPCG(11, 51)), at, 100)...)
			checkSlot(t, "a number", numbers+strings.Repeat("0", twoTo(21-key)), impl.ErrRange)
			checkSlot(t, "a number and its bits", numbers+strings.Repeat("0", twoTo(21-key))+"1"+strings.Repeat("0", key), impl.ErrRange)
			checkSlot(t, "a number that lacks", numbers, impl.ErrShort)
		}
	}
}

// The bits that the file is filled up with.
func TestDecodeTonesOfFilling(t *testing.T) {
	met := map[int]int{}
	for more := range 17 {
		for slots := 1; slots <= 2; slots++ {
			text := toneHeadText(1, 0, 16*(slots-1), 0) + strings.Repeat(plainSlot(), slots-1) + slotText(anyGrades(), 0, slices.Concat(alike(-1, more), alike(0, 16-more))...)
			file := toneFile(text)
			checkTonesOfFile(t, "filled up", file, 0)
			checkTonesOfFile(t, "a byte more", append(slices.Clone(file), 0), impl.ErrMore)
			checkTonesOfFile(t, "bytes more", append(slices.Clone(file), 255, 0, 1), impl.ErrMore)
			left := 8*(len(file)-4) - len(text)
			met[left]++
			for bit := range left {
				data := slices.Clone(file)
				data[len(data)-1] ^= 1 << bit
				checkTonesOfFile(t, "a bit of the filling", data, impl.ErrCode)
				checkTonesOfFile(t, "a bit of the filling, and more", append(data, 0), impl.ErrCode)
			}
		}
	}
	if len(met) != 8 {
		t.Errorf("%v", met)
	}
}

func TestDecodeTonesOfFilesCutAtEachByte(t *testing.T) {
	r := rand.New(rand.NewPCG(11, 52))
	list := []impl.Tones{smallTones(), plainTones(0), plainTones(1), plainTones(17)}
	for range 20 {
		list = append(list, someTones(r))
	}
	for _, x := range list {
		file := impl.EncodeTones(x)
		checkCutFile(file, func(what string, data []byte, err int) { checkTonesOfFile(t, what, data, err) })
	}
}

func TestDecodeTonesOfEachBitTurned(t *testing.T) {
	r := rand.New(rand.NewPCG(11, 53))
	met := map[int]int{}
	list := []impl.Tones{smallTones(), plainTones(20)}
	for len(list) < 14 {
		if x := someTones(r); x.Length < 60 {
			list = append(list, x)
		}
	}
	for _, x := range list {
		file := impl.EncodeTones(x)
		for bit := range 8 * len(file) {
			data := slices.Clone(file)
			data[bit/8] ^= 128 >> (bit % 8)
			err, _ := checkAnyTones(t, "a bit turned", data)
			met[err]++
			// The first bytes, and what is 0 in the head, are asked for bit by bit.
			want := map[bool]int{true: impl.ErrCode, false: impl.ErrRange}[bit < 32]
			if (bit < 32 || bit >= 68 && bit < 72) && err != want {
				t.Errorf("bit %d: error %d, not %d", bit, err, want)
			}
		}
	}
	checkMet(t, met, 0, impl.ErrShort, impl.ErrCode, impl.ErrRange, impl.ErrMore)
}

func TestDecodeTonesOfHurtFiles(t *testing.T) {
	r := rand.New(rand.NewPCG(11, 54))
	met := map[int]int{}
	var files [][]byte
	for range 60 {
		files = append(files, impl.EncodeTones(someTones(r)))
	}
	for range 6000 {
		err, _ := checkAnyTones(t, "a hurt file", hurt(r, files[r.IntN(len(files))]))
		met[err]++
	}
	checkMet(t, met, 0, impl.ErrShort, impl.ErrCode, impl.ErrRange, impl.ErrMore)
}

// Bytes of any kind behind a good head, and alone.
func TestDecodeTonesOfAnyBytes(t *testing.T) {
	r := rand.New(rand.NewPCG(11, 55))
	for range 6000 {
		bytes := sparseBytes(r, r.IntN(100))
		head := toneFile(toneHeadText(1, r.IntN(16), r.IntN(40), 0))
		checkAnyTones(t, "any bytes", slices.Concat(head, bytes))
		checkAnyTones(t, "any bytes behind good grades", slices.Concat(head, make([]byte, 4), bytes))
		checkAnyTones(t, "any bytes behind the first four", slices.Concat(head[:4], bytes))
		checkAnyTones(t, "any bytes alone", bytes)
	}
}

// What is decoded has a sound, whatever the bytes were.
func TestDecodedTonesAreHeard(t *testing.T) {
	r := rand.New(rand.NewPCG(11, 56))
	heard := 0
	for range 1500 {
		if err, x := impl.DecodeTones(hurt(r, impl.EncodeTones(someTones(r)))); err == 0 {
			checkHeard(t, x)
			heard++
		}
	}
	if heard < 300 {
		t.Errorf("%d were heard", heard)
	}
}
