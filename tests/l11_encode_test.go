package tests

import (
	"bytes"
	"math/rand/v2"
	"slices"
	"strings"
	"testing"

	"loop.example/g00016/impl"
)

// toneHeadText has the bits behind the first four bytes.
func toneHeadText(rate int, quality int, length int, spare int) string {
	return asBits(rate, 20) + asBits(quality, 4) + asBits(length, 12) + asBits(spare, 4)
}

// slotText tells a slot by a key; the numbers may be fewer or more than a slot has.
func slotText(grades []int, key int, numbers ...int) string {
	var text strings.Builder
	for _, grade := range grades {
		text.WriteString(asBits(grade, 4))
	}
	text.WriteString(asBits(key, 5))
	for _, n := range numbers {
		text.WriteString(keyedText(n, key))
	}
	return text.String()
}

func toneFile(texts ...string) []byte {
	return slices.Concat([]byte{84, 79, 78, 49}, textBytes(strings.Join(texts, "")))
}

// slowToneKeys has for each slot the first of the keys by which its numbers have the fewest bits, and how often others
// have as few.
func slowToneKeys(x impl.Tones) ([]int, int) {
	var keys []int
	ties := 0
	for _, numbers := range x.Slots {
		var costs []int
		for key := range 17 {
			costs = append(costs, slowKeyCost(numbers, key))
		}
		least := slices.Min(costs)
		keys = append(keys, slices.Index(costs, least))
		if least == costs[min(16, keys[len(keys)-1]+1)] && keys[len(keys)-1] < 16 {
			ties++
		}
	}
	return keys, ties
}

func toneTexts(x impl.Tones, keys []int) []string {
	texts := []string{toneHeadText(x.Rate, x.Quality, x.Length, 0)}
	for j, numbers := range x.Slots {
		texts = append(texts, slotText(x.Grades[j], keys[j], numbers...))
	}
	return texts
}

// checkToneFile asks for the file, and what is read of it.
func checkToneFile(t *testing.T, x impl.Tones) []byte {
	t.Helper()
	keys, _ := slowToneKeys(x)
	got, want := toneFileMade(t, x), toneFile(toneTexts(x, keys)...)
	if !bytes.Equal(got, want) {
		t.Fatalf("%s %v %v: a file of %d bytes, not %d, or others\n%v\n%v", describedTones(x), x.Slots, x.Grades, len(got), len(want), got[:min(300, len(got))], want[:min(300, len(want))])
	}
	if err, read := tonesRead(t, describedTones(x), got); err != 0 || !sameTones(read, x) {
		t.Fatalf("%s: read with error %d as %s, or with other numbers", describedTones(x), err, describedTones(read))
	}
	return got
}

func TestEncodeTonesByHand(t *testing.T) {
	x := plainTones(0)
	x.Rate, x.Quality = 0xABCDE, 9
	want := []byte{84, 79, 78, 49, 0xAB, 0xCD, 0xE9, 0, 0, 0, 0, 0, 0, 7, 0xFF, 0xF8}
	if got := impl.EncodeTones(x); !bytes.Equal(got, want) {
		t.Errorf("%v, not %v", got, want)
	}
	x = plainTones(1)
	x.Rate, x.Quality = 1000000, 15
	copy(x.Grades[0], []int{12, 0, 1, 2, 3, 4, 5, 6})
	copy(x.Grades[1], []int{8, 9, 10, 11, 12, 0, 0, 7})
	x.Slots[0][0], x.Slots[0][1], x.Slots[0][15] = -1, 1, -2
	x.Slots[1] = alike(-8, 16)
	text := "11110100001001000000" + "1111" + "000000000001" + "0000" +
		"1100" + "0000" + "0001" + "0010" + "0011" + "0100" + "0101" + "0110" + "00000" + "01" + "001" + strings.Repeat("1", 13) + "0001" +
		"1000" + "1001" + "1010" + "1011" + "1100" + "0000" + "0000" + "0111" + "00011" + strings.Repeat("01"+"111", 16)
	if got := checkToneFile(t, x); !bytes.Equal(got, toneFile(text)) {
		t.Errorf("%v, not %v", got, toneFile(text))
	}
}

func TestEncodeTonesOfHeads(t *testing.T) {
	for _, rate := range []int{1, 2, 255, 256, 44100, 65535, 65536, 999999, 1000000} {
		for quality := range 16 {
			for _, length := range []int{0, 1, 15, 16, 17, 255, 256} {
				x := plainTones(length)
				x.Rate, x.Quality = rate, quality
				checkToneFile(t, x)
			}
		}
	}
	for _, length := range []int{2047, 2048, 3984, 3985, 3999, 4000} {
		checkToneFile(t, plainTones(length))
	}
}

func TestEncodeTonesOfGrades(t *testing.T) {
	for at := range 8 {
		for grade := range 13 {
			x := plainTones(1)
			x.Grades[0][at], x.Grades[1][7-at] = grade, 12-grade
			checkToneFile(t, x)
		}
	}
}

// Each key up to 16 is the best one of some numbers; beyond it none is.
func TestEncodeTonesOfKeys(t *testing.T) {
	met := map[int]int{}
	for _, sign := range []int{1, -1} {
		for n := 1; n <= greatestInSlot; n *= 2 {
			x := plainTones(0)
			x.Slots[0] = alike(sign*n, 16)
			keys, _ := slowToneKeys(x)
			met[keys[0]]++
			checkToneFile(t, x)
		}
	}
	for _, n := range []int{leastInSlot, greatestInSlot} {
		x := plainTones(0)
		x.Slots[0] = alike(n, 16)
		keys, _ := slowToneKeys(x)
		if file := checkToneFile(t, x); keys[0] != 16 || len(file) != 9+(32+5+16*48+7)/8 {
			t.Errorf("%d: key %d, %d bytes", n, keys[0], len(file))
		}
	}
	for key := range 17 {
		if met[key] == 0 && key != 0 {
			t.Errorf("key %d was not met: %v", key, met)
		}
	}
}

// Of several keys with as few bits the least is told.
func TestEncodeTonesOfKeysThatCostTheSame(t *testing.T) {
	// By the key 0 a 0 takes one bit fewer than by the key 1, -1 and 1 as many, and -2 one more.
	for _, c := range []struct {
		numbers []int
		key     int
		tie     int
	}{
		{alike(1, 16), 0, 1}, {alike(-1, 16), 0, 1}, {alike(0, 16), 0, 0},
		{slices.Concat(alike(-2, 8), alike(0, 8)), 0, 1},
		{slices.Concat(alike(-2, 9), alike(0, 7)), 1, 0},
		{slices.Concat(alike(-2, 7), alike(0, 9)), 0, 0},
	} {
		x := plainTones(0)
		x.Slots[0] = c.numbers
		if keys, tie := slowToneKeys(x); keys[0] != c.key || tie != c.tie {
			t.Errorf("%v: key %d, not %d, and %d others", c.numbers, keys[0], c.key, tie)
		}
		checkToneFile(t, x)
	}
	r := rand.New(rand.NewPCG(11, 40))
	ties := 0
	for range 3000 {
		x := plainTones(0)
		far := twoTo(r.IntN(20))
		for i := range x.Slots[0] {
			x.Slots[0][i] = []int{far, -far, far / 2, -far / 2, 0, r.IntN(far + 1)}[r.IntN(6)]
		}
		_, tie := slowToneKeys(x)
		ties += tie
		checkToneFile(t, x)
	}
	if ties < 100 {
		t.Errorf("%d ties", ties)
	}
}

// A file of so many bits more than whole bytes is filled up with bits 0; slots are not.
func TestEncodeTonesOfFilling(t *testing.T) {
	met := map[int]int{}
	for more := range 17 {
		for slots := 1; slots <= 3; slots++ {
			x := plainTones(16 * (slots - 1))
			for j := range x.Slots {
				copy(x.Slots[j], alike(-1, more))
			}
			keys, _ := slowToneKeys(x)
			met[len(strings.Join(toneTexts(x, keys), ""))%8]++
			checkToneFile(t, x)
		}
	}
	if len(met) != 8 {
		t.Errorf("%v", met)
	}
}

func TestEncodeTonesOfSomeTones(t *testing.T) {
	r := rand.New(rand.NewPCG(11, 41))
	for range 1500 {
		checkToneFile(t, someTones(r))
	}
	for range 300 {
		checkToneFile(t, impl.TonesOf(1+r.IntN(1000000), r.IntN(16), someToneList(r, r.IntN(200))))
	}
}

// No tones have a file beyond MaxFile, so that each can be read.
func TestEncodeTonesOfTheLongestFiles(t *testing.T) {
	r := rand.New(rand.NewPCG(11, 42))
	longest := 0
	for _, numbers := range [][]int{{leastInSlot}, {greatestInSlot}, {leastInSlot, greatestInSlot}, {leastInSlot, 0}, {greatestInSlot, 1 << 15, -1}} {
		for _, grade := range []int{0, 12} {
			x := plainTones(4000)
			for j := range x.Slots {
				for i := range x.Slots[j] {
					x.Slots[j][i] = numbers[r.IntN(len(numbers))]
				}
				x.Grades[j] = alike(grade, 8)
			}
			longest = max(longest, len(checkToneFile(t, x)))
		}
	}
	// 40 bits of head, and 251 slots of 32, 5 and 16 times 48.
	if want := 4 + (40+251*(37+16*48)+7)/8; longest != want || longest > impl.MaxFile {
		t.Errorf("%d bytes, not %d", longest, want)
	}
}

func TestEncodeTonesThatAreNotGood(t *testing.T) {
	for _, x := range []impl.Tones{{}, {Rate: 1}, {Rate: 1, Slots: [][]int{nil}, Grades: [][]int{nil}}, {Rate: 1, Length: 4001}} {
		if got := toneFileMade(t, x); len(got) > 0 {
			t.Errorf("%s: %v", describedTones(x), got)
		}
	}
}
