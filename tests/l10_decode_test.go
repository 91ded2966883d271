package tests

import (
	"bytes"
	"math/rand/v2"
	"slices"
	"strconv"
	"strings"
	"testing"

	"loop.example/g00016/impl"
)

// A bitWalker goes through a file bit by bit.
type bitWalker struct {
	data []byte
	at   int
}

// A soundWalker does so by the document's words.
type soundWalker struct {
	bitWalker
	sound impl.Sound
	many  int
}

func (w *bitWalker) bit() int {
	if w.at == 8*len(w.data) {
		panic(impl.ErrShort)
	}
	w.at++
	return int(w.data[(w.at-1)/8]>>(7-(w.at-1)%8)) & 1
}

func (w *bitWalker) number(bits int) int {
	n := 0
	for range bits {
		n = 2*n + w.bit()
	}
	return n
}

// signed is the number of both ends' range that is the same modulo 2 to the power of bits.
func (w *soundWalker) signed(bits int) int {
	n := w.number(bits)
	if _, most := depthEnds(bits); n > most {
		n -= 2 * (most + 1)
	}
	return n
}

func mustHold(holds bool, err int) {
	if !holds {
		panic(err)
	}
}

func (w *soundWalker) head() {
	mustHold(len(w.data) <= 60000, impl.ErrForm)
	for _, want := range []int{83, 78, 68, 49} {
		mustHold(w.number(8) == want, impl.ErrCode)
	}
	w.sound.Rate, w.sound.Bits, w.sound.Frame = w.number(20), w.number(5), w.number(10)
	w.sound.Channels = make([][]int, 1+w.bit())
	w.many = w.number(12)
	mustHold(w.sound.Rate >= 1 && w.sound.Rate <= 1000000 && w.sound.Bits >= 2 && w.sound.Bits <= 24, impl.ErrRange)
	mustHold(w.sound.Frame >= 1 && w.sound.Frame <= 512 && w.many <= 4000, impl.ErrRange)
}

// keyed has the number that was folded to zeros and bits.
func (w *soundWalker) keyed(key int) int {
	if key == 25 {
		return w.signed(32)
	}
	zeros := 0
	for w.bit() == 0 {
		zeros++
	}
	n := zeros*(1<<key) + w.number(key)
	if n%2 == 1 {
		return -(n + 1) / 2
	}
	return n / 2
}

func (w *soundWalker) list(long int) toldList {
	l := toldList{plan: impl.Plan{Order: w.number(3)}}
	mustHold(l.plan.Order <= 4 && l.plan.Order <= long, impl.ErrRange)
	for range l.plan.Order {
		l.residue = append(l.residue, w.signed(26))
	}
	l.plan.Parts = w.number(3)
	mustHold(l.plan.Parts <= 4, impl.ErrRange)
	many := 1 << l.plan.Parts
	mustHold(long%many == 0 && long/many >= l.plan.Order, impl.ErrRange)
	for part := 1; part <= many; part++ {
		key := w.number(5)
		mustHold(key <= 25, impl.ErrRange)
		l.plan.Keys = append(l.plan.Keys, key)
		for len(l.residue) < part*long/many {
			l.residue = append(l.residue, w.keyed(key))
		}
	}
	return l
}

func (w *soundWalker) frame(long int) {
	from := w.at / 8
	f := toldFrame{way: w.number(2)}
	mustHold(f.way == 0 || f.way < 3 && len(w.sound.Channels) == 2, impl.ErrRange)
	for range w.sound.Channels {
		f.lists = append(f.lists, w.list(long))
	}
	for w.at%8 > 0 {
		mustHold(w.bit() == 0, impl.ErrCode)
	}
	closed := closedFrame(bitText(w.data[from : w.at/8]))
	sum := w.number(16)
	mustHold(byte(sum>>8) == closed[len(closed)-2] && byte(sum) == closed[len(closed)-1], impl.ErrSum)
	w.keep(f, long)
}

func (w *soundWalker) keep(f toldFrame, long int) {
	var lists [][]int
	for _, l := range f.lists {
		lists = append(lists, slowRestore(l.plan.Order, l.residue))
		mustHold(len(lists[len(lists)-1]) == long, impl.ErrRange)
	}
	if len(lists) == 2 {
		lists[0], lists[1] = slowUnturn(f.way, lists[0], lists[1])
	}
	least, most := depthEnds(w.sound.Bits)
	for i, list := range lists {
		mustHold(len(list) == long && allWithin(list, least, most), impl.ErrRange)
		w.sound.Channels[i] = append(w.sound.Channels[i], list...)
	}
}

func slowDecodeSound(data []byte) impl.SoundRes {
	w := soundWalker{bitWalker: bitWalker{data: data}}
	err := codeOfPanic(func() {
		w.head()
		for left := w.many; left > 0; left -= w.sound.Frame {
			w.frame(min(left, w.sound.Frame))
		}
		mustHold(w.at == 8*len(data), impl.ErrMore)
	})
	if err != 0 {
		return impl.SoundRes{Err: err}
	}
	return impl.SoundRes{Sound: w.sound}
}

// soundRead reads a file twice, amid other memory.
func soundRead(t *testing.T, what string, data []byte) impl.SoundRes {
	t.Helper()
	around, handed := amid(data, 0)
	was := slices.Clone(around)
	got, again := impl.DecodeSound(handed), impl.DecodeSound(handed)
	if got.Err != again.Err || !sameSound(got.Sound, again.Sound) {
		t.Errorf("%s: two calls are not alike", what)
	}
	if !bytes.Equal(around, was) {
		t.Errorf("%s: the data were written", what)
	}
	kept := impl.SoundRes{Err: got.Err, Sound: cloneSound(got.Sound)}
	checkApart(t, what, nil, slices.Concat(got.Sound.Channels, again.Sound.Channels)...)
	return kept
}

// checkAnySoundFile holds what is read against a slow reader alone.
func checkAnySoundFile(t *testing.T, what string, data []byte) impl.SoundRes {
	t.Helper()
	got, want := soundRead(t, what, data), slowDecodeSound(data)
	if got.Err != want.Err || !sameSound(got.Sound, want.Sound) {
		t.Errorf("%s: error %d, %s, not %d, %s, or other samples", what, got.Err, describedSound(got.Sound), want.Err, describedSound(want.Sound))
	}
	if got.Err != 0 && !sameSound(got.Sound, impl.Sound{}) {
		t.Errorf("%s: error %d, and more beside it", what, got.Err)
	}
	if got.Err == 0 && !impl.GoodSound(got.Sound) {
		t.Errorf("%s: %s is not good", what, describedSound(got.Sound))
	}
	return got
}

func checkSoundFile(t *testing.T, what string, data []byte, err int) impl.SoundRes {
	t.Helper()
	got := checkAnySoundFile(t, what, data)
	if got.Err != err {
		t.Errorf("%s: error %d, not %d", what, got.Err, err)
	}
	return got
}

// closedFile has frames of these bits, each with its sum.
func closedFile(head []byte, texts ...string) []byte {
	file := slices.Clone(head)
	for _, text := range texts {
		file = append(file, closedFrame(text)...)
	}
	return file
}

// plainList tells so many zeros by the least plan.
func plainList(many int) string {
	return "000" + "000" + "00000" + strings.Repeat("1", many)
}

func smallSound() impl.Sound {
	return impl.Sound{Rate: 44100, Bits: 12, Frame: 8, Channels: [][]int{
		{1, 5, 9, 13, 17, 22, 26, 29, 33, -700, 800, -900, 4, 4, 4, 3, 2, 2, 2},
		{2, 6, 9, 13, 18, 22, 26, 30, 32, -1, 0, 0, 0, 1, 3, 3, 2, 1, 2},
	}}
}

func TestDecodeSoundByHand(t *testing.T) {
	head := soundHead(9, 8, 4, 1, 4)
	for _, c := range []struct {
		text string
		want []int
	}{
		{"00" + plainList(4), []int{0, 0, 0, 0}},
		{"00" + "000" + "000" + "00001" + "10" + "11" + "010" + "011", []int{0, -1, 1, -2}},
		{"00" + "100" + asBits(-3, 26) + asBits(7, 26) + asBits(0, 26) + asBits(-128, 26) + "000" + "00000", []int{-3, 7, 0, -128}},
		{"00" + "010" + asBits(10, 26) + asBits(12, 26) + "000" + "11001" + asBits(0, 32) + asBits(-1, 32), []int{10, 12, 14, 15}},
		{"00" + "000" + "010" + "00000" + "1" + "00000" + "01" + "00000" + "001" + "00010" + "100", []int{0, -1, 1, 0}},
		{"00" + "010" + asBits(1, 26) + asBits(1, 26) + "001" + "11000" + "00000" + "11", []int{1, 1, 1, 1}},
	} {
		got := checkSoundFile(t, c.text, closedFile(head, c.text), 0)
		if want := (impl.Sound{Rate: 9, Bits: 8, Frame: 4, Channels: [][]int{c.want}}); !sameSound(got.Sound, want) {
			t.Errorf("%s: %v, not %v", c.text, got.Sound, want)
		}
	}
	head = soundHead(9, 8, 4, 2, 2)
	for way, want := range [][][]int{{{5, 6}, {-3, 2}}, {{5, 6}, {8, 4}}, {{4, 7}, {7, 5}}} {
		text := asBits(way, 2) + "010" + asBits(5, 26) + asBits(6, 26) + "000" + "00000" + "010" + asBits(-3, 26) + asBits(2, 26) + "000" + "00000"
		got := checkSoundFile(t, "way "+strconv.Itoa(way), closedFile(head, text), 0)
		if !sameLists(got.Sound.Channels, want) {
			t.Errorf("way %d: %v, not %v", way, got.Sound.Channels, want)
		}
	}
}

func TestDecodeSoundOfTooManyBytes(t *testing.T) {
	checkTooMany(t, impl.EncodeSound(smallSound()), func(what string, data []byte, err int) {
		checkSoundFile(t, what, data, err)
	})
}

func TestDecodeSoundOfTheFirstBytes(t *testing.T) {
	checkFirstBytes(t, impl.EncodeSound(smallSound()), func(what string, data []byte, err int) {
		checkSoundFile(t, what, data, err)
	})
}

func TestDecodeSoundOfHeads(t *testing.T) {
	for _, c := range []struct {
		rate, bits, frame, many int
		good                    bool
	}{
		{1, 2, 1, 0, true}, {1, 24, 512, 0, true}, {1000000, 2, 1, 1, true}, {1, 2, 512, 4000, true}, {1000000, 24, 512, 4000, true},
		{0, 2, 1, 0, false}, {1000001, 2, 1, 0, false}, {1<<20 - 1, 2, 1, 0, false},
		{1, 0, 1, 0, false}, {1, 1, 1, 0, false}, {1, 25, 1, 0, false}, {1, 31, 1, 0, false},
		{1, 2, 0, 0, false}, {1, 2, 513, 0, false}, {1, 2, 1023, 0, false},
		{1, 2, 1, 4001, false}, {1, 2, 512, 4095, false}, {1, 2, 0, 4095, false}, {0, 0, 0, 0, false},
	} {
		for _, channels := range []int{1, 2} {
			head := soundHead(c.rate, c.bits, c.frame, channels, c.many)
			for many := range head {
				checkSoundFile(t, "a head that is cut", head[:many], impl.ErrShort)
			}
			want, behind := impl.ErrRange, impl.ErrRange
			if c.good && c.many == 0 {
				want, behind = 0, impl.ErrMore
			} else if c.good {
				want = impl.ErrShort
			}
			checkSoundFile(t, "a head alone", head, want)
			// A frame's way of 3 is ErrRange, too.
			checkSoundFile(t, "a head and more", append(head, 255), behind)
			if c.good {
				list := plainList(min(c.frame, c.many))
				texts := slices.Repeat([]string{"00" + strings.Repeat(list, channels)}, c.many/c.frame)
				if left := c.many % c.frame; left > 0 {
					texts = append(texts, "00"+strings.Repeat(plainList(left), channels))
				}
				got := checkSoundFile(t, "a head and its frames", closedFile(head, texts...), 0)
				if len(got.Sound.Channels) != channels || len(got.Sound.Channels[0]) != c.many {
					t.Errorf("%s", describedSound(got.Sound))
				}
			}
		}
	}
}

// checkFrame asks for the error of a frame's bits, right behind the head and behind another frame, with its sum and with
// nothing behind, with a wrong sum, and with frames behind it.
func checkFrame(t *testing.T, what string, channels int, long int, text string, err int) {
	t.Helper()
	ahead := "00" + strings.Repeat(plainList(long), channels)
	for frames := range 3 {
		head := soundHead(8000, 16, long, channels, long*(frames+1))
		texts := append(slices.Repeat([]string{ahead}, frames), text)
		file := closedFile(head, texts...)
		checkSoundFile(t, what, file, err)
		if err == impl.ErrShort {
			continue
		}
		checkSoundFile(t, what+", one byte more", append(slices.Clone(file), 0), err)
		last := file[:len(file)-2]
		checkSoundFile(t, what+", no sum", last, err)
		checkSoundFile(t, what+", half a sum", file[:len(file)-1], err)
		checkSoundFile(t, what+", a wrong sum", append(slices.Clone(last), ^file[len(file)-2], file[len(file)-1]), err)
		head = soundHead(8000, 16, long, channels, long*(frames+2))
		checkSoundFile(t, what+", a frame behind", closedFile(head, append(texts, ahead)...), err)
		checkSoundFile(t, what+", a frame without samples behind", closedFile(head, append(texts, "11")...), err)
	}
}

// paddedText has bits that fill their bytes, so that nothing is filled up behind them.
func paddedText(text string) string {
	return text + strings.Repeat("0", (8-len(text)%8)%8)
}

func TestDecodeSoundOfWays(t *testing.T) {
	list := plainList(3)
	for way := 1; way <= 3; way++ {
		checkFrame(t, "a way with one channel", 1, 3, asBits(way, 2)+list, impl.ErrRange)
		checkFrame(t, "a way with one channel and no more", 1, 3, asBits(way, 2), impl.ErrRange)
	}
	for way := range 3 {
		text := asBits(way, 2) + list + list
		checkSoundFile(t, "a way with two channels", closedFile(soundHead(1, 8, 3, 2, 3), text), 0)
	}
	checkFrame(t, "the way 3", 2, 3, "11"+list+list, impl.ErrRange)
	checkFrame(t, "the way 3 and no more", 2, 3, "11", impl.ErrRange)
	checkFrame(t, "the way 3 and a wrong order", 2, 3, "11111", impl.ErrRange)
}

func TestDecodeSoundOfOrders(t *testing.T) {
	for long := 1; long <= 6; long++ {
		for order := range 8 {
			head := "00" + asBits(order, 3)
			if order <= min(4, long) {
				text := head + strings.Repeat("0", 26*order) + "000" + "00000" + strings.Repeat("1", long-order)
				checkSoundFile(t, "an order that may be", closedFile(soundHead(1, 8, long, 1, long), text), 0)
				continue
			}
			checkFrame(t, "an order", 1, long, head, impl.ErrRange)
			checkFrame(t, "an order and all else", 1, long, head+strings.Repeat("0", 26*order)+"000"+"00000"+"1", impl.ErrRange)
			checkFrame(t, "an order of the second list", 2, long, "00"+plainList(long)+asBits(order, 3), impl.ErrRange)
		}
	}
	// The last frame is shorter than the others, and so is what its order may be.
	for order := range 8 {
		file := closedFile(soundHead(1, 8, 5, 1, 7), "00"+plainList(5), "00"+asBits(order, 3)+strings.Repeat("0", 26*order)+"000"+"00000"+strings.Repeat("1", max(0, 2-order)))
		want := impl.ErrRange
		if order <= 2 {
			want = 0
		}
		checkSoundFile(t, "an order of the last frame", file, want)
	}
}

func TestDecodeSoundOfParts(t *testing.T) {
	for long := 1; long <= 68; long++ {
		for order := range min(4, long) + 1 {
			for cut := range 8 {
				head := "00" + asBits(order, 3) + strings.Repeat("0", 26*order) + asBits(cut, 3)
				many := 1 << cut
				if cut <= 4 && long%many == 0 && long/many >= order {
					text := head
					for part := range many {
						text += "00000" + strings.Repeat("1", long/many)
						if part == 0 {
							text = text[:len(text)-order]
						}
					}
					checkSoundFile(t, "parts that may be", closedFile(soundHead(1, 8, long, 1, long), text), 0)
					continue
				}
				file := closedFile(soundHead(1, 8, long, 1, long), head)
				checkSoundFile(t, "parts", file, impl.ErrRange)
				checkSoundFile(t, "parts and no sum", file[:len(file)-2], impl.ErrRange)
			}
		}
	}
	checkFrame(t, "parts of 3", 1, 3, "00"+"000"+"001"+"00000"+"1"+"00000"+"11", impl.ErrRange)
	checkFrame(t, "parts of 4, order 3", 1, 4, "00"+"011"+strings.Repeat("0", 78)+"001"+"00000"+"00000"+"11", impl.ErrRange)
	checkFrame(t, "five as parts", 1, 32, "00"+"000"+"101"+strings.Repeat("000001", 32), impl.ErrRange)
	checkFrame(t, "parts of the second list", 2, 3, "00"+plainList(3)+"000"+"001", impl.ErrRange)
}

func TestDecodeSoundOfKeys(t *testing.T) {
	for key := range 32 {
		text := "00" + "000" + "001" + "00000" + "11" + asBits(key, 5)
		if key <= 24 {
			tail := "1" + strings.Repeat("0", key)
			got := checkSoundFile(t, "a key", closedFile(soundHead(1, 24, 4, 1, 4), text+tail+"1"+asBits(1<<key/2, key)), 0)
			want := 1 << key / 4
			if key == 1 {
				want = -1
			}
			if last := got.Sound.Channels[0][3]; last != want {
				t.Errorf("key %d: %d, not %d", key, last, want)
			}
			continue
		}
		if key == 25 {
			got := checkSoundFile(t, "the last key", closedFile(soundHead(1, 24, 4, 1, 4), text+asBits(-77, 32)+asBits(78, 32)), 0)
			if !slices.Equal(got.Sound.Channels[0], []int{0, 0, -77, 78}) {
				t.Errorf("%v", got.Sound.Channels)
			}
			continue
		}
		checkFrame(t, "a key", 1, 4, text, impl.ErrRange)
		checkFrame(t, "a key and numbers", 1, 4, text+strings.Repeat("1", 80), impl.ErrRange)
		checkFrame(t, "a key of the first part", 1, 4, "00"+"000"+"001"+asBits(key, 5)+"1111", impl.ErrRange)
		// A part without numbers has a key, too.
		checkFrame(t, "a key of no numbers", 1, 2, "00"+"010"+strings.Repeat("0", 52)+"000"+asBits(key, 5), impl.ErrRange)
		checkFrame(t, "a key of the second list", 2, 2, "00"+plainList(2)+"000"+"000"+asBits(key, 5), impl.ErrRange)
	}
}

// The bits that a frame is filled up with, ahead of its sum.
func TestDecodeSoundOfFilling(t *testing.T) {
	for many := 1; many <= 16; many++ {
		for _, channels := range []int{1, 2} {
			text := "00" + strings.Repeat(plainList(many), channels)
			left := len(paddedText(text)) - len(text)
			for at := range left {
				other := []byte(paddedText(text))
				other[len(text)+at] = '1'
				checkFrame(t, "a bit of the filling", channels, many, string(other), impl.ErrCode)
			}
			// A whole byte 0 more is no filling, but the sum's first byte.
			file := closedFile(soundHead(1, 8, many, channels, many), paddedText(text)+"00000000")
			checkSoundFile(t, "a byte 0 ahead of the sum", file, impl.ErrSum)
		}
	}
	// Numbers that may not be come behind the filling.
	text := "00" + "000" + "000" + "11001" + asBits(1<<30, 32)
	other := []byte(paddedText(text))
	other[len(other)-1] = '1'
	checkFrame(t, "filling ahead of a number", 1, 1, string(other), impl.ErrCode)
}

func TestDecodeSoundOfSums(t *testing.T) {
	s := smallSound()
	frames, _ := slowTold(s)
	file := impl.EncodeSound(s)
	end := 10
	for _, f := range frames {
		end += len(closedFrame(f.text()))
		for bit := range 16 {
			data := slices.Clone(file)
			data[end-2+bit/8] ^= 128 >> (bit % 8)
			checkSoundFile(t, "a bit of a sum", data, impl.ErrSum)
			checkSoundFile(t, "a bit of a sum, nothing behind", data[:end], impl.ErrSum)
			checkSoundFile(t, "a bit of a sum, and more", append(data, 0), impl.ErrSum)
		}
		swapped := slices.Clone(file)
		swapped[end-2], swapped[end-1] = file[end-1], file[end-2]
		if file[end-2] == file[end-1] {
			t.Fatal("a sum of two bytes that are the same")
		}
		checkSoundFile(t, "the lowest byte first", swapped, impl.ErrSum)
	}
	if end != len(file) {
		t.Errorf("%d bytes, not %d", len(file), end)
	}
	// The sum is looked at ahead of the numbers.
	file = closedFile(soundHead(1, 8, 1, 1, 1), "00"+"000"+"000"+"11001"+asBits(1<<30, 32))
	checkSoundFile(t, "a number", file, impl.ErrRange)
	file[len(file)-1]++
	checkSoundFile(t, "a number and a wrong sum", file, impl.ErrSum)
	checkSoundFile(t, "a number and half a sum", file[:len(file)-1], impl.ErrShort)
}

// checkNumbers asks for the error of a frame of one channel, or of two, that is told so.
func checkNumbers(t *testing.T, what string, bits int, f toldFrame, err int) impl.SoundRes {
	t.Helper()
	long := len(f.lists[0].residue)
	head := soundHead(1, bits, long, len(f.lists), long)
	file := closedFile(head, f.text())
	behind := err
	if err == 0 {
		behind = impl.ErrMore
	}
	checkSoundFile(t, what+", more behind it", append(slices.Clone(file), 0), behind)
	twice := soundHead(1, bits, long, len(f.lists), 2*long)
	behind = err
	if err == 0 {
		behind = impl.ErrShort
	}
	checkSoundFile(t, what+", a frame that lacks behind it", closedFile(twice, f.text()), behind)
	return checkSoundFile(t, what, file, err)
}

func toldBy25(order int, residue ...int) toldList {
	return toldList{impl.Plan{Order: order, Keys: []int{25}}, residue}
}

func TestDecodeSoundOfNumbersBeyondBits(t *testing.T) {
	for bits := 2; bits <= 24; bits++ {
		least, most := depthEnds(bits)
		for _, n := range around(2, least, most) {
			want := 0
			if n < least || n > most {
				want = impl.ErrRange
			}
			for at := range 3 {
				list := []int{0, -1, 0}
				list[at] = n
				for order := range 4 {
					f := toldFrame{0, []toldList{toldBy25(order, slowResidue(order, list)...)}}
					got := checkNumbers(t, "a number", bits, f, want)
					if want == 0 && !slices.Equal(got.Sound.Channels[0], list) {
						t.Errorf("bits %d, %v: %v", bits, list, got.Sound.Channels)
					}
				}
				for way := range 3 {
					for _, lists := range [][2][]int{{list, {0, 0, 0}}, {{0, 0, 0}, list}, {list, list}} {
						a, b := slowTurn(way, lists[0], lists[1])
						got := checkNumbers(t, "a number of two", bits, toldFrame{way, []toldList{toldBy25(0, a...), toldBy25(0, b...)}}, want)
						if want == 0 && !sameLists(got.Sound.Channels, lists[:]) {
							t.Errorf("bits %d, way %d, %v: %v", bits, way, lists, got.Sound.Channels)
						}
					}
				}
			}
		}
	}
}

// The first numbers' 26 bits are those of numbers from -2^25 to 2^25 - 1, the others' 32 of those from -2^31 to 2^31 - 1.
func TestDecodeSoundOfSigns(t *testing.T) {
	for _, c := range []struct {
		number, order int
		err           int
	}{
		{-1, 1, 0}, {8388607, 1, 0}, {-8388608, 1, 0}, {8388608, 1, impl.ErrRange}, {1<<26 - 1, 1, 0}, {1<<26 - 8388608, 1, 0}, {1<<26 - 8388609, 1, impl.ErrRange}, {1 << 25, 1, impl.ErrRange}, {1<<25 - 1, 1, impl.ErrRange},
		{-1, 0, 0}, {8388607, 0, 0}, {-8388608, 0, 0}, {8388608, 0, impl.ErrRange}, {1<<32 - 1, 0, 0}, {1<<32 - 8388608, 0, 0}, {1<<32 - 8388609, 0, impl.ErrRange}, {1 << 31, 0, impl.ErrRange}, {1<<31 - 1, 0, impl.ErrRange}, {1 << 26, 0, impl.ErrRange},
	} {
		checkNumbers(t, "a sign", 24, toldFrame{0, []toldList{toldBy25(c.order, c.number)}}, c.err)
	}
	// The greatest differences of samples, and those next to them.
	for _, d := range []int{-16777215, -16777214, 16777214, 16777215} {
		mean := -magnitude(d % 2)
		got := checkNumbers(t, "a difference", 24, toldFrame{2, []toldList{toldBy25(1, mean), toldBy25(1, d)}}, 0)
		a, b := slowUnturn(2, []int{mean}, []int{d})
		if !sameLists(got.Sound.Channels, [][]int{a, b}) {
			t.Errorf("%d: %v", d, got.Sound.Channels)
		}
	}
}

// Numbers that no list could be restored from, and pairs that none was turned to.
func TestDecodeSoundOfNumbersThatCannotBe(t *testing.T) {
	for _, n := range []int{-1 << 31, -1<<31 + 1, -1 << 30, -1<<26 - 1, -1 << 26, 1<<26 - 1, 1 << 26, 1 << 30, 1<<31 - 1} {
		for order := range 5 {
			for at := order; at < 6; at++ {
				residue := make([]int, 6)
				residue[at] = n
				checkNumbers(t, "a far number", 24, toldFrame{0, []toldList{toldBy25(order, residue...)}}, impl.ErrRange)
				for way := range 3 {
					checkNumbers(t, "a far number of the first list", 24, toldFrame{way, []toldList{toldBy25(order, residue...), toldBy25(0, 0, 0, 0, 0, 0, 0)}}, impl.ErrRange)
					checkNumbers(t, "a far number of the second list", 24, toldFrame{way, []toldList{toldBy25(0, 0, 0, 0, 0, 0, 0), toldBy25(order, residue...)}}, impl.ErrRange)
				}
			}
		}
	}
	// What goes beyond and comes back within the list is beyond, too.
	checkNumbers(t, "away and back", 24, toldFrame{0, []toldList{toldBy25(1, 0, 1<<26, -1<<26)}}, impl.ErrRange)
	checkNumbers(t, "away and back", 24, toldFrame{0, []toldList{toldBy25(0, 0, 1<<23, 0)}}, impl.ErrRange)
	for way := 1; way <= 2; way++ {
		for _, pair := range [][2]int{{1<<26 - 1, -1 << 26}, {-1 << 26, 1<<26 - 1}, {1<<26 - 1, 1<<26 - 1}, {-1 << 26, -1 << 26}, {0, 1 << 25}} {
			checkNumbers(t, "a pair", 24, toldFrame{way, []toldList{toldBy25(0, pair[0]), toldBy25(0, pair[1])}}, impl.ErrRange)
		}
	}
	// By order 3 and 4 a whole frame runs away, far beyond an int.
	for order := 3; order <= 4; order++ {
		residue := alike(1<<31-1, 512)
		copy(residue, []int{0, 0, 0, 0})
		checkNumbers(t, "a list that runs away", 24, toldFrame{0, []toldList{toldBy25(order, residue...)}}, impl.ErrRange)
	}
}

func TestDecodeSoundOfLongRuns(t *testing.T) {
	for _, key := range []int{0, 1, 12, 24} {
		head := slices.Concat(soundHead(1, 24, 1, 1, 1), textBytes(paddedText("00"+"000"+"000"+asBits(key, 5))))
		for _, many := range []int{0, 1, 7, 100, 5000, 60000 - len(head)} {
			data := slices.Concat(head, make([]byte, many))
			checkSoundFile(t, "zeros up to the end", data, impl.ErrShort)
		}
		for _, zeros := range []int{1, 8, 1 << 10, 1 << 17, 1<<18 + 5, 1<<18 + 200000} {
			text := "00" + "000" + "000" + asBits(key, 5) + strings.Repeat("0", zeros) + "1" + asBits(-1, key)
			want := 0
			if key == 12 && zeros >= 1<<12 || key == 24 {
				want = impl.ErrRange
			}
			file := closedFile(soundHead(1, 24, 1, 1, 1), text)
			checkSoundFile(t, "many zeros", file, want)
			if want != 0 {
				file[len(file)-1] ^= 1
				checkSoundFile(t, "many zeros and a wrong sum", file, impl.ErrSum)
			}
		}
		// The bit 1 is there, the key's bits are not.
		if key > 8 {
			checkSoundFile(t, "zeros and a bit 1", append(slices.Clone(head), 0, 0, 1), impl.ErrShort)
		}
	}
}

// someTold has any plan of a list that may be.
func someTold(r *rand.Rand, list []int) toldList {
	for {
		p := impl.Plan{Order: r.IntN(5), Parts: r.IntN(5)}
		parts, ok := residueParts(p, list)
		if !ok {
			continue
		}
		for _, part := range parts {
			// Small keys would tell large numbers by very many bits.
			least := 0
			for _, n := range part {
				least = max(least, bitsOfNumber(folded(n))-6)
			}
			p.Keys = append(p.Keys, min(25, least+r.IntN(8)))
		}
		return toldList{p, slowResidue(p.Order, list)}
	}
}

// Any plans and ways tell the sound, not just the best ones.
func TestDecodeSoundOfAnyPlans(t *testing.T) {
	r := rand.New(rand.NewPCG(10, 50))
	for range 700 {
		s := someSound(r)
		var frames []toldFrame
		for _, frame := range framesOf(s) {
			f := toldFrame{way: r.IntN(3) * (len(s.Channels) - 1)}
			for _, list := range turnedLists(frame, f.way) {
				f.lists = append(f.lists, someTold(r, list))
			}
			frames = append(frames, f)
		}
		got := checkSoundFile(t, describedSound(s), soundFile(headOfSound(s), frames), 0)
		if !sameSound(got.Sound, s) {
			t.Fatalf("%s: %v, not %v", describedSound(s), got.Sound, s)
		}
	}
}

func TestDecodeSoundOfFilesCutAtEachByte(t *testing.T) {
	r := rand.New(rand.NewPCG(10, 51))
	list := []impl.Sound{smallSound(), plainSound(1, 0), plainSound(2, 0), plainSound(1, 1)}
	for range 20 {
		list = append(list, someSound(r))
	}
	for _, s := range list {
		file := impl.EncodeSound(s)
		checkCutFile(file, func(what string, data []byte, err int) { checkSoundFile(t, what, data, err) })
	}
}

func TestDecodeSoundOfEachBitTurned(t *testing.T) {
	r := rand.New(rand.NewPCG(10, 52))
	met := map[int]int{}
	list := []impl.Sound{smallSound()}
	for len(list) < 12 {
		if s := someSound(r); len(s.Channels[0]) > 3 && len(s.Channels[0]) < 80 {
			list = append(list, s)
		}
	}
	for _, s := range list {
		file := impl.EncodeSound(s)
		for bit := range 8 * len(file) {
			data := slices.Clone(file)
			data[bit/8] ^= 1 << (bit % 8)
			got := checkAnySoundFile(t, "a bit turned", data)
			met[got.Err]++
			// Behind the head no turned bit is taken for right.
			if got.Err == 0 && bit >= 80 {
				t.Errorf("%s: bit %d turned is not seen", describedSound(s), bit)
			}
		}
	}
	checkMet(t, met, 0, impl.ErrShort, impl.ErrSum, impl.ErrCode, impl.ErrRange, impl.ErrMore)
}

// Bits turned ahead of making the sums, so that all else is met, too.
func TestDecodeSoundOfHurtFramesWithRightSums(t *testing.T) {
	r := rand.New(rand.NewPCG(10, 53))
	met := map[int]int{}
	for range 4000 {
		s := someSound(r)
		s.Frame = min(s.Frame, 40)
		frames, _ := slowTold(impl.Sound{Rate: s.Rate, Bits: s.Bits, Frame: s.Frame, Channels: firstOfEach(s.Channels, 60)})
		var texts []string
		for _, f := range frames {
			bits := []byte(f.text())
			if r.IntN(3) == 0 {
				bits[min(r.IntN(len(bits)), r.IntN(len(bits)))] ^= 1
			}
			texts = append(texts, string(bits))
		}
		head := soundHead(s.Rate, s.Bits, s.Frame, len(s.Channels), min(60, len(s.Channels[0])))
		met[checkAnySoundFile(t, "hurt frames", closedFile(head, texts...)).Err]++
	}
	checkMet(t, met, 0, impl.ErrShort, impl.ErrSum, impl.ErrCode, impl.ErrRange)
}

// firstOfEach has at most so many numbers of each list.
func firstOfEach(lists [][]int, most int) [][]int {
	var made [][]int
	for _, list := range lists {
		made = append(made, list[:min(most, len(list))])
	}
	return made
}

func TestDecodeSoundOfHurtFiles(t *testing.T) {
	r := rand.New(rand.NewPCG(10, 54))
	met := map[int]int{}
	var files [][]byte
	for range 60 {
		files = append(files, impl.EncodeSound(someSound(r)))
	}
	for range 4000 {
		met[checkAnySoundFile(t, "a hurt file", hurt(r, files[r.IntN(len(files))])).Err]++
	}
	checkMet(t, met, 0, impl.ErrShort, impl.ErrSum, impl.ErrCode, impl.ErrRange, impl.ErrMore)
}

// Bytes of any kind behind a good head, and alone.
func TestDecodeSoundOfAnyBytes(t *testing.T) {
	r := rand.New(rand.NewPCG(10, 55))
	for range 4000 {
		bytes := sparseBytes(r, r.IntN(100))
		head := soundHead(1, 2+r.IntN(23), 1+r.IntN(20), 1+r.IntN(2), 1+r.IntN(40))
		checkAnySoundFile(t, "any bytes", slices.Concat(head, bytes))
		checkAnySoundFile(t, "any bytes behind the first four", slices.Concat(head[:4], bytes))
		checkAnySoundFile(t, "any bytes alone", bytes)
	}
}
