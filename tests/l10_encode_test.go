package tests

import (
	"bytes"
	"hash/crc32"
	"math"
	"math/rand/v2"
	"slices"
	"strings"
	"testing"

	"loop.example/g00016/impl"
)

// A toldList is a plan and what it tells: numbers ahead of the parts, and those of the parts.
type toldList struct {
	plan    impl.Plan
	residue []int
}

// A toldFrame has a frame's lists as its way has them.
type toldFrame struct {
	way   int
	lists []toldList
}

// keyedText tells a number by a key.
func keyedText(n int, key int) string {
	if key == 25 {
		return asBits(n, 32)
	}
	return strings.Repeat("0", folded(n)/(1<<key)) + "1" + asBits(folded(n), key)
}

func (l toldList) text() string {
	var text strings.Builder
	text.WriteString(asBits(l.plan.Order, 3))
	for _, n := range l.residue[:l.plan.Order] {
		text.WriteString(asBits(n, 26))
	}
	text.WriteString(asBits(l.plan.Parts, 3))
	each := len(l.residue) / len(l.plan.Keys)
	for i, n := range l.residue {
		if i%each == 0 {
			text.WriteString(asBits(l.plan.Keys[i/each], 5))
		}
		if i >= l.plan.Order {
			text.WriteString(keyedText(n, l.plan.Keys[i/each]))
		}
	}
	return text.String()
}

func (f toldFrame) text() string {
	text := asBits(f.way, 2)
	for _, l := range f.lists {
		text += l.text()
	}
	return text
}

// closedFrame fills up the bits and puts their sum behind.
func closedFrame(text string) []byte {
	data := textBytes(text)
	sum := crc32.ChecksumIEEE(data)
	return append(data, byte(sum>>8), byte(sum))
}

// soundHead has the first bytes and the numbers of a head.
func soundHead(rate int, bits int, frame int, channels int, many int) []byte {
	return slices.Concat([]byte{83, 78, 68, 49}, textBytes(asBits(rate, 20)+asBits(bits, 5)+asBits(frame, 10)+asBits(channels-1, 1)+asBits(many, 12)))
}

func headOfSound(s impl.Sound) []byte {
	return soundHead(s.Rate, s.Bits, s.Frame, len(s.Channels), len(s.Channels[0]))
}

// framesOf has the samples of each channel, frame by frame.
func framesOf(s impl.Sound) [][][]int {
	var frames [][][]int
	for i := range s.Channels[0] {
		if i%s.Frame == 0 {
			frames = append(frames, make([][]int, len(s.Channels)))
		}
		last := frames[len(frames)-1]
		for channel := range s.Channels {
			last[channel] = append(last[channel], s.Channels[channel][i])
		}
	}
	return frames
}

// turnedLists has a frame's lists by a way.
func turnedLists(frame [][]int, way int) [][]int {
	if len(frame) == 1 {
		return frame
	}
	a, b := slowTurn(way, frame[0], frame[1])
	return [][]int{a, b}
}

func bestTold(lists [][]int, way int) toldFrame {
	f := toldFrame{way: way}
	for _, list := range lists {
		plan := slowChoose(list).plan
		f.lists = append(f.lists, toldList{plan, slowResidue(plan.Order, list)})
	}
	return f
}

// slowTold has each frame by the way with the shortest text, and how many other ways are as short.
func slowTold(s impl.Sound) ([]toldFrame, int) {
	var frames []toldFrame
	ties := 0
	for _, frame := range framesOf(s) {
		var best toldFrame
		least, ways := math.MaxInt, []int{0}
		if len(frame) == 2 {
			ways = []int{0, 1, 2}
		}
		for _, way := range ways {
			f := bestTold(turnedLists(frame, way), way)
			switch long := len(f.text()); {
			case long < least:
				best, least = f, long
			case long == least:
				ties++
			}
		}
		frames = append(frames, best)
	}
	return frames, ties
}

func soundFile(head []byte, frames []toldFrame) []byte {
	file := slices.Clone(head)
	for _, f := range frames {
		file = append(file, closedFrame(f.text())...)
	}
	return file
}

// checkSound asks for the file, and what is read of it; it answers the frames as they are told.
func checkSound(t *testing.T, s impl.Sound) ([]toldFrame, []byte) {
	t.Helper()
	frames, _ := slowTold(s)
	got, want := soundFileMade(t, s), soundFile(headOfSound(s), frames)
	if !bytes.Equal(got, want) {
		t.Fatalf("%s %v: a file of %d bytes, not %d, or others\n%v\n%v", describedSound(s), s.Channels, len(got), len(want), got[:min(300, len(got))], want[:min(300, len(want))])
	}
	read := soundRead(t, describedSound(s), got)
	if read.Err != 0 || !sameSound(read.Sound, s) {
		t.Fatalf("%s: read with error %d as %s, or with other samples", describedSound(s), read.Err, describedSound(read.Sound))
	}
	return frames, got
}

func TestEncodeSoundByHand(t *testing.T) {
	for _, c := range []struct {
		s    impl.Sound
		text []string
	}{
		{impl.Sound{Rate: 8, Bits: 8, Frame: 4, Channels: [][]int{{0, 0, 0}}}, []string{"00" + "000" + "000" + "00000" + "111"}},
		{impl.Sound{Rate: 1, Bits: 4, Frame: 2, Channels: [][]int{{-1, 1, 0}}}, []string{"00" + "000" + "000" + "00000" + "01" + "001", "00" + "000" + "000" + "00000" + "1"}},
		{impl.Sound{Rate: 1000000, Bits: 24, Frame: 512, Channels: [][]int{{-8388608, -8388608, -8388607}}},
			[]string{"00" + "001" + "11100000000000000000000000" + "000" + "00000" + "1" + "001"}},
		{impl.Sound{Rate: 7, Bits: 16, Frame: 8, Channels: [][]int{{500, 500, 500, 500}, {500, 500, 500, 500}}},
			[]string{"01" + "001" + "00000000000000000111110100" + "000" + "00000" + "111" + "000" + "000" + "00000" + "1111"}},
		{impl.Sound{Rate: 7, Bits: 3, Frame: 1, Channels: [][]int{{}, {}}}, nil},
	} {
		want := headOfSound(c.s)
		for _, text := range c.text {
			want = append(want, closedFrame(text)...)
		}
		if _, got := checkSound(t, c.s); !bytes.Equal(got, want) {
			t.Errorf("%v: %v, not %v", c.s, got, want)
		}
	}
	// Crc of the bytes 0 and 7 is DFBD875C (base 16).
	file := impl.EncodeSound(impl.Sound{Rate: 8, Bits: 8, Frame: 4, Channels: [][]int{{0, 0, 0}}})
	if want := []byte{83, 78, 68, 49, 0, 0, 0x84, 0, 0x80, 3, 0, 7, 0x87, 0x5C}; !bytes.Equal(file, want) {
		t.Errorf("%v, not %v", file, want)
	}
}

func TestEncodeSoundOfHeads(t *testing.T) {
	for _, rate := range []int{1, 255, 256, 44100, 65536, 999999, 1000000} {
		for _, bits := range []int{2, 15, 16, 17, 24} {
			for _, frame := range []int{1, 255, 256, 511, 512} {
				for _, channels := range []int{1, 2} {
					s := impl.Sound{Rate: rate, Bits: bits, Frame: frame, Channels: [][]int{{1, -2, 0}, {0, 1, -1}}[:channels]}
					checkSound(t, s)
				}
			}
		}
	}
	for _, many := range []int{0, 1, 255, 256, 2047, 2048, 3999, 4000} {
		for _, channels := range []int{1, 2} {
			s := plainSound(channels, many)
			s.Frame = 512
			if _, file := checkSound(t, s); many == 0 && len(file) != 10 {
				t.Errorf("no samples: %v", file)
			}
		}
	}
}

// The last frame has what is left, be it a frame's samples or fewer.
func TestEncodeSoundOfTheLastFrame(t *testing.T) {
	r := rand.New(rand.NewPCG(10, 40))
	for _, frame := range []int{1, 2, 3, 7, 16, 20} {
		for many := range 50 {
			for _, channels := range []int{1, 2} {
				s := impl.Sound{Rate: 1, Bits: 12, Frame: frame}
				for range channels {
					s.Channels = append(s.Channels, someLine(r, many, -2048, 2047))
				}
				frames, _ := checkSound(t, s)
				if len(frames) != ceiling(many, frame) {
					t.Errorf("%s: %d frames", describedSound(s), len(frames))
				}
				if len(frames) > 0 {
					last := frames[len(frames)-1].lists[0].residue
					if left := (many-1)%frame + 1; len(last) != left {
						t.Errorf("%s: %d samples in the last frame, not %d", describedSound(s), len(last), left)
					}
				}
			}
		}
	}
}

// Each way where it has the fewest bits, and of several the least.
func TestEncodeSoundOfWays(t *testing.T) {
	loud := []int{3000, -2500, 1200, 700, -2900, 1800, -400, 2600}
	quiet := []int{1, 0, -1, 0, 1, 1, 0, -1}
	for _, c := range []struct {
		what        string
		left, right []int
		way         int
	}{
		{"silence: all three are the same", alike(0, 8), alike(0, 8), 0},
		{"one beside silence", loud, alike(0, 8), 0},
		{"silence beside one", alike(0, 8), quiet, 1},
		{"the same twice: 1 and 2 are the same", loud, loud, 1},
		{"opposites", loud, eachNumber(loud, func(n int) int { return -n }), 2},
		{"nothing in common", loud, slices.Concat(loud[3:], loud[:3]), 0},
	} {
		s := impl.Sound{Rate: 1, Bits: 16, Frame: 8, Channels: [][]int{c.left, c.right}}
		if frames, _ := checkSound(t, s); frames[0].way != c.way {
			t.Errorf("%s: way %d, not %d", c.what, frames[0].way, c.way)
		}
	}
	r := rand.New(rand.NewPCG(10, 41))
	met, ties := map[int]int{}, 0
	for range 400 {
		s := impl.Sound{Rate: 1, Bits: 10, Frame: 1 + r.IntN(10)}
		s.Channels = [][]int{someLine(r, 20, -512, 511)}
		s.Channels = append(s.Channels, likeChannel(r, s.Channels[0], -512, 511))
		frames, others := slowTold(s)
		ties += min(1, others)
		checkSound(t, s)
		for _, f := range frames {
			met[f.way]++
		}
	}
	if len(met) != 3 || min(met[0], met[1], met[2]) < 30 || ties < 30 {
		t.Errorf("ways %v, and %d times others as short", met, ties)
	}
}

func TestEncodeSoundOfSomeSounds(t *testing.T) {
	r := rand.New(rand.NewPCG(10, 42))
	for range 700 {
		checkSound(t, someSound(r))
	}
}

// Samples and differences at the ends of the greatest depth are told in 26 bits as first numbers, and in others.
func TestEncodeSoundAtTheEndsOfBits(t *testing.T) {
	r := rand.New(rand.NewPCG(10, 43))
	for _, bits := range []int{2, 23, 24} {
		least, most := depthEnds(bits)
		for range 60 {
			s := impl.Sound{Rate: 1, Bits: bits, Frame: 1 + r.IntN(12)}
			for range 1 + r.IntN(2) {
				s.Channels = append(s.Channels, nil)
			}
			for i := range s.Channels {
				for range 24 {
					s.Channels[i] = append(s.Channels[i], []int{least, most, least, most, 0, -1}[r.IntN(6)])
				}
			}
			checkSound(t, s)
		}
	}
	s := impl.Sound{Rate: 1, Bits: 24, Frame: 2, Channels: [][]int{{-8388608, -8388608}, {8388607, 8388607}}}
	frames, _ := checkSound(t, s)
	if l := frames[0].lists[1]; frames[0].way != 2 || l.plan.Order != 1 || l.residue[0] != -16777215 {
		t.Errorf("way %d, %v", frames[0].way, l)
	}
}

// No sound has a file beyond MaxFile, so that each can be read.
func TestEncodeSoundOfTheLongestFiles(t *testing.T) {
	r := rand.New(rand.NewPCG(10, 44))
	longest := 0
	for _, frame := range []int{1, 2, 3, 4, 5, 16, 511, 512} {
		for _, channels := range []int{1, 2} {
			s := impl.Sound{Rate: 1, Bits: 24, Frame: frame}
			for range channels {
				var channel []int
				for range 4000 {
					channel = append(channel, r.IntN(1<<24)-1<<23)
				}
				s.Channels = append(s.Channels, channel)
			}
			_, file := checkSound(t, s)
			longest = max(longest, len(file))
		}
	}
	if longest < 40000 || longest > 60000 {
		t.Errorf("%d bytes", longest)
	}
}

// Files of several sounds at once, each by planners of its own.
func TestEncodeSoundManyAtOnce(t *testing.T) {
	r := rand.New(rand.NewPCG(10, 45))
	done := make(chan bool)
	for range 16 {
		s := someSound(r)
		want := impl.EncodeSound(s)
		go func() {
			got := impl.EncodeSound(s)
			read := impl.DecodeSound(got)
			done <- bytes.Equal(got, want) && read.Err == 0 && sameSound(read.Sound, s)
		}()
	}
	for range 16 {
		if !<-done {
			t.Error("another file")
		}
	}
}
