package tests

import (
	"bytes"
	"math/rand/v2"
	"slices"
	"strconv"
	"testing"

	"loop.example/g00016/impl"
)

// plainSound has channels of 0 alone.
func plainSound(channels int, many int) impl.Sound {
	s := impl.Sound{Rate: 8000, Bits: 16, Frame: 16}
	for range channels {
		s.Channels = append(s.Channels, make([]int, many))
	}
	return s
}

// depthEnds are the least and the greatest sample of so many bits.
func depthEnds(bits int) (int, int) {
	half := 1
	for range bits - 1 {
		half *= 2
	}
	return -half, half - 1
}

// likeChannel is a channel that has much in common with that one.
func likeChannel(r *rand.Rand, channel []int, least int, most int) []int {
	noise, sign, away := r.IntN(4), []int{1, 1, -1}[r.IntN(3)], r.IntN(most-least+1)*r.IntN(2)
	return inRange(eachNumber(channel, func(n int) int { return sign*n + away + r.IntN(noise+1) }), least, most)
}

func someSound(r *rand.Rand) impl.Sound {
	s := impl.Sound{
		Rate: []int{1, 8000, 44100, 1000000, 1 + r.IntN(1000000)}[r.IntN(5)], Bits: []int{2, 3, 8, 16, 24, 2 + r.IntN(23)}[r.IntN(6)],
		Frame: []int{1, 2, 3, 4, 5, 8, 16, 48, 64, 512, 1 + r.IntN(512)}[r.IntN(11)],
	}
	least, most := depthEnds(s.Bits)
	many := []int{0, 1, r.IntN(10), r.IntN(10), r.IntN(100), r.IntN(100), r.IntN(700)}[r.IntN(7)]
	s.Channels = [][]int{someLine(r, many, least, most)}
	switch r.IntN(3) {
	case 0:
		s.Channels = append(s.Channels, someLine(r, many, least, most))
	case 1:
		s.Channels = append(s.Channels, likeChannel(r, s.Channels[0], least, most))
	}
	return s
}

func cloneSound(s impl.Sound) impl.Sound {
	s.Channels = cloneLists(s.Channels)
	return s
}

func sameSoundHead(a, b impl.Sound) bool {
	return a.Rate == b.Rate && a.Bits == b.Bits && a.Frame == b.Frame && len(a.Channels) == len(b.Channels)
}

func sameSound(a, b impl.Sound) bool {
	return sameSoundHead(a, b) && sameLists(a.Channels, b.Channels)
}

func describedSound(s impl.Sound) string {
	text := "sound of rate " + strconv.Itoa(s.Rate) + ", bits " + strconv.Itoa(s.Bits) + ", frame " + strconv.Itoa(s.Frame) + ", channels of"
	for _, channel := range s.Channels {
		text += " " + strconv.Itoa(len(channel))
	}
	return text
}

// soundFileMade makes a sound's file twice, of channels amid other memory.
func soundFileMade(t *testing.T, s impl.Sound) []byte {
	t.Helper()
	around, handed := amidLists(s.Channels, 77777777)
	was := cloneLists(around)
	s.Channels = handed
	got, again := impl.EncodeSound(s), impl.EncodeSound(s)
	kept := slices.Clone(got)
	clear(got[:cap(got)])
	if !sameLists(around, was) || !bytes.Equal(kept, again) {
		t.Fatalf("%s: an argument was written, or two calls are not alike", describedSound(s))
	}
	return kept
}

// checkGoodSound asks what hangs on it, too: none that is not good has a file, and each good one's file is read as it.
func checkGoodSound(t *testing.T, what string, s impl.Sound, want bool) {
	t.Helper()
	was := cloneSound(s)
	if got := impl.GoodSound(s); got != want {
		t.Errorf("%s: %s: good is %v", what, describedSound(s), got)
	}
	if !sameSound(s, was) {
		t.Errorf("%s: the sound was written", what)
	}
	file := soundFileMade(t, s)
	if (len(file) > 0) != want {
		t.Errorf("%s: %s: a file of %d bytes", what, describedSound(s), len(file))
	}
	if !want {
		return
	}
	if got := impl.DecodeSound(file); got.Err != 0 || !sameSound(got.Sound, s) {
		t.Errorf("%s: %s: read with error %d as %s", what, describedSound(s), got.Err, describedSound(got.Sound))
	}
}

func TestGoodSoundOfTheZeroValue(t *testing.T) {
	checkGoodSound(t, "the zero value", impl.Sound{}, false)
	checkGoodSound(t, "the least", impl.Sound{Rate: 1, Bits: 2, Frame: 1, Channels: [][]int{nil}}, true)
	checkGoodSound(t, "the least of two", impl.Sound{Rate: 1, Bits: 2, Frame: 1, Channels: [][]int{nil, {}}}, true)
}

func TestGoodSoundOfHeads(t *testing.T) {
	for _, channels := range []int{1, 2} {
		for _, n := range append(slices.Clone(farNumbers), -1000000, -1, 0, 1, 2, 999999, 1000000, 1000001, 1<<20-1, 1<<20, 1<<20+1) {
			s := plainSound(channels, 3)
			s.Rate = n
			checkGoodSound(t, "Rate", s, n >= 1 && n <= 1000000)
		}
		for _, n := range append(slices.Clone(farNumbers), -24, -1, 0, 1, 2, 3, 8, 16, 23, 24, 25, 26, 31, 32, 33, 64, 65) {
			s := plainSound(channels, 3)
			s.Bits = n
			checkGoodSound(t, "Bits", s, n >= 2 && n <= 24)
		}
		for _, n := range append(slices.Clone(farNumbers), -512, -1, 0, 1, 2, 511, 512, 513, 1023, 1024, 1025) {
			s := plainSound(channels, 3)
			s.Frame = n
			checkGoodSound(t, "Frame", s, n >= 1 && n <= 512)
		}
	}
}

func TestGoodSoundOfChannels(t *testing.T) {
	for channels := range 6 {
		for _, many := range []int{0, 1, 2, 3999, 4000, 4001, 8000} {
			checkGoodSound(t, "channels", plainSound(channels, many), (channels == 1 || channels == 2) && many <= 4000)
		}
	}
	for a := range 4 {
		for b := range 4 {
			s := plainSound(2, a)
			s.Channels[1] = make([]int, b)
			checkGoodSound(t, "channels of unlike length", s, a == b)
		}
	}
	for _, lengths := range [][2]int{{4000, 3999}, {3999, 4000}, {4000, 4001}, {4001, 4000}, {0, 4001}, {4001, 0}} {
		s := plainSound(2, lengths[0])
		s.Channels[1] = make([]int, lengths[1])
		checkGoodSound(t, "long channels of unlike length", s, false)
	}
}

func TestGoodSoundOfSamples(t *testing.T) {
	for bits := 2; bits <= 24; bits++ {
		least, most := depthEnds(bits)
		for _, channels := range []int{1, 2} {
			for channel := range channels {
				for at := range 3 {
					for _, sample := range around(2, least, most) {
						s := plainSound(channels, 3)
						s.Bits, s.Channels[channel][at] = bits, sample
						checkGoodSound(t, "a sample "+strconv.Itoa(sample), s, sample >= least && sample <= most)
					}
				}
			}
		}
	}
	for _, sample := range extremes() {
		for _, channels := range []int{1, 2} {
			s := plainSound(channels, 3)
			s.Bits, s.Channels[channels-1][2] = 24, sample
			checkGoodSound(t, "a far sample", s, false)
		}
	}
}
