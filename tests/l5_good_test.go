package tests

import (
	"math"
	"math/rand/v2"
	"slices"
	"strconv"
	"strings"
	"testing"

	"loop.example/g00016/impl"
)

// greyImage has samples of 0 alone.
func greyImage(width int, height int, planes int, depth int) impl.Image {
	return impl.Image{Width: width, Height: height, Planes: planes, Depth: depth, Samples: make([]int, width*height*planes)}
}

// someColours leaves out neither the least colour nor the greatest.
func someColours(r *rand.Rand, many int) []int {
	colours := make([]int, many)
	for i := range colours {
		colours[i] = []int{0, 0xFFFFFF, 0x0000FF, 0xFF0000, r.IntN(1 << 24), r.IntN(1 << 24)}[r.IntN(6)]
	}
	return colours
}

func someText(r *rand.Rand, many int, least int, most int) string {
	text := make([]byte, many)
	for i := range text {
		text[i] = byte(least + r.IntN(most-least+1))
	}
	return string(text)
}

func someNotes(r *rand.Rand, many int) []impl.Note {
	var notes []impl.Note
	for range many {
		notes = append(notes, impl.Note{Key: someText(r, 1+r.IntN(impl.MaxKey), 32, 126), Value: someText(r, r.IntN(60), 1, 255)})
	}
	return notes
}

// someStill is a good one; every second one of those that may have a palette has one.
func someStill(r *rand.Rand) impl.Still {
	planes := 1 + max(0, r.IntN(6)-2)
	depth := depthsOf(planes)[r.IntN(len(depthsOf(planes)))]
	s := impl.Still{Image: someImage(r, 1+r.IntN(18), 1+r.IntN(18), planes, depth), Woven: r.IntN(2) == 0}
	if planes == 1 && depth <= 8 && r.IntN(2) == 0 {
		s.Palette = someColours(r, 1+r.IntN(256))
		for i := range s.Image.Samples {
			s.Image.Samples[i] %= len(s.Palette)
		}
	}
	s.Notes = someNotes(r, max(0, r.IntN(6)-2))
	return s
}

func cloneStill(s impl.Still) impl.Still {
	s.Image, s.Palette, s.Notes = cloneImage(s.Image), slices.Clone(s.Palette), slices.Clone(s.Notes)
	return s
}

func sameStill(a, b impl.Still) bool {
	return sameImage(a.Image, b.Image) && slices.Equal(a.Palette, b.Palette) && slices.Equal(a.Notes, b.Notes) && a.Woven == b.Woven
}

func describedStill(s impl.Still) string {
	return described(s.Image) + ", colours and notes " + sides(len(s.Palette), len(s.Notes)) + ", woven " + strconv.FormatBool(s.Woven)
}

// checkGoodStill asks what hangs on it too: no still that is not good has a file or colours.
func checkGoodStill(t *testing.T, what string, s impl.Still, want bool) {
	t.Helper()
	was := cloneStill(s)
	if got := impl.GoodStill(s); got != want {
		t.Errorf("%s: %s: good is %v", what, describedStill(s), got)
	}
	for kind := range 3 {
		if got := impl.EncodeStill(s, kind); (len(got) > 0) != want {
			t.Errorf("%s: %s, kind %d: a file of %d bytes", what, describedStill(s), kind, len(got))
		}
	}
	if got := impl.Colours(s); !want && !sameImage(got, impl.Image{}) || want && !impl.GoodImage(got) {
		t.Errorf("%s: %s: colours are %s", what, describedStill(s), described(got))
	}
	if !sameStill(s, was) {
		t.Errorf("%s: an argument was written", what)
	}
}

func palettedStill(many int, samples ...int) impl.Still {
	return impl.Still{
		Image:   impl.Image{Width: len(samples), Height: 1, Planes: 1, Depth: 8, Samples: samples},
		Palette: make([]int, many),
	}
}

func notedStill(notes ...impl.Note) impl.Still {
	return impl.Still{Image: greyImage(1, 1, 1, 1), Notes: notes}
}

func TestStillLimits(t *testing.T) {
	if impl.MaxTexts != 20 || impl.MaxKey != 40 || impl.MaxFile != 60000 {
		t.Errorf("%d %d %d", impl.MaxTexts, impl.MaxKey, impl.MaxFile)
	}
}

func TestGoodStillOfImages(t *testing.T) {
	checkGoodStill(t, "the zero value", impl.Still{}, false)
	r := rand.New(rand.NewPCG(5, 1))
	for planes := 0; planes <= 5; planes++ {
		for _, depth := range slices.Concat(depths, []int{-8, 0, 3, 12, 32}) {
			good := planes >= 1 && planes <= 4 && slices.Contains(depthsOf(planes), depth)
			for _, woven := range []bool{false, true} {
				im := greyImage(5, 3, planes, depth)
				if good {
					im = someImage(r, 5, 3, planes, depth)
				}
				checkGoodStill(t, "planes and depths", impl.Still{Image: im, Woven: woven}, good)
			}
		}
	}
	for _, c := range [][2]int{{0, 1}, {1, 0}, {-1, -1}, {513, 1}, {1, 513}, {65, 64}, {math.MinInt, 2}, {math.MaxInt, math.MaxInt}} {
		for _, woven := range []bool{false, true} {
			im := impl.Image{Width: c[0], Height: c[1], Planes: 1, Depth: 1, Samples: make([]int, 1)}
			checkGoodStill(t, "sides", impl.Still{Image: im, Woven: woven}, false)
		}
	}
	im := greyImage(2, 2, 1, 1)
	for _, c := range [][]int{nil, {0, 0, 0}, {0, 0, 0, 0, 0}, {0, 0, 0, 2}, {0, -1, 0, 0}} {
		im.Samples = c
		checkGoodStill(t, "samples", impl.Still{Image: im}, false)
		checkGoodStill(t, "samples of a palette", impl.Still{Image: im, Palette: make([]int, 256)}, false)
	}
}

func TestGoodStillOfPalettes(t *testing.T) {
	for _, c := range []struct {
		many int
		good bool
	}{{0, true}, {1, true}, {2, true}, {255, true}, {256, true}, {257, false}, {1000, false}} {
		checkGoodStill(t, strconv.Itoa(c.many)+" colours", palettedStill(c.many, 0, 0), c.good)
	}
	for _, c := range []struct {
		colour int
		good   bool
	}{{math.MinInt, false}, {-1, false}, {0, true}, {1, true}, {16777214, true}, {16777215, true}, {16777216, false}, {math.MaxInt, false}} {
		for at := range 3 {
			s := palettedStill(3, 0, 1)
			s.Palette[at] = c.colour
			checkGoodStill(t, "colour "+strconv.Itoa(c.colour)+" at "+strconv.Itoa(at), s, c.good)
		}
	}
	for _, c := range []struct {
		many, sample int
		good         bool
	}{{1, 0, true}, {1, 1, false}, {2, 1, true}, {2, 2, false}, {200, 199, true}, {200, 200, false}, {255, 255, false}, {256, 255, true}} {
		for at := range 3 {
			s := palettedStill(c.many, 0, 0, 0)
			s.Image.Samples[at] = c.sample
			checkGoodStill(t, "sample "+strconv.Itoa(c.sample), s, c.good)
		}
	}
	for planes := 1; planes <= 4; planes++ {
		for _, depth := range depthsOf(planes) {
			s := impl.Still{Image: greyImage(2, 3, planes, depth), Palette: []int{5}}
			checkGoodStill(t, "a palette", s, planes == 1 && depth <= 8)
			s.Palette = make([]int, 256)
			checkGoodStill(t, "more colours than samples can say", s, planes == 1 && depth <= 8)
		}
	}
}

func TestGoodStillOfNotes(t *testing.T) {
	for _, c := range []struct {
		many int
		good bool
	}{{0, true}, {1, true}, {19, true}, {20, true}, {21, false}, {100, false}} {
		notes := slices.Repeat([]impl.Note{{Key: "k", Value: "v"}}, c.many)
		checkGoodStill(t, strconv.Itoa(c.many)+" notes", notedStill(notes...), c.good)
	}
	for _, c := range []struct {
		many int
		good bool
	}{{0, false}, {1, true}, {2, true}, {39, true}, {40, true}, {41, false}, {1000, false}} {
		checkGoodStill(t, "a key of "+strconv.Itoa(c.many), notedStill(impl.Note{Key: strings.Repeat("~", c.many), Value: "v"}), c.good)
	}
	for _, c := range []struct {
		many int
		good bool
	}{{0, true}, {1, true}, {999, true}, {1000, true}, {1001, false}} {
		checkGoodStill(t, "a value of "+strconv.Itoa(c.many), notedStill(impl.Note{Key: "k", Value: strings.Repeat("v", c.many)}), c.good)
	}
	checkGoodStill(t, "the second note", notedStill(impl.Note{Key: "k"}, impl.Note{Value: "v"}), false)
	checkGoodStill(t, "the first note", notedStill(impl.Note{}, impl.Note{Key: "k"}), false)
	checkGoodStill(t, "two alike", notedStill(impl.Note{Key: "k"}, impl.Note{Key: "k"}), true)
	checkGoodStill(t, "longest texts", notedStill(slices.Repeat([]impl.Note{{Key: strings.Repeat("k", 40), Value: strings.Repeat("\xff", 1000)}}, 20)...), true)
	checkGoodStill(t, "runes of more than one byte", notedStill(impl.Note{Key: "k", Value: strings.Repeat("é", 500)}), true)
	checkGoodStill(t, "too many runes of more than one byte", notedStill(impl.Note{Key: "k", Value: strings.Repeat("é", 501)}), false)
}

func TestGoodStillOfBytesInNotes(t *testing.T) {
	for b := range 256 {
		text := string([]byte{byte(b)})
		for _, key := range []string{text, "k" + text, text + "k", "k" + text + "k"} {
			checkGoodStill(t, "key "+strconv.Quote(key), notedStill(impl.Note{Key: key}), b >= 32 && b <= 126)
		}
		for _, value := range []string{text, "v" + text, text + "v", "v" + text + "v"} {
			checkGoodStill(t, "value "+strconv.Quote(value), notedStill(impl.Note{Key: "k", Value: value}), b > 0)
		}
	}
}

func TestGoodStillOfAsManyBytesInRowsAsMayBe(t *testing.T) {
	for _, c := range []struct {
		width, height, planes, depth int
		bytes                        int
		good                         bool
	}{
		{187, 16, 1, 16, 6000, true}, {176, 17, 1, 16, 6001, false},
		{499, 6, 2, 8, 5994, true}, {499, 4, 3, 8, 5992, true}, {500, 4, 3, 8, 6004, false},
		{64, 64, 1, 8, 4160, true}, {8, 512, 1, 8, 4608, true}, {512, 8, 1, 8, 4104, true}, {512, 8, 4, 16, 32776, false},
		{8, 512, 1, 1, 1024, true}, {54, 18, 3, 16, 5850, true}, {55, 18, 3, 16, 5958, true}, {56, 18, 3, 16, 6066, false},
	} {
		if got := c.height * (1 + (c.width*c.planes*c.depth+7)/8); got != c.bytes {
			t.Fatalf("the rows have %d bytes", got)
		}
		checkGoodStill(t, "rows of "+strconv.Itoa(c.bytes), impl.Still{Image: greyImage(c.width, c.height, c.planes, c.depth)}, c.good)
	}
}

// wovenBytes counts by the passes, of which each has rows of its own.
func wovenBytes(width int, height int, planes int, depth int) int {
	sum := 0
	for _, p := range slowPasses(width, height) {
		sum += p.Height * (1 + (p.Width*planes*depth+7)/8)
	}
	return sum
}

func TestGoodStillOfAsManyBytesInWovenRowsAsMayBe(t *testing.T) {
	for _, c := range []struct {
		width, height, planes, depth int
		bytes                        int
	}{
		{5, 505, 1, 16, 5999}, {119, 25, 2, 8, 5999}, {249, 12, 1, 16, 5999},
		{78, 38, 1, 16, 6000}, {39, 38, 2, 16, 6000}, {4, 338, 4, 8, 6000}, {15, 128, 3, 8, 6000}, {499, 6, 2, 8, 6000},
		{117, 17, 3, 8, 6001}, {4, 233, 3, 16, 6001}, {3, 233, 4, 16, 6001}, {333, 3, 3, 16, 6001},
		{76, 39, 1, 16, 6002}, {19, 39, 4, 16, 6002},
	} {
		if got := wovenBytes(c.width, c.height, c.planes, c.depth); got != c.bytes {
			t.Fatalf("the rows have %d bytes", got)
		}
		s := impl.Still{Image: greyImage(c.width, c.height, c.planes, c.depth), Woven: true}
		checkGoodStill(t, "woven rows of "+strconv.Itoa(c.bytes), s, c.bytes <= 6000)
		s.Woven = false
		checkGoodStill(t, "the same, plain", s, c.height*(1+c.width*c.planes*c.depth/8) <= 6000)
	}
	// Plain the rows are as many as may be, woven they are more.
	s := impl.Still{Image: greyImage(187, 16, 1, 16), Woven: true}
	checkGoodStill(t, "woven", s, false)
}

func TestColoursByHand(t *testing.T) {
	s := palettedStill(3, 2, 0, 1, 2)
	s.Palette = []int{0x010203, 0xFFFFFF, 0x80FF00}
	want := impl.Image{Width: 4, Height: 1, Planes: 3, Depth: 8, Samples: []int{0x80, 0xFF, 0, 1, 2, 3, 255, 255, 255, 0x80, 0xFF, 0}}
	if got := impl.Colours(s); !sameImage(got, want) {
		t.Errorf("%v", got)
	}
	s.Image.Width, s.Image.Height, s.Woven, s.Notes = 2, 2, true, []impl.Note{{Key: "k", Value: "v"}}
	want.Width, want.Height = 2, 2
	if got := impl.Colours(s); !sameImage(got, want) {
		t.Errorf("%v", got)
	}
	s.Palette = nil
	if got := impl.Colours(s); !sameImage(got, s.Image) {
		t.Errorf("%v", got)
	}
}

func TestColoursOfEachStill(t *testing.T) {
	r := rand.New(rand.NewPCG(5, 2))
	for range 400 {
		s := someStill(r)
		want := cloneImage(s.Image)
		if len(s.Palette) > 0 {
			want.Planes, want.Depth, want.Samples = 3, 8, nil
			for _, sample := range s.Image.Samples {
				for _, part := range []int{65536, 256, 1} {
					want.Samples = append(want.Samples, s.Palette[sample]/part%256)
				}
			}
		}
		if got := impl.Colours(s); !sameImage(got, want) {
			t.Fatalf("%s: %v", describedStill(s), got)
		}
	}
	im := someImage(r, 64, 64, 1, 8)
	s := impl.Still{Image: im, Palette: someColours(r, 256)}
	if got := impl.Colours(s); got.Planes != 3 || len(got.Samples) != 3*4096 || !impl.GoodImage(got) {
		t.Errorf("as many pixels as may be: %s", described(got))
	}
}

func TestColoursAreNewMemory(t *testing.T) {
	for _, many := range []int{0, 4} {
		s := palettedStill(many, 3, 2, 1, 0)
		was := cloneStill(s)
		clear(impl.Colours(s).Samples)
		if !sameStill(s, was) {
			t.Errorf("%d colours: the still was written", many)
		}
		s.Image.Samples = slices.Grow(s.Image.Samples, 1)
		behind := s.Image.Samples[:5]
		behind[4] = 77
		_ = append(impl.Colours(s).Samples, 5)
		if behind[4] != 77 {
			t.Errorf("%d colours: what lies behind was written", many)
		}
	}
}
