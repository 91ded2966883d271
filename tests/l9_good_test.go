package tests

import (
	"math"
	"math/rand/v2"
	"slices"
	"strconv"
	"testing"

	"loop.example/g00016/impl"
)

// plainPhoto has samples of 128 alone: its blocks are all 0.
func plainPhoto(width int, height int, planes int) impl.Photo {
	p := impl.Photo{Width: width, Height: height, Quality: 50}
	for range planes {
		p.Planes = append(p.Planes, slices.Repeat([]int{128}, width*height))
	}
	return p
}

// smoothSamples go up and down slowly, with some noise.
func smoothSamples(r *rand.Rand, width int, height int, noise int) []int {
	base, across, down := r.IntN(256), r.IntN(13)-6, r.IntN(13)-6
	var samples []int
	for y := range height {
		for x := range width {
			samples = append(samples, clippedNumber(base+across*x+down*y+r.IntN(noise+1)))
		}
	}
	return samples
}

func somePhotoSamples(r *rand.Rand, width int, height int) []int {
	switch r.IntN(4) {
	case 0:
		return someSamples(r, width*height, 8)
	case 1:
		return starkPlane(r, width, height).Samples
	}
	return smoothSamples(r, width, height, []int{0, 3, 60}[r.IntN(3)])
}

// someSides are small ones for the most part.
func someSides(r *rand.Rand) (int, int) {
	if r.IntN(20) == 0 {
		return 1 + r.IntN(512), 1 + r.IntN(8)
	}
	return 1 + r.IntN(41), 1 + r.IntN(41)
}

func somePhoto(r *rand.Rand) impl.Photo {
	width, height := someSides(r)
	p := impl.Photo{Width: width, Height: height, Quality: []int{1, 10, 50, 90, 100, 1 + r.IntN(100)}[r.IntN(6)]}
	planes := []int{1, 3, 3}[r.IntN(3)]
	for range planes {
		p.Planes = append(p.Planes, somePhotoSamples(r, width, height))
	}
	p.Half = planes == 3 && r.IntN(2) == 0
	p.Steps = r.IntN(3) == 0
	if !p.Steps && r.IntN(3) > 0 {
		p.Every = []int{1, 2, 3, 1 + r.IntN(12), r.IntN(1001)}[r.IntN(5)]
	}
	return p
}

func cloneLists[T any](lists [][]T) [][]T {
	var clones [][]T
	for _, list := range lists {
		clones = append(clones, slices.Clone(list))
	}
	return clones
}

func clonePhoto(p impl.Photo) impl.Photo {
	p.Planes = cloneLists(p.Planes)
	return p
}

func sameLists[T comparable](a, b [][]T) bool {
	return slices.EqualFunc(a, b, slices.Equal)
}

func samePhotoHead(a, b impl.Photo) bool {
	return a.Width == b.Width && a.Height == b.Height && a.Quality == b.Quality && a.Half == b.Half && a.Steps == b.Steps && a.Every == b.Every
}

func samePhoto(a, b impl.Photo) bool {
	return samePhotoHead(a, b) && sameLists(a.Planes, b.Planes)
}

func isNoPhoto(p impl.Photo) bool {
	return samePhotoHead(p, impl.Photo{}) && len(p.Planes) == 0
}

func describedPhoto(p impl.Photo) string {
	text := "photo of " + sides(p.Width, p.Height) + " in " + strconv.Itoa(len(p.Planes)) + ", quality " + strconv.Itoa(p.Quality) + ", every " + strconv.Itoa(p.Every)
	if p.Half {
		text += ", half"
	}
	if p.Steps {
		text += ", steps"
	}
	return text
}

// amid has a list amid other memory: all of it, and the list within.
func amid[T any](list []T, beside T) ([]T, []T) {
	around := slices.Repeat([]T{beside}, len(list)+8)
	copy(around[4:], list)
	return around, around[4 : 4+len(list)]
}

// amidLists has each of the lists amid other memory of its own.
func amidLists[T any](lists [][]T, beside T) ([][]T, [][]T) {
	var arounds, handed [][]T
	for _, list := range lists {
		around, within := amid(list, beside)
		arounds, handed = append(arounds, around), append(handed, within)
	}
	return arounds, handed
}

// checkApart writes a number of its own all over each list made, up to its capacity, and looks whether it stays there
// and whether what was given is as it was.
func checkApart(t *testing.T, what string, given [][]int, made ...[]int) {
	t.Helper()
	was := cloneLists(given)
	for i, list := range made {
		all := list[:cap(list)]
		for at := range all {
			all[at] = -1000 - i
		}
	}
	for i, list := range made {
		for _, number := range list[:cap(list)] {
			if number != -1000-i {
				t.Fatalf("%s: two lists share memory", what)
			}
		}
	}
	if !sameLists(given, was) {
		t.Fatalf("%s: an answer shares the memory of an argument", what)
	}
}

// blocksMade makes a photo's blocks twice, of planes amid other memory.
func blocksMade(t *testing.T, p impl.Photo) [][]int {
	t.Helper()
	what := describedPhoto(p)
	around, handed := amidLists(p.Planes, 7777)
	was := cloneLists(around)
	p.Planes = handed
	got, again := impl.PhotoBlocks(p), impl.PhotoBlocks(p)
	if !sameLists(around, was) || !sameLists(got, again) {
		t.Fatalf("%s: an argument was written, or two calls are not alike", what)
	}
	kept := cloneLists(got)
	checkApart(t, what, around, slices.Concat(got, again)...)
	return kept
}

// photoMade makes a photo of blocks twice, of lists amid other memory.
func photoMade(t *testing.T, p impl.Photo, blocks [][]int) impl.Photo {
	t.Helper()
	what := describedPhoto(p)
	aroundPlanes, planes := amidLists(p.Planes, 7777)
	aroundBlocks, handed := amidLists(blocks, 77)
	around := slices.Concat(aroundPlanes, aroundBlocks)
	was := cloneLists(around)
	p.Planes = planes
	got, again := impl.PhotoOf(p, handed), impl.PhotoOf(p, handed)
	if !sameLists(around, was) || !samePhoto(got, again) {
		t.Fatalf("%s: an argument was written, or two calls are not alike", what)
	}
	kept := clonePhoto(got)
	checkApart(t, what, around, slices.Concat(got.Planes, again.Planes)...)
	return kept
}

// fileMade makes a photo's file twice, of planes amid other memory.
func fileMade(t *testing.T, p impl.Photo) []byte {
	t.Helper()
	around, handed := amidLists(p.Planes, 7777)
	was := cloneLists(around)
	p.Planes = handed
	got, again := impl.EncodePhoto(p), impl.EncodePhoto(p)
	kept := slices.Clone(got)
	clear(got[:cap(got)])
	if !sameLists(around, was) || !slices.Equal(kept, again) {
		t.Fatalf("%s: an argument was written, or two calls are not alike", describedPhoto(p))
	}
	return kept
}

// checkGoodPhoto asks what hangs on it too: none that is not good has blocks, a file, or a picture of blocks.
func checkGoodPhoto(t *testing.T, what string, p impl.Photo, want bool) {
	t.Helper()
	was := clonePhoto(p)
	if got := impl.GoodPhoto(p); got != want {
		t.Errorf("%s: %s: good is %v", what, describedPhoto(p), got)
	}
	if !samePhoto(p, was) {
		t.Errorf("%s: the photo was written", what)
	}
	blocks := blocksMade(t, p)
	if (len(blocks) > 0) != want {
		t.Errorf("%s: %s: %d blocks", what, describedPhoto(p), len(blocks))
	}
	if got := fileMade(t, p); (len(got) > 0) != want {
		t.Errorf("%s: %s: a file of %d bytes", what, describedPhoto(p), len(got))
	}
	if got := photoMade(t, p, blocks); isNoPhoto(got) == want {
		t.Errorf("%s: %s: a picture of its blocks: %s", what, describedPhoto(p), describedPhoto(got))
	}
	for many := 1; many <= 6 && !want; many++ {
		if got := photoMade(t, p, slices.Repeat([][]int{evenBlock(0)}, many)); !isNoPhoto(got) {
			t.Errorf("%s: %s: a picture of %d blocks: %s", what, describedPhoto(p), many, describedPhoto(got))
		}
	}
}

func TestPhotoLimits(t *testing.T) {
	if impl.MaxBlocks != 400 {
		t.Errorf("%d", impl.MaxBlocks)
	}
}

func TestGoodPhotoOfTheZeroValue(t *testing.T) {
	checkGoodPhoto(t, "the zero value", impl.Photo{}, false)
	checkGoodPhoto(t, "the least", impl.Photo{Width: 1, Height: 1, Quality: 1, Planes: [][]int{{0}}}, true)
}

func TestGoodPhotoOfSides(t *testing.T) {
	for _, c := range []struct {
		width, height int
		good          bool
	}{
		{1, 1, true}, {512, 1, true}, {1, 512, true}, {512, 8, true}, {8, 512, true}, {64, 64, true}, {9, 455, true}, {455, 9, true}, {17, 240, true},
		{0, 1, false}, {1, 0, false}, {0, 0, false}, {513, 1, false}, {1, 513, false}, {512, 9, false}, {9, 512, false}, {64, 65, false}, {241, 17, false},
	} {
		for _, planes := range []int{1, 3} {
			p := plainPhoto(c.width, c.height, planes)
			checkGoodPhoto(t, "sides", p, c.good)
			p.Half = true
			checkGoodPhoto(t, "sides, half", p, c.good && planes == 3)
			p.Half, p.Steps = false, true
			checkGoodPhoto(t, "sides, steps", p, c.good)
		}
	}
	for _, c := range [][2]int{{-1, 1}, {1, -1}, {-1, -1}, {-8, -8}, {1 << 32, 1 << 32}, {math.MaxInt, 2}, {2, math.MaxInt}, {math.MinInt, math.MinInt}, {math.MaxInt, math.MaxInt}, {1<<61 + 1, 8}} {
		for _, planes := range []int{1, 3} {
			p := plainPhoto(1, 1, planes)
			p.Width, p.Height = c[0], c[1]
			checkGoodPhoto(t, "far sides", p, false)
			p.Half = true
			checkGoodPhoto(t, "far sides, half", p, false)
		}
	}
}

func TestGoodPhotoOfQuality(t *testing.T) {
	for _, quality := range append(slices.Clone(farNumbers), -100, -1, 0, 1, 2, 49, 50, 51, 99, 100, 101, 150, 255, 256, 257) {
		for _, planes := range []int{1, 3} {
			p := plainPhoto(9, 3, planes)
			p.Quality = quality
			checkGoodPhoto(t, "Quality", p, quality >= 1 && quality <= 100)
		}
	}
}

func TestGoodPhotoOfEvery(t *testing.T) {
	for _, every := range append(slices.Clone(farNumbers), -1000, -1, 0, 1, 2, 3, 4, 5, 999, 1000, 1001, 65535, 65536) {
		for _, planes := range []int{1, 3} {
			p := plainPhoto(20, 9, planes)
			p.Every = every
			good := every >= 0 && every <= 1000
			checkGoodPhoto(t, "Every", p, good)
			p.Half = true
			checkGoodPhoto(t, "Every, half", p, good && planes == 3)
			p.Half, p.Steps = false, true
			checkGoodPhoto(t, "Every with Steps", p, every == 0)
			p.Half = true
			checkGoodPhoto(t, "Every with Steps, half", p, every == 0 && planes == 3)
		}
	}
}

func TestGoodPhotoOfPlanes(t *testing.T) {
	for planes := range 8 {
		p := plainPhoto(3, 2, planes)
		checkGoodPhoto(t, "so many planes", p, planes == 1 || planes == 3)
		p.Half = true
		checkGoodPhoto(t, "so many planes, half", p, planes == 3)
	}
	for _, many := range []int{0, 1, 5, 7, 12, 100, 4097} {
		for _, planes := range []int{1, 3} {
			for at := range planes {
				for _, half := range []bool{false, true} {
					p := plainPhoto(3, 2, planes)
					p.Half = half
					p.Planes[at] = alike(128, many)
					checkGoodPhoto(t, "a plane of "+strconv.Itoa(many)+" samples", p, false)
				}
			}
		}
	}
	p := plainPhoto(6, 4, 3)
	p.Half = true
	p.Planes[1], p.Planes[2] = alike(128, 6), alike(128, 6)
	checkGoodPhoto(t, "planes that are shrunk already", p, false)
}

func TestGoodPhotoOfSamples(t *testing.T) {
	for _, sample := range append(slices.Clone(farNumbers), -128, -1, 0, 1, 127, 254, 255, 256, 384, 512) {
		for _, planes := range []int{1, 3} {
			for plane := range planes {
				for at := range 6 {
					p := plainPhoto(3, 2, planes)
					p.Planes[plane][at] = sample
					checkGoodPhoto(t, "a sample "+strconv.Itoa(sample), p, sample >= 0 && sample <= 255)
				}
			}
		}
	}
}

// ceiling rounds up what it is to part a side.
func ceiling(side int, by int) int {
	return (side + by - 1) / by
}

func slowCountBlocks(width int, height int, planes int, half bool) int {
	if half {
		return 6 * ceiling(width, 16) * ceiling(height, 16)
	}
	return planes * ceiling(width, 8) * ceiling(height, 8)
}

// No sides that may be give more than MaxBlocks blocks; those that give the most are good.
func TestGoodPhotoOfAsManyBlocksAsMayBe(t *testing.T) {
	for _, c := range []struct {
		planes int
		half   bool
		most   int
	}{{1, false, 114}, {3, false, 342}, {3, true, 192}} {
		most, width, height := 0, 0, 0
		for w := 1; w <= 512; w++ {
			for h := 1; h <= 512 && w*h <= 4096; h++ {
				if many := slowCountBlocks(w, h, c.planes, c.half); many > most {
					most, width, height = many, w, h
				}
			}
		}
		if most != c.most || most > impl.MaxBlocks {
			t.Errorf("%d blocks of %s", most, sides(width, height))
		}
		p := plainPhoto(width, height, c.planes)
		p.Half = c.half
		checkGoodPhoto(t, "as many blocks as may be", p, true)
		if got := len(impl.PhotoBlocks(p)); got != most {
			t.Errorf("%s: %d blocks, not %d", describedPhoto(p), got, most)
		}
	}
}
