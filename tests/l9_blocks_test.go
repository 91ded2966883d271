package tests

import (
	"math"
	"math/rand/v2"
	"slices"
	"strconv"
	"testing"

	"loop.example/g00016/impl"
)

// cutPlanes has the planes as they are cut: with Half the colours at half the sides.
func cutPlanes(p impl.Photo) []impl.Plane {
	var planes []impl.Plane
	for i, samples := range p.Planes {
		whole := impl.Plane{Width: p.Width, Height: p.Height, Samples: samples}
		if p.Half && i > 0 {
			whole = slowShrink(whole, 2)
		}
		planes = append(planes, whole)
	}
	return planes
}

// padded repeats the last column, and then the last row, up to these sides.
func padded(p impl.Plane, width int, height int) impl.Plane {
	wide := impl.Plane{Width: width, Height: height}
	for y := range p.Height {
		row := p.Samples[y*p.Width : (y+1)*p.Width]
		wide.Samples = append(wide.Samples, row...)
		wide.Samples = append(wide.Samples, alike(row[p.Width-1], width-p.Width)...)
	}
	last := slices.Clone(wide.Samples[(p.Height-1)*width:])
	for range height - p.Height {
		wide.Samples = append(wide.Samples, last...)
	}
	return wide
}

// A blockPlace is a plane and a block's column and row among its blocks.
type blockPlace struct {
	plane, column, row int
}

// blockPlaces goes unit by unit.
func blockPlaces(p impl.Photo) []blockPlace {
	var places []blockPlace
	if p.Half {
		for row := range ceiling(p.Height, 16) {
			for column := range ceiling(p.Width, 16) {
				places = append(places,
					blockPlace{0, 2 * column, 2 * row}, blockPlace{0, 2*column + 1, 2 * row},
					blockPlace{0, 2 * column, 2*row + 1}, blockPlace{0, 2*column + 1, 2*row + 1},
					blockPlace{1, column, row}, blockPlace{2, column, row})
			}
		}
		return places
	}
	for row := range ceiling(p.Height, 8) {
		for column := range ceiling(p.Width, 8) {
			for plane := range p.Planes {
				places = append(places, blockPlace{plane, column, row})
			}
		}
	}
	return places
}

func slowPhotoBlocks(p impl.Photo) [][]int {
	var wide []impl.Plane
	for _, plane := range cutPlanes(p) {
		wide = append(wide, padded(plane, plane.Width+32, plane.Height+32))
	}
	var blocks [][]int
	for _, place := range blockPlaces(p) {
		samples := samplesFrom(wide[place.plane], 8*place.column, 8*place.row, 8, 8)
		for i := range samples {
			samples[i] -= 128
		}
		blocks = append(blocks, eachScaled(slowForward(samples), slowScales(p.Quality, place.plane > 0), slowCoarse))
	}
	return blocks
}

// slowLaid has the planes of the blocks as they were cut, at their sides.
func slowLaid(p impl.Photo, blocks [][]int) []impl.Plane {
	planes := cutPlanes(p)
	for i := range planes {
		planes[i].Samples = make([]int, planes[i].Width*planes[i].Height)
	}
	for i, place := range blockPlaces(p) {
		samples := slowInverse(eachScaled(blocks[i], slowScales(p.Quality, place.plane > 0), slowFine))
		plane := planes[place.plane]
		for at, sample := range samples {
			x, y := 8*place.column+at%8, 8*place.row+at/8
			if x < plane.Width && y < plane.Height {
				plane.Samples[y*plane.Width+x] = clippedNumber(sample + 128)
			}
		}
	}
	return planes
}

func slowPhotoOf(p impl.Photo, blocks [][]int) impl.Photo {
	planes := slowLaid(p, blocks)
	p.Planes = nil
	for i, plane := range planes {
		if p.Half && i > 0 {
			plane = slowGrow(plane, p.Width, p.Height)
		}
		p.Planes = append(p.Planes, plane.Samples)
	}
	return p
}

func checkBlocks(t *testing.T, p impl.Photo) [][]int {
	t.Helper()
	got, want := blocksMade(t, p), slowPhotoBlocks(p)
	if !sameLists(got, want) {
		for i := range min(len(got), len(want)) {
			if !slices.Equal(got[i], want[i]) {
				t.Fatalf("%s: block %d of %d is %v, not %v", describedPhoto(p), i, len(want), got[i], want[i])
			}
		}
		t.Fatalf("%s: %d blocks, not %d", describedPhoto(p), len(got), len(want))
	}
	return got
}

func checkPhotoOf(t *testing.T, p impl.Photo, blocks [][]int) impl.Photo {
	t.Helper()
	got, want := photoMade(t, p, blocks), slowPhotoOf(p, blocks)
	if !samePhoto(got, want) {
		t.Fatalf("%s: of %d blocks %s, or other samples", describedPhoto(p), len(blocks), describedPhoto(got))
	}
	if !impl.GoodPhoto(got) {
		t.Fatalf("%s: what is made of blocks is not good", describedPhoto(p))
	}
	return got
}

func TestPhotoBlocksByHand(t *testing.T) {
	for _, c := range []struct {
		sample, quality, first int
		colour                 int
	}{
		{228, 50, 100, 80}, {128, 50, 0, 0}, {127, 50, -1, -1}, {129, 50, 1, 1}, {0, 50, -128, -102}, {255, 50, 127, 102},
		{228, 100, 800, 800}, {0, 100, -1024, -1024}, {255, 100, 1016, 1016}, {228, 1, 3, 3},
	} {
		p := plainPhoto(8, 8, 3)
		p.Quality = c.quality
		for plane := range p.Planes {
			p.Planes[plane] = alike(c.sample, 64)
		}
		blocks := checkBlocks(t, p)
		want := [][]int{loneBlock(0, c.first), loneBlock(0, c.colour), loneBlock(0, c.colour)}
		if !sameLists(blocks, want) {
			t.Errorf("sample %d, quality %d: %v", c.sample, c.quality, blocks)
		}
	}
}

// Each block has samples of its own, so that its first number says which one it is.
func TestPhotoBlocksStandInOrder(t *testing.T) {
	p := plainPhoto(24, 16, 3)
	p.Quality = 100
	fill := func(plane int, side int, sampleOf func(column int, row int) int) {
		for i := range p.Planes[plane] {
			p.Planes[plane][i] = sampleOf(i%p.Width/side, i/p.Width/side)
		}
	}
	fill(0, 8, func(column int, row int) int { return 128 + 1 + column + 3*row })
	fill(1, 8, func(column int, row int) int { return 128 + 11 + column + 3*row })
	fill(2, 8, func(column int, row int) int { return 128 + 21 + column + 3*row })
	firsts := func() []int {
		var list []int
		for _, block := range checkBlocks(t, p) {
			list = append(list, block[0]/8)
		}
		return list
	}
	if got, want := firsts(), []int{1, 11, 21, 2, 12, 22, 3, 13, 23, 4, 14, 24, 5, 15, 25, 6, 16, 26}; !slices.Equal(got, want) {
		t.Errorf("%v, not %v", got, want)
	}
	fill(1, 16, func(column int, row int) int { return 128 + 11 + column + 3*row })
	fill(2, 16, func(column int, row int) int { return 128 + 21 + column + 3*row })
	p.Half = true
	// The second unit's second column of blocks lies beyond the picture, and has its last column's samples.
	if got, want := firsts(), []int{1, 2, 4, 5, 11, 21, 3, 3, 6, 6, 12, 22}; !slices.Equal(got, want) {
		t.Errorf("half: %v, not %v", got, want)
	}
	p = impl.Photo{Width: 24, Height: 16, Quality: 100, Planes: p.Planes[:1]}
	if got, want := firsts(), []int{1, 2, 3, 4, 5, 6}; !slices.Equal(got, want) {
		t.Errorf("one plane: %v, not %v", got, want)
	}
}

// A unit of 16 by 16 of a picture that ends in its first block: three blocks lie wholly outside.
func TestPhotoBlocksOutsideAPlane(t *testing.T) {
	for _, c := range []struct {
		width, height int
		want          []int
	}{
		{8, 8, []int{1, 1, 1, 1}}, {16, 8, []int{1, 2, 1, 2}}, {8, 16, []int{1, 1, 3, 3}}, {16, 16, []int{1, 2, 3, 4}},
		{9, 8, []int{1, 2, 1, 2}}, {8, 9, []int{1, 1, 3, 3}}, {9, 9, []int{1, 2, 3, 4}}, {1, 1, []int{1, 1, 1, 1}}, {3, 12, []int{1, 1, 3, 3}},
	} {
		p := plainPhoto(c.width, c.height, 3)
		p.Quality, p.Half = 100, true
		for i := range p.Planes[0] {
			p.Planes[0][i] = 129 + i%c.width/8 + 2*(i/c.width/8)
		}
		blocks := checkBlocks(t, p)
		for i, want := range c.want {
			if !slices.Equal(blocks[i], loneBlock(0, 8*want)) {
				t.Errorf("%s: block %d is %v", sides(c.width, c.height), i, blocks[i])
			}
		}
	}
}

func TestPhotoBlocksOfAllSmallSides(t *testing.T) {
	r := rand.New(rand.NewPCG(9, 1))
	for width := 1; width <= 18; width++ {
		for height := 1; height <= 18; height++ {
			for _, half := range []bool{false, true} {
				p := impl.Photo{Width: width, Height: height, Quality: 1 + r.IntN(100), Half: half}
				for range 3 {
					p.Planes = append(p.Planes, somePhotoSamples(r, width, height))
				}
				checkPhotoOf(t, p, checkBlocks(t, p))
			}
		}
	}
}

func TestPhotoBlocksOfSomePhotos(t *testing.T) {
	r := rand.New(rand.NewPCG(9, 2))
	for range 250 {
		p := somePhoto(r)
		checkPhotoOf(t, p, checkBlocks(t, p))
	}
	for _, c := range [][2]int{{512, 8}, {8, 512}, {64, 64}, {9, 455}, {455, 9}, {512, 1}, {1, 512}, {17, 240}} {
		for _, half := range []bool{false, true} {
			p := impl.Photo{Width: c[0], Height: c[1], Quality: 1 + r.IntN(100), Half: half}
			for range 3 {
				p.Planes = append(p.Planes, somePhotoSamples(r, c[0], c[1]))
			}
			checkPhotoOf(t, p, checkBlocks(t, p))
		}
	}
}

// Steps and Every say how a photo is told, not what of it.
func TestPhotoBlocksAreTheSameWithStepsAndMarks(t *testing.T) {
	r := rand.New(rand.NewPCG(9, 3))
	for range 60 {
		p := somePhoto(r)
		p.Steps, p.Every = false, 0
		steps, marks := p, p
		steps.Steps, marks.Every = true, 1+r.IntN(1000)
		want := checkBlocks(t, p)
		if !sameLists(checkBlocks(t, steps), want) || !sameLists(checkBlocks(t, marks), want) {
			t.Fatalf("%s: other blocks with steps or marks", describedPhoto(p))
		}
	}
}

// The second and the third plane alone have the scales of colour, whatever is in them.
func TestPhotoBlocksOfScales(t *testing.T) {
	r := rand.New(rand.NewPCG(9, 4))
	samples := somePlane(r, 8, 8).Samples
	for quality := 1; quality <= 100; quality++ {
		p := impl.Photo{Width: 8, Height: 8, Quality: quality, Planes: [][]int{samples, samples, samples}}
		blocks := checkBlocks(t, p)
		alone := p
		alone.Planes = p.Planes[:1]
		if !sameLists(checkBlocks(t, alone), blocks[:1]) || !slices.Equal(blocks[1], blocks[2]) {
			t.Fatalf("quality %d: %v", quality, blocks)
		}
		if quality == 50 && slices.Equal(blocks[0], blocks[1]) {
			t.Fatalf("the scales of colour are the others: %v", blocks)
		}
	}
}

// somePhotoBlocks may have any numbers up to far, for the most part few.
func somePhotoBlocks(r *rand.Rand, p impl.Photo, far int) [][]int {
	var blocks [][]int
	for range blockPlaces(p) {
		block := make([]int, 64)
		for range []int{0, 1, 5, 64, 200}[r.IntN(5)] {
			number := 1 + r.IntN(far)
			if r.IntN(2) == 0 {
				number = 1 << r.IntN(bitsOfNumber(far))
			}
			block[r.IntN(64)] = []int{number, -number, 0}[r.IntN(3)]
		}
		blocks = append(blocks, block)
	}
	return blocks
}

func TestPhotoOfAnyBlocks(t *testing.T) {
	r := rand.New(rand.NewPCG(9, 5))
	for range 300 {
		p := somePhoto(r)
		checkPhotoOf(t, p, somePhotoBlocks(r, p, []int{1, 20, 300, 2047}[r.IntN(4)]))
	}
}

func TestPhotoOfByHand(t *testing.T) {
	p := plainPhoto(8, 8, 1)
	p.Quality = 100
	for _, c := range [][2]int{{0, 128}, {8, 129}, {-8, 127}, {800, 228}, {1016, 255}, {1020, 255}, {1024, 255}, {2047, 255}, {-1016, 1}, {-1024, 0}, {-1032, 0}, {-2047, 0}} {
		if got := checkPhotoOf(t, p, [][]int{loneBlock(0, c[0])}); !slices.Equal(got.Planes[0], alike(c[1], 64)) {
			t.Errorf("a first number %d: %v", c[0], got.Planes[0])
		}
	}
	// Each number of a block is multiplied by its scale; what is beyond 16 bits then is clipped: 2047 and 255 too.
	p.Quality = 1
	for _, number := range []int{128, 129, 2047, -128, -129, -2047} {
		for place := range 64 {
			checkPhotoOf(t, p, [][]int{loneBlock(place, number)})
		}
	}
	clipped, beyond := checkPhotoOf(t, p, [][]int{loneBlock(9, 129)}), checkPhotoOf(t, p, [][]int{loneBlock(9, 2047)})
	if !samePhoto(clipped, beyond) {
		t.Error("numbers are clipped behind the scales")
	}
}

// What the planes had before doesn't matter, only that they are good.
func TestPhotoOfLeavesTheOldPlanes(t *testing.T) {
	r := rand.New(rand.NewPCG(9, 6))
	for range 60 {
		p := somePhoto(r)
		blocks := somePhotoBlocks(r, p, 100)
		other := plainPhoto(p.Width, p.Height, len(p.Planes))
		other.Quality, other.Half, other.Steps, other.Every = p.Quality, p.Half, p.Steps, p.Every
		if !samePhoto(checkPhotoOf(t, p, blocks), checkPhotoOf(t, other, blocks)) {
			t.Fatalf("%s: other pictures of the same blocks", describedPhoto(p))
		}
	}
}

func TestPhotoOfGrowsTheColoursWithHalf(t *testing.T) {
	for width := 1; width <= 17; width++ {
		p := plainPhoto(width, 18-width, 3)
		p.Half, p.Quality = true, 100
		var blocks [][]int
		for _, place := range blockPlaces(p) {
			block := make([]int, 64)
			if place.plane > 0 {
				block[1], block[8] = 300*place.plane, -200
			}
			blocks = append(blocks, block)
		}
		got := checkPhotoOf(t, p, blocks)
		for plane, samples := range got.Planes {
			if len(samples) != p.Width*p.Height {
				t.Fatalf("%s: plane %d has %d samples", describedPhoto(p), plane, len(samples))
			}
			laid := slowLaid(p, blocks)[plane]
			if plane > 0 && !slices.Equal(samples, impl.Grow(laid, p.Width, p.Height).Samples) {
				t.Fatalf("%s: plane %d is not what Grow makes of it", describedPhoto(p), plane)
			}
		}
	}
}

func checkNoPhotoOf(t *testing.T, what string, p impl.Photo, blocks [][]int) {
	t.Helper()
	if got := photoMade(t, p, blocks); !isNoPhoto(got) {
		t.Errorf("%s: %s of %d blocks: %s", what, describedPhoto(p), len(blocks), describedPhoto(got))
	}
}

func TestPhotoOfHowManyBlocks(t *testing.T) {
	r := rand.New(rand.NewPCG(9, 7))
	for range 40 {
		p := somePhoto(r)
		blocks := somePhotoBlocks(r, p, 100)
		checkPhotoOf(t, p, blocks)
		for many := range len(blocks) {
			if many < 5 || many > len(blocks)-8 {
				checkNoPhotoOf(t, "fewer", p, blocks[:many])
			}
		}
		for _, more := range []int{1, 2, 3, 6, 500} {
			checkNoPhotoOf(t, "more", p, append(slices.Clone(blocks), slices.Repeat([][]int{evenBlock(0)}, more)...))
		}
		checkNoPhotoOf(t, "none", p, nil)
	}
}

func TestPhotoOfNumbersInABlock(t *testing.T) {
	for _, half := range []bool{false, true} {
		p := plainPhoto(9, 7, 3)
		p.Half = half
		for at := range blockPlaces(p) {
			for _, many := range []int{0, 1, 8, 63, 65, 128} {
				blocks := cloneLists(slices.Repeat([][]int{evenBlock(0)}, len(blockPlaces(p))))
				blocks[at] = alike(0, many)
				checkNoPhotoOf(t, "a block of "+strconv.Itoa(many), p, blocks)
			}
			for _, number := range append(slices.Clone(farNumbers), -32768, -2049, -2048, -2047, -1, 0, 2046, 2047, 2048, 2049, 32767) {
				for _, place := range []int{0, 1, 8, 32, 62, 63} {
					blocks := cloneLists(slices.Repeat([][]int{evenBlock(0)}, len(blockPlaces(p))))
					blocks[at][place] = number
					if number >= -2047 && number <= 2047 {
						checkPhotoOf(t, p, blocks)
					} else {
						checkNoPhotoOf(t, "a number "+strconv.Itoa(number), p, blocks)
					}
				}
			}
		}
	}
}

// A photo whose samples are not good has no picture, though those would not be in it.
func TestPhotoOfPhotosThatAreNotGood(t *testing.T) {
	p := plainPhoto(9, 7, 3)
	blocks := slices.Repeat([][]int{evenBlock(0)}, 6)
	checkPhotoOf(t, p, blocks)
	for what, change := range map[string]func(*impl.Photo){
		"a sample of -1":      func(p *impl.Photo) { p.Planes[2][62] = -1 },
		"a sample of 256":     func(p *impl.Photo) { p.Planes[0][0] = 256 },
		"a plane too short":   func(p *impl.Photo) { p.Planes[1] = p.Planes[1][:62] },
		"a plane too long":    func(p *impl.Photo) { p.Planes[1] = append(p.Planes[1], 0) },
		"an empty plane":      func(p *impl.Photo) { p.Planes[1] = nil },
		"Quality 0":           func(p *impl.Photo) { p.Quality = 0 },
		"Quality 101":         func(p *impl.Photo) { p.Quality = 101 },
		"Every below 0":       func(p *impl.Photo) { p.Every = -1 },
		"Every 1001":          func(p *impl.Photo) { p.Every = 1001 },
		"Every with Steps":    func(p *impl.Photo) { p.Every, p.Steps = 1, true },
		"two planes":          func(p *impl.Photo) { p.Planes = p.Planes[:2] },
		"no planes":           func(p *impl.Photo) { p.Planes = nil },
		"four planes":         func(p *impl.Photo) { p.Planes = append(p.Planes, p.Planes[0]) },
		"no columns":          func(p *impl.Photo) { p.Width = 0 },
		"other sides":         func(p *impl.Photo) { p.Width, p.Height = 10, 7 },
		"sides the other way": func(p *impl.Photo) { p.Width, p.Height = -9, -7 },
		"the greatest sides":  func(p *impl.Photo) { p.Width, p.Height = math.MaxInt, math.MaxInt },
	} {
		bad := clonePhoto(p)
		change(&bad)
		checkNoPhotoOf(t, what, bad, blocks)
		checkNoPhotoOf(t, what, bad, nil)
		if got := impl.PhotoBlocks(bad); len(got) > 0 {
			t.Errorf("%s: %d blocks", what, len(got))
		}
	}
}

// What is cut of a picture that was made of blocks is these blocks again, as long as nothing is clipped.
func TestPhotoBlocksOfPhotoOf(t *testing.T) {
	r := rand.New(rand.NewPCG(9, 8))
	for range 100 {
		p := plainPhoto(8*(1+r.IntN(4)), 8*(1+r.IntN(4)), 3)
		p.Quality = 20 + r.IntN(40)
		var blocks [][]int
		for range blockPlaces(p) {
			block := make([]int, 64)
			for range r.IntN(4) {
				block[r.IntN(64)] = r.IntN(5) - 2
			}
			blocks = append(blocks, block)
		}
		if got := impl.PhotoBlocks(checkPhotoOf(t, p, blocks)); !sameLists(got, blocks) {
			t.Fatalf("%s: other blocks come back", describedPhoto(p))
		}
	}
}
