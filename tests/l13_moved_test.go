package tests

import (
	"math"
	"math/rand/v2"
	"slices"
	"testing"

	"loop.example/g00016/impl"
)

// A sampleLine has a sample at each whole place, below 0 too.
type sampleLine func(place int) int

// A sliding says how what is between samples is made: by what halves are clipped, and in which order.
type sliding struct {
	clipped   func(int) int
	downFirst bool
}

var toldSliding = sliding{clipped: clippedNumber}

func (s sliding) half(line sampleLine, left int) int {
	a, b, c := line(left-2), line(left-1), line(left)
	d, e, f := line(left+1), line(left+2), line(left+3)
	return s.clipped(floorOf(a-5*b+20*c+20*d-5*e+f+16, 32))
}

// at is what stands at so many quarters.
func (s sliding) at(line sampleLine, quarters int) int {
	left := floorOf(quarters, 4)
	part := quarters - 4*left
	if part == 0 {
		return line(left)
	}
	half := s.half(line, left)
	if part == 1 {
		return floorOf(line(left)+half+1, 2)
	} else if part == 2 {
		return half
	}
	return floorOf(half+line(left+1)+1, 2)
}

// nearestIn looks for the place that is nearest among those that there are.
func nearestIn(place int, many int) int {
	nearest := 0
	for i := range many {
		if magnitude(i-place) < magnitude(nearest-place) {
			nearest = i
		}
	}
	return nearest
}

func nearestSample(p impl.Plane, x int, y int) int {
	return p.Samples[nearestIn(y, p.Height)*p.Width+nearestIn(x, p.Width)]
}

func (s sliding) sample(p impl.Plane, x int, y int) int {
	if s.downFirst {
		columns := func(column int) int {
			return s.at(func(row int) int { return nearestSample(p, column, row) }, y)
		}
		return s.at(columns, x)
	}
	rows := func(row int) int {
		return s.at(func(column int) int { return nearestSample(p, column, row) }, x)
	}
	return s.at(rows, y)
}

func (s sliding) square(p impl.Plane, x int, y int, size int) []int {
	var square []int
	for row := range size {
		for column := range size {
			square = append(square, s.sample(p, x+4*column, y+4*row))
		}
	}
	return square
}

func mayBeMoved(p impl.Plane, x int, y int, size int) bool {
	return impl.GoodPlane(p) && allWithin([]int{x, y}, -4096, 4096) && (size == 4 || size == 8)
}

func slowMoved(p impl.Plane, x int, y int, size int) []int {
	if !mayBeMoved(p, x, y, size) {
		return nil
	}
	return toldSliding.square(p, x, y, size)
}

func movedMade(t *testing.T, p impl.Plane, x int, y int, size int) []int {
	t.Helper()
	return listMade(t, p.Samples, notOfThePlane, -5, func(samples []int) []int {
		return impl.Moved(impl.Plane{Width: p.Width, Height: p.Height, Samples: samples}, x, y, size)
	})
}

func checkMoved(t *testing.T, p impl.Plane, x int, y int, size int) []int {
	t.Helper()
	got, want := movedMade(t, p, x, y, size), slowMoved(p, x, y, size)
	if !slices.Equal(got, want) {
		t.Fatalf("at %d, %d of %s, size %d:\n%v, not\n%v", x, y, sides(p.Width, p.Height), size, got, want)
	}
	return got
}

func checkNotMoved(t *testing.T, what string, p impl.Plane, x int, y int, size int) {
	t.Helper()
	if got := movedMade(t, p, x, y, size); len(got) > 0 {
		t.Errorf("%s: at %d, %d of %s, size %d: %v", what, x, y, sides(p.Width, p.Height), size, got)
	}
}

// rowPlane has one row.
func rowPlane(samples ...int) impl.Plane {
	return impl.Plane{Width: len(samples), Height: 1, Samples: samples}
}

// columnPlane has one column.
func columnPlane(samples ...int) impl.Plane {
	return impl.Plane{Width: 1, Height: len(samples), Samples: samples}
}

// asRows has the columns of a square as rows.
func asRows(square []int, size int) []int {
	var rows []int
	for column := range size {
		for row := range size {
			rows = append(rows, square[row*size+column])
		}
	}
	return rows
}

func TestMovedByHand(t *testing.T) {
	steep := []int{0, 0, 0, 255, 255, 255, 255, 255}
	for _, c := range []struct {
		place int
		want  []int
	}{
		{0, []int{0, 0, 0, 255}},
		{4, []int{0, 0, 255, 255}},
		// (255 + 16) >> 5, (-4 * 255 + 16) >> 5, (16 * 255 + 16) >> 5, (36 * 255 + 16) >> 5, (31 * 255 + 16) >> 5
		{2, []int{8, 0, 128, 255}},
		{6, []int{0, 128, 255, 247}},
		{-2, []int{0, 8, 0, 128}},
		{-6, []int{0, 0, 8, 0}},
		// (0 + 8 + 1) >> 1, (0 + 0 + 1) >> 1, (0 + 128 + 1) >> 1, (255 + 255 + 1) >> 1
		{1, []int{4, 0, 64, 255}},
		{-3, []int{0, 4, 0, 64}},
		// (8 + 0 + 1) >> 1, (0 + 0 + 1) >> 1, (128 + 255 + 1) >> 1, (255 + 255 + 1) >> 1
		{3, []int{4, 0, 192, 255}},
		{-1, []int{0, 4, 0, 192}},
		{7, []int{0, 192, 255, 251}},
		{20, []int{255, 255, 255, 255}},
		{-16, []int{0, 0, 0, 0}},
	} {
		want := slices.Repeat(c.want, 4)
		if got := checkMoved(t, rowPlane(steep...), c.place, 0, 4); !slices.Equal(got, want) {
			t.Errorf("across %d: %v, not %v", c.place, got, want)
		}
		if got := checkMoved(t, columnPlane(steep...), 0, c.place, 4); !slices.Equal(asRows(got, 4), want) {
			t.Errorf("down %d: %v, not %v", c.place, got, want)
		}
	}
}

// TestMovedByHandBothWays has a dot of 128 with nothing around it.
func TestMovedByHandBothWays(t *testing.T) {
	p := evenPlane(16, 16, 0)
	p.Samples[7*16+7] = 128
	// (20 * 128 + 16) >> 5 is 80, (128 + 16) >> 5 is 4; those below 0 are clipped ahead of going down.
	across := []int{4, 0, 80, 80, 0, 4, 0, 0}
	var want []int
	for _, rows := range []int{1, -5, 20, 20, -5, 1, 0, 0} {
		for _, sample := range across {
			want = append(want, clippedNumber(floorOf(rows*sample+16, 32)))
		}
	}
	if got := checkMoved(t, p, 4*4+2, 4*4+2, 8); !slices.Equal(got, want) {
		t.Errorf("%v, not %v", got, want)
	}
	// Down to a quarter of what is across at three quarters: (80 + 128 + 1) >> 1 at the left of the dot, (80 + 0 + 1) >> 1 behind it.
	got := checkMoved(t, p, 4*6+3, 4*7+1, 4)
	// (20 * 104 + 16) >> 5 is 65, (104 + 65 + 1) >> 1 is 85; of 40: 25, 33.
	if got[0] != 85 || got[1] != 33 || got[2] != 0 || got[3] != 2 {
		t.Errorf("%v", got)
	}
}

// TestMovedByEachPartOfASample has all sixteen pairs of quarters, wholly inside, and around each side and each corner.
func TestMovedByEachPartOfASample(t *testing.T) {
	r := rand.New(rand.NewPCG(13, 11))
	for _, size := range []int{4, 8} {
		for _, p := range []impl.Plane{somePlane(r, 19, 17), starkPlane(r, 18, 20)} {
			for _, x := range []int{-4 * size, -4 * 3, 0, 4 * 4, 4 * (p.Width - 5), 4 * (p.Width - 1), 4 * (p.Width + 3)} {
				for _, y := range []int{-4 * size, -4 * 3, 0, 4 * 4, 4 * (p.Height - 5), 4 * (p.Height - 1), 4 * (p.Height + 3)} {
					for pair := range 16 {
						checkMoved(t, p, x+pair%4, y+pair/4, size)
					}
				}
			}
		}
	}
}

// TestMovedOverAllPlaces goes over a small plane and well beyond it on all sides.
func TestMovedOverAllPlaces(t *testing.T) {
	r := rand.New(rand.NewPCG(13, 12))
	p := somePlane(r, 5, 3)
	for x := -4 * 8; x <= 4*9; x++ {
		for y := -4 * 8; y <= 4*7; y += 3 {
			checkMoved(t, p, x, y, 4)
		}
	}
}

// A place below 0 is as far behind the whole one below it: -1 is three quarters behind -4.
func TestMovedToPlacesBelowZero(t *testing.T) {
	r := rand.New(rand.NewPCG(13, 13))
	p := starkPlane(r, 12, 12)
	// p as it goes on where it is looked for, with its first sample at 4, 4.
	wider := impl.Plane{Width: 24, Height: 24}
	for y := range 24 {
		for x := range 24 {
			wider.Samples = append(wider.Samples, nearestSample(p, x-6, y-6))
		}
	}
	for _, size := range []int{4, 8} {
		for x := -9; x <= 2; x++ {
			for y := -9; y <= 2; y++ {
				got, want := checkMoved(t, p, x, y, size), impl.Moved(wider, x+24, y+24, size)
				if !slices.Equal(got, want) {
					t.Fatalf("%d, %d: %v, not %v", x, y, got, want)
				}
			}
		}
	}
}

func TestMovedFarOutside(t *testing.T) {
	r := rand.New(rand.NewPCG(13, 14))
	p := somePlane(r, 7, 6)
	corners := []struct{ x, y, at int }{{-4096, -4096, 0}, {4096, -4096, 6}, {-4096, 4096, 35}, {4096, 4096, 41}}
	for _, size := range []int{4, 8} {
		for _, c := range corners {
			for part := range 4 {
				x, y := c.x-c.x/4096*part, c.y-c.y/4096*(3-part)
				if got := checkMoved(t, p, x, y, size); !slices.Equal(got, alike(p.Samples[c.at], size*size)) {
					t.Errorf("%d, %d: %v", x, y, got)
				}
			}
		}
		// Far to the left the rows stay apart.
		got := checkMoved(t, p, -4096, 0, size)
		for row := range size {
			if want := p.Samples[7*min(row, 5)]; !slices.Equal(got[row*size:row*size+size], alike(want, size)) {
				t.Errorf("row %d: %v, not %d", row, got, want)
			}
		}
	}
}

func TestMovedOfTheGreatestPlanes(t *testing.T) {
	r := rand.New(rand.NewPCG(13, 15))
	for _, c := range [][2]int{{512, 8}, {8, 512}, {64, 64}, {512, 1}, {1, 512}} {
		p := somePlane(r, c[0], c[1])
		for range 25 {
			x, y := r.IntN(4*p.Width+40)-20, r.IntN(4*p.Height+40)-20
			checkMoved(t, p, x, y, 4<<r.IntN(2))
		}
		checkMoved(t, p, 4*(p.Width-1), 4*(p.Height-1), 8)
		checkMoved(t, p, 4*p.Width-3, 4*p.Height-2, 4)
	}
}

func TestMovedOfNarrowPlanes(t *testing.T) {
	r := rand.New(rand.NewPCG(13, 16))
	for _, c := range [][2]int{{1, 1}, {1, 2}, {2, 1}, {9, 1}, {1, 9}, {2, 2}, {3, 2}} {
		p := starkPlane(r, c[0], c[1])
		for x := -13; x < 4*p.Width+9; x++ {
			for y := -5; y < 4*p.Height+5; y += 2 {
				checkMoved(t, p, x, y, 4)
			}
		}
		checkMoved(t, p, 1, 2, 8)
	}
	for sample := range 256 {
		for pair := range 16 {
			if got := impl.Moved(rowPlane(sample), pair%4-5, pair/4+7, 8); !slices.Equal(got, alike(sample, 64)) {
				t.Fatalf("of %d alone: %v", sample, got)
			}
		}
	}
}

// TestMovedGoesAcrossFirst counts in how many squares the other order, or halves that are clipped in the end alone, tell
// other samples, so that the tests above would see them.
func TestMovedGoesAcrossFirst(t *testing.T) {
	r := rand.New(rand.NewPCG(13, 17))
	unclipped := sliding{clipped: func(n int) int { return n }}
	downFirst := sliding{clipped: clippedNumber, downFirst: true}
	seenOrder, seenClip := map[int]int{}, 0
	for range 40 {
		p := starkPlane(r, 16, 16)
		for pair := range 16 {
			x, y := 16+pair%4, 16+pair/4
			got := checkMoved(t, p, x, y, 8)
			if !slices.Equal(got, downFirst.square(p, x, y, 8)) {
				seenOrder[pair]++
			}
			others := unclipped.square(p, x, y, 8)
			for i := range others {
				others[i] = clippedNumber(others[i])
			}
			if !slices.Equal(got, others) {
				seenClip++
			}
		}
	}
	for pair := range 16 {
		if (seenOrder[pair] > 10) != (pair%4 > 0 && pair/4 > 0) {
			t.Errorf("quarters %d and %d: the order is seen in %d squares", pair%4, pair/4, seenOrder[pair])
		}
	}
	if seenClip < 100 {
		t.Errorf("clipping is seen in %d squares", seenClip)
	}
}

// TestMovedOfEachHalf has halves with each rest that their sum may leave, and sums far below 0 and far above 255.
func TestMovedOfEachHalf(t *testing.T) {
	r := rand.New(rand.NewPCG(13, 18))
	rests, least, most := map[int]bool{}, 0, 0
	for range 3000 {
		six := someSide(r, 6)
		sum := six[0] - 5*six[1] + 20*six[2] + 20*six[3] - 5*six[4] + six[5] + 16
		rests[sum-32*floorOf(sum, 32)] = true
		least, most = min(least, sum), max(most, sum)
		for part := range 4 {
			got := impl.Moved(rowPlane(six...), 8+part, 0, 4)
			if want := slowMoved(rowPlane(six...), 8+part, 0, 4); !slices.Equal(got, want) {
				t.Fatalf("part %d of %v: %v, not %v", part, six, got, want)
			}
		}
	}
	if len(rests) != 32 || least > -1000 || most < 255*32+1000 {
		t.Errorf("%d rests, from %d to %d", len(rests), least, most)
	}
	// The ends of what a half may be before it is clipped.
	for _, six := range [][]int{{0, 255, 0, 0, 255, 0}, {255, 0, 255, 255, 0, 255}} {
		got := checkMoved(t, rowPlane(six...), 10, 0, 4)
		if want := six[0]; got[0] != want {
			t.Errorf("%v: %v, not %d", six, got, want)
		}
	}
}

func TestMovedOfNoPlaceAndNoSize(t *testing.T) {
	r := rand.New(rand.NewPCG(13, 19))
	p := somePlane(r, 9, 9)
	for _, place := range []int{-4096, -4095, 4095, 4096} {
		for _, size := range []int{4, 8} {
			for _, got := range [][]int{checkMoved(t, p, place, 5, size), checkMoved(t, p, 5, place, size), checkMoved(t, p, place, -place, size)} {
				if len(got) != size*size {
					t.Errorf("%d: %v", place, got)
				}
			}
		}
	}
	for _, place := range slices.Concat(extremes(), []int{-8192, -5000, -4100, -4098, -4097, 4097, 4098, 4100, 5000, 8192}) {
		checkNotMoved(t, "a place too far", p, place, 0, 4)
		checkNotMoved(t, "a place too far", p, 0, place, 8)
		checkNotMoved(t, "a place too far", p, place, place, 4)
	}
	for _, size := range slices.Concat(extremes(), []int{-8, -4, -1, 0, 1, 2, 3, 5, 6, 7, 9, 12, 16, 32, 64}) {
		checkNotMoved(t, "no size", p, 0, 0, size)
		checkNotMoved(t, "no size", p, 5, -6, size)
	}
}

func TestMovedOfBadPlanes(t *testing.T) {
	for what, p := range badPlanes() {
		for _, size := range []int{4, 8} {
			checkNotMoved(t, what, p, 0, 0, size)
			checkNotMoved(t, what, p, 3, -6, size)
			checkNotMoved(t, what, p, 4096, -4096, size)
		}
	}
	checkMoved(t, impl.Plane{Width: 4, Height: 2, Samples: []int{1, 2, 3, 4, 5, 6, 7, 8}}, 3, -6, 4)
	r := rand.New(rand.NewPCG(13, 20))
	for at := range 81 {
		for _, sample := range []int{-1, 256, math.MinInt, math.MaxInt} {
			p := somePlane(r, 9, 9)
			p.Samples[at] = sample
			if got := impl.Moved(p, 0, 0, 4); len(got) > 0 {
				t.Errorf("%d at %d: %v", sample, at, got)
			}
		}
	}
}

func TestMovedOfAnyArguments(t *testing.T) {
	r := rand.New(rand.NewPCG(13, 21))
	numbers := append(extremes(), -4097, -4096, -9, -1, 0, 1, 2, 3, 4, 5, 8, 9, 4096, 4097)
	some := func() int { return numbers[r.IntN(len(numbers))] }
	for range 5000 {
		p := somePlane(r, 1+r.IntN(6), 1+r.IntN(6))
		x, y, size := r.IntN(60)-20, r.IntN(60)-20, 4<<r.IntN(2)
		switch r.IntN(8) {
		case 0:
			p.Width = some()
		case 1:
			p.Height = some()
		case 2:
			p.Samples[r.IntN(len(p.Samples))] = some()
		case 3:
			x = some()
		case 4:
			y = some()
		case 5:
			size = some()
		}
		checkMoved(t, p, x, y, size)
	}
}
