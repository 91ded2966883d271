package tests

import (
	"math"
	"math/rand/v2"
	"slices"
	"strconv"
	"testing"

	"loop.example/g00016/impl"
)

func slowApart(a []int, b []int) int {
	if len(a) != len(b) || len(a) > 64 || !areSamples(a) || !areSamples(b) {
		return -1
	}
	sum := 0
	for i := range a {
		sum += magnitude(a[i] - b[i])
	}
	return sum
}

func checkListsApart(t *testing.T, a []int, b []int) int {
	t.Helper()
	around, handed := amidLists([][]int{a, b}, 7777)
	was := cloneLists(around)
	got, back := impl.Apart(handed[0], handed[1]), impl.Apart(handed[1], handed[0])
	if want := slowApart(a, b); got != want || back != want {
		t.Fatalf("%v and %v: %d, and %d the other way round, not %d", a, b, got, back, want)
	}
	if !sameLists(around, was) {
		t.Fatalf("%v and %v were written", a, b)
	}
	return got
}

func TestApart(t *testing.T) {
	for _, c := range []struct {
		a, b []int
		want int
	}{
		{nil, nil, 0}, {[]int{}, nil, 0}, {nil, []int{}, 0},
		{[]int{5}, []int{5}, 0}, {[]int{5}, []int{9}, 4}, {[]int{9}, []int{5}, 4}, {[]int{0}, []int{255}, 255},
		{[]int{1, 9, 7}, []int{4, 5, 7}, 7},
		{alike(0, 64), alike(255, 64), 16320}, {alike(255, 63), alike(0, 63), 16065},
		{alike(0, 65), alike(0, 65), -1}, {alike(0, 65), alike(0, 64), -1}, {alike(1, 128), alike(1, 128), -1},
		{[]int{1}, nil, -1}, {nil, []int{1}, -1}, {[]int{1, 2}, []int{1}, -1}, {alike(0, 64), alike(0, 63), -1},
		{[]int{-1}, []int{0}, -1}, {[]int{256}, []int{255}, -1}, {[]int{-1}, []int{-1}, -1}, {[]int{256}, []int{256}, -1},
		{[]int{math.MinInt}, []int{math.MaxInt}, -1}, {[]int{math.MinInt}, []int{math.MinInt}, -1},
	} {
		if got := checkListsApart(t, c.a, c.b); got != c.want {
			t.Errorf("%v and %v: %d, not %d", c.a, c.b, got, c.want)
		}
	}
	same := []int{3, 1, 4}
	if got := impl.Apart(same, same); got != 0 {
		t.Errorf("a list from itself: %d", got)
	}
}

func TestApartOfSomeLists(t *testing.T) {
	r := rand.New(rand.NewPCG(13, 31))
	for many := range 70 {
		for range 20 {
			a, b := someSide(r, many), someSide(r, many)
			checkListsApart(t, a, b)
			checkListsApart(t, a, someSide(r, max(0, many+r.IntN(3)-1)))
			if many > 0 {
				a[r.IntN(many)] = []int{-1, 0, 255, 256, math.MinInt, math.MaxInt}[r.IntN(6)]
				checkListsApart(t, a, b)
			}
		}
	}
}

// A seeking is what BestMotion is asked.
type seeking struct {
	before impl.Plane
	now    impl.Plane
	x      int
	y      int
	size   int
	reach  int
	weight int
}

func squareIn(p impl.Plane, x int, y int, size int) []int {
	var square []int
	for row := range size {
		square = append(square, p.Samples[(y+row)*p.Width+x:][:size]...)
	}
	return square
}

// lengthInBits writes the number out.
func lengthInBits(n int) int {
	return len(strconv.FormatInt(int64(folded(n)+1), 2))
}

func (s seeking) mayBe() bool {
	if !impl.GoodPlane(s.before) || !impl.GoodPlane(s.now) || s.before.Width != s.now.Width || s.before.Height != s.now.Height {
		return false
	}
	if s.size != 4 && s.size != 8 || s.reach < 0 || s.reach > 2 || s.weight < 0 || s.weight > 64 {
		return false
	}
	// Asked so that nothing is beyond an int.
	return s.x >= 0 && s.y >= 0 && s.x < s.now.Width && s.y < s.now.Height && s.x+s.size <= s.now.Width && s.y+s.size <= s.now.Height
}

func (s seeking) costOf(x int, y int, moved func(impl.Plane, int, int, int) []int) int {
	square := moved(s.before, 4*s.x+x, 4*s.y+y, s.size)
	return slowApart(square, squareIn(s.now, s.x, s.y, s.size)) + s.weight*(lengthInBits(x)+lengthInBits(y))
}

// all has all vectors in reach, the best one first.
func (s seeking) all(moved func(impl.Plane, int, int, int) []int) []impl.Motion {
	var list []impl.Motion
	for x := -4 * s.reach; x <= 4*s.reach; x++ {
		for y := -4 * s.reach; y <= 4*s.reach; y++ {
			list = append(list, impl.Motion{X: x, Y: y, Cost: s.costOf(x, y, moved)})
		}
	}
	slices.SortFunc(list, func(a, b impl.Motion) int { return slices.Compare(rankOf(a), rankOf(b)) })
	return list
}

// rankOf has what tells a vector from others, in the order in which it is asked.
func rankOf(m impl.Motion) []int {
	return []int{m.Cost, magnitude(m.X) + magnitude(m.Y), m.Y, m.X}
}

func (s seeking) made(t *testing.T) impl.Motion {
	t.Helper()
	around, handed := amidLists([][]int{s.before.Samples, s.now.Samples}, notOfThePlane)
	was := cloneLists(around)
	before, now := s.before, s.now
	before.Samples, now.Samples = handed[0], handed[1]
	got := impl.BestMotion(before, now, s.x, s.y, s.size, s.reach, s.weight)
	if !sameLists(around, was) {
		t.Fatalf("%v: a plane was written", s)
	}
	return got
}

// check answers at which of the ranks the best vector was told from the next one, too.
func (s seeking) check(t *testing.T) (impl.Motion, int) {
	t.Helper()
	got := s.made(t)
	if !s.mayBe() {
		if got != (impl.Motion{}) {
			t.Fatalf("%v: %v", s, got)
		}
		return got, -1
	}
	list := s.all(impl.Moved)
	if got != list[0] {
		t.Fatalf("at %d, %d of %s, size %d, reach %d, weight %d: %v, not %v", s.x, s.y, sides(s.now.Width, s.now.Height), s.size, s.reach, s.weight, got, list[0])
	}
	if len(list) == 1 {
		return got, -1
	}
	return got, firstUnlike(rankOf(list[0]), rankOf(list[1]))
}

// firstUnlike asks for lists of the same length that are not the same.
func firstUnlike(a []int, b []int) int {
	at := 0
	for a[at] == b[at] {
		at++
	}
	return at
}

func (s seeking) checkNone(t *testing.T, what string) {
	t.Helper()
	if got := s.made(t); got != (impl.Motion{}) {
		t.Errorf("%s: at %d, %d, size %d, reach %d, weight %d: %v", what, s.x, s.y, s.size, s.reach, s.weight, got)
	}
}

// shifted has the samples so far to the right and below, and the nearest ones where there are none.
func shifted(p impl.Plane, right int, below int) impl.Plane {
	s := impl.Plane{Width: p.Width, Height: p.Height}
	for y := range p.Height {
		for x := range p.Width {
			s.Samples = append(s.Samples, nearestSample(p, x+right, y+below))
		}
	}
	return s
}

// patterned repeats a small pattern, so that it is the same in several ways.
func patterned(r *rand.Rand, width int, height int) impl.Plane {
	across, down := 1+r.IntN(4), 1+r.IntN(4)
	pattern := starkPlane(r, across, down)
	p := impl.Plane{Width: width, Height: height}
	for y := range height {
		for x := range width {
			p.Samples = append(p.Samples, pattern.Samples[y%down*across+x%across])
		}
	}
	return p
}

// nearlyAs has some samples a little off.
func nearlyAs(r *rand.Rand, p impl.Plane, many int) impl.Plane {
	n := impl.Plane{Width: p.Width, Height: p.Height, Samples: slices.Clone(p.Samples)}
	for range many {
		at := r.IntN(len(n.Samples))
		n.Samples[at] = clippedNumber(n.Samples[at] + r.IntN(41) - 20)
	}
	return n
}

func TestBestMotionByHand(t *testing.T) {
	r := rand.New(rand.NewPCG(13, 32))
	p := somePlane(r, 20, 20)
	for _, c := range []struct {
		right, below, reach, weight int
		want                        impl.Motion
	}{
		{0, 0, 2, 0, impl.Motion{}},
		// One bit for each 0.
		{0, 0, 2, 3, impl.Motion{Cost: 6}},
		{0, 0, 0, 64, impl.Motion{Cost: 128}},
		// Fold(4) + 1 is 9, of 4 bits; Fold(-4) + 1 is 8, of 4 bits, too.
		{1, 0, 1, 2, impl.Motion{X: 4, Cost: 10}},
		{0, -1, 1, 2, impl.Motion{Y: -4, Cost: 10}},
		{-1, 1, 2, 1, impl.Motion{X: -4, Y: 4, Cost: 8}},
		// Fold(8) + 1 is 17, of 5 bits; Fold(-8) + 1 is 16.
		{2, -2, 2, 1, impl.Motion{X: 8, Y: -8, Cost: 10}},
		{-2, 2, 2, 64, impl.Motion{X: -8, Y: 8, Cost: 640}},
	} {
		for _, size := range []int{4, 8} {
			asked := seeking{before: p, now: shifted(p, c.right, c.below), x: 6, y: 5, size: size, reach: c.reach, weight: c.weight}
			if got, _ := asked.check(t); got != c.want {
				t.Errorf("%d to the right, %d below: %v, not %v", c.right, c.below, got, c.want)
			}
		}
	}
}

// TestBestMotionFindsEachVector has a square of now that is in before at each vector in turn.
func TestBestMotionFindsEachVector(t *testing.T) {
	r := rand.New(rand.NewPCG(13, 33))
	before := somePlane(r, 16, 15)
	for _, size := range []int{4, 8} {
		for reach := range 3 {
			for x := -4 * reach; x <= 4*reach; x++ {
				for y := -4 * reach; y <= 4*reach; y++ {
					now := evenPlane(16, 15, 0)
					for i, sample := range impl.Moved(before, 4*4+x, 4*3+y, size) {
						now.Samples[(3+i/size)*16+4+i%size] = sample
					}
					want := impl.Motion{X: x, Y: y, Cost: lengthInBits(x) + lengthInBits(y)}
					got := impl.BestMotion(before, now, 4, 3, size, reach, 1)
					if got != want {
						t.Fatalf("size %d, reach %d: %v, not %v", size, reach, got, want)
					}
				}
			}
		}
	}
}

func TestBestMotionOfSomePlanes(t *testing.T) {
	r := rand.New(rand.NewPCG(13, 34))
	for range 600 {
		width, height := 8+r.IntN(12), 8+r.IntN(12)
		before := somePlane(r, width, height)
		now := nearlyAs(r, shifted(before, r.IntN(5)-2, r.IntN(5)-2), r.IntN(60))
		if r.IntN(5) == 0 {
			now = starkPlane(r, width, height)
		}
		size := 4 << r.IntN(2)
		seeking{before, now, r.IntN(width - size + 1), r.IntN(height - size + 1), size, r.IntN(3), []int{0, 1, 5, 63, 64, r.IntN(65)}[r.IntN(6)]}.check(t)
	}
}

// TestBestMotionByTheSlowSquares does not ask Moved.
func TestBestMotionByTheSlowSquares(t *testing.T) {
	r := rand.New(rand.NewPCG(13, 35))
	for reach := range 3 {
		before := somePlane(r, 9, 10)
		asked := seeking{before, nearlyAs(r, shifted(before, 1, -1), 30), 5, 0, 4, reach, reach}
		if got, want := asked.made(t), asked.all(slowMoved)[0]; got != want {
			t.Errorf("reach %d: %v, not %v", reach, got, want)
		}
	}
}

// TestBestMotionOfSeveral has patterns, so that several vectors cost the same: by each rank some are told apart.
func TestBestMotionOfSeveral(t *testing.T) {
	r := rand.New(rand.NewPCG(13, 36))
	ranks := map[int]int{}
	for range 1200 {
		before := patterned(r, 12, 12)
		now := shifted(before, r.IntN(5)-2, r.IntN(5)-2)
		if r.IntN(3) == 0 {
			now = patterned(r, 12, 12)
		}
		size := 4 << r.IntN(2)
		_, rank := seeking{before, now, r.IntN(13 - size), r.IntN(13 - size), size, 1 + r.IntN(2), r.IntN(3) * r.IntN(65)}.check(t)
		ranks[rank]++
	}
	for rank := range 4 {
		if ranks[rank] < 20 {
			t.Errorf("told apart by each rank: %v", ranks)
		}
	}
}

func TestBestMotionOfSeveralByHand(t *testing.T) {
	columns, rows, checks, slant := evenPlane(12, 12, 0), evenPlane(12, 12, 0), evenPlane(12, 12, 0), evenPlane(12, 12, 0)
	for i := range columns.Samples {
		x, y := i%12, i/12
		slant.Samples[i] = 3 * (x + y) * (x + y) % 251
		columns.Samples[i], rows.Samples[i], checks.Samples[i] = 255*(x%2), 255*(y%2), 255*((x+y)%2)
	}
	for _, c := range []struct {
		what   string
		before impl.Plane
		now    impl.Plane
		want   impl.Motion
	}{
		{"by X alone", columns, shifted(columns, 1, 0), impl.Motion{X: -4}},
		{"by Y alone", rows, shifted(rows, 0, 1), impl.Motion{Y: -4}},
		// -4, 0 and 4, 0 have a greater Y, 0, 4, too.
		{"by Y ahead of X", checks, shifted(checks, 1, 0), impl.Motion{Y: -4}},
		{"by how far it is", checks, checks, impl.Motion{}},
		// 4, 4 is as far by steps along the sides, as are 8, 0 and 0, 8.
		{"by Y where straight is nearer", slant, shifted(slant, 1, 1), impl.Motion{X: 8}},
		{"by Y where straight is nearer, up", slant, shifted(slant, -1, -1), impl.Motion{Y: -8}},
		{"one colour", evenPlane(12, 12, 9), evenPlane(12, 12, 9), impl.Motion{}},
		{"one colour, another one", evenPlane(12, 12, 9), evenPlane(12, 12, 19), impl.Motion{Cost: 160}},
	} {
		got, _ := seeking{before: c.before, now: c.now, x: 4, y: 4, size: 4, reach: 2}.check(t)
		if got != c.want {
			t.Errorf("%s: %v, not %v", c.what, got, c.want)
		}
	}
}

// TestBestMotionByWeight has a far vector that is nearer to the square than any other, until it weighs too much.
func TestBestMotionByWeight(t *testing.T) {
	r := rand.New(rand.NewPCG(13, 37))
	before := evenPlane(16, 16, 100)
	for i := range before.Samples {
		before.Samples[i] += r.IntN(9)
	}
	asked := seeking{before: before, now: shifted(before, 2, 2), x: 4, y: 4, size: 4, reach: 2}
	still := asked.costOf(0, 0, impl.Moved)
	met := map[impl.Motion]bool{}
	for weight := range 65 {
		asked.weight = weight
		got, _ := asked.check(t)
		if 10*weight > still+2*weight && got.X == 8 && got.Y == 8 {
			t.Errorf("weight %d: %v, but %d for 0, 0", weight, got, still+2*weight)
		}
		got.Cost = 0
		met[got] = true
	}
	if !met[impl.Motion{X: 8, Y: 8}] || !met[impl.Motion{}] {
		t.Errorf("vectors met by weight: %v", met)
	}
}

// TestBestMotionAtTheEnds has squares at each corner of planes, and those that lie one sample outside.
func TestBestMotionAtTheEnds(t *testing.T) {
	r := rand.New(rand.NewPCG(13, 38))
	for _, c := range [][2]int{{4, 4}, {4, 5}, {5, 4}, {8, 8}, {9, 8}, {8, 9}, {13, 11}, {512, 8}, {8, 512}, {64, 64}} {
		before := somePlane(r, c[0], c[1])
		now := nearlyAs(r, shifted(before, 1, 1), 20)
		for _, size := range []int{4, 8} {
			right, bottom := c[0]-size, c[1]-size
			for _, x := range []int{math.MinInt, -4, -1, 0, right, right + 1, right + size, right + size + 1, 1 << 62, math.MaxInt} {
				for _, y := range []int{math.MinInt, -4, -1, 0, bottom, bottom + 1, bottom + size, bottom + size + 1, 1 << 62, math.MaxInt} {
					asked := seeking{before, now, x, y, size, 1, 3}
					got, _ := asked.check(t)
					if (got.Cost > 0) != (x >= 0 && x <= right && y >= 0 && y <= bottom) {
						t.Errorf("at %d, %d of %s: %v", x, y, sides(c[0], c[1]), got)
					}
				}
			}
		}
	}
}

func TestBestMotionOfNoReachWeightAndSize(t *testing.T) {
	r := rand.New(rand.NewPCG(13, 39))
	before := somePlane(r, 32, 32)
	asked := seeking{before, starkPlane(r, 32, 32), 8, 8, 4, 2, 64}
	for weight := range 65 {
		asked.weight = weight
		if got, _ := asked.check(t); got.Cost == 0 {
			t.Errorf("weight %d: %v", weight, got)
		}
	}
	wrong := slices.Concat(extremes(), []int{-65, -64, -5, -2, -1})
	for _, reach := range slices.Concat(wrong, []int{3, 4, 5, 8, 9, 1 << 61, 1 << 62}) {
		asked := asked
		asked.reach = reach
		asked.checkNone(t, "no reach")
	}
	for _, weight := range slices.Concat(wrong, []int{65, 66, 100, 128, 255, 256}) {
		asked := asked
		asked.weight = weight
		asked.checkNone(t, "no weight")
	}
	for _, size := range slices.Concat(wrong, []int{0, 1, 2, 3, 5, 6, 7, 9, 12, 16, 24, 32}) {
		asked := asked
		asked.size = size
		asked.checkNone(t, "no size")
	}
}

// badSquares are like a plane of 4 by 4, but for one thing.
func badSquares() map[string]impl.Plane {
	some := evenPlane(4, 4, 7)
	with := func(width int, height int, many int) impl.Plane {
		return impl.Plane{Width: width, Height: height, Samples: alike(7, many)}
	}
	bad := map[string]impl.Plane{
		"one sample too few": with(4, 4, 15), "one sample too many": with(4, 4, 17), "no samples": with(4, 4, 0),
		"sides below 0": with(-4, -4, 16), "no sides": with(0, 0, 16), "a wider one": with(5, 4, 16), "a higher one": with(4, 5, 16),
		"too wide": with(513, 4, 513*4), "too high": with(4, 513, 513*4), "too many pixels": with(65, 64, 65*64),
		"a product beyond an int": with(1<<60+1, 16, 16), "the greatest sides": with(math.MaxInt, math.MaxInt, 1),
	}
	for i := range some.Samples {
		for _, sample := range []int{-1, 256, math.MinInt, math.MaxInt} {
			p := evenPlane(4, 4, 7)
			p.Samples[i] = sample
			bad[strconv.Itoa(sample)+" at "+strconv.Itoa(i)] = p
		}
	}
	return bad
}

func TestBestMotionOfBadPlanes(t *testing.T) {
	for what, bad := range badSquares() {
		good := impl.Plane{Width: bad.Width, Height: bad.Height}
		if many := bad.Width * bad.Height; many > 0 && many <= 1<<16 {
			good.Samples = alike(9, many)
		}
		for _, size := range []int{4, 8} {
			seeking{bad, good, 0, 0, size, 1, 5}.checkNone(t, what)
			seeking{good, bad, 0, 0, size, 1, 5}.checkNone(t, what)
			seeking{bad, bad, 0, 0, size, 1, 5}.checkNone(t, what)
			seeking{evenPlane(4, 4, 9), bad, 0, 0, size, 1, 5}.checkNone(t, what)
			seeking{bad, evenPlane(4, 4, 9), 0, 0, size, 1, 5}.checkNone(t, what)
		}
	}
	if got := impl.BestMotion(evenPlane(4, 4, 7), evenPlane(4, 4, 9), 0, 0, 4, 1, 5); got != (impl.Motion{Cost: 42}) {
		t.Errorf("as those, but good: %v", got)
	}
}

func TestBestMotionOfUnlikeSides(t *testing.T) {
	r := rand.New(rand.NewPCG(13, 40))
	for _, c := range [][4]int{{8, 8, 8, 9}, {8, 8, 9, 8}, {9, 8, 8, 8}, {8, 9, 8, 8}, {8, 9, 9, 8}, {16, 4, 4, 16}, {16, 4, 8, 8}, {4, 4, 64, 64}} {
		before, now := somePlane(r, c[0], c[1]), somePlane(r, c[2], c[3])
		for _, size := range []int{4, 8} {
			seeking{before, now, 0, 0, size, 1, 1}.checkNone(t, "unlike sides")
			seeking{now, before, 0, 0, size, 0, 64}.checkNone(t, "unlike sides")
		}
	}
}

func TestBestMotionInOnePlane(t *testing.T) {
	r := rand.New(rand.NewPCG(13, 41))
	p := somePlane(r, 16, 12)
	was := slices.Clone(p.Samples)
	if got := impl.BestMotion(p, p, 8, 4, 8, 2, 7); got != (impl.Motion{Cost: 14}) || !slices.Equal(p.Samples, was) {
		t.Errorf("%v", got)
	}
}

func TestBestMotionOfAnyArguments(t *testing.T) {
	r := rand.New(rand.NewPCG(13, 42))
	numbers := append(extremes(), -4, -1, 0, 1, 2, 3, 4, 5, 8, 9, 64, 65)
	some := func() int { return numbers[r.IntN(len(numbers))] }
	met := map[bool]int{}
	for range 3000 {
		width, height := 4+r.IntN(7), 4+r.IntN(7)
		s := seeking{somePlane(r, width, height), somePlane(r, width, height), r.IntN(width - 2), r.IntN(height - 2), 4, r.IntN(2), 1 + r.IntN(64)}
		if min(width, height) >= 8 && r.IntN(2) == 0 {
			s.size, s.x, s.y = 8, r.IntN(width-6), r.IntN(height-6)
		}
		switch r.IntN(16) {
		case 0:
			s.before.Width = some()
		case 1:
			s.now.Height = some()
		case 2:
			s.before.Samples[r.IntN(len(s.before.Samples))] = some()
		case 3:
			s.now.Samples[r.IntN(len(s.now.Samples))] = some()
		case 4:
			s.x = some()
		case 5:
			s.y = some()
		case 6:
			s.size = some()
		case 7:
			s.reach = some()
		case 8:
			s.weight = some()
		}
		got, _ := s.check(t)
		met[got.Cost > 0]++
	}
	if met[true] < 300 || met[false] < 300 {
		t.Errorf("with an answer and without: %v", met)
	}
}
