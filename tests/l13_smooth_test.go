package tests

import (
	"math/rand/v2"
	"slices"
	"testing"

	"loop.example/g00016/impl"
)

// A smoothing says how a slow one goes.
type smoothing struct {
	columnsFirst bool
	round        func(sum int) int
}

var toldSmoothing = smoothing{round: func(sum int) int { return floorOf(sum+4, 8) }}

// smoothBounds are the document's A, B and C.
func smoothBounds(step int) (int, int, int) {
	return step + floorOf(step*step, 16), floorOf(step, 2), floorOf(step, 4) + 1
}

// edge is what b and c become.
func (s smoothing) edge(step int, a int, b int, c int, d int) (int, int) {
	mostOver, mostBeside, most := smoothBounds(step)
	if magnitude(c-b) >= mostOver || magnitude(b-a) >= mostBeside || magnitude(d-c) >= mostBeside {
		return b, c
	}
	three := []int{-most, s.round(4*(c-b) + (a - d)), most}
	slices.Sort(three)
	return clippedNumber(b + three[1]), clippedNumber(c - three[1])
}

// along goes over one line: so many samples from first on, each one next places behind the one ahead of it.
func (s smoothing) along(samples []int, step int, first int, many int, next int) {
	for x := 4; x < many; x += 4 {
		if x+1 < many {
			at := func(place int) *int { return &samples[first+place*next] }
			*at(x - 1), *at(x) = s.edge(step, *at(x - 2), *at(x - 1), *at(x), *at(x + 1))
		}
	}
}

func (s smoothing) smooth(p impl.Plane, step int) impl.Plane {
	if !impl.GoodPlane(p) || step < 0 || step > 40 {
		return impl.Plane{}
	}
	made := impl.Plane{Width: p.Width, Height: p.Height, Samples: slices.Clone(p.Samples)}
	if step < 8 {
		return made
	}
	rows := func() {
		for y := range p.Height {
			s.along(made.Samples, step, y*p.Width, p.Width, 1)
		}
	}
	columns := func() {
		for x := range p.Width {
			s.along(made.Samples, step, x, p.Height, p.Width)
		}
	}
	ways := []func(){rows, columns}
	if s.columnsFirst {
		slices.Reverse(ways)
	}
	for _, way := range ways {
		way()
	}
	return made
}

// isAtEdge asks about the two samples at each edge behind which two samples are.
func isAtEdge(place int, many int) bool {
	return place%4 == 0 && place > 0 && place+1 < many || place%4 == 3 && place+2 < many
}

// mayChange is by how much smoothing may change a sample: by its bound for each way in which it lies at an edge.
func mayChange(p impl.Plane, at int, step int) int {
	_, _, most := smoothBounds(step)
	far := 0
	if step >= 8 && isAtEdge(at%p.Width, p.Width) {
		far += most
	}
	if step >= 8 && isAtEdge(at/p.Width, p.Height) {
		far += most
	}
	return far
}

func checkSmooth(t *testing.T, p impl.Plane, step int) impl.Plane {
	t.Helper()
	change := func(p impl.Plane) impl.Plane { return impl.Smooth(p, step) }
	got, again, want := madeOf(t, p, change), madeOf(t, p, change), toldSmoothing.smooth(p, step)
	if !samePlane(got, want) || !samePlane(again, want) {
		t.Fatalf("step %d: of %v\n%v, not\n%v", step, p, got, want)
	}
	for at := range got.Samples {
		if magnitude(got.Samples[at]-p.Samples[at]) > mayChange(p, at, step) {
			t.Fatalf("step %d: of %v\n%v: too far at %d", step, p, got, at)
		}
	}
	return got
}

// rolling has samples that are near to those beside them, and some steps over what may be an edge.
func rolling(r *rand.Rand, width int, height int, far int) impl.Plane {
	p := impl.Plane{Width: width, Height: height}
	base := r.IntN(256)
	tilt := r.IntN(2*far+1) - far
	for y := range height {
		for x := range width {
			p.Samples = append(p.Samples, clippedNumber(base+tilt*(x/4+y/4)+r.IntN(far+1)))
		}
	}
	return p
}

func TestSmoothByHand(t *testing.T) {
	for _, c := range []struct {
		what string
		step int
		row  []int
		want []int
	}{
		// A is 32, B 8, C 5: (4 * 4 + (10 - 14) + 4) >> 3 is 2.
		{"up", 16, []int{10, 10, 10, 10, 14, 14, 14, 14}, []int{10, 10, 10, 12, 12, 14, 14, 14}},
		// (4 * -4 + (14 - 10) + 4) >> 3 is -1.
		{"down", 16, []int{14, 14, 14, 14, 10, 10, 10, 10}, []int{14, 14, 14, 13, 11, 10, 10, 10}},
		{"below 8", 7, []int{10, 10, 10, 10, 14, 14, 14, 14}, []int{10, 10, 10, 10, 14, 14, 14, 14}},
		// A is 12, B 4, C 3: (4 * 4 + (10 - 14) + 4) >> 3 is 2.
		{"just 8", 8, []int{10, 10, 10, 10, 14, 14, 14, 14}, []int{10, 10, 10, 12, 12, 14, 14, 14}},
		// (4 * 11 - 11 + 4) >> 3 is 4.
		{"clipped to C", 8, []int{10, 10, 10, 10, 21, 21, 21, 21}, []int{10, 10, 10, 13, 18, 21, 21, 21}},
		{"clipped to -C", 8, []int{21, 21, 21, 21, 10, 10, 10, 10}, []int{21, 21, 21, 18, 13, 10, 10, 10}},
		{"just A", 8, []int{10, 10, 10, 10, 22, 22, 22, 22}, []int{10, 10, 10, 10, 22, 22, 22, 22}},
		{"just -A", 8, []int{22, 22, 22, 22, 10, 10, 10, 10}, []int{22, 22, 22, 22, 10, 10, 10, 10}},
		// (4 * 4 + (7 - 14) + 4) >> 3 is 1.
		{"below B ahead", 8, []int{0, 0, 7, 10, 14, 14, 0, 0}, []int{0, 0, 7, 11, 13, 14, 0, 0}},
		{"just B ahead", 8, []int{0, 0, 6, 10, 14, 14, 0, 0}, []int{0, 0, 6, 10, 14, 14, 0, 0}},
		{"just B ahead, down", 8, []int{0, 0, 14, 10, 14, 14, 0, 0}, []int{0, 0, 14, 10, 14, 14, 0, 0}},
		// (4 * 4 + (10 - 17) + 4) >> 3 is 1.
		{"below B behind", 8, []int{0, 0, 10, 10, 14, 17, 0, 0}, []int{0, 0, 10, 11, 13, 17, 0, 0}},
		{"just B behind", 8, []int{0, 0, 10, 10, 14, 18, 0, 0}, []int{0, 0, 10, 10, 14, 18, 0, 0}},
		{"just B behind, down", 8, []int{0, 0, 10, 10, 14, 10, 0, 0}, []int{0, 0, 10, 10, 14, 10, 0, 0}},
		// (4 * 0 + (0 - 15) + 4) >> 3 is -2.
		{"clipped at 0", 40, []int{9, 9, 0, 0, 0, 15, 9, 9}, []int{9, 9, 0, 0, 2, 15, 9, 9}},
		// (4 * 0 + (15 - 0) + 4) >> 3 is 2.
		{"clipped at 0 behind", 40, []int{9, 9, 15, 0, 0, 0, 9, 9}, []int{9, 9, 15, 2, 0, 0, 9, 9}},
		// (4 * 0 + (255 - 240) + 4) >> 3 is 2.
		{"clipped at 255", 40, []int{9, 9, 255, 255, 255, 240, 9, 9}, []int{9, 9, 255, 255, 253, 240, 9, 9}},
		{"clipped at 255 behind", 40, []int{9, 9, 240, 255, 255, 255, 9, 9}, []int{9, 9, 240, 253, 255, 255, 9, 9}},
		{"two edges", 16, []int{0, 0, 0, 0, 4, 4, 4, 4, 8, 8, 8, 8}, []int{0, 0, 0, 2, 2, 4, 4, 6, 6, 8, 8, 8}},
		{"no d", 40, []int{0, 0, 0, 0, 9}, []int{0, 0, 0, 0, 9}},
		{"no c", 40, []int{0, 0, 0, 9}, []int{0, 0, 0, 9}},
		// (4 * 9 + (0 - 9) + 4) >> 3 is 3.
		{"just a d", 40, []int{0, 0, 0, 0, 9, 9}, []int{0, 0, 0, 3, 6, 9}},
		{"no d at the second one", 40, []int{0, 0, 0, 0, 9, 9, 9, 9, 18}, []int{0, 0, 0, 3, 6, 9, 9, 9, 18}},
		{"one", 40, []int{77}, []int{77}},
	} {
		if got := checkSmooth(t, rowPlane(c.row...), c.step); !slices.Equal(got.Samples, c.want) {
			t.Errorf("%s: of %v %v, not %v", c.what, c.row, got.Samples, c.want)
		}
		if got := checkSmooth(t, columnPlane(c.row...), c.step); !slices.Equal(got.Samples, c.want) {
			t.Errorf("%s, down: of %v %v, not %v", c.what, c.row, got.Samples, c.want)
		}
	}
}

// TestSmoothOfEachStep has edges around each bound of each step.
func TestSmoothOfEachStep(t *testing.T) {
	r := rand.New(rand.NewPCG(13, 61))
	for step := range 41 {
		over, beside, _ := smoothBounds(step)
		overs := slices.Concat(around(1, -over, 0, over), []int{r.IntN(2*over+1) - over, r.IntN(2*over+1) - over})
		besides := slices.Concat(around(1, -beside, 0, beside), []int{r.IntN(2*beside+1) - beside})
		for _, edge := range overs {
			for _, ahead := range besides {
				for _, behind := range besides {
					b := r.IntN(256)
					row := []int{0, 0, b - ahead, b, b + edge, b + edge + behind}
					if areSamples(row) {
						checkSmooth(t, rowPlane(row...), step)
					}
				}
			}
		}
	}
}

func TestSmoothOfAllSides(t *testing.T) {
	r := rand.New(rand.NewPCG(13, 62))
	for width := 1; width <= 18; width++ {
		for height := 1; height <= 18; height++ {
			for _, step := range []int{8, 15, 28, 40} {
				checkSmooth(t, rolling(r, width, height, step/2), step)
			}
			checkSmooth(t, somePlane(r, width, height), 40)
		}
	}
	for _, c := range [][2]int{{512, 8}, {8, 512}, {64, 64}, {512, 1}, {1, 512}} {
		checkSmooth(t, rolling(r, c[0], c[1], 9), 30)
		checkSmooth(t, rolling(r, c[0], c[1], 9), 0)
	}
}

// TestSmoothNeedsTwoBehind has no edges up to a side of five, and at the side of nine none for the last sample.
func TestSmoothNeedsTwoBehind(t *testing.T) {
	for many := 1; many <= 14; many++ {
		var stairs []int
		for i := range many {
			stairs = append(stairs, 16*(i/4))
		}
		got := checkSmooth(t, rowPlane(stairs...), 40)
		down := checkSmooth(t, columnPlane(stairs...), 40)
		for i := range many {
			if changed := got.Samples[i] != stairs[i]; changed != isAtEdge(i, many) || down.Samples[i] != got.Samples[i] {
				t.Errorf("%d samples: %v, and down %v", many, got.Samples, down.Samples)
			}
		}
	}
}

func TestSmoothOfEachStepOfPlanes(t *testing.T) {
	r := rand.New(rand.NewPCG(13, 63))
	changed := map[int]bool{}
	for step := range 41 {
		for range 12 {
			p := rolling(r, 6+r.IntN(14), 6+r.IntN(14), 1+step/2)
			if got := checkSmooth(t, p, step); !samePlane(got, p) {
				changed[step] = true
			}
		}
		for _, sample := range []int{0, 1, 128, 255} {
			p := evenPlane(13, 10, sample)
			if got := checkSmooth(t, p, step); !samePlane(got, p) {
				t.Errorf("step %d: %d alone becomes %v", step, sample, got)
			}
		}
	}
	for step := range 41 {
		if changed[step] != (step >= 8) {
			t.Errorf("step %d: changed is %v", step, changed[step])
		}
	}
}

// TestSmoothGoesRowsFirst counts in how many planes the other order, or another rounding, tells other samples.
func TestSmoothGoesRowsFirst(t *testing.T) {
	r := rand.New(rand.NewPCG(13, 64))
	columnsFirst := smoothing{columnsFirst: true, round: toldSmoothing.round}
	towardsZero := smoothing{round: func(sum int) int { return (sum + 4) / 8 }}
	seen := map[string]int{}
	for range 200 {
		p := rolling(r, 14, 14, 12)
		got := checkSmooth(t, p, 30)
		if !samePlane(got, columnsFirst.smooth(p, 30)) {
			seen["order"]++
		}
		if !samePlane(got, towardsZero.smooth(p, 30)) {
			seen["rounding"]++
		}
	}
	if seen["order"] < 50 || seen["rounding"] < 50 {
		t.Errorf("seen in planes: %v", seen)
	}
}

func TestSmoothOfNoStep(t *testing.T) {
	r := rand.New(rand.NewPCG(13, 65))
	p := rolling(r, 12, 12, 4)
	for _, step := range slices.Concat(extremes(), []int{-255, -41, -40, -16, -8, -7, -2, -1, 41, 42, 48, 64, 255, 256}) {
		if got := checkSmooth(t, p, step); !isNoPlane(got) {
			t.Errorf("step %d: %v", step, got)
		}
	}
}

func TestSmoothOfBadPlanes(t *testing.T) {
	for _, step := range []int{0, 7, 8, 40} {
		smooth := func(p impl.Plane) impl.Plane { return impl.Smooth(p, step) }
		checkNoneOfBad(t, smooth)
		for what, p := range badSquares() {
			if got := madeOf(t, p, smooth); !isNoPlane(got) {
				t.Errorf("%s, step %d: %v", what, step, got)
			}
		}
	}
}

func TestSmoothSharesNothing(t *testing.T) {
	r := rand.New(rand.NewPCG(13, 66))
	for _, step := range []int{0, 7, 8, 40} {
		p := rolling(r, 9, 9, 5)
		checkApart(t, "smoothed planes", [][]int{p.Samples}, impl.Smooth(p, step).Samples, impl.Smooth(p, step).Samples)
	}
}

func TestSmoothOfAnyArguments(t *testing.T) {
	r := rand.New(rand.NewPCG(13, 67))
	numbers := append(extremes(), -1, 0, 1, 2, 7, 8, 9, 40, 41, 255, 256)
	some := func() int { return numbers[r.IntN(len(numbers))] }
	for range 5000 {
		p, step := rolling(r, 1+r.IntN(11), 1+r.IntN(11), 8), r.IntN(41)
		switch r.IntN(8) {
		case 0:
			p.Width = some()
		case 1:
			p.Height = some()
		case 2:
			p.Samples[r.IntN(len(p.Samples))] = some()
		case 3:
			step = some()
		}
		checkSmooth(t, p, step)
	}
}
