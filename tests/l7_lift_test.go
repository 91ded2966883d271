package tests

import (
	"math"
	"math/big"
	"math/rand/v2"
	"slices"
	"testing"

	"loop.example/g00016/impl"
)

const farthest = 1000000

func isLiftable(rgb impl.Triple) bool {
	for _, n := range []int{rgb.A, rgb.B, rgb.C} {
		if n < -farthest || n > farthest {
			return false
		}
	}
	return true
}

func slowLift(rgb impl.Triple) impl.Triple {
	if !isLiftable(rgb) {
		return impl.Triple{}
	}
	return impl.Triple{A: floorOf(rgb.A+2*rgb.B+rgb.C, 4), B: rgb.C - rgb.B, C: rgb.A - rgb.B}
}

// slowUnlift counts without an end to its numbers: r + 2 g + b is b - g and r - g and four times g.
func slowUnlift(t impl.Triple) impl.Triple {
	a, b, c := big.NewInt(int64(t.A)), big.NewInt(int64(t.B)), big.NewInt(int64(t.C))
	quarter := new(big.Int).Add(b, c)
	quarter.Div(quarter, big.NewInt(4)) // rounded down, as the divisor is above 0
	g := new(big.Int).Sub(a, quarter)
	list := [3]*big.Int{new(big.Int).Add(c, g), g, new(big.Int).Add(b, g)}
	for _, n := range list {
		if n.CmpAbs(big.NewInt(farthest)) > 0 {
			return impl.Triple{}
		}
	}
	return impl.Triple{A: int(list[0].Int64()), B: int(list[1].Int64()), C: int(list[2].Int64())}
}

func checkLift(t *testing.T, rgb impl.Triple) {
	t.Helper()
	lifted := impl.Lift(rgb)
	if want := slowLift(rgb); lifted != want {
		t.Fatalf("Lift(%v) = %v, not %v", rgb, lifted, want)
	}
	if !isLiftable(rgb) {
		return
	}
	if back := impl.Unlift(lifted); back != rgb {
		t.Fatalf("%v is %v when it comes back", rgb, back)
	}
}

func checkUnlift(t *testing.T, lifted impl.Triple) {
	t.Helper()
	rgb := impl.Unlift(lifted)
	if want := slowUnlift(lifted); rgb != want {
		t.Fatalf("Unlift(%v) = %v, not %v", lifted, rgb, want)
	}
	if rgb == (impl.Triple{}) {
		return
	}
	if again := impl.Lift(rgb); again != lifted {
		t.Fatalf("Unlift(%v) = %v, which is lifted to %v", lifted, rgb, again)
	}
}

// eachTriple has each of the numbers in each place.
func eachTriple(numbers []int, see func(impl.Triple)) {
	for _, a := range numbers {
		for _, b := range numbers {
			for _, c := range numbers {
				see(impl.Triple{A: a, B: b, C: c})
			}
		}
	}
}

// around has the numbers that are at most so far from those.
func around(far int, centres ...int) []int {
	var numbers []int
	for _, centre := range centres {
		for n := centre - far; n <= centre+far; n++ {
			numbers = append(numbers, n)
		}
	}
	return numbers
}

// extremes are numbers whose sums and differences are beyond an int, and those of lesser kinds.
func extremes() []int {
	return []int{
		math.MinInt, math.MinInt + 1, math.MinInt + farthest, math.MinInt / 2, math.MinInt / 4, -1 << 33, -1 << 32, -1 << 31,
		1 << 31, 1 << 32, 1 << 33, math.MaxInt / 4, math.MaxInt / 2, math.MaxInt - farthest, math.MaxInt - 1, math.MaxInt,
	}
}

func TestLiftByHand(t *testing.T) {
	for _, c := range []struct{ rgb, lifted impl.Triple }{
		{impl.Triple{}, impl.Triple{}},
		{impl.Triple{A: 10, B: 20, C: 31}, impl.Triple{A: 20, B: 11, C: -10}},
		{impl.Triple{A: 255, B: 255, C: 255}, impl.Triple{A: 255}},
		{impl.Triple{A: 255}, impl.Triple{A: 63, C: 255}},
		{impl.Triple{B: 255}, impl.Triple{A: 127, B: -255, C: -255}},
		{impl.Triple{C: 255}, impl.Triple{A: 63, B: 255}},
		{impl.Triple{A: 1}, impl.Triple{C: 1}},
		{impl.Triple{C: 3}, impl.Triple{B: 3}},
		{impl.Triple{A: -1}, impl.Triple{A: -1, C: -1}},
		{impl.Triple{C: -1}, impl.Triple{A: -1, B: -1}},
		{impl.Triple{B: -1}, impl.Triple{A: -1, B: 1, C: 1}},
		{impl.Triple{A: -2, B: -1}, impl.Triple{A: -1, B: 1, C: -1}},
		{impl.Triple{A: -2, B: -1, C: -1}, impl.Triple{A: -2, C: -1}},
		{impl.Triple{A: farthest, B: farthest, C: farthest}, impl.Triple{A: farthest}},
		{impl.Triple{A: -farthest, B: -farthest, C: -farthest}, impl.Triple{A: -farthest}},
		{impl.Triple{A: farthest, B: -farthest, C: farthest}, impl.Triple{B: 2 * farthest, C: 2 * farthest}},
		{impl.Triple{A: -farthest, B: farthest, C: -farthest}, impl.Triple{B: -2 * farthest, C: -2 * farthest}},
	} {
		if got := impl.Lift(c.rgb); got != c.lifted {
			t.Errorf("Lift(%v) = %v, not %v", c.rgb, got, c.lifted)
		}
		if got := impl.Unlift(c.lifted); got != c.rgb {
			t.Errorf("Unlift(%v) = %v, not %v", c.lifted, got, c.rgb)
		}
	}
}

func TestLiftOfSmallColours(t *testing.T) {
	var rests [2][4]int // of sums below 0, and of others
	eachTriple(around(20, 0), func(rgb impl.Triple) {
		sum := rgb.A + 2*rgb.B + rgb.C
		side := 0
		if sum >= 0 {
			side = 1
		}
		rests[side][sum-4*floorOf(sum, 4)]++
		checkLift(t, rgb)
		checkUnlift(t, rgb)
	})
	for side, list := range rests {
		if slices.Contains(list[:], 0) {
			t.Errorf("side %d: not each rest was met: %v", side, list)
		}
	}
}

func TestLiftAtItsLimits(t *testing.T) {
	numbers := append(around(2, -farthest, farthest), -farthest-1000, -1, 0, 1, farthest+1000)
	eachTriple(numbers, func(rgb impl.Triple) { checkLift(t, rgb) })
	for _, rgb := range []impl.Triple{
		{A: farthest + 1}, {B: farthest + 1}, {C: farthest + 1},
		{A: -farthest - 1}, {B: -farthest - 1}, {C: -farthest - 1},
	} {
		if got := impl.Lift(rgb); got != (impl.Triple{}) {
			t.Errorf("Lift(%v) = %v", rgb, got)
		}
	}
}

func TestLiftAndUnliftAtAnyNumbers(t *testing.T) {
	numbers := append(extremes(), -2*farthest-1, -2*farthest, -farthest-1, -farthest, -7, 0, 7, farthest, farthest+1, 2*farthest, 2*farthest+1)
	eachTriple(numbers, func(n impl.Triple) {
		checkLift(t, n)
		checkUnlift(t, n)
	})
}

// No colour is lifted to these, though each colour that their sums come to has small numbers once an int has gone over.
func TestUnliftOfSumsBeyondAnInt(t *testing.T) {
	for _, n := range []impl.Triple{
		{A: math.MinInt, B: math.MinInt, C: math.MinInt}, {A: 0, B: math.MinInt, C: math.MinInt},
		{A: 0, B: math.MaxInt, C: math.MaxInt}, {A: math.MinInt / 2, B: math.MinInt, C: 0},
		{A: 0, B: 1 << 62, C: 1 << 62}, {A: 1, B: 1 << 62, C: math.MinInt}, {A: math.MaxInt, B: 4, C: math.MaxInt},
		{A: 1 << 62, B: 1 << 62, C: 1 << 62}, {A: -1 << 61, B: math.MinInt, C: 0}, {A: 1 << 62}, {B: math.MinInt}, {C: math.MinInt},
	} {
		if got := impl.Unlift(n); got != (impl.Triple{}) {
			t.Errorf("Unlift(%v) = %v", n, got)
		}
	}
}

// These are lifts of colours with a number just within and just beyond the limit, the other two all over.
func TestUnliftAroundTheLimits(t *testing.T) {
	r := rand.New(rand.NewPCG(7, 2))
	within, beyond := 0, 0
	for range 60000 {
		rgb := [3]int{r.IntN(2*farthest+1) - farthest, r.IntN(2*farthest+1) - farthest, r.IntN(2*farthest+1) - farthest}
		for i := range rgb {
			if r.IntN(3) == 0 {
				rgb[i] = (2*r.IntN(2) - 1) * (farthest + r.IntN(5) - 2)
			}
		}
		colour := impl.Triple{A: rgb[0], B: rgb[1], C: rgb[2]}
		lifted := impl.Triple{A: floorOf(rgb[0]+2*rgb[1]+rgb[2], 4), B: rgb[2] - rgb[1], C: rgb[0] - rgb[1]}
		want := colour
		if isLiftable(colour) {
			within++
		} else {
			beyond++
			want = impl.Triple{}
		}
		if got := impl.Unlift(lifted); got != want {
			t.Fatalf("Unlift(%v) = %v, not %v", lifted, got, want)
		}
		checkLift(t, colour)
	}
	if within < 1000 || beyond < 1000 {
		t.Errorf("%d within, %d beyond", within, beyond)
	}
}

func TestUnliftOfOneNumberTooMany(t *testing.T) {
	for _, c := range []struct{ lifted, rgb impl.Triple }{
		{impl.Triple{A: farthest + 1}, impl.Triple{}},
		{impl.Triple{A: -farthest - 1}, impl.Triple{}},
		{impl.Triple{A: farthest, B: 1}, impl.Triple{}},
		{impl.Triple{A: farthest, C: 1}, impl.Triple{}},
		// Green is just within, once the rest was shifted off.
		{impl.Triple{A: farthest, B: -1}, impl.Triple{}},
		{impl.Triple{A: farthest - 1, B: -1}, impl.Triple{A: farthest, B: farthest, C: farthest - 1}},
		{impl.Triple{A: farthest - 1, B: -1, C: -1}, impl.Triple{A: farthest - 1, B: farthest, C: farthest - 1}},
		{impl.Triple{A: -farthest, B: 1}, impl.Triple{A: -farthest, B: -farthest, C: -farthest + 1}},
		{impl.Triple{A: -farthest, B: 3, C: 0}, impl.Triple{A: -farthest, B: -farthest, C: -farthest + 3}},
		{impl.Triple{A: -farthest, B: 4, C: 0}, impl.Triple{}},
		{impl.Triple{A: -farthest, B: 2, C: 1}, impl.Triple{A: -farthest + 1, B: -farthest, C: -farthest + 2}},
		{impl.Triple{A: 0, B: 2*farthest + 1, C: 2*farthest - 1}, impl.Triple{}},
		{impl.Triple{A: 0, B: 2 * farthest, C: 2*farthest - 1}, impl.Triple{}},
		{impl.Triple{A: -1, B: 2 * farthest, C: 2*farthest - 1}, impl.Triple{A: farthest - 1, B: -farthest, C: farthest}},
	} {
		if got := impl.Unlift(c.lifted); got != c.rgb {
			t.Errorf("Unlift(%v) = %v, not %v", c.lifted, got, c.rgb)
		}
		checkUnlift(t, c.lifted)
	}
}

func TestUnliftUndoesLiftAllOver(t *testing.T) {
	r := rand.New(rand.NewPCG(7, 3))
	for range 300000 {
		far := 1 + r.IntN(farthest)
		some := func() int { return r.IntN(2*far+1) - far }
		n := impl.Triple{A: some(), B: some(), C: some()}
		checkLift(t, n)
		checkUnlift(t, n)
	}
}
