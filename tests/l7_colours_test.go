package tests

import (
	"math"
	"math/rand/v2"
	"slices"
	"testing"

	"loop.example/g00016/impl"
)

// floorOf is the greatest whole number not above the quotient, of numbers that a float holds.
func floorOf(a int, b int) int {
	return int(math.Floor(float64(a) / float64(b)))
}

// clippedNumber is the middle one of the number and both ends.
func clippedNumber(n int) int {
	three := []int{0, n, 255}
	slices.Sort(three)
	return three[1]
}

func clippedTriple(a int, b int, c int) impl.Triple {
	return impl.Triple{A: clippedNumber(a), B: clippedNumber(b), C: clippedNumber(c)}
}

func slowBright(rgb impl.Triple) impl.Triple {
	r, g, b := clippedNumber(rgb.A), clippedNumber(rgb.B), clippedNumber(rgb.C)
	y := floorOf(77*r+150*g+29*b+128, 256)
	cb := floorOf(-43*r-85*g+128*b+128, 256) + 128
	cr := floorOf(128*r-107*g-21*b+128, 256) + 128
	return clippedTriple(y, cb, cr)
}

func slowUnbright(ycc impl.Triple) impl.Triple {
	y, u, v := clippedNumber(ycc.A), clippedNumber(ycc.B)-128, clippedNumber(ycc.C)-128
	r := y + floorOf(359*v+128, 256)
	g := y - floorOf(88*u+183*v+128, 256)
	b := y + floorOf(454*u+128, 256)
	return clippedTriple(r, g, b)
}

func checkColour(t *testing.T, c impl.Triple) {
	t.Helper()
	if got, want := impl.Bright(c), slowBright(c); got != want {
		t.Fatalf("Bright(%v) = %v, not %v", c, got, want)
	}
	if got, want := impl.Unbright(c), slowUnbright(c); got != want {
		t.Fatalf("Unbright(%v) = %v, not %v", c, got, want)
	}
}

// checkColours tries each of the numbers in each place.
func checkColours(t *testing.T, numbers []int) {
	t.Helper()
	for _, a := range numbers {
		for _, b := range numbers {
			for _, c := range numbers {
				checkColour(t, impl.Triple{A: a, B: b, C: c})
			}
		}
	}
}

func TestBrightByHand(t *testing.T) {
	for _, c := range []struct{ rgb, ycc impl.Triple }{
		{impl.Triple{}, impl.Triple{A: 0, B: 128, C: 128}},
		{impl.Triple{A: 255, B: 255, C: 255}, impl.Triple{A: 255, B: 128, C: 128}},
		{impl.Triple{A: 255}, impl.Triple{A: 77, B: 85, C: 255}},
		{impl.Triple{B: 255}, impl.Triple{A: 149, B: 43, C: 21}},
		{impl.Triple{C: 255}, impl.Triple{A: 29, B: 255, C: 107}},
		{impl.Triple{A: 255, B: 255}, impl.Triple{A: 226, B: 1, C: 149}},
		{impl.Triple{B: 255, C: 255}, impl.Triple{A: 178, B: 171, C: 1}},
		{impl.Triple{A: 255, C: 255}, impl.Triple{A: 106, B: 213, C: 235}},
		{impl.Triple{A: 1}, impl.Triple{A: 0, B: 128, C: 129}},
		{impl.Triple{A: 3}, impl.Triple{A: 1, B: 127, C: 130}},
		{impl.Triple{B: 1}, impl.Triple{A: 1, B: 128, C: 128}},
		{impl.Triple{B: 2}, impl.Triple{A: 1, B: 127, C: 127}},
		{impl.Triple{C: 1}, impl.Triple{A: 0, B: 129, C: 128}},
		{impl.Triple{A: -1, B: -1000, C: math.MinInt}, impl.Triple{A: 0, B: 128, C: 128}},
		{impl.Triple{A: 256, B: 1000, C: math.MaxInt}, impl.Triple{A: 255, B: 128, C: 128}},
		{impl.Triple{A: math.MaxInt, B: math.MinInt, C: -1}, impl.Triple{A: 77, B: 85, C: 255}},
	} {
		if got := impl.Bright(c.rgb); got != c.ycc {
			t.Errorf("Bright(%v) = %v, not %v", c.rgb, got, c.ycc)
		}
	}
}

func TestUnbrightByHand(t *testing.T) {
	for _, c := range []struct{ ycc, rgb impl.Triple }{
		{impl.Triple{A: 0, B: 128, C: 128}, impl.Triple{}},
		{impl.Triple{A: 255, B: 128, C: 128}, impl.Triple{A: 255, B: 255, C: 255}},
		{impl.Triple{A: 100, B: 128, C: 138}, impl.Triple{A: 114, B: 93, C: 100}},
		{impl.Triple{A: 100, B: 138, C: 128}, impl.Triple{A: 100, B: 97, C: 118}},
		{impl.Triple{A: 100, B: 128, C: 118}, impl.Triple{A: 86, B: 107, C: 100}},
		{impl.Triple{A: 100, B: 118, C: 128}, impl.Triple{A: 100, B: 103, C: 82}},
		{impl.Triple{A: 100, B: 129, C: 129}, impl.Triple{A: 101, B: 99, C: 102}},
		{impl.Triple{A: 100, B: 127, C: 127}, impl.Triple{A: 99, B: 101, C: 98}},
		// Red and blue below 0, then above 255; green then on the other side.
		{impl.Triple{A: 60, B: 0, C: 0}, impl.Triple{A: 0, B: 195, C: 0}},
		{impl.Triple{A: 200, B: 255, C: 255}, impl.Triple{A: 255, B: 66, C: 255}},
		{impl.Triple{A: 50, B: 255, C: 255}, impl.Triple{A: 228, B: 0, C: 255}},
		{impl.Triple{A: 200, B: 0, C: 0}, impl.Triple{A: 21, B: 255, C: 0}},
		{impl.Triple{A: 100, B: math.MinInt, C: -1}, impl.Triple{A: 0, B: 235, C: 0}},
		{impl.Triple{A: math.MaxInt, B: 128, C: 128}, impl.Triple{A: 255, B: 255, C: 255}},
		{impl.Triple{A: 256, B: 128, C: 127}, impl.Triple{A: 254, B: 255, C: 255}},
		{impl.Triple{A: -9, B: 128, C: 129}, impl.Triple{A: 1, B: 0, C: 0}},
	} {
		if got := impl.Unbright(c.ycc); got != c.rgb {
			t.Errorf("Unbright(%v) = %v, not %v", c.ycc, got, c.rgb)
		}
	}
}

func TestColoursAtTheEdges(t *testing.T) {
	checkColours(t, []int{
		math.MinInt, math.MinInt + 1, -1 << 32, -256, -255, -129, -128, -127, -1, 0, 1, 2, 64,
		127, 128, 129, 254, 255, 256, 257, 300, 384, 512, 1 << 32, math.MaxInt - 1, math.MaxInt,
	})
}

func TestColoursAllOver(t *testing.T) {
	var numbers []int
	for n := 0; n <= 255; n += 5 {
		numbers = append(numbers, n)
	}
	checkColours(t, numbers)
	r := rand.New(rand.NewPCG(7, 1))
	for range 200000 {
		checkColour(t, impl.Triple{A: r.IntN(600) - 200, B: r.IntN(600) - 200, C: r.IntN(600) - 200})
	}
}

// Each of the six answers must be met with a sum whose rounding falls below 0, and with each end to which it is clipped.
func TestColoursAreRoundedDownAndClipped(t *testing.T) {
	below, under, over := [6]int{}, [6]int{}, [6]int{}
	for a := 0; a <= 255; a += 15 {
		for b := 0; b <= 255; b += 15 {
			for c := 0; c <= 255; c += 15 {
				u, v := b-128, c-128
				sums := [6]int{
					77*a + 150*b + 29*c, -43*a - 85*b + 128*c, 128*a - 107*b - 21*c,
					359 * v, 88*u + 183*v, 454 * u,
				}
				for i, sum := range sums {
					if sum+128 < 0 && (sum+128)%256 != 0 {
						below[i]++
					}
				}
				for i, n := range [6]int{
					floorOf(sums[0]+128, 256), floorOf(sums[1]+128, 256) + 128, floorOf(sums[2]+128, 256) + 128,
					a + floorOf(sums[3]+128, 256), a - floorOf(sums[4]+128, 256), a + floorOf(sums[5]+128, 256),
				} {
					if n < 0 {
						under[i]++
					}
					if n > 255 {
						over[i]++
					}
				}
				checkColour(t, impl.Triple{A: a, B: b, C: c})
			}
		}
	}
	for i := 1; i < 6; i++ {
		if below[i] == 0 {
			t.Errorf("number %d: no rounding below 0", i)
		}
		if i >= 3 && under[i] == 0 || over[i] == 0 {
			t.Errorf("number %d: clipped %d times at 0, %d times at 255", i, under[i], over[i])
		}
	}
}

func TestUnbrightOfBrightIsNear(t *testing.T) {
	apart := func(a int, b int) int { return max(a-b, b-a) }
	most := 0
	for a := range 256 {
		for b := range 256 {
			for c := range 256 {
				rgb := impl.Triple{A: a, B: b, C: c}
				back := impl.Unbright(impl.Bright(rgb))
				far := max(apart(back.A, a), apart(back.B, b), apart(back.C, c))
				if far > 2 {
					t.Fatalf("%v is %v when it comes back", rgb, back)
				}
				most = max(most, far)
			}
		}
	}
	if most == 0 {
		t.Error("every colour comes back as it was, which these numbers can't do")
	}
}

func TestGreysStayGreys(t *testing.T) {
	for n := -300; n <= 600; n++ {
		grey := impl.Triple{A: n, B: n, C: n}
		level := clippedNumber(n)
		ycc := impl.Triple{A: level, B: 128, C: 128}
		if got := impl.Bright(grey); got != ycc {
			t.Errorf("Bright(%v) = %v", grey, got)
		}
		want := impl.Triple{A: level, B: level, C: level}
		if got := impl.Unbright(impl.Triple{A: n, B: 128, C: 128}); got != want {
			t.Errorf("Unbright of brightness %d = %v", n, got)
		}
		if got := impl.Unbright(impl.Bright(grey)); got != want {
			t.Errorf("%v comes back as %v", grey, got)
		}
	}
}
