package tests

import (
	"math"
	"math/rand/v2"
	"slices"
	"strconv"
	"strings"
	"testing"

	"loop.example/g00016/impl"
)

// slowMarks goes by the text of the number and 1, of which the first digit is told by how many follow.
func slowMarks(n int, first int) []impl.Choice {
	if n < 0 || n > 65535 || first < 0 || first > 472 {
		return nil
	}
	digits := strconv.FormatInt(int64(n+1), 2)[1:]
	var marks []impl.Choice
	for i, bit := range strings.Repeat("1", len(digits)) + "0" {
		marks = append(marks, impl.Choice{Place: first + i, Bit: int(bit - '0')})
	}
	for i, bit := range digits {
		marks = append(marks, impl.Choice{Place: first + 20 + len(digits) - 1 - i, Bit: int(bit - '0')})
	}
	return marks
}

// checkMarks asks twice, and writes all over the first answer.
func checkMarks(t *testing.T, n int, first int) []impl.Choice {
	t.Helper()
	got, want := impl.Marks(n, first), slowMarks(n, first)
	if !slices.Equal(got, want) {
		t.Fatalf("%d at %d: %v, not %v", n, first, got, want)
	}
	all := got[:cap(got)]
	for i := range all {
		all[i] = impl.Choice{Place: -9, Bit: -9}
	}
	again := impl.Marks(n, first)
	if !slices.Equal(again, want) {
		t.Fatalf("%d at %d: %v, and then %v", n, first, want, again)
	}
	for _, c := range all {
		if c.Place != -9 {
			t.Fatalf("%d at %d: two answers share memory", n, first)
		}
	}
	return again
}

func TestMarksByHand(t *testing.T) {
	for _, c := range []struct {
		n    int
		want []impl.Choice
	}{
		{0, []impl.Choice{{}}},
		{1, []impl.Choice{{Place: 0, Bit: 1}, {Place: 1}, {Place: 20}}},
		{2, []impl.Choice{{Place: 0, Bit: 1}, {Place: 1}, {Place: 20, Bit: 1}}},
		{3, []impl.Choice{{Place: 0, Bit: 1}, {Place: 1, Bit: 1}, {Place: 2}, {Place: 21}, {Place: 20}}},
		{4, []impl.Choice{{Place: 0, Bit: 1}, {Place: 1, Bit: 1}, {Place: 2}, {Place: 21}, {Place: 20, Bit: 1}}},
		{5, []impl.Choice{{Place: 0, Bit: 1}, {Place: 1, Bit: 1}, {Place: 2}, {Place: 21, Bit: 1}, {Place: 20}}},
		{6, []impl.Choice{{Place: 0, Bit: 1}, {Place: 1, Bit: 1}, {Place: 2}, {Place: 21, Bit: 1}, {Place: 20, Bit: 1}}},
		{12, []impl.Choice{{Place: 0, Bit: 1}, {Place: 1, Bit: 1}, {Place: 2, Bit: 1}, {Place: 3}, {Place: 22, Bit: 1}, {Place: 21}, {Place: 20, Bit: 1}}},
	} {
		for _, first := range []int{0, 1, 10, 471, 472} {
			want := slices.Clone(c.want)
			for i := range want {
				want[i].Place += first
			}
			if got := checkMarks(t, c.n, first); !slices.Equal(got, want) {
				t.Errorf("%d at %d: %v, not %v", c.n, first, got, want)
			}
		}
	}
	// 65535 and 1 have one digit 1 and sixteen 0.
	got := checkMarks(t, 65535, 472)
	if want := slices.Concat(fresh(472, append(alike(1, 16), 0)...), chosenAt(0, 507, 506, 505, 504, 503, 502, 501, 500, 499, 498, 497, 496, 495, 494, 493, 492)); !slices.Equal(got, want) {
		t.Errorf("%v, not %v", got, want)
	}
}

func TestMarksOfAllNumbers(t *testing.T) {
	for n := range 65536 {
		checkMarks(t, n, n%473)
		checkMarks(t, n, 0)
		if got := len(checkMarks(t, n, 472)); got%2 == 0 || got > 33 {
			t.Fatalf("%d: %d choices", n, got)
		}
	}
}

func TestMarksNextToPowers(t *testing.T) {
	for power := 1; power <= 1<<17; power *= 2 {
		for n := power - 3; n <= power+2; n++ {
			for _, first := range []int{0, 8, 48, 130, 170, 472} {
				if got := checkMarks(t, n, first); (len(got) == 0) != (n < 0 || n > 65535) {
					t.Errorf("%d at %d: %v", n, first, got)
				}
			}
		}
	}
}

func TestMarksOfWhatIsNotValid(t *testing.T) {
	for _, n := range []int{math.MinInt, -65536, -2, -1, 65536, 65537, 1 << 31, 1 << 32, 1<<32 + 5, math.MaxInt - 1, math.MaxInt} {
		for _, first := range []int{0, 1, 472, 473, -1} {
			if got := checkMarks(t, n, first); len(got) > 0 {
				t.Errorf("%d at %d: %v", n, first, got)
			}
		}
	}
	for _, first := range []int{math.MinInt, -512, -40, -1, 473, 474, 492, 511, 512, 1 << 16, 1 << 32, 1<<32 + 1, math.MaxInt - 40, math.MaxInt} {
		for _, n := range []int{0, 1, 5, 65535, 65536, -1} {
			if got := checkMarks(t, n, first); len(got) > 0 {
				t.Errorf("%d at %d: %v", n, first, got)
			}
		}
	}
	for first := range 473 {
		if len(checkMarks(t, 0, first)) != 1 || len(checkMarks(t, 65535, first)) != 33 {
			t.Errorf("at %d there are none", first)
		}
	}
}

// All places of marks at first are from there on, and less than 40 behind it.
func TestMarksKeepTheirPlaces(t *testing.T) {
	for _, n := range []int{0, 1, 255, 32767, 65534, 65535} {
		for _, first := range []int{0, 100, impl.MaxPlaces - 40} {
			for _, c := range checkMarks(t, n, first) {
				if c.Place < first || c.Place >= first+40 || c.Bit < 0 || c.Bit > 1 {
					t.Errorf("%d at %d: %v", n, first, c)
				}
			}
		}
	}
}

// A markReader knows the bytes and where marks stand, and no bit ahead: it asks for one choice more each time.
type markReader struct {
	t      *testing.T
	places int
	data   []byte
	at     []int
	next   int
}

func (m *markReader) bit(place int) int {
	m.at = append(m.at, place)
	got := impl.OddsUnpack(m.places, m.data, m.at)
	if got.Err != 0 || len(got.Bits) != len(m.at) {
		m.t.Fatalf("%d choices: error %d, %d bits", len(m.at), got.Err, len(got.Bits))
	}
	m.next = got.Next
	return got.Bits[len(m.at)-1]
}

func (m *markReader) number(first int) int {
	lower := 0
	for m.bit(first+lower) == 1 {
		lower++
	}
	n := 1
	for i := lower - 1; i >= 0; i-- {
		n = 2*n + m.bit(first+20+i)
	}
	return n - 1
}

func someMarked(r *rand.Rand) int {
	return []int{r.IntN(65536), r.IntN(4), r.IntN(300), 0, 65535, (1 << r.IntN(17)) - 1}[r.IntN(6)]
}

func TestMarksArePackedAndRead(t *testing.T) {
	r := rand.New(rand.NewPCG(12, 30))
	firsts := []int{0, 40, 41, 300, 472}
	for range 60 {
		var numbers []int
		var list []impl.Choice
		for i := range 30 {
			n := someMarked(r)
			numbers = append(numbers, n)
			list = append(list, impl.Marks(n, firsts[i%len(firsts)])...)
		}
		m := markReader{t: t, places: 512, data: checkOddsPack(t, 512, list)}
		var read []int
		for i := range numbers {
			read = append(read, m.number(firsts[i%len(firsts)]))
		}
		if !slices.Equal(read, numbers) || m.next != len(m.data) || !slices.Equal(m.at, placesOf(list)) {
			t.Fatalf("%v are read as %v, %d of %d bytes", numbers, read, m.next, len(m.data))
		}
	}
}

// As many numbers as there may be choices for, all marks at the same places.
func TestMarksOfManyNumbersAreRead(t *testing.T) {
	for first := range 2 {
		var numbers []int
		var list []impl.Choice
		for n := 0; len(list) <= 20000-33; n = (n*5 + 3) % 65536 {
			numbers = append(numbers, n)
			list = append(list, impl.Marks(n, 472*first)...)
		}
		data := checkOddsPack(t, 512, list)
		bits := impl.OddsUnpack(512, data, placesOf(list)).Bits
		for _, n := range numbers {
			lower := slices.Index(bits, 0)
			read := 1
			for _, bit := range bits[lower+1 : 2*lower+1] {
				read = 2*read + bit
			}
			if read-1 != n {
				t.Fatalf("%d is read as %d", n, read-1)
			}
			bits = bits[2*lower+1:]
		}
		if len(bits) > 0 {
			t.Errorf("%d bits are left", len(bits))
		}
	}
}
