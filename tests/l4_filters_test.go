package tests

import (
	"bytes"
	"math"
	"math/rand/v2"
	"slices"
	"testing"

	"loop.example/g00016/impl"
)

const (
	filterKinds = 5
	filterSteps = 8
)

// byteAt is 0 where there is none.
func byteAt(row []byte, at int) int {
	if at < 0 || at >= len(row) {
		return 0
	}
	return int(row[at])
}

// guessed is the document's p.
func guessed(kind int, a int, b int, c int) int {
	switch kind {
	case 1:
		return a
	case 2:
		return b
	case 3:
		return (a + b) / 2
	case 4:
		best := a
		for _, n := range []int{b, c} {
			if math.Abs(float64(a+b-c-n)) < math.Abs(float64(a+b-c-best)) {
				best = n
			}
		}
		return best
	}
	return 0
}

func slowFilter(kind int, step int, above []byte, row []byte) []byte {
	filtered := make([]byte, len(row))
	for i, x := range row {
		p := guessed(kind, byteAt(row, i-step), byteAt(above, i), byteAt(above, i-step))
		filtered[i] = byte((int(x) - p + 256) % 256)
	}
	return filtered
}

func slowBest(step int, above []byte, row []byte) int {
	best, least := -1, math.MaxInt
	for kind := range filterKinds {
		sum := 0
		for _, x := range slowFilter(kind, step, above, row) {
			sum += min(int(x), 256-int(x))
		}
		if sum < least {
			best, least = kind, sum
		}
	}
	return best
}

func checkFilter(t *testing.T, kind int, step int, above []byte, row []byte) {
	t.Helper()
	wasAbove, wasRow := slices.Clone(above), slices.Clone(row)
	filtered := impl.FilterRow(kind, step, above, row)
	if want := slowFilter(kind, step, above, row); !bytes.Equal(filtered, want) {
		t.Fatalf("kind %d, step %d: %v below %v is %v, not %v", kind, step, row, above, filtered, want)
	}
	kept := slices.Clone(filtered)
	if plain := impl.UnfilterRow(kind, step, above, filtered); !bytes.Equal(plain, wasRow) {
		t.Fatalf("kind %d, step %d: %v below %v back is %v", kind, step, row, above, plain)
	}
	if !bytes.Equal(above, wasAbove) || !bytes.Equal(row, wasRow) || !bytes.Equal(filtered, kept) {
		t.Fatalf("kind %d, step %d: an argument was written", kind, step)
	}
}

// checkFilters tries all kinds, and each other way round too: of any row there is one of which it is made.
func checkFilters(t *testing.T, step int, above []byte, row []byte) {
	t.Helper()
	for kind := range filterKinds {
		checkFilter(t, kind, step, above, row)
		plain := impl.UnfilterRow(kind, step, above, row)
		if got := slowFilter(kind, step, above, plain); len(plain) != len(row) || !bytes.Equal(got, row) {
			t.Fatalf("kind %d, step %d: %v below %v unfiltered is %v", kind, step, row, above, plain)
		}
	}
	if got, want := impl.BestKind(step, above, row), slowBest(step, above, row); got != want {
		t.Fatalf("BestKind(%d, %v, %v) = %d, not %d", step, above, row, got, want)
	}
}

func checkNoFilter(t *testing.T, kind int, step int, above []byte, row []byte) {
	t.Helper()
	if got := impl.FilterRow(kind, step, above, row); len(got) > 0 {
		t.Errorf("FilterRow(%d, %d) of %d bytes below %d: %d bytes", kind, step, len(row), len(above), len(got))
	}
	if got := impl.UnfilterRow(kind, step, above, row); len(got) > 0 {
		t.Errorf("UnfilterRow(%d, %d) of %d bytes below %d: %d bytes", kind, step, len(row), len(above), len(got))
	}
}

func TestFiltersByHand(t *testing.T) {
	for _, c := range []struct {
		kind, step           int
		above, row, filtered []byte
	}{
		{0, 1, nil, []byte{5, 0, 255}, []byte{5, 0, 255}},
		{0, 3, []byte{9, 9, 9}, []byte{5, 0, 255}, []byte{5, 0, 255}},
		{1, 1, nil, []byte{5, 3, 255, 0}, []byte{5, 254, 252, 1}},
		{1, 2, []byte{9, 9, 9, 9, 9}, []byte{5, 3, 255, 0, 1}, []byte{5, 3, 250, 253, 2}},
		{1, 8, nil, []byte{1, 2, 3, 4, 5, 6, 7, 8, 10}, []byte{1, 2, 3, 4, 5, 6, 7, 8, 9}},
		{2, 1, nil, []byte{5, 3, 255}, []byte{5, 3, 255}},
		{2, 5, []byte{6, 0, 1}, []byte{5, 3, 255}, []byte{255, 3, 254}},
		{3, 1, nil, []byte{5, 3, 255}, []byte{5, 1, 254}},
		{3, 1, []byte{1, 2, 255}, []byte{200, 255, 254}, []byte{200, 154, 255}},
		{3, 1, []byte{255, 255}, []byte{255, 255}, []byte{128, 0}},
		{3, 2, []byte{255, 255, 254}, []byte{255, 0, 0}, []byte{128, 129, 2}},
		{4, 1, nil, []byte{5, 3, 255}, []byte{5, 254, 252}},
		{4, 4, []byte{7, 8, 9}, []byte{1, 1, 1}, []byte{250, 249, 248}},
	} {
		if got := impl.FilterRow(c.kind, c.step, c.above, c.row); !bytes.Equal(got, c.filtered) {
			t.Errorf("FilterRow(%d, %d, %v, %v) = %v, not %v", c.kind, c.step, c.above, c.row, got, c.filtered)
		}
		if got := impl.UnfilterRow(c.kind, c.step, c.above, c.filtered); !bytes.Equal(got, c.row) {
			t.Errorf("UnfilterRow(%d, %d, %v, %v) = %v, not %v", c.kind, c.step, c.above, c.filtered, got, c.row)
		}
	}
}

func TestFilterOfTheNearestByHand(t *testing.T) {
	for _, c := range []struct {
		what       string
		a, b, c, p byte
	}{
		{"all the same", 9, 9, 9, 9},
		{"a alone", 50, 21, 20, 50},
		{"b alone", 21, 50, 20, 50},
		{"c alone", 10, 30, 20, 20},
		{"a with b, both farther than c", 10, 14, 12, 12},
		{"a with b, both nearer than c", 5, 5, 200, 5},
		{"a with c, a above", 4, 1, 2, 4},
		{"a with c, a below", 0, 30, 20, 0},
		{"b with c, b above", 1, 4, 2, 4},
		{"b with c, b below", 30, 0, 20, 0},
		{"a is c", 9, 30, 9, 30},
		{"b is c", 30, 9, 9, 30},
		{"below 0", 0, 1, 255, 0},
		{"above 255", 255, 254, 0, 255},
		{"none above", 100, 0, 0, 100},
		{"none ahead", 0, 100, 0, 100},
	} {
		above, row := []byte{c.c, c.b}, []byte{c.a, 77}
		if got := impl.FilterRow(4, 1, above, row); len(got) != 2 || got[1] != 77-c.p {
			t.Errorf("%s: %d %d %d: %v, not from %d", c.what, c.a, c.b, c.c, got, c.p)
		}
		checkFilter(t, 4, 1, above, row)
	}
}

func TestFilterOfTheNearestAtTies(t *testing.T) {
	aWithC, bWithC := 0, 0
	for a := range 24 {
		for b := range 24 {
			for c := range 24 {
				// How far each is from a + b - c.
				fromA, fromB, fromC := max(b-c, c-b), max(a-c, c-a), max(a+b-2*c, 2*c-a-b)
				want := c
				switch min(fromA, fromB, fromC) {
				case fromA:
					want = a
				case fromB:
					want = b
				}
				if want == a && fromA == fromC && a != c {
					aWithC++
				}
				if want == b && fromB == fromC && b != c {
					bWithC++
				}
				got := impl.FilterRow(4, 1, []byte{byte(c), byte(b)}, []byte{byte(a), 0})
				if len(got) != 2 || got[1] != byte(256-want) {
					t.Fatalf("%d %d %d: %v, not from %d", a, b, c, got, want)
				}
			}
		}
	}
	if aWithC == 0 || bWithC == 0 {
		t.Errorf("no ties: %d %d", aWithC, bWithC)
	}
}

func TestFiltersOfEdgesAllTogether(t *testing.T) {
	edges := []byte{0, 1, 2, 3, 126, 127, 128, 129, 130, 253, 254, 255}
	for _, a := range edges {
		for _, b := range edges {
			for _, c := range edges {
				checkFilters(t, 1, []byte{c, b}, []byte{a, 128})
			}
		}
	}
}

func TestFiltersOfEachKindAndStep(t *testing.T) {
	r := rand.New(rand.NewPCG(4, 8))
	for step := 1; step <= filterSteps; step++ {
		for long := range 30 {
			row, above := someBytes(r, long), someBytes(r, long)
			checkFilters(t, step, above, row)
			checkFilters(t, step, nil, row)
			checkFilters(t, step, []byte{}, row)
			for i := range row {
				row[i], above[i] = row[i]%5, above[i]%5
			}
			checkFilters(t, step, above, row)
		}
	}
}

func TestFiltersOfNoBytesAboveCountAsZeros(t *testing.T) {
	r := rand.New(rand.NewPCG(4, 9))
	for step := 1; step <= filterSteps; step++ {
		row := someBytes(r, 20)
		zeros := make([]byte, 20)
		for kind := range filterKinds {
			if !bytes.Equal(impl.FilterRow(kind, step, nil, row), impl.FilterRow(kind, step, zeros, row)) ||
				!bytes.Equal(impl.UnfilterRow(kind, step, nil, row), impl.UnfilterRow(kind, step, zeros, row)) {
				t.Errorf("kind %d, step %d: none above is not as zeros", kind, step)
			}
		}
		if impl.BestKind(step, nil, row) != impl.BestKind(step, zeros, row) {
			t.Errorf("step %d: the best of none above is not that of zeros", step)
		}
	}
}

func TestFiltersOfOtherKinds(t *testing.T) {
	for _, kind := range []int{-1, 5, 6, -5, 255, 256, math.MinInt, math.MaxInt} {
		checkNoFilter(t, kind, 1, nil, []byte{1, 2, 3})
		checkNoFilter(t, kind, 1, []byte{1, 2, 3}, []byte{1, 2, 3})
		checkNoFilter(t, kind, 1, nil, nil)
	}
}

func TestFiltersOfOtherSteps(t *testing.T) {
	for _, step := range []int{0, 9, -1, -8, 16, math.MinInt, math.MaxInt} {
		for kind := range filterKinds {
			checkNoFilter(t, kind, step, nil, someBytes(rand.New(rand.NewPCG(4, 10)), 20))
			checkNoFilter(t, kind, step, []byte{1, 2, 3}, []byte{1, 2, 3})
		}
		for _, row := range [][]byte{nil, {1}, {1, 2, 3}} {
			if got := impl.BestKind(step, nil, row); got != -1 {
				t.Errorf("BestKind of step %d is %d", step, got)
			}
		}
	}
}

func TestFiltersOfAnotherNumberAbove(t *testing.T) {
	for above := 1; above < 12; above++ {
		for long := range 12 {
			if long == above {
				continue
			}
			for kind := range filterKinds {
				checkNoFilter(t, kind, 2, make([]byte, above), make([]byte, long))
			}
			if got := impl.BestKind(2, make([]byte, above), make([]byte, long)); got != -1 {
				t.Errorf("BestKind of %d bytes below %d is %d", long, above, got)
			}
		}
	}
}

func TestFiltersOfRowsAsLongAsMayBe(t *testing.T) {
	r := rand.New(rand.NewPCG(4, 11))
	row, above := someBytes(r, impl.MaxRow+1), someBytes(r, impl.MaxRow+1)
	for step := 1; step <= filterSteps; step++ {
		checkFilters(t, step, above[:impl.MaxRow], row[:impl.MaxRow])
		checkFilters(t, step, nil, row[:impl.MaxRow])
		for kind := range filterKinds {
			checkNoFilter(t, kind, step, above, row)
			checkNoFilter(t, kind, step, nil, row)
			checkNoFilter(t, kind, step, above[:impl.MaxRow], row)
			checkNoFilter(t, kind, step, above, row[:impl.MaxRow])
		}
		if a, b := impl.BestKind(step, above, row), impl.BestKind(step, nil, row); a != -1 || b != -1 {
			t.Errorf("BestKind of too long a row is %d, %d", a, b)
		}
	}
}

func TestBestKindByHand(t *testing.T) {
	for _, c := range []struct {
		what       string
		step       int
		above, row []byte
		kind       int
	}{
		{"no bytes", 1, nil, nil, 0},
		{"no bytes at the greatest step", 8, nil, nil, 0},
		{"zeros are alike in all kinds", 1, []byte{0, 0}, []byte{0, 0}, 0},
		{"rising", 1, nil, []byte{10, 20, 30, 40}, 1},
		{"rising by two", 2, nil, []byte{10, 90, 11, 91, 12, 92}, 1},
		{"as above", 1, []byte{10, 90, 40}, []byte{10, 90, 40}, 2},
		{"the mean", 1, []byte{20, 40, 60}, []byte{10, 25, 42}, 3},
		{"the nearest", 1, []byte{0, 0, 100, 100}, []byte{50, 50, 150, 150}, 4},
		{"of 1 and 4 the least", 1, nil, []byte{7, 7, 7}, 1},
		{"of 2 and 4 the least", 1, []byte{50}, []byte{50}, 2},
		{"128 above 127", 1, []byte{1}, []byte{128}, 2},
		{"129 as 127", 1, []byte{2}, []byte{129}, 0},
		{"129 below 128", 1, []byte{1}, []byte{129}, 0},
		{"127 below 128", 1, []byte{255}, []byte{127}, 3},
		{"255 as 1", 1, []byte{254}, []byte{255}, 0},
	} {
		if got := impl.BestKind(c.step, c.above, c.row); got != c.kind {
			t.Errorf("%s: %d, not %d", c.what, got, c.kind)
		}
	}
}

func TestBestKindOfEachByteBelowEach(t *testing.T) {
	for above := range 256 {
		for x := range 256 {
			up, row := []byte{byte(above)}, []byte{byte(x)}
			if got, want := impl.BestKind(1, up, row), slowBest(1, up, row); got != want {
				t.Fatalf("%d below %d: %d, not %d", x, above, got, want)
			}
		}
	}
}

func TestFiltersReadNoFurtherAndAreNewMemory(t *testing.T) {
	row, above := []byte{1, 200, 3, 44, 5, 66}, []byte{6, 50, 4, 33, 2, 11}
	wasRow, wasAbove := slices.Clone(row), slices.Clone(above)
	for kind := range filterKinds {
		checkFilter(t, kind, 2, above[:3], row[:3])
		checkFilter(t, kind, 2, above[:0], row[:3])
		clear(impl.FilterRow(kind, 2, above, row))
		clear(impl.UnfilterRow(kind, 2, above, row))
		clear(impl.FilterRow(kind, 2, nil, row))
		clear(impl.UnfilterRow(kind, 2, nil, row))
		checkFilter(t, kind, 2, above, row)
		checkNoFilter(t, kind, 2, above[:3], row[:4])
	}
	if !bytes.Equal(row, wasRow) || !bytes.Equal(above, wasAbove) {
		t.Errorf("an answer shares memory with an argument: %v %v", row, above)
	}
}
