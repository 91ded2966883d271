package tests

import (
	"bytes"
	"math"
	"math/rand/v2"
	"slices"
	"strings"
	"testing"

	"loop.example/g00016/impl"
)

// packedRow says each bit by itself.
func packedRow(samples []int, depth int) []byte {
	var text strings.Builder
	for _, sample := range samples {
		for i := depth - 1; i >= 0; i-- {
			text.WriteByte(byte('0' + sample>>i&1))
		}
	}
	return textBytes(text.String())
}

func checkRow(t *testing.T, samples []int, depth int) {
	t.Helper()
	was := slices.Clone(samples)
	data := impl.PackRow(samples, depth)
	if !bytes.Equal(data, packedRow(samples, depth)) {
		t.Fatalf("depth %d, %d samples packed: %x", depth, len(samples), data)
	}
	kept := slices.Clone(data)
	if got := impl.UnpackRow(data, len(samples), depth); !slices.Equal(got, was) {
		t.Fatalf("depth %d, %d samples unpacked: %v", depth, len(samples), got)
	}
	if !slices.Equal(samples, was) || !bytes.Equal(data, kept) {
		t.Fatalf("depth %d: an argument was written", depth)
	}
}

func TestRowsByHand(t *testing.T) {
	for _, c := range []struct {
		depth   int
		samples []int
		data    []byte
	}{
		{1, []int{1}, []byte{0x80}},
		{1, []int{1, 0, 1, 1, 0, 0, 0, 1}, []byte{0xB1}},
		{1, []int{1, 0, 1, 1, 0, 0, 0, 1, 1}, []byte{0xB1, 0x80}},
		{2, []int{3}, []byte{0xC0}},
		{2, []int{1, 2, 3, 0}, []byte{0x6C}},
		{2, []int{1, 2, 3, 0, 2}, []byte{0x6C, 0x80}},
		{4, []int{9}, []byte{0x90}},
		{4, []int{1, 15, 8}, []byte{0x1F, 0x80}},
		{8, []int{0, 255, 128, 1}, []byte{0, 255, 128, 1}},
		{16, []int{258, 65535, 0, 40000}, []byte{1, 2, 255, 255, 0, 0, 156, 64}},
	} {
		if got := impl.PackRow(c.samples, c.depth); !bytes.Equal(got, c.data) {
			t.Errorf("PackRow(%v, %d) = %x, not %x", c.samples, c.depth, got, c.data)
		}
		if got := impl.UnpackRow(c.data, len(c.samples), c.depth); !slices.Equal(got, c.samples) {
			t.Errorf("UnpackRow(%x, %d, %d) = %v", c.data, len(c.samples), c.depth, got)
		}
	}
}

func TestRowsThatArePackedAreUnpacked(t *testing.T) {
	r := rand.New(rand.NewPCG(4, 3))
	for _, depth := range depths {
		for many := range 70 {
			checkRow(t, someSamples(r, many, depth), depth)
			checkRow(t, alike(greatest(depth), many), depth)
			checkRow(t, alike(0, many), depth)
		}
	}
}

func TestRowsOfEachSample(t *testing.T) {
	for _, depth := range depths {
		for sample := range greatest(depth) + 1 {
			data := impl.PackRow([]int{sample}, depth)
			if got := impl.UnpackRow(data, 1, depth); len(got) != 1 || got[0] != sample {
				t.Fatalf("depth %d: %d is %x, and back %v", depth, sample, data, got)
			}
		}
	}
}

func TestRowsOfNoSamples(t *testing.T) {
	for _, depth := range depths {
		if got := impl.PackRow(nil, depth); len(got) > 0 {
			t.Errorf("depth %d: no samples packed: %x", depth, got)
		}
		for _, data := range [][]byte{nil, {}, {255}} {
			if got := impl.UnpackRow(data, 0, depth); len(got) > 0 {
				t.Errorf("depth %d: no samples of %x: %v", depth, data, got)
			}
		}
	}
}

func TestRowsAsLongAsMayBe(t *testing.T) {
	r := rand.New(rand.NewPCG(4, 4))
	for _, depth := range depths {
		samples := someSamples(r, impl.MaxRow+1, depth)
		checkRow(t, samples[:impl.MaxRow], depth)
		checkRow(t, samples[:impl.MaxRow-1], depth)
		if got := impl.PackRow(samples, depth); len(got) > 0 {
			t.Errorf("depth %d: one sample too many packed: %d bytes", depth, len(got))
		}
		data := packedRow(samples, depth)
		if got := impl.UnpackRow(data, impl.MaxRow, depth); !slices.Equal(got, samples[:impl.MaxRow]) {
			t.Errorf("depth %d: just as many as may be: %d", depth, len(got))
		}
		for _, many := range []int{impl.MaxRow + 1, -1, -8, math.MinInt, math.MaxInt, 1 << 60, 1 << 62} {
			if got := impl.UnpackRow(data, many, depth); len(got) > 0 {
				t.Errorf("depth %d: %d samples unpacked: %d", depth, many, len(got))
			}
		}
	}
}

func TestRowsOfSamplesOutOfTheirRange(t *testing.T) {
	r := rand.New(rand.NewPCG(4, 5))
	for _, depth := range depths {
		for _, bad := range []int{-1, greatest(depth) + 1, 1 << 16, math.MinInt, math.MaxInt} {
			for i := range 9 {
				samples := someSamples(r, 9, depth)
				samples[i] = bad
				if got := impl.PackRow(samples, depth); len(got) > 0 {
					t.Errorf("depth %d: %v packed: %x", depth, samples, got)
				}
				checkRow(t, samples[:i], depth)
			}
		}
	}
}

func TestRowsOfDepthsThatAreNone(t *testing.T) {
	for _, depth := range noDepths {
		for _, samples := range [][]int{nil, {0}, {1}, {0, 0, 0}} {
			if got := impl.PackRow(samples, depth); len(got) > 0 {
				t.Errorf("depth %d: %v packed: %x", depth, samples, got)
			}
		}
		for many := range 3 {
			if got := impl.UnpackRow(make([]byte, 100), many, depth); len(got) > 0 {
				t.Errorf("depth %d: unpacked: %v", depth, got)
			}
		}
	}
}

func TestRowsOfBytesThatAreTooFewOrMore(t *testing.T) {
	r := rand.New(rand.NewPCG(4, 6))
	for _, depth := range depths {
		for many := 1; many < 40; many++ {
			samples := someSamples(r, many, depth)
			data := packedRow(samples, depth)
			short := len(data) - 1
			if got := impl.UnpackRow(data[:short], many, depth); len(got) > 0 {
				t.Fatalf("depth %d: %d samples of %d bytes: %v", depth, many, short, got)
			}
			if got := impl.UnpackRow(nil, many, depth); len(got) > 0 {
				t.Fatalf("depth %d: %d samples of no bytes: %v", depth, many, got)
			}
			for more := range 4 {
				longer := append(slices.Clone(data), someBytes(r, more)...)
				if got := impl.UnpackRow(longer, many, depth); !slices.Equal(got, samples) {
					t.Fatalf("depth %d: %d samples of %d bytes more: %v", depth, many, more, got)
				}
			}
		}
	}
}

func TestRowsWhoseLastByteIsNotFull(t *testing.T) {
	r := rand.New(rand.NewPCG(4, 7))
	for _, depth := range []int{1, 2, 4} {
		for many := 1; many < 40; many++ {
			left := (8 - many*depth%8) % 8
			samples := alike(greatest(depth), many)
			data := impl.PackRow(samples, depth)
			last := len(data) - 1
			if data[last]&byte(greatest(left)) != 0 {
				t.Fatalf("depth %d, %d samples: bits left over in %x", depth, many, data)
			}
			data[last] |= byte(r.IntN(1 << left))
			if got := impl.UnpackRow(data, many, depth); !slices.Equal(got, samples) {
				t.Fatalf("depth %d, %d samples of %x: %v", depth, many, data, got)
			}
		}
	}
}

func TestRowsReadNoFurtherAndAreNewMemory(t *testing.T) {
	for _, depth := range depths {
		samples := alike(1, 9)
		checkRow(t, samples[:5], depth)
		clear(impl.PackRow(samples, depth))
		checkRow(t, samples, depth)
		data := packedRow(samples, depth)
		if got := impl.UnpackRow(data[:1], 9, depth); len(got) > 0 {
			t.Errorf("depth %d: bytes behind the length were read: %v", depth, got)
		}
		clear(impl.UnpackRow(data, 9, depth))
		if got := impl.UnpackRow(data, 9, depth); !slices.Equal(got, samples) {
			t.Errorf("depth %d: two answers share memory: %v", depth, got)
		}
	}
}
