package tests

import (
	"bytes"
	"encoding/binary"
	"math"
	"math/rand/v2"
	"slices"
	"testing"

	"loop.example/g00016/impl"
)

// someNumbers has both sides of each power of two, and others of all widths.
func someNumbers() []uint64 {
	r := rand.New(rand.NewPCG(1, 4))
	list := []uint64{0, math.MaxUint64}
	for k := range 64 {
		one := uint64(1) << k
		list = append(list, one-1, one, one+1)
		for range 40 {
			list = append(list, r.Uint64()>>k)
		}
	}
	return list
}

// oneNumber says what GetNumber shall answer: the library's reader, but for needless groups.
func oneNumber(data []byte, at int) impl.Number {
	n, used := binary.Uvarint(data[at:])
	if used <= 0 || used != len(binary.AppendUvarint(nil, n)) {
		return impl.Number{}
	}
	return impl.Number{Ok: true, Value: n, Next: at + used}
}

func TestNumbersByHand(t *testing.T) {
	for _, c := range []struct {
		n    uint64
		data []byte
	}{
		{0, []byte{0}},
		{1, []byte{1}},
		{127, []byte{127}},
		{128, []byte{128, 1}},
		{16383, []byte{255, 127}},
		{16384, []byte{128, 128, 1}},
		{1<<63 - 1, []byte{255, 255, 255, 255, 255, 255, 255, 255, 127}},
		{1 << 63, []byte{128, 128, 128, 128, 128, 128, 128, 128, 128, 1}},
		{math.MaxUint64, []byte{255, 255, 255, 255, 255, 255, 255, 255, 255, 1}},
	} {
		if data := impl.PutNumber(c.n); !bytes.Equal(data, c.data) {
			t.Errorf("PutNumber(%d) = %v, not %v", c.n, data, c.data)
		}
		want := impl.Number{Ok: true, Value: c.n, Next: len(c.data)}
		if n := impl.GetNumber(c.data, 0); n != want {
			t.Errorf("GetNumber(%v) = %v, not %v", c.data, n, want)
		}
	}
}

func TestNumbersArePutAndGot(t *testing.T) {
	var all []byte
	for _, n := range someNumbers() {
		data := impl.PutNumber(n)
		if !bytes.Equal(data, binary.AppendUvarint(nil, n)) {
			t.Fatalf("PutNumber(%d) = %v", n, data)
		}
		at := len(all)
		all = append(all, data...)
		want := impl.Number{Ok: true, Value: n, Next: len(all)}
		for _, behind := range [][]byte{nil, {0}, {128}, {255, 255}} {
			if m := impl.GetNumber(append(all, behind...), at); m != want {
				t.Fatalf("%d was put at %d, and got is %v", n, at, m)
			}
		}
	}
}

func TestNumbersThatEndEarly(t *testing.T) {
	for _, n := range someNumbers() {
		data := impl.PutNumber(n)
		for end := range data {
			if m := impl.GetNumber(data[:end], 0); m != (impl.Number{}) {
				t.Fatalf("GetNumber of %d of %d bytes of %d: %v", end, len(data), n, m)
			}
		}
	}
}

func TestNumbersThatNoneAre(t *testing.T) {
	nines := bytes.Repeat([]byte{255}, 9)
	zeros := bytes.Repeat([]byte{128}, 9)
	for _, data := range [][]byte{
		nil,
		{128},
		{128, 0},
		{255, 0},
		{129, 128, 0},
		{128, 128, 128},
		append(slices.Clone(zeros), 0),
		append(slices.Clone(nines), 0),
		append(slices.Clone(nines), 2),
		append(slices.Clone(nines), 3),
		append(slices.Clone(zeros), 2),
		append(slices.Clone(zeros), 127),
		append(slices.Clone(nines), 128),
		append(slices.Clone(nines), 129, 0),
		append(slices.Clone(nines), 129, 1),
		append(slices.Clone(zeros), 128, 1),
		append(slices.Clone(nines), 255, 255, 1),
		bytes.Repeat([]byte{128}, 100),
	} {
		if n := impl.GetNumber(data, 0); n != (impl.Number{}) {
			t.Errorf("GetNumber(%v) = %v", data, n)
		}
	}
}

func TestNumbersOutsideTheData(t *testing.T) {
	data := []byte{1, 2, 3}
	for _, at := range []int{-1, -3, math.MinInt, 3, 4, math.MaxInt - 1, math.MaxInt} {
		if n := impl.GetNumber(data, at); n != (impl.Number{}) {
			t.Errorf("GetNumber at %d: %v", at, n)
		}
		if n := impl.GetNumber(nil, at); n != (impl.Number{}) {
			t.Errorf("GetNumber of nothing at %d: %v", at, n)
		}
	}
	for at := range data {
		want := impl.Number{Ok: true, Value: uint64(at + 1), Next: at + 1}
		if n := impl.GetNumber(data, at); n != want {
			t.Errorf("GetNumber at %d: %v", at, n)
		}
	}
}

func TestNumbersOfAllShortStrings(t *testing.T) {
	for i := range 1 << 16 {
		data := []byte{byte(i >> 8), byte(i)}
		for at := range 3 {
			if n := impl.GetNumber(data, at); n != oneNumber(data, at) {
				t.Fatalf("GetNumber(%v, %d) = %v", data, at, n)
			}
		}
	}
}

func TestNumbersOfLongStrings(t *testing.T) {
	r := rand.New(rand.NewPCG(1, 5))
	for range 200000 {
		data := someBytes(r, r.IntN(14))
		for i := range data {
			if r.IntN(8) > 0 {
				data[i] |= 128
			} else {
				data[i] &= 3
			}
		}
		at := r.IntN(len(data) + 1)
		if n := impl.GetNumber(data, at); n != oneNumber(data, at) {
			t.Fatalf("GetNumber(%v, %d) = %v", data, at, n)
		}
	}
}

func TestNumbersAreLeftAsTheyWere(t *testing.T) {
	data := []byte{200, 1, 7}
	if n := impl.GetNumber(data[:1], 0); n != (impl.Number{}) {
		t.Errorf("a byte behind the length was read: %v", n)
	}
	impl.GetNumber(data, 0)
	if !bytes.Equal(data, []byte{200, 1, 7}) {
		t.Errorf("the data were written: %v", data)
	}
	first, second := impl.PutNumber(300), impl.PutNumber(300)
	clear(second)
	if !bytes.Equal(first, []byte{172, 2}) {
		t.Errorf("two answers share memory: %v", first)
	}
}

func TestFoldByHand(t *testing.T) {
	for _, c := range []struct {
		n      int64
		folded uint64
	}{
		{0, 0},
		{-1, 1},
		{1, 2},
		{-2, 3},
		{2, 4},
		{-3, 5},
		{1 << 32, 1 << 33},
		{-1 << 32, 1<<33 - 1},
		{math.MaxInt64, math.MaxUint64 - 1},
		{math.MinInt64, math.MaxUint64},
		{math.MaxInt64 - 1, math.MaxUint64 - 3},
		{math.MinInt64 + 1, math.MaxUint64 - 2},
	} {
		if f := impl.Fold(c.n); f != c.folded {
			t.Errorf("Fold(%d) = %d, not %d", c.n, f, c.folded)
		}
		if n := impl.Unfold(c.folded); n != c.n {
			t.Errorf("Unfold(%d) = %d, not %d", c.folded, n, c.n)
		}
	}
}

func TestFoldAndUnfoldAreInverse(t *testing.T) {
	list := someNumbers()
	for n := range uint64(70000) {
		list = append(list, n, math.MaxUint64-n, 1<<63+n, 1<<63-n)
	}
	for _, n := range list {
		if f := impl.Fold(impl.Unfold(n)); f != n {
			t.Fatalf("Fold of Unfold of %d is %d", n, f)
		}
		if u := impl.Unfold(impl.Fold(int64(n))); u != int64(n) {
			t.Fatalf("Unfold of Fold of %d is %d", int64(n), u)
		}
	}
}

func TestFoldGoesOneByOne(t *testing.T) {
	for n := range int64(70000) {
		if f := impl.Fold(n); f != uint64(2*n) {
			t.Fatalf("Fold(%d) = %d", n, f)
		}
		if f := impl.Fold(-n - 1); f != uint64(2*n+1) {
			t.Fatalf("Fold(%d) = %d", -n-1, f)
		}
	}
}
