package tests

import (
	"bytes"
	"compress/zlib"
	"hash/adler32"
	"io"
	"math/rand/v2"
	"slices"
	"testing"

	"loop.example/g00016/impl"
)

// wrapped has the head, what is packed, and the sum of plain.
func wrapped(packed []byte, plain []byte) []byte {
	sum := adler32.Checksum(plain)
	return slices.Concat([]byte{0x78, 0x01}, packed, []byte{byte(sum >> 24), byte(sum >> 16), byte(sum >> 8), byte(sum)})
}

func checkUnwrap(t *testing.T, what string, data []byte, most int, want impl.Plain) {
	t.Helper()
	was := slices.Clone(data)
	checkPlain(t, what, impl.Unwrap(data, most), want)
	if !bytes.Equal(data, was) {
		t.Fatalf("%s: Unwrap wrote its argument", what)
	}
}

func checkWrap(t *testing.T, plain []byte) {
	t.Helper()
	for kind := range 3 {
		was := slices.Clone(plain)
		data := impl.Wrap(plain, kind)
		if !bytes.Equal(plain, was) {
			t.Fatalf("Wrap wrote its argument: %.100x", plain)
		}
		if want := wrapped(impl.Pack(plain, kind), plain); !bytes.Equal(data, want) {
			t.Fatalf("Wrap(%.100x, %d) = %.100x, not %.100x", plain, kind, data, want)
		}
		r, err := zlib.NewReader(bytes.NewReader(data))
		if err != nil {
			t.Fatalf("the library: %v", err)
		}
		if got, err := io.ReadAll(r); err != nil || !bytes.Equal(got, plain) {
			t.Fatalf("the library: %v, %.100x", err, got)
		}
		want := impl.Plain{Data: plain, Used: len(data)}
		checkUnwrap(t, "wrapped", data, len(plain), want)
		checkUnwrap(t, "wrapped, and bytes behind", append(data, 1, 2, 3), impl.MaxPacked, want)
		if len(plain) > 0 {
			checkUnwrap(t, "fewer asked", data, len(plain)-1, impl.Plain{Err: impl.ErrMany})
		}
	}
}

func TestWrapByHand(t *testing.T) {
	for _, c := range []struct {
		plain string
		kind  int
		want  []byte
	}{
		{"", impl.PackFixed, []byte{0x78, 0x01, 3, 0, 0, 0, 0, 1}},
		{"", impl.PackStored, []byte{0x78, 0x01, 1, 0, 0, 0xFF, 0xFF, 0, 0, 0, 1}},
		{"a", impl.PackFixed, []byte{0x78, 0x01, 0x4B, 0x04, 0, 0, 98, 0, 98}},
	} {
		if got := impl.Wrap([]byte(c.plain), c.kind); !bytes.Equal(got, c.want) {
			t.Errorf("Wrap(%q, %d) = %x, not %x", c.plain, c.kind, got, c.want)
		}
	}
}

func TestWrapIsUnwrapped(t *testing.T) {
	checkWrap(t, nil)
	r := rand.New(rand.NewPCG(3, 18))
	for _, many := range []int{1, 2, 3, 30, 500, impl.MaxPlain} {
		for _, plain := range kindsOfData(r, many) {
			checkWrap(t, plain)
		}
	}
	for kind := -1; kind <= 3; kind++ {
		if data := impl.Wrap(make([]byte, impl.MaxPlain+1), kind); len(data) > 0 {
			t.Errorf("Wrap of a byte too many by %d: %d bytes", kind, len(data))
		}
	}
}

func TestUnwrapOfOtherFirstBytes(t *testing.T) {
	for _, c := range []struct {
		data []byte
		err  int
	}{
		{nil, impl.ErrShort},
		{[]byte{0x78}, impl.ErrShort},
		{[]byte{0x79}, impl.ErrShort},
		{[]byte{0}, impl.ErrShort},
		{[]byte{0x78, 0x01}, impl.ErrShort},
		{[]byte{0x78, 0x01, 3}, impl.ErrShort},
		{[]byte{0x78, 0x01, 7}, impl.ErrCode},
		{[]byte{0x78, 0x9C}, impl.ErrCode},
		{[]byte{0x01, 0x78}, impl.ErrCode},
		{[]byte{0x78, 0x00}, impl.ErrCode},
		{[]byte{0x79, 0x01, 3, 0, 0, 0, 0, 1}, impl.ErrCode},
		{[]byte{0x78, 0x02, 3, 0, 0, 0, 0, 1}, impl.ErrCode},
		{[]byte{0x78, 0x9C, 3, 0, 0, 0, 0, 1}, impl.ErrCode},
	} {
		checkUnwrap(t, "first bytes", c.data, 9, impl.Plain{Err: c.err})
	}
}

func TestUnwrapHasTheErrorsOfUnpack(t *testing.T) {
	r := rand.New(rand.NewPCG(3, 19))
	for range 3000 {
		packed := hurt(r, impl.Pack([]byte("errors, errors"), r.IntN(3)))
		most := r.IntN(20)
		plain := slowUnpack(packed, most)
		if plain.Err == 0 {
			continue
		}
		checkUnwrap(t, "an error", wrapped(packed, nil)[:2+len(packed)], most, impl.Plain{Err: plain.Err})
	}
	// A sum that is another too does not count.
	checkUnwrap(t, "an error ahead of the sum", []byte{0x78, 0x01, 7, 0, 9, 9, 9, 9}, 9, impl.Plain{Err: impl.ErrCode})
	checkUnwrap(t, "too much ahead of the sum", []byte{0x78, 0x01, 0x4B, 0x04, 0, 9, 9, 9, 9}, 0, impl.Plain{Err: impl.ErrMany})
}

func TestUnwrapOfSums(t *testing.T) {
	plain := []byte("a sum of four bytes, the highest first")
	for kind := range 3 {
		data := impl.Wrap(plain, kind)
		for end := range data {
			checkUnwrap(t, "cut", data[:end], 99, impl.Plain{Err: impl.ErrShort})
		}
		for bit := range 32 {
			other := slices.Clone(data)
			other[len(data)-4+bit/8] ^= 1 << (bit % 8)
			checkUnwrap(t, "a bit of the sum", other, 99, impl.Plain{Err: impl.ErrSum})
			checkUnwrap(t, "a bit of the sum, and bytes behind", append(other, 1), 99, impl.Plain{Err: impl.ErrSum})
			// A byte that lacks is told ahead of one that is another.
			checkUnwrap(t, "a bit of the sum, cut", other[:len(other)-1], 99, impl.Plain{Err: impl.ErrShort})
		}
	}
	// Another byte of what is stored.
	data := impl.Wrap(plain, impl.PackStored)
	data[10] ^= 4
	checkUnwrap(t, "a bit of what is stored", data, 99, impl.Plain{Err: impl.ErrSum})
}

func TestUnwrapAtItsLimits(t *testing.T) {
	plain := make([]byte, impl.MaxPacked)
	long := wrapped(lowBytes(manyText(impl.MaxPacked)), plain)
	checkUnwrap(t, "as much as may be", long, impl.MaxPacked, impl.Plain{Data: plain, Used: len(long)})
	checkUnwrap(t, "one fewer asked", long, impl.MaxPacked-1, impl.Plain{Err: impl.ErrMany})
	// Those many bytes are all of them, with the head and the sum.
	most := impl.MaxPacked - 2 - 5 - 4
	full := wrapped(lowBytes(storedText(0, true, string(plain[:most]))), plain[:most])
	if len(full) != impl.MaxPacked {
		t.Fatalf("%d bytes", len(full))
	}
	checkUnwrap(t, "as many bytes as may be", full, impl.MaxPacked, impl.Plain{Data: plain[:most], Used: impl.MaxPacked})
	checkUnwrap(t, "a byte too many", append(full, 0), impl.MaxPacked, impl.Plain{Err: impl.ErrForm})
	checkUnwrap(t, "a byte too many, and others first", make([]byte, impl.MaxPacked+1), 9, impl.Plain{Err: impl.ErrForm})
	checkUnwrap(t, "less than nothing asked, and nothing there", nil, -1, impl.Plain{Err: impl.ErrForm})
}

func TestUnwrapReadsNoFurtherAndIsNewMemory(t *testing.T) {
	data := impl.Wrap([]byte("stored"), impl.PackStored)
	whole := impl.Plain{Data: []byte("stored"), Used: len(data)}
	clear(impl.Unwrap(data, 6).Data)
	clear(impl.Wrap([]byte("stored"), impl.PackStored))
	plain := impl.Unwrap(data, 6)
	checkUnwrap(t, "no further", data[:len(data)-1], 6, impl.Plain{Err: impl.ErrShort})
	clear(data)
	checkPlain(t, "the data cleared", plain, whole)
}
