package tests

import (
	"bytes"
	"math"
	"math/rand/v2"
	"slices"
	"testing"

	"loop.example/g00016/impl"
)

// order is one of the two ways in which bits are counted, with its functions.
type order struct {
	name string
	high bool
	pack func([]impl.Field) []byte
	take func([]byte, int, int) impl.Number
}

var orders = []order{
	{"low", false, impl.PackLow, impl.TakeLow},
	{"high", true, impl.PackHigh, impl.TakeHigh},
}

// place is where bit i of a string of bytes lies within its byte.
func (o order) place(i int) int {
	if o.high {
		return 7 - i%8
	}
	return i % 8
}

// packed says each bit by itself, as the document words it.
func (o order) packed(fields []impl.Field) []byte {
	var bits []uint64
	for _, f := range fields {
		for i := range f.Bits {
			if o.high {
				i = f.Bits - 1 - i
			}
			bits = append(bits, f.Value>>i&1)
		}
	}
	data := make([]byte, (len(bits)+7)/8)
	for i, b := range bits {
		data[i/8] |= byte(b << o.place(i))
	}
	return data
}

func (o order) taken(data []byte, at int, bits int) impl.Number {
	n := impl.Number{Ok: true, Next: at + bits}
	for i := range bits {
		b := uint64(data[(at+i)/8]>>o.place(at+i)) & 1
		if o.high {
			n.Value = n.Value<<1 | b
		} else {
			n.Value |= b << i
		}
	}
	return n
}

func lowest(f impl.Field) uint64 {
	return f.Value & (1<<f.Bits - 1)
}

func someFields(r *rand.Rand, many int) []impl.Field {
	fields := make([]impl.Field, many)
	for i := range fields {
		fields[i] = impl.Field{Bits: r.IntN(65), Value: r.Uint64()}
	}
	return fields
}

func someBytes(r *rand.Rand, many int) []byte {
	data := make([]byte, many)
	for i := range data {
		data[i] = byte(r.Uint32())
	}
	return data
}

func TestFieldsByHand(t *testing.T) {
	for _, c := range []struct {
		fields    []impl.Field
		low, high []byte
	}{
		{nil, nil, nil},
		{[]impl.Field{{Bits: 0, Value: math.MaxUint64}}, nil, nil},
		{[]impl.Field{{Bits: 1, Value: 1}}, []byte{1}, []byte{128}},
		{[]impl.Field{{Bits: 8, Value: 0x1A5}}, []byte{0xA5}, []byte{0xA5}},
		{[]impl.Field{{Bits: 4, Value: 0xF1}, {Bits: 4, Value: 0xF2}}, []byte{0x21}, []byte{0x12}},
		{[]impl.Field{{Bits: 16, Value: 0x1234}}, []byte{0x34, 0x12}, []byte{0x12, 0x34}},
		{[]impl.Field{{Bits: 9, Value: math.MaxUint64}}, []byte{255, 1}, []byte{255, 128}},
		{
			[]impl.Field{{Bits: 4, Value: 5}, {Bits: 64, Value: 0x0123456789ABCDEF}},
			[]byte{0xF5, 0xDE, 0xBC, 0x9A, 0x78, 0x56, 0x34, 0x12, 0x00},
			[]byte{0x50, 0x12, 0x34, 0x56, 0x78, 0x9A, 0xBC, 0xDE, 0xF0},
		},
	} {
		if got := impl.PackLow(c.fields); !bytes.Equal(got, c.low) {
			t.Errorf("PackLow(%v) = %v, not %v", c.fields, got, c.low)
		}
		if got := impl.PackHigh(c.fields); !bytes.Equal(got, c.high) {
			t.Errorf("PackHigh(%v) = %v, not %v", c.fields, got, c.high)
		}
	}
}

func TestFieldsArePackedBitByBit(t *testing.T) {
	for _, o := range orders {
		r := rand.New(rand.NewPCG(1, 1))
		for many := range 60 {
			fields := someFields(r, many)
			if got, want := o.pack(fields), o.packed(fields); !bytes.Equal(got, want) {
				t.Fatalf("%s: %v packed is %v, not %v", o.name, fields, got, want)
			}
		}
	}
}

func TestFieldsAreTakenAgain(t *testing.T) {
	for _, o := range orders {
		r := rand.New(rand.NewPCG(1, 2))
		for many := range 60 {
			fields := someFields(r, many)
			data, at := o.pack(fields), 0
			for _, f := range fields {
				want := impl.Number{Ok: true, Value: lowest(f), Next: at + f.Bits}
				if got := o.take(data, at, f.Bits); got != want {
					t.Fatalf("%s: field %v at %d taken is %v", o.name, f, at, got)
				}
				at += f.Bits
			}
		}
	}
}

func TestFieldsOfEachWidthBehindEach(t *testing.T) {
	for _, o := range orders {
		for ahead := range 65 {
			for bits := range 65 {
				fields := []impl.Field{{Bits: ahead, Value: 0x5555555555555555}, {Bits: bits, Value: math.MaxUint64}, {Bits: 3, Value: 2}}
				data := o.pack(fields)
				if !bytes.Equal(data, o.packed(fields)) {
					t.Fatalf("%s: %d bits behind %d: %v", o.name, bits, ahead, data)
				}
				if n := o.take(data, ahead, bits); n != (impl.Number{Ok: true, Value: lowest(fields[1]), Next: ahead + bits}) {
					t.Fatalf("%s: %d bits behind %d taken: %v", o.name, bits, ahead, n)
				}
			}
		}
	}
}

func TestFieldsOfWidthsThatAreNone(t *testing.T) {
	good := impl.Field{Bits: 8, Value: 1}
	for _, o := range orders {
		for _, bits := range []int{-1, -8, -64, 65, 72, math.MinInt, math.MaxInt} {
			bad := impl.Field{Bits: bits, Value: 1}
			for _, fields := range [][]impl.Field{{bad}, {bad, good}, {good, bad}, {good, bad, good}} {
				if data := o.pack(fields); len(data) > 0 {
					t.Errorf("%s: a width of %d packed: %v", o.name, bits, data)
				}
			}
			for _, at := range []int{0, 1, 8, math.MaxInt} {
				if n := o.take(make([]byte, 100), at, bits); n != (impl.Number{}) {
					t.Errorf("%s: %d bits taken at %d: %v", o.name, bits, at, n)
				}
			}
		}
	}
}

func TestFieldsAsManyAsMayBe(t *testing.T) {
	if impl.MaxFields != 20000 {
		t.Errorf("MaxFields is %d", impl.MaxFields)
	}
	for _, o := range orders {
		fields := make([]impl.Field, impl.MaxFields+1)
		for i := range fields {
			fields[i] = impl.Field{Bits: 64, Value: uint64(i)}
		}
		if data := o.pack(fields[:impl.MaxFields]); !bytes.Equal(data, o.packed(fields[:impl.MaxFields])) {
			t.Errorf("%s: just as many as may be: %d bytes", o.name, len(data))
		}
		if data := o.pack(fields); len(data) > 0 {
			t.Errorf("%s: one too many: %d bytes", o.name, len(data))
		}
		for i := range fields {
			fields[i].Bits = 1
		}
		if data := o.pack(fields[:impl.MaxFields]); len(data) != impl.MaxFields/8 {
			t.Errorf("%s: as many of one bit: %d bytes", o.name, len(data))
		}
	}
}

func TestTakeAnywhere(t *testing.T) {
	data := someBytes(rand.New(rand.NewPCG(1, 3)), 17)
	for _, o := range orders {
		for at := range 8*len(data) + 1 {
			for bits := range 65 {
				var want impl.Number
				if at+bits <= 8*len(data) {
					want = o.taken(data, at, bits)
				}
				if got := o.take(data, at, bits); got != want {
					t.Fatalf("%s: %d bits at %d: %v, not %v", o.name, bits, at, got, want)
				}
			}
		}
	}
}

func TestTakeAtTheEnds(t *testing.T) {
	ten := []byte{255, 0, 255, 0, 255, 0, 255, 0, 255, 1}
	for _, c := range []struct {
		data      []byte
		at, bits  int
		low, high impl.Number
	}{
		{ten, 79, 1, impl.Number{Ok: true, Next: 80}, impl.Number{Ok: true, Value: 1, Next: 80}},
		{ten, 79, 2, impl.Number{}, impl.Number{}},
		{ten, 80, 1, impl.Number{}, impl.Number{}},
		{ten, 80, 0, impl.Number{Ok: true, Next: 80}, impl.Number{Ok: true, Next: 80}},
		{ten, 81, 0, impl.Number{}, impl.Number{}},
		{ten, 13, 0, impl.Number{Ok: true, Next: 13}, impl.Number{Ok: true, Next: 13}},
		{ten, 16, 64, impl.Number{Ok: true, Value: 0x01FF00FF00FF00FF, Next: 80}, impl.Number{Ok: true, Value: 0xFF00FF00FF00FF01, Next: 80}},
		{ten, 12, 64, impl.Number{Ok: true, Value: 0x1FF00FF00FF00FF0, Next: 76}, impl.Number{Ok: true, Value: 0x0FF00FF00FF00FF0, Next: 76}},
		{ten, 17, 64, impl.Number{}, impl.Number{}},
		{ten, -1, 0, impl.Number{}, impl.Number{}},
		{ten, -1, 1, impl.Number{}, impl.Number{}},
		{ten, -1, 64, impl.Number{}, impl.Number{}},
		{ten, -8, 8, impl.Number{}, impl.Number{}},
		{ten, math.MinInt, 0, impl.Number{}, impl.Number{}},
		{ten, math.MinInt, 64, impl.Number{}, impl.Number{}},
		{ten, math.MaxInt, 0, impl.Number{}, impl.Number{}},
		{ten, math.MaxInt, 1, impl.Number{}, impl.Number{}},
		{ten, math.MaxInt, 64, impl.Number{}, impl.Number{}},
		{nil, 0, 0, impl.Number{Ok: true}, impl.Number{Ok: true}},
		{nil, 0, 1, impl.Number{}, impl.Number{}},
		{nil, 1, 0, impl.Number{}, impl.Number{}},
	} {
		if got := impl.TakeLow(c.data, c.at, c.bits); got != c.low {
			t.Errorf("TakeLow of %d bits at %d: %v, not %v", c.bits, c.at, got, c.low)
		}
		if got := impl.TakeHigh(c.data, c.at, c.bits); got != c.high {
			t.Errorf("TakeHigh of %d bits at %d: %v, not %v", c.bits, c.at, got, c.high)
		}
	}
}

func TestFieldsAreLeftAsTheyWere(t *testing.T) {
	fields := []impl.Field{{Bits: 5, Value: math.MaxUint64}, {Bits: 64, Value: 7}, {Bits: 99, Value: 1}}
	data := []byte{1, 2, 3, 4}
	wasFields, wasData := slices.Clone(fields), slices.Clone(data)
	for _, o := range orders {
		first := o.pack(fields[:2])
		if len(first) != 9 {
			t.Fatalf("%s: what lies behind the length counted: %v", o.name, first)
		}
		kept := slices.Clone(first)
		second := o.pack(fields[:2])
		clear(second)
		if !bytes.Equal(first, kept) {
			t.Errorf("%s: two answers share memory", o.name)
		}
		if n := o.take(data[:2], 8, 9); n != (impl.Number{}) {
			t.Errorf("%s: bits behind the length were taken: %v", o.name, n)
		}
		o.take(data, 3, 20)
	}
	if !slices.Equal(fields, wasFields) || !bytes.Equal(data, wasData) {
		t.Errorf("an argument was written: %v %v", fields, data)
	}
}
