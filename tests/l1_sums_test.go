package tests

import (
	"bytes"
	"hash/adler32"
	"hash/crc32"
	"math/rand/v2"
	"slices"
	"testing"

	"loop.example/g00016/impl"
)

// sumStrings has strings of many lengths, of all byte values, and of one value alone.
func sumStrings() [][]byte {
	r := rand.New(rand.NewPCG(1, 6))
	list := [][]byte{nil, []byte("123456789"), []byte("a"), make([]byte, 1000)}
	for i := range 256 {
		list = append(list, []byte{byte(i)}, bytes.Repeat([]byte{byte(i)}, 300))
	}
	for n := range 200 {
		list = append(list, someBytes(r, n))
	}
	return append(list, someBytes(r, 70000), bytes.Repeat([]byte{255}, 70000))
}

func TestSumsByHand(t *testing.T) {
	for _, c := range []struct {
		data       string
		crc, adler uint32
	}{
		{"", 0, 1},
		{"\x00", 0xD202EF8D, 0x00010001},
		{"a", 0xE8B7BE43, 0x00620062},
		{"123456789", 0xCBF43926, 0x091E01DE},
		{"Wikipedia", 0xADAAC02E, 0x11E60398},
	} {
		if got := impl.Crc([]byte(c.data)); got != c.crc {
			t.Errorf("Crc(%q) = %x, not %x", c.data, got, c.crc)
		}
		if got := impl.Adler([]byte(c.data)); got != c.adler {
			t.Errorf("Adler(%q) = %x, not %x", c.data, got, c.adler)
		}
	}
}

func TestSumsAreTheLibrarys(t *testing.T) {
	for _, data := range sumStrings() {
		was := slices.Clone(data)
		if got, want := impl.Crc(data), crc32.ChecksumIEEE(data); got != want {
			t.Fatalf("Crc of %d bytes: %x, not %x", len(data), got, want)
		}
		if got, want := impl.Adler(data), adler32.Checksum(data); got != want {
			t.Fatalf("Adler of %d bytes: %x, not %x", len(data), got, want)
		}
		if !bytes.Equal(data, was) {
			t.Fatalf("the data were written")
		}
	}
}

// TestAdlerAtItsModulus goes past 65521 by the least steps there are, in a and in b.
func TestAdlerAtItsModulus(t *testing.T) {
	data := append(bytes.Repeat([]byte{255}, 256), 239, 0, 1, 0, 1)
	for end := 250; end <= len(data); end++ {
		a, b := 1, 0
		for _, x := range data[:end] {
			a += int(x)
			b += a
		}
		want := uint32(b%65521*65536 + a%65521)
		if got := impl.Adler(data[:end]); got != want {
			t.Errorf("Adler of %d bytes: %x, not %x", end, got, want)
		}
	}
	// 1 + 256 * 255 + 240 is 65521 itself: a is 0 then.
	if got := impl.Adler(append(bytes.Repeat([]byte{255}, 256), 240)) & 65535; got != 0 {
		t.Errorf("a is %d where it meets its modulus", got)
	}
	// 361 zeros behind a 180 add 181 each: b is 362 * 181 = 65522, one above its modulus.
	if got := impl.Adler(append([]byte{180}, make([]byte, 361)...)); got != 65536*1+181 {
		t.Errorf("Adler where b passes its modulus by one: %x", got)
	}
}

func TestCrcTellsABitThatIsTurned(t *testing.T) {
	r := rand.New(rand.NewPCG(1, 7))
	list := [][]byte{{0}, {255}, make([]byte, 40), bytes.Repeat([]byte{255}, 40), []byte("123456789")}
	for n := 1; n <= 70; n++ {
		list = append(list, someBytes(r, n))
	}
	list = append(list, someBytes(r, 1500))
	for _, data := range list {
		right := impl.Crc(data)
		for i := range 8 * len(data) {
			data[i/8] ^= 1 << (i % 8)
			if impl.Crc(data) == right {
				t.Fatalf("Crc of %d bytes doesn't tell bit %d", len(data), i)
			}
			data[i/8] ^= 1 << (i % 8)
		}
	}
}

// TestSumsReadNoFurther has bytes behind the list's length that must not count.
func TestSumsReadNoFurther(t *testing.T) {
	data := []byte{1, 2, 3, 4}
	if impl.Crc(data[:2]) != crc32.ChecksumIEEE([]byte{1, 2}) || impl.Adler(data[:2]) != adler32.Checksum([]byte{1, 2}) {
		t.Error("bytes behind the length counted")
	}
	if impl.Crc(data[:0]) != 0 || impl.Adler(data[:0]) != 1 {
		t.Error("bytes behind no length counted")
	}
}
