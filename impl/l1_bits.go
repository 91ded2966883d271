package impl

const ErrForm = 1
const ErrShort = 2
const ErrSum = 3
const ErrCode = 4
const ErrRange = 5
const ErrOrder = 6
const ErrMany = 7
const ErrMore = 8
const MaxFields = 20000

// The remainders of Crc are those of this polynomial, its highest power left out.
const crcTurn = 0xEDB88320

const adlerBase = 65521

// Groups of seven bits: as many as 64 bits can need, and what the last of so many can hold.
const (
	maxGroups    = 10
	maxLastGroup = 1
)

type Field struct {
	Bits  int
	Value uint64
}

type Number struct {
	Ok    bool
	Value uint64
	Next  int
}

// A bitOrder says from which end the bits of a byte, and those of a number, are counted.
type bitOrder int

const (
	lowOrder bitOrder = iota
	highOrder
)

// A bitWriter puts numbers of some bits one behind the other.
type bitWriter struct {
	order bitOrder
	data  []byte
	room  int
}

// A bitReader takes them again; at is the bit that is next.
type bitReader struct {
	order bitOrder
	data  []byte
	at    int
}

func goodWidth(bits int) bool {
	return bits >= 0 && bits <= 64
}

func lowBits(value uint64, bits int) uint64 {
	return value & (1<<bits - 1)
}

// put goes byte by byte, so that a number of 64 bits needs no wider word wherever it begins.
func (w *bitWriter) put(value uint64, bits int) {
	for bits > 0 {
		if w.room == 0 {
			w.data = append(w.data, 0)
			w.room = 8
		}
		n := min(w.room, bits)
		last := len(w.data) - 1
		if w.order == lowOrder {
			w.data[last] |= byte(lowBits(value, n) << (8 - w.room))
			value >>= n
		} else {
			w.data[last] |= byte(lowBits(value>>(bits-n), n) << (w.room - n))
		}
		w.room -= n
		bits -= n
	}
}

// toByte leaves what is left of the byte that was begun.
func (w *bitWriter) toByte() {
	w.room = 0
}

func (r *bitReader) toByte() {
	r.at = (r.at + 7) / 8 * 8
}

// holds asks without adding to at, which may be as great as an int can be.
func (r *bitReader) holds(bits int) bool {
	return goodWidth(bits) && r.at >= 0 && r.at <= 8*len(r.data)-bits
}

func (r *bitReader) take(bits int) (uint64, bool) {
	if !r.holds(bits) {
		return 0, false
	}
	var value uint64
	for done := 0; done < bits; {
		here := uint64(r.data[r.at/8])
		used := r.at % 8
		n := min(8-used, bits-done)
		if r.order == lowOrder {
			value |= lowBits(here>>used, n) << done
		} else {
			value = value<<n | lowBits(here>>(8-used-n), n)
		}
		r.at += n
		done += n
	}
	return value, true
}

func packFields(fields []Field, order bitOrder) []byte {
	if len(fields) > MaxFields {
		return nil
	}
	w := bitWriter{order: order}
	for _, f := range fields {
		if !goodWidth(f.Bits) {
			return nil
		}
		w.put(f.Value, f.Bits)
	}
	return w.data
}

func takeNumber(r bitReader, bits int) Number {
	value, ok := r.take(bits)
	if !ok {
		return Number{}
	}
	return Number{Ok: true, Value: value, Next: r.at}
}

func PackLow(fields []Field) []byte {
	return packFields(fields, lowOrder)
}

func PackHigh(fields []Field) []byte {
	return packFields(fields, highOrder)
}

func TakeLow(data []byte, at int, bits int) Number {
	return takeNumber(bitReader{order: lowOrder, data: data, at: at}, bits)
}

func TakeHigh(data []byte, at int, bits int) Number {
	return takeNumber(bitReader{order: highOrder, data: data, at: at}, bits)
}

func PutNumber(n uint64) []byte {
	var data []byte
	for n > 127 {
		data = append(data, byte(n)|128)
		n >>= 7
	}
	return append(data, byte(n))
}

func GetNumber(data []byte, at int) Number {
	if at < 0 || at > len(data) {
		return Number{}
	}
	var value uint64
	for i, b := range data[at:] {
		if i == maxGroups-1 && b > maxLastGroup {
			return Number{}
		}
		value |= uint64(b&127) << (7 * i)
		if b < 128 {
			// A last group of 0 says nothing, but where the number itself is 0.
			if b == 0 && i > 0 {
				return Number{}
			}
			return Number{Ok: true, Value: value, Next: at + i + 1}
		}
	}
	return Number{}
}

func Fold(n int64) uint64 {
	return uint64(n<<1) ^ uint64(n>>63)
}

func Unfold(n uint64) int64 {
	return int64(n>>1) ^ -int64(n&1)
}

// crcTable has for each byte what turn makes of it in eight steps.
func crcTable(turn func(uint32) uint32) [256]uint32 {
	var table [256]uint32
	for i := range table {
		rest := uint32(i)
		for range 8 {
			rest = turn(rest)
		}
		table[i] = rest
	}
	return table
}

func Crc(data []byte) uint32 {
	table := crcTable(func(rest uint32) uint32 {
		if rest&1 == 1 {
			return rest>>1 ^ crcTurn
		}
		return rest >> 1
	})
	rest := ^uint32(0)
	for _, b := range data {
		rest = rest>>8 ^ table[byte(rest)^b]
	}
	return ^rest
}

func Adler(data []byte) uint32 {
	a, b := uint32(1), uint32(0)
	for _, x := range data {
		a = (a + uint32(x)) % adlerBase
		b = (b + a) % adlerBase
	}
	return 65536*b + a
}
