package tests

import (
	"bytes"
	"encoding/binary"
	"math/rand/v2"
	"slices"
	"strconv"
	"strings"
	"testing"

	"loop.example/g00016/impl"
)

var stillNames = []string{"HEAD", "PALE", "NOTE", "DATA", "DONE"}

func hasChunk(list []impl.Chunk, names ...string) bool {
	return slices.ContainsFunc(list, func(c impl.Chunk) bool { return slices.Contains(names, c.Name) })
}

// mustStand asks for the order and the names, of the last of the chunks.
func mustStand(ahead []impl.Chunk, c impl.Chunk) {
	switch {
	case (len(ahead) == 0) != (c.Name == "HEAD"), hasChunk(ahead, "DONE"):
		panic(impl.ErrOrder)
	case c.Name == "PALE" && hasChunk(ahead, "PALE", "NOTE", "DATA"), c.Name == "NOTE" && hasChunk(ahead, "DATA"):
		panic(impl.ErrOrder)
	case !slices.Contains(stillNames, c.Name) && c.Name[0] <= 'Z':
		panic(impl.ErrCode)
	}
}

func slowHead(data []byte) impl.Still {
	if len(data) != 12 || data[10] > 1 || data[11] > 1 {
		panic(impl.ErrRange)
	}
	width, height, depth, planes := binary.BigEndian.Uint32(data), binary.BigEndian.Uint32(data[4:]), int(data[8]), int(data[9])
	if width < 1 || width > 512 || height < 1 || height > 512 || width*height > 4096 || planes < 1 || planes > 4 || !slices.Contains(depthsOf(planes), depth) {
		panic(impl.ErrRange)
	}
	if data[10] == 1 && (planes > 1 || depth > 8) {
		panic(impl.ErrRange)
	}
	return impl.Still{Image: greyImage(int(width), int(height), planes, depth), Woven: data[11] == 1}
}

func slowNote(data []byte) impl.Note {
	key, value, found := bytes.Cut(data, []byte{0})
	if !found || len(key) < 1 || len(key) > 40 || len(value) > 1000 || bytes.IndexByte(value, 0) >= 0 {
		panic(impl.ErrRange)
	}
	for _, b := range key {
		if b < 32 || b > 126 {
			panic(impl.ErrRange)
		}
	}
	return impl.Note{Key: string(key), Value: string(value)}
}

func slowPalette(data []byte) []int {
	if len(data) == 0 || len(data)%3 > 0 || len(data) > 768 {
		panic(impl.ErrRange)
	}
	var palette []int
	for c := range slices.Chunk(data, 3) {
		palette = append(palette, int(c[0])*65536+int(c[1])*256+int(c[2]))
	}
	return palette
}

// slowUnrow fills a picture from its rows and has what is left of them; kinds were looked at.
func slowUnrow(part impl.Image, rows []byte) []byte {
	long := (part.Width*part.Planes*part.Depth + 7) / 8
	var above []byte
	for at := 0; at < len(part.Samples); at += part.Width * part.Planes {
		if rows[0] > 4 {
			panic(impl.ErrCode)
		}
		above = impl.UnfilterRow(int(rows[0]), max(1, part.Planes*part.Depth/8), above, rows[1:1+long])
		copy(part.Samples[at:], impl.UnpackRow(above, part.Width*part.Planes, part.Depth))
		rows = rows[1+long:]
	}
	return rows
}

func slowImage(s impl.Still, packed []byte) impl.Image {
	parts := partsOf(s)
	many := 0
	for _, part := range parts {
		many += part.Height * (1 + (part.Width*part.Planes*part.Depth+7)/8)
	}
	if many > 6000 {
		panic(impl.ErrMany)
	}
	plain := impl.Unwrap(packed, many)
	switch {
	case plain.Err != 0:
		panic(plain.Err)
	case plain.Used < len(packed):
		panic(impl.ErrMore)
	case len(plain.Data) < many:
		panic(impl.ErrShort)
	}
	rows := plain.Data
	for _, part := range parts {
		rows = slowUnrow(part, rows)
	}
	if s.Woven {
		return impl.Merge(s.Image.Width, s.Image.Height, parts)
	}
	return s.Image
}

// slowStill goes by the document's words; it panics with the error.
func slowStill(data []byte) impl.Still {
	list := slowChunks(data)
	var s impl.Still
	var packed []byte
	for i, c := range list {
		mustStand(list[:i], c)
		switch c.Name {
		case "HEAD":
			s = slowHead(c.Data)
		case "PALE":
			s.Palette = slowPalette(c.Data)
		case "NOTE":
			s.Notes = append(s.Notes, slowNote(c.Data))
		case "DATA":
			packed = append(packed, c.Data...)
		}
		if len(s.Notes) > 20 || c.Name == "DONE" && len(c.Data) > 0 {
			panic(impl.ErrRange)
		}
	}
	switch {
	case !hasChunk(list, "DONE"):
		panic(impl.ErrShort)
	case !hasChunk(list, "DATA"), hasChunk(list, "PALE") != (list[0].Data[10] == 1):
		panic(impl.ErrOrder)
	}
	s.Image = slowImage(s, packed)
	if len(s.Palette) > 0 && slices.Max(s.Image.Samples) >= len(s.Palette) {
		panic(impl.ErrRange)
	}
	return s
}

func slowDecode(data []byte) impl.StillRes {
	var s impl.Still
	if err := codeOfPanic(func() { s = slowStill(data) }); err != 0 {
		return impl.StillRes{Err: err}
	}
	return impl.StillRes{Still: s}
}

// checkDecode asks for the error by itself, and for all of the answer that a slow reader has.
func checkDecode(t *testing.T, what string, data []byte, err int) {
	t.Helper()
	was := slices.Clone(data)
	got, want := impl.DecodeStill(data), slowDecode(data)
	if got.Err != err || want.Err != err {
		t.Errorf("%s: error %d, not %d (a slow reader: %d)", what, got.Err, err, want.Err)
	}
	if !sameStill(got.Still, want.Still) {
		t.Errorf("%s: read as %s, not %s", what, describedStill(got.Still), describedStill(want.Still))
	}
	if !bytes.Equal(data, was) {
		t.Errorf("%s: the data were written", what)
	}
}

func checkFile(t *testing.T, what string, err int, list ...impl.Chunk) {
	t.Helper()
	checkDecode(t, what, fileOf(list...), err)
}

// fullParts are the chunks of a still that has one of each kind.
func fullParts() (head, pale, note, data, done impl.Chunk) {
	s := palettedStill(3, 0, 1, 2, 1)
	s.Palette = []int{5, 600, 70000}
	s.Notes = []impl.Note{{Key: "k", Value: "v"}}
	list := stillChunks(s, impl.PackFixed)
	return list[0], list[1], list[2], list[3], list[4]
}

// plainParts are those of one that has no palette.
func plainParts() (head, data, done impl.Chunk) {
	list := stillChunks(palettedStill(0, 10, 20, 30, 40), impl.PackStored)
	return list[0], list[1], list[2]
}

func TestDecodeStillOfChunksInOrder(t *testing.T) {
	head, pale, note, data, done := fullParts()
	bare, bareData, _ := plainParts()
	empty := chunkOf("DATA")
	for _, c := range []struct {
		what string
		err  int
		list []impl.Chunk
	}{
		{"all", 0, []impl.Chunk{head, pale, note, data, done}},
		{"no note", 0, []impl.Chunk{head, pale, data, done}},
		{"two notes", 0, []impl.Chunk{head, pale, note, note, data, done}},
		{"no palette", 0, []impl.Chunk{bare, bareData, done}},
		{"no palette, a note", 0, []impl.Chunk{bare, note, bareData, done}},
		{"empty DATA ahead and behind", 0, []impl.Chunk{head, pale, empty, data, empty, done}},
		{"nothing", impl.ErrShort, nil},
		{"HEAD alone", impl.ErrShort, []impl.Chunk{head}},
		{"no DONE", impl.ErrShort, []impl.Chunk{head, pale, note, data}},
		{"no DONE and no DATA", impl.ErrShort, []impl.Chunk{head, pale, note}},
		{"no DONE and no PALE", impl.ErrShort, []impl.Chunk{head, data}},
		{"no HEAD", impl.ErrOrder, []impl.Chunk{pale, note, data, done}},
		{"DONE alone", impl.ErrOrder, []impl.Chunk{done}},
		{"NOTE first", impl.ErrOrder, []impl.Chunk{note, head, pale, data, done}},
		{"PALE first", impl.ErrOrder, []impl.Chunk{pale, head, note, data, done}},
		{"DATA first", impl.ErrOrder, []impl.Chunk{data, head, pale, note, done}},
		{"a second HEAD", impl.ErrOrder, []impl.Chunk{head, head, pale, note, data, done}},
		{"a second HEAD behind DATA", impl.ErrOrder, []impl.Chunk{head, pale, note, data, head, done}},
		{"a second HEAD behind DONE", impl.ErrOrder, []impl.Chunk{head, pale, note, data, done, head}},
		{"PALE behind DONE", impl.ErrOrder, []impl.Chunk{head, note, data, done, pale}},
		{"NOTE behind DONE", impl.ErrOrder, []impl.Chunk{head, pale, data, done, note}},
		{"DATA behind DONE", impl.ErrOrder, []impl.Chunk{head, pale, note, done, data}},
		{"empty DATA behind DONE", impl.ErrOrder, []impl.Chunk{head, pale, note, data, done, empty}},
		{"DONE twice", impl.ErrOrder, []impl.Chunk{head, pale, note, data, done, done}},
		{"PALE behind NOTE", impl.ErrOrder, []impl.Chunk{head, note, pale, data, done}},
		{"PALE behind DATA", impl.ErrOrder, []impl.Chunk{head, data, pale, done}},
		{"PALE behind empty DATA", impl.ErrOrder, []impl.Chunk{head, empty, pale, data, done}},
		{"PALE twice", impl.ErrOrder, []impl.Chunk{head, pale, pale, note, data, done}},
		{"PALE behind NOTE, without its flag", impl.ErrOrder, []impl.Chunk{bare, note, pale, bareData, done}},
		{"NOTE behind DATA", impl.ErrOrder, []impl.Chunk{head, pale, data, note, done}},
		{"NOTE behind empty DATA", impl.ErrOrder, []impl.Chunk{head, pale, empty, note, data, done}},
		{"NOTE between DATA", impl.ErrOrder, []impl.Chunk{head, pale, empty, note, empty, data, done}},
		{"no DATA", impl.ErrOrder, []impl.Chunk{head, pale, note, done}},
		{"no DATA, no palette", impl.ErrOrder, []impl.Chunk{bare, done}},
		{"PALE without its flag", impl.ErrOrder, []impl.Chunk{bare, pale, bareData, done}},
		{"a flag without PALE", impl.ErrOrder, []impl.Chunk{head, note, data, done}},
		{"empty DATA alone", impl.ErrShort, []impl.Chunk{head, pale, note, empty, done}},
	} {
		checkFile(t, c.what, c.err, c.list...)
	}
}

func TestDecodeStillOfNamesThatAreUnknown(t *testing.T) {
	head, pale, note, data, done := fullParts()
	list := []impl.Chunk{head, pale, note, data, data, done}
	packed := data.Data
	list[3].Data, list[4].Data = packed[:7], packed[7:]
	for _, c := range []struct {
		name string
		err  int
	}{
		{"xtra", 0}, {"xTRA", 0}, {"aaaa", 0}, {"zZZZ", 0}, {"head", 0}, {"hEAD", 0}, {"pALE", 0}, {"nOTE", 0}, {"data", 0}, {"done", 0}, {"dONE", 0},
		{"XTRA", impl.ErrCode}, {"Xtra", impl.ErrCode}, {"AAAA", impl.ErrCode}, {"Zzzz", impl.ErrCode}, {"Head", impl.ErrCode}, {"HEAd", impl.ErrCode},
		{"Pale", impl.ErrCode}, {"NOTe", impl.ErrCode}, {"DATa", impl.ErrCode}, {"DOne", impl.ErrCode}, {"DONe", impl.ErrCode},
	} {
		for at := 0; at <= len(list); at++ {
			want := c.err
			if at == 0 || at == len(list) {
				want = impl.ErrOrder
			}
			for _, many := range []int{0, 1, 12, 3000} {
				other := chunkOf(c.name, make([]byte, many)...)
				checkFile(t, c.name+" at "+strconv.Itoa(at), want, slices.Insert(slices.Clone(list), at, other)...)
			}
		}
	}
	other := chunkOf("xtra", 1, 2)
	many := []impl.Chunk{head, other, other, pale, other, note, other, list[3], other, other, list[4], other, done}
	checkFile(t, "many of them", 0, many...)
	checkFile(t, "PALE behind NOTE and others", impl.ErrOrder, head, note, other, pale, data, done)
	checkFile(t, "PALE twice with others between", impl.ErrOrder, head, pale, other, pale, data, done)
	checkFile(t, "NOTE behind DATA and others", impl.ErrOrder, head, pale, data, other, note, done)
	checkFile(t, "no DATA but others", impl.ErrOrder, head, pale, chunkOf("dATA", packed...), done)
	checkFile(t, "no DONE but others", impl.ErrShort, head, pale, data, chunkOf("dONE"))
}

func TestDecodeStillOfHeads(t *testing.T) {
	for _, c := range []struct {
		what string
		head []byte
		err  int
	}{
		{"as it is", []byte{0, 0, 0, 4, 0, 0, 0, 1, 8, 1, 0, 0}, 0},
		{"woven, with the rows of one that is not", []byte{0, 0, 0, 4, 0, 0, 0, 1, 8, 1, 0, 1}, impl.ErrShort},
		{"nothing", nil, impl.ErrRange},
		{"11 bytes", []byte{0, 0, 0, 4, 0, 0, 0, 1, 8, 1, 0}, impl.ErrRange},
		{"13 bytes", []byte{0, 0, 0, 4, 0, 0, 0, 1, 8, 1, 0, 0, 0}, impl.ErrRange},
		{"no columns", []byte{0, 0, 0, 0, 0, 0, 0, 1, 8, 1, 0, 0}, impl.ErrRange},
		{"no rows", []byte{0, 0, 0, 4, 0, 0, 0, 0, 8, 1, 0, 0}, impl.ErrRange},
		{"513 columns", []byte{0, 0, 2, 1, 0, 0, 0, 1, 8, 1, 0, 0}, impl.ErrRange},
		{"513 rows", []byte{0, 0, 0, 1, 0, 0, 2, 1, 8, 1, 0, 0}, impl.ErrRange},
		{"columns of all bytes", []byte{255, 255, 255, 255, 0, 0, 0, 1, 8, 1, 0, 0}, impl.ErrRange},
		{"rows of all bytes", []byte{0, 0, 0, 1, 255, 255, 255, 255, 8, 1, 0, 0}, impl.ErrRange},
		{"columns beyond 32 bits with the rows", []byte{128, 0, 0, 0, 0, 0, 0, 2, 8, 1, 0, 0}, impl.ErrRange},
		{"columns of a higher byte", []byte{1, 0, 0, 4, 0, 0, 0, 1, 8, 1, 0, 0}, impl.ErrRange},
		{"rows of a higher byte", []byte{0, 0, 0, 4, 0, 1, 0, 1, 8, 1, 0, 0}, impl.ErrRange},
		{"too many pixels", []byte{0, 0, 0, 241, 0, 0, 0, 17, 1, 1, 0, 0}, impl.ErrRange},
		{"depth 0", []byte{0, 0, 0, 4, 0, 0, 0, 1, 0, 1, 0, 0}, impl.ErrRange},
		{"depth 3", []byte{0, 0, 0, 4, 0, 0, 0, 1, 3, 1, 0, 0}, impl.ErrRange},
		{"depth 32", []byte{0, 0, 0, 4, 0, 0, 0, 1, 32, 1, 0, 0}, impl.ErrRange},
		{"depth 255", []byte{0, 0, 0, 4, 0, 0, 0, 1, 255, 1, 0, 0}, impl.ErrRange},
		{"no planes", []byte{0, 0, 0, 4, 0, 0, 0, 1, 8, 0, 0, 0}, impl.ErrRange},
		{"five planes", []byte{0, 0, 0, 4, 0, 0, 0, 1, 8, 5, 0, 0}, impl.ErrRange},
		{"two planes of four bits", []byte{0, 0, 0, 4, 0, 0, 0, 1, 4, 2, 0, 0}, impl.ErrRange},
		{"a palette flag of 2", []byte{0, 0, 0, 4, 0, 0, 0, 1, 8, 1, 2, 0}, impl.ErrRange},
		{"a palette flag of 255", []byte{0, 0, 0, 4, 0, 0, 0, 1, 8, 1, 255, 0}, impl.ErrRange},
		{"a woven flag of 2", []byte{0, 0, 0, 4, 0, 0, 0, 1, 8, 1, 0, 2}, impl.ErrRange},
		{"a woven flag of 128", []byte{0, 0, 0, 4, 0, 0, 0, 1, 8, 1, 0, 128}, impl.ErrRange},
		{"a palette of 16 bits", []byte{0, 0, 0, 4, 0, 0, 0, 1, 16, 1, 1, 0}, impl.ErrRange},
		{"a palette of two planes", []byte{0, 0, 0, 4, 0, 0, 0, 1, 8, 2, 1, 0}, impl.ErrRange},
		{"a palette of four planes", []byte{0, 0, 0, 4, 0, 0, 0, 1, 8, 4, 1, 0}, impl.ErrRange},
		{"a palette that lacks", []byte{0, 0, 0, 4, 0, 0, 0, 1, 8, 1, 1, 0}, impl.ErrOrder},
		{"16 bits without a palette", []byte{0, 0, 0, 2, 0, 0, 0, 1, 16, 1, 0, 0}, 0},
		{"two planes without a palette", []byte{0, 0, 0, 2, 0, 0, 0, 1, 8, 2, 0, 0}, 0},
		{"four planes without a palette", []byte{0, 0, 0, 1, 0, 0, 0, 1, 8, 4, 0, 0}, 0},
	} {
		head := impl.Chunk{Name: "HEAD", Data: c.head}
		_, data, done := plainParts()
		checkFile(t, c.what, c.err, head, data, done)
		if c.err == impl.ErrRange {
			checkFile(t, c.what+", nothing behind", impl.ErrRange, head)
			checkFile(t, c.what+", another one behind", impl.ErrRange, head, head)
			checkFile(t, c.what+", an unknown one ahead", impl.ErrOrder, chunkOf("xtra"), head, data, done)
		}
	}
}

func TestDecodeStillOfWovenRowsByHand(t *testing.T) {
	// Of four columns the passes are 0; 2; 1 and 3.
	head, done := chunkOf("HEAD", 0, 0, 0, 4, 0, 0, 0, 1, 8, 1, 0, 1), chunkOf("DONE")
	file := fileOf(head, impl.Chunk{Name: "DATA", Data: impl.Wrap([]byte{0, 10, 1, 30, 2, 20, 40}, 2)}, done)
	want := palettedStill(0, 10, 20, 30, 40)
	want.Woven = true
	checkDecode(t, "woven", file, 0)
	if got := impl.DecodeStill(file); !sameStill(got.Still, want) {
		t.Errorf("%v", got)
	}
}

func TestDecodeStillOfLists(t *testing.T) {
	head, pale, note, data, done := fullParts()
	for many := 0; many <= 780; many++ {
		want := 0
		switch {
		case many == 0, many%3 > 0, many > 768:
			want = impl.ErrRange
		case many < 9:
			want = impl.ErrRange // colours that samples tell lack
		}
		what := "a list of " + strconv.Itoa(many) + " bytes"
		pale.Data = someBytes(rand.New(rand.NewPCG(5, uint64(many))), many)
		checkFile(t, what, want, head, pale, note, data, done)
		if many == 0 || many%3 > 0 || many > 768 {
			checkFile(t, what+", nothing behind", impl.ErrRange, head, pale)
			bare, bareData, _ := plainParts()
			checkFile(t, what+", without its flag", impl.ErrRange, bare, pale, bareData, done)
			checkFile(t, what+", behind another", impl.ErrOrder, head, chunkOf("PALE", 1, 2, 3), pale, data, done)
		}
	}
}

func TestDecodeStillOfNotes(t *testing.T) {
	head, data, done := plainParts()
	for _, c := range []struct {
		what, note string
		err        int
	}{
		{"a key and a value", "key\x00value", 0}, {"no value", "key\x00", 0}, {"the longest", strings.Repeat("~", 40) + "\x00" + strings.Repeat("\xff", 1000), 0},
		{"nothing", "", impl.ErrRange}, {"no key", "\x00value", impl.ErrRange}, {"neither", "\x00", impl.ErrRange}, {"no byte of 0", "key", impl.ErrRange},
		{"a key of 41", strings.Repeat("k", 41) + "\x00", impl.ErrRange}, {"a long text without 0", strings.Repeat("k", 900), impl.ErrRange},
		{"a value of 1001", "k\x00" + strings.Repeat("v", 1001), impl.ErrRange}, {"a value with a byte of 0", "k\x00v\x00v", impl.ErrRange},
		{"a value that is a byte of 0", "k\x00\x00", impl.ErrRange}, {"a value that ends by 0", "k\x00v\x00", impl.ErrRange},
	} {
		note := chunkOf("NOTE", []byte(c.note)...)
		checkFile(t, c.what, c.err, head, note, data, done)
		checkFile(t, c.what+", behind another", c.err, head, chunkOf("NOTE", 'k', 0), note, data, done)
		checkFile(t, c.what+", behind DATA", impl.ErrOrder, head, data, note, done)
		if c.err != 0 {
			checkFile(t, c.what+", nothing behind", c.err, head, note)
		}
	}
	for b := range 256 {
		text := string([]byte{byte(b)})
		want := impl.ErrRange
		if b >= 32 && b <= 126 {
			want = 0
		}
		checkFile(t, "key byte "+strconv.Itoa(b), want, head, chunkOf("NOTE", []byte("a"+text+"b\x00v\x01")...), data, done)
		want = 0
		if b == 0 {
			want = impl.ErrRange
		}
		checkFile(t, "value byte "+strconv.Itoa(b), want, head, chunkOf("NOTE", []byte("ab\x00v"+text+"w")...), data, done)
	}
	note := chunkOf("NOTE", 'k', 0, 'v')
	for _, many := range []int{1, 19, 20, 21, 22} {
		want := 0
		if many > 20 {
			want = impl.ErrRange
		}
		list := slices.Concat([]impl.Chunk{head}, slices.Repeat([]impl.Chunk{note}, many))
		checkFile(t, strconv.Itoa(many)+" notes", want, append(list, data, done)...)
		if want != 0 {
			checkFile(t, "nothing behind too many notes", want, list...)
		}
	}
}

func TestDecodeStillOfDone(t *testing.T) {
	head, pale, note, data, done := fullParts()
	for _, many := range []int{1, 12, 500} {
		full := chunkOf("DONE", make([]byte, many)...)
		checkFile(t, "DONE with data", impl.ErrRange, head, pale, note, data, full)
		checkFile(t, "DONE with data, more behind", impl.ErrRange, head, pale, note, data, full, done)
		checkFile(t, "DONE with data, no DATA", impl.ErrRange, head, pale, note, full)
		checkFile(t, "DONE with data behind DONE", impl.ErrOrder, head, pale, note, data, done, full)
	}
}

func TestDecodeStillOfTheFaultThatIsMetFirst(t *testing.T) {
	head, pale, note, data, done := fullParts()
	badHead, badPale, badNote := chunkOf("HEAD", 1), chunkOf("PALE", 1), chunkOf("NOTE", 1)
	badData, unknown := chunkOf("DATA", 1, 2, 3), chunkOf("XTRA")
	for _, c := range []struct {
		what string
		err  int
		list []impl.Chunk
	}{
		{"a range ahead of a name", impl.ErrRange, []impl.Chunk{badHead, unknown}},
		{"a name ahead of a range", impl.ErrCode, []impl.Chunk{head, unknown, badPale}},
		{"a range ahead of an order", impl.ErrRange, []impl.Chunk{head, badPale, head}},
		{"an order ahead of a range", impl.ErrOrder, []impl.Chunk{head, head, badPale}},
		{"a second HEAD that is none", impl.ErrOrder, []impl.Chunk{head, badHead}},
		{"a second PALE that is none", impl.ErrOrder, []impl.Chunk{head, pale, badPale}},
		{"a PALE that is none behind NOTE", impl.ErrOrder, []impl.Chunk{head, note, badPale}},
		{"a NOTE that is none behind DATA", impl.ErrOrder, []impl.Chunk{head, pale, data, badNote}},
		{"a NOTE that is none behind DATA that are none", impl.ErrOrder, []impl.Chunk{head, pale, badData, note, done}},
		{"a first one with an unknown name", impl.ErrOrder, []impl.Chunk{unknown, head}},
		{"an unknown name behind DONE", impl.ErrOrder, []impl.Chunk{head, pale, data, done, unknown}},
		{"a range ahead of what lacks", impl.ErrRange, []impl.Chunk{head, pale, badNote}},
		{"DATA that are none, no DONE", impl.ErrShort, []impl.Chunk{head, pale, badData}},
		{"DATA that are none, no PALE", impl.ErrOrder, []impl.Chunk{head, badData, done}},
		{"DATA that are none", impl.ErrCode, []impl.Chunk{head, pale, badData, done}},
		{"DATA that are none, an unknown name behind", impl.ErrCode, []impl.Chunk{head, pale, badData, unknown, done}},
		{"DATA that are none, DONE twice", impl.ErrOrder, []impl.Chunk{head, pale, badData, done, done}},
	} {
		file := fileOf(c.list...)
		checkDecode(t, c.what, file, c.err)
		checkDecode(t, c.what+", a chunk cut short behind", append(slices.Clone(file), 0, 0), impl.ErrShort)
		wrong := fileOf(chunkOf("a123"))[8:]
		checkDecode(t, c.what+", a name that is none behind", slices.Concat(file, wrong), impl.ErrCode)
		last := slices.Clone(file)
		last[len(last)-1] ^= 64
		checkDecode(t, c.what+", a sum that is wrong", last, impl.ErrSum)
	}
}

// withRows has the file of a still as if these were its rows.
func withRows(s impl.Still, rows []byte, kind int) []impl.Chunk {
	return slices.Concat(chunksAhead(s), dataChunks(impl.Wrap(rows, kind), 1000), []impl.Chunk{{Name: "DONE"}})
}

func TestDecodeStillOfRowsBeyondTheLimit(t *testing.T) {
	for _, c := range []struct {
		width, height, planes, depth int
		woven                        bool
		many                         bool
	}{
		{187, 16, 1, 16, false, false}, {176, 17, 1, 16, false, true}, {187, 16, 1, 16, true, true}, {64, 64, 1, 8, false, false}, {512, 8, 4, 16, false, true},
		{78, 38, 1, 16, true, false}, {117, 17, 3, 8, true, true}, {76, 39, 1, 16, true, true}, {4, 233, 3, 16, true, true}, {64, 64, 4, 16, true, true},
	} {
		s := impl.Still{Image: greyImage(c.width, c.height, c.planes, c.depth), Woven: c.woven}
		head, done := impl.Chunk{Name: "HEAD", Data: headOf(s)}, chunkOf("DONE")
		short, none := impl.ErrShort, impl.ErrCode
		if c.many {
			short, none = impl.ErrMany, impl.ErrMany
		}
		what := describedStill(s)
		checkFile(t, what+", few bytes", short, head, impl.Chunk{Name: "DATA", Data: impl.Wrap([]byte{0, 0}, 1)}, done)
		checkFile(t, what+", DATA that are none", none, head, chunkOf("DATA", 1, 2, 3), done)
		checkFile(t, what+", no DATA", impl.ErrOrder, head, done)
		checkFile(t, what+", no DONE", impl.ErrShort, head, chunkOf("DATA", 1, 2, 3))
	}
}

func TestDecodeStillOfTheErrorsOfUnwrap(t *testing.T) {
	head, packed, done := plainParts()
	whole := packed.Data
	for many := range whole {
		checkFile(t, "DATA cut to "+strconv.Itoa(many), impl.ErrShort, head, chunkOf("DATA", whole[:many]...), done)
	}
	change := func(at int, by byte) []byte {
		data := slices.Clone(whole)
		data[at] ^= by
		return data
	}
	rows := []byte{0, 10, 20, 30, 40}
	for _, c := range []struct {
		what string
		data []byte
		err  int
	}{
		{"another first byte", change(0, 1), impl.ErrCode}, {"another second byte", change(1, 1), impl.ErrCode},
		{"a kind of block that is none", change(2, 6), impl.ErrCode}, {"another opposite", change(5, 1), impl.ErrSum},
		{"another byte", change(9, 1), impl.ErrSum}, {"another sum", change(len(whole)-1, 1), impl.ErrSum},
		{"a byte more than the rows", impl.Wrap(append(slices.Clone(rows), 0), 1), impl.ErrMany},
		{"many bytes more than the rows", impl.Wrap(make([]byte, 6000), 2), impl.ErrMany},
		{"a byte fewer than the rows", impl.Wrap(rows[:4], 1), impl.ErrShort},
		{"no bytes", impl.Wrap(nil, 0), impl.ErrShort},
		{"a byte behind", append(slices.Clone(whole), 0), impl.ErrMore},
		{"all of it twice", slices.Concat(whole, whole), impl.ErrMore},
		{"a byte fewer, and more behind", append(impl.Wrap(rows[:4], 1), 7), impl.ErrMore},
		{"another sum, and more behind", append(change(len(whole)-1, 1), 7), impl.ErrSum},
		{"a kind of filter that is none, and more behind", append(impl.Wrap([]byte{5, 1, 2, 3, 4}, 1), 7), impl.ErrMore},
		{"a kind of filter that is none, and a byte fewer", impl.Wrap([]byte{5, 1, 2, 3}, 1), impl.ErrShort},
		{"a copy from ahead of the beginning", slices.Concat([]byte{0x78, 1}, lowBytes(fixedText(true, copied(3, 1))), []byte{0, 0, 0, 0}), impl.ErrRange},
		{"40000 bytes", slices.Concat(whole, make([]byte, 40000-len(whole))), impl.ErrMore},
		{"40001 bytes", slices.Concat(whole, make([]byte, 40001-len(whole))), impl.ErrForm},
		{"59000 others", make([]byte, 59000), impl.ErrForm},
	} {
		checkFile(t, c.what, c.err, head, impl.Chunk{Name: "DATA", Data: c.data}, done)
		for _, each := range []int{1, 3, 700} {
			if len(c.data) > 1000*each {
				continue
			}
			list := slices.Concat([]impl.Chunk{head}, dataChunks(c.data, each), []impl.Chunk{done})
			checkFile(t, c.what+", cut elsewhere", c.err, list...)
		}
	}
}

func TestDecodeStillOfDataCutElsewhere(t *testing.T) {
	r := rand.New(rand.NewPCG(5, 12))
	for range 40 {
		s := someStill(r)
		packed := impl.Wrap(slowRows(s), r.IntN(3))
		for _, each := range []int{1, 2, 7, 100, 999, 1001, len(packed)} {
			list := slices.Concat(chunksAhead(s), dataChunks(packed, each), []impl.Chunk{{Name: "DONE"}})
			if file := fileOf(list...); len(file) <= impl.MaxFile {
				checkDecode(t, describedStill(s)+", DATA of "+strconv.Itoa(each), file, 0)
			}
		}
	}
}

func TestDecodeStillOfOtherKindsOfFilters(t *testing.T) {
	s := impl.Still{Image: greyImage(4, 3, 1, 8)}
	rows := make([]byte, 15)
	for kind := range 256 {
		for at := 0; at < 15; at += 5 {
			changed := slices.Clone(rows)
			changed[at] = byte(kind)
			want := 0
			if kind > 4 {
				want = impl.ErrCode
			}
			checkFile(t, "kind "+strconv.Itoa(kind), want, withRows(s, changed, 1)...)
		}
	}
	// Any kind will do, not the best one alone.
	r := rand.New(rand.NewPCG(5, 13))
	for range 200 {
		s := someStill(r)
		s.Palette = nil
		rows, at := slowRows(s), 0
		for _, part := range partsOf(s) {
			for range part.Height {
				rows[at] = byte(r.IntN(5))
				at += 1 + (part.Width*part.Planes*part.Depth+7)/8
			}
		}
		checkFile(t, describedStill(s)+", other kinds", 0, withRows(s, rows, 1)...)
	}
}

func TestDecodeStillOfSamplesThatAreNoColours(t *testing.T) {
	for _, depth := range []int{1, 2, 4, 8} {
		for many := 1; many <= greatest(depth)+1; many = 2*many - many/2 {
			s := impl.Still{Image: greyImage(3, 3, 1, depth), Palette: make([]int, many)}
			for _, s := range bothWays(s) {
				for at := range 9 {
					what := describedStill(s) + ", sample " + strconv.Itoa(at)
					s.Image.Samples[at] = many - 1
					checkFile(t, what, 0, stillChunks(s, 1)...)
					if many <= greatest(depth) {
						s.Image.Samples[at] = many
						checkFile(t, what, impl.ErrRange, stillChunks(s, 1)...)
					}
					s.Image.Samples[at] = 0
				}
			}
		}
	}
	s := palettedStill(2, 0, 7, 0, 1)
	s.Image.Width, s.Image.Height = 2, 2
	for _, s := range bothWays(s) {
		rows := slowRows(s)
		rows[len(rows)-3] = 5
		checkFile(t, "a kind that is none behind a sample that is no colour", impl.ErrCode, withRows(s, rows, 0)...)
	}
}

func TestDecodeStillLooksAtNoBitsThatAreLeftInARow(t *testing.T) {
	s := impl.Still{Image: impl.Image{Width: 3, Height: 1, Planes: 1, Depth: 1, Samples: []int{1, 0, 1}}, Palette: []int{1, 2}}
	for left := range 32 {
		file := fileOf(withRows(s, []byte{0, byte(0xA0 | left)}, 0)...)
		checkDecode(t, "bits that are left", file, 0)
		if got := impl.DecodeStill(file); !sameStill(got.Still, s) {
			t.Errorf("%d: %v", left, got)
		}
	}
}

// changedRows turns few bytes, or has another number of them.
func changedRows(r *rand.Rand, rows []byte) []byte {
	rows = slices.Clone(rows)
	switch r.IntN(5) {
	case 0:
		rows[r.IntN(len(rows))] = byte(r.IntN(256))
	case 1:
		rows[r.IntN(len(rows))] = byte(r.IntN(7))
	case 2:
		rows = append(rows, 0)
	case 3:
		rows = rows[:r.IntN(len(rows))]
	}
	return rows
}

// changedChunks does one thing of many that may be wrong.
func changedChunks(r *rand.Rand, list []impl.Chunk) []impl.Chunk {
	list = cloneChunks(list)
	if len(list) == 0 {
		return list
	}
	at, other := r.IntN(len(list)), r.IntN(len(list))
	switch r.IntN(9) {
	case 0:
		return slices.Delete(list, at, at+1)
	case 1:
		return slices.Insert(list, other, list[at])
	case 2:
		list[at], list[other] = list[other], list[at]
	case 3:
		list[at].Name = []string{"HEAD", "PALE", "NOTE", "DATA", "DONE", "more", "MORE", "dATA", "Note"}[r.IntN(9)]
	case 4:
		return slices.Insert(list, at, chunkOf([]string{"many", "aNY", "Many"}[r.IntN(3)], someBytes(r, r.IntN(9))...))
	case 5:
		list[at].Data = append(list[at].Data, byte(r.IntN(3)))
	case 6:
		list[at].Data = list[at].Data[:r.IntN(len(list[at].Data)+1)]
	default:
		if many := len(list[at].Data); many > 0 {
			list[at].Data[r.IntN(many)] ^= 1 << r.IntN(8)
		}
	}
	return list
}

func TestDecodeStillOfChunksThatAreChanged(t *testing.T) {
	r := rand.New(rand.NewPCG(5, 14))
	met := [9]int{}
	for range 6000 {
		s := someStill(r)
		list := withRows(s, changedRows(r, slowRows(s)), 1)
		for range r.IntN(3) {
			list = changedChunks(r, list)
		}
		data := fileOf(list...)
		want := slowDecode(data)
		met[want.Err]++
		checkDecode(t, "changed chunks of "+describedStill(s), data, want.Err)
	}
	for err := impl.ErrShort; err <= impl.ErrMore; err++ {
		if met[err] < 10 {
			t.Errorf("error %d was met %d times", err, met[err])
		}
	}
	if met[0] < 500 {
		t.Errorf("%d files were good", met[0])
	}
}

func TestDecodeStillOfHurtBytes(t *testing.T) {
	r := rand.New(rand.NewPCG(5, 16))
	for range 3000 {
		file := fileOf(stillChunks(someStill(r), r.IntN(3))...)
		data := hurt(r, file)
		checkDecode(t, "hurt bytes", data, slowDecode(data).Err)
		if !bytes.Equal(data, file) && impl.DecodeStill(data).Err == 0 {
			t.Errorf("a file that is hurt is read: %x", data)
		}
	}
	for range 3000 {
		data := someBytes(r, r.IntN(60))
		checkDecode(t, "any bytes", data, slowDecode(data).Err)
		data = slices.Concat(fileMark, data)
		checkDecode(t, "any bytes behind the first ones", data, slowDecode(data).Err)
	}
}

func TestDecodeStillOfEachBitTurnedAndEachEnd(t *testing.T) {
	s := palettedStill(3, 0, 1, 2)
	s.Notes = []impl.Note{{Key: "k", Value: "v"}}
	file := fileOf(stillChunks(s, impl.PackOwn)...)
	for bit := range 8 * len(file) {
		data := slices.Clone(file)
		data[bit/8] ^= 1 << (bit % 8)
		want := slowDecode(data).Err
		if want == 0 {
			t.Errorf("bit %d is not told", bit)
		}
		checkDecode(t, "bit "+strconv.Itoa(bit), data, want)
	}
	for many := range file {
		checkDecode(t, strconv.Itoa(many)+" bytes", file[:many], impl.ErrShort)
	}
}

func TestDecodeStillOfFilesAsLongAsMayBe(t *testing.T) {
	head, pale, note, data, done := fullParts()
	room := impl.MaxFile - len(fileOf(head, pale, note, data, done)) - 12
	checkFile(t, "as long as may be", 0, head, pale, note, chunkOf("xtra", make([]byte, room)...), data, done)
	checkFile(t, "one byte more", impl.ErrForm, head, pale, note, chunkOf("xtra", make([]byte, room+1)...), data, done)
	checkFile(t, "one byte more, and no DONE", impl.ErrForm, head, pale, note, chunkOf("xtra", make([]byte, room+13)...), data)
	many := slices.Repeat([]impl.Chunk{chunkOf("DATA")}, room/12)
	checkFile(t, "as many DATA as may be", 0, slices.Concat([]impl.Chunk{head, pale, note}, many, []impl.Chunk{data, done})...)
}

func TestDecodeStillIsNewMemory(t *testing.T) {
	s := palettedStill(3, 0, 1, 2)
	s.Notes = []impl.Note{{Key: "key", Value: "value"}, {Key: "other", Value: "text"}}
	for _, s := range bothWays(s) {
		file := fileOf(stillChunks(s, impl.PackStored)...)
		got := impl.DecodeStill(file)
		kept := slices.Clone(file)
		_ = append(got.Still.Image.Samples, 9, 9, 9)
		_ = append(got.Still.Palette, 9, 9, 9)
		_ = append(got.Still.Notes, impl.Note{})
		if !sameStill(got.Still, s) || !bytes.Equal(file, kept) {
			t.Error("lists share memory")
		}
		clear(file)
		if !sameStill(got.Still, s) {
			t.Error("the still hangs on the file")
		}
		clear(got.Still.Image.Samples)
		clear(got.Still.Palette)
		clear(got.Still.Notes)
		checkDecode(t, "read again", kept, 0)
	}
}
