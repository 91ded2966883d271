package tests

import (
	"bytes"
	"encoding/binary"
	"math/rand/v2"
	"slices"
	"strconv"
	"testing"

	"loop.example/g00016/impl"
)

var fileMark = []byte{137, 77, 83, 73, 13, 10, 26, 10}

// fileOf makes chunks of any names and sizes, with the sums of the library.
func fileOf(chunks ...impl.Chunk) []byte {
	file := slices.Clone(fileMark)
	for _, c := range chunks {
		file = append(file, pngChunk(c.Name, c.Data)...)
	}
	return file
}

func chunkOf(name string, data ...byte) impl.Chunk {
	return impl.Chunk{Name: name, Data: data}
}

func sameChunks(a, b []impl.Chunk) bool {
	return slices.EqualFunc(a, b, func(a, b impl.Chunk) bool { return a.Name == b.Name && bytes.Equal(a.Data, b.Data) })
}

func cloneChunks(list []impl.Chunk) []impl.Chunk {
	list = slices.Clone(list)
	for i := range list {
		list[i].Data = slices.Clone(list[i].Data)
	}
	return list
}

func areLetters(text string) bool {
	for _, b := range []byte(text) {
		if !bytes.ContainsRune([]byte("abcdefghijklmnopqrstuvwxyzABCDEFGHIJKLMNOPQRSTUVWXYZ"), rune(b)) {
			return false
		}
	}
	return true
}

// slowChunks goes by the document's words; it panics with the error.
func slowChunks(data []byte) []impl.Chunk {
	switch {
	case len(data) > 60000:
		panic(impl.ErrForm)
	case len(data) < 8:
		panic(impl.ErrShort)
	case !bytes.Equal(data[:8], fileMark):
		panic(impl.ErrCode)
	}
	var list []impl.Chunk
	for data = data[8:]; len(data) > 0; {
		if len(data) < 12 || int(binary.BigEndian.Uint32(data)) > len(data)-12 {
			panic(impl.ErrShort)
		}
		many := int(binary.BigEndian.Uint32(data))
		c := impl.Chunk{Name: string(data[4:8]), Data: slices.Clone(data[8 : 8+many])}
		if !areLetters(c.Name) {
			panic(impl.ErrCode)
		}
		if !bytes.Equal(pngChunk(c.Name, c.Data), data[:12+many]) {
			panic(impl.ErrSum)
		}
		list = append(list, c)
		data = data[12+many:]
	}
	return list
}

// codeOfPanic has what a slow reader answers where it doesn't end by a panic.
func codeOfPanic(read func()) (code int) {
	defer func() {
		if met := recover(); met != nil {
			code = met.(int)
		}
	}()
	read()
	return 0
}

func checkChunks(t *testing.T, what string, data []byte, want impl.ChunkRes) {
	t.Helper()
	was := slices.Clone(data)
	got := impl.ReadChunks(data)
	if got.Err != want.Err || !sameChunks(got.List, want.List) {
		t.Errorf("%s: error %d and %d chunks, not %d and %d", what, got.Err, len(got.List), want.Err, len(want.List))
	}
	if !bytes.Equal(data, was) {
		t.Errorf("%s: the data were written", what)
	}
}

func checkNoChunks(t *testing.T, what string, data []byte, err int) {
	t.Helper()
	checkChunks(t, what, data, impl.ChunkRes{Err: err})
}

func TestChunksByHand(t *testing.T) {
	for _, c := range []struct {
		chunk impl.Chunk
		data  []byte
	}{
		{chunkOf("IEND"), []byte{0, 0, 0, 0, 'I', 'E', 'N', 'D', 0xAE, 0x42, 0x60, 0x82}},
		{chunkOf("IHDR", 0, 0, 0, 1, 0, 0, 0, 1, 8, 2, 0, 0, 0), []byte("\x00\x00\x00\x0dIHDR\x00\x00\x00\x01\x00\x00\x00\x01\x08\x02\x00\x00\x00\x90\x77\x53\xde")},
	} {
		if got := impl.MakeChunk(c.chunk); !bytes.Equal(got, c.data) {
			t.Errorf("%s: %x", c.chunk.Name, got)
		}
		checkChunks(t, c.chunk.Name, slices.Concat(fileMark, c.data), impl.ChunkRes{List: []impl.Chunk{c.chunk}})
	}
}

func TestChunksOfNames(t *testing.T) {
	for _, c := range []struct {
		name string
		good bool
	}{
		{"", false}, {"A", false}, {"abc", false}, {"abcd", true}, {"ABCD", true}, {"aZzA", true}, {"DATA", true}, {"abcde", false}, {"ABCDEFGH", false},
		{"ab1d", false}, {"0000", false}, {"ab d", false}, {"ab\x00d", false}, {"aéb", false}, {"éé", false},
	} {
		if got := impl.MakeChunk(impl.Chunk{Name: c.name, Data: []byte("data")}); (len(got) > 0) != c.good {
			t.Errorf("name %q: %d bytes", c.name, len(got))
		}
	}
	for b := range 256 {
		for at := range 4 {
			name := []byte("abcd")
			name[at] = byte(b)
			c := impl.Chunk{Name: string(name), Data: []byte{1, 2}}
			got := impl.MakeChunk(c)
			if !areLetters(c.Name) {
				if len(got) > 0 {
					t.Errorf("name %q has a chunk", c.Name)
				}
				checkNoChunks(t, "name "+strconv.Quote(c.Name), fileOf(c), impl.ErrCode)
				continue
			}
			if !bytes.Equal(got, pngChunk(c.Name, c.Data)) {
				t.Errorf("name %q: %x", c.Name, got)
			}
			checkChunks(t, "name "+c.Name, fileOf(c), impl.ChunkRes{List: []impl.Chunk{c}})
		}
	}
}

func TestChunksOfSizes(t *testing.T) {
	r := rand.New(rand.NewPCG(5, 3))
	for _, many := range []int{0, 1, 2, 255, 256, 257, 20001, 59999, 60000} {
		c := impl.Chunk{Name: "some", Data: someBytes(r, many)}
		was := slices.Clone(c.Data)
		if got := impl.MakeChunk(c); !bytes.Equal(got, pngChunk(c.Name, was)) {
			t.Errorf("%d bytes: a chunk of %d", many, len(got))
		}
		if !bytes.Equal(c.Data, was) {
			t.Errorf("%d bytes: the data were written", many)
		}
	}
	for _, many := range []int{60001, 60002, 1 << 20} {
		if got := impl.MakeChunk(impl.Chunk{Name: "some", Data: make([]byte, many)}); len(got) > 0 {
			t.Errorf("%d bytes: a chunk of %d", many, len(got))
		}
	}
	if len(impl.MakeChunk(impl.Chunk{})) > 0 {
		t.Error("the zero value has a chunk")
	}
}

func TestChunksThatAreMadeAreRead(t *testing.T) {
	r := rand.New(rand.NewPCG(5, 4))
	for range 300 {
		var list []impl.Chunk
		file := slices.Clone(fileMark)
		for range r.IntN(9) {
			c := impl.Chunk{Name: someText(r, 4, 'a', 'z'), Data: someBytes(r, r.IntN(40))}
			list = append(list, c)
			file = append(file, impl.MakeChunk(c)...)
		}
		checkChunks(t, "chunks", file, impl.ChunkRes{List: list})
	}
	checkChunks(t, "nothing behind the eight bytes", fileMark, impl.ChunkRes{})
}

func TestChunksOfFilesAsLongAsMayBe(t *testing.T) {
	full := chunkOf("long", make([]byte, 60000-8-12)...)
	checkChunks(t, "one chunk", fileOf(full), impl.ChunkRes{List: []impl.Chunk{full}})
	checkNoChunks(t, "one more byte of data", fileOf(chunkOf("long", make([]byte, 60000-8-11)...)), impl.ErrForm)
	checkNoChunks(t, "one more byte", append(fileOf(full), 0), impl.ErrForm)
	checkNoChunks(t, "the last byte lacks", fileOf(full)[:59999], impl.ErrShort)
	many := slices.Repeat([]impl.Chunk{chunkOf("none")}, (60000-8)/12)
	checkChunks(t, "chunks without data", fileOf(many...), impl.ChunkRes{List: many})
	checkNoChunks(t, "too many, other bytes first", make([]byte, 60001), impl.ErrForm)
	checkNoChunks(t, "as many, other bytes first", make([]byte, 60000), impl.ErrCode)
	checkNoChunks(t, "a great number of bytes", make([]byte, 1<<20), impl.ErrForm)
}

func TestChunksOfTheFirstBytes(t *testing.T) {
	checkNoChunks(t, "nothing", nil, impl.ErrShort)
	for many := range 8 {
		checkNoChunks(t, "too few", fileMark[:many], impl.ErrShort)
		checkNoChunks(t, "too few and others", make([]byte, many), impl.ErrShort)
	}
	whole := fileOf(chunkOf("DONE"))
	for at := range 8 {
		for bit := range 8 {
			for _, long := range []int{8, 9, len(whole)} {
				data := slices.Clone(whole[:long])
				data[at] ^= 1 << bit
				checkNoChunks(t, "another byte", data, impl.ErrCode)
			}
		}
	}
}

func TestChunksThatAreCutShort(t *testing.T) {
	first, second := chunkOf("AbCd", 1, 2, 3), chunkOf("eFgH", 4, 5)
	whole := fileOf(first, second)
	for many := 8; many <= len(whole); many++ {
		want := impl.ChunkRes{Err: impl.ErrShort}
		switch many {
		case 8:
			want = impl.ChunkRes{}
		case 8 + 15:
			want = impl.ChunkRes{List: []impl.Chunk{first}}
		case len(whole):
			want = impl.ChunkRes{List: []impl.Chunk{first, second}}
		}
		checkChunks(t, strconv.Itoa(many)+" bytes", whole[:many], want)
	}
}

func TestChunksOfLengthsBeyondTheBytes(t *testing.T) {
	for _, c := range []struct {
		length uint32
		err    int
	}{
		{2, impl.ErrSum}, {4, impl.ErrShort}, {5, impl.ErrShort}, {256, impl.ErrShort}, {60000, impl.ErrShort},
		{1 << 31, impl.ErrShort}, {1<<31 - 1, impl.ErrShort}, {1<<32 - 12, impl.ErrShort}, {1<<32 - 1, impl.ErrShort},
	} {
		data := fileOf(chunkOf("AbCd", 1, 2, 3))
		binary.BigEndian.PutUint32(data[8:], c.length)
		checkNoChunks(t, "a length of "+strconv.FormatUint(uint64(c.length), 10), data, c.err)
	}
}

func TestChunksOfEachFaultAheadOfOthers(t *testing.T) {
	good := chunkOf("good", 1, 2, 3)
	badName, badSum := fileOf(chunkOf("ba d", 1, 2, 3))[8:], fileOf(good)[8:]
	badSum[len(badSum)-1] ^= 1
	badBoth := slices.Clone(badName)
	badBoth[len(badBoth)-1] ^= 1
	short := badBoth[:len(badBoth)-1]
	ahead := fileOf(good)
	for _, c := range []struct {
		what string
		data []byte
		err  int
	}{
		{"a name", badName, impl.ErrCode}, {"a sum", badSum, impl.ErrSum},
		{"a name ahead of its sum", badBoth, impl.ErrCode}, {"an end ahead of the name and the sum", short, impl.ErrShort},
		{"an end within a name", badName[:6], impl.ErrShort}, {"an end behind a name", badName[:8], impl.ErrShort},
		{"a name ahead of a sum behind", slices.Concat(badName, badSum), impl.ErrCode},
		{"a sum ahead of a name behind", slices.Concat(badSum, badName), impl.ErrSum},
		{"a sum ahead of an end behind", slices.Concat(badSum, short), impl.ErrSum},
		{"a name ahead of an end behind", slices.Concat(badName, short), impl.ErrCode},
	} {
		checkNoChunks(t, c.what, slices.Concat(fileMark, c.data), c.err)
		checkNoChunks(t, c.what+", behind a good one", slices.Concat(ahead, c.data), c.err)
		other := slices.Concat(ahead, c.data)
		other[7]++
		checkNoChunks(t, c.what+", behind other first bytes", other, impl.ErrCode)
	}
}

func TestChunksOfWhichABitIsTurned(t *testing.T) {
	list := []impl.Chunk{chunkOf("NAME"), chunkOf("some", 1, 2, 3, 4, 5, 6, 7), chunkOf("DONE", 0)}
	whole := fileOf(list...)
	for bit := range 8 * len(whole) {
		data := slices.Clone(whole)
		data[bit/8] ^= 1 << (bit % 8)
		err := codeOfPanic(func() { slowChunks(data) })
		if err == 0 {
			t.Fatalf("bit %d is not told", bit)
		}
		checkNoChunks(t, "bit "+strconv.Itoa(bit), data, err)
	}
}

func TestChunksOfAnyBytes(t *testing.T) {
	r := rand.New(rand.NewPCG(5, 5))
	whole := fileOf(chunkOf("HEAD", 1, 2, 3), chunkOf("some"), chunkOf("DATA", someBytes(r, 30)...), chunkOf("DONE"))
	met := [9]int{}
	for i := range 6000 {
		data := hurt(r, whole)
		if i%3 == 0 {
			data = slices.Concat(fileMark, someBytes(r, r.IntN(40)))
		}
		var list []impl.Chunk
		err := codeOfPanic(func() { list = slowChunks(data) })
		met[err]++
		checkChunks(t, "any bytes", data, impl.ChunkRes{Err: err, List: list})
	}
	for _, err := range []int{0, impl.ErrShort, impl.ErrCode, impl.ErrSum} {
		if met[err] < 20 {
			t.Errorf("error %d was met %d times", err, met[err])
		}
	}
}

func TestChunksAreNewMemoryAndReadNoFurther(t *testing.T) {
	list := []impl.Chunk{chunkOf("some", 1, 2, 3), chunkOf("none"), chunkOf("more", 4, 5)}
	whole := fileOf(list...)
	read := impl.ReadChunks(whole)
	for i := range read.List {
		_ = append(read.List[i].Data, 99, 99, 99, 99)
	}
	if !sameChunks(read.List, list) || !bytes.Equal(whole, fileOf(list...)) {
		t.Error("lists share memory")
	}
	for i := range read.List {
		clear(read.List[i].Data)
	}
	checkChunks(t, "read again", whole, impl.ChunkRes{List: list})
	read = impl.ReadChunks(whole)
	clear(whole)
	if !sameChunks(read.List, list) {
		t.Error("the chunks hang on the data")
	}
	whole = fileOf(list...)
	checkNoChunks(t, "no further", whole[:len(whole)-1], impl.ErrShort)
	checkNoChunks(t, "no further than the first bytes", whole[:5], impl.ErrShort)
	c := impl.Chunk{Name: "some", Data: []byte{1, 2, 3, 4, 5, 6, 7, 8}[:3]}
	made := impl.MakeChunk(c)
	if !bytes.Equal(made, whole[8:23]) || !bytes.Equal(c.Data[:8], []byte{1, 2, 3, 4, 5, 6, 7, 8}) {
		t.Errorf("%x", made)
	}
	clear(made)
	if !bytes.Equal(c.Data, []byte{1, 2, 3}) {
		t.Error("the chunk shares memory with its data")
	}
}
