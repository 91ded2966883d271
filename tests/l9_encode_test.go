package tests

import (
	"bytes"
	"math/rand/v2"
	"slices"
	"strconv"
	"strings"
	"testing"

	"loop.example/g00016/impl"
)

// A photoTell is a symbol of a code and the bits behind it as a text of 0 and 1, or bits alone where code is -1.
type photoTell struct {
	code, symbol int
	bits         string
}

// asBits has the lowest bits of a number, the highest of them first.
func asBits(n int, bits int) string {
	text := ""
	for i := bits - 1; i >= 0; i-- {
		text += string(rune('0' + n>>i&1))
	}
	return text
}

// sizedText has a number's size, and its bits: those of a number below 0 are those of its opposite, turned.
func sizedText(n int) (int, string) {
	if n < 0 {
		size, text := sizedText(-n)
		return size, strings.NewReplacer("0", "1", "1", "0").Replace(text)
	}
	size := bitsOfNumber(n)
	return size, asBits(n, size)
}

// codeOf has the number of a plane's code, for first numbers or for others.
func codeOf(plane int, others int) int {
	return 2*min(plane, 1) + others
}

func tellFirst(plane int, difference int) photoTell {
	size, text := sizedText(difference)
	return photoTell{codeOf(plane, 0), size, text}
}

// tellOthers tells the numbers of a block behind its first one.
func tellOthers(plane int, block []int) []photoTell {
	var tells []photoTell
	code := codeOf(plane, 1)
	for _, run := range slowRuns(block) {
		if run.Value == 0 {
			tells = append(tells, photoTell{code: code})
			continue
		}
		for ; run.Zeros > 15; run.Zeros -= 16 {
			tells = append(tells, photoTell{code: code, symbol: 240})
		}
		size, text := sizedText(run.Value)
		tells = append(tells, photoTell{code, 16*run.Zeros + size, text})
	}
	return tells
}

func eachNumber(block []int, change func(int) int) []int {
	var made []int
	for _, number := range block {
		made = append(made, change(number))
	}
	return made
}

// magnitude is how far a number is from 0.
func magnitude(n int) int {
	return max(n, -n)
}

// quarterOf cuts off, towards 0.
func quarterOf(n int) int {
	if n < 0 {
		return -floorOf(-n, 4)
	}
	return floorOf(n, 4)
}

// slowSteps has the four scans.
func slowSteps(p impl.Photo, blocks [][]int) [][]photoTell {
	scans := make([][]photoTell, 4)
	var ahead [3]int
	for i, place := range blockPlaces(p) {
		first := blocks[i][0]
		half := floorOf(first, 2)
		scans[0] = append(scans[0], tellFirst(place.plane, half-ahead[place.plane]))
		ahead[place.plane] = half
		scans[1] = append(scans[1], photoTell{code: -1, bits: asBits(first-2*half, 1)})
		scans[2] = append(scans[2], tellOthers(place.plane, eachNumber(blocks[i], quarterOf))...)
		for _, at := range scanPlaces()[1:] {
			n := blocks[i][at]
			tell := photoTell{code: -1, bits: asBits(magnitude(n)%4, 2)}
			if magnitude(n) < 4 && n != 0 {
				tell.bits += map[bool]string{false: "0", true: "1"}[n < 0]
			}
			scans[3] = append(scans[3], tell)
		}
	}
	return scans
}

func blocksOfUnits(p impl.Photo, units int) int {
	if p.Half {
		return 6 * units
	}
	return len(p.Planes) * units
}

// slowParts has those of the one scan.
func slowParts(p impl.Photo, blocks [][]int) [][]photoTell {
	var parts [][]photoTell
	var ahead [3]int
	for i, place := range blockPlaces(p) {
		if i == 0 || p.Every > 0 && i%blocksOfUnits(p, p.Every) == 0 {
			parts = append(parts, nil)
			ahead = [3]int{}
		}
		last := &parts[len(parts)-1]
		*last = append(*last, tellFirst(place.plane, blocks[i][0]-ahead[place.plane]))
		*last = append(*last, tellOthers(place.plane, blocks[i])...)
		ahead[place.plane] = blocks[i][0]
	}
	return parts
}

func slowTells(p impl.Photo, blocks [][]int) [][]photoTell {
	if p.Steps {
		return slowSteps(p, blocks)
	}
	return slowParts(p, blocks)
}

// codesOf has the lengths of all codes.
func codesOf(p impl.Photo, tells [][]photoTell) [][]int {
	var counts, codes [][]int
	for range len(p.Planes) + 1 {
		counts = append(counts, make([]int, 256))
	}
	for _, tell := range slices.Concat(tells...) {
		if tell.code >= 0 {
			counts[tell.code][tell.symbol]++
		}
	}
	for _, list := range counts {
		codes = append(codes, impl.CodeLengths(list, 15))
	}
	return codes
}

func photoHead(p impl.Photo) []byte {
	flags := 0
	if p.Half {
		flags += 1
	}
	if p.Steps {
		flags += 2
	}
	if len(p.Planes) == 3 {
		flags += 4
	}
	return []byte{80, 72, 79, 49, byte(p.Width / 256), byte(p.Width), byte(p.Height / 256), byte(p.Height), byte(p.Quality), byte(flags), byte(p.Every / 256), byte(p.Every)}
}

// codeBytes tells a code.
func codeBytes(lengths []int) []byte {
	var pairs []byte
	for symbol, length := range lengths {
		if length > 0 {
			pairs = append(pairs, byte(symbol), byte(length))
		}
	}
	many := len(pairs) / 2
	if many > 127 {
		return slices.Concat([]byte{byte(many%128 + 128), byte(many / 128)}, pairs)
	}
	return slices.Concat([]byte{byte(many)}, pairs)
}

// withZeros has a 0 behind each byte of 255.
func withZeros(data []byte) []byte {
	var made []byte
	for _, b := range data {
		made = append(made, b)
		if b == 255 {
			made = append(made, 0)
		}
	}
	return made
}

func scanText(tells []photoTell, texts [][]string) string {
	var text strings.Builder
	for _, tell := range tells {
		if tell.code >= 0 {
			text.WriteString(texts[tell.code][tell.symbol])
		}
		text.WriteString(tell.bits)
	}
	return text.String()
}

// tellPhoto has a file's parts: head, codes, and then each scan or part by itself, without marks.
func tellPhoto(p impl.Photo, tells [][]photoTell, codes [][]int) [][]byte {
	list := [][]byte{photoHead(p)}
	var texts [][]string
	for _, lengths := range codes {
		list[0] = append(list[0], codeBytes(lengths)...)
		texts = append(texts, wordTexts(lengths))
	}
	for _, scan := range tells {
		list = append(list, withZeros(textBytes(scanText(scan, texts))))
	}
	return list
}

// withMarks joins a file's parts.
func withMarks(p impl.Photo, list [][]byte) []byte {
	file := slices.Clone(list[0])
	for i, part := range list[1:] {
		if i > 0 && !p.Steps {
			file = append(file, 255, byte(208+(i-1)%8))
		}
		file = append(file, part...)
	}
	return file
}

// slowPhotoFile tells any blocks, whether they are some photo's or not.
func slowPhotoFile(p impl.Photo, blocks [][]int) []byte {
	tells := slowTells(p, blocks)
	return withMarks(p, tellPhoto(p, tells, codesOf(p, tells)))
}

// checkEncoded asks for the file, and what is read of it.
func checkEncoded(t *testing.T, p impl.Photo) []byte {
	t.Helper()
	got, want := fileMade(t, p), slowPhotoFile(p, slowPhotoBlocks(p))
	if !bytes.Equal(got, want) {
		t.Fatalf("%s: a file of %d bytes, not %d, or others\n%v\n%v", describedPhoto(p), len(got), len(want), got[:min(300, len(got))], want[:min(300, len(want))])
	}
	read := checkPhotoFile(t, describedPhoto(p), got, 0)
	blocks := impl.PhotoBlocks(p)
	if !sameLists(read.Blocks, blocks) || !samePhoto(read.Photo, impl.PhotoOf(p, blocks)) {
		t.Fatalf("%s: what is read is not what was told", describedPhoto(p))
	}
	return got
}

func TestEncodePhotoByHand(t *testing.T) {
	p := plainPhoto(8, 8, 1)
	p.Planes[0] = alike(228, 64)
	want := []byte{80, 72, 79, 49, 0, 8, 0, 8, 50, 0, 0, 0, 1, 7, 1, 1, 0, 1, 0x64, 0}
	if got := checkEncoded(t, p); !bytes.Equal(got, want) {
		t.Errorf("%v", got)
	}
	// With steps: 50 as a half and a bit 0; no quarters; 63 times no last two bits.
	p.Steps = true
	want = slices.Concat([]byte{80, 72, 79, 49, 0, 8, 0, 8, 50, 2, 0, 0, 1, 6, 1, 1, 0, 1}, textBytes("0110010"), textBytes("0"), textBytes("0"), make([]byte, 16))
	if got := checkEncoded(t, p); !bytes.Equal(got, want) {
		t.Errorf("steps: %v", got)
	}
	// Three planes, of which the second one's blocks are 8, 8 and the third one's -8, -8: differences within each.
	p = plainPhoto(16, 8, 3)
	p.Planes[1], p.Planes[2] = alike(138, 128), alike(118, 128)
	want = slices.Concat([]byte{80, 72, 79, 49, 0, 16, 0, 8, 50, 4, 0, 0, 1, 0, 1, 1, 0, 1, 2, 0, 1, 4, 1, 1, 0, 1},
		textBytes("0"+"0"+"11000"+"0"+"10111"+"0"+"0"+"0"+"0"+"0"+"0"+"0"))
	if got := checkEncoded(t, p); !bytes.Equal(got, want) {
		t.Errorf("three planes: %v, not %v", got, want)
	}
}

func TestEncodePhotoOfHeads(t *testing.T) {
	for _, c := range [][2]int{{1, 1}, {255, 1}, {256, 1}, {257, 3}, {512, 8}, {1, 512}, {3, 259}} {
		for _, planes := range []int{1, 3} {
			for flags := range 4 {
				p := plainPhoto(c[0], c[1], planes)
				p.Half, p.Steps, p.Quality = flags&1 > 0 && planes == 3, flags&2 > 0, 1+7*flags
				for _, every := range []int{0, 1, 5, 255, 256, 1000} {
					if p.Steps && every > 0 {
						continue
					}
					p.Every = every
					file := checkEncoded(t, p)
					bits := flags &^ 1
					if p.Half {
						bits++
					}
					if planes == 3 {
						bits += 4
					}
					want := []byte{80, 72, 79, 49, byte(c[0] >> 8), byte(c[0]), byte(c[1] >> 8), byte(c[1]), byte(p.Quality), byte(bits), byte(every >> 8), byte(every)}
					if !bytes.Equal(file[:12], want) {
						t.Errorf("%s: %v, not %v", describedPhoto(p), file[:12], want)
					}
				}
			}
		}
	}
}

func TestEncodePhotoOfSomePhotos(t *testing.T) {
	r := rand.New(rand.NewPCG(9, 10))
	longest, lengths := 0, map[int]bool{}
	for range 500 {
		p := somePhoto(r)
		file := checkEncoded(t, p)
		longest = max(longest, len(file))
		for _, list := range codesOf(p, slowTells(p, slowPhotoBlocks(p))) {
			lengths[slices.Max(list)] = true
		}
	}
	// Codes of a single symbol, and long ones.
	if !lengths[1] || !lengths[12] {
		t.Errorf("greatest lengths %v", lengths)
	}
	for _, half := range []bool{false, true} {
		for _, steps := range []bool{false, true} {
			p := impl.Photo{Width: 64, Height: 64, Quality: 100, Half: half, Steps: steps}
			for range 3 {
				p.Planes = append(p.Planes, starkPlane(r, 64, 64).Samples)
			}
			longest = max(longest, len(checkEncoded(t, p)))
		}
	}
	// As much as a good photo can have in it is far from MaxFile.
	if longest < 10000 || longest > impl.MaxFile/2 {
		t.Errorf("the longest file has %d bytes", longest)
	}
}

// photoOfBlocks is a photo that has just these blocks, of the least quality from its own on that lets it.
func photoOfBlocks(t *testing.T, p impl.Photo, blocks [][]int) impl.Photo {
	t.Helper()
	for ; p.Quality <= 100; p.Quality++ {
		made := impl.PhotoOf(p, blocks)
		if sameLists(impl.PhotoBlocks(made), blocks) {
			return made
		}
	}
	t.Fatalf("%s: no photo has these blocks: %v", describedPhoto(p), blocks)
	return impl.Photo{}
}

// inScan has numbers at places in scan order.
func inScan(numbers map[int]int) []int {
	block := make([]int, 64)
	for at, number := range numbers {
		block[scanPlaces()[at]] = number
	}
	return block
}

// The symbols that come in a file of one block, in the order of the scan.
func symbolsOf(t *testing.T, p impl.Photo) []int {
	t.Helper()
	checkEncoded(t, p)
	var symbols []int
	for _, tell := range slices.Concat(slowTells(p, impl.PhotoBlocks(p))...) {
		if tell.code%2 == 1 {
			symbols = append(symbols, tell.symbol)
		}
	}
	return symbols
}

func TestEncodePhotoOfRuns(t *testing.T) {
	for _, c := range []struct {
		numbers map[int]int
		want    []int
	}{
		{map[int]int{}, []int{0}},
		{map[int]int{1: 1}, []int{0x01, 0}},
		{map[int]int{1: -1, 2: 2}, []int{0x01, 0x02, 0}},
		{map[int]int{16: 1}, []int{0xF1, 0}},
		{map[int]int{17: 1}, []int{0xF0, 0x01, 0}},
		{map[int]int{18: -2}, []int{0xF0, 0x12, 0}},
		{map[int]int{32: 1}, []int{0xF0, 0xF1, 0}},
		{map[int]int{33: 1}, []int{0xF0, 0xF0, 0x01, 0}},
		{map[int]int{49: 1}, []int{0xF0, 0xF0, 0xF0, 0x01, 0}},
		{map[int]int{62: 1}, []int{0xF0, 0xF0, 0xF0, 0xD1, 0}},
		{map[int]int{63: 1}, []int{0xF0, 0xF0, 0xF0, 0xE1}},
		{map[int]int{62: 1, 63: -1}, []int{0xF0, 0xF0, 0xF0, 0xD1, 0x01}},
		{map[int]int{4: 3, 20: -1, 37: 1}, []int{0x32, 0xF1, 0xF0, 0x01, 0}},
	} {
		p := plainPhoto(8, 8, 1)
		p = photoOfBlocks(t, p, [][]int{inScan(c.numbers)})
		if got := symbolsOf(t, p); !slices.Equal(got, c.want) {
			t.Errorf("%v: %x, not %x", c.numbers, got, c.want)
		}
		p = plainPhoto(8, 8, 3)
		p = photoOfBlocks(t, p, [][]int{evenBlock(0), inScan(c.numbers), inScan(c.numbers)})
		if got := symbolsOf(t, p); !slices.Equal(got, slices.Concat([]int{0}, c.want, c.want)) {
			t.Errorf("%v in colours: %x, not %x", c.numbers, got, c.want)
		}
	}
}

// A block in which no number is 0 has no run to its end.
func TestEncodePhotoOfAFullBlock(t *testing.T) {
	numbers := map[int]int{}
	for at := 1; at < 64; at++ {
		numbers[at] = 1 - 2*(at%2)
	}
	p := plainPhoto(8, 8, 1)
	if got := symbolsOf(t, photoOfBlocks(t, p, [][]int{inScan(numbers)})); !slices.Equal(got, alike(1, 63)) {
		t.Errorf("%x", got)
	}
}

// The greatest differences that good photos have are of 11 bits.
func TestEncodePhotoOfSizes(t *testing.T) {
	p := plainPhoto(8, 16, 1)
	p.Quality = 100
	for _, c := range []struct{ upper, lower, first, second int }{
		{0, 255, 11, 11}, {255, 0, 10, 11}, {128, 128, 0, 0}, {129, 129, 4, 0}, {127, 127, 4, 0}, {136, 255, 7, 10}, {64, 64, 10, 0}, {65, 64, 9, 4},
	} {
		p.Planes[0] = slices.Concat(alike(c.upper, 64), alike(c.lower, 64))
		checkEncoded(t, p)
		tells := slowTells(p, impl.PhotoBlocks(p))[0]
		if tells[0].symbol != c.first || tells[2].symbol != c.second {
			t.Errorf("%v: sizes %d and %d", c, tells[0].symbol, tells[2].symbol)
		}
	}
	// Rows and columns as the matrix has them give the greatest of the others.
	greatest := 0
	for v := range 8 {
		for u := range 8 {
			for _, sides := range [][2]int{{0, 255}, {255, 0}} {
				p := plainPhoto(8, 8, 1)
				p.Quality, p.Planes[0] = 100, waveBlock(v, u, sides[0], sides[1])
				checkEncoded(t, p)
				for _, tell := range slowTells(p, impl.PhotoBlocks(p))[0][1:] {
					greatest = max(greatest, tell.symbol%16)
				}
			}
		}
	}
	if greatest != 10 && greatest != 11 {
		t.Errorf("the greatest size is %d", greatest)
	}
}

func TestEncodePhotoOfMarks(t *testing.T) {
	r := rand.New(rand.NewPCG(9, 11))
	for _, half := range []bool{false, true} {
		p := impl.Photo{Width: 33, Height: 100, Quality: 30, Half: half}
		for range 3 {
			p.Planes = append(p.Planes, smoothSamples(r, 33, 100, 40))
		}
		units := 65
		if half {
			units = 21
		}
		for every := range units + 3 {
			p.Every = every
			file := checkEncoded(t, p)
			var marks []int
			for i := 12; i+1 < len(file); i++ {
				if file[i] == 255 && file[i+1] != 0 {
					marks = append(marks, int(file[i+1]))
				}
			}
			var want []int
			for i := every; every > 0 && i < units; i += every {
				want = append(want, 208+len(want)%8)
			}
			if !slices.Equal(marks, want) {
				t.Errorf("half %v, every %d: marks %v, not %v", half, every, marks, want)
			}
		}
	}
}

// Behind a mark first numbers stand as they are, in each plane.
func TestEncodePhotoBeginsAnewBehindMarks(t *testing.T) {
	p := plainPhoto(8, 24, 3)
	p.Planes[0], p.Planes[1], p.Planes[2] = alike(228, 192), alike(138, 192), alike(118, 192)
	plain := checkEncoded(t, p)
	p.Every = 1
	marked := checkEncoded(t, p)
	block := func(tells [][]photoTell) []int {
		var sizes []int
		for _, tell := range slices.Concat(tells...) {
			if tell.code%2 == 0 {
				sizes = append(sizes, tell.symbol)
			}
		}
		return sizes
	}
	if got := block(slowTells(p, impl.PhotoBlocks(p))); !slices.Equal(got, []int{7, 4, 4, 7, 4, 4, 7, 4, 4}) {
		t.Errorf("sizes %v", got)
	}
	if bytes.Equal(plain, marked) {
		t.Error("no marks")
	}
	// One code each of one symbol alone: 0 and 100, 0; 0 and 8, 0; 0 and -8, 0.
	part := textBytes("0" + "1100100" + "0" + "0" + "1000" + "0" + "0" + "0111" + "0")
	want := slices.Concat(photoHead(p), []byte{1, 7, 1, 1, 0, 1, 1, 4, 1, 1, 0, 1}, part, []byte{255, 208}, part, []byte{255, 209}, part)
	if !bytes.Equal(marked, want) {
		t.Errorf("%v, not %v", marked, want)
	}
}

// onesAtTheEnd is a block of samples whose last number in scan order is one of ones alone, or next to it.
func onesAtTheEnd(r *rand.Rand) []int {
	block := someBlock(r, 4)
	block[63] = []int{255, 511}[r.IntN(2)]
	return eachNumber(slowInverse(block), func(n int) int { return clippedNumber(n + 128) })
}

// A byte 255 within a scan, at the end of a part, and at the end of the file.
func TestEncodePhotoOfBytes255(t *testing.T) {
	r := rand.New(rand.NewPCG(9, 12))
	within, ahead, last := 0, 0, 0
	for range 200 {
		p := plainPhoto(8, 16, 1)
		p.Quality, p.Every = 100, 1
		p.Planes[0] = slices.Concat(onesAtTheEnd(r), onesAtTheEnd(r))
		file := checkEncoded(t, p)
		within += bytes.Count(file[12:], []byte{255, 0})
		ahead += bytes.Count(file[12:], []byte{255, 0, 255, 208})
		if bytes.HasSuffix(file, []byte{255, 0}) {
			last++
		}
		p.Every, p.Steps = 0, true
		checkEncoded(t, p)
	}
	if within < 100 || ahead < 5 || last < 5 {
		t.Errorf("%d bytes 255 within, %d ahead of a mark, %d at the end", within, ahead, last)
	}
}

// Halves and last bits of first numbers below 0 go downwards, quarters of others towards 0.
func TestEncodePhotoWithStepsByHand(t *testing.T) {
	for _, c := range []struct {
		first          int
		half, lastBits string
	}{{0, "", "0"}, {1, "", "1"}, {2, "1", "0"}, {3, "1", "1"}, {-1, "0", "1"}, {-2, "0", "0"}, {-3, "01", "1"}, {-4, "01", "0"}, {5, "10", "1"}, {-5, "00", "1"}} {
		p := plainPhoto(8, 8, 1)
		p.Steps = true
		p = photoOfBlocks(t, p, [][]int{loneBlock(0, c.first)})
		want := slices.Concat(photoHead(p), []byte{1, byte(len(c.half)), 1, 1, 0, 1}, withZeros(textBytes("0"+c.half)), textBytes(c.lastBits), []byte{0}, make([]byte, 16))
		if got := checkEncoded(t, p); !bytes.Equal(got, want) {
			t.Errorf("first number %d: %v, not %v", c.first, got, want)
		}
	}
	for _, c := range []struct {
		number        int
		quarter, rest string
	}{
		{1, "", "010"}, {2, "", "100"}, {3, "", "110"}, {4, "1", "00"}, {5, "1", "01"}, {7, "1", "11"}, {8, "10", "00"}, {11, "10", "11"},
		{-1, "", "011"}, {-2, "", "101"}, {-3, "", "111"}, {-4, "0", "00"}, {-5, "0", "01"}, {-7, "0", "11"}, {-8, "01", "00"}, {-13, "00", "01"},
	} {
		for _, at := range []int{1, 2, 20, 62, 63} {
			p := plainPhoto(8, 8, 1)
			p.Steps = true
			p = photoOfBlocks(t, p, [][]int{inScan(map[int]int{at: c.number})})
			file := checkEncoded(t, p)
			rest := textBytes(strings.Repeat("00", at-1) + c.rest + strings.Repeat("00", 63-at))
			if !bytes.HasSuffix(file, withZeros(rest)) {
				t.Errorf("number %d at %d: %v", c.number, at, file)
			}
			tells := slowTells(p, impl.PhotoBlocks(p))[2]
			number := slices.IndexFunc(tells, func(tell photoTell) bool { return tell.bits != "" })
			if c.quarter == "" && number >= 0 || c.quarter != "" && (number < 0 || tells[number].bits != c.quarter) {
				t.Errorf("number %d at %d: %v", c.number, at, tells)
			}
		}
	}
}

// With and without steps the same picture has other codes and other bytes, and the same blocks.
func TestEncodePhotoWithStepsAndWithout(t *testing.T) {
	r := rand.New(rand.NewPCG(9, 13))
	for range 80 {
		p := somePhoto(r)
		p.Steps, p.Every = false, 0
		steps := p
		steps.Steps = true
		plain, stepped := impl.DecodePhoto(checkEncoded(t, p)), impl.DecodePhoto(checkEncoded(t, steps))
		if !sameLists(plain.Blocks, stepped.Blocks) || !sameLists(plain.Photo.Planes, stepped.Photo.Planes) {
			t.Fatalf("%s: another picture with steps", describedPhoto(p))
		}
		if plain.Photo.Steps || !stepped.Photo.Steps {
			t.Fatalf("%s: Steps got lost", describedPhoto(p))
		}
	}
}

func TestEncodePhotoOfPhotosThatAreNotGood(t *testing.T) {
	for what, p := range map[string]impl.Photo{
		"the zero value":   {},
		"no planes":        {Width: 8, Height: 8, Quality: 50},
		"two planes":       plainPhoto(8, 8, 2),
		"a plane too few":  {Width: 8, Height: 8, Quality: 50, Planes: [][]int{evenBlock(1), evenBlock(2), evenBlock(3)[:63]}},
		"half of one":      {Width: 8, Height: 8, Quality: 50, Half: true, Planes: [][]int{evenBlock(1)}},
		"marks with steps": {Width: 8, Height: 8, Quality: 50, Steps: true, Every: 1, Planes: [][]int{evenBlock(1)}},
		"quality 0":        {Width: 8, Height: 8, Planes: [][]int{evenBlock(1)}},
		"quality 101":      {Width: 8, Height: 8, Quality: 101, Planes: [][]int{evenBlock(1)}},
		"every 1001":       {Width: 8, Height: 8, Quality: 50, Every: 1001, Planes: [][]int{evenBlock(1)}},
		"a sample of 256":  {Width: 8, Height: 8, Quality: 50, Planes: [][]int{evenBlock(256)}},
		"a sample of -1":   {Width: 8, Height: 8, Quality: 50, Planes: [][]int{evenBlock(-1)}},
	} {
		if got := fileMade(t, p); len(got) > 0 {
			t.Errorf("%s: a file of %d bytes", what, len(got))
		}
	}
}

// steepCounts has how often symbols come, each more often than all but the one ahead of it do together; one of them is
// as many as there are blocks. Without a limit the code of seventeen such symbols has each length from 1 to 16.
var steepCounts = []struct{ symbol, many int }{
	{0x01, 1792}, {0x02, 1104}, {0x03, 688}, {0x11, 416}, {0x12, 272}, {0x21, 144}, {0x00, 128}, {0x22, 55}, {0x31, 34},
	{0x41, 21}, {0x51, 13}, {0x61, 8}, {0x71, 5}, {0x81, 3}, {0x91, 2}, {0xA1, 1}, {0xB1, 1},
}

// steepBlocks lays the symbols out in 128 blocks, each with an end.
func steepBlocks(r *rand.Rand) [][]int {
	lists := make([][]int, 128)
	next := 0
	for _, c := range steepCounts[1:] {
		for range c.many * min(c.symbol, 1) {
			lists[next%128] = append(lists[next%128], c.symbol)
			next++
		}
	}
	for range steepCounts[0].many {
		lists[next%128] = append(lists[next%128], steepCounts[0].symbol)
		next++
	}
	var blocks [][]int
	for _, symbols := range lists {
		r.Shuffle(len(symbols), func(i, j int) { symbols[i], symbols[j] = symbols[j], symbols[i] })
		var numbers []int
		for _, symbol := range symbols {
			number := 1 << (symbol%16 - 1)
			numbers = append(numbers, alike(0, symbol/16)...)
			numbers = append(numbers, number*(1-2*r.IntN(2)))
		}
		blocks = append(blocks, scanned(0, numbers))
	}
	return blocks
}

func TestEncodePhotoOfWordsAsLongAsMayBe(t *testing.T) {
	p := plainPhoto(64, 64, 3)
	var blocks [][]int
	for pair := range slices.Chunk(steepBlocks(rand.New(rand.NewPCG(9, 15))), 2) {
		blocks = append(blocks, evenBlock(0), pair[0], pair[1])
	}
	p = photoOfBlocks(t, p, blocks)
	checkEncoded(t, p)
	counts := make([]int, 256)
	for _, tell := range slices.Concat(slowTells(p, blocks)...) {
		if tell.code == 3 {
			counts[tell.symbol]++
		}
	}
	for _, c := range steepCounts {
		if counts[c.symbol] != c.many {
			t.Errorf("symbol %x comes %d times, not %d", c.symbol, counts[c.symbol], c.many)
		}
	}
	lengths := codesOf(p, slowTells(p, blocks))[3]
	if lengths[0x01] != 2 || lengths[0xB1] != 15 || !slices.Equal(lengths, lengthsByRows(counts, 15)) {
		t.Errorf("lengths %v", lengths)
	}
}

// Whatever the symbols are, the code of each file is the least that any code of at most 15 bits can be.
func TestEncodePhotoOfLeastCodes(t *testing.T) {
	r := rand.New(rand.NewPCG(9, 14))
	for range 20 {
		p := somePhoto(r)
		tells := slowTells(p, slowPhotoBlocks(p))
		for i, lengths := range codesOf(p, tells) {
			counts := make([]int, 256)
			for _, tell := range slices.Concat(tells...) {
				if tell.code == i {
					counts[tell.symbol]++
				}
			}
			if want := lengthsByRows(counts, 15); !slices.Equal(lengths, want) {
				t.Fatalf("%s: code %s has other lengths", describedPhoto(p), strconv.Itoa(i))
			}
		}
	}
}
