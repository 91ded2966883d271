package tests

import (
	"bytes"
	"math/rand/v2"
	"slices"
	"strconv"
	"strings"
	"testing"

	"loop.example/g00016/impl"
)

// A wordBook has the words of a code as texts, and all that words begin with.
type wordBook struct {
	symbols map[string]int
	starts  map[string]bool
}

func bookOf(lengths []int) wordBook {
	b := wordBook{symbols: map[string]int{}, starts: map[string]bool{}}
	for symbol, text := range wordTexts(lengths) {
		if text == "" {
			continue
		}
		b.symbols[text] = symbol
		for many := range text {
			b.starts[text[:many]] = true
		}
	}
	return b
}

// A photoWalker goes through a file bit by bit; it panics with the error.
type photoWalker struct {
	data  []byte
	at    int
	left  string
	photo impl.Photo
	books []wordBook
}

func (w *photoWalker) next() int {
	if w.at == len(w.data) {
		panic(impl.ErrShort)
	}
	w.at++
	return int(w.data[w.at-1])
}

func (w *photoWalker) bit() string {
	if w.left == "" {
		b := w.next()
		if b == 255 && w.next() != 0 {
			panic(impl.ErrCode)
		}
		w.left = asBits(b, 8)
	}
	bit := w.left[:1]
	w.left = w.left[1:]
	return bit
}

func (w *photoWalker) number(bits int) int {
	n := 0
	for range bits {
		n *= 2
		if w.bit() == "1" {
			n++
		}
	}
	return n
}

func (w *photoWalker) symbol(code int) int {
	word := ""
	for {
		word += w.bit()
		if symbol, ok := w.books[code].symbols[word]; ok {
			return symbol
		}
		if !w.books[code].starts[word] {
			panic(impl.ErrCode)
		}
	}
}

// sized is the number of that size whose bits come: those of a number below 0 begin with a 0.
func (w *photoWalker) sized(size int) int {
	if size == 0 {
		return 0
	}
	n := w.number(size)
	for _, number := range []int{n, n + 1 - 1<<size} {
		if got, text := sizedText(number); got == size && text == asBits(n, size) {
			return number
		}
	}
	panic("no number has these bits")
}

func (w *photoWalker) fill() {
	if strings.Contains(w.left, "1") {
		panic(impl.ErrCode)
	}
	w.left = ""
}

func (w *photoWalker) mark(part int) {
	first, second := w.next(), w.next()
	if first != 255 || second != 208+part%8 {
		panic(impl.ErrCode)
	}
}

func mustBeNumber(n int) int {
	if n < -2047 || n > 2047 {
		panic(impl.ErrRange)
	}
	return n
}

func (w *photoWalker) first(plane int, ahead int) int {
	return mustBeNumber(ahead + w.sized(w.symbol(codeOf(plane, 0))))
}

// others has the 63 numbers in scan order, as runs tell them.
func (w *photoWalker) others(plane int) []int {
	var list []int
	for len(list) < 63 {
		symbol := w.symbol(codeOf(plane, 1))
		zeros, size := floorOf(symbol, 16), symbol%16
		if symbol == 0 {
			return append(list, alike(0, 63-len(list))...)
		}
		if symbol == 240 {
			zeros = 16
		}
		list = append(list, alike(0, zeros)...)
		if len(list) > 62 || size == 0 && symbol != 240 {
			panic(impl.ErrCode)
		}
		if symbol != 240 {
			list = append(list, mustBeNumber(w.sized(size)))
		}
	}
	return list
}

func (w *photoWalker) takeMarkBytes() {
	for _, want := range []int{80, 72, 79, 49} {
		if w.next() != want {
			panic(impl.ErrCode)
		}
	}
}

func (w *photoWalker) head() {
	w.takeMarkBytes()
	var list []int
	for range 8 {
		list = append(list, w.next())
	}
	flags := list[5]
	p := impl.Photo{Width: 256*list[0] + list[1], Height: 256*list[2] + list[3], Quality: list[4], Every: 256*list[6] + list[7]}
	p.Half, p.Steps = flags%2 == 1, flags/2%2 == 1
	planes := 1
	if flags/4%2 == 1 {
		planes = 3
	}
	if flags > 7 || p.Width < 1 || p.Width > 512 || p.Height < 1 || p.Height > 512 || p.Width*p.Height > 4096 {
		panic(impl.ErrRange)
	}
	if p.Quality < 1 || p.Quality > 100 || p.Every > 1000 || p.Half && planes == 1 || p.Steps && p.Every > 0 {
		panic(impl.ErrRange)
	}
	for range planes {
		p.Planes = append(p.Planes, alike(0, p.Width*p.Height))
	}
	w.photo = p
}

func (w *photoWalker) code(kind int) {
	n := oneNumber(w.data, w.at)
	if !n.Ok {
		panic(impl.ErrShort)
	}
	w.at = n.Next
	if n.Value > 256 {
		panic(impl.ErrRange)
	}
	lengths := make([]int, 256)
	for last := -1; n.Value > 0; n.Value-- {
		symbol, length := w.next(), w.next()
		if symbol <= last || length < 1 || length > 15 {
			panic(impl.ErrRange)
		}
		lengths[symbol], last = length, symbol
	}
	if slices.Max(lengths) > 0 && kindByShares(lengths) == 0 || kind == 0 && slices.Max(lengths[13:]) > 0 {
		panic(impl.ErrCode)
	}
	w.books = append(w.books, bookOf(lengths))
}

func (w *photoWalker) headAndCodes() {
	if len(w.data) > 60000 {
		panic(impl.ErrForm)
	}
	w.head()
	for code := range len(w.photo.Planes) + 1 {
		w.code(code % 2)
	}
}

// part has the blocks of units from one of them on.
func (w *photoWalker) part(places []blockPlace) [][]int {
	var blocks [][]int
	var ahead [3]int
	for _, place := range places {
		ahead[place.plane] = w.first(place.plane, ahead[place.plane])
		blocks = append(blocks, scanned(ahead[place.plane], w.others(place.plane)))
	}
	w.fill()
	return blocks
}

func (w *photoWalker) parts() [][]int {
	var blocks [][]int
	places := blockPlaces(w.photo)
	each := len(places)
	if w.photo.Every > 0 {
		each = blocksOfUnits(w.photo, w.photo.Every)
	}
	for i, part := 0, 0; i < len(places); i, part = i+each, part+1 {
		if part > 0 {
			w.mark(part - 1)
		}
		blocks = append(blocks, w.part(places[i:min(i+each, len(places))])...)
	}
	return blocks
}

// rest has the number whose quarter is known.
func (w *photoWalker) rest(quarter int) int {
	n := w.number(2)
	switch {
	case quarter > 0:
		return mustBeNumber(4*quarter + n)
	case quarter < 0:
		return mustBeNumber(4*quarter - n)
	case n > 0 && w.bit() == "1":
		return -n
	}
	return n
}

func (w *photoWalker) steps() [][]int {
	places := blockPlaces(w.photo)
	var firsts []int
	var quarters, blocks [][]int
	var ahead [3]int
	for _, place := range places {
		ahead[place.plane] = w.first(place.plane, ahead[place.plane])
		firsts = append(firsts, ahead[place.plane])
	}
	w.fill()
	for i := range places {
		firsts[i] = mustBeNumber(2*firsts[i] + w.number(1))
	}
	w.fill()
	for _, place := range places {
		quarters = append(quarters, w.others(place.plane))
	}
	w.fill()
	for i := range places {
		for at, quarter := range quarters[i] {
			quarters[i][at] = w.rest(quarter)
		}
		blocks = append(blocks, scanned(firsts[i], quarters[i]))
	}
	w.fill()
	return blocks
}

func slowDecodePhoto(data []byte) impl.PhotoRes {
	w := photoWalker{data: data}
	var blocks [][]int
	err := codeOfPanic(func() {
		w.headAndCodes()
		if w.photo.Steps {
			blocks = w.steps()
		} else {
			blocks = w.parts()
		}
		if w.at < len(w.data) {
			panic(impl.ErrMore)
		}
	})
	if err != 0 {
		return impl.PhotoRes{Err: err}
	}
	return impl.PhotoRes{Photo: slowPhotoOf(w.photo, blocks), Blocks: blocks}
}

// photoRead reads a file twice, amid other memory.
func photoRead(t *testing.T, what string, data []byte) impl.PhotoRes {
	t.Helper()
	around, handed := amid(data, 0)
	was := slices.Clone(around)
	got, again := impl.DecodePhoto(handed), impl.DecodePhoto(handed)
	if got.Err != again.Err || !samePhoto(got.Photo, again.Photo) || !sameLists(got.Blocks, again.Blocks) {
		t.Errorf("%s: two calls are not alike", what)
	}
	if !bytes.Equal(around, was) {
		t.Errorf("%s: the data were written", what)
	}
	kept := impl.PhotoRes{Err: got.Err, Photo: clonePhoto(got.Photo), Blocks: cloneLists(got.Blocks)}
	checkApart(t, what, nil, slices.Concat(got.Blocks, got.Photo.Planes, again.Blocks, again.Photo.Planes)...)
	return kept
}

// checkPhotoFile asks RepairPhoto about the file too.
func checkPhotoFile(t *testing.T, what string, data []byte, err int) impl.PhotoRes {
	t.Helper()
	got := checkAnyPhotoFile(t, what, data)
	if got.Err != err {
		t.Errorf("%s: error %d, not %d", what, got.Err, err)
	}
	return got
}

// checkAnyPhotoFile holds what is read against a slow reader alone.
func checkAnyPhotoFile(t *testing.T, what string, data []byte) impl.PhotoRes {
	t.Helper()
	got, want := photoRead(t, what, data), slowDecodePhoto(data)
	if got.Err != want.Err || !samePhoto(got.Photo, want.Photo) || !sameLists(got.Blocks, want.Blocks) {
		t.Errorf("%s: error %d, %s and %d blocks, not %d, %s and %d, or others in them", what, got.Err, describedPhoto(got.Photo), len(got.Blocks), want.Err, describedPhoto(want.Photo), len(want.Blocks))
	}
	if got.Err != 0 && (len(got.Blocks) > 0 || !isNoPhoto(got.Photo)) {
		t.Errorf("%s: error %d, and more beside it", what, got.Err)
	}
	if got.Err == 0 && (!impl.GoodPhoto(got.Photo) || !samePhoto(got.Photo, impl.PhotoOf(got.Photo, got.Blocks))) {
		t.Errorf("%s: the photo is not what PhotoOf makes of the blocks", what)
	}
	checkRepaired(t, what, data)
	return got
}

// plainCodes have a word of four bits for each first size, and one of eight bits, itself, for each other symbol.
func plainCodes(planes int) []byte {
	first, other := make([]int, 256), alike(8, 256)
	copy(first, alike(4, 13))
	pair := slices.Concat(codeBytes(first), codeBytes(other))
	if planes == 3 {
		return slices.Concat(pair, pair)
	}
	return pair
}

// firstText tells a first number or its difference by the plain code.
func firstText(n int) string {
	size, text := sizedText(n)
	return asBits(size, 4) + text
}

// runText tells a number behind so many zeros by the plain code.
func runText(zeros int, n int) string {
	size, text := sizedText(n)
	return asBits(16*zeros+size, 8) + text
}

const (
	endText  = "00000000"
	longText = "11110000"
)

// plainFile has the head of such a photo, the plain codes, and scans of these bits, one behind the other.
func plainFile(p impl.Photo, scans ...string) []byte {
	file := slices.Concat(photoHead(p), plainCodes(len(p.Planes)))
	for _, text := range scans {
		file = append(file, withZeros(textBytes(text))...)
	}
	return file
}

// checkScans asks for the error of a file with such scans, and of the same file where there is more behind it.
func checkScans(t *testing.T, what string, p impl.Photo, err int, scans ...string) impl.PhotoRes {
	t.Helper()
	file := plainFile(p, scans...)
	more := err
	if err == 0 {
		more = impl.ErrMore
	}
	if err != impl.ErrShort {
		checkPhotoFile(t, what+", a byte more", append(slices.Clone(file), 0), more)
		checkPhotoFile(t, what+", a byte 255 more", append(slices.Clone(file), 255), more)
	}
	return checkPhotoFile(t, what, file, err)
}

func TestDecodePhotoByHand(t *testing.T) {
	p := plainPhoto(8, 8, 1)
	got := checkScans(t, "one block", p, 0, firstText(-5)+runText(0, 7)+runText(2, -1)+endText)
	if want := [][]int{withFirst(inScan(map[int]int{1: 7, 4: -1}), -5)}; !sameLists(got.Blocks, want) {
		t.Errorf("%v, not %v", got.Blocks, want)
	}
	p = plainPhoto(8, 8, 3)
	got = checkScans(t, "three blocks", p, 0, firstText(1)+endText+firstText(2)+endText+firstText(3)+endText)
	if want := [][]int{loneBlock(0, 1), loneBlock(0, 2), loneBlock(0, 3)}; !sameLists(got.Blocks, want) {
		t.Errorf("%v, not %v", got.Blocks, want)
	}
	p = plainPhoto(16, 8, 3)
	got = checkScans(t, "six blocks", p, 0, strings.Repeat(firstText(1)+endText+firstText(2)+endText+firstText(3)+endText, 2))
	if want := [][]int{loneBlock(0, 1), loneBlock(0, 2), loneBlock(0, 3), loneBlock(0, 2), loneBlock(0, 4), loneBlock(0, 6)}; !sameLists(got.Blocks, want) {
		t.Errorf("%v, not %v", got.Blocks, want)
	}
	p.Half = true
	got = checkScans(t, "six blocks of one unit", p, 0, strings.Repeat(firstText(1)+endText, 4)+firstText(2)+endText+firstText(3)+endText)
	if want := [][]int{loneBlock(0, 1), loneBlock(0, 2), loneBlock(0, 3), loneBlock(0, 4), loneBlock(0, 2), loneBlock(0, 3)}; !sameLists(got.Blocks, want) {
		t.Errorf("%v, not %v", got.Blocks, want)
	}
}

func smallPhoto() impl.Photo {
	r := rand.New(rand.NewPCG(9, 20))
	p := impl.Photo{Width: 20, Height: 9, Quality: 80, Every: 1}
	for range 3 {
		p.Planes = append(p.Planes, somePlane(r, 20, 9).Samples)
	}
	return p
}

// checkTooMany asks a reader of files for the error of more bytes than a file's, and of more than a file may have.
func checkTooMany(t *testing.T, file []byte, check func(what string, data []byte, err int)) {
	t.Helper()
	for _, many := range []int{59999, 60000, 60001, 70000} {
		more, other := impl.ErrMore, impl.ErrCode
		if many > 60000 {
			more, other = impl.ErrForm, impl.ErrForm
		}
		data := slices.Concat(file, make([]byte, many-len(file)))
		check(strconv.Itoa(many)+" bytes", data, more)
		data[0] = 0
		check(strconv.Itoa(many)+" other bytes", data, other)
		check(strconv.Itoa(many)+" bytes of 0", make([]byte, many), other)
	}
}

// checkCutFile asks a reader of files for the error of a file cut at each byte, and of bytes behind it.
func checkCutFile(file []byte, check func(what string, data []byte, err int)) {
	for many := range file {
		check("cut to "+strconv.Itoa(many), file[:many], impl.ErrShort)
	}
	for _, more := range [][]byte{{0}, {255}, {0, 0}, {255, 0}, {255, 208}, {255, 217}, file[:4], make([]byte, 300)} {
		check("more", slices.Concat(file, more), impl.ErrMore)
	}
}

func TestDecodePhotoOfTooManyBytes(t *testing.T) {
	checkTooMany(t, impl.EncodePhoto(smallPhoto()), func(what string, data []byte, err int) {
		checkPhotoFile(t, what, data, err)
	})
}

// checkFirstBytes asks a reader of files for the error of other first bytes than a file's four, and of fewer.
func checkFirstBytes(t *testing.T, file []byte, check func(what string, data []byte, err int)) {
	t.Helper()
	for at := range 4 {
		for b := range 256 {
			data := slices.Clone(file)
			data[at] = byte(b)
			want := impl.ErrCode
			if data[at] == file[at] {
				want = 0
			} else {
				check("first bytes, nothing behind", data[:at+1], want)
			}
			check("first bytes", data, want)
		}
		check("first bytes alone", file[:at], impl.ErrShort)
	}
	check("nothing", nil, impl.ErrShort)
	check("an empty list", []byte{}, impl.ErrShort)
	check("another file's first bytes", []byte("MOV1"), impl.ErrCode)
}

func TestDecodePhotoOfTheFirstBytes(t *testing.T) {
	checkFirstBytes(t, impl.EncodePhoto(smallPhoto()), func(what string, data []byte, err int) {
		checkPhotoFile(t, what, data, err)
	})
}

// checkHead asks for the error of a head: cut at each byte, alone, and with more behind it.
func checkHead(t *testing.T, what string, p impl.Photo, good bool) {
	t.Helper()
	head := photoHead(p)
	for many := range head {
		checkPhotoFile(t, what+", a head that is cut", head[:many], impl.ErrShort)
	}
	want := impl.ErrShort
	if !good {
		want = impl.ErrRange
	}
	checkPhotoFile(t, what+", the head alone", head, want)
	checkPhotoFile(t, what+", bytes behind that are no code", slices.Concat(head, []byte{128, 0}), want)
	if good {
		want = impl.ErrRange
	}
	checkPhotoFile(t, what+", a code of too many behind it", slices.Concat(head, []byte{129, 2}), want)
}

func TestDecodePhotoOfHeads(t *testing.T) {
	for _, c := range []struct {
		width, height int
		good          bool
	}{
		{1, 1, true}, {512, 8, true}, {8, 512, true}, {64, 64, true}, {9, 455, true}, {257, 3, true}, {3, 259, true},
		{0, 1, false}, {1, 0, false}, {0, 0, false}, {513, 1, false}, {1, 513, false}, {64, 65, false}, {512, 9, false}, {65535, 1, false}, {1, 65535, false}, {65535, 65535, false}, {768, 1, false},
	} {
		for _, planes := range []int{1, 3} {
			p := plainPhoto(1, 1, planes)
			p.Width, p.Height = c.width, c.height
			checkHead(t, "sides "+sides(c.width, c.height), p, c.good)
		}
	}
	for quality := range 256 {
		p := plainPhoto(8, 8, 1)
		p.Quality = quality
		checkHead(t, "quality", p, quality >= 1 && quality <= 100)
	}
	for _, every := range []int{0, 1, 2, 255, 256, 999, 1000, 1001, 1024, 32768, 65535} {
		for _, steps := range []bool{false, true} {
			p := plainPhoto(8, 8, 1)
			p.Every, p.Steps = every, steps
			checkHead(t, "every", p, every <= 1000 && (every == 0 || !steps))
		}
	}
}

func TestDecodePhotoOfFlags(t *testing.T) {
	for flags := range 256 {
		p := plainPhoto(8, 8, 1)
		if flags&4 > 0 {
			p = plainPhoto(8, 8, 3)
		}
		file := plainFile(p, strings.Repeat(firstText(1)+endText, len(p.Planes)))
		if flags&2 > 0 {
			file = plainFile(p, strings.Repeat(firstText(1), len(p.Planes)), strings.Repeat("0", len(p.Planes)), strings.Repeat(endText, len(p.Planes)), strings.Repeat("0", 126*len(p.Planes)))
		}
		if flags&1 > 0 {
			file = plainFile(p, strings.Repeat(firstText(1)+endText, 6))
		}
		if flags&3 == 3 {
			file = plainFile(p, strings.Repeat(firstText(1), 6), strings.Repeat("0", 6), strings.Repeat(endText, 6), strings.Repeat("0", 126*6))
		}
		file[9] = byte(flags)
		want := 0
		if flags > 7 || flags&5 == 1 {
			want = impl.ErrRange
		}
		got := checkPhotoFile(t, "flags "+strconv.Itoa(flags), file, want)
		if want == 0 && (got.Photo.Half != (flags&1 > 0) || got.Photo.Steps != (flags&2 > 0)) {
			t.Errorf("flags %d: %s", flags, describedPhoto(got.Photo))
		}
		checkPhotoFile(t, "flags and nothing behind", file[:12], max(want, impl.ErrShort))
		file[10], file[11] = 0, 3
		if flags&2 > 0 {
			want = impl.ErrRange
		}
		checkPhotoFile(t, "flags and marks", file, want)
	}
}

// codesWith are plain codes, but for one of them, given by its bytes; nothing stands behind it where cut is said.
func codesWith(planes int, at int, code []byte, cut bool) []byte {
	first, other := plainCodes(1)[:27], plainCodes(1)[27:]
	var all []byte
	for i := range planes + 1 {
		switch {
		case i == at && cut:
			return append(all, code...)
		case i == at:
			all = append(all, code...)
		default:
			all = append(all, [][]byte{first, other}[i%2]...)
		}
	}
	return all
}

// checkCode has a code in each place, with good blocks behind all, and with nothing behind it.
func checkCode(t *testing.T, what string, code []byte, firsts int, others int) {
	t.Helper()
	for _, planes := range []int{1, 3} {
		p := plainPhoto(8, 8, planes)
		for at := range planes + 1 {
			want := []int{firsts, others}[at%2]
			if want == 0 {
				checkAnyPhotoFile(t, what, slices.Concat(photoHead(p), codesWith(planes, at, code, true)))
				checkAnyPhotoFile(t, what, slices.Concat(photoHead(p), codesWith(planes, at, code, false), []byte{0, 0, 0, 0, 0, 0}))
				continue
			}
			checkPhotoFile(t, what+", nothing behind", slices.Concat(photoHead(p), codesWith(planes, at, code, true)), want)
			if want != impl.ErrShort {
				checkPhotoFile(t, what, slices.Concat(photoHead(p), codesWith(planes, at, code, false), []byte{0, 0, 0, 0, 0, 0}), want)
				checkPhotoFile(t, what+", a bad code behind", slices.Concat(photoHead(p), codesWith(planes, at, code, true), []byte{1, 1, 16}), want)
			}
		}
	}
}

func TestDecodePhotoOfHowManySymbols(t *testing.T) {
	checkCode(t, "no number", nil, impl.ErrShort, impl.ErrShort)
	checkCode(t, "half a number", []byte{128}, impl.ErrShort, impl.ErrShort)
	checkCode(t, "eleven groups", slices.Concat(bytes.Repeat([]byte{128}, 10), []byte{1}), impl.ErrShort, impl.ErrShort)
	checkCode(t, "257", []byte{129, 2}, impl.ErrRange, impl.ErrRange)
	checkCode(t, "257, a pair behind", []byte{129, 2, 1, 1}, impl.ErrRange, impl.ErrRange)
	checkCode(t, "300", []byte{172, 2, 0, 0}, impl.ErrRange, impl.ErrRange)
	checkCode(t, "as many as a number can say", slices.Concat(bytes.Repeat([]byte{255}, 9), []byte{1}), impl.ErrRange, impl.ErrRange)
	checkCode(t, "2^63", slices.Concat(bytes.Repeat([]byte{128}, 9), []byte{1}), impl.ErrRange, impl.ErrRange)
	checkCode(t, "256, no pairs", []byte{128, 2}, impl.ErrShort, impl.ErrShort)
	checkCode(t, "one, no pair", []byte{1}, impl.ErrShort, impl.ErrShort)
	checkCode(t, "one, half a pair", []byte{1, 0}, impl.ErrShort, impl.ErrShort)
	checkCode(t, "one, half a pair of no first code", []byte{1, 13}, impl.ErrShort, impl.ErrShort)
	checkCode(t, "two, one pair", []byte{2, 0, 1}, impl.ErrShort, impl.ErrShort)
	checkCode(t, "two, a pair and a half", []byte{2, 5, 1, 4}, impl.ErrShort, impl.ErrShort)
	checkCode(t, "none", []byte{0}, 0, 0)
	for _, code := range [][]byte{{128, 0}, {129, 0, 0, 1}, {131, 128, 0, 0, 1, 1, 2, 2, 2}, {128, 130, 0}} {
		p := plainPhoto(8, 8, 3)
		for at := range 4 {
			checkPhotoFile(t, "needless groups", slices.Concat(photoHead(p), codesWith(3, at, code, false), make([]byte, 6)), impl.ErrShort)
		}
	}
}

func TestDecodePhotoOfCodes(t *testing.T) {
	checkCode(t, "one", []byte{1, 0, 1}, 0, 0)
	checkCode(t, "one of 15 bits", []byte{1, 0, 15}, 0, 0)
	checkCode(t, "length 0", []byte{1, 0, 0}, impl.ErrRange, impl.ErrRange)
	checkCode(t, "length 16", []byte{1, 0, 16}, impl.ErrRange, impl.ErrRange)
	checkCode(t, "length 255", []byte{1, 12, 255}, impl.ErrRange, impl.ErrRange)
	checkCode(t, "a second length 0", []byte{2, 0, 1, 1, 0}, impl.ErrRange, impl.ErrRange)
	checkCode(t, "alike", []byte{2, 1, 1, 1, 1}, impl.ErrRange, impl.ErrRange)
	checkCode(t, "falling", []byte{2, 1, 1, 0, 1}, impl.ErrRange, impl.ErrRange)
	checkCode(t, "rising and falling", []byte{3, 0, 2, 5, 2, 4, 2}, impl.ErrRange, impl.ErrRange)
	checkCode(t, "falling, a pair lacking", []byte{3, 1, 1, 0, 1}, impl.ErrRange, impl.ErrRange)
	checkCode(t, "length 0, a pair lacking", []byte{2, 1, 0}, impl.ErrRange, impl.ErrRange)
	checkCode(t, "too many words", []byte{3, 0, 1, 1, 1, 2, 1}, impl.ErrCode, impl.ErrCode)
	checkCode(t, "one word too many", []byte{4, 0, 1, 1, 2, 2, 2, 3, 15}, impl.ErrCode, impl.ErrCode)
	checkCode(t, "whole", []byte{3, 0, 1, 1, 2, 2, 2}, 0, 0)
	checkCode(t, "too many words, and falling behind", []byte{4, 0, 1, 1, 1, 2, 1, 0, 1}, impl.ErrRange, impl.ErrRange)
	checkCode(t, "the greatest first size", []byte{1, 12, 1}, 0, 0)
	checkCode(t, "beyond the greatest first size", []byte{1, 13, 1}, impl.ErrCode, 0)
	checkCode(t, "the greatest symbol", []byte{1, 255, 1}, impl.ErrCode, 0)
	checkCode(t, "one of three beyond", []byte{3, 0, 1, 12, 2, 13, 2}, impl.ErrCode, 0)
	checkCode(t, "beyond, and too many words", []byte{3, 0, 1, 12, 1, 13, 1}, impl.ErrCode, impl.ErrCode)
	checkCode(t, "beyond, and length 0 with it", []byte{1, 13, 0}, impl.ErrRange, impl.ErrRange)
	checkCode(t, "beyond, and length 16 behind", []byte{2, 13, 1, 14, 16}, impl.ErrRange, impl.ErrRange)
	checkCode(t, "beyond, and a pair lacking", []byte{2, 13, 1}, impl.ErrShort, impl.ErrShort)
	checkCode(t, "all symbols", codeBytes(alike(8, 256)), impl.ErrCode, 0)
	for symbol := range 256 {
		want := 0
		if symbol > 12 {
			want = impl.ErrCode
		}
		checkCode(t, "one symbol", []byte{1, byte(symbol), 3}, want, 0)
	}
}

// The codes of a photo of one plane are two: what stands behind them are bits already.
func TestDecodePhotoOfTwoCodesOrFour(t *testing.T) {
	p := plainPhoto(8, 8, 1)
	code := slices.Concat(photoHead(p), []byte{1, 0, 1, 1, 0, 1})
	checkPhotoFile(t, "two codes", slices.Concat(code, []byte{0}), 0)
	checkPhotoFile(t, "two codes of a photo of three planes", slices.Concat(photoHead(plainPhoto(8, 8, 3)), code[12:], []byte{0}), impl.ErrShort)
	p = plainPhoto(8, 8, 3)
	// The first plane's codes have other words than those of both others.
	codes := slices.Concat(photoHead(p), []byte{1, 1, 1}, []byte{1, 0, 1}, []byte{2, 2, 1, 3, 1}, []byte{1, 1, 1})
	got := checkPhotoFile(t, "four codes", slices.Concat(codes, textBytes("01"+"0"+"010"+strings.Repeat("01", 63)+"1100"+strings.Repeat("01", 63))), 0)
	full := func(first int) []int { return withFirst(alike(1, 64), first) }
	if want := [][]int{loneBlock(0, 1), full(2), full(4)}; !sameLists(got.Blocks, want) {
		t.Errorf("%v, not %v", got.Blocks, want)
	}
}

func TestDecodePhotoOfBitsThatAreNoWord(t *testing.T) {
	p := plainPhoto(8, 8, 1)
	head := photoHead(p)
	// Words 00 of the size 0, 01 of the size 3; of others 000 of the end and 001 of 3 zeros and a size of 2.
	codes := slices.Concat(head, []byte{2, 0, 2, 3, 2}, []byte{2, 0, 3, 0x32, 3})
	for _, c := range []struct {
		what, text string
		err        int
	}{
		{"nothing", "", impl.ErrShort},
		{"a block of 0", "00000", 0},
		{"no first word", "10000000", impl.ErrCode},
		{"no first word, all ones", "1111111" + "0", impl.ErrCode},
		{"a first number", "01" + "101" + "000", 0},
		{"no other word", "01" + "101" + "010", impl.ErrCode},
		{"no other word, at once", "01" + "101" + "1", impl.ErrCode},
		{"no other word behind a number", "00" + "001" + "10" + "1", impl.ErrCode},
		{"a number", "00" + "001" + "10" + "000", 0},
		{"bits that end in a word", "01" + "101" + "001" + "10" + "001" + "01" + "0", impl.ErrShort},
		{"bits that end in a number", "00" + "001" + "10" + "001" + "01" + "001" + "1", impl.ErrShort},
	} {
		checkPhotoFile(t, c.what, slices.Concat(codes, textBytes(c.text)), c.err)
	}
	for _, c := range []struct {
		what         string
		codes        []byte
		text         []byte
		none, behind int
	}{
		{"no first code", []byte{0, 1, 0, 1}, []byte{0}, impl.ErrShort, impl.ErrCode},
		{"no first code, a byte 255", []byte{0, 1, 0, 1}, []byte{255}, impl.ErrShort, impl.ErrShort},
		{"no other code", []byte{1, 0, 1, 0}, []byte{0}, impl.ErrShort, impl.ErrCode},
		{"no code", []byte{0, 0}, []byte{0, 0}, impl.ErrShort, impl.ErrCode},
	} {
		checkPhotoFile(t, c.what+", nothing behind", slices.Concat(head, c.codes), c.none)
		checkPhotoFile(t, c.what, slices.Concat(head, c.codes, c.text), c.behind)
	}
}

func TestDecodePhotoOfBytes255(t *testing.T) {
	p := plainPhoto(8, 8, 1)
	head := slices.Concat(photoHead(p), plainCodes(1))
	// A first number of 8 bits, all ones: 1000 11111111; then 1111 of the next symbol, 11110000, within a byte 255.
	text := textBytes("0100" + "1111" + longText + endText)
	for _, c := range []struct {
		what string
		data []byte
		err  int
	}{
		{"as it should be", withZeros(textBytes("1000" + "11111111" + endText)), 0},
		{"no byte 255", text, 0},
		{"a byte 255 at the end of the file", []byte{255}, impl.ErrShort},
		{"a byte 255 behind others at the end", []byte{0x8F, 255}, impl.ErrShort},
		{"a byte 255 with another behind it", []byte{255, 1}, impl.ErrCode},
		{"a byte 255 with one more behind it", []byte{255, 255}, impl.ErrCode},
		{"a byte 255 and a mark", []byte{255, 208}, impl.ErrCode},
		{"a byte 255, 0", []byte{255, 0}, impl.ErrCode},
		{"a byte 255 in a number with a mark behind it", []byte{0x8F, 255, 208, 0, 0}, impl.ErrCode},
		{"a byte 255 in a number with 1 behind it", []byte{0x8F, 255, 1, 0, 0}, impl.ErrCode},
		{"a byte 255 in a number with 0 behind it", []byte{0x8F, 255, 0, 0, 0}, 0},
		{"a byte 255 in a number with 0 behind it, and no more", []byte{0x8F, 255, 0}, impl.ErrShort},
		{"a byte that is 0 behind another byte", []byte{0x40, 0, 0, 0}, impl.ErrMore},
	} {
		checkPhotoFile(t, c.what, slices.Concat(head, c.data), c.err)
	}
	for behind := range 256 {
		want := impl.ErrCode
		if behind == 0 {
			want = 0
		}
		checkPhotoFile(t, "behind a byte 255", slices.Concat(head, []byte{0x8F, 255, byte(behind), 0, 0}), want)
	}
}

// textOfOnes tells a block without zeros, whose bits fill their bytes and end with one of ones.
func textOfOnes() string {
	for threes := 0; ; threes++ {
		text := firstText(0) + strings.Repeat(runText(0, 1), 62-threes) + strings.Repeat(runText(0, 3), threes) + runText(0, 2047)
		if len(text)%8 == 0 {
			return text
		}
	}
}

// The 0 behind a byte of ones must be there, whether more bits are asked for or not.
func TestDecodePhotoOfAByte255AtTheEnd(t *testing.T) {
	p := plainPhoto(8, 8, 1)
	file := plainFile(p, textOfOnes())
	if !bytes.HasSuffix(file, []byte{255, 0}) {
		t.Fatalf("%v", file[len(file)-4:])
	}
	checkPhotoFile(t, "as it should be", file, 0)
	checkPhotoFile(t, "no 0", file[:len(file)-1], impl.ErrShort)
	for behind := 1; behind < 256; behind++ {
		data := slices.Clone(file)
		data[len(data)-1] = byte(behind)
		checkPhotoFile(t, "another byte behind", data, impl.ErrCode)
		checkPhotoFile(t, "another byte more", append(slices.Clone(file), byte(behind)), impl.ErrMore)
	}
}

func TestDecodePhotoOfSymbols(t *testing.T) {
	p := plainPhoto(8, 8, 1)
	for zeros := range 16 {
		for size := range 16 {
			symbol := asBits(16*zeros+size, 8)
			rest := strings.Repeat("0", max(0, size-1)) + "1"
			want, half := 0, 0
			switch {
			case size == 0 && zeros > 0 && zeros < 15:
				want, half = impl.ErrCode, impl.ErrCode
			case size > 11:
				want, half = impl.ErrRange, impl.ErrShort
			case size > 0:
				half = impl.ErrShort
			}
			if size == 0 {
				rest = ""
			} else if size > 11 {
				rest = "1" + strings.Repeat("0", size-1)
			}
			text := firstText(0) + symbol + rest + endText
			if zeros == 0 && size == 0 {
				text = firstText(0) + symbol
			}
			got := checkScans(t, "symbol "+strconv.Itoa(16*zeros+size), p, want, text)
			if want == 0 && size > 0 && got.Blocks[0][scanPlaces()[zeros+1]] == 0 {
				t.Errorf("%d zeros and a size of %d: %v", zeros, size, got.Blocks[0])
			}
			if half == impl.ErrShort && size > 4 {
				data := plainFile(p, text)
				checkPhotoFile(t, "a number cut short", data[:len(plainFile(p))+2], impl.ErrShort)
			}
		}
	}
}

// endBehind ends a block that has so many numbers told: a full one needs no end.
func endBehind(told int) string {
	if told == 63 {
		return ""
	}
	return endText
}

// Of each place that the numbers so far have reached, all runs: just those behind which a number has a place may be.
func TestDecodePhotoOfRunsToTheEnd(t *testing.T) {
	p := plainPhoto(8, 8, 1)
	for ahead := range 64 {
		text := firstText(3) + strings.Repeat(runText(0, -1), ahead)
		if ahead == 63 {
			checkScans(t, "a full block", p, 0, text)
			checkScans(t, "an end behind a full block", p, impl.ErrMore, text+endText+endText)
			continue
		}
		for zeros := range 16 {
			fits := ahead+zeros < 63
			want := impl.ErrCode
			if fits {
				want = 0
			}
			got := checkScans(t, "a run behind "+strconv.Itoa(ahead), p, want, text+runText(zeros, 5)+endBehind(ahead+zeros+1))
			if fits && !slices.Equal(got.Blocks[0], scanned(3, slices.Concat(alike(-1, ahead), alike(0, zeros), []int{5}))) {
				t.Errorf("%d behind %d: %v", zeros, ahead, got.Blocks[0])
			}
		}
		want := impl.ErrCode
		if ahead+16 < 63 {
			want = 0
		}
		checkScans(t, "16 zeros behind "+strconv.Itoa(ahead), p, want, text+longText+endText)
		checkScans(t, "16 zeros and a number behind "+strconv.Itoa(ahead), p, want, text+longText+runText(0, 1)+endBehind(ahead+17))
		checkScans(t, "an end behind "+strconv.Itoa(ahead), p, 0, text+endText)
	}
	for many := range 5 {
		want := 0
		if many == 4 {
			want = impl.ErrCode
		}
		checkScans(t, "times 16 zeros", p, want, firstText(0)+strings.Repeat(longText, many)+endText)
	}
	checkScans(t, "63 zeros by 16 and 15", p, impl.ErrCode, firstText(0)+strings.Repeat(longText, 3)+runText(15, 1))
	checkScans(t, "62 zeros by 16 and 14", p, 0, firstText(0)+strings.Repeat(longText, 3)+runText(14, 1))
	// No bit of a number that has no place is asked for.
	checkPhotoFile(t, "a run beyond, nothing behind", plainFile(p, firstText(0)+strings.Repeat(longText, 3)+"11111111"[:4]+"0001"+"0000"), impl.ErrCode)
}

func TestDecodePhotoOfNumbers(t *testing.T) {
	p := plainPhoto(8, 8, 1)
	for _, n := range []int{-4095, -4094, -2049, -2048, -2047, -2046, -1024, -1023, -1, 0, 1, 1023, 1024, 2046, 2047, 2048, 2049, 4095} {
		want := 0
		if n < -2047 || n > 2047 {
			want = impl.ErrRange
		}
		got := checkScans(t, "a first number "+strconv.Itoa(n), p, want, firstText(n)+endText)
		if want == 0 && got.Blocks[0][0] != n {
			t.Errorf("a first number %d: %v", n, got.Blocks[0])
		}
		if want != 0 {
			checkPhotoFile(t, "a first number "+strconv.Itoa(n)+" and nothing behind", plainFile(p, firstText(n)), want)
			checkScans(t, "a first number "+strconv.Itoa(n)+" and no symbol", p, want, firstText(n)+"00010000"+endText)
		}
	}
	for _, n := range []int{-32767, -16384, -4096, -2049, -2048, -2047, -2, -1, 1, 2, 2047, 2048, 2049, 4095, 16384, 32767} {
		want := 0
		if n < -2047 || n > 2047 {
			want = impl.ErrRange
		}
		for _, zeros := range []int{0, 1, 15} {
			got := checkScans(t, "a number "+strconv.Itoa(n), p, want, firstText(0)+runText(zeros, n)+endText)
			if want == 0 && got.Blocks[0][scanPlaces()[zeros+1]] != n {
				t.Errorf("a number %d: %v", n, got.Blocks[0])
			}
		}
	}
}

// First numbers are differences: it is their sum that must be in its range, in each plane by itself.
func TestDecodePhotoOfDifferences(t *testing.T) {
	p := plainPhoto(24, 8, 1)
	for _, c := range []struct {
		list []int
		err  int
	}{
		{[]int{2047, -4094, 4094}, 0}, {[]int{-2047, 4094, -4094}, 0}, {[]int{1, 2, 3}, 0}, {[]int{1000, 1047, -2047}, 0},
		{[]int{2047, 1, -1}, impl.ErrRange}, {[]int{-2047, -1, 1}, impl.ErrRange}, {[]int{2047, -4095, 0}, impl.ErrRange}, {[]int{-2047, 4095, 0}, impl.ErrRange},
		{[]int{1000, 1000, 48}, impl.ErrRange}, {[]int{-1000, -1000, -48}, impl.ErrRange}, {[]int{0, 0, 4095}, impl.ErrRange},
	} {
		text := ""
		for _, n := range c.list {
			text += firstText(n) + endText
		}
		got := checkScans(t, "differences", p, c.err, text)
		sum := 0
		for i, n := range c.list {
			sum += n
			if c.err == 0 && got.Blocks[i][0] != sum {
				t.Errorf("%v: %v", c.list, got.Blocks)
			}
		}
	}
	p = plainPhoto(16, 8, 3)
	text := ""
	for _, n := range []int{2000, -2000, 1500, 47, -47, 547} {
		text += firstText(n) + endText
	}
	checkScans(t, "differences of three planes", p, 0, text)
	checkScans(t, "one too many in the third", p, impl.ErrRange, text[:len(text)-len(firstText(547)+endText)]+firstText(548)+endText)
}

func TestDecodePhotoOfBitsLeftOver(t *testing.T) {
	p := plainPhoto(8, 8, 1)
	for n := range 8 {
		text := firstText(1<<n-1) + endText
		left := (8 - len(text)%8) % 8
		checkScans(t, "no bits on", p, 0, text)
		for at := range left {
			checkScans(t, "a bit on", p, impl.ErrCode, text+strings.Repeat("0", at)+"1"+strings.Repeat("0", left-at-1))
		}
	}
	p = plainPhoto(8, 16, 1)
	p.Every = 1
	part := firstText(7) + endText
	file := slices.Concat(plainFile(p, part), []byte{255, 208}, textBytes(part))
	checkPhotoFile(t, "no bits on", file, 0)
	at := len(plainFile(p)) + 1
	file[at] |= 1
	checkPhotoFile(t, "a bit on ahead of a mark", file, impl.ErrCode)
	checkPhotoFile(t, "a bit on ahead of a mark that is cut off", file[:at+2], impl.ErrCode)
	checkPhotoFile(t, "a bit on ahead of no mark", file[:at+1], impl.ErrCode)
}

func TestDecodePhotoOfMarks(t *testing.T) {
	p := plainPhoto(8, 80, 1)
	p.Every = 1
	part := textBytes(firstText(9) + endText)
	build := func(marks func(i int) []byte) []byte {
		file := plainFile(p)
		for i := range 10 {
			file = append(file, part...)
			if i < 9 {
				file = append(file, marks(i)...)
			}
		}
		return file
	}
	right := func(i int) []byte { return []byte{255, byte(208 + i%8)} }
	got := checkPhotoFile(t, "marks", build(right), 0)
	if want := slices.Repeat([][]int{loneBlock(0, 9)}, 10); !sameLists(got.Blocks, want) {
		t.Errorf("%v", got.Blocks)
	}
	for at := range 9 {
		for mark := range 256 {
			want := impl.ErrCode
			if mark == 208+at%8 {
				want = 0
			}
			other := func(i int) []byte {
				if i == at {
					return []byte{255, byte(mark)}
				}
				return right(i)
			}
			checkPhotoFile(t, "a mark's second byte", build(other), want)
		}
		for _, mark := range [][]byte{{}, {255}, {208}, {0, byte(208 + at%8)}, {254, byte(208 + at%8)}, {255, 0}, {255, 255, byte(208 + at%8)}, {255, 0, 255, byte(208 + at%8)}, {byte(208 + at%8), 255}, {0, 255, byte(208 + at%8)}} {
			other := func(i int) []byte {
				if i == at {
					return mark
				}
				return right(i)
			}
			checkPhotoFile(t, "another mark", build(other), impl.ErrCode)
		}
		end := len(plainFile(p)) + (at+1)*len(part) + 2*at
		file := build(right)
		for many, want := range []int{impl.ErrShort, impl.ErrShort, impl.ErrShort} {
			checkPhotoFile(t, "a mark cut off", file[:end+many], want)
		}
		// Two bytes are taken, whatever they are: one that could not begin a mark is short by itself.
		for _, b := range []byte{0, 1, 208, 254} {
			checkPhotoFile(t, "one other byte for a mark", append(slices.Clone(file[:end]), b), impl.ErrShort)
			checkPhotoFile(t, "two other bytes for a mark", append(slices.Clone(file[:end]), b, 208), impl.ErrCode)
		}
	}
	twice := func(i int) []byte { return slices.Repeat(right(i), 2) }
	checkPhotoFile(t, "marks that are doubled", build(twice), impl.ErrCode)
	checkPhotoFile(t, "a mark at the end", append(build(right), 255, 209), impl.ErrMore)
	p.Every = 0
	checkPhotoFile(t, "marks where none are due", build(right), impl.ErrCode)
	checkPhotoFile(t, "no marks where none are due", plainFile(p, firstText(9)+endText+strings.Repeat(firstText(0)+endText, 9)), 0)
	p.Every = 10
	checkPhotoFile(t, "as many as there are", plainFile(p, firstText(9)+endText+strings.Repeat(firstText(0)+endText, 9)), 0)
	p.Every = 1000
	checkPhotoFile(t, "more than there are", plainFile(p, firstText(9)+endText+strings.Repeat(firstText(0)+endText, 9)), 0)
	p.Every = 9
	file := slices.Concat(plainFile(p, firstText(9)+endText+strings.Repeat(firstText(0)+endText, 8)), []byte{255, 208}, part)
	checkPhotoFile(t, "one fewer than there are", file, 0)
}

// stepScans has those of a photo of so many blocks of one plane, told by the plain code.
func stepScans(halves []int, lastBits string, quarters string, rests string) []string {
	text, ahead := "", 0
	for _, half := range halves {
		text += firstText(half - ahead)
		ahead = half
	}
	return []string{text, lastBits, quarters, rests}
}

func TestDecodePhotoWithSteps(t *testing.T) {
	p := plainPhoto(8, 8, 1)
	p.Steps = true
	noRests := strings.Repeat("00", 63)
	for _, c := range []struct {
		half int
		bit  string
		want int
		err  int
	}{
		{0, "0", 0, 0}, {0, "1", 1, 0}, {-1, "0", -2, 0}, {-1, "1", -1, 0}, {-2, "1", -3, 0}, {1023, "1", 2047, 0}, {1023, "0", 2046, 0}, {-1024, "1", -2047, 0},
		{-1024, "0", 0, impl.ErrRange}, {1024, "0", 0, impl.ErrRange}, {1024, "1", 0, impl.ErrRange}, {2047, "0", 0, impl.ErrRange}, {-2047, "1", 0, impl.ErrRange},
		{2048, "0", 0, impl.ErrRange}, {-2048, "1", 0, impl.ErrRange}, {4095, "0", 0, impl.ErrRange},
	} {
		got := checkScans(t, "half "+strconv.Itoa(c.half)+" and "+c.bit, p, c.err, stepScans([]int{c.half}, c.bit, endText, noRests)...)
		if c.err == 0 && !slices.Equal(got.Blocks[0], loneBlock(0, c.want)) {
			t.Errorf("half %d, bit %s: %v", c.half, c.bit, got.Blocks[0])
		}
		// A half that is none is met in the first scan, a number that is none not before its last bit.
		early := impl.ErrShort
		if c.half < -2047 || c.half > 2047 {
			early = impl.ErrRange
		}
		checkPhotoFile(t, "the first scan alone", plainFile(p, firstText(c.half)), early)
		if c.err != 0 {
			checkPhotoFile(t, "two scans", plainFile(p, firstText(c.half), c.bit), c.err)
		}
	}
	for _, c := range []struct {
		quarter int
		rest    string
		want    int
		err     int
	}{
		{0, "00", 0, 0}, {0, "010", 1, 0}, {0, "011", -1, 0}, {0, "100", 2, 0}, {0, "101", -2, 0}, {0, "110", 3, 0}, {0, "111", -3, 0},
		{1, "00", 4, 0}, {1, "01", 5, 0}, {1, "11", 7, 0}, {-1, "00", -4, 0}, {-1, "01", -5, 0}, {-1, "11", -7, 0}, {2, "00", 8, 0}, {-2, "10", -10, 0},
		{511, "11", 2047, 0}, {-511, "11", -2047, 0}, {512, "00", 0, impl.ErrRange}, {-512, "00", 0, impl.ErrRange}, {512, "11", 0, impl.ErrRange},
		{2047, "00", 0, impl.ErrRange}, {-2047, "00", 0, impl.ErrRange}, {2048, "00", 0, impl.ErrRange}, {-2048, "00", 0, impl.ErrRange}, {32767, "00", 0, impl.ErrRange},
	} {
		for _, at := range []int{1, 2, 16, 62, 63} {
			var quarters string
			if c.quarter != 0 {
				zeros := at - 1
				for ; zeros > 15; zeros -= 16 {
					quarters += longText
				}
				quarters += runText(zeros, c.quarter)
			}
			if c.quarter == 0 || at < 63 {
				quarters += endText
			}
			rests := strings.Repeat("00", at-1) + c.rest + strings.Repeat("00", 63-at)
			got := checkScans(t, "quarter "+strconv.Itoa(c.quarter)+" and "+c.rest, p, c.err, stepScans([]int{3}, "1", quarters, rests)...)
			if c.err == 0 && !slices.Equal(got.Blocks[0], withFirst(inScan(map[int]int{at: c.want}), 7)) {
				t.Errorf("quarter %d, rest %s at %d: %v", c.quarter, c.rest, at, got.Blocks[0])
			}
			early := impl.ErrShort
			if magnitude(c.quarter) > 2047 {
				early = impl.ErrRange
			}
			checkPhotoFile(t, "three scans alone", plainFile(p, stepScans([]int{3}, "1", quarters, "")[:3]...), early)
		}
	}
}

// Each of the four scans is filled up to a byte by itself.
func TestDecodePhotoWithStepsOfBitsLeftOver(t *testing.T) {
	p := plainPhoto(24, 8, 1)
	p.Steps = true
	scans := stepScans([]int{0, 1, 3}, "010", strings.Repeat(endText, 2)+runText(0, 1)+endText, strings.Repeat("00", 3*63))
	got := checkScans(t, "as it should be", p, 0, scans...)
	if want := [][]int{loneBlock(0, 0), loneBlock(0, 3), withFirst(inScan(map[int]int{1: 4}), 6)}; !sameLists(got.Blocks, want) {
		t.Errorf("%v, not %v", got.Blocks, want)
	}
	for i, text := range scans {
		left := (8 - len(text)%8) % 8
		if left == 0 {
			t.Fatalf("scan %d fills its bytes", i)
		}
		for at := range left {
			other := slices.Clone(scans)
			other[i] += strings.Repeat("0", at) + "1" + strings.Repeat("0", left-at-1)
			checkPhotoFile(t, "a bit on behind scan "+strconv.Itoa(i), plainFile(p, other...), impl.ErrCode)
			checkPhotoFile(t, "a bit on, nothing behind", plainFile(p, other[:i+1]...), impl.ErrCode)
		}
		checkPhotoFile(t, "scans that lack", plainFile(p, scans[:i]...), impl.ErrShort)
		other := slices.Clone(scans)
		other[i] += strings.Repeat("0", left+8)
		checkAnyPhotoFile(t, "a byte 0 more behind scan "+strconv.Itoa(i), plainFile(p, other...))
	}
}

// A number whose quarter is 0 and whose last two bits are 0 has no sign: the next bits are the next number's.
func TestDecodePhotoWithStepsOfSigns(t *testing.T) {
	r := rand.New(rand.NewPCG(9, 21))
	for range 200 {
		p := plainPhoto(8, 8, 1)
		p.Steps = true
		block := make([]int, 64)
		for place := range block {
			block[place] = r.IntN(13) - 6
		}
		got := checkPhotoFile(t, "small numbers", slowPhotoFile(p, [][]int{block}), 0)
		if !sameLists(got.Blocks, [][]int{block}) {
			t.Fatalf("%v, not %v", got.Blocks, block)
		}
	}
}

// Any blocks whose numbers may be can be told in a file, though no photo's are like that.
func TestDecodePhotoOfAnyBlocks(t *testing.T) {
	r := rand.New(rand.NewPCG(9, 22))
	for range 250 {
		p := somePhoto(r)
		blocks := somePhotoBlocks(r, p, []int{1, 20, 300, 2047}[r.IntN(4)])
		got := checkPhotoFile(t, describedPhoto(p), slowPhotoFile(p, blocks), 0)
		if !sameLists(got.Blocks, blocks) || !samePhoto(got.Photo, impl.PhotoOf(p, blocks)) {
			t.Fatalf("%s: other blocks, or another picture", describedPhoto(p))
		}
	}
}

func TestDecodePhotoOfFilesCutAtEachByte(t *testing.T) {
	r := rand.New(rand.NewPCG(9, 23))
	for range 14 {
		p := somePhoto(r)
		p.Width, p.Height = min(p.Width, 20), min(p.Height, 20)
		for i := range p.Planes {
			p.Planes[i] = somePhotoSamples(r, p.Width, p.Height)
		}
		file := impl.EncodePhoto(p)
		checkCutFile(file, func(what string, data []byte, err int) { checkPhotoFile(t, what, data, err) })
	}
}

// checkMet asks whether hurt files met all these errors.
func checkMet(t *testing.T, met map[int]int, errs ...int) {
	t.Helper()
	for _, err := range errs {
		if met[err] == 0 {
			t.Errorf("error %d was not met: %v", err, met)
		}
	}
}

func TestDecodePhotoOfEachBitTurned(t *testing.T) {
	r := rand.New(rand.NewPCG(9, 24))
	met := map[int]int{}
	for range 5 {
		p := somePhoto(r)
		p.Width, p.Height = min(p.Width, 17), min(p.Height, 17)
		for i := range p.Planes {
			p.Planes[i] = smoothSamples(r, p.Width, p.Height, 20)
		}
		file := impl.EncodePhoto(p)
		for bit := range 8 * len(file) {
			data := slices.Clone(file)
			data[bit/8] ^= 1 << (bit % 8)
			met[checkAnyPhotoFile(t, "a bit turned", data).Err]++
		}
	}
	checkMet(t, met, 0, impl.ErrShort, impl.ErrCode, impl.ErrRange, impl.ErrMore)
}

func TestDecodePhotoOfHurtFiles(t *testing.T) {
	r := rand.New(rand.NewPCG(9, 25))
	met := map[int]int{}
	for range 1500 {
		p := somePhoto(r)
		p.Width, p.Height = min(p.Width, 25), min(p.Height, 25)
		for i := range p.Planes {
			p.Planes[i] = smoothSamples(r, p.Width, p.Height, 20)
		}
		file := slowPhotoFile(p, somePhotoBlocks(r, p, []int{20, 2047}[r.IntN(2)]))
		if r.IntN(2) == 0 {
			file = impl.EncodePhoto(p)
		}
		met[checkAnyPhotoFile(t, "a hurt file", hurt(r, file)).Err]++
	}
	checkMet(t, met, 0, impl.ErrShort, impl.ErrCode, impl.ErrRange, impl.ErrMore)
}

// sparseBytes have more bits 0 than bits 1.
func sparseBytes(r *rand.Rand, many int) []byte {
	data := someBytes(r, many)
	for i := range data {
		if r.IntN(3) > 0 {
			data[i] &= byte(r.IntN(256)) & 0x3F
		}
	}
	return data
}

// Bytes of any kind behind a head and codes that are good.
func TestDecodePhotoOfAnyBytes(t *testing.T) {
	r := rand.New(rand.NewPCG(9, 26))
	for range 1500 {
		p := plainPhoto(1+r.IntN(30), 1+r.IntN(20), []int{1, 3}[r.IntN(2)])
		p.Half, p.Steps = len(p.Planes) == 3 && r.IntN(2) == 0, r.IntN(2) == 0
		if !p.Steps {
			p.Every = r.IntN(3)
		}
		bytes := sparseBytes(r, r.IntN(100))
		checkAnyPhotoFile(t, "any bytes", slices.Concat(plainFile(p), bytes))
		checkAnyPhotoFile(t, "any bytes alone", slices.Concat([]byte("PHO1"), bytes))
	}
}
