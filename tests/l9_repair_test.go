package tests

import (
	"bytes"
	"math/rand/v2"
	"slices"
	"strconv"
	"strings"
	"testing"

	"loop.example/g00016/impl"
)

// A markedPart is what stands between marks, and the mark behind it, -1 for the end of the file.
type markedPart struct {
	data []byte
	mark int
}

// slowPartsOf parts what stands behind the codes.
func slowPartsOf(data []byte) []markedPart {
	for at := range data {
		if at > 0 && data[at-1] == 255 && data[at] >= 208 && data[at] <= 215 {
			return append([]markedPart{{data[:at-1], int(data[at])}}, slowPartsOf(data[at+1:])...)
		}
	}
	return []markedPart{{data, -1}}
}

func countParts(p impl.Photo) int {
	if p.Every == 0 {
		return 1
	}
	return ceiling(len(blockPlaces(p)), blocksOfUnits(p, p.Every))
}

// slowPart has the blocks of a part, or blocks of 0 where it is not whole.
func slowPart(w photoWalker, part markedPart, mark int, places []blockPlace) ([][]int, bool) {
	w.data, w.at = part.data, 0
	var blocks [][]int
	err := codeOfPanic(func() { blocks = w.part(places) })
	if err == 0 && w.at == len(part.data) && part.mark == mark {
		return blocks, true
	}
	return slices.Repeat([][]int{evenBlock(0)}, len(places)), false
}

// slowRepair has the blocks of the photo beside it.
func slowRepair(data []byte) (impl.Repaired, [][]int) {
	w := photoWalker{data: data}
	err := codeOfPanic(func() {
		w.headAndCodes()
		if w.photo.Steps {
			panic(impl.ErrForm)
		}
	})
	if err != 0 {
		return impl.Repaired{Err: err}, nil
	}
	places, parts := blockPlaces(w.photo), slowPartsOf(w.data[w.at:])
	many := countParts(w.photo)
	each := ceiling(len(places), many)
	if w.photo.Every > 0 {
		each = blocksOfUnits(w.photo, w.photo.Every)
	}
	var got impl.Repaired
	var all [][]int
	for i := range many {
		mine := places[i*each : min(len(places), (i+1)*each)]
		part, mark := markedPart{mark: -2}, 208+i%8
		if i < len(parts) {
			part = parts[i]
		}
		if i == many-1 {
			mark = -1
		}
		blocks, whole := slowPart(w, part, mark, mine)
		all = append(all, blocks...)
		got.Whole = append(got.Whole, whole)
	}
	got.Photo = slowPhotoOf(w.photo, all)
	return got, all
}

func repairedOf(t *testing.T, what string, data []byte) impl.Repaired {
	t.Helper()
	around, handed := amid(data, 0)
	was := slices.Clone(around)
	got, again := impl.RepairPhoto(handed), impl.RepairPhoto(handed)
	if got.Err != again.Err || !samePhoto(got.Photo, again.Photo) || !slices.Equal(got.Whole, again.Whole) {
		t.Errorf("%s: two repairs are not alike", what)
	}
	if !bytes.Equal(around, was) {
		t.Errorf("%s: the data were written by a repair", what)
	}
	kept := impl.Repaired{Err: got.Err, Photo: clonePhoto(got.Photo), Whole: slices.Clone(got.Whole)}
	checkApart(t, what, nil, slices.Concat(got.Photo.Planes, again.Photo.Planes)...)
	for i := range got.Whole {
		got.Whole[i] = !got.Whole[i]
	}
	if !slices.Equal(again.Whole, kept.Whole) {
		t.Errorf("%s: two repairs share memory", what)
	}
	return kept
}

func checkRepaired(t *testing.T, what string, data []byte) impl.Repaired {
	t.Helper()
	got := repairedOf(t, what, data)
	want, _ := slowRepair(data)
	if got.Err != want.Err || !samePhoto(got.Photo, want.Photo) || !slices.Equal(got.Whole, want.Whole) {
		t.Errorf("%s: a repair with error %d, %s and %v, not %d, %s and %v, or other samples", what, got.Err, describedPhoto(got.Photo), got.Whole, want.Err, describedPhoto(want.Photo), want.Whole)
	}
	if got.Err != 0 && (len(got.Whole) > 0 || !isNoPhoto(got.Photo)) {
		t.Errorf("%s: a repair with error %d, and more beside it", what, got.Err)
	}
	if got.Err == 0 && !impl.GoodPhoto(got.Photo) {
		t.Errorf("%s: what is repaired is not good", what)
	}
	return got
}

// checkWhole says which parts should be whole, a letter each: w or -.
func checkWhole(t *testing.T, what string, data []byte, want string) impl.Repaired {
	t.Helper()
	got := checkRepaired(t, what, data)
	text := ""
	for _, whole := range got.Whole {
		text += map[bool]string{true: "w", false: "-"}[whole]
	}
	if got.Err != 0 || text != want {
		t.Errorf("%s: error %d, whole are %s, not %s", what, got.Err, text, want)
	}
	return got
}

func TestRepairPhotoOfFilesThatAreNotHurt(t *testing.T) {
	r := rand.New(rand.NewPCG(9, 40))
	for range 200 {
		p := somePhoto(r)
		p.Steps = false
		file := impl.EncodePhoto(p)
		got := checkWhole(t, describedPhoto(p), file, strings.Repeat("w", countParts(p)))
		if !samePhoto(got.Photo, impl.DecodePhoto(file).Photo) {
			t.Fatalf("%s: a repair sees another picture", describedPhoto(p))
		}
	}
}

func TestRepairPhotoOfHowManyParts(t *testing.T) {
	for _, half := range []bool{false, true} {
		p := plainPhoto(40, 90, 3)
		p.Half = half
		units := 60
		if half {
			units = 18
		}
		for every := range 70 {
			p.Every = every
			want := 1
			for i := every; every > 0 && i < units; i += every {
				want++
			}
			checkWhole(t, describedPhoto(p), impl.EncodePhoto(p), strings.Repeat("w", want))
			if got := checkRepaired(t, "no parts", plainFile(p)); len(got.Whole) != want || slices.Contains(got.Whole, true) {
				t.Errorf("%s: %v", describedPhoto(p), got.Whole)
			}
		}
	}
}

// tenParts has a photo of ten units, a part each, with its first numbers going up by one, and the parts' bytes.
func tenParts() (impl.Photo, [][]byte) {
	p := plainPhoto(8, 80, 1)
	p.Every = 1
	var parts [][]byte
	for i := range 10 {
		parts = append(parts, textBytes(firstText(10+i)+endText))
	}
	return p, parts
}

// markedFile has the plain codes, and behind each part the mark that is due, or another one, or none where it is -1.
func markedFile(p impl.Photo, parts [][]byte, others map[int]int) []byte {
	file := plainFile(p)
	for i, part := range parts {
		file = append(file, part...)
		mark := 208 + i%8
		if i == len(parts)-1 {
			mark = -1
		}
		if other, ok := others[i]; ok {
			mark = other
		}
		if mark >= 0 {
			file = append(file, 255, byte(mark))
		}
	}
	return file
}

// levels has the first number of each part that is seen in a picture of tenParts.
func levels(got impl.Repaired) []int {
	var list []int
	for row := 0; row < 80; row += 8 {
		list = append(list, got.Photo.Planes[0][8*row]-128)
	}
	return list
}

func TestRepairPhotoOfPartsByHand(t *testing.T) {
	p, parts := tenParts()
	got := checkWhole(t, "as it is", markedFile(p, parts, nil), "wwwwwwwwww")
	if want := []int{10, 11, 12, 13, 14, 15, 16, 17, 18, 19}; !slices.Equal(levels(got), want) {
		t.Errorf("%v", levels(got))
	}
	for at := range parts {
		hurtPart := func(part []byte) []byte {
			list := slices.Clone(parts)
			list[at] = part
			return markedFile(p, list, nil)
		}
		want := "wwwwwwwwww"[:at] + "-" + "wwwwwwwww"[at:]
		last := len(parts[at]) - 1
		turned := slices.Clone(parts[at])
		turned[last] ^= 1
		noCode := slices.Clone(parts[at])
		noCode[0] |= 0xF0
		for what, part := range map[string][]byte{
			"a bit left over is on": turned, "no word": noCode, "empty": {}, "a byte fewer": parts[at][:last],
			"a byte 0 more": append(slices.Clone(parts[at]), 0), "a byte 255, 0 more": append(slices.Clone(parts[at]), 255, 0),
			"a byte 255 more": append(slices.Clone(parts[at]), 255), "a byte 255, 7 within": slices.Concat(parts[at][:1], []byte{255, 7}, parts[at][1:]),
			"twice": slices.Repeat(parts[at], 2), "a number out of range": textBytes(firstText(2048) + endText), "a run beyond": textBytes(firstText(0) + strings.Repeat(longText, 4)),
		} {
			got := checkWhole(t, what+" in part "+strconv.Itoa(at), hurtPart(part), want)
			for i, level := range levels(got) {
				if i == at && level != 0 || i != at && level != 10+i {
					t.Errorf("%s in part %d: %v", what, at, levels(got))
				}
			}
		}
		other := textBytes(firstText(-60) + runText(0, 3) + endText)
		got := checkWhole(t, "another part that can be read", hurtPart(other), "wwwwwwwwww")
		if levels(got)[(at+1)%10] != 10+(at+1)%10 {
			t.Errorf("what part %d is matters to the next one: %v", at, levels(got))
		}
	}
}

func TestRepairPhotoOfMarks(t *testing.T) {
	p, parts := tenParts()
	for at := range 9 {
		for mark := range 256 {
			file := markedFile(p, parts, map[int]int{at: mark})
			switch {
			case mark == 208+at%8:
				checkWhole(t, "the mark that is due", file, "wwwwwwwwww")
			case mark >= 208 && mark <= 215:
				checkWhole(t, "another mark", file, "wwwwwwwwww"[:at]+"-"+"wwwwwwwww"[at:])
			default:
				// Without it all that stands behind is one part ahead.
				checkWhole(t, "no mark", file, "wwwwwwwwww"[:at]+"----------"[at:])
			}
		}
		lacking := markedFile(p, parts, map[int]int{at: -1})
		checkWhole(t, "a mark that lacks", lacking, "wwwwwwwwww"[:at]+"----------"[at:])
		doubled := slices.Clone(parts)
		doubled[at] = slices.Concat(parts[at], []byte{255, byte(208 + at%8)})
		checkWhole(t, "a mark that is doubled", markedFile(p, doubled, nil), "wwwwwwwwww"[:at+1]+"---------"[at:])
		from := len(markedFile(p, parts[:at], map[int]int{at - 1: 208}))
		file := markedFile(p, parts, nil)
		cut := slices.Delete(file, from, from+len(parts[at])+2)
		checkWhole(t, "a part that lacks with its mark", cut, "wwwwwwwwww"[:at]+"----------"[at:])
	}
	// Nine parts and eight marks as they are due: the ninth one ends the file, which the tenth alone may.
	for at := range parts {
		nine := slices.Concat(parts[:at], parts[at+1:])
		checkWhole(t, "nine parts", markedFile(p, nine, nil), "wwwwwwww--")
		checkWhole(t, "nine parts, each with its mark", markedFile(p, nine, map[int]int{8: 208}), "wwwwwwwww-")
	}
	// With eight parts fewer the marks behind them are those that are due again.
	p = plainPhoto(8, 160, 1)
	p.Every = 1
	many := slices.Repeat(parts, 2)
	file := markedFile(p, many, nil)
	from, end := len(markedFile(p, many[:3], map[int]int{2: 210})), len(markedFile(p, many[:11], map[int]int{10: 210}))
	checkWhole(t, "eight parts fewer", slices.Concat(file[:from], file[end:]), strings.Repeat("w", 11)+strings.Repeat("-", 9))
	checkWhole(t, "eight parts more", slices.Concat(file[:end], file[from:]), strings.Repeat("w", 19)+"-")
}

func TestRepairPhotoOfTheLastPart(t *testing.T) {
	p, parts := tenParts()
	file := markedFile(p, parts, nil)
	for mark := 208; mark <= 215; mark++ {
		checkWhole(t, "the last part ended by a mark", append(slices.Clone(file), 255, byte(mark)), "wwwwwwwww-")
		checkWhole(t, "the last part ended by a mark, one more behind", slices.Concat(file, []byte{255, byte(mark)}, parts[0]), "wwwwwwwww-")
		checkWhole(t, "several more", slices.Concat(file, bytes.Repeat([]byte{255, byte(mark), 7}, 20)), "wwwwwwwww-")
	}
	for _, more := range [][]byte{{0}, {255}, {255, 0}, {255, 207}, {255, 216}, {255, 255}, {208}} {
		checkWhole(t, "bytes behind the last part", slices.Concat(file, more), "wwwwwwwww-")
	}
	checkWhole(t, "no last part", file[:len(file)-len(parts[9])], "wwwwwwwww-")
	checkWhole(t, "no last mark", file[:len(file)-len(parts[9])-2], "wwwwwwww--")
	checkWhole(t, "half of the last mark", file[:len(file)-len(parts[9])-1], "wwwwwwww--")
	for many := len(plainFile(p)); many < len(file); many++ {
		ended := slowPartsOf(file[len(plainFile(p)):many])
		whole := len(ended) - 1
		checkWhole(t, "cut to "+strconv.Itoa(many), file[:many], strings.Repeat("w", whole)+strings.Repeat("-", 10-whole))
	}
}

func TestRepairPhotoOfOnePart(t *testing.T) {
	p := plainPhoto(8, 16, 1)
	text := firstText(30) + endText + firstText(-50) + endText
	for _, every := range []int{0, 2, 3, 1000} {
		p.Every = every
		file := plainFile(p, text)
		got := checkWhole(t, "as it is", file, "w")
		if got.Photo.Planes[0][0] != 158 || got.Photo.Planes[0][64] != 108 {
			t.Errorf("%v", got.Photo.Planes)
		}
		for _, more := range [][]byte{{0}, {255}, {255, 0}, {255, 208}, {255, 215}, {255, 208, 0, 0}} {
			got = checkWhole(t, "more behind it", slices.Concat(file, more), "-")
			if !slices.Equal(got.Photo.Planes[0], alike(128, 128)) {
				t.Errorf("%v", got.Photo.Planes)
			}
		}
		checkWhole(t, "nothing", plainFile(p), "-")
		checkWhole(t, "a byte fewer", file[:len(file)-1], "-")
		checkWhole(t, "a mark ahead of it", slices.Concat(plainFile(p), []byte{255, 208}, withZeros(textBytes(text))), "-")
	}
}

// A byte 255 with a 0 behind it is no mark, right ahead of one too.
func TestRepairPhotoOfBytes255(t *testing.T) {
	p := plainPhoto(8, 24, 1)
	p.Every = 1
	part := withZeros(textBytes(textOfOnes()))
	if !bytes.HasSuffix(part, []byte{255, 0}) {
		t.Fatalf("%v", part)
	}
	parts := [][]byte{part, part, part}
	checkWhole(t, "as it is", markedFile(p, parts, nil), "www")
	for at := range parts {
		other := slices.Clone(parts)
		other[at] = part[:len(part)-1]
		checkWhole(t, "no 0 at the end of part "+strconv.Itoa(at), markedFile(p, other, nil), "www"[:at]+"-"+"ww"[at:])
		for b := 1; b < 256; b++ {
			other[at] = append(slices.Clone(part[:len(part)-1]), byte(b))
			want := "www"[:at] + "-" + "ww"[at:]
			if b >= 208 && b <= 215 {
				// The part ends there, and an empty one stands behind it.
				want = "www"[:at] + "---"[at:]
			}
			checkWhole(t, "another byte at the end of part "+strconv.Itoa(at), markedFile(p, other, nil), want)
		}
	}
}

func TestRepairPhotoWithSteps(t *testing.T) {
	r := rand.New(rand.NewPCG(9, 41))
	for range 20 {
		p := somePhoto(r)
		p.Steps, p.Every = true, 0
		file := impl.EncodePhoto(p)
		behindCodes := len(tellPhoto(p, nil, codesOf(p, slowTells(p, impl.PhotoBlocks(p))))[0])
		for many := range file {
			want := impl.ErrShort
			if many >= behindCodes {
				want = impl.ErrForm
			}
			if got := checkRepaired(t, "steps", file[:many]); got.Err != want {
				t.Errorf("%s: %d of %d bytes: error %d, not %d", describedPhoto(p), many, len(file), got.Err, want)
			}
		}
		if got := checkRepaired(t, "steps", append(slices.Clone(file), 0)); got.Err != impl.ErrForm {
			t.Errorf("steps and more: %d", got.Err)
		}
	}
	p := plainPhoto(8, 8, 1)
	p.Steps = true
	for _, c := range []struct {
		codes []byte
		err   int
	}{
		{[]byte{1, 0, 1, 1, 0, 1}, impl.ErrForm}, {[]byte{0, 0}, impl.ErrForm}, {[]byte{0}, impl.ErrShort}, {[]byte{0, 1, 0, 0}, impl.ErrRange},
		{[]byte{1, 13, 1, 0}, impl.ErrCode}, {[]byte{3, 0, 1, 1, 1, 2, 1, 0}, impl.ErrCode}, {[]byte{129, 2}, impl.ErrRange},
	} {
		if got := checkRepaired(t, "codes with steps", slices.Concat(photoHead(p), c.codes)); got.Err != c.err {
			t.Errorf("codes %v: error %d, not %d", c.codes, got.Err, c.err)
		}
	}
	p.Every = 1
	if got := checkRepaired(t, "marks with steps", plainFile(p)); got.Err != impl.ErrRange {
		t.Errorf("marks with steps: %d", got.Err)
	}
}

// Bytes of one part are hurt; what the others are is as it was, and so is what is seen of them.
func TestRepairPhotoKeepsWhatIsWhole(t *testing.T) {
	r := rand.New(rand.NewPCG(9, 42))
	lost := 0
	for range 400 {
		p := somePhoto(r)
		p.Steps, p.Every = false, 1+r.IntN(4)
		blocks := impl.PhotoBlocks(p)
		tells := slowTells(p, blocks)
		list := tellPhoto(p, tells, codesOf(p, tells))
		at := 1 + r.IntN(len(list)-1)
		for range 1 + r.IntN(3) {
			list[at] = slices.Clone(list[at])
			list[at][r.IntN(len(list[at]))] ^= 1 << r.IntN(8)
		}
		if len(slowPartsOf(list[at])) > 1 || list[at][len(list[at])-1] == 255 {
			continue
		}
		got := checkRepaired(t, describedPhoto(p), withMarks(p, list))
		seen := cloneLists(blocks)
		each := blocksOfUnits(p, p.Every)
		for i, whole := range got.Whole {
			if i+1 != at && !whole {
				t.Fatalf("%s: part %d is hurt, and %d is not whole", describedPhoto(p), at-1, i)
			}
			for j := i * each; j < min(len(blocks), (i+1)*each) && !whole; j++ {
				seen[j] = evenBlock(0)
				lost++
			}
		}
		if !got.Whole[at-1] && !samePhoto(got.Photo, impl.PhotoOf(p, seen)) {
			t.Fatalf("%s: what is whole is not as it was", describedPhoto(p))
		}
	}
	if lost < 100 {
		t.Errorf("%d blocks lost", lost)
	}
}

func TestRepairPhotoOfHurtFiles(t *testing.T) {
	r := rand.New(rand.NewPCG(9, 43))
	whole, not := 0, 0
	for range 1500 {
		p := somePhoto(r)
		p.Width, p.Height = min(p.Width, 30), min(p.Height, 30)
		for i := range p.Planes {
			p.Planes[i] = smoothSamples(r, p.Width, p.Height, 20)
		}
		p.Steps, p.Every = false, r.IntN(5)
		file := impl.EncodePhoto(p)
		body := 12 + r.IntN(len(file)-12)
		got := checkRepaired(t, "a hurt file", slices.Concat(file[:body], hurt(r, file[body:])))
		for _, is := range got.Whole {
			if is {
				whole++
			} else {
				not++
			}
		}
	}
	if whole < 100 || not < 100 {
		t.Errorf("%d parts were whole, %d were not", whole, not)
	}
}
