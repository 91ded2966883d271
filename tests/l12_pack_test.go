package tests

import (
	"bytes"
	"math"
	"math/big"
	"math/rand/v2"
	"slices"
	"strconv"
	"testing"

	"loop.example/g00016/impl"
)

// The range is kept from falling below it.
const narrowest = 16777216

// slowOdds has the odds of those places that were met.
type slowOdds map[int]int

func (o slowOdds) of(place int) int {
	if odds, met := o[place]; met {
		return odds
	}
	return 2048
}

func (o slowOdds) learn(c impl.Choice) {
	odds := o.of(c.Place)
	if c.Bit == 0 {
		o[c.Place] = odds + (4096-odds)/32
	} else {
		o[c.Place] = odds - odds/32
	}
}

// A longPacker keeps low whole, as a number as long as need be: no carry has to be told apart.
type longPacker struct {
	odds  slowOdds
	low   *big.Int
	width int
	bytes int
}

func newLongPacker() *longPacker {
	return &longPacker{odds: slowOdds{}, low: big.NewInt(0), width: 4294967295, bytes: 4}
}

// choose says how many bytes the range came down by.
func (p *longPacker) choose(c impl.Choice) int {
	s := p.width / 4096 * p.odds.of(c.Place)
	if c.Bit == 0 {
		p.width = s
	} else {
		p.low.Add(p.low, big.NewInt(int64(s)))
		p.width -= s
	}
	p.odds.learn(c)
	down := 0
	for p.width < narrowest {
		p.width *= 256
		p.low.Lsh(p.low, 8)
		down++
	}
	p.bytes += down
	return down
}

// data panics if a carry went beyond the first byte.
func (p *longPacker) data() []byte {
	return p.low.FillBytes(make([]byte, p.bytes))
}

func longPack(list []impl.Choice) []byte {
	p := newLongPacker()
	for _, c := range list {
		p.choose(c)
	}
	return p.data()
}

// A metCarry went through so many bytes of 255.
type metCarry struct {
	through int
	atEnd   bool
}

// A toldPacker tells byte by byte by the document's words, and keeps what carries there were.
type toldPacker struct {
	odds    slowOdds
	low     int
	width   int
	told    []byte
	carries []metCarry
}

func newToldPacker() *toldPacker {
	return &toldPacker{odds: slowOdds{}, width: 4294967295}
}

func (p *toldPacker) shift(atEnd bool) {
	if p.low >= 1<<32 {
		last := len(p.told) - 1
		for p.told[last] == 255 {
			p.told[last] = 0
			last--
		}
		p.told[last]++
		p.carries = append(p.carries, metCarry{through: len(p.told) - 1 - last, atEnd: atEnd})
	}
	p.told = append(p.told, byte(p.low/narrowest%256))
	p.low = p.low % narrowest * 256
}

func (p *toldPacker) choose(c impl.Choice) {
	s := p.width / 4096 * p.odds.of(c.Place)
	if c.Bit == 0 {
		p.width = s
	} else {
		p.low += s
		p.width -= s
	}
	p.odds.learn(c)
	for p.width < narrowest {
		p.width *= 256
		p.shift(false)
	}
}

func toldPack(list []impl.Choice) ([]byte, []metCarry) {
	p := newToldPacker()
	for _, c := range list {
		p.choose(c)
	}
	for range 4 {
		p.shift(true)
	}
	return p.told, p.carries
}

func areChoices(places int, list []impl.Choice) bool {
	if places < 1 || places > 512 || len(list) > 20000 {
		return false
	}
	return !slices.ContainsFunc(list, func(c impl.Choice) bool {
		return c.Place < 0 || c.Place > places-1 || c.Bit != 0 && c.Bit != 1
	})
}

func slowOddsPack(places int, list []impl.Choice) []byte {
	if !areChoices(places, list) {
		return nil
	}
	return longPack(list)
}

// oddsPacked packs choices that stand amid other ones.
func oddsPacked(t *testing.T, places int, list []impl.Choice) []byte {
	t.Helper()
	return listMade(t, list, impl.Choice{Place: 1, Bit: 7}, 0x5A, func(list []impl.Choice) []byte {
		return impl.OddsPack(places, list)
	})
}

func placesOf(list []impl.Choice) []int {
	places := make([]int, len(list))
	for i, c := range list {
		places[i] = c.Place
	}
	return places
}

func bitsOf(list []impl.Choice) []int {
	bits := make([]int, len(list))
	for i, c := range list {
		bits[i] = c.Bit
	}
	return bits
}

// describedChoices are all that a test may print of many.
func describedChoices(places int, list []impl.Choice) string {
	text := strconv.Itoa(places) + " places, " + strconv.Itoa(len(list)) + " choices"
	for _, c := range list[:min(len(list), 20)] {
		text += " " + strconv.Itoa(c.Place) + ":" + strconv.Itoa(c.Bit)
	}
	return text
}

// checkOddsPack asks for the bytes, and for the choices again where there are any.
func checkOddsPack(t *testing.T, places int, list []impl.Choice) []byte {
	t.Helper()
	what := describedChoices(places, list)
	got, want := oddsPacked(t, places, list), slowOddsPack(places, list)
	if !bytes.Equal(got, want) {
		t.Fatalf("%s: %d bytes %v, not %d %v", what, len(got), got[:min(len(got), 40)], len(want), want[:min(len(want), 40)])
	}
	if len(want) > 0 {
		read := impl.OddsUnpack(places, got, placesOf(list))
		if read.Err != 0 || read.Next != len(got) || !slices.Equal(read.Bits, bitsOf(list)) {
			t.Fatalf("%s: read with error %d, %d of %d bytes, or as other bits", what, read.Err, read.Next, len(got))
		}
	}
	return got
}

// chosenAt has a choice of that bit at each of the places.
func chosenAt(bit int, places ...int) []impl.Choice {
	list := make([]impl.Choice, len(places))
	for i, place := range places {
		list[i] = impl.Choice{Place: place, Bit: bit}
	}
	return list
}

// fresh has a choice of each of the bits, each at a place of its own, from first on.
func fresh(first int, bits ...int) []impl.Choice {
	list := make([]impl.Choice, len(bits))
	for i, bit := range bits {
		list[i] = impl.Choice{Place: first + i, Bit: bit}
	}
	return list
}

// someChoices has places of which each likes one of the bits, some more, some less.
func someChoices(r *rand.Rand, places int, many int) []impl.Choice {
	liking := make([]int, places)
	for place := range liking {
		liking[place] = []int{r.IntN(101), 0, 1, 99, 100, 50}[r.IntN(6)]
	}
	met := 1 + r.IntN(places)
	list := make([]impl.Choice, many)
	for i := range list {
		list[i].Place = r.IntN(met)
		if r.IntN(100) < liking[list[i].Place] {
			list[i].Bit = 1
		}
	}
	return list
}

func someManyPlaces(r *rand.Rand) int {
	return []int{1, 2, 3, 40, 256, 511, 512, 1 + r.IntN(512)}[r.IntN(8)]
}

func TestPlacesLimit(t *testing.T) {
	if impl.MaxPlaces != 512 {
		t.Errorf("%d", impl.MaxPlaces)
	}
}

func TestOddsPackByHand(t *testing.T) {
	for _, c := range []struct {
		list []impl.Choice
		want []byte
	}{
		{nil, []byte{0, 0, 0, 0}},
		{fresh(0, 0), []byte{0, 0, 0, 0}},
		// FFFFF and three 0 are the range's whole 4096ths: half of them is 7FFFF800.
		{fresh(0, 1), []byte{0x7F, 0xFF, 0xF8, 0x00}},
		// The range is 800007FF; at another place half of 80000000 more.
		{fresh(0, 1, 1), []byte{0xBF, 0xFF, 0xF8, 0x00}},
		// At the same place odds are 2048 - 64: 80000 (base 16) times 1984 is 3E000000.
		{chosenAt(1, 0, 0), []byte{0xBD, 0xFF, 0xF8, 0x00}},
		// The range is 420007FF, odds are 1984 - 62: 42000 times 1922 is 1EF84000 more.
		{chosenAt(1, 0, 0, 0), []byte{0xDC, 0xF8, 0x38, 0x00}},
		// Behind a bit 0 odds are 2048 + 64: 7FFFF times 2112 is 41FFF7C0.
		{[]impl.Choice{{Bit: 0}, {Bit: 1}}, []byte{0x41, 0xFF, 0xF7, 0xC0}},
		// Behind seven bits 0 the range is 1FFF800, behind eight FFF800, which is too narrow.
		{fresh(0, 0, 0, 0, 0, 0, 0, 0), []byte{0, 0, 0, 0}},
		{fresh(0, 0, 0, 0, 0, 0, 0, 0, 0), []byte{0, 0, 0, 0, 0}},
		// The range shrinks by FFF800 to 1000000, which is just wide enough.
		{fresh(0, 0, 0, 0, 0, 0, 0, 0, 1), []byte{0x00, 0xFF, 0xF8, 0x00}},
		// It is halved then, and 17FF800 shifted.
		{fresh(0, 0, 0, 0, 0, 0, 0, 0, 1, 1), []byte{0x01, 0x7F, 0xF8, 0x00, 0x00}},
		// 7F is told, low is FFF80000, and grows by 40000000.
		{fresh(0, 1, 0, 0, 0, 0, 0, 0, 0, 0), []byte{0x7F, 0xFF, 0xF8, 0x00, 0x00}},
		{fresh(0, 1, 0, 0, 0, 0, 0, 0, 0, 0, 1), []byte{0x80, 0x3F, 0xF8, 0x00, 0x00}},
	} {
		places := max(1, len(c.list))
		if got := checkOddsPack(t, places, c.list); !bytes.Equal(got, c.want) {
			t.Errorf("%s: %x, not %x", describedChoices(places, c.list), got, c.want)
		}
		// How many places there are besides counts for nothing.
		if got := checkOddsPack(t, 512, c.list); !bytes.Equal(got, c.want) {
			t.Errorf("%s: %x, not %x", describedChoices(512, c.list), got, c.want)
		}
	}
}

func TestOddsPackOfNothing(t *testing.T) {
	for _, places := range []int{1, 2, 511, 512} {
		for _, list := range [][]impl.Choice{nil, {}} {
			if got := checkOddsPack(t, places, list); !bytes.Equal(got, make([]byte, 4)) {
				t.Errorf("%d places: %v", places, got)
			}
		}
	}
}

// checkNoChoices asks for no bytes and no cost.
func checkNoChoices(t *testing.T, places int, list []impl.Choice) {
	t.Helper()
	what := describedChoices(places, list)
	if got := oddsPacked(t, places, list); len(got) > 0 {
		t.Errorf("%s: %d bytes", what, len(got))
	}
	if got := impl.OddsCost(places, list); got != -1 {
		t.Errorf("%s: they cost %d", what, got)
	}
}

func TestOddsPackOfPlaces(t *testing.T) {
	for _, places := range []int{math.MinInt, -512, -1, 0, 513, 514, 1 << 16, 1 << 32, 1<<32 + 1, math.MaxInt} {
		checkNoChoices(t, places, nil)
		checkNoChoices(t, places, []impl.Choice{{}})
		checkNoChoices(t, places, []impl.Choice{{Place: places - 1, Bit: 1}})
	}
	for _, places := range []int{1, 2, 3, 255, 256, 257, 511, 512} {
		for _, bit := range []int{0, 1} {
			for _, place := range []int{0, places / 2, places - 1} {
				checkOddsPack(t, places, chosenAt(bit, place))
				checkOddsPack(t, places, chosenAt(bit, 0, place, 0, place))
			}
		}
	}
}

// wrongChoices are such by place, by bit, and by both.
func wrongChoices(places int) []impl.Choice {
	var list []impl.Choice
	for _, bit := range []int{0, 1} {
		for _, place := range []int{math.MinInt, -1 << 32, -places, -1, places, places + 1, 512, 513, 1 << 16, 1 << 32, math.MaxInt} {
			list = append(list, impl.Choice{Place: place, Bit: bit})
		}
	}
	for _, bit := range []int{math.MinInt, -2, -1, 2, 3, 255, 256, 257, 1 << 32, 1<<32 + 1, math.MaxInt} {
		list = append(list, impl.Choice{Place: 0, Bit: bit}, impl.Choice{Place: places - 1, Bit: bit}, impl.Choice{Place: places, Bit: bit}, impl.Choice{Place: -1, Bit: bit})
	}
	return list
}

func TestOddsPackOfWrongChoices(t *testing.T) {
	r := rand.New(rand.NewPCG(12, 1))
	for _, places := range []int{1, 2, 300, 511, 512} {
		for _, wrong := range wrongChoices(places) {
			checkNoChoices(t, places, []impl.Choice{wrong})
			for _, many := range []int{1, 2, 30} {
				list := someChoices(r, places, many)
				checkNoChoices(t, places, append([]impl.Choice{wrong}, list...))
				checkNoChoices(t, places, append(list, wrong))
				checkNoChoices(t, places, slices.Insert(list, r.IntN(many), wrong))
			}
		}
	}
	for _, bit := range []int{0, 1} {
		checkOddsPack(t, 7, chosenAt(bit, 6))
		checkNoChoices(t, 6, chosenAt(bit, 6))
	}
}

func TestOddsPackOfManyChoices(t *testing.T) {
	r := rand.New(rand.NewPCG(12, 2))
	for _, places := range []int{1, 2, 512} {
		for _, list := range [][]impl.Choice{
			make([]impl.Choice, 20001),
			slices.Repeat(chosenAt(1, places-1), 20001),
			someChoices(r, places, 20001),
		} {
			checkOddsPack(t, places, list[:19999])
			checkOddsPack(t, places, list[:20000])
			checkNoChoices(t, places, list)
			checkNoChoices(t, places, append(list, list...))
		}
	}
	// With odds that stay even each choice takes a bit.
	list := make([]impl.Choice, 20000)
	for i := range list {
		list[i] = impl.Choice{Place: i % 512, Bit: r.IntN(2)}
	}
	if got := len(checkOddsPack(t, 512, list)); got < 2480 || got > 2600 {
		t.Errorf("%d bytes", got)
	}
}

func TestOddsPackOfSomeChoices(t *testing.T) {
	r := rand.New(rand.NewPCG(12, 3))
	for range 4000 {
		places := someManyPlaces(r)
		checkOddsPack(t, places, someChoices(r, places, r.IntN(300)))
	}
	for range 30 {
		places := someManyPlaces(r)
		checkOddsPack(t, places, someChoices(r, places, 1000+r.IntN(4000)))
	}
}

// All lists of a few bits, at one place and at places of their own.
func TestOddsPackOfAllShortLists(t *testing.T) {
	for many := range 13 {
		for n := range 1 << many {
			list := make([]impl.Choice, many)
			for i := range list {
				list[i].Bit = n >> i & 1
			}
			checkOddsPack(t, 1, list)
			for i := range list {
				list[i].Place = i
			}
			checkOddsPack(t, 13, list)
		}
	}
}

// The odds go as far as they can, in so many choices of one bit; another one, or more, stand behind them.
func TestOddsPackOfLongRuns(t *testing.T) {
	for _, bit := range []int{0, 1} {
		var ends []int
		odds := slowOdds{}
		for many := range 400 {
			run := slices.Repeat([]impl.Choice{{Bit: bit}}, many)
			for _, behind := range [][]int{nil, {bit}, {1 - bit}, {1 - bit, 1 - bit, bit}, alike(1-bit, 9), {bit, 1 - bit, bit, 1 - bit, bit, 1 - bit}} {
				checkOddsPack(t, 1, append(slices.Clone(run), chosenBits(0, behind...)...))
			}
			checkOddsPack(t, 3, slices.Concat(chosenBits(1, 0, 1), run, chosenBits(2, 1), chosenBits(0, 1-bit), chosenBits(1, 0, 1)))
			ends = append(ends, odds.of(0))
			odds.learn(impl.Choice{Bit: bit})
		}
		if want := []int{4065, 31}[bit]; ends[399] != want || ends[200] != want || ends[90] == want {
			t.Errorf("bit %d: the odds become %v", bit, ends)
		}
		for _, many := range []int{1000, 19999} {
			run := slices.Repeat([]impl.Choice{{Bit: bit}}, many)
			checkOddsPack(t, 1, run)
			checkOddsPack(t, 1, append(run, impl.Choice{Bit: 1 - bit}))
		}
	}
}

func chosenBits(place int, bits ...int) []impl.Choice {
	list := make([]impl.Choice, len(bits))
	for i, bit := range bits {
		list[i] = impl.Choice{Place: place, Bit: bit}
	}
	return list
}

// waysToOdds has for all odds that can come about the fewest bits that lead there.
func waysToOdds() map[int][]int {
	ways := map[int][]int{2048: nil}
	for due := []int{2048}; len(due) > 0; due = due[1:] {
		for bit := range 2 {
			odds := slowOdds{0: due[0]}
			odds.learn(impl.Choice{Bit: bit})
			if _, met := ways[odds[0]]; !met {
				ways[odds[0]] = append(slices.Clone(ways[due[0]]), bit)
				due = append(due, odds[0])
			}
		}
	}
	return ways
}

// From each odds with either bit, and what comes of it.
func TestOddsPackOfAllOdds(t *testing.T) {
	ways := waysToOdds()
	least, most := 2048, 2048
	for odds, bits := range ways {
		least, most = min(least, odds), max(most, odds)
		for bit := range 2 {
			checkOddsPack(t, 1, chosenBits(0, append(slices.Clone(bits), bit, 1, 0)...))
		}
	}
	if least != 31 || most != 4065 || len(ways) < 3900 {
		t.Errorf("%d odds from %d to %d", len(ways), least, most)
	}
}

// Each place has odds of its own.
func TestOddsPackOfPlacesThatDiffer(t *testing.T) {
	var list []impl.Choice
	for place := range 512 {
		for i := range place % 40 {
			bit := place % 2
			if i%7 == 6 {
				bit = 1 - bit
			}
			list = append(list, impl.Choice{Place: place, Bit: bit})
		}
	}
	r := rand.New(rand.NewPCG(12, 4))
	for range 5 {
		r.Shuffle(len(list), func(i, j int) { list[i], list[j] = list[j], list[i] })
		all := slices.Concat(list, fresh(0, make([]int, 512)...), fresh(0, alike(1, 512)...))
		checkOddsPack(t, 512, all)
		for i := range all {
			all[i].Place = 511 - all[i].Place
		}
		checkOddsPack(t, 512, all)
	}
}

// choicesToward has the choices whose range has that number in it: low comes near it from below.
func choicesToward(number []byte, places []int) []impl.Choice {
	u := slowUnpacker{odds: slowOdds{}, data: append(slices.Clone(number), make([]byte, 4+len(places))...)}
	u.begin()
	list := make([]impl.Choice, len(places))
	for i, place := range places {
		list[i] = impl.Choice{Place: place, Bit: u.choose(place)}
	}
	return list
}

// checkCarries has a bit 1 in place of each bit 0 of the list: low leaps beyond the number that it came near to. It says
// which carries there were.
func checkCarries(t *testing.T, places int, list []impl.Choice) map[metCarry]int {
	t.Helper()
	met := map[metCarry]int{}
	for i, c := range list {
		if c.Bit == 1 {
			continue
		}
		leap := append(slices.Clone(list[:i]), impl.Choice{Place: c.Place, Bit: 1})
		for _, behind := range [][]impl.Choice{nil, chosenAt(0, 0, 0, 0), slices.Repeat(chosenAt(1, c.Place), 30), slices.Repeat(chosenAt(0, c.Place, 0), 20)} {
			all := slices.Concat(leap, behind)
			got := checkOddsPack(t, places, all)
			told, carries := toldPack(all)
			if !bytes.Equal(got, told) {
				t.Fatalf("%s: %x, not %x", describedChoices(places, all), got, told)
			}
			for _, carry := range carries {
				met[carry]++
			}
		}
	}
	return met
}

func TestOddsPackOfCarries(t *testing.T) {
	r := rand.New(rand.NewPCG(12, 5))
	met := map[metCarry]int{}
	for _, number := range [][]byte{{128}, {1}, {255}, {64, 1}, {0, 0, 0, 1}, {18, 52, 86}, {255, 255, 1}, {0x7F, 0xFF, 0xFF, 0xFF, 0xFF, 0xFF, 128}, someBytes(r, 5)} {
		for _, places := range []int{1, 2, 30, 512} {
			at := make([]int, 100)
			for i := range at {
				at[i] = r.IntN(places)
			}
			for carry, many := range checkCarries(t, places, choicesToward(number, at)) {
				met[carry] += many
			}
		}
	}
	for through := range 9 {
		for _, atEnd := range []bool{false, true} {
			if met[metCarry{through, atEnd}] == 0 {
				t.Errorf("no carry through %d bytes, at the end: %v", through, atEnd)
			}
		}
	}
}

// choicesBelow come near to the number from below, as long as they are, and never reach it.
func choicesBelow(r *rand.Rand, number byte, many int) []impl.Choice {
	u := slowUnpacker{odds: slowOdds{}, data: append([]byte{number}, make([]byte, 4+many)...)}
	u.begin()
	list := make([]impl.Choice, many)
	for i := range list {
		place := r.IntN(512)
		for u.code == u.width/4096*u.odds.of(place) {
			place = r.IntN(512)
		}
		list[i] = impl.Choice{Place: place, Bit: u.choose(place)}
	}
	return list
}

// All bytes that were told but the first one are 255, and it takes the carry.
func TestOddsPackOfTheLongestCarries(t *testing.T) {
	r := rand.New(rand.NewPCG(12, 15))
	for _, first := range []byte{1, 128, 200, 255} {
		list := choicesBelow(r, first, 20000)
		last := len(list) - 1
		for list[last].Bit == 1 {
			last--
		}
		ahead := checkOddsPack(t, 512, list[:last])
		list[last].Bit = 1
		list = list[:last+1]
		got := checkOddsPack(t, 512, list)
		if ahead[0] != first-1 || got[0] != first {
			t.Errorf("the first byte is %d, and was %d", got[0], ahead[0])
		}
		if _, carries := toldPack(list); len(carries) != 1 || carries[0].through < 2000 || carries[0].through < len(got)-6 {
			t.Errorf("%d bytes, carries %v", len(got), carries)
		}
	}
}

// choicesToWidth end with a bit 0 that makes the range just so wide: at the place 400, whose odds divide the width.
func choicesToWidth(r *rand.Rand, way []int, odds int, width int) []impl.Choice {
	for {
		list, p := chosenBits(400, way...), newToldPacker()
		for _, c := range list {
			p.choose(c)
		}
		for range 200 {
			if p.width/4096 == width/odds {
				return append(list, impl.Choice{Place: 400})
			}
			c := impl.Choice{Place: r.IntN(300), Bit: r.IntN(2)}
			p.choose(c)
			list = append(list, c)
		}
	}
}

// A range of just 16777216 stays; one that is one less comes down.
func TestOddsPackOfRangesNextToTheNarrowest(t *testing.T) {
	r := rand.New(rand.NewPCG(12, 6))
	ways, met := waysToOdds(), map[int]int{}
	for _, width := range []int{16777215, 16777216, 16777217} {
		for odds := 600; odds <= 4065; odds++ {
			way, known := ways[odds]
			if !known || width%odds > 0 || width/odds < 4096 {
				continue
			}
			for range 3 {
				list := choicesToWidth(r, way, odds, width)
				p, down := newLongPacker(), 0
				for _, c := range list {
					down = p.choose(c)
				}
				if stays := width >= 16777216; stays != (down == 0) || stays && p.width != width || !stays && p.width != 256*width {
					t.Errorf("%d: down by %d bytes to %d", width, down, p.width)
				}
				for behind := range 8 {
					checkOddsPack(t, 512, append(slices.Clone(list), fresh(410, behind/4, behind/2%2, behind%2)...))
				}
				checkOddsPack(t, 512, list)
				checkOddsPack(t, 512, append(list, fresh(410, 1, 1, 1, 1, 1, 1, 1, 1, 0, 1)...))
				met[width]++
			}
		}
	}
	for width := 16777215; width <= 16777217; width++ {
		if met[width] == 0 {
			t.Errorf("%d was not met: %v", width, met)
		}
	}
}

// With the least odds that there can be the range comes down by one byte; by more than one it never does.
func TestOddsPackOfTheNarrowestRanges(t *testing.T) {
	for _, bit := range []int{0, 1} {
		run := slices.Repeat([]impl.Choice{{Bit: 1 - bit}}, 200)
		r := rand.New(rand.NewPCG(12, 7))
		least := 1 << 32
		for range 2000 {
			list := slices.Concat(run, someChoices(r, 1, 1))
			p := newLongPacker()
			for range 10 + r.IntN(20) {
				list = append(list, impl.Choice{Place: 1 + r.IntN(20), Bit: r.IntN(2)})
			}
			down := 0
			for _, c := range list {
				down = max(down, p.choose(c))
			}
			rare := impl.Choice{Bit: bit}
			list = append(list, rare)
			if last := p.choose(rare); last > 1 || down > 1 {
				t.Fatalf("%s: by %d and by %d bytes", describedChoices(21, list), down, last)
			} else if last == 1 {
				least = min(least, p.width/256)
			}
			checkOddsPack(t, 21, list)
			checkOddsPack(t, 21, append(list, fresh(1, 1, 1, 1)...))
		}
		if least < 4096*31 || least > 4096*33 {
			t.Errorf("bit %d: the narrowest range is %d", bit, least)
		}
	}
}
