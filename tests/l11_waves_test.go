package tests

import (
	"math"
	"math/big"
	"math/cmplx"
	"math/rand/v2"
	"slices"
	"strconv"
	"testing"

	"loop.example/g00016/impl"
)

// Samples of this chapter go from the one to the other.
const (
	leastTone    = -32768
	greatestTone = 32767
)

// The document's pairs of cosine and sine.
var wavePairs = [8][2]float64{
	{1, 0}, {0.9238795325112867, -0.3826834323650898}, {0.7071067811865476, -0.7071067811865476}, {0.3826834323650898, -0.9238795325112867},
	{0, -1}, {-0.3826834323650898, -0.9238795325112867}, {-0.7071067811865476, -0.7071067811865476}, {-0.9238795325112867, -0.3826834323650898},
}

// A bigWave is a complex number of floats that know when they are rounded.
type bigWave struct{ re, im *big.Float }

// rounded is a place for the result of one operation, as floats of 64 bits have it; exact is one for all its bits.
func rounded() *big.Float { return new(big.Float).SetPrec(53).SetMode(big.ToNearestEven) }

func exact() *big.Float { return new(big.Float).SetPrec(200) }

// A way to make a product of complex numbers says for each of its four products whether it is rounded by itself.
type roundings [4]bool

var eachByItself = roundings{true, true, true, true}

func (by roundings) multiplied(which int, a *big.Float, b *big.Float) *big.Float {
	if by[which] {
		return rounded().Mul(a, b)
	}
	return exact().Mul(a, b)
}

func (by roundings) product(a bigWave, b bigWave) bigWave {
	return bigWave{
		rounded().Sub(by.multiplied(0, a.re, b.re), by.multiplied(1, a.im, b.im)),
		rounded().Add(by.multiplied(2, a.re, b.im), by.multiplied(3, a.im, b.re)),
	}
}

// placeOfDigits has the number of four binary digits that are these, turned round.
func placeOfDigits(place int) int {
	digits := []byte(asBits(place, 4))
	slices.Reverse(digits)
	turned, _ := strconv.ParseInt(string(digits), 2, 0)
	return int(turned)
}

func isHop(list []int) bool {
	return len(list) == 16 && allWithin(list, leastTone, greatestTone)
}

// wavesBy goes through the document's steps.
func (by roundings) wavesBy(list []int) []impl.Wave {
	if !isHop(list) {
		return nil
	}
	var numbers [16]bigWave
	for place := range numbers {
		numbers[place] = bigWave{rounded().SetInt64(int64(list[placeOfDigits(place)])), rounded()}
	}
	for _, h := range []int{1, 2, 4, 8} {
		for g := 0; g < 16; g += 2 * h {
			for j := range h {
				pair := wavePairs[j*8/h]
				a := numbers[g+j]
				t := by.product(numbers[g+j+h], bigWave{big.NewFloat(pair[0]), big.NewFloat(pair[1])})
				numbers[g+j] = bigWave{rounded().Add(a.re, t.re), rounded().Add(a.im, t.im)}
				numbers[g+j+h] = bigWave{rounded().Sub(a.re, t.re), rounded().Sub(a.im, t.im)}
			}
		}
	}
	var waves []impl.Wave
	for _, number := range numbers {
		re, _ := number.re.Float64()
		im, _ := number.im.Float64()
		waves = append(waves, impl.Wave{Re: re, Im: im})
	}
	return waves
}

func slowWaves(list []int) []impl.Wave {
	return eachByItself.wavesBy(list)
}

// powersBy rounds the first square, the second one and their sum, or has them exact.
func powersBy(waves []impl.Wave, squares roundings) []int {
	var powers []int
	for _, wave := range waves[:min(8, len(waves))] {
		re, im := big.NewFloat(wave.Re), big.NewFloat(wave.Im)
		sum := exact().Add(squares.multiplied(0, re, re), squares.multiplied(1, im, im))
		if squares[2] {
			sum = rounded().Set(sum)
		}
		power, _ := exact().Quo(sum, big.NewFloat(256)).Int64()
		powers = append(powers, int(power))
	}
	return powers
}

func slowPowers(list []int) []int {
	return powersBy(slowWaves(list), eachByItself)
}

// sameWave tells zeros below 0 and above it apart.
func sameWave(a, b impl.Wave) bool {
	return math.Float64bits(a.Re) == math.Float64bits(b.Re) && math.Float64bits(a.Im) == math.Float64bits(b.Im)
}

func sameWaves(a, b []impl.Wave) bool {
	return slices.EqualFunc(a, b, sameWave)
}

func wavesMade(t *testing.T, list []int) []impl.Wave {
	t.Helper()
	return listMade(t, list, 7777777, impl.Wave{Re: -5, Im: -6}, impl.Waves)
}

func powersMade(t *testing.T, list []int) []int {
	t.Helper()
	return listMade(t, list, 7777777, -5, impl.Powers)
}

// checkWaves asks for the powers, too.
func checkWaves(t *testing.T, list []int) ([]impl.Wave, []int) {
	t.Helper()
	waves, powers := wavesMade(t, list), powersMade(t, list)
	if want := slowWaves(list); !sameWaves(waves, want) {
		t.Fatalf("waves of %v\n%v, not\n%v", list, waves, want)
	}
	if want := slowPowers(list); !slices.Equal(powers, want) {
		t.Fatalf("powers of %v\n%v, not\n%v", list, powers, want)
	}
	return waves, powers
}

func checkNoWaves(t *testing.T, what string, list []int) {
	t.Helper()
	if waves, powers := checkWaves(t, list); len(waves) > 0 || len(powers) > 0 {
		t.Errorf("%s: %v and %v", what, waves, powers)
	}
}

// loneTone has one sample that is not 0.
func loneTone(place int, sample int) []int {
	list := make([]int, 16)
	list[place] = sample
	return list
}

// someHop has samples of many kinds: lines, noise, waves, and jumps from end to end.
func someHop(r *rand.Rand) []int {
	far := []int{1, 2, 100, 8191, greatestTone}[r.IntN(5)]
	switch r.IntN(4) {
	case 0:
		return someLine(r, 16, -far-1, far)
	case 1:
		step, from := r.Float64()*math.Pi, r.Float64()*7
		list := make([]int, 16)
		for i := range list {
			list[i] = int(math.Round(float64(far) * math.Sin(from+step*float64(i))))
		}
		return list
	case 2:
		list := alike(-far-1, 16)
		for i := range list {
			if r.IntN(2) == 0 {
				list[i] = far
			}
		}
		return list
	}
	return someNoise(r, 16, far)
}

func TestHop(t *testing.T) {
	if impl.Hop != 16 {
		t.Errorf("%d", impl.Hop)
	}
}

func TestWavesByHand(t *testing.T) {
	root := math.Sqrt(0.5)
	for i, want := range []impl.Wave{{Re: 1}, {Re: 0.9238795325112867, Im: -0.3826834323650898}, {Re: root, Im: -root}, {Re: 0.3826834323650898, Im: -0.9238795325112867}, {Im: -1}} {
		got := impl.Waves(loneTone(1, 1))
		if !sameWave(got[i], want) {
			t.Errorf("wave %d of a lone 1: %v, not %v", i, got[i], want)
		}
	}
	for i, wave := range impl.Waves(loneTone(8, 3)) {
		want := impl.Wave{Re: []float64{3, -3}[i%2]}
		if wave.Re != want.Re || wave.Im != 0 {
			t.Errorf("wave %d of a 3 in the middle: %v", i, wave)
		}
	}
	flat := impl.Waves(alike(-2, 16))
	for i, wave := range flat {
		if want := []float64{-32, 0}[min(i, 1)]; wave.Re != want || wave.Im != 0 {
			t.Errorf("wave %d of samples that are alike: %v", i, wave)
		}
	}
}

// The samples' zeros are above 0, and of those the steps make no other ones: products may be zeros below 0, but what
// they are added to or taken from is not.
func TestWavesHaveZerosAboveZeroAlone(t *testing.T) {
	lists := [][]int{alike(0, 16), alike(-2, 16), alike(leastTone, 16)}
	for place := range 16 {
		lists = append(lists, loneTone(place, -1), loneTone(place, 1))
		for other := range place {
			list := loneTone(place, -7)
			list[other] = 7
			lists = append(lists, list, eachNumber(list, func(n int) int { return -magnitude(n) }))
		}
	}
	zeros := 0
	for _, list := range lists {
		waves, _ := checkWaves(t, list)
		for _, wave := range waves {
			for _, number := range []float64{wave.Re, wave.Im} {
				if number == 0 {
					zeros++
				}
				if number == 0 && math.Signbit(number) {
					t.Errorf("of %v: %v", list, wave)
				}
			}
		}
	}
	if zeros < 500 {
		t.Errorf("%d zeros", zeros)
	}
}

func TestPlacesOfDigits(t *testing.T) {
	var places []int
	for place := range 16 {
		places = append(places, placeOfDigits(place))
	}
	if want := []int{0, 8, 4, 12, 2, 10, 6, 14, 1, 9, 5, 13, 3, 11, 7, 15}; !slices.Equal(places, want) {
		t.Errorf("%v", places)
	}
}

func TestPowersByHand(t *testing.T) {
	for _, c := range []struct {
		list []int
		want []int
	}{
		{alike(0, 16), alike(0, 8)},
		{alike(3, 16), []int{9, 0, 0, 0, 0, 0, 0, 0}},
		{alike(-32768, 16), []int{1 << 30, 0, 0, 0, 0, 0, 0, 0}},
		{alike(32767, 16), []int{32767 * 32767, 0, 0, 0, 0, 0, 0, 0}},
		{loneTone(0, 15), alike(0, 8)},
		{loneTone(0, 16), alike(1, 8)},
		{loneTone(0, -22), alike(1, 8)},
		{loneTone(0, 23), alike(2, 8)},
		{loneTone(8, 31), alike(3, 8)},
		{loneTone(0, -32768), alike(1<<22, 8)},
	} {
		if got := impl.Powers(c.list); !slices.Equal(got, c.want) {
			t.Errorf("of %v: %v, not %v", c.list, got, c.want)
		}
	}
}

// Each sample alone at each place.
func TestWavesOfLoneSamples(t *testing.T) {
	samples := append(around(70, 0), around(2, leastTone+2, -16384, -4096, -256, 256, 4096, 16384, greatestTone-2)...)
	for place := range 16 {
		for _, sample := range samples {
			checkWaves(t, loneTone(place, sample))
		}
		for _, sample := range []int{leastTone, greatestTone, -1, 1} {
			for _, other := range []int{leastTone, greatestTone, -1, 1} {
				list := alike(other, 16)
				list[place] = sample
				checkWaves(t, list)
			}
		}
	}
}

func TestWavesOfSomeSamples(t *testing.T) {
	r := rand.New(rand.NewPCG(11, 1))
	for range 4000 {
		checkWaves(t, someHop(r))
	}
}

// Wherever one operation would round once where two are told, some of these samples show it.
func TestWavesTellRoundingsApart(t *testing.T) {
	r := rand.New(rand.NewPCG(11, 2))
	kinds := []roundings{
		{false, true, true, true}, {true, false, true, true}, {true, true, false, true}, {true, true, true, false},
		{false, true, false, true}, {true, false, true, false}, {false, true, true, false}, {true, false, false, true}, {},
	}
	seen := make([]int, len(kinds))
	for range 400 {
		list := someHop(r)
		waves, _ := checkWaves(t, list)
		for i, kind := range kinds {
			if !sameWaves(kind.wavesBy(list), waves) {
				seen[i]++
			}
		}
	}
	if slices.Min(seen) < 20 {
		t.Errorf("seen %v times", seen)
	}
}

// A lone sample's waves are all as strong as it, but for roundings: so its powers are cut just where a last bit counts.
func TestPowersTellRoundingsApart(t *testing.T) {
	kinds := []roundings{{false, true, true}, {true, false, true}, {false, false, true}, {false, false, false}}
	seen := make([]int, len(kinds))
	for sample := 16; sample <= greatestTone; sample += 16 {
		for _, place := range []int{1, 3, 6, 13} {
			list := loneTone(place, sample)
			waves, powers := impl.Waves(list), impl.Powers(list)
			if want := powersBy(waves, eachByItself); !slices.Equal(powers, want) {
				t.Fatalf("of %v: %v, not %v", list, powers, want)
			}
			for i, kind := range kinds {
				if !slices.Equal(powersBy(waves, kind), powers) {
					seen[i]++
				}
			}
		}
	}
	if slices.Min(seen) < 20 {
		t.Errorf("seen %v times", seen)
	}
}

// The waves are those of the sum that they stand for, nearly.
func TestWavesAreNearTheirSums(t *testing.T) {
	r := rand.New(rand.NewPCG(11, 3))
	for range 1000 {
		list := someHop(r)
		for n, wave := range impl.Waves(list) {
			var sum complex128
			for i, sample := range list {
				sum += complex(float64(sample), 0) * cmplx.Rect(1, -2*math.Pi*float64(i*n%16)/16)
			}
			if away := cmplx.Abs(complex(wave.Re, wave.Im) - sum); away > 1e-9 {
				t.Fatalf("wave %d of %v: %v, %g away from %v", n, list, wave, away, sum)
			}
		}
	}
}

func TestWavesOfOtherLengths(t *testing.T) {
	checkNoWaves(t, "nil", nil)
	checkNoWaves(t, "empty", []int{})
	for many := range 70 {
		if many != 16 {
			checkNoWaves(t, "so many samples", alike(5, many))
		}
	}
	checkNoWaves(t, "very many", make([]int, 4000))
	// Those behind the length count for nothing.
	long := append(alike(7, 16), 100000, 5)
	if waves, powers := checkWaves(t, long[:16]); len(waves) != 16 || len(powers) != 8 {
		t.Errorf("%v, %v", waves, powers)
	}
	checkNoWaves(t, "one too few of more", long[:15])
}

func TestWavesOfSamplesOutOfRange(t *testing.T) {
	bad := append(extremes(), leastTone-1, greatestTone+1, leastTone-2, greatestTone+2, -65536, 65535, 65536)
	for place := range 16 {
		for _, sample := range bad {
			checkNoWaves(t, "a lone sample", loneTone(place, sample))
			list := alike(greatestTone, 16)
			list[place] = sample
			checkNoWaves(t, "a sample amid the greatest", list)
		}
		for _, sample := range []int{leastTone, greatestTone} {
			if waves, _ := checkWaves(t, loneTone(place, sample)); len(waves) != 16 {
				t.Errorf("%d at %d: %v", sample, place, waves)
			}
		}
	}
}
