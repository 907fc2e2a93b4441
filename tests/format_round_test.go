package tests

import (
	"math"
	"math/big"
	"math/rand"
	"testing"

	"loop.example/s01493/impl"
)

// unitsAt is the magnitude at a place, counted in the least subnormal; for
// infinite the next power of two.
func unitsAt(d impl.Desc, place *big.Int) *big.Int {
	field := int(new(big.Int).Rsh(place, uint(d.P-1)).Int64())
	sig := new(big.Int).And(place, next(power2(d.P-1), -1))
	if field == 0 {
		return sig
	}
	return sig.Lsh(sig.Add(sig, power2(d.P-1)), uint(field-1))
}

// flagsAt are the flags of a ratio other than zero that is rounded to the place.
func flagsAt(d impl.Desc, place *big.Int) int {
	if place.Cmp(topPlace(d)) == 0 {
		return 1
	}
	if place.Cmp(power2(d.P-1)) < 0 {
		return 2
	}
	return 0
}

// placeMeant finds where a ratio is rounded to by halving the row of places.
func placeMeant(d impl.Desc, num *big.Int, den *big.Int) *big.Int {
	scaled := new(big.Int).Lsh(num, uint(-qMin(d)))
	low, high := big.NewInt(0), next(topPlace(d), 1)
	for next(low, 1).Cmp(high) < 0 {
		middle := new(big.Int).Add(low, high)
		middle.Rsh(middle, 1)
		if u := unitsAt(d, middle); u.Mul(u, den).Cmp(scaled) <= 0 {
			low = middle
		} else {
			high = middle
		}
	}
	if low.Cmp(topPlace(d)) == 0 {
		return low
	}
	twice := new(big.Int).Add(unitsAt(d, low), unitsAt(d, high))
	side := scaled.Lsh(scaled, 1).Cmp(twice.Mul(twice, den))
	if side > 0 || side == 0 && low.Bit(0) == 1 {
		return high
	}
	return low
}

// wantRound rounds with both signs.
func wantRound(t *testing.T, f int, d impl.Desc, num *big.Int, den *big.Int, place *big.Int) {
	t.Helper()
	for _, neg := range []bool{false, true} {
		want := impl.Rounded{W: placed(d, neg, place), Flags: flagsAt(d, place), OK: true}
		if got := impl.RoundRatio(f, neg, limbsOf(num), limbsOf(den)); got != want {
			t.Errorf("%s/%s, minus %v: %v, not %v", brief(num), brief(den), neg, got, want)
		}
	}
}

// evenOf is the one of two neighbouring places whose Sig is even.
func evenOf(place *big.Int) *big.Int {
	if place.Bit(0) == 0 {
		return place
	}
	return next(place, 1)
}

func TestP5AroundEachMiddle(t *testing.T) {
	r := rand.New(rand.NewSource(31))
	eachFormat(t, func(t *testing.T, f int, d impl.Desc) {
		for _, place := range append(finitePlaces(r, d, 60), big.NewInt(0)) {
			below, above := unitsAt(d, place), unitsAt(d, next(place, 1))
			middle := new(big.Int).Add(below, above)
			one, two := power2(-qMin(d)), power2(1-qMin(d))
			if place.Sign() > 0 {
				wantRound(t, f, d, below, one, place)
			}
			wantRound(t, f, d, middle, two, evenOf(place))
			for _, factor := range []*big.Int{big.NewInt(3), power2(64), power2(200)} {
				fine, den := new(big.Int).Mul(middle, factor), new(big.Int).Mul(two, factor)
				wantRound(t, f, d, fine, den, evenOf(place))
				wantRound(t, f, d, next(fine, -1), den, place)
				wantRound(t, f, d, next(fine, 1), den, next(place, 1))
			}
		}
	})
}

func TestP5CarriesIntoTheNext(t *testing.T) {
	eachFormat(t, func(t *testing.T, f int, d impl.Desc) {
		// One bit more than a Sig has, all ones: the middle below a power of two.
		ones := next(power2(d.P+1), -1)
		unit := big.NewInt(1)
		one := new(big.Int).Lsh(big.NewInt(int64(d.EMax)), uint(d.P-1))
		wantRound(t, f, d, ones, power2(d.P+1), one)
		wantRound(t, f, d, next(ones, -1), power2(d.P+1), next(one, -1))
		// From the greatest subnormal to the least normal value.
		tiny := new(big.Int).Sub(power2(d.P), unit)
		wantRound(t, f, d, tiny, power2(1-qMin(d)), power2(d.P-1))
		wantRound(t, f, d, next(tiny, -1), power2(1-qMin(d)), next(power2(d.P-1), -1))
		// From the greatest finite value to infinite.
		last := new(big.Int).Lsh(ones, uint(d.EMax-d.P))
		wantRound(t, f, d, last, unit, topPlace(d))
		wantRound(t, f, d, next(last, -1), unit, next(topPlace(d), -1))
		wantRound(t, f, d, next(last, 1), unit, topPlace(d))
		wantRound(t, f, d, power2(d.EMax+1), unit, topPlace(d))
		wantRound(t, f, d, next(power2(d.EMax+1), -1), unit, topPlace(d))
		// To zero, up to the middle below the least subnormal.
		wantRound(t, f, d, unit, power2(1-qMin(d)), big.NewInt(0))
		wantRound(t, f, d, unit, next(power2(1-qMin(d)), -1), big.NewInt(1))
		wantRound(t, f, d, unit, next(power2(1-qMin(d)), 1), big.NewInt(0))
		wantRound(t, f, d, unit, power2(2-qMin(d)), big.NewInt(0))
		wantRound(t, f, d, unit, power2(-qMin(d)), unit)
		wantRound(t, f, d, big.NewInt(3), power2(1-qMin(d)), big.NewInt(2))
	})
}

// someRatio has parts of up to some limbs, near a power of two of any size.
func someRatio(r *rand.Rand, d impl.Desc) (*big.Int, *big.Int) {
	num, den := bigOf(someList(r, 1+r.Intn(5))), bigOf(someList(r, 1+r.Intn(5)))
	num, den = next(num, 1), next(den, 1)
	far := r.Intn(2*d.EMax+d.P+80) - d.EMax - d.P - 40
	if far < 0 {
		return num, den.Lsh(den, uint(-far))
	}
	return num.Lsh(num, uint(far)), den
}

func TestP5AnyRatio(t *testing.T) {
	r := rand.New(rand.NewSource(32))
	eachFormat(t, func(t *testing.T, f int, d impl.Desc) {
		times := 3000
		if d.P > 60 {
			times = 150
		}
		for range times {
			num, den := someRatio(r, d)
			wantRound(t, f, d, num, den, placeMeant(d, num, den))
		}
	})
}

// distance is how far num/den lies from the magnitude at a place, times den.
func distance(d impl.Desc, place *big.Int, num *big.Int, den *big.Int) *big.Int {
	u := unitsAt(d, place)
	u.Sub(u.Mul(u, den), new(big.Int).Lsh(num, uint(-qMin(d))))
	return u.Abs(u)
}

// The promise by its own words: the neighbours come from Step.
func TestP5NoNeighbourIsNearer(t *testing.T) {
	r := rand.New(rand.NewSource(33))
	eachFormat(t, func(t *testing.T, f int, d impl.Desc) {
		for range 400 {
			num, den := someRatio(r, d)
			got := impl.RoundRatio(f, false, limbsOf(num), limbsOf(den))
			if got.Flags == impl.FlagRange {
				continue
			}
			place, _ := placeOf(d, got.W)
			here := distance(d, place, num, den)
			for _, up := range []bool{false, true} {
				w, ok := impl.Step(f, got.W, up)
				beside, neg := placeOf(d, w)
				if !ok || neg {
					continue
				}
				there := distance(d, beside, num, den)
				if c := there.Cmp(here); c < 0 || c == 0 && impl.Unpack(f, got.W).Sig.Lo%2 == 1 {
					t.Errorf("%s/%s: %x is given, %x is nearer or even", brief(num), brief(den), got.W, w)
				}
			}
		}
	})
}

func TestP5AgainstTheMachine(t *testing.T) {
	r := rand.New(rand.NewSource(34))
	for range 5000 {
		num, den := someRatio(r, layouts[impl.Binary64])
		x, _ := new(big.Rat).SetFrac(num, den).Float64()
		if got := impl.RoundRatio(impl.Binary64, false, limbsOf(num), limbsOf(den)); got.W != lowWord(math.Float64bits(x)) {
			t.Errorf("%s/%s: %x, not %x", brief(num), brief(den), got.W, math.Float64bits(x))
		}
		num, den = someRatio(r, layouts[impl.Binary32])
		y, _ := new(big.Rat).SetFrac(num, den).Float32()
		if got := impl.RoundRatio(impl.Binary32, false, limbsOf(num), limbsOf(den)); got.W != lowWord(uint64(math.Float32bits(y))) {
			t.Errorf("%s/%s: %x, not %x", brief(num), brief(den), got.W, math.Float32bits(y))
		}
	}
}

func TestRoundLongLists(t *testing.T) {
	long, short := full(impl.MaxLimbs), []uint64{5}
	eachFormat(t, func(t *testing.T, f int, d impl.Desc) {
		wantRound(t, f, d, bigOf(long), bigOf(short), topPlace(d))
		wantRound(t, f, d, bigOf(short), bigOf(long), big.NewInt(0))
		one := new(big.Int).Lsh(big.NewInt(int64(d.EMax)), uint(d.P-1))
		wantRound(t, f, d, bigOf(long), bigOf(long), one)
		wantRound(t, f, d, bigOf(long), power2(64*impl.MaxLimbs-1), new(big.Int).Add(one, power2(d.P-1)))
		thirds := new(big.Int).Div(bigOf(long), big.NewInt(3))
		wantRound(t, f, d, thirds, bigOf(long), placeMeant(d, big.NewInt(1), big.NewInt(3)))
		// Beyond all exponents, whichever bits of them a short counter drops.
		for _, far := range []int{1 << 14, 1 << 15, 49152, 65535 - d.EMax, 1 << 16, 65536 + d.P, 75000, 76799} {
			wantRound(t, f, d, power2(max(far, d.EMax+1)), big.NewInt(1), topPlace(d))
			wantRound(t, f, d, big.NewInt(1), power2(max(far, 1-qMin(d))), big.NewInt(0))
		}
		for _, neg := range []bool{false, true} {
			for _, x := range [][2][]uint64{{zeros(1201), short}, {one1201(), short}, {short, one1201()}, {short, full(1201)}, {full(1201), full(1201)}, {nil, one1201()}} {
				if got := impl.RoundRatio(f, neg, x[0], x[1]); got != (impl.Rounded{}) {
					t.Errorf("lists of %d and %d limbs: %v", len(x[0]), len(x[1]), got)
				}
			}
		}
	})
}

func one1201() []uint64 { return one(impl.MaxLimbs + 1) }

func TestRoundZerosAtTheHighEnd(t *testing.T) {
	eachFormat(t, func(t *testing.T, f int, d impl.Desc) {
		want := impl.RoundRatio(f, true, []uint64{22}, []uint64{7})
		if !want.OK || want.Flags != 0 || want.W != placed(d, true, placeMeant(d, big.NewInt(22), big.NewInt(7))) {
			t.Error("22/7:", want)
		}
		num, den := zeros(impl.MaxLimbs), zeros(impl.MaxLimbs)
		num[0], den[0] = 22, 7
		for _, x := range [][2][]uint64{{{22, 0}, {7}}, {{22}, {7, 0, 0}}, {num, {7}}, {num, den}, {{22}, den}} {
			if got := impl.RoundRatio(f, true, x[0], x[1]); got != want {
				t.Errorf("with %d and %d limbs: %v", len(x[0]), len(x[1]), got)
			}
		}
	})
}

func TestRoundZeroParts(t *testing.T) {
	eachFormat(t, func(t *testing.T, f int, d impl.Desc) {
		for _, neg := range []bool{false, true} {
			for _, num := range [][]uint64{nil, {}, {0}, {0, 0, 0}, zeros(impl.MaxLimbs)} {
				for _, den := range [][]uint64{{1}, {7, 0}, full(impl.MaxLimbs)} {
					if got := impl.RoundRatio(f, neg, num, den); got != (impl.Rounded{W: placed(d, neg, big.NewInt(0)), OK: true}) {
						t.Errorf("zero, minus %v: %v", neg, got)
					}
				}
			}
			for _, den := range [][]uint64{nil, {}, {0}, {0, 0}, zeros(impl.MaxLimbs)} {
				for _, num := range [][]uint64{nil, {0}, {1}, full(impl.MaxLimbs)} {
					if got := impl.RoundRatio(f, neg, num, den); got != (impl.Rounded{}) {
						t.Errorf("by zero, minus %v: %v", neg, got)
					}
				}
			}
		}
	})
}
