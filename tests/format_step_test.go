package tests

import (
	"cmp"
	"math"
	"math/big"
	"math/rand"
	"testing"

	"loop.example/s01493/impl"
)

func wantStep(t *testing.T, f int, w impl.Word, up bool, want impl.Word) {
	t.Helper()
	if got, ok := impl.Step(f, w, up); !ok || got != want {
		t.Errorf("%x, up %v: %x %v, not %x", w, up, got, ok, want)
	}
}

func wantNoStep(t *testing.T, f int, w impl.Word, up bool) {
	t.Helper()
	if got, ok := impl.Step(f, w, up); ok || got != (impl.Word{}) {
		t.Errorf("%x, up %v: %x %v, not none", w, up, got, ok)
	}
}

func next(place *big.Int, by int64) *big.Int { return new(big.Int).Add(place, big.NewInt(by)) }

func TestP6StepsBothWays(t *testing.T) {
	r := rand.New(rand.NewSource(21))
	eachFormat(t, func(t *testing.T, f int, d impl.Desc) {
		for _, place := range finitePlaces(r, d, 4000) {
			for _, neg := range []bool{false, true} {
				w := placed(d, neg, place)
				wantStep(t, f, w, !neg, placed(d, neg, next(place, 1)))
				wantStep(t, f, w, neg, placed(d, neg, next(place, -1)))
				for _, up := range []bool{false, true} {
					there, ok := impl.Step(f, w, up)
					if back, ok2 := impl.Step(f, there, !up); !ok || !ok2 || back != w {
						t.Errorf("%x there and back, up %v first: %x, %x", w, up, there, back)
					}
					side := -1
					if up {
						side = 1
					}
					if o := impl.Order(f, there, w); o != side {
						t.Errorf("%x and its step %x, up %v: order %d", w, there, up, o)
					}
					if o := impl.Order(f, w, there); o != -side {
						t.Errorf("%x and its step %x, up %v: order %d the other way", w, there, up, o)
					}
				}
			}
		}
	})
}

func TestStepsAtTheEnds(t *testing.T) {
	eachFormat(t, func(t *testing.T, f int, d impl.Desc) {
		zero, least, top := big.NewInt(0), big.NewInt(1), topPlace(d)
		for _, neg := range []bool{false, true} {
			wantStep(t, f, placed(d, neg, zero), true, placed(d, false, least))
			wantStep(t, f, placed(d, neg, zero), false, placed(d, true, least))
			wantStep(t, f, placed(d, neg, least), neg, placed(d, neg, zero))
			wantStep(t, f, placed(d, neg, next(top, -1)), !neg, placed(d, neg, top))
			wantStep(t, f, placed(d, neg, top), neg, placed(d, neg, next(top, -1)))
			wantNoStep(t, f, placed(d, neg, top), !neg)
		}
		for _, up := range []bool{false, true} {
			for _, w := range append(notNumbers(d), badWords(d)...) {
				wantNoStep(t, f, w, up)
			}
		}
	})
}

func TestStepsAgainstTheMachine(t *testing.T) {
	r := rand.New(rand.NewSource(22))
	for range 20000 {
		x := math.Float64frombits(r.Uint64())
		if math.IsNaN(x) || math.IsInf(x, 0) || x == 0 {
			continue
		}
		wantStep(t, impl.Binary64, lowWord(math.Float64bits(x)), true, lowWord(math.Float64bits(math.Nextafter(x, math.Inf(1)))))
		wantStep(t, impl.Binary64, lowWord(math.Float64bits(x)), false, lowWord(math.Float64bits(math.Nextafter(x, math.Inf(-1)))))
	}
}

// orderMeant goes by the values, infinite being greater than any finite one.
func orderMeant(d impl.Desc, a impl.Word, b impl.Word) int {
	value := func(w impl.Word) *big.Int {
		place, neg := placeOf(d, w)
		units := unitsAt(d, place)
		if neg {
			units.Neg(units)
		}
		return units
	}
	return value(a).Cmp(value(b))
}

func TestP6OrderOfValues(t *testing.T) {
	r := rand.New(rand.NewSource(23))
	eachFormat(t, func(t *testing.T, f int, d impl.Desc) {
		var words []impl.Word
		for _, place := range append(finitePlaces(r, d, 20), big.NewInt(0), topPlace(d)) {
			words = append(words, placed(d, false, place), placed(d, true, place))
		}
		for _, a := range words {
			for _, b := range words {
				if o, want := impl.Order(f, a, b), orderMeant(d, a, b); o != want {
					t.Errorf("%x and %x: %d, not %d", a, b, o, want)
				}
			}
		}
	})
}

func TestOrderOfZerosAndInfinites(t *testing.T) {
	eachFormat(t, func(t *testing.T, f int, d impl.Desc) {
		row := []impl.Word{
			placed(d, true, topPlace(d)), placed(d, true, next(topPlace(d), -1)), placed(d, true, power2(d.P-1)),
			placed(d, true, next(power2(d.P-1), -1)), placed(d, true, big.NewInt(1)), placed(d, true, big.NewInt(0)),
			placed(d, false, big.NewInt(0)), placed(d, false, big.NewInt(1)), placed(d, false, next(power2(d.P-1), -1)),
			placed(d, false, power2(d.P-1)), placed(d, false, next(topPlace(d), -1)), placed(d, false, topPlace(d)),
		}
		rank := []int{0, 1, 2, 3, 4, 5, 5, 6, 7, 8, 9, 10}
		for i, a := range row {
			for j, b := range row {
				if o := impl.Order(f, a, b); o != cmp.Compare(rank[i], rank[j]) {
					t.Errorf("%x and %x: %d", a, b, o)
				}
			}
		}
	})
}

func TestOrderOfWhatHasNoValue(t *testing.T) {
	eachFormat(t, func(t *testing.T, f int, d impl.Desc) {
		one := placed(d, false, new(big.Int).Lsh(big.NewInt(int64(d.EMax)), uint(d.P-1)))
		for _, w := range append(notNumbers(d), badWords(d)...) {
			for _, other := range []impl.Word{w, one, {}, placed(d, true, topPlace(d))} {
				if o := impl.Order(f, w, other); o != 2 {
					t.Errorf("%x and %x: %d", w, other, o)
				}
				if o := impl.Order(f, other, w); o != 2 {
					t.Errorf("%x and %x: %d", other, w, o)
				}
			}
		}
	})
}
