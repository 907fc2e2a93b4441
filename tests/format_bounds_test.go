package tests

import (
	"math/big"
	"math/rand"
	"slices"
	"testing"

	"loop.example/s01493/impl"
)

func wantNoBounds(t *testing.T, f int, w impl.Word) {
	t.Helper()
	if b := impl.Bounds(f, w); len(b.Lo) != 0 || len(b.Hi) != 0 || len(b.Den) != 0 || b.Closed || b.OK {
		t.Errorf("%d, %x: bounds %v", f, w, b)
	}
}

// wantBounds holds the lists against the document's words for them.
func wantBounds(t *testing.T, d impl.Desc, w impl.Word, b impl.Interval) {
	t.Helper()
	p := partsMeant(d, w)
	sig := bigWord(p.Sig)
	low := next(new(big.Int).Mul(sig, big.NewInt(4)), -2)
	if p.Class == impl.ClassNormal && sig.Cmp(power2(d.P-1)) == 0 && p.Q > qMin(d) {
		low = next(low, 1)
	}
	high := next(new(big.Int).Mul(sig, big.NewInt(4)), 2)
	den := big.NewInt(1)
	if t := p.Q - 2; t >= 0 {
		low.Lsh(low, uint(t))
		high.Lsh(high, uint(t))
	} else {
		den = power2(-t)
	}
	wantList(t, "Lo", b.Lo, low)
	wantList(t, "Hi", b.Hi, high)
	wantList(t, "Den", b.Den, den)
	if !b.OK || b.Closed != (sig.Bit(0) == 0) {
		t.Errorf("%x: closed %v, ok %v", w, b.Closed, b.OK)
	}
}

func TestP7BoundsByTheirWords(t *testing.T) {
	r := rand.New(rand.NewSource(41))
	eachFormat(t, func(t *testing.T, f int, d impl.Desc) {
		for _, place := range finitePlaces(r, d, 500) {
			for _, neg := range []bool{false, true} {
				w := placed(d, neg, place)
				wantBounds(t, d, w, impl.Bounds(f, w))
			}
		}
	})
}

// Each value from where t is below zero to where it is above, by its exponent.
func TestP7BoundsWhereTheUnitIsOne(t *testing.T) {
	eachFormat(t, func(t *testing.T, f int, d impl.Desc) {
		for q := -4; q <= 4; q++ {
			field := q + d.EMax + d.P - 1
			for _, offset := range []int64{0, 1, 2} {
				place := next(new(big.Int).Lsh(big.NewInt(int64(field)), uint(d.P-1)), offset)
				w := placed(d, false, place)
				b := impl.Bounds(f, w)
				wantBounds(t, d, w, b)
				if whole := len(b.Den) == 1 && b.Den[0] == 1; whole != (q >= 2) {
					t.Errorf("Q %d: den %x", q, b.Den)
				}
			}
		}
	})
}

// The three ends that the document's rule for lo turns on.
func TestP7BoundsBelowPowersOfTwo(t *testing.T) {
	eachFormat(t, func(t *testing.T, f int, d impl.Desc) {
		width := func(place *big.Int) *big.Int {
			b := impl.Bounds(f, placed(d, false, place))
			return new(big.Int).Sub(bigOf(b.Hi), bigOf(b.Lo))
		}
		rows := []struct {
			place *big.Int
			want  int64
		}{
			{big.NewInt(1), 4}, {big.NewInt(2), 4}, {power2(d.P - 2), 4}, {next(power2(d.P-1), -1), 4},
			{power2(d.P - 1), 4}, {next(power2(d.P-1), 1), 4}, {next(power2(d.P), -1), 4}, {power2(d.P), 3}, {next(power2(d.P), 1), 4},
		}
		for _, x := range rows {
			if got := width(x.place); got.Cmp(big.NewInt(x.want)) != 0 {
				t.Errorf("place %x: %d quarters, not %d", x.place, got, x.want)
			}
		}
	})
}

func TestP7WithinAndOutside(t *testing.T) {
	r := rand.New(rand.NewSource(42))
	eachFormat(t, func(t *testing.T, f int, d impl.Desc) {
		for _, place := range finitePlaces(r, d, 60) {
			w := placed(d, false, place)
			b := impl.Bounds(f, placed(d, r.Intn(2) == 0, place))
			low, high, den := bigOf(b.Lo), bigOf(b.Hi), bigOf(b.Den)
			check := func(num *big.Int, den *big.Int, within bool) {
				t.Helper()
				for _, neg := range []bool{false, true} {
					got := impl.RoundRatio(f, neg, limbsOf(num), limbsOf(den))
					if same := got.OK && got.W == placed(d, neg, place); same != within {
						t.Errorf("%x: %s/%s, minus %v, is rounded to %x; within %v", w, brief(num), brief(den), neg, got.W, within)
					}
				}
			}
			check(low, den, b.Closed)
			check(high, den, b.Closed)
			check(new(big.Int).Add(low, high), new(big.Int).Lsh(den, 1), true)
			for _, factor := range []*big.Int{big.NewInt(1), big.NewInt(7), power2(64), power2(190)} {
				fine, part := new(big.Int).Mul(low, factor), new(big.Int).Mul(den, factor)
				check(next(fine, 1), part, true)
				check(next(fine, -1), part, false)
				fine.Mul(high, factor)
				check(next(fine, -1), part, true)
				check(next(fine, 1), part, false)
			}
		}
	})
}

// One word's upper end is the lower end of the next, so that nothing lies
// between and nothing lies in two.
func TestP7BoundsMeet(t *testing.T) {
	r := rand.New(rand.NewSource(43))
	eachFormat(t, func(t *testing.T, f int, d impl.Desc) {
		for _, place := range finitePlaces(r, d, 200) {
			if next(place, 1).Cmp(topPlace(d)) == 0 {
				continue
			}
			a, b := impl.Bounds(f, placed(d, false, place)), impl.Bounds(f, placed(d, false, next(place, 1)))
			x := new(big.Int).Mul(bigOf(a.Hi), bigOf(b.Den))
			y := new(big.Int).Mul(bigOf(b.Lo), bigOf(a.Den))
			if x.Cmp(y) != 0 || a.Closed == b.Closed {
				t.Errorf("place %x: its bounds don't meet the next", place)
			}
		}
	})
}

func TestNoBounds(t *testing.T) {
	eachFormat(t, func(t *testing.T, f int, d impl.Desc) {
		for _, neg := range []bool{false, true} {
			wantNoBounds(t, f, placed(d, neg, big.NewInt(0)))
			wantNoBounds(t, f, placed(d, neg, topPlace(d)))
		}
		for _, w := range append(notNumbers(d), badWords(d)...) {
			wantNoBounds(t, f, w)
		}
	})
}

func TestBoundsShareNothing(t *testing.T) {
	eachFormat(t, func(t *testing.T, f int, d impl.Desc) {
		for _, place := range edgePlaces(d) {
			w := placed(d, false, place)
			b, other := impl.Bounds(f, w), impl.Bounds(f, w)
			lists := [][]uint64{b.Lo, b.Hi, b.Den}
			for i, list := range lists {
				kept := [][]uint64{slices.Clone(b.Lo), slices.Clone(b.Hi), slices.Clone(b.Den)}
				scribble(list)
				for j := range lists {
					if j != i && !slices.Equal(lists[j], kept[j]) {
						t.Fatalf("%x: lists %d and %d share memory", w, i, j)
					}
				}
			}
			wantBounds(t, d, w, other)
			wantBounds(t, d, w, impl.Bounds(f, w))
		}
	})
}

func TestRoundLeavesItsArguments(t *testing.T) {
	eachFormat(t, func(t *testing.T, f int, d impl.Desc) {
		for _, x := range memoryLists {
			for _, y := range memoryLists {
				num, den := guard(x), guard(y)
				impl.RoundRatio(f, true, num.list, den.list)
				impl.RoundRatio(f, false, num.list, num.list)
				if !num.intact() || !den.intact() {
					t.Fatalf("%x/%x: an argument is changed", x, y)
				}
			}
		}
	})
}
