package tests

import (
	"math/big"
	"math/rand"
	"slices"
	"testing"

	"loop.example/s01493/impl"
)

// checkQuotient is promise 1 by the program's own NatMul and NatAdd, and the
// same against numbers worked out apart from it.
func checkQuotient(t *testing.T, a []uint64, b []uint64) {
	t.Helper()
	q, r, ok := impl.NatDivMod(a, b)
	if bigOf(b).Sign() == 0 {
		if ok || len(q) != 0 || len(r) != 0 {
			t.Errorf("%x by zero: %x, %x, %v", a, q, r, ok)
		}
		return
	}
	if !ok {
		t.Errorf("%x by %x is refused", a, b)
		return
	}
	wantQ, wantR := new(big.Int).QuoRem(bigOf(a), bigOf(b), new(big.Int))
	wantList(t, "quotient", q, wantQ)
	wantList(t, "rest", r, wantR)
	if impl.NatCmp(r, b) != -1 {
		t.Errorf("%x by %x: the rest is not below the divisor", a, b)
	}
	back := impl.NatAdd(impl.NatMul(q, b), r)
	if len(back) <= impl.MaxLimbs && impl.NatCmp(back, a) != 0 {
		t.Errorf("%x by %x: quotient times divisor plus rest is %x", a, b, back)
	}
}

func TestP1Quotients(t *testing.T) {
	r := rand.New(rand.NewSource(3))
	pairs(r, func(a []uint64, b []uint64) { checkQuotient(t, a, b) })
	for range 3000 {
		checkQuotient(t, someList(r, r.Intn(12)), someList(r, 1+r.Intn(6)))
	}
}

// everyList visits all lists of n edge limbs.
func everyList(n int, visit func(a []uint64)) {
	a := make([]uint64, n)
	var fill func(i int)
	fill = func(i int) {
		if i == n {
			visit(slices.Clone(a))
			return
		}
		for _, limb := range edgeLimbs {
			a[i] = limb
			fill(i + 1)
		}
	}
	fill(0)
}

func TestP1EveryQuotientOfEdgeLimbs(t *testing.T) {
	for n := 1; n <= 3; n++ {
		everyList(n, func(b []uint64) {
			everyList(4, func(a []uint64) {
				q, r, ok := impl.NatDivMod(a, b)
				if bigOf(b).Sign() == 0 {
					if ok {
						t.Errorf("%x by zero", a)
					}
					return
				}
				back := new(big.Int).Mul(bigOf(q), bigOf(b))
				back.Add(back, bigOf(r))
				if !ok || bigOf(r).Cmp(bigOf(b)) >= 0 || back.Cmp(bigOf(a)) != 0 {
					t.Errorf("%x by %x: %x, %x, %v", a, b, q, r, ok)
				}
			})
		})
	}
}

// excess tells by how much the first estimate, two limbs by the divisor's top
// one and at most a limb, is above the quotient's only digit.
func excess(a []uint64, b []uint64) uint64 {
	n := len(b)
	guess := new(big.Int).Quo(bigOf(a[n-1:n+1]), bigOf(b[n-1:]))
	if guess.Cmp(bigOf([]uint64{most})) > 0 {
		guess = bigOf([]uint64{most})
	}
	return guess.Uint64() - new(big.Int).Quo(bigOf(a), bigOf(b)).Uint64()
}

// The divisors have their highest bit set and the dividends one limb more, so
// that a single digit is estimated as it stands.
func TestP1EstimatesPutRight(t *testing.T) {
	rows := []struct {
		a, b []uint64
		by   uint64
	}{
		{[]uint64{5, 7, 1}, []uint64{0, 1 << 63}, 0},
		{[]uint64{0, 0, 1}, []uint64{1, 1 << 63}, 1},
		{[]uint64{0, 0, 1<<63 - 1}, []uint64{most, 1 << 63}, 2},
		{[]uint64{0, 0, 1, 1<<63 - 1}, []uint64{most, most, 1 << 63}, 2},
		// The top limbs are equal: the estimate is the greatest limb.
		{[]uint64{0, most - 1, 1 << 63}, []uint64{most, 1 << 63}, 0},
		{[]uint64{0, 0, 1 << 63}, []uint64{most, 1 << 63}, 1},
		// The second limb tells nothing here, the limbs below it do.
		{[]uint64{0, 0, 1 << 63, 1<<63 - 1}, []uint64{1, 0, 1 << 63}, 1},
		// Once by the second limb and once by what stands below.
		{[]uint64{0, 0, 1 << 63, 1<<63 - 1}, []uint64{1<<63 - 1, 1<<63 + 1, 1 << 63}, 2},
	}
	for _, x := range rows {
		if by := excess(x.a, x.b); by != x.by {
			t.Errorf("%x by %x: the estimate is too high by %d", x.a, x.b, by)
		}
		checkQuotient(t, x.a, x.b)
		checkQuotient(t, append(slices.Clone(x.a), 0, 0), append(slices.Clone(x.b), 0))
		checkQuotient(t, slices.Concat(zeros(3), x.a), x.b)
	}
}

func TestP1LongQuotients(t *testing.T) {
	r := rand.New(rand.NewSource(4))
	for _, n := range []int{1, 2, 3, 599, 600, 601, 1199, 1200} {
		b := someList(r, n)
		b[n-1] |= 1
		checkQuotient(t, full(impl.MaxLimbs), b)
		checkQuotient(t, someList(r, impl.MaxLimbs), b)
		// a whole multiple, and one below it
		q := someList(r, impl.MaxLimbs-n)
		a := impl.NatMul(q, b)
		checkQuotient(t, a, b)
		if less, ok := impl.NatSub(a, []uint64{1}); ok {
			checkQuotient(t, less, b)
		}
	}
}

func TestP1NoQuotientByZero(t *testing.T) {
	for _, a := range [][]uint64{nil, {0}, {7}, full(impl.MaxLimbs)} {
		for _, b := range [][]uint64{nil, {}, {0}, {0, 0, 0}, zeros(impl.MaxLimbs)} {
			checkQuotient(t, a, b)
		}
	}
}
