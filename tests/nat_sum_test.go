package tests

import (
	"math/big"
	"math/rand"
	"testing"

	"loop.example/s01493/impl"
)

func TestSumsAndDifferences(t *testing.T) {
	pairs(rand.New(rand.NewSource(1)), func(a []uint64, b []uint64) {
		x, y := bigOf(a), bigOf(b)
		wantList(t, "sum", impl.NatAdd(a, b), new(big.Int).Add(x, y))
		if c := impl.NatCmp(a, b); c != x.Cmp(y) {
			t.Errorf("%x against %x: %d", a, b, c)
		}
		d, ok := impl.NatSub(a, b)
		if ok != (x.Cmp(y) >= 0) {
			t.Errorf("%x less %x: %v", a, b, ok)
		}
		if ok {
			wantList(t, "difference", d, new(big.Int).Sub(x, y))
		} else {
			wantEmpty(t, "difference below zero", d)
		}
	})
}

func TestSumMayOutgrowTheLimit(t *testing.T) {
	sum := impl.NatAdd(full(impl.MaxLimbs), one(impl.MaxLimbs))
	if len(sum) != impl.MaxLimbs+1 || sum[impl.MaxLimbs] != 1 {
		t.Error("a sum of 1201 limbs has", len(sum))
	}
}

func TestBorrowThroughAllLimbs(t *testing.T) {
	a := zeros(impl.MaxLimbs)
	a[impl.MaxLimbs-1] = 1
	d, ok := impl.NatSub(a, one(1))
	if !ok {
		t.Fatal("refused")
	}
	wantList(t, "2^(64 1199) less 1", d, bigOf(full(impl.MaxLimbs-1)))
}

func TestProducts(t *testing.T) {
	pairs(rand.New(rand.NewSource(2)), func(a []uint64, b []uint64) {
		wantList(t, "product", impl.NatMul(a, b), new(big.Int).Mul(bigOf(a), bigOf(b)))
	})
	if n := len(impl.NatMul(full(impl.MaxLimbs), full(impl.MaxLimbs))); n != 2*impl.MaxLimbs {
		t.Error("the longest product has limbs:", n)
	}
}

// Lists of 1201 limbs are refused on either side, even where they mean zero.
func TestTooLongListsAreRefused(t *testing.T) {
	long := impl.MaxLimbs + 1
	for _, a := range [][]uint64{zeros(long), one(long), full(long), full(5000)} {
		for _, b := range [][]uint64{nil, {1}, full(impl.MaxLimbs), zeros(long), full(long)} {
			wantRefused(t, a, b)
			wantRefused(t, b, a)
		}
		wantEmpty(t, "shift by 0", impl.NatShift(a, 0))
		wantEmpty(t, "shift to the right", impl.NatShift(a, -64))
		wantEmpty(t, "text", impl.NatToText(a))
	}
}

func wantRefused(t *testing.T, a []uint64, b []uint64) {
	t.Helper()
	wantEmpty(t, "sum", impl.NatAdd(a, b))
	wantEmpty(t, "product", impl.NatMul(a, b))
	d, ok := impl.NatSub(a, b)
	wantEmpty(t, "difference", d)
	if ok {
		t.Error("a difference was told")
	}
	q, r, ok := impl.NatDivMod(a, b)
	wantEmpty(t, "quotient", q)
	wantEmpty(t, "rest", r)
	if ok {
		t.Error("a quotient was told")
	}
	if c := impl.NatCmp(a, b); c != 2 {
		t.Error("compared:", c)
	}
}
