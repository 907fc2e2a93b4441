package tests

import (
	"math/big"
	"math/rand"
	"slices"
	"testing"

	"loop.example/s01493/impl"
)

const most = ^uint64(0)

// edgeLimbs are the limbs at which carries, borrows and estimates go wrong.
var edgeLimbs = []uint64{0, 1, 1<<63 - 1, 1 << 63, most}

// bigOf is the value by the document's words, worked out apart from the program.
func bigOf(a []uint64) *big.Int {
	n := new(big.Int)
	for _, limb := range slices.Backward(a) {
		n.Lsh(n, 64)
		n.Or(n, new(big.Int).SetUint64(limb))
	}
	return n
}

// limbsOf is the list that an answer of that value must be.
func limbsOf(n *big.Int) []uint64 {
	var a []uint64
	rest := new(big.Int).Set(n)
	for rest.Sign() > 0 {
		a = append(a, new(big.Int).And(rest, new(big.Int).SetUint64(most)).Uint64())
		rest.Rsh(rest, 64)
	}
	return a
}

func power2(n int) *big.Int { return new(big.Int).Lsh(big.NewInt(1), uint(n)) }

func zeros(n int) []uint64 { return make([]uint64, n) }

// full is the greatest number of n limbs.
func full(n int) []uint64 { return slices.Repeat([]uint64{most}, n) }

// one is 1, written with n limbs.
func one(n int) []uint64 {
	a := zeros(n)
	a[0] = 1
	return a
}

// someList has n limbs, many of them edges; the highest may be zero.
func someList(r *rand.Rand, n int) []uint64 {
	a := make([]uint64, n)
	for i := range a {
		a[i] = r.Uint64()
		if r.Intn(2) == 0 {
			a[i] = edgeLimbs[r.Intn(len(edgeLimbs))]
		}
	}
	return a
}

// pairs gives lists to be taken two by two: small, edged, long, with zeros in front.
func pairs(r *rand.Rand, visit func(a []uint64, b []uint64)) {
	lists := [][]uint64{
		nil, {}, {0}, {0, 0, 0}, {1}, {1, 0}, {most}, {most, 0, 0}, {0, 1}, {most, most},
		{0, 0, 1}, {1 << 63}, {0, 1 << 63}, one(impl.MaxLimbs), zeros(impl.MaxLimbs), full(impl.MaxLimbs),
	}
	for range 40 {
		lists = append(lists, someList(r, r.Intn(9)))
	}
	for _, n := range []int{63, 64, 65, 600, 1199, 1200} {
		lists = append(lists, someList(r, n))
	}
	for _, a := range lists {
		for _, b := range lists {
			visit(a, b)
		}
	}
}

func wantList(t *testing.T, what string, got []uint64, want *big.Int) {
	t.Helper()
	if !slices.Equal(got, limbsOf(want)) {
		t.Errorf("%s: %x, not %x", what, got, limbsOf(want))
	}
}

func wantEmpty[T any](t *testing.T, what string, got []T) {
	t.Helper()
	if len(got) != 0 {
		t.Errorf("%s: a list of %d, not the empty one", what, len(got))
	}
}
