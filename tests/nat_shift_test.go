package tests

import (
	"math"
	"math/big"
	"math/rand"
	"slices"
	"testing"

	"loop.example/s01493/impl"
)

var shiftLists = [][]uint64{
	nil, {0}, {1}, {1, 0, 0}, {most}, {most, most}, {0, 0, 6}, {1 << 63, 1}, {3, 0, 1 << 63, 0},
	{0x0123456789abcdef, 0xfedcba9876543210, 0x1122334455667788},
	full(impl.MaxLimbs), one(impl.MaxLimbs), zeros(impl.MaxLimbs),
}

var shiftPlaces = []int{0, 1, 2, 31, 63, 64, 65, 127, 128, 129, 192, 4096, 76799, 76800, 76801, impl.MaxShift - 1, impl.MaxShift}

func TestP3ShiftsEitherWay(t *testing.T) {
	for _, a := range shiftLists {
		x := bigOf(a)
		for _, n := range shiftPlaces {
			wantList(t, "to the left", impl.NatShift(a, n), new(big.Int).Lsh(x, uint(n)))
			wantList(t, "to the right", impl.NatShift(a, -n), new(big.Int).Rsh(x, uint(n)))
		}
	}
}

func TestP3ShiftThereAndBack(t *testing.T) {
	r := rand.New(rand.NewSource(5))
	lists := slices.Clone(shiftLists)
	for range 60 {
		lists = append(lists, someList(r, r.Intn(20)))
	}
	for _, a := range lists {
		for _, n := range append(shiftPlaces, r.Intn(impl.MaxShift+1)) {
			there := impl.NatShift(a, n)
			if len(there) > impl.MaxLimbs {
				wantEmpty(t, "back from a list that is too long", impl.NatShift(there, -n))
				continue
			}
			wantList(t, "there and back", impl.NatShift(there, -n), bigOf(a))
		}
	}
}

func TestShiftsTooFar(t *testing.T) {
	for _, n := range []int{impl.MaxShift + 1, -impl.MaxShift - 1, math.MaxInt, math.MinInt, math.MinInt + 1} {
		for _, a := range shiftLists {
			wantEmpty(t, "too far", impl.NatShift(a, n))
		}
	}
	if n := len(impl.NatShift(full(impl.MaxLimbs), impl.MaxShift)); n != impl.MaxLimbs+impl.MaxShift/64 {
		t.Error("the longest shift has limbs:", n)
	}
}

func TestPowers(t *testing.T) {
	for _, base := range []uint64{0, 1, 2, 3, 10, 255, 256, 1 << 32, 1<<63 - 1, 1 << 63, most} {
		for _, exp := range []int{0, 1, 2, 3, 7, 8, 63, 64, 65, 400, 1200} {
			want := new(big.Int).Exp(new(big.Int).SetUint64(base), big.NewInt(int64(exp)), nil)
			wantList(t, "power", impl.NatPow(base, exp), want)
		}
	}
	wantList(t, "0 to the 0", impl.NatPow(0, 0), big.NewInt(1))
	wantEmpty(t, "0 to the 5", impl.NatPow(0, 5))
}

func TestPowersAtTheirLimits(t *testing.T) {
	rows := []struct {
		base  uint64
		exp   int
		taken bool
	}{
		{1, impl.MaxPow, true},
		{2, impl.MaxPow, true}, // 2 has 2 bits
		{7, impl.MaxPow, true},
		{4, impl.MaxPow, true},
		{1, impl.MaxPow + 1, false},
		{2, impl.MaxPow + 1, false},
		{15, 19200, true}, // 4 bits 19200 times are the limit
		{8, 19200, true},
		{15, 19201, false},
		{8, 19201, false},
		{16, 15360, true},
		{16, 15361, false},
		{most, 1200, true},
		{1 << 63, 1200, true},
		{most, 1201, false},
		{1<<63 - 1, 1219, true},
		{1<<63 - 1, 1220, false},
		{most, impl.MaxPow, false},
		{2, -1, false},
		{1, -1, false},
		{0, -1, false},
		{2, math.MinInt, false},
		{2, math.MaxInt, false},
		{most, math.MaxInt, false},
		{1, math.MaxInt, false},
	}
	for _, x := range rows {
		got := impl.NatPow(x.base, x.exp)
		if !x.taken {
			wantEmpty(t, "beyond a limit", got)
			continue
		}
		want := new(big.Int).Exp(new(big.Int).SetUint64(x.base), big.NewInt(int64(x.exp)), nil)
		wantList(t, "at a limit", got, want)
	}
}

// 0 has no bits, so that only its exponent has a limit.
func TestPowersOfZero(t *testing.T) {
	for _, exp := range []int{1, 2, impl.MaxPow, impl.MaxPow + 1, math.MaxInt} {
		wantEmpty(t, "power of zero", impl.NatPow(0, exp))
	}
}

func TestP3PowersOfSums(t *testing.T) {
	r := rand.New(rand.NewSource(6))
	rows := [][3]int{{2, 0, 0}, {10, 0, 1}, {10, 27, 28}, {3, 10000, 10000}, {7, 1, 19999}, {0, 0, 3}, {1, 9000, 11000}, {15, 9600, 9600}}
	for range 60 {
		rows = append(rows, [3]int{r.Intn(1 << 20), r.Intn(600), r.Intn(600)})
	}
	for _, x := range rows {
		base := uint64(x[0])
		whole := impl.NatPow(base, x[1]+x[2])
		parts := impl.NatMul(impl.NatPow(base, x[1]), impl.NatPow(base, x[2]))
		if !slices.Equal(whole, parts) {
			t.Errorf("%d to the %d + %d is not the product", x[0], x[1], x[2])
		}
		wantList(t, "power", whole, new(big.Int).Exp(big.NewInt(int64(x[0])), big.NewInt(int64(x[1]+x[2])), nil))
	}
	wantList(t, "2 to the 19999", impl.NatPow(2, 19999), power2(19999))
}
