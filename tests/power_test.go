package tests

import (
	"math"
	"math/big"
	"math/rand"
	"slices"
	"testing"

	"loop.example/s01493/impl"
)

// noPowers are exponents beyond the bounds, noWidths widths.
var (
	noPowers = []int{-5201, 5201, -5202, 5202, 10400, -10400, 1 << 32, -1 << 32, math.MinInt, math.MaxInt}
	noWidths = []int{0, -1, 129, 130, 256, -64, -128, 1<<32 + 64, math.MinInt, math.MaxInt}
)

func power10(n int) *big.Int {
	return new(big.Int).Exp(big.NewInt(10), big.NewInt(int64(n)), nil)
}

// shifted is n times 2^by for by of 0 or more, else n.
func shifted(n *big.Int, by int) *big.Int { return new(big.Int).Lsh(n, uint(max(by, 0))) }

// tenRatio is 10^k as a quotient.
func tenRatio(k int) (*big.Int, *big.Int) { return power10(max(k, 0)), power10(max(-k, 0)) }

// compareTen compares top times 2^exp with num/den.
func compareTen(top *big.Int, exp int, num *big.Int, den *big.Int) int {
	left := shifted(top, exp)
	return left.Mul(left, den).Cmp(shifted(num, -exp))
}

// wantPower holds an entry against the promise's words; num/den is 10^k.
func wantPower(t *testing.T, k int, w int, num *big.Int, den *big.Int) {
	t.Helper()
	p := impl.TenPower(k, w)
	top := bigWord(p.Top)
	if !p.OK || p.K != k || p.W != w || top.BitLen() != w || p.Exp != impl.TenBits(k)-w+1 {
		t.Fatalf("10^%d, %d bits: %v", k, w, p)
	}
	side := compareTen(top, p.Exp, num, den)
	if side > 0 || compareTen(next(top, 1), p.Exp, num, den) <= 0 {
		t.Errorf("10^%d, %d bits: not from %v to the next one", k, w, p)
	}
	if p.Exact != (side == 0) {
		t.Errorf("10^%d, %d bits: exact %v", k, w, p.Exact)
	}
}

func TestP8PowerConstants(t *testing.T) {
	if impl.MaxPower != 5200 || impl.MaxWidth != 128 {
		t.Error(impl.MaxPower, impl.MaxWidth)
	}
}

func TestP8EachPower(t *testing.T) {
	r := rand.New(rand.NewSource(51))
	power := big.NewInt(1)
	for k := range impl.MaxPower + 1 {
		w := 1 + r.Intn(impl.MaxWidth)
		wantPower(t, k, w, power, big.NewInt(1))
		wantPower(t, -k, w, big.NewInt(1), power)
		power.Mul(power, big.NewInt(10))
	}
}

func TestP8EachBit(t *testing.T) {
	power := big.NewInt(1)
	for k := range impl.MaxPower + 1 {
		if b := impl.TenBits(k); b != power.BitLen()-1 {
			t.Errorf("%d: %d, not %d", k, b, power.BitLen()-1)
		}
		// No power of ten but 1 is one of two, so the inverse lies one below.
		if b := impl.TenBits(-k); k > 0 && b != -power.BitLen() {
			t.Errorf("%d: %d, not %d", -k, b, -power.BitLen())
		}
		power.Mul(power, big.NewInt(10))
	}
	if b := impl.TenBits(0); b != 0 {
		t.Error("10^0:", b)
	}
}

func TestP8EachWidth(t *testing.T) {
	for _, k := range []int{-5200, -5199, -400, -28, -2, -1, 0, 1, 2, 27, 28, 38, 39, 400, 5199, 5200} {
		num, den := tenRatio(k)
		for w := 1; w <= impl.MaxWidth; w++ {
			wantPower(t, k, w, num, den)
		}
	}
}

// An entry is exact where the odd part of the power, 5^k, fits the width.
func TestP8ExactPowers(t *testing.T) {
	five := big.NewInt(1)
	for k := range 70 {
		for w := 1; w <= impl.MaxWidth; w++ {
			if p := impl.TenPower(k, w); p.Exact != (five.BitLen() <= w) || !p.OK {
				t.Errorf("10^%d, %d bits: %v", k, w, p)
			}
			if p := impl.TenPower(-k, w); k > 0 && (p.Exact || !p.OK) {
				t.Errorf("10^%d, %d bits: %v", -k, w, p)
			}
		}
		five.Mul(five, big.NewInt(5))
	}
}

func TestP8NotablePowers(t *testing.T) {
	for _, want := range []impl.Power{
		{K: 0, W: 1, Top: lowWord(1), Exp: 0, Exact: true, OK: true},
		{K: 0, W: 64, Top: lowWord(1 << 63), Exp: -63, Exact: true, OK: true},
		{K: 0, W: 65, Top: impl.Word{Hi: 1}, Exp: -64, Exact: true, OK: true},
		{K: 1, W: 1, Top: lowWord(1), Exp: 3, OK: true},
		{K: 1, W: 64, Top: lowWord(0xa000000000000000), Exp: -60, Exact: true, OK: true},
		{K: -1, W: 1, Top: lowWord(1), Exp: -4, OK: true},
		{K: -1, W: 64, Top: lowWord(0xcccccccccccccccc), Exp: -67, OK: true},
		{K: -1, W: 128, Top: impl.Word{Hi: 0xcccccccccccccccc, Lo: 0xcccccccccccccccc}, Exp: -131, OK: true},
		{K: 19, W: 64, Top: lowWord(10000000000000000000), Exp: 0, Exact: true, OK: true},
		{K: 27, W: 64, Top: lowWord(0xcecb8f27f4200f3a), Exp: 26, Exact: true, OK: true},
		{K: 28, W: 64, Top: lowWord(0x813f3978f8940984), Exp: 30, OK: true},
		{K: 2, W: 4, Top: lowWord(12), Exp: 3, OK: true},
		{K: 2, W: 5, Top: lowWord(25), Exp: 2, Exact: true, OK: true},
		{K: 3, W: 3, Top: lowWord(7), Exp: 7, OK: true},
	} {
		if p := impl.TenPower(want.K, want.W); p != want {
			t.Errorf("%v, not %v", p, want)
		}
	}
}

func TestPowersBeyondTheBounds(t *testing.T) {
	for _, k := range noPowers {
		if b := impl.TenBits(k); b != 0 {
			t.Errorf("bits of 10^%d: %d", k, b)
		}
		for _, w := range append(slices.Clone(noWidths), 1, 64, 128) {
			if p := impl.TenPower(k, w); p != (impl.Power{}) {
				t.Errorf("10^%d, %d bits: %v", k, w, p)
			}
		}
	}
	for _, w := range noWidths {
		for _, k := range []int{-5200, -1, 0, 1, 64, 5200} {
			if p := impl.TenPower(k, w); p != (impl.Power{}) {
				t.Errorf("10^%d, %d bits: %v", k, w, p)
			}
		}
	}
}

func wantSpan(t *testing.T, d uint64, p impl.Power) {
	t.Helper()
	s := impl.Scale(d, p)
	top, factor := bigWord(p.Top), new(big.Int).SetUint64(d)
	wantList(t, "Lo", s.Lo, new(big.Int).Mul(top, factor))
	if !p.Exact {
		top = next(top, 1)
	}
	wantList(t, "Hi", s.Hi, new(big.Int).Mul(top, factor))
	if !s.OK || s.Exp != p.Exp {
		t.Errorf("%d times 10^%d, %d bits: %v", d, p.K, p.W, s)
	}
}

func wantNoSpan(t *testing.T, d uint64, p impl.Power) {
	t.Helper()
	if s := impl.Scale(d, p); len(s.Lo) != 0 || len(s.Hi) != 0 || s.Exp != 0 || s.OK {
		t.Errorf("%d times %v: %v", d, p, s)
	}
}

var scaledPowers = [][2]int{{0, 1}, {1, 2}, {1, 4}, {-1, 64}, {-1, 128}, {27, 64}, {28, 64}, {55, 128}, {56, 128}, {3, 3}, {5200, 128}, {5200, 1}, {-5200, 128}, {-5200, 65}}

func TestP8Spans(t *testing.T) {
	r := rand.New(rand.NewSource(52))
	for _, x := range scaledPowers {
		p := impl.TenPower(x[0], x[1])
		for _, d := range []uint64{0, 1, 2, 7, 10, 9999999999999999999, 10000000000000000000, 1 << 63, most - 1, most, r.Uint64()} {
			wantSpan(t, d, p)
		}
	}
	for range 300 {
		wantSpan(t, r.Uint64(), impl.TenPower(r.Intn(10401)-5200, 1+r.Intn(128)))
	}
}

// The span has d times 10^k in it, an end of it only where the power is exact.
func TestP8SpansEnclose(t *testing.T) {
	r := rand.New(rand.NewSource(53))
	for range 300 {
		k, d := r.Intn(10401)-5200, r.Uint64()|1
		if r.Intn(2) == 0 {
			k = r.Intn(121) - 60
		}
		p := impl.TenPower(k, 1+r.Intn(128))
		s := impl.Scale(d, p)
		num, den := tenRatio(k)
		num.Mul(num, new(big.Int).SetUint64(d))
		low := compareTen(bigOf(s.Lo), s.Exp, num, den)
		high := compareTen(bigOf(s.Hi), s.Exp, num, den)
		if p.Exact && (low != 0 || high != 0) || !p.Exact && (low >= 0 || high <= 0) {
			t.Errorf("%d times 10^%d, %d bits: sides %d and %d", d, k, p.W, low, high)
		}
	}
}

func TestScaleRefusesOtherPowers(t *testing.T) {
	for _, x := range scaledPowers {
		p := impl.TenPower(x[0], x[1])
		others := []impl.Power{p, p, p, p, p, p, p, p, p, p, p, p, p}
		others[0].K++
		others[1].K--
		others[2].W++
		others[3].W--
		others[4].Top.Lo++
		others[5].Top.Lo--
		others[6].Top.Hi++
		others[7].Top.Hi ^= 1 << 63
		others[8].Exp++
		others[9].Exp--
		others[10].Exact = !p.Exact
		others[11].OK = false
		others[12].K = -p.K
		for i, other := range others {
			if other == p {
				continue
			}
			wantNoSpan(t, 7, other)
			wantNoSpan(t, 0, other)
			if t.Failed() {
				t.Fatal("change", i)
			}
		}
	}
	wantNoSpan(t, 7, impl.Power{})
	wantNoSpan(t, 7, impl.Power{OK: true})
	for _, k := range noPowers {
		wantNoSpan(t, 7, impl.Power{K: k, W: 1, Top: lowWord(1), OK: true})
		wantNoSpan(t, 7, impl.Power{K: k, W: 64, OK: true})
	}
	for _, w := range noWidths {
		wantNoSpan(t, 7, impl.Power{K: 1, W: w, OK: true})
		wantNoSpan(t, 7, impl.Power{K: 1, W: w})
	}
}

func TestSpansShareNothing(t *testing.T) {
	for _, x := range scaledPowers {
		p := impl.TenPower(x[0], x[1])
		for _, d := range []uint64{1, 3, most} {
			s := impl.Scale(d, p)
			kept := slices.Clone(s.Hi[:cap(s.Hi)])
			scribble(s.Lo)
			if !slices.Equal(s.Hi[:cap(s.Hi)], kept) {
				t.Errorf("%d times %v: both ends share memory", d, p)
			}
			scribble(s.Hi)
			wantSpan(t, d, p)
		}
	}
}
