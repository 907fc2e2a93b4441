package tests

import (
	"math"
	"math/big"
	"math/rand"
	"slices"
	"strconv"
	"strings"
	"testing"

	"loop.example/s01493/impl"
)

// around is what is rounded to a magnitude, in quarters of its last place, by
// the document's words for Bounds.
type around struct {
	low, middle, high *big.Int
	exp2              int
	closed            bool
}

func aroundMeant(d impl.Desc, w impl.Word) around {
	p := partsMeant(d, w)
	sig := bigWord(p.Sig)
	middle := new(big.Int).Lsh(sig, 2)
	a := around{low: next(middle, -2), middle: middle, high: next(middle, 2), exp2: p.Q - 2, closed: sig.Bit(0) == 0}
	if p.Class == impl.ClassNormal && sig.Cmp(power2(d.P-1)) == 0 && p.Q > qMin(d) {
		a.low = next(middle, -1)
	}
	return a
}

// inUnits is n times 2^exp2 as a quotient that counts in 10^exp.
func (a around) inUnits(n *big.Int, exp int) (*big.Int, *big.Int) {
	num, den := tenRatio(-exp)
	return num.Mul(num, shifted(n, a.exp2)), den.Mul(den, power2(max(-a.exp2, 0)))
}

// whole are the whole numbers of 10^exp from the lower end to the upper one.
func (a around) whole(exp int) (*big.Int, *big.Int) {
	low, rest := new(big.Int), new(big.Int)
	num, den := a.inUnits(a.low, exp)
	low.DivMod(num, den, rest)
	if rest.Sign() > 0 || !a.closed {
		low = next(low, 1)
	}
	high := new(big.Int)
	num, den = a.inUnits(a.high, exp)
	high.DivMod(num, den, rest)
	if rest.Sign() == 0 && !a.closed {
		high = next(high, -1)
	}
	return low, high
}

// far is how far a decimal lies from the magnitude, as a ratio to be compared.
func (a around) far(number *big.Int, exp int) *big.Rat {
	num, den := a.inUnits(a.middle, exp)
	r := new(big.Rat).Sub(new(big.Rat).SetFrac(num, den), new(big.Rat).SetInt(number))
	return r.Mul(r.Abs(r), new(big.Rat).SetFrac(tenRatio(exp)))
}

type candidate struct {
	number *big.Int
	exp    int
}

// candidates are those decimals of n digits within that may be the nearest one:
// on every power of ten that can have any.
func (a around) candidates(n int) []candidate {
	var list []candidate
	decade := int(math.Floor(float64(a.middle.BitLen()+a.exp2) * math.Log10(2)))
	for exp := decade - n - 2; exp <= decade-n+3; exp++ {
		low, high := a.whole(exp)
		if least := power10(n - 1); low.Cmp(least) < 0 {
			low = least
		}
		if greatest := next(power10(n), -1); high.Cmp(greatest) > 0 {
			high = greatest
		}
		if low.Cmp(high) > 0 {
			continue
		}
		middle := new(big.Int)
		middle.Div(a.inUnits(a.middle, exp))
		for _, number := range []*big.Int{middle, next(middle, 1)} {
			if number.Cmp(low) < 0 {
				number = low
			}
			if number.Cmp(high) > 0 {
				number = high
			}
			list = append(list, candidate{number, exp})
		}
	}
	return list
}

// shortMeant is the shortest decimal by trying out 1 digit, 2 digits and so on.
func shortMeant(d impl.Desc, w impl.Word) (string, int) {
	a := aroundMeant(d, w)
	n := 1
	for len(a.candidates(n)) == 0 {
		n++
	}
	list := a.candidates(n)
	best := list[0]
	for _, c := range list[1:] {
		side := a.far(c.number, c.exp).Cmp(a.far(best.number, best.exp))
		if side < 0 || side == 0 && c.number.Bit(0) == 0 {
			best = c
		}
	}
	return best.number.String(), best.exp
}

func wantShort(t *testing.T, f int, w impl.Word, digits string, exp int, neg bool) {
	t.Helper()
	s := impl.Shortest(f, w)
	if string(s.Digits) != digits || s.Exp != exp || s.Neg != neg || s.Code != impl.ErrNone {
		t.Errorf("%d, %x: %s e %d, minus %v, code %d, not %s e %d", f, w, s.Digits, s.Exp, s.Neg, s.Code, digits, exp)
	}
}

func TestP12ShortestByTryingOut(t *testing.T) {
	r := rand.New(rand.NewSource(91))
	eachFormat(t, func(t *testing.T, f int, d impl.Desc) {
		others := 1500
		if d.P > 60 {
			others = 60
		}
		for _, place := range finitePlaces(r, d, others) {
			w := placed(d, r.Intn(2) == 0, place)
			digits, exp := shortMeant(d, w)
			wantShort(t, f, w, digits, exp, partsMeant(d, w).Neg)
		}
	})
}

// The first subnormals, whose intervals are wide enough for a choice of digits
// on both sides of a power of ten.
func TestP12ShortestOfTheLeast(t *testing.T) {
	eachFormat(t, func(t *testing.T, f int, d impl.Desc) {
		for place := range int64(130) {
			w := placed(d, false, big.NewInt(place+1))
			digits, exp := shortMeant(d, w)
			wantShort(t, f, w, digits, exp, false)
		}
	})
}

// Powers of two, with the nearer neighbour below.
func TestP12ShortestOfPowersOfTwo(t *testing.T) {
	eachFormat(t, func(t *testing.T, f int, d impl.Desc) {
		step := 1 + d.EMax/100
		for field := 1; field < topField(d); field += step {
			w := placed(d, false, new(big.Int).Lsh(big.NewInt(int64(field)), uint(d.P-1)))
			digits, exp := shortMeant(d, w)
			wantShort(t, f, w, digits, exp, false)
		}
	})
}

func TestP12NotableShortest(t *testing.T) {
	for _, x := range []struct {
		f      int
		w      impl.Word
		digits string
		exp    int
	}{
		{impl.Binary32, lowWord(1), "1", -45},
		{impl.Binary32, lowWord(2), "3", -45},
		{impl.Binary32, lowWord(0x007fffff), "11754942", -45},
		{impl.Binary32, lowWord(0x00800000), "11754944", -45},
		{impl.Binary32, lowWord(0x7f7fffff), "34028235", 31},
		{impl.Binary32, lowWord(0x3f800000), "1", 0},
		{impl.Binary32, lowWord(0x3f7fffff), "99999994", -8},
		{impl.Binary32, lowWord(0x4b800001), "16777218", 0},
		{impl.Binary64, lowWord(1), "5", -324},
		{impl.Binary64, lowWord(2), "1", -323},
		{impl.Binary64, lowWord(0x000fffffffffffff), "2225073858507201", -323},
		{impl.Binary64, lowWord(0x0010000000000000), "22250738585072014", -324},
		{impl.Binary64, lowWord(0x7fefffffffffffff), "17976931348623157", 292},
		{impl.Binary64, lowWord(0x3fd5555555555555), "3333333333333333", -16},
		{impl.Binary64, lowWord(0x4340000000000000), "9007199254740992", 0},
		{impl.Binary64, lowWord(0x44b52d02c7e14af6), "1", 23},
		{impl.Extended80, lowWord(1), "4", -4951},
		{impl.Extended80, impl.Word{Hi: 1, Lo: 1 << 63}, "33621031431120935063", -4951},
		{impl.Extended80, impl.Word{Hi: 0x7ffe, Lo: most}, "11897314953572317650", 4913},
		{impl.Extended80, impl.Word{Hi: 0x3ffb, Lo: 0xcccccccccccccccd}, "1", -1},
		{impl.Binary128, lowWord(1), "6", -4966},
		{impl.Binary128, impl.Word{Hi: 1 << 48}, "33621031431120935062626778173217526", -4966},
		{impl.Binary128, impl.Word{Hi: 0x7ffeffffffffffff, Lo: most}, "11897314953572317650857593266280070", 4898},
		{impl.Binary128, impl.Word{Hi: 0x3ffb999999999999, Lo: 0x999999999999999a}, "1", -1},
	} {
		d := layouts[x.f]
		x.digits, x.exp = stripped(x.digits, x.exp)
		wantShort(t, x.f, x.w, x.digits, x.exp, false)
		minus := bigWord(x.w)
		wantShort(t, x.f, wordOf(minus.SetBit(minus, d.Width-1, 1)), x.digits, x.exp, true)
	}
}

// stripped has no zeros at the end.
func stripped(digits string, exp int) (string, int) {
	short := strings.TrimRight(digits, "0")
	return short, exp + len(digits) - len(short)
}

// A quarter behind the point where the last place is a quarter: the decimals
// with one digit behind the point are a twentieth away on either side.
func TestP12TiesOfTheLastDigit(t *testing.T) {
	eachFormat(t, func(t *testing.T, f int, d impl.Desc) {
		for _, whole := range []*big.Int{power2(d.P - 3), next(power2(d.P-3), 1), next(power2(d.P-3), 6), next(power2(d.P-2), -1), next(power2(d.P-2), -4)} {
			quarters := new(big.Int).Lsh(whole, 2)
			wantTie(t, f, next(quarters, 1), whole.String()+"2")
			wantTie(t, f, next(quarters, 3), whole.String()+"8")
		}
	})
}

func wantTie(t *testing.T, f int, quarters *big.Int, digits string) {
	t.Helper()
	w := impl.RoundRatio(f, false, limbsOf(quarters), []uint64{4}).W
	wantShort(t, f, w, digits, -1, false)
	meant, exp := shortMeant(layouts[f], w)
	if meant != digits || exp != -1 {
		t.Errorf("%s quarters: %s e %d", quarters, meant, exp)
	}
}

// endWords finds words whose interval ends on a decimal that has fewer digits
// than all within: with an even Sig it is the shortest, with an odd one not.
func endWords(d impl.Desc, visit func(w impl.Word, end candidate)) {
	// Where the last place is 2^q the ends are odd multiples of 2^(q-1): of
	// these the multiples of a power of five end in zeros.
	for q := 2; q < d.P/3; q++ {
		five := new(big.Int).Exp(big.NewInt(5), big.NewInt(int64(q-1)), nil)
		first := new(big.Int).Div(power2(d.P), five)
		for offset := int64(0); offset < 12; offset++ {
			odd := next(first, offset)
			if odd.Bit(0) == 0 {
				continue
			}
			end := new(big.Int).Mul(odd, five)
			for _, by := range []int64{-1, 1} {
				sig := new(big.Int).Rsh(next(end, by), 1)
				if sig.BitLen() == d.P {
					field := q + d.EMax + d.P - 1
					place := new(big.Int).Lsh(big.NewInt(int64(field-1)), uint(d.P-1))
					visit(placed(d, false, place.Add(place, sig)), candidate{odd, q - 1})
				}
			}
		}
	}
}

func TestP12OpenAndClosedEnds(t *testing.T) {
	eachFormat(t, func(t *testing.T, f int, d impl.Desc) {
		kinds := map[bool]int{}
		endWords(d, func(w impl.Word, end candidate) {
			digits, exp := shortMeant(d, w)
			wantShort(t, f, w, digits, exp, false)
			at, atExp := stripped(end.number.String(), end.exp)
			closed := partsMeant(d, w).Sig.Lo%2 == 0
			if digits == at && exp == atExp {
				if !closed {
					t.Errorf("%x: an end that is not within", w)
				}
				kinds[true]++
			} else if !closed && len(at) < len(digits) {
				kinds[false]++
			}
		})
		if kinds[true] == 0 || kinds[false] == 0 {
			t.Error("ends that are the shortest, and ends that are not within:", kinds)
		}
	})
}

// The promise by its own words, with the program's Bounds.
func TestP12WithinBounds(t *testing.T) {
	r := rand.New(rand.NewSource(92))
	eachFormat(t, func(t *testing.T, f int, d impl.Desc) {
		for _, place := range finitePlaces(r, d, 200) {
			w := placed(d, false, place)
			s, b := impl.Shortest(f, w), impl.Bounds(f, w)
			num, den := decimalRatio(string(s.Digits), s.Exp)
			num.Mul(num, bigOf(b.Den))
			low := num.Cmp(new(big.Int).Mul(bigOf(b.Lo), den))
			high := num.Cmp(new(big.Int).Mul(bigOf(b.Hi), den))
			if low < 0 || high > 0 || !b.Closed && (low == 0 || high == 0) {
				t.Errorf("%x: %s e %d is not within", w, s.Digits, s.Exp)
			}
			if s.Digits[0] == '0' || s.Digits[len(s.Digits)-1] == '0' {
				t.Errorf("%x: %s has a zero at an end", w, s.Digits)
			}
		}
	})
}

func TestP12ShortestAgainstTheMachine(t *testing.T) {
	r := rand.New(rand.NewSource(93))
	for range 60000 {
		x, y := r.Uint64()&(1<<63-1), uint64(r.Uint32()>>1)
		if r.Intn(8) == 0 {
			x, y = x>>11, y>>8
		}
		wantMachine(t, impl.Binary64, x, math.Float64frombits(x), 64)
		wantMachine(t, impl.Binary32, y, float64(math.Float32frombits(uint32(y))), 32)
	}
}

func wantMachine(t *testing.T, f int, bits uint64, x float64, size int) {
	t.Helper()
	if x == 0 || math.IsInf(x, 0) || math.IsNaN(x) {
		return
	}
	row, written, _ := strings.Cut(strconv.FormatFloat(x, 'e', -1, size), "e")
	exp, _ := strconv.Atoi(written)
	digits := strings.Replace(row, ".", "", 1)
	wantShort(t, f, lowWord(bits), digits, exp-len(digits)+1, false)
}

func TestShortestOfTheOthers(t *testing.T) {
	eachFormat(t, func(t *testing.T, f int, d impl.Desc) {
		for _, neg := range []bool{false, true} {
			wantShort(t, f, placed(d, neg, big.NewInt(0)), "", 0, neg)
			wantShort(t, f, placed(d, neg, topPlace(d)), "", 0, neg)
		}
		for _, w := range append(notNumbers(d), plainNaN(d)) {
			wantShort(t, f, w, "", 0, false)
		}
		for _, w := range badWords(d) {
			wantNoShort(t, f, w, impl.ErrEncoding)
		}
	})
	for _, f := range noFormats {
		for _, w := range []impl.Word{{}, lowWord(1), lowWord(0x3f800000), {Hi: most, Lo: most}} {
			wantNoShort(t, f, w, impl.ErrFormat)
		}
	}
}

func wantNoShort(t *testing.T, f int, w impl.Word, code int) {
	t.Helper()
	if s := impl.Shortest(f, w); len(s.Digits) != 0 || s.Exp != 0 || s.Neg || s.Code != code {
		t.Errorf("%d, %x: %v", f, w, s)
	}
}

func TestShortestSharesNothing(t *testing.T) {
	eachFormat(t, func(t *testing.T, f int, d impl.Desc) {
		for _, place := range edgePlaces(d) {
			w := placed(d, true, place)
			first, second := impl.Shortest(f, w), impl.Shortest(f, w)
			kept := slices.Clone(first.Digits)
			for i := range second.Digits {
				second.Digits[i] = 'x'
			}
			if !slices.Equal(first.Digits, kept) {
				t.Errorf("%x: two answers share memory", w)
			}
			wantShort(t, f, w, string(kept), first.Exp, true)
		}
	})
}
