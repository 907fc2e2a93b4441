package tests

import (
	"errors"
	"math"
	"math/big"
	"math/rand"
	"strconv"
	"strings"
	"testing"

	"loop.example/s01493/impl"
)

func wantParsed(t *testing.T, f int, text string, want impl.Parsed) {
	t.Helper()
	if got := impl.ParseExact(f, []byte(text)); got != want {
		t.Errorf("%d, %.60q (%d bytes): %v, not %v", f, text, len(text), got, want)
	}
}

// wantPlace wants the text, with and without a minus, to be rounded to a place.
func wantPlace(t *testing.T, f int, d impl.Desc, text string, place *big.Int) {
	t.Helper()
	wantParsed(t, f, text, impl.Parsed{W: placed(d, false, place), Flags: flagsAt(d, place)})
	wantParsed(t, f, "-"+text, impl.Parsed{W: placed(d, true, place), Flags: flagsAt(d, place)})
}

// decimalRatio is digits times 10^exp as a quotient.
func decimalRatio(digits string, exp int) (*big.Int, *big.Int) {
	number, _ := new(big.Int).SetString(digits, 10)
	num, den := tenRatio(exp)
	return num.Mul(num, number), den
}

// parsedMeant is what the exact value of a text of the grammar is rounded to.
func parsedMeant(f int, d impl.Desc, text string) impl.Parsed {
	s := scanMeant(text)
	x := s.D
	switch {
	case s.Code != 0:
		return impl.Parsed{Code: s.Code, Offset: s.Offset}
	case x.Kind == impl.KindInfinite:
		return impl.Parsed{W: placed(d, x.Neg, topPlace(d))}
	case x.Kind == impl.KindNaN:
		return impl.Parsed{W: plainNaN(d)}
	case len(x.Digits) == 0:
		return impl.Parsed{W: placed(d, x.Neg, big.NewInt(0))}
	case x.Exp > 6000:
		return impl.Parsed{W: placed(d, x.Neg, topPlace(d)), Flags: impl.FlagRange}
	case x.Exp+len(x.Digits) < -6000:
		return impl.Parsed{W: placed(d, x.Neg, big.NewInt(0)), Flags: impl.FlagTiny}
	}
	num, den := decimalRatio(string(x.Digits), x.Exp)
	r := impl.RoundRatio(f, x.Neg, limbsOf(num), limbsOf(den))
	return impl.Parsed{W: r.W, Flags: r.Flags}
}

func TestP10ParseAnyText(t *testing.T) {
	r := rand.New(rand.NewSource(71))
	eachFormat(t, func(t *testing.T, f int, d impl.Desc) {
		for range 3000 {
			text := someText(r)
			wantParsed(t, f, text, parsedMeant(f, d, text))
		}
	})
}

// Apart from the program's own rounding.
func TestP10ParseByHalving(t *testing.T) {
	r := rand.New(rand.NewSource(72))
	eachFormat(t, func(t *testing.T, f int, d impl.Desc) {
		decades := int(float64(d.EMax) * math.Log10(2))
		for range 120 {
			digits := strings.TrimLeft(someRow(r, 40), "0") + "3"
			exp := r.Intn(2*decades+60) - decades - 40 - len(digits)
			num, den := decimalRatio(digits, exp)
			wantPlace(t, f, d, digits+"e"+strconv.Itoa(exp), placeMeant(d, num, den))
		}
	})
}

// machineParsed is what the machine reads, for the first two formats.
func machineParsed(t *testing.T, f int, text string) impl.Parsed {
	x, err := strconv.ParseFloat(text, []int{32, 64}[f])
	if err != nil && !errors.Is(err, strconv.ErrRange) {
		t.Fatal(err)
	}
	w, least := lowWord(math.Float64bits(x)), 0x1p-1022
	if f == impl.Binary32 {
		w, least = lowWord(uint64(math.Float32bits(float32(x)))), 0x1p-126
	}
	if math.IsInf(x, 0) {
		return impl.Parsed{W: w, Flags: impl.FlagRange}
	}
	if math.Abs(x) < least && strings.ContainsAny(strings.SplitN(strings.ToLower(text), "e", 2)[0], "123456789") {
		return impl.Parsed{W: w, Flags: impl.FlagTiny}
	}
	return impl.Parsed{W: w}
}

func TestP10ParseAgainstTheMachine(t *testing.T) {
	r := rand.New(rand.NewSource(73))
	for f := range 2 {
		for range 20000 {
			text := strconv.Itoa(r.Intn(10)) + "." + someRow(r, 30) + "e" + strconv.Itoa(r.Intn(800)-420)
			wantParsed(t, f, text, machineParsed(t, f, text))
			text = strconv.FormatUint(r.Uint64()>>r.Intn(64), 10) + "e" + strconv.Itoa(r.Intn(90)-60)
			wantParsed(t, f, text, machineParsed(t, f, text))
		}
	}
}

func TestP10NotableParses(t *testing.T) {
	for _, x := range []struct {
		f     int
		text  string
		want  impl.Word
		flags int
	}{
		{impl.Binary32, "1", lowWord(0x3f800000), 0},
		{impl.Binary32, "16777217", lowWord(0x4b800000), 0},
		{impl.Binary32, "16777219", lowWord(0x4b800002), 0},
		{impl.Binary32, "16777217.0000000000000000000000000001", lowWord(0x4b800001), 0},
		{impl.Binary32, "340282346638528859811704183484516925440", lowWord(0x7f7fffff), 0},
		{impl.Binary32, "340282356779733661637539395458142568447", lowWord(0x7f7fffff), 0},
		{impl.Binary32, "340282356779733661637539395458142568448", lowWord(0x7f800000), impl.FlagRange},
		{impl.Binary32, "1.17549435e-38", lowWord(0x00800000), 0},
		{impl.Binary32, "1.1754942e-38", lowWord(0x007fffff), impl.FlagTiny},
		{impl.Binary32, "-7.00649232162408535461864791644958e-46", lowWord(0x80000000), impl.FlagTiny},
		{impl.Binary32, "-7.00649232162408535461864791644959e-46", lowWord(0x80000001), impl.FlagTiny},
		{impl.Binary64, "1.7976931348623157e308", lowWord(0x7fefffffffffffff), 0},
		{impl.Binary64, "1.7976931348623159e308", lowWord(0x7ff0000000000000), impl.FlagRange},
		{impl.Binary64, "9007199254740993", lowWord(0x4340000000000000), 0},
		{impl.Binary64, "2.2250738585072011e-308", lowWord(0x000fffffffffffff), impl.FlagTiny},
		{impl.Binary64, "2.2250738585072012e-308", lowWord(0x0010000000000000), 0},
		{impl.Binary64, "5e-324", lowWord(1), impl.FlagTiny},
		{impl.Binary64, "2e-324", lowWord(0), impl.FlagTiny},
		{impl.Extended80, "-0.5", impl.Word{Hi: 0xbffe, Lo: 1 << 63}, 0},
		{impl.Extended80, "0.1", impl.Word{Hi: 0x3ffb, Lo: 0xcccccccccccccccd}, 0},
		{impl.Extended80, "4e-4951", lowWord(1), impl.FlagTiny},
		{impl.Extended80, "1.18973149535723176505e4932", impl.Word{Hi: 0x7ffe, Lo: most}, 0},
		{impl.Extended80, "1.18973149535723176506e4932", impl.Word{Hi: 0x7fff, Lo: 1 << 63}, impl.FlagRange},
		{impl.Binary128, "0.1", impl.Word{Hi: 0x3ffb999999999999, Lo: 0x999999999999999a}, 0},
		{impl.Binary128, "6.475175119438025110924438958227646552e-4966", lowWord(1), impl.FlagTiny},
		{impl.Binary128, "3e-4966", lowWord(0), impl.FlagTiny},
		{impl.Binary128, "1.18973149535723176508575932662800702e4932", impl.Word{Hi: 0x7ffeffffffffffff, Lo: most}, 0},
		{impl.Binary128, "-1.2e4932", impl.Word{Hi: 0xffff << 48}, impl.FlagRange},
	} {
		wantParsed(t, x.f, x.text, impl.Parsed{W: x.want, Flags: x.flags})
	}
}

// decimalText writes num times 2^exp2 times 10^exp10 with digits, exactly.
func decimalText(num *big.Int, exp2 int, exp10 int) (string, int) {
	exp := exp10 + min(exp2, 0)
	n := shifted(num, exp2)
	n.Mul(n, new(big.Int).Exp(big.NewInt(5), big.NewInt(int64(max(-exp2, 0))), nil))
	return n.String(), exp
}

// Around the middle of two neighbours: exactly, and a little off in a digit far
// behind.
func TestP10ParseAroundEachMiddle(t *testing.T) {
	r := rand.New(rand.NewSource(74))
	eachFormat(t, func(t *testing.T, f int, d impl.Desc) {
		exact := 0
		for _, place := range append(finitePlaces(r, d, 150), big.NewInt(0)) {
			twice := new(big.Int).Add(unitsAt(d, place), unitsAt(d, next(place, 1)))
			zeros := int(twice.TrailingZeroBits())
			digits, exp := decimalText(new(big.Int).Rsh(twice, uint(zeros)), zeros+qMin(d)-1, 0)
			if len(digits) <= 760 {
				exact++
				written := "e" + strconv.Itoa(exp-5)
				wantPlace(t, f, d, digits+"e"+strconv.Itoa(exp), evenOf(place))
				wantPlace(t, f, d, "000"+digits+".000e"+strconv.Itoa(exp), evenOf(place))
				wantPlace(t, f, d, digits+"00001"+written, next(place, 1))
				below, _ := new(big.Int).SetString(digits+"00000", 10)
				wantPlace(t, f, d, next(below, -1).String()+written, place)
				continue
			}
			// Cut at 760 digits the middle is missed by less than any place.
			cut, written := digits[:760], "e"+strconv.Itoa(exp+len(digits)-760)
			above, _ := new(big.Int).SetString(cut, 10)
			wantPlace(t, f, d, cut+written, place)
			wantPlace(t, f, d, next(above, 1).String()+written, next(place, 1))
		}
		if exact < 20 {
			t.Error("too few exact middles:", exact)
		}
	})
}

func TestP10ParseExactValues(t *testing.T) {
	eachFormat(t, func(t *testing.T, f int, d impl.Desc) {
		for _, place := range edgePlaces(d) {
			units := unitsAt(d, place)
			zeros := int(units.TrailingZeroBits())
			digits, exp := decimalText(units.Rsh(units, uint(zeros)), zeros+qMin(d), 0)
			if len(digits) <= 780 {
				wantPlace(t, f, d, digits+"e"+strconv.Itoa(exp), place)
			}
		}
	})
}

// Beyond every format, however far the exponent goes.
func TestP10ParseFarExponents(t *testing.T) {
	eachFormat(t, func(t *testing.T, f int, d impl.Desc) {
		for _, exp := range []int{4933, 4966, 5199, 5200, 5201, 5999, 6000, 6001, 9999, 65536, 99999, 999999, 1000000, 1000001, 1 << 30} {
			written := strconv.Itoa(exp)
			wantPlace(t, f, d, "1e"+written, topPlace(d))
			wantPlace(t, f, d, "9e+"+written, topPlace(d))
			wantPlace(t, f, d, strings.Repeat("9", 780)+"e"+written, topPlace(d))
			wantPlace(t, f, d, "1e-"+strconv.Itoa(exp+34), big.NewInt(0))
			wantPlace(t, f, d, "0."+strings.Repeat("0", 700)+"9e-"+written, big.NewInt(0))
		}
		wantPlace(t, f, d, strings.Repeat("9", 780)+"e-9999", big.NewInt(0))
		wantPlace(t, f, d, strings.Repeat("9", 770)+"e99999999999999999999", topPlace(d))
		// An exponent that the digits make up for.
		one := new(big.Int).Lsh(big.NewInt(int64(d.EMax)), uint(d.P-1))
		wantPlace(t, f, d, "1"+strings.Repeat("0", 700)+"e-700", one)
		wantPlace(t, f, d, "0."+strings.Repeat("0", 699)+"1e700", one)
		wantPlace(t, f, d, "0."+strings.Repeat("0", 699)+"1e1000700", topPlace(d))
		for _, digits := range []string{"1", "123456789", strings.Repeat("8", 700)} {
			for _, decade := range []int{-5600, -5200, -5000, -4966, -4965, -4951, -4932, -4900, 4900, 4931, 4932, 4933, 5000, 5200, 5600} {
				text := digits + "e" + strconv.Itoa(decade-len(digits))
				wantParsed(t, f, text, parsedMeant(f, d, text))
			}
		}
	})
}

func TestP10ParseWords(t *testing.T) {
	eachFormat(t, func(t *testing.T, f int, d impl.Desc) {
		for _, sign := range []string{"", "+", "-"} {
			for _, word := range []string{"inf", "INF", "infinity", "iNfInItY"} {
				wantParsed(t, f, sign+word, impl.Parsed{W: placed(d, sign == "-", topPlace(d))})
			}
			for _, word := range []string{"nan", "NaN", "NAN"} {
				wantParsed(t, f, sign+word, impl.Parsed{W: plainNaN(d)})
			}
			for _, zero := range []string{"0", "0.", ".0", "000.000", "0e5", "0e-9999999", ".00E+1000000"} {
				wantParsed(t, f, sign+zero, impl.Parsed{W: placed(d, sign == "-", big.NewInt(0))})
			}
		}
	})
}

var wrongTexts = []string{"", "+", ".", "e", "1e", "1e+", "infi", "na", "x", "1x", "--1", "1..2", "1 ", "\xff", "nanx"}

func TestParseErrors(t *testing.T) {
	long := strings.Repeat("1", 801)
	eachFormat(t, func(t *testing.T, f int, d impl.Desc) {
		for _, text := range wrongTexts {
			wantParsed(t, f, text, impl.Parsed{Code: impl.ErrSyntax, Offset: offsetMeant(text)})
		}
		wantParsed(t, f, long, impl.Parsed{Code: impl.ErrTooLong, Offset: 800})
		wantParsed(t, f, long[1:], parsedMeant(f, d, long[1:]))
	})
	for _, f := range noFormats {
		for _, text := range append([]string{"1", "0", "inf", "nan", "1e99999", long}, wrongTexts...) {
			wantParsed(t, f, text, impl.Parsed{Code: impl.ErrFormat})
		}
	}
}

func TestParsesLeaveTheText(t *testing.T) {
	for _, text := range append([]string{"1.50e3", "00012.000", "-inf", "nan", "12345678901234567890123e-5"}, wrongTexts...) {
		whole := append([]byte(text), "e999"...)
		for f := -1; f <= 4; f++ {
			impl.ParseExact(f, whole[:len(text)])
			impl.ParseFast(f, whole[:len(text)], 64)
		}
		if string(whole) != text+"e999" {
			t.Errorf("%q: the text is changed", text)
		}
	}
}
