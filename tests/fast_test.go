package tests

import (
	"math/big"
	"math/rand"
	"strconv"
	"strings"
	"testing"

	"loop.example/s01493/impl"
)

func wantTried(t *testing.T, f int, text string, w int, want impl.Tried) {
	t.Helper()
	if got := impl.ParseFast(f, []byte(text), w); got != want {
		t.Errorf("%d, %.60q, %d bits: %v, not %v", f, text, w, got, want)
	}
}

// topMeant is what TenPower must be, worked out with long numbers.
func topMeant(k int, w int) (top *big.Int, exp int, exact bool) {
	num, den := tenRatio(k)
	exp = num.BitLen() - den.BitLen()
	if compareTen(big.NewInt(1), exp, num, den) > 0 {
		exp--
	}
	exp += 1 - w
	num, den = shifted(num, -exp), shifted(den, exp)
	top, rest := new(big.Int).DivMod(num, den, new(big.Int))
	return top, exp, rest.Sign() == 0
}

func roundMeant(f int, neg bool, n *big.Int, exp int) impl.Rounded {
	return impl.RoundRatio(f, neg, limbsOf(shifted(n, exp)), limbsOf(shifted(big.NewInt(1), -exp)))
}

// triedMeant is the fast way by the document's words.
func triedMeant(f int, d impl.Desc, text string, w int) impl.Tried {
	x := scanMeant(text).D
	if x.Kind != impl.KindFinite || len(x.Digits) == 0 {
		return impl.Tried{P: parsedMeant(f, d, text), Sure: true}
	}
	first := x.Digits[:min(len(x.Digits), 19)]
	cut := len(x.Digits) - len(first)
	k := x.Exp + cut
	if k < -5200 || k > 5200 || w < 1 || w > 128 {
		return impl.Tried{}
	}
	top, exp, exact := topMeant(k, w)
	number, _ := new(big.Int).SetString(string(first), 10)
	a := roundMeant(f, x.Neg, new(big.Int).Mul(number, top), exp)
	if cut > 0 {
		number = next(number, 1)
	}
	if !exact {
		top = next(top, 1)
	}
	b := roundMeant(f, x.Neg, number.Mul(number, top), exp)
	if a != b {
		return impl.Tried{}
	}
	return impl.Tried{P: impl.Parsed{W: a.W, Flags: a.Flags}, Sure: true}
}

func TestP11FastByItsWords(t *testing.T) {
	r := rand.New(rand.NewSource(81))
	eachFormat(t, func(t *testing.T, f int, d impl.Desc) {
		sure := 0
		for range 4000 {
			text, w := someText(r), r.Intn(131)-1
			want := triedMeant(f, d, text, w)
			wantTried(t, f, text, w, want)
			if !want.Sure {
				continue
			}
			sure++
			wantParsed(t, f, text, want.P)
		}
		if sure < 500 || sure > 3900 {
			t.Error("of 4000 sure:", sure)
		}
	})
}

// Digits near a middle, where the two ways would part if the fast one were sure
// too soon.
func TestP11SureNearMiddles(t *testing.T) {
	r := rand.New(rand.NewSource(82))
	eachFormat(t, func(t *testing.T, f int, d impl.Desc) {
		unsure := 0
		for _, place := range finitePlaces(r, d, 40) {
			twice := new(big.Int).Add(unitsAt(d, place), unitsAt(d, next(place, 1)))
			zeros := int(twice.TrailingZeroBits())
			digits, exp := decimalText(new(big.Int).Rsh(twice, uint(zeros)), zeros+qMin(d)-1, 0)
			for _, n := range []int{17, 19, 20, 25, 40, 700} {
				n = min(n, len(digits))
				text := digits[:n] + "e" + strconv.Itoa(exp+len(digits)-n)
				for _, w := range []int{1, 30, 63, 64, 65, 128} {
					want := triedMeant(f, d, text, w)
					wantTried(t, f, text, w, want)
					if !want.Sure {
						unsure++
						continue
					}
					wantParsed(t, f, text, want.P)
				}
			}
		}
		if unsure < 100 {
			t.Error("too few that are not sure:", unsure)
		}
	})
}

// At most 19 digits and an exact power: always sure.
func TestP11SureWherePowersAreExact(t *testing.T) {
	r := rand.New(rand.NewSource(83))
	eachFormat(t, func(t *testing.T, f int, d impl.Desc) {
		for k := range 28 {
			for _, w := range []int{64, 65, 96, 127, 128} {
				for _, number := range []uint64{1, 7, 9999999999999999999, 1<<63 - 1, 1<<24 + 1, 1<<53 + 1, uint64(r.Int63()), uint64(r.Int63()) >> r.Intn(60)} {
					if number%10 == 0 {
						number++
					}
					text := strconv.FormatUint(number, 10) + "e" + strconv.Itoa(k)
					got := impl.ParseFast(f, []byte(text), w)
					if !got.Sure {
						t.Errorf("%s, %d bits: not sure", text, w)
					}
					wantParsed(t, f, text, got.P)
				}
			}
		}
	})
}

func TestP11NineteenAndTwentyDigits(t *testing.T) {
	eachFormat(t, func(t *testing.T, f int, d impl.Desc) {
		for _, text := range []string{
			"1234567890123456789", "12345678901234567890", "12345678901234567891", "123456789012345678900000", "123456789012345678900001",
			"9999999999999999999", "99999999999999999999", "99999999999999999999e-20", "9999999999999999999.9", "0.00099999999999999999990",
			"16777217", "1677721700000000000", "16777217000000000000", "16777217000000000001", "16777216.999999999999", "16777217.00000000000000001",
			"9007199254740993", "9007199254740993000", "9007199254740993.0000", "9007199254740993.0001", "900719925474099300000.01",
			"36893488147419103233", "18446744073709551615", "18446744073709551616", "18446744073709551617",
		} {
			for _, w := range []int{1, 24, 63, 64, 100, 128} {
				want := triedMeant(f, d, text, w)
				wantTried(t, f, text, w, want)
				wantTried(t, f, "-"+text, w, triedMeant(f, d, "-"+text, w))
				if want.Sure {
					wantParsed(t, f, text, want.P)
				}
			}
		}
	})
	// Zeros behind the 19 digits are not digits any more; a digit is.
	wantTried(t, impl.Binary32, "16777217000000000000000", 64, impl.Tried{P: impl.ParseExact(impl.Binary32, []byte("16777217e15")), Sure: true})
	wantTried(t, impl.Binary32, "16777217.000000000001", 64, impl.Tried{})
	wantTried(t, impl.Binary64, "9007199254740993", 64, impl.Tried{P: impl.Parsed{W: lowWord(0x4340000000000000)}, Sure: true})
	wantTried(t, impl.Binary64, "9007199254740993.0001", 64, impl.Tried{})
}

func TestP11NotSure(t *testing.T) {
	wantTried(t, impl.Binary32, "0.1", 4, impl.Tried{})
	wantTried(t, impl.Binary32, "0.1", 64, impl.Tried{P: impl.Parsed{W: lowWord(0x3dcccccd)}, Sure: true})
	wantTried(t, impl.Binary128, "0.1", 64, impl.Tried{})
	wantTried(t, impl.Binary128, "0.1", 128, impl.Tried{P: impl.Parsed{W: impl.Word{Hi: 0x3ffb999999999999, Lo: 0x999999999999999a}}, Sure: true})
	eachFormat(t, func(t *testing.T, f int, d impl.Desc) {
		// Powers beyond the table: not sure, though the answer is plain.
		for _, text := range []string{"1e5201", "-1e-5201", "1e1000000", "1e-1000000", "3e99999999999", "123e-5203"} {
			wantTried(t, f, text, 64, triedMeant(f, d, text, 64))
		}
		wantTried(t, f, "1e5201", 128, impl.Tried{})
		wantTried(t, f, "1e-5201", 128, impl.Tried{})
		wantTried(t, f, "1e5200", 128, impl.Tried{P: impl.Parsed{W: placed(d, false, topPlace(d)), Flags: impl.FlagRange}, Sure: true})
		wantTried(t, f, "-1e-5200", 1, impl.Tried{P: impl.Parsed{W: placed(d, true, big.NewInt(0)), Flags: impl.FlagTiny}, Sure: true})
		// The cut digits count for the power: 10^(Exp + c).
		wantTried(t, f, strings.Repeat("1", 20)+"e5199", 64, impl.Tried{P: impl.Parsed{W: placed(d, false, topPlace(d)), Flags: impl.FlagRange}, Sure: true})
		wantTried(t, f, strings.Repeat("1", 20)+"e5200", 64, impl.Tried{})
		wantTried(t, f, strings.Repeat("1", 119)+"e-5300", 64, impl.Tried{P: impl.Parsed{W: placed(d, false, big.NewInt(0)), Flags: impl.FlagTiny}, Sure: true})
		wantTried(t, f, strings.Repeat("1", 119)+"e-5301", 64, impl.Tried{})
		for _, w := range noWidths {
			for _, text := range []string{"1", "-0.1", "12345678901234567890123", "1e5000"} {
				wantTried(t, f, text, w, impl.Tried{})
			}
		}
	})
}

// What needs no power is sure with any width.
func TestP11SureWithoutAPower(t *testing.T) {
	texts := append([]string{"0", "-0.00e7", "0e99999999", "inf", "-Infinity", "nan", "-NaN", strings.Repeat("0", 800), strings.Repeat("1", 801)}, wrongTexts...)
	eachFormat(t, func(t *testing.T, f int, d impl.Desc) {
		for _, text := range texts {
			for _, w := range append([]int{1, 64, 128}, noWidths...) {
				wantTried(t, f, text, w, impl.Tried{P: parsedMeant(f, d, text), Sure: true})
			}
		}
	})
	for _, f := range noFormats {
		for _, text := range append([]string{"1", "0.1"}, texts...) {
			for _, w := range []int{0, 64, 129} {
				wantTried(t, f, text, w, impl.Tried{P: impl.Parsed{Code: impl.ErrFormat}, Sure: true})
			}
		}
	}
}
