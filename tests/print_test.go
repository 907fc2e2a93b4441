package tests

import (
	"math"
	"math/big"
	"math/rand"
	"strconv"
	"strings"
	"testing"

	"loop.example/s01493/impl"
)

func wantPrinted(t *testing.T, f int, w impl.Word, text string) {
	t.Helper()
	if p := impl.PrintBits(f, w); string(p.Text) != text || p.Code != impl.ErrNone {
		t.Errorf("%d, %x: %q, code %d, not %q", f, w, p.Text, p.Code, text)
	}
}

// textMeant is the form of a decimal by the document's words.
func textMeant(digits string, exp int) string {
	n := len(digits)
	d := n + exp
	switch {
	case 0 < d && d <= 21 && d >= n:
		return digits + strings.Repeat("0", d-n)
	case 0 < d && d <= 21:
		return digits[:d] + "." + digits[d:]
	case -6 < d && d <= 0:
		return "0." + strings.Repeat("0", -d) + digits
	case n > 1:
		return digits[:1] + "." + digits[1:] + "e" + strconv.Itoa(d-1)
	}
	return digits + "e" + strconv.Itoa(d-1)
}

func wantBack(t *testing.T, f int, d impl.Desc, w impl.Word) {
	t.Helper()
	text := impl.PrintBits(f, w).Text
	got := impl.ParseExact(f, text)
	flags := 0
	if partsMeant(d, w).Class == impl.ClassSubnormal {
		flags = impl.FlagTiny
	}
	if got != (impl.Parsed{W: w, Flags: flags}) {
		t.Errorf("%d, %x: printed as %q, read as %v", f, w, text, got)
	}
}

func TestP13ThereAndBack(t *testing.T) {
	r := rand.New(rand.NewSource(101))
	eachFormat(t, func(t *testing.T, f int, d impl.Desc) {
		others := 10000
		if d.P > 60 {
			others = 1500
		}
		for _, place := range append(finitePlaces(r, d, others), big.NewInt(0), topPlace(d)) {
			wantBack(t, f, d, placed(d, false, place))
			wantBack(t, f, d, placed(d, true, place))
		}
	})
}

func TestP13EachExponentField(t *testing.T) {
	r := rand.New(rand.NewSource(102))
	eachFormat(t, func(t *testing.T, f int, d impl.Desc) {
		for field := 0; field < topField(d); field += 1 + d.EMax/3000 {
			place := new(big.Int).Lsh(big.NewInt(int64(field)), uint(d.P-1))
			place.Add(place, new(big.Int).Rand(r, power2(d.P-1)))
			wantBack(t, f, d, placed(d, r.Intn(2) == 0, place))
		}
	})
}

func TestP13NoNumbers(t *testing.T) {
	eachFormat(t, func(t *testing.T, f int, d impl.Desc) {
		for _, w := range append(notNumbers(d), plainNaN(d)) {
			wantPrinted(t, f, w, "NaN")
			wantParsed(t, f, string(impl.PrintBits(f, w).Text), impl.Parsed{W: plainNaN(d)})
		}
		wantPrinted(t, f, placed(d, false, topPlace(d)), "inf")
		wantPrinted(t, f, placed(d, true, topPlace(d)), "-inf")
		wantPrinted(t, f, placed(d, false, big.NewInt(0)), "0")
		wantPrinted(t, f, placed(d, true, big.NewInt(0)), "-0")
	})
}

func TestP13FormsByTheirWords(t *testing.T) {
	r := rand.New(rand.NewSource(103))
	eachFormat(t, func(t *testing.T, f int, d impl.Desc) {
		for _, place := range finitePlaces(r, d, 300) {
			w := placed(d, false, place)
			s := impl.Shortest(f, w)
			wantPrinted(t, f, w, textMeant(string(s.Digits), s.Exp))
		}
		// Every place of the point around the turns, with one digit and more.
		for exp := -60; exp <= 60; exp++ {
			for _, digits := range []string{"1", "5", "12", "125", "987654", "999999"} {
				w := impl.ParseExact(f, []byte(digits+"e"+strconv.Itoa(exp))).W
				short := impl.Shortest(f, w)
				if short.Exp != exp && d.EMax > 127 {
					t.Errorf("%s e %d comes back as %s e %d", digits, exp, short.Digits, short.Exp)
				}
				wantPrinted(t, f, w, meantOrOther(w, d, short))
			}
		}
	})
}

// meantOrOther also takes what the digits were rounded to beyond the format.
func meantOrOther(w impl.Word, d impl.Desc, short impl.Short) string {
	switch partsMeant(d, w).Class {
	case impl.ClassZero:
		return "0"
	case impl.ClassInfinite:
		return "inf"
	}
	return textMeant(string(short.Digits), short.Exp)
}

func TestP13NotableForms(t *testing.T) {
	for _, text := range []string{
		"1", "2", "10", "120", "123456", "1.5", "12.5", "1234.5", "0.5", "0.25", "0.125", "0.1", "0.001", "0.00001", "0.000001", "0.00000125",
		"100000000000000000000", "120000000000000000000", "123456000000000000000", "1e21", "1.25e21", "1.2e22", "1e30", "9.5e25",
		"1e-7", "1.25e-7", "1e-9", "1.5e-20", "5e-10", "9e-7", "9.5e-7", "0.0000095", "99999", "0.99",
	} {
		for f := range 4 {
			w := impl.ParseExact(f, []byte(text)).W
			wantPrinted(t, f, w, text)
			wantPrinted(t, f, impl.ParseExact(f, []byte("-"+text)).W, "-"+text)
		}
	}
	for text, bits := range map[string]uint64{
		"5e-324": 1, "1.7976931348623157e308": 0x7fefffffffffffff, "-2.2250738585072014e-308": 0x8010000000000000,
		"9007199254740992": 0x4340000000000000, "123456789012345680000": math.Float64bits(123456789012345680000),
		"1.2345678901234568e21": math.Float64bits(1234567890123456800000), "999999999999999900000": math.Float64bits(999999999999999900000),
		"0.000001234567890123": math.Float64bits(0.000001234567890123), "1.234567890123e-7": math.Float64bits(1.234567890123e-7),
		"12345.678901234567": math.Float64bits(12345.678901234567), "1.2345678901234567": math.Float64bits(1.2345678901234567),
		"1234567890123456.8": math.Float64bits(1234567890123456.8), "12345678901234568": math.Float64bits(12345678901234568),
	} {
		wantPrinted(t, impl.Binary64, lowWord(bits), text)
	}
	wantPrinted(t, impl.Binary32, lowWord(1), "1e-45")
	wantPrinted(t, impl.Binary32, lowWord(0xff7fffff), "-3.4028235e38")
	wantPrinted(t, impl.Extended80, lowWord(1), "4e-4951")
	wantPrinted(t, impl.Binary128, lowWord(1), "6e-4966")
	// More than 21 digits, and the point behind the 21st or the 22nd of them.
	for _, text := range []string{"100000000000000000000.5", "999999999999999999999.25", "1.00000000000000000000025e21", "0.0000010000000000000000000000005", "1.0000000000000000000000005e-7"} {
		wantPrinted(t, impl.Binary128, impl.ParseExact(impl.Binary128, []byte(text)).W, text)
	}
}

func TestPrintErrors(t *testing.T) {
	eachFormat(t, func(t *testing.T, f int, d impl.Desc) {
		for _, w := range badWords(d) {
			wantNotPrinted(t, f, w, impl.ErrEncoding)
		}
	})
	for _, f := range noFormats {
		for _, w := range []impl.Word{{}, lowWord(1), lowWord(0x3f800000), {Hi: most, Lo: most}} {
			wantNotPrinted(t, f, w, impl.ErrFormat)
		}
	}
}

func wantNotPrinted(t *testing.T, f int, w impl.Word, code int) {
	t.Helper()
	if p := impl.PrintBits(f, w); len(p.Text) != 0 || p.Code != code {
		t.Errorf("%d, %x: %q, code %d", f, w, p.Text, p.Code)
	}
}

func TestPrintsShareNothing(t *testing.T) {
	eachFormat(t, func(t *testing.T, f int, d impl.Desc) {
		for _, place := range append(edgePlaces(d), big.NewInt(0), topPlace(d), next(topPlace(d), 1)) {
			w := placed(d, false, place)
			first, second := impl.PrintBits(f, w), impl.PrintBits(f, w)
			kept := string(first.Text)
			for i := range second.Text[:cap(second.Text)] {
				second.Text[:cap(second.Text)][i] = 'x'
			}
			if string(first.Text) != kept {
				t.Errorf("%x: two texts share memory", w)
			}
			wantPrinted(t, f, w, kept)
		}
	})
}
