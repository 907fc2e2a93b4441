package tests

import (
	"math/big"
	"math/rand"
	"regexp"
	"slices"
	"strconv"
	"strings"
	"testing"

	"loop.example/s01493/impl"
)

// The grammar and the beginnings of its texts, as patterns.
const (
	rowPattern  = `(?:[0-9]+(?:\.[0-9]*)?|\.[0-9]+)`
	wordPattern = `[iI][nN][fF](?:[iI][nN][iI][tT][yY])?|[nN][aA][nN]`
	partPattern = `[iI](?:[nN](?:[fF](?:[iI](?:[nN](?:[iI](?:[tT][yY]?)?)?)?)?)?)?|[nN](?:[aA][nN]?)?`
)

var (
	grammar   = regexp.MustCompile(`^[+-]?(?:` + rowPattern + `(?:[eE][+-]?[0-9]+)?|` + wordPattern + `)$`)
	beginning = regexp.MustCompile(`^[+-]?(?:\.?|` + rowPattern + `(?:[eE](?:[+-]?[0-9]*))?|` + partPattern + `)$`)
)

// offsetMeant is the length of the longest beginning with which a text of the
// grammar begins.
func offsetMeant(text string) int {
	n := len(text)
	for !beginning.MatchString(text[:n]) {
		n--
	}
	return n
}

// sameScan compares field by field, empty lists being equal.
func sameScan(a impl.Scanned, b impl.Scanned) bool {
	return a.Code == b.Code && a.Offset == b.Offset && a.D.Kind == b.D.Kind && a.D.Neg == b.D.Neg &&
		a.D.Exp == b.D.Exp && slices.Equal(a.D.Digits, b.D.Digits)
}

func wantScan(t *testing.T, text string, want impl.Scanned) {
	t.Helper()
	if got := impl.ScanDecimal([]byte(text)); !sameScan(got, want) {
		t.Errorf("%.60q (%d bytes): %v, not %v", text, len(text), got, want)
	}
}

// scanMeant is the answer by the document's words, worked out with long numbers.
func scanMeant(text string) impl.Scanned {
	if len(text) > 800 {
		return impl.Scanned{Code: 2, Offset: 800}
	}
	if !grammar.MatchString(text) {
		return impl.Scanned{Code: 1, Offset: offsetMeant(text)}
	}
	neg := text[0] == '-'
	small := strings.ToLower(strings.TrimLeft(text, "+-"))
	if small == "nan" {
		return impl.Scanned{D: impl.Decimal{Kind: 3}}
	}
	if small[0] == 'i' {
		return impl.Scanned{D: impl.Decimal{Kind: 2, Neg: neg}}
	}
	row, written, _ := strings.Cut(small, "e")
	ahead, behind, _ := strings.Cut(row, ".")
	exp := exponentMeant(written) - len(behind)
	number, _ := new(big.Int).SetString(ahead+behind, 10)
	if number.Sign() == 0 {
		return impl.Scanned{D: impl.Decimal{Kind: 1, Neg: neg}}
	}
	digits := number.String()
	for strings.HasSuffix(digits, "0") {
		digits = digits[:len(digits)-1]
		exp++
	}
	return impl.Scanned{D: impl.Decimal{Kind: 1, Neg: neg, Digits: []byte(digits), Exp: exp}}
}

func exponentMeant(written string) int {
	if written == "" {
		return 0
	}
	n, _ := new(big.Int).SetString(written, 10)
	if n.CmpAbs(big.NewInt(1000000)) > 0 {
		return 1000000 * n.Sign()
	}
	return int(n.Int64())
}

// everyText visits all texts of these letters with no more than so many of them.
func everyText(letters string, longest int, visit func(text string)) {
	var grow func(text string)
	grow = func(text string) {
		visit(text)
		if len(text) == longest {
			return
		}
		for _, letter := range []byte(letters) {
			grow(text + string(letter))
		}
	}
	grow("")
}

func TestP10ScanConstants(t *testing.T) {
	got := []int{impl.MaxText, impl.MaxExponent, impl.FastDigits, impl.ErrNone, impl.ErrSyntax, impl.ErrTooLong, impl.ErrEncoding, impl.ErrFormat, impl.KindNone, impl.KindFinite, impl.KindInfinite, impl.KindNaN}
	if want := []int{800, 1000000, 19, 0, 1, 2, 3, 4, 0, 1, 2, 3}; !slices.Equal(got, want) {
		t.Error(got)
	}
}

func TestP10EveryShortText(t *testing.T) {
	everyText("+-.05eEx", 5, func(text string) { wantScan(t, text, scanMeant(text)) })
	everyText(".7e-", 8, func(text string) { wantScan(t, text, scanMeant(text)) })
}

func TestP10NotableTexts(t *testing.T) {
	for text, want := range map[string]impl.Decimal{
		"0":         {Kind: impl.KindFinite},
		"-0":        {Kind: impl.KindFinite, Neg: true},
		"+0":        {Kind: impl.KindFinite},
		"0.":        {Kind: impl.KindFinite},
		".0":        {Kind: impl.KindFinite},
		"-.00e-7":   {Kind: impl.KindFinite, Neg: true},
		"000.000e9": {Kind: impl.KindFinite},
		"1":         {Kind: impl.KindFinite, Digits: []byte("1")},
		"1.":        {Kind: impl.KindFinite, Digits: []byte("1")},
		".1":        {Kind: impl.KindFinite, Digits: []byte("1"), Exp: -1},
		"00100":     {Kind: impl.KindFinite, Digits: []byte("1"), Exp: 2},
		"0.00100":   {Kind: impl.KindFinite, Digits: []byte("1"), Exp: -3},
		"100.00100": {Kind: impl.KindFinite, Digits: []byte("100001"), Exp: -3},
		"-10.50e+2": {Kind: impl.KindFinite, Neg: true, Digits: []byte("105"), Exp: 1},
		"7E0":       {Kind: impl.KindFinite, Digits: []byte("7")},
		"7e-0":      {Kind: impl.KindFinite, Digits: []byte("7")},
		"7.E00012":  {Kind: impl.KindFinite, Digits: []byte("7"), Exp: 12},
		"inf":       {Kind: impl.KindInfinite},
		"-Infinity": {Kind: impl.KindInfinite, Neg: true},
		"+INF":      {Kind: impl.KindInfinite},
		"nan":       {Kind: impl.KindNaN},
		"-nan":      {Kind: impl.KindNaN},
		"+NaN":      {Kind: impl.KindNaN},
	} {
		wantScan(t, text, impl.Scanned{D: want})
	}
	for text, offset := range map[string]int{
		"": 0, "+": 1, "-": 1, "+-": 1, "++1": 1, ".": 1, "-.": 2, "..": 1, ".+": 1, ".e": 1, ".e5": 1,
		"e": 0, "e5": 0, "-e5": 1, "1e": 2, "1E": 2, "1e+": 3, "1e-": 3, "1e+-1": 3, "1e.": 2, "1e5.": 3,
		"1e5e5": 3, "1.2.3": 3, "1..": 2, "1-": 1, "1+1": 1, "1e5-": 3, "1.e": 3, ".5e": 3, ".5e+": 4,
		" ": 0, " 1": 0, "1 ": 1, "1_0": 1, "0x10": 1, "1f": 1, "1i": 1, "1n": 1, "1inf": 1, "1.i": 2,
		"i": 1, "in": 2, "infi": 4, "infinit": 7, "n": 1, "na": 2, "-n": 2, "+infinit": 8, "ix": 1, "nn": 1, "ii": 1,
		"infinity1": 8, "inf1": 3, "inf.": 3, "infe5": 3, "nan(1)": 3, "nano": 3, "inff": 3, "infx": 3, "infix": 4,
		"infinityinfinity": 8, "infinf": 5, "infn": 3, "nani": 3, "nanan": 3, "naf": 2, "int": 2, "a": 0, "fin": 0, "ty": 0,
	} {
		wantScan(t, text, impl.Scanned{Code: impl.ErrSyntax, Offset: offset})
	}
}

// eachSize visits a word with its letters large and small in every way.
func eachSize(word string, visit func(text string)) {
	for sizes := range 1 << len(word) {
		text := []byte(word)
		for i := range text {
			if sizes>>i&1 == 1 {
				text[i] -= 'a' - 'A'
			}
		}
		visit(string(text))
	}
}

// Every beginning of the words, alone and with each byte behind it.
func TestP10EveryBeginningOfAWord(t *testing.T) {
	for _, whole := range []string{"infinity", "nan"} {
		for n := 1; n <= len(whole); n++ {
			eachSize(whole[:n], func(text string) {
				for _, sign := range []string{"", "+", "-"} {
					wantBeginning(t, sign, text, whole)
				}
			})
		}
	}
}

func wantBeginning(t *testing.T, sign string, text string, whole string) {
	want := impl.Scanned{Code: 1, Offset: len(sign + text)}
	if len(text) == 3 || len(text) == 8 {
		want = impl.Scanned{D: impl.Decimal{Kind: impl.KindInfinite, Neg: sign == "-"}}
		if whole == "nan" {
			want = impl.Scanned{D: impl.Decimal{Kind: impl.KindNaN}}
		}
	}
	wantScan(t, sign+text, want)
	rest := whole[len(text):]
	for behind := range 256 {
		if rest != "" && (byte(behind) == rest[0] || byte(behind) == rest[0]-'a'+'A') {
			continue
		}
		got := impl.ScanDecimal([]byte(sign + text + string([]byte{byte(behind)})))
		if !sameScan(got, impl.Scanned{Code: 1, Offset: len(sign + text)}) {
			t.Errorf("%q and the byte %d: %v", sign+text, behind, got)
		}
	}
}

// Each byte behind each state of a number.
func TestP10EveryByteBehind(t *testing.T) {
	for _, text := range []string{"", "+", "-", "1", "-12", ".", "-.", "1.", ".5", "1.5", "1e", "1.5E", "1e+", "1e-", "1e5", "-1.5e-05"} {
		for behind := range 256 {
			for _, more := range []string{"", "1", "\xff\x00", "e1"} {
				whole := text + string([]byte{byte(behind)}) + more
				wantScan(t, whole, scanMeant(whole))
			}
		}
	}
}

// Letters that are not of the grammar, though some have one of it as their
// small or large letter, or are digits elsewhere.
func TestP10LettersFromElsewhere(t *testing.T) {
	for _, letter := range []string{"İ", "ı", "ｉ", "Ｎ", "ñ", "٣", "１", "．", "ｅ", "−", "﹢", "\u00a0", "\u212a", "\x80", "\xc4", "\xc4\xb0", "\ufffd", "\U00010130"} {
		for text, offset := range map[string]int{letter: 0, "-" + letter: 1, "1" + letter: 1, "1." + letter: 2, "1e" + letter: 2, "1e5" + letter: 3, "i" + letter: 1, "inf" + letter: 3, letter + "nf": 0, "1" + letter + "5": 1, "infin" + letter + "ty": 5} {
			wantScan(t, text, impl.Scanned{Code: 1, Offset: offset})
		}
	}
	wantScan(t, "1\x00", impl.Scanned{Code: 1, Offset: 1})
	for _, letter := range []byte{'i' &^ 0x40, 'I' &^ 0x40, 'n' | 0x80, '0' | 0x80, '0' &^ 0x20, 'e' | 0x80, '[', '@', '/', ':', '`', '{'} {
		wantScan(t, string([]byte{letter}), impl.Scanned{Code: 1, Offset: 0})
	}
}

func TestP10ExponentsStopGrowing(t *testing.T) {
	nines := strings.Repeat("9", 700)
	for written, exp := range map[string]int{
		"999999": 999999, "1000000": 1000000, "1000001": 1000000, "999999999": 1000000, "10000000": 1000000,
		"0000000001000000": 1000000, "0000000000999999": 999999, "18446744073709551617": 1000000, "9223372036854775808": 1000000,
		"4294967297": 1000000, "2000000000000000000000000": 1000000, nines: 1000000, strings.Repeat("0", 700) + "12": 12,
		"100000000000000000000000000000": 1000000, "99999": 99999, "1000000000000000000": 1000000,
	} {
		for _, mark := range []string{"e", "E", "e+", "E+"} {
			wantScan(t, "3"+mark+written, impl.Scanned{D: impl.Decimal{Kind: 1, Digits: []byte("3"), Exp: exp}})
		}
		wantScan(t, "-3e-"+written, impl.Scanned{D: impl.Decimal{Kind: 1, Neg: true, Digits: []byte("3"), Exp: -exp}})
		// The exponent stops; what the point and the zeros add does not.
		wantScan(t, "3000e"+written, impl.Scanned{D: impl.Decimal{Kind: 1, Digits: []byte("3"), Exp: exp + 3}})
		wantScan(t, "0.003e-"+written, impl.Scanned{D: impl.Decimal{Kind: 1, Digits: []byte("3"), Exp: -exp - 3}})
		wantScan(t, "-0.00e"+written, impl.Scanned{D: impl.Decimal{Kind: 1, Neg: true}})
	}
}

func TestP10TextsOfAnyLength(t *testing.T) {
	for _, fill := range []string{"0", "7"} {
		for _, n := range []int{799, 800, 801, 802, 1600, 100000} {
			row := strings.Repeat(fill, n)
			for _, text := range []string{row, "-" + row[1:], row[:n-4] + ".e-5", "." + row[1:], row[1:] + "x", "x" + row[1:], "1e" + row[2:], row[1:] + "e"} {
				wantScan(t, text, scanMeant(text))
			}
		}
	}
	wantScan(t, strings.Repeat("x", 801), impl.Scanned{Code: impl.ErrTooLong, Offset: 800})
	wantScan(t, strings.Repeat("x", 800), impl.Scanned{Code: impl.ErrSyntax, Offset: 0})
	wantScan(t, strings.Repeat("9", 799)+"e", impl.Scanned{Code: impl.ErrSyntax, Offset: 800})
	wantScan(t, strings.Repeat("9", 799)+"x", impl.Scanned{Code: impl.ErrSyntax, Offset: 799})
	wantScan(t, strings.Repeat("9", 800)+"x", impl.Scanned{Code: impl.ErrTooLong, Offset: 800})
	wantScan(t, strings.Repeat("\xff", 801), impl.Scanned{Code: impl.ErrTooLong, Offset: 800})
}

// someRow is a row of digits with many zeros, at the ends too.
func someRow(r *rand.Rand, longest int) string {
	row := make([]byte, r.Intn(longest+1))
	for i := range row {
		row[i] = '0' + byte(r.Intn(10)*r.Intn(2))
	}
	return string(row)
}

// someText is a text of the grammar.
func someText(r *rand.Rand) string {
	text := []string{"", "+", "-"}[r.Intn(3)]
	switch r.Intn(3) {
	case 0:
		text += someRow(r, 25) + strconv.Itoa(r.Intn(10))
	case 1:
		text += strconv.Itoa(r.Intn(10)) + someRow(r, 25) + "." + someRow(r, 25)
	case 2:
		text += "." + strconv.Itoa(r.Intn(10)) + someRow(r, 30)
	}
	if r.Intn(3) > 0 {
		text += []string{"e", "E", "e-", "E-", "e+"}[r.Intn(5)] + strconv.Itoa(r.Intn([]int{5, 50, 400, 5000, 2000000}[r.Intn(5)]))
	}
	return text
}

func TestP10AnyText(t *testing.T) {
	r := rand.New(rand.NewSource(61))
	for range 20000 {
		text := someText(r)
		if !grammar.MatchString(text) {
			t.Fatal("no text of the grammar:", text)
		}
		wantScan(t, text, scanMeant(text))
		broken := []byte(text)
		broken[r.Intn(len(broken))] = "+-.eE x0in"[r.Intn(10)]
		wantScan(t, string(broken), scanMeant(string(broken)))
		short := text[:r.Intn(len(text)+1)]
		wantScan(t, short, scanMeant(short))
	}
}

func TestScansShareNothing(t *testing.T) {
	for _, text := range []string{"12345", "000120", "-1.5e7", "0.00", "inf", "x", "1e", ""} {
		whole := append([]byte(text), "behind"...)
		got := impl.ScanDecimal(whole[:len(text)])
		if string(whole) != text+"behind" {
			t.Errorf("%q: the text is changed", text)
		}
		spare := got.D.Digits[:cap(got.D.Digits)]
		kept := slices.Clone(got.D.Digits)
		for i := range whole {
			whole[i] = 'z'
		}
		if !slices.Equal(kept, got.D.Digits) {
			t.Errorf("%q: the digits share memory with the text", text)
		}
		for i := range spare {
			spare[i] = 'y'
		}
		wantScan(t, text, scanMeant(text))
	}
	wantScan(t, "", impl.Scanned{Code: 1})
	if got := impl.ScanDecimal(nil); !sameScan(got, impl.Scanned{Code: 1}) {
		t.Error("nil:", got)
	}
}
