package tests

import (
	"bytes"
	"math/big"
	"math/rand"
	"slices"
	"strings"
	"testing"

	"loop.example/s01493/impl"
)

func someDigits(r *rand.Rand, n int) []byte {
	text := make([]byte, n)
	for i := range text {
		text[i] = byte('0' + r.Intn(10))
	}
	return text
}

func checkText(t *testing.T, text []byte) {
	t.Helper()
	want, _ := new(big.Int).SetString(string(text), 10)
	a, ok := impl.NatFromText(text)
	if !ok {
		t.Errorf("a text of %d bytes is refused", len(text))
	}
	wantList(t, "number", a, want)
	if back := impl.NatToText(a); string(back) != want.String() {
		t.Errorf("a text of %d bytes comes back as one of %d", len(text), len(back))
	}
}

func TestTexts(t *testing.T) {
	r := rand.New(rand.NewSource(7))
	for n := 1; n <= 120; n++ {
		checkText(t, someDigits(r, n))
		checkText(t, bytes.Repeat([]byte{'0'}, n))
		checkText(t, bytes.Repeat([]byte{'9'}, n))
		checkText(t, append([]byte{'1'}, bytes.Repeat([]byte{'0'}, n)...))
		checkText(t, append(bytes.Repeat([]byte{'0'}, n), "1"...))
		checkText(t, append(bytes.Repeat([]byte{'0'}, n), someDigits(r, n)...))
	}
	for _, n := range []int{1000, impl.MaxDigits - 1, impl.MaxDigits} {
		checkText(t, someDigits(r, n))
		checkText(t, bytes.Repeat([]byte{'9'}, n))
		checkText(t, append(bytes.Repeat([]byte{'0'}, n-1), '7'))
	}
}

func TestTextsAroundTheLimbs(t *testing.T) {
	for _, n := range []int{1, 2, 3, 19, 64, 1000} {
		for d := int64(-1); d <= 1; d++ {
			near := new(big.Int).Add(power2(64*n), big.NewInt(d))
			checkText(t, []byte(near.String()))
		}
	}
}

func TestWrongTexts(t *testing.T) {
	texts := []string{
		"", "a", "12a", "a12", "1 2", " 1", "1 ", "-1", "+1", "1.0", "1e3", "0x1", "/", ":", "1/", "1:", "1\n", "\x00", "1\x00", "\xff", "\xb2", "٣",
		strings.Repeat("0", impl.MaxDigits+1),
		strings.Repeat("1", impl.MaxDigits+1),
		strings.Repeat("1", impl.MaxDigits-1) + "x",
		"x" + strings.Repeat("1", impl.MaxDigits-1),
	}
	for _, text := range texts {
		a, ok := impl.NatFromText([]byte(text))
		wantEmpty(t, "no number", a)
		if ok {
			t.Errorf("taken: %.20q", text)
		}
	}
	if a, ok := impl.NatFromText(nil); ok || len(a) != 0 {
		t.Error("nil is taken")
	}
	for c := range 256 {
		_, ok := impl.NatFromText([]byte{'1', byte(c), '2'})
		if ok != (c >= '0' && c <= '9') {
			t.Errorf("byte %d: %v", c, ok)
		}
	}
}

func TestP2TextAndBack(t *testing.T) {
	r := rand.New(rand.NewSource(8))
	lists := [][]uint64{nil, {0}, {0, 0}, {1}, {9, 0}, {10}, {most}, {0, 1}, {0, 0, 1, 0}, one(impl.MaxLimbs), zeros(impl.MaxLimbs), full(1038)}
	for n := range 60 {
		lists = append(lists, someList(r, n))
	}
	for exp := range 80 {
		lists = append(lists, impl.NatPow(10, exp))
	}
	for _, a := range lists {
		text := impl.NatToText(a)
		if string(text) != bigOf(a).String() {
			t.Errorf("%x is written as %s", a, text)
		}
		back, ok := impl.NatFromText(text)
		if !ok {
			t.Errorf("%s is refused", text)
		}
		wantList(t, "text and back", back, bigOf(a))
	}
}

// A short enough number may have more digits than are read.
func TestLongestText(t *testing.T) {
	text := impl.NatToText(full(impl.MaxLimbs))
	if string(text) != bigOf(full(impl.MaxLimbs)).String() {
		t.Error("the longest text is wrong")
	}
	if a, ok := impl.NatFromText(text); ok || len(a) != 0 {
		t.Error("a text of", len(text), "bytes is taken")
	}
}

func TestP2GreaterTextGreaterNumber(t *testing.T) {
	r := rand.New(rand.NewSource(9))
	for range 2000 {
		text := someDigits(r, 1+r.Intn(70))
		other := slices.Clone(text)
		other[r.Intn(len(other))] = byte('0' + r.Intn(10))
		checkTextOrder(t, text, other)
		checkTextOrder(t, text, someDigits(r, len(text)))
	}
	last := bytes.Repeat([]byte{'9'}, impl.MaxDigits)
	below := append(bytes.Repeat([]byte{'9'}, impl.MaxDigits-1), '8')
	checkTextOrder(t, last, below)
	checkTextOrder(t, below, last)
	checkTextOrder(t, last, last)
}

func checkTextOrder(t *testing.T, x []byte, y []byte) {
	t.Helper()
	a, okA := impl.NatFromText(x)
	b, okB := impl.NatFromText(y)
	if !okA || !okB || impl.NatCmp(a, b) != bytes.Compare(x, y) {
		t.Errorf("%.80s and %.80s are put in the wrong order", x, y)
	}
}
