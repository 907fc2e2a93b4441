package tests

import (
	"math"
	"math/big"
	"math/rand"
	"testing"

	"loop.example/s01493/impl"
)

func TestFormatConstants(t *testing.T) {
	got := []int{
		impl.Binary32, impl.Binary64, impl.Extended80, impl.Binary128, impl.FormatCount,
		impl.ClassBad, impl.ClassZero, impl.ClassSubnormal, impl.ClassNormal, impl.ClassInfinite, impl.ClassNaN,
		impl.FlagRange, impl.FlagTiny,
	}
	for i, want := range []int{0, 1, 2, 3, 4, 0, 1, 2, 3, 4, 5, 1, 2} {
		if got[i] != want {
			t.Error(i, got[i], want)
		}
	}
}

func TestDescriptions(t *testing.T) {
	eachFormat(t, func(t *testing.T, f int, d impl.Desc) {
		if got := impl.Describe(f); got != d {
			t.Error(got)
		}
	})
	for _, f := range noFormats {
		if d := impl.Describe(f); d != (impl.Desc{}) {
			t.Error(f, d)
		}
	}
}

func TestNoFormatHasNoWords(t *testing.T) {
	for _, f := range noFormats {
		for _, w := range []impl.Word{{}, {Lo: 1}, {Lo: 0x3f800000}, {Hi: 0x3fff, Lo: 1 << 63}} {
			if p := impl.Unpack(f, w); p != (impl.Parts{}) {
				t.Error("unpacked:", f, w, p)
			}
			for _, up := range []bool{false, true} {
				if got, ok := impl.Step(f, w, up); got != (impl.Word{}) || ok {
					t.Error("stepped:", f, w, got, ok)
				}
			}
			if o := impl.Order(f, w, w); o != 2 {
				t.Error("ordered:", f, w, o)
			}
			wantNoBounds(t, f, w)
		}
		for _, p := range []impl.Parts{{}, {Class: impl.ClassZero}, {Class: impl.ClassInfinite}, {Class: impl.ClassNaN}, {Class: impl.ClassNormal, Sig: impl.Word{Lo: 1 << 23}}} {
			if w, ok := impl.Pack(f, p); w != (impl.Word{}) || ok {
				t.Error("packed:", f, p, w)
			}
		}
		if r := impl.RoundRatio(f, true, []uint64{1}, []uint64{1}); r != (impl.Rounded{}) {
			t.Error("rounded:", f, r)
		}
	}
}

// wantParts looks at a word both ways: what it is taken apart to, and that it
// is put together again.
func wantParts(t *testing.T, f int, d impl.Desc, w impl.Word, want impl.Parts) {
	t.Helper()
	got := impl.Unpack(f, w)
	if got != want {
		t.Errorf("%x: parts %v, not %v", w, got, want)
	}
	back, ok := impl.Pack(f, got)
	switch want.Class {
	case impl.ClassBad:
		if ok || back != (impl.Word{}) {
			t.Errorf("%x: a bad word is packed: %x", w, back)
		}
	case impl.ClassNaN:
		if plain := plainNaN(d); !ok || back != plain {
			t.Errorf("%x: not-a-number comes back as %x %v, not %x", w, back, ok, plain)
		}
	default:
		if !ok || back != w {
			t.Errorf("%x comes back as %x %v", w, back, ok)
		}
	}
}

func plainNaN(d impl.Desc) impl.Word {
	fraction := power2(d.P - 2)
	if d.Explicit {
		fraction.SetBit(fraction, d.P-1, 1)
	}
	return laid(d, false, topField(d), fraction)
}

func TestP4NotableWords(t *testing.T) {
	eachFormat(t, func(t *testing.T, f int, d impl.Desc) {
		for _, neg := range []bool{false, true} {
			wantParts(t, f, d, placed(d, neg, big.NewInt(0)), impl.Parts{Class: impl.ClassZero, Neg: neg})
			wantParts(t, f, d, placed(d, neg, topPlace(d)), impl.Parts{Class: impl.ClassInfinite, Neg: neg})
			least := impl.Parts{Class: impl.ClassSubnormal, Neg: neg, Sig: lowWord(1), Q: qMin(d)}
			wantParts(t, f, d, placed(d, neg, big.NewInt(1)), least)
			lead, top := power2(d.P-1), power2(d.P)
			lead1, top1 := new(big.Int).Sub(lead, big.NewInt(1)), new(big.Int).Sub(top, big.NewInt(1))
			wantParts(t, f, d, placed(d, neg, lead1), impl.Parts{Class: impl.ClassSubnormal, Neg: neg, Sig: wordOf(lead1), Q: qMin(d)})
			wantParts(t, f, d, placed(d, neg, lead), impl.Parts{Class: impl.ClassNormal, Neg: neg, Sig: wordOf(lead), Q: qMin(d)})
			greatest := new(big.Int).Sub(topPlace(d), big.NewInt(1))
			wantParts(t, f, d, placed(d, neg, greatest), impl.Parts{Class: impl.ClassNormal, Neg: neg, Sig: wordOf(top1), Q: d.EMax - d.P + 1})
			one := new(big.Int).Lsh(big.NewInt(int64(d.EMax)), uint(d.P-1))
			wantParts(t, f, d, placed(d, neg, one), impl.Parts{Class: impl.ClassNormal, Neg: neg, Sig: wordOf(lead), Q: 1 - d.P})
		}
		for _, w := range notNumbers(d) {
			wantParts(t, f, d, w, impl.Parts{Class: impl.ClassNaN})
		}
		for _, w := range badWords(d) {
			wantParts(t, f, d, w, impl.Parts{})
		}
	})
}

func lowWord(x uint64) impl.Word { return impl.Word{Lo: x} }

func TestP4AnyWord(t *testing.T) {
	r := rand.New(rand.NewSource(11))
	eachFormat(t, func(t *testing.T, f int, d impl.Desc) {
		for range 20000 {
			w := someWord(r, d)
			wantParts(t, f, d, w, partsMeant(d, w))
		}
		for _, place := range finitePlaces(r, d, 3000) {
			w := placed(d, r.Intn(2) == 0, place)
			wantParts(t, f, d, w, partsMeant(d, w))
		}
	})
}

// Each exponent field of each format, with the fractions at its ends.
func TestP4EachField(t *testing.T) {
	eachFormat(t, func(t *testing.T, f int, d impl.Desc) {
		last := new(big.Int).Sub(power2(fracBits(d)), big.NewInt(1))
		half := power2(fracBits(d) - 1)
		for field := range topField(d) + 1 {
			for _, fraction := range []*big.Int{new(big.Int), big.NewInt(1), half, last} {
				w := laid(d, field%2 == 1, field, fraction)
				wantParts(t, f, d, w, partsMeant(d, w))
			}
		}
	})
}

// The machine's own floats have the layouts of the first two formats.
func TestP4AgainstTheMachine(t *testing.T) {
	r := rand.New(rand.NewSource(12))
	for range 20000 {
		x := math.Float64frombits(r.Uint64())
		p := impl.Unpack(impl.Binary64, lowWord(math.Float64bits(x)))
		if p.Class == impl.ClassNaN != math.IsNaN(x) {
			t.Fatal(x, p)
		}
		if p.Class == impl.ClassNormal && math.Ldexp(float64(p.Sig.Lo), p.Q) != math.Abs(x) {
			t.Fatal(x, p)
		}
		y := math.Float32frombits(r.Uint32())
		p = impl.Unpack(impl.Binary32, lowWord(uint64(math.Float32bits(y))))
		if p.Class == impl.ClassSubnormal || p.Class == impl.ClassNormal {
			if v := math.Ldexp(float64(p.Sig.Lo), p.Q); v != math.Abs(float64(y)) || p.Neg != math.Signbit(float64(y)) {
				t.Fatal(y, p)
			}
		}
	}
}

// refusedParts are those that no word has, of each kind.
func refusedParts(d impl.Desc) []impl.Parts {
	lead, top := power2(d.P-1), power2(d.P)
	top1 := wordOf(new(big.Int).Sub(top, big.NewInt(1)))
	lead1 := wordOf(new(big.Int).Sub(lead, big.NewInt(1)))
	last := impl.Word{Hi: most, Lo: most}
	var all []impl.Parts
	add := func(class int, sig impl.Word, q int) {
		all = append(all, impl.Parts{Class: class, Sig: sig, Q: q}, impl.Parts{Class: class, Neg: true, Sig: sig, Q: q})
	}
	for _, class := range []int{impl.ClassZero, impl.ClassInfinite, impl.ClassNaN} {
		for _, sig := range []impl.Word{lowWord(1), {Hi: 1}, wordOf(lead), wordOf(top), last} {
			add(class, sig, 0)
		}
		for _, q := range []int{1, -1, qMin(d), math.MaxInt, math.MinInt} {
			add(class, impl.Word{}, q)
		}
	}
	all = append(all, impl.Parts{Class: impl.ClassNaN, Neg: true})
	for _, class := range []int{-1, 6, 7, 8, -5, math.MaxInt, math.MinInt, 1<<32 + 3, impl.ClassBad} {
		add(class, impl.Word{}, 0)
		add(class, wordOf(lead), 0)
		add(class, lowWord(1), qMin(d))
	}
	for _, sig := range []impl.Word{{}, wordOf(lead), wordOf(top), top1, {Hi: 1 << 63}, {Hi: 1 << 63, Lo: 1}, last} {
		add(impl.ClassSubnormal, sig, qMin(d))
	}
	for _, q := range []int{qMin(d) - 1, qMin(d) + 1, 0, 1, math.MaxInt, math.MinInt} {
		add(impl.ClassSubnormal, lowWord(1), q)
		add(impl.ClassSubnormal, lead1, q)
	}
	for _, sig := range []impl.Word{{}, lowWord(1), lead1, wordOf(top), wordOf(new(big.Int).Add(top, lead)), {Hi: 1 << 63}, last} {
		add(impl.ClassNormal, sig, 0)
		add(impl.ClassNormal, sig, qMin(d))
	}
	most := d.EMax - d.P + 1
	for _, q := range []int{qMin(d) - 1, qMin(d) - 2, most + 1, most + 2, math.MaxInt, math.MinInt, math.MaxInt - d.EMax, math.MinInt + d.EMax} {
		add(impl.ClassNormal, wordOf(lead), q)
		add(impl.ClassNormal, top1, q)
	}
	// An exponent that is right but for bits beyond its field.
	for bit := d.ExpBits; bit < 64; bit++ {
		add(impl.ClassNormal, wordOf(lead), 1-d.P+1<<bit)
		add(impl.ClassNormal, top1, 1-d.P-1<<bit)
	}
	return all
}

func TestPackRefuses(t *testing.T) {
	eachFormat(t, func(t *testing.T, f int, d impl.Desc) {
		for _, p := range refusedParts(d) {
			if w, ok := impl.Pack(f, p); ok || w != (impl.Word{}) {
				t.Errorf("%v is packed: %x %v", p, w, ok)
			}
		}
	})
}

func TestPackTakesTheLastOfEach(t *testing.T) {
	eachFormat(t, func(t *testing.T, f int, d impl.Desc) {
		lead, top := power2(d.P-1), power2(d.P)
		for _, neg := range []bool{false, true} {
			for _, p := range []impl.Parts{
				{Class: impl.ClassZero, Neg: neg},
				{Class: impl.ClassInfinite, Neg: neg},
				{Class: impl.ClassSubnormal, Neg: neg, Sig: lowWord(1), Q: qMin(d)},
				{Class: impl.ClassSubnormal, Neg: neg, Sig: wordOf(new(big.Int).Sub(lead, big.NewInt(1))), Q: qMin(d)},
				{Class: impl.ClassNormal, Neg: neg, Sig: wordOf(lead), Q: qMin(d)},
				{Class: impl.ClassNormal, Neg: neg, Sig: wordOf(lead), Q: d.EMax - d.P + 1},
				{Class: impl.ClassNormal, Neg: neg, Sig: wordOf(new(big.Int).Sub(top, big.NewInt(1))), Q: d.EMax - d.P + 1},
			} {
				w, ok := impl.Pack(f, p)
				if !ok || partsMeant(d, w) != p {
					t.Errorf("%v: %x %v", p, w, ok)
				}
			}
		}
	})
}
