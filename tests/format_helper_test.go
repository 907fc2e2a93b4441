package tests

import (
	"math"
	"math/big"
	"math/rand"
	"strconv"
	"testing"

	"loop.example/s01493/impl"
)

// layouts are the rows of the document's table, by format.
var layouts = []impl.Desc{
	{P: 24, EMin: -126, EMax: 127, Width: 32, ExpBits: 8, Explicit: false},
	{P: 53, EMin: -1022, EMax: 1023, Width: 64, ExpBits: 11, Explicit: false},
	{P: 64, EMin: -16382, EMax: 16383, Width: 80, ExpBits: 15, Explicit: true},
	{P: 113, EMin: -16382, EMax: 16383, Width: 128, ExpBits: 15, Explicit: false},
}

// noFormats are the numbers that name none.
var noFormats = []int{-1, 4, 5, -4, math.MinInt, math.MaxInt, 1 << 32, -1 << 32}

func wordOf(n *big.Int) impl.Word {
	low := new(big.Int).And(n, new(big.Int).SetUint64(most))
	return impl.Word{Hi: new(big.Int).Rsh(n, 64).Uint64(), Lo: low.Uint64()}
}

func bigWord(w impl.Word) *big.Int { return bigOf([]uint64{w.Lo, w.Hi}) }

// brief is a number for a message: long ones are cut in the middle.
func brief(n *big.Int) string {
	text := n.Text(16)
	if len(text) <= 48 {
		return text
	}
	return text[:20] + "..(" + strconv.Itoa(len(text)) + ").." + text[len(text)-20:]
}

func fracBits(d impl.Desc) int {
	if d.Explicit {
		return d.P
	}
	return d.P - 1
}

func topField(d impl.Desc) int { return 1<<d.ExpBits - 1 }

func qMin(d impl.Desc) int { return d.EMin - d.P + 1 }

// laid puts the fields where the document's layout has them, whatever they mean.
func laid(d impl.Desc, neg bool, field int, fraction *big.Int) impl.Word {
	n := new(big.Int).Lsh(big.NewInt(int64(field)), uint(fracBits(d)))
	n.Or(n, fraction)
	if neg {
		n.SetBit(n, d.Width-1, 1)
	}
	return wordOf(n)
}

// placed is the word of a place in the row of magnitudes: 0 is zero, 1 the least
// subnormal and so on without a gap to infinite. A place counts the words of the
// formats that have no written leading bit; where it is written, it is put in.
func placed(d impl.Desc, neg bool, place *big.Int) impl.Word {
	field := int(new(big.Int).Rsh(place, uint(d.P-1)).Int64())
	fraction := new(big.Int).And(place, new(big.Int).Sub(power2(d.P-1), big.NewInt(1)))
	if d.Explicit && field > 0 {
		fraction.SetBit(fraction, d.P-1, 1)
	}
	return laid(d, neg, field, fraction)
}

// topPlace is that of infinite.
func topPlace(d impl.Desc) *big.Int {
	return new(big.Int).Lsh(big.NewInt(int64(topField(d))), uint(d.P-1))
}

// placeOf is the place and the sign of a word that has a value.
func placeOf(d impl.Desc, w impl.Word) (*big.Int, bool) {
	n := bigWord(w)
	neg := n.Bit(d.Width-1) == 1
	n.SetBit(n, d.Width-1, 0)
	if !d.Explicit {
		return n, neg
	}
	field := new(big.Int).Rsh(n, uint(d.P))
	n.And(n, new(big.Int).Sub(power2(d.P-1), big.NewInt(1)))
	return n.Or(n, field.Lsh(field, uint(d.P-1))), neg
}

// edgePlaces are the places at which steps, bounds and roundings turn.
func edgePlaces(d impl.Desc) []*big.Int {
	row := func(field int, offset int64) *big.Int {
		n := new(big.Int).Lsh(big.NewInt(int64(field)), uint(d.P-1))
		return n.Add(n, big.NewInt(offset))
	}
	places := []*big.Int{row(0, 1), row(0, 2), row(0, 3), row(0, 4)}
	places = append(places, power2(d.P-2), power2(d.P-3), new(big.Int).Sub(power2(d.P-2), big.NewInt(1)))
	bias := d.EMax
	for _, field := range []int{1, 2, 3, bias - 1, bias, bias + 1, bias + d.P - 2, bias + d.P - 1, bias + d.P, bias + d.P + 1, bias + d.P + 2, 2 * bias, topField(d)} {
		for offset := int64(-2); offset <= 2; offset++ {
			if n := row(field, offset); n.Cmp(topPlace(d)) < 0 {
				places = append(places, n)
			}
		}
	}
	return places
}

// somePlace is that of a finite value other than zero, one in six subnormal.
func somePlace(r *rand.Rand, d impl.Desc) *big.Int {
	places := new(big.Int).Sub(topPlace(d), big.NewInt(1))
	if r.Intn(6) == 0 {
		places.Sub(power2(d.P-1), big.NewInt(1))
	}
	n := new(big.Int).Rand(r, places)
	return n.Add(n, big.NewInt(1))
}

// finitePlaces are the edges and some others.
func finitePlaces(r *rand.Rand, d impl.Desc, others int) []*big.Int {
	places := edgePlaces(d)
	for range others {
		places = append(places, somePlace(r, d))
	}
	return places
}

// eachFormat runs a check as a test of its own for each format.
func eachFormat(t *testing.T, check func(t *testing.T, f int, d impl.Desc)) {
	for f, name := range []string{"Binary32", "Binary64", "Extended80", "Binary128"} {
		t.Run(name, func(t *testing.T) { check(t, f, layouts[f]) })
	}
}

// notNumbers are words of not-a-number, and badWords those of no class, by the
// document's layout.
func notNumbers(d impl.Desc) []impl.Word {
	var words []impl.Word
	fractions := []*big.Int{big.NewInt(1), big.NewInt(6), power2(d.P - 2), power2(d.P - 3), new(big.Int).Sub(power2(d.P-1), big.NewInt(1))}
	for _, neg := range []bool{false, true} {
		for _, fraction := range fractions {
			full := new(big.Int).Set(fraction)
			if d.Explicit {
				full.SetBit(full, d.P-1, 1)
			}
			words = append(words, laid(d, neg, topField(d), full))
		}
	}
	return words
}

func badWords(d impl.Desc) []impl.Word {
	var words []impl.Word
	for bit := d.Width; bit < 128; bit++ {
		above := power2(bit)
		words = append(words, wordOf(above), wordOf(above.Or(above, bigWord(placed(d, true, power2(d.P-1))))))
	}
	if !d.Explicit {
		return words
	}
	top := power2(d.P - 1)
	for _, neg := range []bool{false, true} {
		for _, fraction := range []*big.Int{big.NewInt(0), big.NewInt(1), power2(d.P - 2), new(big.Int).Sub(top, big.NewInt(1))} {
			for _, field := range []int{1, 2, d.EMax, topField(d) - 1, topField(d)} {
				words = append(words, laid(d, neg, field, fraction))
			}
			words = append(words, laid(d, neg, 0, new(big.Int).Add(top, fraction)))
		}
	}
	return words
}

// someWord is any pattern of the format's width; most of Extended80 are bad.
func someWord(r *rand.Rand, d impl.Desc) impl.Word {
	n := new(big.Int).Rand(r, power2(d.Width))
	switch r.Intn(8) {
	case 0:
		for i := range d.ExpBits {
			n.SetBit(n, fracBits(d)+i, 0)
		}
	case 1:
		for i := range d.ExpBits {
			n.SetBit(n, fracBits(d)+i, 1)
		}
	}
	return wordOf(n)
}

func partsMeant(d impl.Desc, w impl.Word) impl.Parts {
	n := bigWord(w)
	if n.BitLen() > d.Width {
		return impl.Parts{}
	}
	neg := n.Bit(d.Width-1) == 1
	fraction := new(big.Int).And(n, new(big.Int).Sub(power2(fracBits(d)), big.NewInt(1)))
	field := 0
	for i := range d.ExpBits {
		field |= int(n.Bit(fracBits(d)+i)) << i
	}
	others := new(big.Int).Set(fraction)
	if d.Explicit {
		if (fraction.Bit(d.P-1) == 1) != (field != 0) {
			return impl.Parts{}
		}
		others.SetBit(others, d.P-1, 0)
	}
	if field == topField(d) {
		if others.Sign() == 0 {
			return impl.Parts{Class: 4, Neg: neg}
		}
		return impl.Parts{Class: 5}
	}
	if field == 0 {
		if others.Sign() == 0 {
			return impl.Parts{Class: 1, Neg: neg}
		}
		return impl.Parts{Class: 2, Neg: neg, Sig: wordOf(others), Q: d.EMin - d.P + 1}
	}
	return impl.Parts{Class: 3, Neg: neg, Sig: wordOf(others.Add(others, power2(d.P-1))), Q: field - d.EMax - d.P + 1}
}
