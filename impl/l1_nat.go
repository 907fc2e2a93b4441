package impl

import (
	"cmp"
	"math/bits"
	"slices"
)

// MaxLimbs is how many limbs a list at a face may have.
const MaxLimbs = 1200

// MaxShift is the greatest number of places a number is shifted by, either way.
const MaxShift = 80000

// MaxPow is the greatest exponent of NatPow.
const MaxPow = 20000

// MaxPowBits bounds the bits of the base times the exponent.
const MaxPowBits = 76800

// MaxDigits is how many digits NatFromText reads.
const MaxDigits = 20000

// The digits go from and to limbs in groups: as many as fit one limb.
const (
	groupDigits = 19
	groupBase   = 10_000_000_000_000_000_000
)

const limbBits = 64

// NatAdd is the sum.
func NatAdd(a []uint64, b []uint64) []uint64 {
	if !shortEnough(a, b) {
		return nil
	}
	return nat(a).trim().add(nat(b).trim())
}

// NatSub is the difference, where it is not below zero.
func NatSub(a []uint64, b []uint64) ([]uint64, bool) {
	if !shortEnough(a, b) {
		return nil, false
	}
	x, y := nat(a).trim(), nat(b).trim()
	if x.compare(y) < 0 {
		return nil, false
	}
	return x.sub(y), true
}

// NatMul is the product.
func NatMul(a []uint64, b []uint64) []uint64 {
	if !shortEnough(a, b) {
		return nil
	}
	return nat(a).trim().mul(nat(b).trim())
}

// NatDivMod is the quotient and the rest.
func NatDivMod(a []uint64, b []uint64) ([]uint64, []uint64, bool) {
	if !shortEnough(a, b) {
		return nil, nil, false
	}
	x, y := nat(a).trim(), nat(b).trim()
	if len(y) == 0 {
		return nil, nil, false
	}
	quotient, rest := x.divMod(y)
	return quotient, rest, true
}

// NatCmp compares: -1, 0 or 1; 2 where a list is too long.
func NatCmp(a []uint64, b []uint64) int {
	if !shortEnough(a, b) {
		return 2
	}
	return nat(a).trim().compare(nat(b).trim())
}

// NatShift shifts to the left by n places, or to the right by -n.
func NatShift(a []uint64, n int) []uint64 {
	if !shortEnough(a) || n > MaxShift || n < -MaxShift {
		return nil
	}
	if n < 0 {
		return nat(a).trim().shiftRight(-n)
	}
	return nat(a).trim().shiftLeft(n)
}

// NatPow is base to the exp.
func NatPow(base uint64, exp int) []uint64 {
	if exp < 0 || exp > MaxPow || bits.Len64(base)*exp > MaxPowBits {
		return nil
	}
	return natPower(base, exp)
}

// NatFromText reads decimal digits.
func NatFromText(text []byte) ([]uint64, bool) {
	if len(text) < 1 || len(text) > MaxDigits || !allDigits(text) {
		return nil, false
	}
	return natFromDigits(text), true
}

// NatToText writes decimal digits.
func NatToText(a []uint64) []byte {
	if !shortEnough(a) {
		return nil
	}
	return nat(a).trim().digits()
}

// nat is a natural number inside the program: limbs, the least first. Its
// methods take numbers of any length whose highest limb is not zero and
// answer such ones in new memory; only those whose names end in In write to
// the limbs that they are called on.
type nat []uint64

// shortEnough looks at the lengths as they were handed in: limbs of zero at
// the high end count too.
func shortEnough(lists ...[]uint64) bool {
	for _, list := range lists {
		if len(list) > MaxLimbs {
			return false
		}
	}
	return true
}

// trim is a view of the same limbs without the zeros at the high end.
func (a nat) trim() nat {
	n := len(a)
	for n > 0 && a[n-1] == 0 {
		n--
	}
	return a[:n]
}

// clone is a copy with spare limbs of zero at the high end.
func (a nat) clone(spare int) nat {
	c := make(nat, len(a)+spare)
	copy(c, a)
	return c
}

// less is 1 where x is below y. A sum that is below one of its parts has
// wrapped round, and so has a difference of which the first is below the
// second: so it tells carries and borrows.
func less(x uint64, y uint64) uint64 {
	if x < y {
		return 1
	}
	return 0
}

// bitLen is the number of places of the binary form, 0 for 0.
func (a nat) bitLen() int {
	if len(a) == 0 {
		return 0
	}
	return (len(a)-1)*limbBits + bits.Len64(a[len(a)-1])
}

func (a nat) compare(b nat) int {
	if len(a) != len(b) {
		return cmp.Compare(len(a), len(b))
	}
	for i := len(a) - 1; i >= 0; i-- {
		if a[i] != b[i] {
			return cmp.Compare(a[i], b[i])
		}
	}
	return 0
}

func (a nat) add(b nat) nat {
	if len(a) < len(b) {
		a, b = b, a
	}
	sum := a.clone(1)
	sum.addIn(b)
	return sum.trim()
}

// addIn adds b, which has no more limbs than a; a carry out of the highest
// limb of a is lost.
func (a nat) addIn(b nat) {
	carry := uint64(0)
	for i, limb := range b {
		part := a[i] + limb
		a[i] = part + carry
		carry = less(part, limb) + less(a[i], carry)
	}
	for i := len(b); carry > 0 && i < len(a); i++ {
		a[i] += carry
		carry = less(a[i], carry)
	}
}

// sub needs a b that is not above a.
func (a nat) sub(b nat) nat {
	difference := a.clone(0)
	difference.subIn(b)
	return difference.trim()
}

func (a nat) subIn(b nat) {
	borrow := uint64(0)
	for i, limb := range b {
		part := a[i] - limb
		lacks := less(a[i], limb) + less(part, borrow)
		a[i] = part - borrow
		borrow = lacks
	}
	for i := len(b); borrow > 0 && i < len(a); i++ {
		lacks := less(a[i], borrow)
		a[i] -= borrow
		borrow = lacks
	}
}

func (a nat) mul(b nat) nat {
	product := make(nat, len(a)+len(b))
	for i, limb := range b {
		product[i+len(a)] = product[i:i+len(a)].addTimesIn(a, limb)
	}
	return product.trim()
}

// addTimesIn adds b times factor, b having as many limbs as a, and hands out
// the limb that is carried beyond them.
func (a nat) addTimesIn(b nat, factor uint64) uint64 {
	carry := uint64(0)
	for i, limb := range b {
		high, low := bits.Mul64(limb, factor)
		low += carry
		high += less(low, carry)
		a[i] += low
		carry = high + less(a[i], low)
	}
	return carry
}

// subTimesIn takes b times factor away, b having as many limbs as a, and hands
// out the limb that is borrowed beyond them.
func (a nat) subTimesIn(b nat, factor uint64) uint64 {
	borrow := uint64(0)
	for i, limb := range b {
		high, low := bits.Mul64(limb, factor)
		low += borrow
		high += less(low, borrow)
		borrow = high + less(a[i], low)
		a[i] -= low
	}
	return borrow
}

// divMod needs a b that is not zero.
func (a nat) divMod(b nat) (nat, nat) {
	if a.compare(b) < 0 {
		return nil, a.clone(0)
	}
	if len(b) == 1 {
		quotient := a.clone(0)
		rest := nat{quotient.divLimbIn(b[0])}
		return quotient.trim(), rest.trim()
	}
	// With the divisor's highest bit set the estimate of a place is never more
	// than two too high.
	places := bits.LeadingZeros64(b[len(b)-1])
	rest := make(nat, len(a)+1)
	copy(rest, a.shiftLeft(places))
	quotient := rest.divIn(b.shiftLeft(places))
	return quotient.trim(), rest.trim().shiftRight(places)
}

// divLimbIn leaves the quotient and hands out the rest.
func (a nat) divLimbIn(divisor uint64) uint64 {
	rest := uint64(0)
	for i := len(a) - 1; i >= 0; i-- {
		a[i], rest = bits.Div64(rest, a[i], divisor)
	}
	return rest
}

// divIn leaves the rest and hands out the quotient. The divisor has two limbs
// or more and its highest bit is set; a has more limbs than it, and the highest
// of them is below the divisor's, so that each place's digit fits a limb.
func (a nat) divIn(divisor nat) nat {
	n := len(divisor)
	top, second := divisor[n-1], divisor[n-2]
	quotient := make(nat, len(a)-n)
places:
	for place := len(quotient) - 1; place >= 0; place-- {
		window := a[place : place+n+1]
		guess, left, small := estimate(window[n], window[n-1], top)
	lower:
		for small {
			high, low := bits.Mul64(guess, second)
			if high < left || high == left && low <= window[n-2] {
				break lower
			}
			guess--
			left += top
			// Once what is left needs more than a limb, the guess times the
			// second limb can't be above it.
			small = left >= top
		}
		quotient[place] = guess
		borrow := window[:n].subTimesIn(divisor, guess)
		fits := window[n] >= borrow
		window[n] -= borrow
		if fits {
			continue places
		}
		quotient[place]--
		window.addIn(divisor)
	}
	return quotient
}

// estimate divides two limbs by the divisor's top limb, to no more than a limb
// can hold (high is at most top): the guess, what is left, and whether that is
// within a limb.
func estimate(high uint64, low uint64, top uint64) (uint64, uint64, bool) {
	if high >= top {
		left := low + top
		return ^uint64(0), left, left >= top
	}
	guess, left := bits.Div64(high, low, top)
	return guess, left, true
}

func (a nat) shiftLeft(n int) nat {
	limbs, places := n/limbBits, n%limbBits
	shifted := make(nat, limbs+len(a)+1)
	carry := uint64(0)
	for i, limb := range a {
		shifted[limbs+i] = limb<<places | carry
		carry = limb >> (limbBits - places)
	}
	shifted[limbs+len(a)] = carry
	return shifted.trim()
}

func (a nat) shiftRight(n int) nat {
	limbs, places := n/limbBits, n%limbBits
	if limbs >= len(a) {
		return nil
	}
	shifted := a[limbs:].clone(0)
	carry := uint64(0)
	for i := len(shifted) - 1; i >= 0; i-- {
		limb := shifted[i]
		shifted[i] = limb>>places | carry
		carry = limb << (limbBits - places)
	}
	return shifted.trim()
}

// natPower goes from the exponent's highest bit down, so that no number on the
// way is longer than the answer.
func natPower(base uint64, exp int) nat {
	factor := nat{base}.trim()
	power := nat{1}
	for bit := bits.Len(uint(exp)) - 1; bit >= 0; bit-- {
		power = power.mul(power)
		if exp>>bit&1 == 1 {
			power = power.mul(factor)
		}
	}
	return power
}

func allDigits(text []byte) bool {
	for _, c := range text {
		if c < '0' || c > '9' {
			return false
		}
	}
	return true
}

func natFromDigits(text []byte) nat {
	number := make(nat, 0, len(text)/groupDigits+1)
	for chunk := range slices.Chunk(text, groupDigits) {
		scale, group := uint64(1), uint64(0)
		for _, c := range chunk {
			scale *= 10
			group = group*10 + uint64(c-'0')
		}
		carry := number.timesPlusIn(scale, group)
		if carry > 0 {
			number = append(number, carry)
		}
	}
	return number
}

// timesPlusIn hands out the limb that is carried beyond those of a.
func (a nat) timesPlusIn(factor uint64, extra uint64) uint64 {
	carry := extra
	for i, limb := range a {
		high, low := bits.Mul64(limb, factor)
		a[i] = low + carry
		carry = high + less(a[i], carry)
	}
	return carry
}

// groups yields the number's digits in groups, the least significant first.
func (a nat) groups(yield func(uint64) bool) {
	rest := a.clone(0)
	for len(rest) > 0 {
		group := rest.divLimbIn(groupBase)
		rest = rest.trim()
		if !yield(group) {
			return
		}
	}
}

func (a nat) digits() []byte {
	if len(a) == 0 {
		return []byte{'0'}
	}
	var text []byte
	for group := range a.groups {
		for range groupDigits {
			text = append(text, byte('0'+group%10))
			group /= 10
		}
	}
	for len(text) > 0 && text[len(text)-1] == '0' {
		text = text[:len(text)-1]
	}
	slices.Reverse(text)
	return text
}
