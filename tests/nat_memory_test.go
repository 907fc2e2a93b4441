package tests

import (
	"slices"
	"testing"

	"loop.example/s01493/impl"
)

// guarded is a list inside a longer piece of memory, so that a write behind its
// end is seen too.
type guarded struct {
	whole []uint64
	list  []uint64
	kept  []uint64
}

func guard(a []uint64) guarded {
	whole := append(slices.Clone(a), 0xa1, 0xa2, 0xa3)
	return guarded{whole: whole, list: whole[:len(a)], kept: slices.Clone(whole)}
}

func (g guarded) intact() bool { return slices.Equal(g.whole, g.kept) }

// scribble writes over an answer, its spare memory too.
func scribble(a []uint64) {
	a = a[:cap(a)]
	for i := range a {
		a[i] ^= 0x5555555555555555
	}
}

var memoryLists = [][]uint64{nil, {0}, {1}, {7, 0}, {0, 0, 3}, {most, most}, {most, most, most, 0, 0}, {5, 6, 1 << 63}, full(40)}

// natAnswers calls all that takes two lists.
func natAnswers(a []uint64, b []uint64) [][]uint64 {
	difference, _ := impl.NatSub(a, b)
	quotient, rest, _ := impl.NatDivMod(a, b)
	impl.NatCmp(a, b)
	impl.NatToText(a)
	return [][]uint64{
		impl.NatAdd(a, b), difference, impl.NatMul(a, b), quotient, rest,
		impl.NatShift(a, 0), impl.NatShift(a, 1), impl.NatShift(a, 64), impl.NatShift(a, -1), impl.NatShift(a, -64),
	}
}

func TestArgumentsStayAndShareNothing(t *testing.T) {
	for _, x := range memoryLists {
		for _, y := range memoryLists {
			a, b := guard(x), guard(y)
			for i, answer := range natAnswers(a.list, b.list) {
				if !a.intact() || !b.intact() {
					t.Fatalf("%x, %x: an argument is changed", x, y)
				}
				scribble(answer)
				if !a.intact() || !b.intact() {
					t.Fatalf("%x, %x: answer %d shares memory with an argument", x, y, i)
				}
			}
		}
	}
}

func TestOneListAsBothArguments(t *testing.T) {
	for _, x := range memoryLists {
		a := guard(x)
		for _, answer := range natAnswers(a.list, a.list) {
			scribble(answer)
		}
		if !a.intact() {
			t.Errorf("%x: the argument is changed", x)
		}
		wantList(t, "double", impl.NatAdd(a.list, a.list), bigOf(impl.NatMul(a.list, []uint64{2})))
	}
}

func TestQuotientAndRestShareNothing(t *testing.T) {
	for _, x := range memoryLists {
		for _, y := range memoryLists {
			quotient, rest, _ := impl.NatDivMod(x, y)
			kept := slices.Clone(rest[:cap(rest)])
			scribble(quotient)
			if !slices.Equal(rest[:cap(rest)], kept) {
				t.Errorf("%x by %x: quotient and rest share memory", x, y)
			}
		}
	}
}

func TestTextsStayAndShareNothing(t *testing.T) {
	for _, text := range []string{"0", "007", "12345678901234567890123456789012345678901", "x", ""} {
		whole := append([]byte(text), "behind"...)
		a, _ := impl.NatFromText(whole[:len(text)])
		scribble(a)
		if string(whole) != text+"behind" {
			t.Errorf("%s: the text is changed", text)
		}
	}
	for _, x := range memoryLists {
		first := impl.NatToText(x)
		kept := slices.Clone(first)
		second := impl.NatToText(x)
		for i := range second {
			second[i] = 'x'
		}
		if !slices.Equal(first, kept) || !slices.Equal(impl.NatToText(x), kept) {
			t.Errorf("%x: two texts share memory", x)
		}
	}
}
