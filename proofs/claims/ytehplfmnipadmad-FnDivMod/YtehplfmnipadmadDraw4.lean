import Derived.Test.YtehplfmnipadmadDraw3
namespace Go.Proofs.Ytehplfmnipadmad
open Go.RowKit
set_option linter.unusedVariables false
set_option maxRecDepth 100000

theorem rdr_new (w : World) (ao : Option Addr) (n c : Nat) : IsRdr (w.alloc (.cells #[.slice ao n c, .int .i64 0] 63)) w.heap.size ao n c 0 := heap_alloc_new w _

theorem rdr_sep {w : World} {ao : Option Addr} {bs : List Nat} (h : RdB w ao bs) : 0 < bs.length → ∀ b2 o2, ao = some ⟨b2, o2, none⟩ → b2 ≠ w.heap.size := by
  intro hp b2 o2 e
  obtain ⟨b3, o3, e3, hc⟩ := h.2 hp
  rw [e] at e3
  simp only [Option.some.injEq, Addr.mk.injEq] at e3
  have := World.block_lt_of_cell? w _ (hc 0 hp)
  simp at this
  omega

theorem below_rdr {w0 w w1 : World} (hb : Below w0.heap.size w0 w) (hg : w.grownBy w1 (some w0.heap.size)) : Below w0.heap.size w0 w1 :=
  hb.grown hg hb.size (fun _ h => by cases h; exact Nat.le_refl _)

/-- What DrawNatShift hands back: the list that 'limbs' draws, and some number. -/
def ShDraw (w w' : World) (e : Ending) (bs : List Nat) : Prop :=
  ∃ ro rc, ∃ z : Int, e = .returned (.tuple #[.slice ro (limbsAll bs 0).1.length rc, .int .i64 z]) ∧ -80001 ≤ z ∧ z ≤ 80001 ∧ w'.ownsRow (w.heap.size + 1) 32 1 (.slice ro (limbsAll bs 0).1.length rc) (limbsAll bs 0).1.length (U (limbsAll bs 0).1) ∧ Below w.heap.size w w'

end Go.Proofs.Ytehplfmnipadmad
