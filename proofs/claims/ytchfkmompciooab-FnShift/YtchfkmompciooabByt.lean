import Derived.Test.YtchfkmompciooabCom
import Derived.Test.YtchfkmompciooabW8a
namespace Go.Proofs.Ytchfkmompciooab
open Go.RowKit
set_option linter.unusedVariables false

/-- The byte at place i, 0 behind the end; the place behind it. -/
def rdB (bs : List Nat) (i : Nat) : Nat := bs.getD i 0
def adv (bs : List Nat) (i : Nat) : Nat := if i < bs.length then i + 1 else i

/-- The bytes of an argument can be read. -/
def RdB (w : World) (ao : Option Addr) (bs : List Nat) : Prop :=
  (∀ x ∈ bs, x < 256) ∧ (0 < bs.length → ∃ b off, ao = some ⟨b, off, none⟩ ∧ ∀ i, i < bs.length → w.cell? ⟨b, off + i, none⟩ = some (.int .u8 ((bs.getD i 0 : Nat) : Int)))

theorem RdB.below {w w' : World} {ao : Option Addr} {xs : List Nat} (h : RdB w ao xs) (hb : Below w.heap.size w w') : RdB w' ao xs := by
  refine ⟨h.1, fun hp => ?_⟩
  obtain ⟨b, off, e, hc⟩ := h.2 hp
  refine ⟨b, off, e, fun i hi => ?_⟩
  exact (hb.cell (p := ⟨b, off + i, none⟩) (World.block_lt_of_cell? w _ (hc i hi))).trans (hc i hi)

theorem rdB_lt {w : World} {ao : Option Addr} {bs : List Nat} (h : RdB w ao bs) (i : Nat) : rdB bs i < 256 := M.getD_lt (by omega) h.1 i

theorem RdB.grown {w w' : World} {ao : Option Addr} {bs : List Nat} {g : Nat} (h : RdB w ao bs) (hg : w.grownBy w' (some g)) (hsep : 0 < bs.length → ∀ b2 o2, ao = some ⟨b2, o2, none⟩ → b2 ≠ g) : RdB w' ao bs := by
  refine ⟨h.1, fun hp => ?_⟩
  obtain ⟨b, off, e, hc⟩ := h.2 hp
  exact ⟨b, off, e, fun i hi => hg.cell (hc i hi) (by simpa using hsep hp b off e)⟩

/-- An argument of bytes. -/
def InB (w : World) (a : Option Addr) (len cap : Nat) (bs : List Nat) : Prop := bs.length = len ∧ len ≤ cap ∧ RdB w a bs

end Go.Proofs.Ytchfkmompciooab
