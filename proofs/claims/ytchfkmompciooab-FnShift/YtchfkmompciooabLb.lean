import Derived.Test.YtchfkmompciooabCom
import Derived.Test.YtchfkmompciooabW6
namespace Go.Proofs.Ytchfkmompciooab
open Go.RowKit
set_option linter.unusedVariables false

/-- An argument of the law: a slice that can be read. -/
def InRow (w : World) (a : Option Addr) (len cap : Nat) (xs : List Nat) : Prop := xs.length = len ∧ len ≤ cap ∧ F64 xs ∧ Rd w a xs

/-- A list that the call owns, in a block of which it is known where it lies. -/
structure Own (w : World) (lo hi : Nat) (ao : Option Addr) (cap : Nat) (r : List Nat) : Prop where
  row : w.ownsRow 0 34 1 (.slice ao r.length cap) r.length (U r)
  place : ∀ k, (Value.slice ao r.length cap).ownBlock = some k → lo ≤ k ∧ k < hi

theorem Own.of {w : World} {base : Nat} {ao : Option Addr} {cap : Nat} {r : List Nat} (h : w.ownsRow base 34 1 (.slice ao r.length cap) r.length (U r)) : Own w base w.heap.size ao cap r :=
  ⟨own_base h (Nat.zero_le _), fun k hk => h.lt k hk⟩
theorem Own.rd {w : World} {lo hi : Nat} {ao : Option Addr} {cap : Nat} {r : List Nat} (h : Own w lo hi ao cap r) : Rd w ao r := Rd.own h.row
theorem Own.keep {w w' : World} {lo hi : Nat} {ao : Option Addr} {cap : Nat} {r : List Nat} (h : Own w lo hi ao cap r) (hb : Below w.heap.size w w') : Own w' lo hi ao cap r := ⟨own_below h.row hb, h.place⟩
theorem Own.drewN {w : World} {lo hi : Nat} {ao : Option Addr} {cap : Nat} {r : List Nat} (h : Own w lo hi ao cap r) (q : Nat) : Own (w.drewN q) lo hi ao cap r := h.keep (below_drewN (Below.refl _ _) q)
theorem Own.grown {w w' : World} {lo hi : Nat} {ao : Option Addr} {cap : Nat} {r : List Nat} {row : Option Nat} (h : Own w lo hi ao cap r) (hg : w.grownBy w' row) (hne : ∀ k, lo ≤ k → k < hi → row ≠ some k) : Own w' lo hi ao cap r := by
  refine ⟨h.row.kept hg ?_, h.place⟩
  cases hv : (Value.slice ao r.length cap).ownBlock with
  | none => exact .inl rfl
  | some k => right; intro e; have := h.place k hv; exact hne k this.1 this.2 e.symm
theorem Blk.toOwn {w : World} {g : Nat} {zs : List Nat} (h : Blk w g zs) (hm : zs.length ≤ 4194304) : Own w g (g + 1) (some ⟨g, 0, none⟩) zs.length zs :=
  ⟨h.own (Nat.zero_le _) rfl (by unfold maxLen; omega), fun k hk => by simp [Value.ownBlock] at hk; omega⟩

theorem below_grown {w v v' : World} {row : Option Nat} (b : Below w.heap.size w v) (hg : v.grownBy v' row) (h : ∀ k, row = some k → w.heap.size ≤ k) : Below w.heap.size w v' := b.grown hg b.size h

theorem Own.row_ge {w : World} {lo hi : Nat} {ao : Option Addr} {cap : Nat} {r : List Nat} (h : Own w lo hi ao cap r) {B : Nat} (hB : B ≤ lo) : ∀ k, (Value.slice ao r.length cap).ownBlock = some k → B ≤ k := fun k hk => by have := (h.place k hk).1; omega

theorem dec_self (r : List Nat) : decide (r = r) = true := by simp

theorem own_eq {r : List Nat} {ao : Option Addr} {cap n : Nat} (h : r.length = n) : (Value.slice ao r.length cap) = .slice ao n cap := by rw [h]

theorem Own.mark {w' : World} {base : Nat} {lo hi : Nat} {ao : Option Addr} {cap : Nat} {r : List Nat} {w : World} (h : Own w lo hi ao cap r) (k0 : Nat) (ho : w'.ownsRow 0 34 1 (.slice ao r.length cap) r.length (U (marks k0 r.length))) : Rd w' ao (marks k0 r.length) := Rd.own ho

end Go.Proofs.Ytchfkmompciooab
