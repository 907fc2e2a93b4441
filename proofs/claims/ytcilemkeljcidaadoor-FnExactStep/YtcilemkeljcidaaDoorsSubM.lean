import Derived.WalkKit
import Derived.Test.YtcilemkeljcidaaDoorRows
import Derived.WalkSpells
import Derived.WalkLawsBesides
import Derived.Laws.CopyOwn
import Derived.Deep.QuietTactic
import Derived.BigQuiet
namespace Go.Proofs.YtcilemkeljcidaaDoor
open Go.RowKit
set_option linter.unusedVariables false
set_option maxRecDepth 100000
theorem wrapSub (x y p : Nat) (hp : p = (x + 18446744073709551616 - y) % 18446744073709551616) (hy : y ≤ 18446744073709551616) : IntKind.u64.wrap ((x : Int) - (y : Int)) = (p : Int) := by
 rw [IntKind.wrap_u64]; omega

theorem M.no_borrow {S c P t a : Nat} (h : S + t = a + c * P) (hS : S < P) (ht : t ≤ a) : c = 0 ∧ S = a - t := by
 rcases Nat.eq_zero_or_pos c with rfl | hc
 · simp at h; exact ⟨rfl, by omega⟩
 · have := Nat.le_mul_of_pos_left P hc; omega

theorem M.sub_place {S c P B A A' x y o c' : Nat} (h : S + A' = A + c * P) (hs : o + y + c = x + B * c') : S + P * o + (A' + P * y) = A + P * x + c' * (P * B) := by
 have e : P * (o + y + c) = P * (x + B * c') := by rw [hs]
 simp only [Nat.mul_add] at e
 rw [Nat.mul_comm c' (P * B), Nat.mul_assoc]
 rw [Nat.mul_comm c P] at h
 omega

end Go.Proofs.YtcilemkeljcidaaDoor
