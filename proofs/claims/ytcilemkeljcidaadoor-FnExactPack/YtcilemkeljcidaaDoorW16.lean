import Derived.Test.YtcilemkeljcidaaDoorW8b
import Derived.Test.YtcilemkeljcidaaDoorCom
import Derived.Test.YtcilemkeljcidaaDoorShM
namespace Go.Proofs.YtcilemkeljcidaaDoor
open Go.RowKit
set_option linter.unusedVariables false
set_option maxRecDepth 100000

theorem pow_cast (p : Nat) : ((2 : Int) ^ p) = ((2 ^ p : Nat) : Int) := by simp

theorem or_comm_nat (a b : Nat) (ha : a < 18446744073709551616) (hb : b < 18446744073709551616) : bits BinOp.or IntKind.u64 (a : Int) (b : Int) = ((b ||| a : Nat) : Int) := by
  rw [u64_or_nat a b ha hb, Nat.or_comm]

/-- 'limb<<p | carry', the word that is kept. -/
theorem shl_word (x p cc : Nat) (hp : p < 64) (hx : x < 18446744073709551616) (hc : cc < 2 ^ p) :
    bits BinOp.or IntKind.u64 (IntKind.u64.wrap ((x : Int) * 2 ^ p)) (cc : Int) = ((cc + x % 2 ^ (64 - p) * 2 ^ p : Nat) : Int) := by
  have hKP : 2 ^ (64 - p) * 2 ^ p = 18446744073709551616 := M.pow_split p 64 (by omega)
  have hb := (M.shl_place (K := 2 ^ (64 - p)) (P := 2 ^ p) (x := x) (cc := cc) (Nat.pow_pos (by omega)) (Nat.pow_pos (by omega)) (by omega) hc).2.1
  have e1 : IntKind.u64.wrap ((x : Int) * 2 ^ p) = ((x % 2 ^ (64 - p) * 2 ^ p : Nat) : Int) := by
    rw [pow_cast, ← Int.natCast_mul, wrapU, ← hKP, Nat.mul_mod_mul_right]
  rw [e1, or_comm_nat _ _ (by omega) (by omega), or_nat cc _ p hc]

theorem div_cast (x k : Nat) : (x : Int) / 2 ^ k = ((x / 2 ^ k : Nat) : Int) := by
  rw [pow_cast]; exact (Int.natCast_ediv x (2 ^ k)).symm

/-- 'limb>>p | carry' and the carry below it. -/
theorem shr_word (x p t : Nat) (hp : p < 64) (hx : x < 18446744073709551616) (ht : t < 2 ^ p) :
    bits BinOp.or IntKind.u64 ((x : Int) / 2 ^ p) ((t * 2 ^ (64 - p) : Nat) : Int) = ((x / 2 ^ p + t * 2 ^ (64 - p) : Nat) : Int) := by
  have hKP : 2 ^ (64 - p) * 2 ^ p = 18446744073709551616 := M.pow_split p 64 (by omega)
  have h1 : x / 2 ^ p < 2 ^ (64 - p) := Nat.div_lt_of_lt_mul (by rw [Nat.mul_comm]; omega)
  have h2 : t * 2 ^ (64 - p) < 18446744073709551616 := by
    have : t * 2 ^ (64 - p) < 2 ^ p * 2 ^ (64 - p) := Nat.mul_lt_mul_of_pos_right ht (Nat.pow_pos (by omega))
    rw [Nat.mul_comm (2 ^ p)] at this
    omega
  have h3 : x / 2 ^ p ≤ x := Nat.div_le_self _ _
  rw [div_cast, u64_or_nat _ _ (by omega) h2, or_nat _ _ _ h1]

theorem shl_carry (x p : Nat) (hp : p < 64) : IntKind.u64.wrap ((x : Int) * 2 ^ (64 - p)) = ((x % 2 ^ p * 2 ^ (64 - p) : Nat) : Int) := by
  have hKP : 2 ^ p * 2 ^ (64 - p) = 18446744073709551616 := by rw [Nat.mul_comm]; exact M.pow_split p 64 (by omega)
  rw [pow_cast, ← Int.natCast_mul, wrapU, ← hKP, Nat.mul_mod_mul_right]

theorem V_drop (xs : List Nat) (k : Nat) (h : k < xs.length) : V (xs.drop k) = xs.getD k 0 + 18446744073709551616 * V (xs.drop (k + 1)) := by
  rw [List.drop_eq_getElem_cons h]
  unfold V
  rw [M.val, List.getD_eq_getElem?_getD, List.getElem?_eq_getElem h]
  rfl

end Go.Proofs.YtcilemkeljcidaaDoor
