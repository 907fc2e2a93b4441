import Derived.Test.YtchfkmompciooaaW16
import Derived.Test.YtchfkmompciooaaCom
namespace Go.Proofs.Ytchfkmompciooaa
open Go.RowKit
set_option linter.unusedVariables false

/-- One place of the model's shift to the left: no word is cut. -/
theorem M.shl32 (x p cc : Nat) (hp : p < 32) (hx : x < 4294967296) (hc : cc < 2 ^ p) :
    x * 2 ^ p + cc < 9223372036854775808 ∧ (x * 2 ^ p + cc) / 4294967296 < 2 ^ p := by
  have h1 : 2 ^ p ≤ 2 ^ 31 := Nat.pow_le_pow_right (by omega) (by omega)
  have h2 : (x + 1) * 2 ^ p ≤ 4294967296 * 2 ^ p := Nat.mul_le_mul_right _ hx
  rw [Nat.add_mul] at h2
  constructor
  · have : 4294967296 * 2 ^ p ≤ 4294967296 * 2 ^ 31 := Nat.mul_le_mul_left _ h1
    omega
  · exact Nat.div_lt_of_lt_mul (by omega)

theorem shl32_word (x p cc : Nat) (hp : p < 32) (hx : x < 4294967296) (hc : cc < 2 ^ p) :
    bits BinOp.or IntKind.u64 (IntKind.u64.wrap ((x : Int) * 2 ^ p)) (cc : Int) = ((x * 2 ^ p + cc : Nat) : Int) := by
  have hb := (M.shl32 x p cc hp hx hc).1
  have e1 : IntKind.u64.wrap ((x : Int) * 2 ^ p) = ((x * 2 ^ p : Nat) : Int) := by
    rw [pow_cast, ← Int.natCast_mul, wrapU, Nat.mod_eq_of_lt (by omega)]
  have h1 : 2 ^ p ≤ 2 ^ 31 := Nat.pow_le_pow_right (by omega) (by omega)
  rw [e1, or_comm_nat _ _ (by omega) (by omega), or_nat cc x p hc, Nat.add_comm]

theorem low_mask (s : Nat) (hs : s < 18446744073709551616) : bits BinOp.and IntKind.u64 (s : Int) 4294967295 = ((s % 4294967296 : Nat) : Int) := by
  rw [and_low32 _ (by omega) (by omega)]; omega

/-- A digit of a number that is shifted to the right, out of two digits of the number. -/
theorem M.shr_digit {C P Q A k : Nat} (hC : 0 < C) (hP : 0 < P) (hCP : C = Q * P) : ((A / C ^ k) % (C * C) / P) % C = A / P / C ^ k % C := by
  have e1 : C * C = P * (Q * C) := by rw [← Nat.mul_assoc, Nat.mul_comm P Q, ← hCP]
  rw [e1, Nat.mod_mul_right_div_self, Nat.mod_mul_left_mod, Nat.div_div_eq_div_mul, Nat.div_div_eq_div_mul, Nat.mul_comm]

theorem M.two_digits (C Z : Nat) (hC : 0 < C) : Z % C + (Z / C) % C * C = Z % (C * C) := by
  rw [Nat.mod_mul, Nat.mul_comm C]

theorem M.dig_get {B : Nat} (hB : 1 < B) (k : Nat) : ∀ n, (M.dig B n).getD k 0 = n / B ^ k % B := by
  induction k with
  | zero =>
    intro n
    by_cases hn : 0 < n
    · rw [M.dig_pos hB hn]; simp
    · have : n = 0 := by omega
      subst this; simp [M.dig_zero]
  | succ k ih =>
    intro n
    by_cases hn : 0 < n
    · rw [M.dig_pos hB hn, List.getD_cons_succ, ih, Nat.div_div_eq_div_mul, Nat.pow_succ, Nat.mul_comm B]
    · have : n = 0 := by omega
      subst this; simp [M.dig_zero]

theorem D_get (a k : Nat) : (D a).getD k 0 = a / 4294967296 ^ k % 4294967296 := M.dig_get (by omega) k a

end Go.Proofs.Ytchfkmompciooaa
