import Derived.Test.YtchfkmompciooaaCom
namespace Go.Proofs.Ytchfkmompciooaa
open Go.RowKit
set_option linter.unusedVariables false

theorem L_zero_iff (a : Nat) : (((L a).length : Int) == 0) = decide (a = 0) := by
  rw [Bool.eq_iff_iff]
  simp only [beq_iff_eq, decide_eq_true_eq]
  constructor
  · intro h
    have h1 : L a = [] := List.eq_nil_of_length_eq_zero (by omega)
    have h2 : V (L a) = a := V_L a
    rw [h1] at h2
    simpa [V, M.val] using h2.symm
  · intro h
    subst h
    simp [L, M.dig_zero]

theorem D_zero_eq (a : Nat) : (((D a).length : Int) == 0) = decide (a = 0) := by
  rw [Bool.eq_iff_iff]
  simp only [beq_iff_eq, decide_eq_true_eq]
  constructor
  · intro h
    have h1 : D a = [] := List.eq_nil_of_length_eq_zero (by omega)
    have h2 : X (D a) = a := X_D a
    rw [h1] at h2
    simpa [X, M.val] using h2.symm
  · intro h
    subst h
    simp [D, M.dig_zero]

theorem D_len_bits (a j K : Nat) (h : a < 2 ^ j) (hj : j ≤ 32 * K) : (D a).length ≤ K := by
  refine M.len_of_lt (B := 4294967296) (by omega) _ _ ?_
  rw [show (4294967296 : Nat) = 2 ^ 32 by rfl, ← Nat.pow_mul]
  exact Nat.lt_of_lt_of_le h (Nat.pow_le_pow_right (by omega) hj)

theorem len_shiftK (N p A K : Nat) (hn : (L N).length ≤ A) (hp : p ≤ 64 * K) : (L (N * 2 ^ p)).length ≤ A + K := by
  have h1 := L_lt N A hn
  have h2 : 2 ^ p ≤ 18446744073709551616 ^ K := by
    rw [show (18446744073709551616 : Nat) = 2 ^ 64 by rfl, ← Nat.pow_mul]
    exact Nat.pow_le_pow_right (by omega) (by omega)
  have h3 : N * 2 ^ p < 18446744073709551616 ^ (A + K) := by
    rw [Nat.pow_add]
    exact Nat.lt_of_le_of_lt (Nat.mul_le_mul_left _ h2) (Nat.mul_lt_mul_of_pos_right h1 (Nat.pow_pos (by omega)))
  exact M.len_of_lt (B := 18446744073709551616) (by omega) _ _ h3

end Go.Proofs.Ytchfkmompciooaa
