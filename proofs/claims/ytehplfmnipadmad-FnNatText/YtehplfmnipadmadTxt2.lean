import Derived.Test.YtehplfmnipadmadW17
import Derived.Test.YtehplfmnipadmadW12
namespace Go.Proofs.Ytehplfmnipadmad
open Go.RowKit
set_option linter.unusedVariables false
set_option maxRecDepth 100000

theorem M.times32 (x y cc : Nat) (hx : x < 4294967296) (hy : y < 4294967296) (hc : cc < 4294967296) : y * x + cc < 18446744073709551616 ∧ (y * x + cc) / 4294967296 < 4294967296 := by
  have h : y * x ≤ 4294967295 * 4294967295 := Nat.mul_le_mul (by omega) (by omega)
  constructor <;> omega

theorem M.times32_over {S c c' P C o y x T : Nat} (h : S + c * P = x * T) (hs : o + C * c' = y * x + c) : S + P * o + c' * (P * C) = x * (T + P * y) := by
  have e : P * (o + C * c') = P * (y * x + c) := by rw [hs]
  simp only [Nat.mul_add] at e ⊢
  rw [Nat.mul_comm c' (P * C), Nat.mul_assoc]
  rw [Nat.mul_comm c P] at h
  have e2 : x * (P * y) = P * (y * x) := by rw [Nat.mul_comm x, Nat.mul_assoc]
  rw [e2]
  omega

end Go.Proofs.Ytehplfmnipadmad
