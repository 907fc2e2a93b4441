/-
  Plain mathematics of shifts.
-/
import Derived.Test.YtcilemkeljcidaaDoorMulM
namespace Go.Proofs.YtcilemkeljcidaaDoor.M
set_option linter.unusedVariables false
set_option maxRecDepth 100000

theorem pow_split (p n : Nat) (hp : p ≤ n) : 2 ^ (n - p) * 2 ^ p = 2 ^ n := by rw [← Nat.pow_add]; congr 1; omega

/-- One place of a shift to the left: K P is the base. -/
theorem shl_place {K P x cc : Nat} (hP : 0 < P) (hK : 0 < K) (hx : x < K * P) (hc : cc < P) :
    (cc + x % K * P) + K * P * (x / K) = x * P + cc ∧ cc + x % K * P < K * P ∧ x / K < P := by
  have h1 := Nat.mod_add_div x K
  have h2 := Nat.mod_lt x hK
  refine ⟨?_, ?_, ?_⟩
  · have e : x * P = (x % K + K * (x / K)) * P := by rw [h1]
    rw [e, Nat.add_mul, Nat.mul_right_comm K P (x / K)]
    omega
  · have : (x % K + 1) * P ≤ K * P := Nat.mul_le_mul_right _ h2
    rw [Nat.add_mul] at this
    omega
  · exact Nat.div_lt_of_lt_mul hx

/-- The places of a shift to the left add up. -/
theorem shl_over {V V' c c' Q Pk B P x o T : Nat} (h : V + c * (Q * Pk) = (Q * P) * T) (hv : V' = V + Q * Pk * o) (hs : o + B * c' = x * P + c) : V' + c' * (Q * Pk * B) = (Q * P) * (T + Pk * x) := by
  have e : Q * Pk * (o + B * c') = Q * Pk * (x * P + c) := by rw [hs]
  simp only [Nat.mul_add] at e
  have e2 : (Q * P) * (Pk * x) = Q * Pk * (x * P) := by simp only [Nat.mul_comm, Nat.mul_left_comm]
  rw [Nat.mul_add, e2, Nat.mul_comm c' (Q * Pk * B), Nat.mul_assoc]
  rw [Nat.mul_comm c (Q * Pk)] at h
  omega

/-- One place of a shift to the right: T is what stands above, P the power, K P the base. -/
theorem shr_place {K P x T : Nat} (hP : 0 < P) (hK : 0 < K) : (x / P + T % P * K) + K * P * (T / P) = (x + K * P * T) / P ∧ (x + K * P * T) % P = x % P := by
  have h1 := Nat.mod_add_div T P
  constructor
  · have e : x + K * P * T = x + P * (K * T) := by rw [Nat.mul_comm K P, Nat.mul_assoc]
    rw [e, Nat.add_mul_div_left _ _ hP]
    have e2 : K * T = K * (T % P + P * (T / P)) := by rw [h1]
    rw [e2, Nat.mul_add, Nat.mul_comm (T % P) K, Nat.mul_assoc]
    omega
  · rw [Nat.mul_comm K P, Nat.mul_assoc, Nat.add_mul_mod_self_left]

theorem shr_lt {K P x T : Nat} (hP : 0 < P) (hx : x < K * P) : x / P + T % P * K < P * K := by
  have h1 : x / P < K := Nat.div_lt_of_lt_mul (by rw [Nat.mul_comm]; exact hx)
  have h2 := Nat.mod_lt T hP
  have h3 : (T % P + 1) * K ≤ P * K := Nat.mul_le_mul_right _ h2
  rw [Nat.add_mul] at h3
  omega

end Go.Proofs.YtcilemkeljcidaaDoor.M
