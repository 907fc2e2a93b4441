import Derived.WalkKit
namespace Go.Proofs.YtcilemkeljcidaaDoor.M
set_option linter.unusedVariables false
set_option maxRecDepth 100000
theorem pow_split (p n : Nat) (hp : p ≤ n) : 2 ^ (n - p) * 2 ^ p = 2 ^ n := by rw [← Nat.pow_add]; congr 1; omega

theorem shl_over {V V' c c' Q Pk B P x o T : Nat} (h : V + c * (Q * Pk) = (Q * P) * T) (hv : V' = V + Q * Pk * o) (hs : o + B * c' = x * P + c) : V' + c' * (Q * Pk * B) = (Q * P) * (T + Pk * x) := by
 have e : Q * Pk * (o + B * c') = Q * Pk * (x * P + c) := by rw [hs]
 simp only [Nat.mul_add] at e
 have e2 : (Q * P) * (Pk * x) = Q * Pk * (x * P) := by simp only [Nat.mul_comm, Nat.mul_left_comm]
 rw [Nat.mul_add, e2, Nat.mul_comm c' (Q * Pk * B), Nat.mul_assoc]
 rw [Nat.mul_comm c (Q * Pk)] at h
 omega

end Go.Proofs.YtcilemkeljcidaaDoor.M
