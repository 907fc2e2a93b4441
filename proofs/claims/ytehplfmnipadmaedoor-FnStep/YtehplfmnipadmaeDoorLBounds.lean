import Derived.OpenShut
import Derived.Test.YtehplfmnipadmaeDoorBnZ
namespace Go.Proofs.YtehplfmnipadmaeDoor

open Go.RowKit

set_option linter.unusedVariables false
set_option maxRecDepth 100000

theorem bnd_lt {F : M.Fm} {T : M.Pt} (hf : Fin F T) : bA F T < 2 ^ (128 + (T.q - 2).toNat) ∧ bB T < 2 ^ (128 + (T.q - 2).toNat) ∧ bC T < 2 ^ (128 + (2 - T.q).toNat) ∧ (T.q - 2).toNat ≤ 17000 ∧ (2 - T.q).toNat ≤ 17000 := by
  obtain ⟨s1, s2, q1, q2, q3, q4, s3, s4⟩ := hf
  refine ⟨mul_pow_lt ?_, mul_pow_lt (by omega), ?_, by omega, by omega⟩
  · unfold bLow; split <;> omega
  · unfold bC
    exact Nat.pow_lt_pow_right (by omega) (by omega)

end Go.Proofs.YtehplfmnipadmaeDoor

