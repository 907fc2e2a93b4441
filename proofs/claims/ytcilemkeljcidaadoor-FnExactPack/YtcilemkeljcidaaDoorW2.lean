import Derived.Test.YtcilemkeljcidaaDoorW1
namespace Go.Proofs.YtcilemkeljcidaaDoor
open Go.RowKit
set_option linter.unusedVariables false
set_option maxRecDepth 100000

theorem fill_step (xs : List Nat) (n k : Nat) (hl : xs.length = n) (hk : k < n) :
    (xs.take k ++ List.replicate (n - k) 0).set k (xs.getD k 0) = xs.take (k + 1) ++ List.replicate (n - (k + 1)) 0 := by
  have hlen : (xs.take k).length = k := by simp; omega
  rw [List.set_append_right _ _ (by omega), hlen, Nat.sub_self, M.take_succ xs k (by omega)]
  obtain ⟨m, hm⟩ : ∃ m, n - k = m + 1 := ⟨n - k - 1, by omega⟩
  rw [hm, show n - (k + 1) = m by omega, List.replicate_succ, List.set_cons_zero]
  simp

theorem fill_get (xs : List Nat) (n k : Nat) (hl : xs.length = n) (hk : k < n) : (xs.take k ++ List.replicate (n - k) 0).getD k 0 = 0 := by
  have hlen : (xs.take k).length = k := by simp; omega
  rw [List.getD_eq_getElem?_getD, List.getElem?_append_right (by omega), hlen, Nat.sub_self, List.getElem?_replicate]
  split <;> rfl

theorem fill_len (xs : List Nat) (n k : Nat) (hl : xs.length = n) (hk : k ≤ n) : (xs.take k ++ List.replicate (n - k) 0).length = n := by simp; omega

end Go.Proofs.YtcilemkeljcidaaDoor
