import Derived.Test.YtcilemkeljcidaaDoorW2
namespace Go.Proofs.YtcilemkeljcidaaDoor
open Go.RowKit
set_option linter.unusedVariables false
set_option maxRecDepth 100000

theorem cmpI_nat_lt {a b : Nat} (h : a < b) : cmpI (a : Int) (b : Int) = -1 := by unfold cmpI; rw [if_pos (by omega)]
theorem cmpI_nat_gt {a b : Nat} (h : b < a) : cmpI (a : Int) (b : Int) = 1 := by unfold cmpI; rw [if_neg (by omega), if_pos (by omega)]
theorem cmpI_nat_eq {a b : Nat} (h : a = b) : cmpI (a : Int) (b : Int) = 0 := by unfold cmpI; rw [if_neg (by omega), if_neg (by omega)]

theorem cmp_len (a b : Nat) (h : (L a).length ≠ (L b).length) : cmpI ((L a).length : Int) ((L b).length : Int) = cmpI (a : Int) (b : Int) := by
  rcases Nat.lt_or_gt_of_ne h with h | h
  · rw [cmpI_nat_lt h, cmpI_nat_lt (M.lt_of_length (by omega) h)]
  · rw [cmpI_nat_gt h, cmpI_nat_gt (M.lt_of_length (by omega) h)]

theorem getD_big (xs : List Nat) (j : Nat) (h : xs.length ≤ j) : xs.getD j 0 = 0 := by
  rw [List.getD_eq_getElem?_getD, List.getElem?_eq_none (by omega)]; rfl

theorem cmp_at {B : Nat} (hB : 1 < B) (a b k : Nat) (x y : Nat) (hx : x = (M.dig B a).getD k 0) (hy : y = (M.dig B b).getD k 0) (hne : x ≠ y) (he : ∀ j, k < j → (M.dig B a).getD j 0 = (M.dig B b).getD j 0) :
    cmpI (x : Int) (y : Int) = cmpI (a : Int) (b : Int) := by
  rcases Nat.lt_or_gt_of_ne hne with h | h
  · have := M.val_lt_top hB k (M.dig B a) (M.dig B b) (M.dig_lt hB a) (by omega) he
    rw [M.val_dig hB, M.val_dig hB] at this
    rw [cmpI_nat_lt h, cmpI_nat_lt this]
  · have := M.val_lt_top hB k (M.dig B b) (M.dig B a) (M.dig_lt hB b) (by omega) (fun j hj => (he j hj).symm)
    rw [M.val_dig hB, M.val_dig hB] at this
    rw [cmpI_nat_gt h, cmpI_nat_gt this]

theorem cmp_all {B : Nat} (hB : 1 < B) (a b : Nat) (he : ∀ j, (M.dig B a).getD j 0 = (M.dig B b).getD j 0) : cmpI (a : Int) (b : Int) = 0 := by
  have := M.val_ext B _ _ he
  rw [M.val_dig hB, M.val_dig hB] at this
  exact cmpI_nat_eq this

end Go.Proofs.YtcilemkeljcidaaDoor
