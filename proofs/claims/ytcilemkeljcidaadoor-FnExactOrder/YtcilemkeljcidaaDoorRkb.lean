import Derived.Test.YtcilemkeljcidaaDoorUnA
namespace Go.Proofs.YtcilemkeljcidaaDoor
open Go.RowKit
set_option linter.unusedVariables false
set_option maxRecDepth 100000

set_option maxHeartbeats 400000 in
theorem pBelow (c : Int) (n : Bool) (a b q : Int) (w : World) (r : Bool) (hr : r = decide (n = true ∧ c ≠ 1)) :
    Calls Tryd.prog 35 #[.agg #[.int .i64 c, .bool n, .int .u64 a, .int .u64 b, .int .i64 q]] w fun e w' => e = .returned (.bool r) ∧ Below w.heap.size w w' := by
  cases n
  · have hr' : r = false := by rw [hr]; simp
    subst hr'
    clear hr
    go_enter Tryd.func35, Tryd.ntmps35
    go_wp2_with fail
    go_ret
    exact ⟨rfl, (Below.refl _ _).alloc (Nat.le_refl _) _⟩
  · by_cases h1 : c = 1
    · have hr' : r = false := by rw [hr]; simp [h1]
      subst h1
      subst hr'
      clear hr
      go_enter Tryd.func35, Tryd.ntmps35
      go_wp2_with fail
      go_ret
      exact ⟨rfl, (Below.refl _ _).alloc (Nat.le_refl _) _⟩
    · have hn1 : (c != 1) = true := by simp [h1]
      have hr' : r = true := by rw [hr]; simp [h1]
      subst hr'
      clear hr
      go_enter Tryd.func35, Tryd.ntmps35
      go_wp2_with fail
      go_ret
      exact ⟨rfl, (Below.refl _ _).alloc (Nat.le_refl _) _⟩

end Go.Proofs.YtcilemkeljcidaaDoor
