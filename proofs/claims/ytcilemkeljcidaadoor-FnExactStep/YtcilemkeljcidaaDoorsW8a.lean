import Derived.Test.YtcilemkeljcidaaDoorsBase
set_option maxHeartbeats 400000
namespace Go.Proofs.YtcilemkeljcidaaDoor
open Go.RowKit
set_option linter.unusedVariables false
set_option maxRecDepth 100000
theorem wrapU (n : Nat) : IntKind.u64.wrap (n : Int) = ((n % 18446744073709551616 : Nat) : Int) := by
 simp only [IntKind.wrap_u64]; omega

theorem wrapU2 (x y p : Nat) (hp : p = (x + y) % 18446744073709551616) : IntKind.u64.wrap ((x : Int) + (y : Int)) = (p : Int) := by
 have := wrapU (x + y)
 rw [← hp] at this
 rw [← this]; congr 1

theorem Rd.other {w w' : World} {bo : Option Addr} {ys : List Nat} {g : Nat} (h : Rd w bo ys) (hg : w.grownBy w' (some g)) (hsep : ∀ b2 o2, bo = some ⟨b2, o2, none⟩ → b2 ≠ g) : Rd w' bo ys := by
 intro hp
 obtain ⟨b, off, e, hc⟩ := h hp
 exact ⟨b, off, e, fun i hi => hg.cell (hc i hi) (by simpa using hsep b off e)⟩

theorem less_any (a b : Int) (w : World) (r : Nat) (hr : r = if a < b then 1 else 0) :
 Calls Tryd.prog 62 #[.int .u64 a, .int .u64 b] w fun e w' => e = .returned (.int .u64 (r : Int)) ∧ w' = w := by
 by_cases h : a < b
 · have : r = 1 := by rw [hr, if_pos h]
   subst this
   clear hr
   go_enter Tryd.func62, Tryd.ntmps62
   go_wp2
   go_ret
   exact ⟨rfl, rfl⟩
 · have : r = 0 := by rw [hr, if_neg h]
   subst this
   clear hr
   go_enter Tryd.func62, Tryd.ntmps62
   go_wp2
   go_ret
   exact ⟨rfl, rfl⟩

end Go.Proofs.YtcilemkeljcidaaDoor
