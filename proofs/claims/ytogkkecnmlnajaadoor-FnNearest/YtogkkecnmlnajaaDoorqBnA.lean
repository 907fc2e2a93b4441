import Derived.Deep.RegionHeld3
import Derived.Deep.CutBlock
import Derived.Deep.DeepCutAuto
import Derived.Test.YtogkkecnmlnajaaDoorqBC
set_option maxHeartbeats 1000000
set_option maxRecDepth 100000
namespace Go.Proofs.YtogkkecnmlnajaaDoor
open Go.RowKit
set_option linter.unusedVariables false
set_option maxRecDepth 100000
theorem and_one (z : Int) (h0 : 0 ≤ z) (h1 : z < 18446744073709551616) : bits .and .u64 z 1 = z % 2 := by go_bits2

theorem even_any (X : Nat) (w : World) :
 Calls Tryd.prog 79 #[.agg #[.int .u64 (M.hiN X : Int), .int .u64 (M.loN X : Int)]] w fun e w' => e = .returned (.bool (decide (X % 2 = 0))) ∧ Below w.heap.size w w' := by
 go_enter Tryd.func79, Tryd.ntmps79
 have hb : (bits BinOp.and IntKind.u64 (M.loN X : Int) 1 == 0) = decide (X % 2 = 0) := by
  have e : bits BinOp.and IntKind.u64 (M.loN X : Int) 1 = ((M.loN X % 2 : Nat) : Int) := by
   have := M.loLt X
   rw [and_one _ (by omega) (by omega)]; omega
  rw [e]
  have : M.loN X % 2 = X % 2 := by unfold M.loN; omega
  rw [this]
  by_cases h : X % 2 = 0
  · simp [h]
  · have h2 : X % 2 = 1 := by omega
    simp [h2]
 go_wp2_with fail
 go_ret
 exact ⟨by rw [← hb]; rfl, (Below.refl _ _).alloc (Nat.le_refl _) _⟩

end Go.Proofs.YtogkkecnmlnajaaDoor
