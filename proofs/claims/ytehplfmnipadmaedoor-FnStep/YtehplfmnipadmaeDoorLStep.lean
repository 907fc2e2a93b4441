import Derived.OpenShut
import Derived.Test.YtehplfmnipadmaeDoorSSt
import Derived.Test.YtehplfmnipadmaeDoorISt
import Derived.Test.YtehplfmnipadmaeDoorRk
import Derived.Test.YtehplfmnipadmaeDoorIU
namespace Go.Proofs.YtehplfmnipadmaeDoor

open Go.RowKit

set_option linter.unusedVariables false
set_option maxRecDepth 100000

theorem istep_no (f : Int) (hf : f < 0 ∨ 4 ≤ f) (X : Nat) (up : Bool) (w : World) (hm : Fmt w) :
    Calls Tryd.prog 9 #[.int .i64 f, .agg #[.int .u64 (M.hiN X : Int), .int .u64 (M.loN X : Int)], .bool up] w fun e w' => e = .returned (.tuple #[.agg #[.int .u64 0, .int .u64 0], .bool false]) ∧ Below w.heap.size w w' := by
  refine istep0 f X up ⟨0, false, 0, 0⟩ _ _ _ _ _ _ w hm (fun v hv => describeNo f v hf) (fun v hv => ?_) (fun v => pValued _ _ _ _ _ v _ (by simp))
  have := iunpack_no f hf (M.hiN X : Int) (M.loN X : Int) v
  simpa [hi0, lo0] using this

theorem sstep_no (f : Int) (hf : f < 0 ∨ 4 ≤ f) (X : Nat) (up : Bool) (w : World) :
    Calls Tryd.prog 7 #[.int .i64 f, .agg #[.int .u64 (M.hiN X : Int), .int .u64 (M.loN X : Int)], .bool up] w fun e w' => e = .returned (.tuple #[.agg #[.int .u64 0, .int .u64 0], .bool false]) ∧ Below w.heap.size w w' := by
  refine sstepA f X up ⟨0, false, 0, 0⟩ _ _ _ _ _ _ w (fun v => sdescribeNo f v hf) (fun v => ?_) rfl
  have := sunpack_no f hf (M.hiN X : Int) (M.loN X : Int) v
  simpa [hi0, lo0] using this

end Go.Proofs.YtehplfmnipadmaeDoor

