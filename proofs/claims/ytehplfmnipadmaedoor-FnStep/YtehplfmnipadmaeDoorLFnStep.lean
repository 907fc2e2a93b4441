import Derived.Test.YtehplfmnipadmaeDoorLFs
import Derived.Test.YtehplfmnipadmaeDoorDru
namespace Go.Proofs.YtehplfmnipadmaeDoor

open Go.RowKit

set_option linter.unusedVariables false
set_option maxRecDepth 100000

set_option maxHeartbeats 1000000 in
set_option maxRecDepth 100000 in
theorem lawFnStep (a0 : Option Addr) (n c : Nat) (bs : List Nat) (w : World) (w0 : InB w a0 n c bs) (hm : Fmt w) :
    Calls Tryd.prog 6 #[.slice a0 n c] w fun e w' => e = .returned (.bool true) ∧ Below w.heap.size w w' := by
  obtain ⟨hl, hc, hb⟩ := w0
  by_cases h1 : n ≤ 1048576
  · exact lawFsKey a0 n c w hm h1 (fun v hv => drawU_any a0 n c bs v hl h1 (hb.below hv))
  · have h1' : (1048576 : Int) < (n : Int) := by omega
    go_enter Tryd.func6, Tryd.ntmps6
    go_wp2_with fail
    go_ret
    exact ⟨rfl, Below.refl _ _⟩

end Go.Proofs.YtehplfmnipadmaeDoor

