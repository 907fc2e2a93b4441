import Derived.Test.YtehplfmnipadmaeLen
import Derived.Test.YtehplfmnipadmaeW19s
import Derived.Test.YtehplfmnipadmaeW11
import Derived.Test.YtehplfmnipadmaeW12
namespace Go.Proofs.Ytehplfmnipadmae
open Go.RowKit
set_option linter.unusedVariables false
set_option maxRecDepth 100000

set_option maxHeartbeats 400000 in
theorem len_any (x : Nat) (w : World) (h : x < 18446744073709551616) (b : Nat) (hb : b = blen x) :
    Calls Try.prog 66 #[.int .u64 (x : Int)] w fun e w' => e = .returned (.int .i64 (b : Int)) ∧ w' = w := by
  have HB := hid hb; clear hb
  go_enter Try.func66, Try.ntmps66
  go_wp2_with fail
  refine (len64_any x _ h b HB.out).mono ?_
  rintro e w1 ⟨rfl, rfl⟩
  go_wp2_with fail
  go_ret
  exact ⟨rfl, rfl⟩

end Go.Proofs.Ytehplfmnipadmae
