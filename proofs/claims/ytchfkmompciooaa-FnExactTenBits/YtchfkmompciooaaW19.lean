import Derived.Test.YtchfkmompciooaaLen
import Derived.Test.YtchfkmompciooaaW19s
import Derived.Test.YtchfkmompciooaaW11
import Derived.Test.YtchfkmompciooaaW12
namespace Go.Proofs.Ytchfkmompciooaa
open Go.RowKit
set_option linter.unusedVariables false

set_option maxHeartbeats 400000 in
theorem len_any (x : Nat) (w : World) (h : x < 18446744073709551616) (b : Nat) (hb : b = blen x) :
    Calls Try.prog 59 #[.int .u64 (x : Int)] w fun e w' => e = .returned (.int .i64 (b : Int)) ∧ w' = w := by
  have HB := hid hb; clear hb
  go_enter Try.func59, Try.ntmps59
  go_wp2_with fail
  refine (len64_any x _ h b HB.out).mono ?_
  rintro e w1 ⟨rfl, rfl⟩
  go_wp2_with fail
  go_ret
  exact ⟨rfl, rfl⟩

end Go.Proofs.Ytchfkmompciooaa
