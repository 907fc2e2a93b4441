import Derived.Test.YtchfkmompciooabLen
import Derived.Test.YtchfkmompciooabW19s
import Derived.Test.YtchfkmompciooabW11
import Derived.Test.YtchfkmompciooabW12
namespace Go.Proofs.Ytchfkmompciooab
open Go.RowKit
set_option linter.unusedVariables false

set_option maxHeartbeats 400000 in
theorem len_any (x : Nat) (w : World) (h : x < 18446744073709551616) (b : Nat) (hb : b = blen x) :
    Calls Try.prog 55 #[.int .u64 (x : Int)] w fun e w' => e = .returned (.int .i64 (b : Int)) ∧ w' = w := by
  have HB := hid hb; clear hb
  go_enter Try.func55, Try.ntmps55
  go_wp2_with fail
  refine (len64_any x _ h b HB.out).mono ?_
  rintro e w1 ⟨rfl, rfl⟩
  go_wp2_with fail
  go_ret
  exact ⟨rfl, rfl⟩

end Go.Proofs.Ytchfkmompciooab
