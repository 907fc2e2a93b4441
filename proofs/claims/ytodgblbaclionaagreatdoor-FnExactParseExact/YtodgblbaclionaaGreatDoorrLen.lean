import Derived.Test.YtodgblbaclionaaGreatDoorrBC
import Derived.Test.YtodgblbaclionaaGreatDoorrLenA
namespace Go.Proofs.YtodgblbaclionaaGreatDoor

open Go.RowKit

set_option linter.unusedVariables false
set_option maxRecDepth 100000

theorem len64_any (x : Nat) (w : World) (h : x < 18446744073709551616) (b : Nat) (hb : b = blen x) :
    Calls Tryz.prog 110 #[.int .u64 (x : Int)] w fun e w' => e = .returned (.int .i64 (b : Int)) ∧ w' = w := by
  have := len64_int (x : Int) w (by omega) (by omega)
  rw [Int.toNat_natCast, bitLen_64 x h, ← hb] at this
  exact this

end Go.Proofs.YtodgblbaclionaaGreatDoor

