import Derived.Test.YtchfkmompciooabBitM
import Derived.Test.YtchfkmompciooabLenA
namespace Go.Proofs.Ytchfkmompciooab
open Go.RowKit
set_option linter.unusedVariables false

theorem len64_any (x : Nat) (w : World) (h : x < 18446744073709551616) (b : Nat) (hb : b = blen x) :
    Calls Try.prog 42 #[.int .u64 (x : Int)] w fun e w' => e = .returned (.int .i64 (b : Int)) ∧ w' = w := by
  have := len64_int (x : Int) w (by omega) (by omega)
  rw [Int.toNat_natCast, bitLen_64 x h, ← hb] at this
  exact this

end Go.Proofs.Ytchfkmompciooab
