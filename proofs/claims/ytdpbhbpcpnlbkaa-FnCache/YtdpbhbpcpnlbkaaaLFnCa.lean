import Derived.Test.YtdpbhbpcpnlbkaaaByC
import Derived.Test.YtdpbhbpcpnlbkaaaLFc
namespace Go.Proofs.Ytdpbhbpcpnlbkaa
open Go.RowKit Go.Maps
theorem lawFnCache (a0 : Option Addr) (n c : Nat) (bs : List Nat) (w : World) (w0 : InB w a0 n c bs) : Calls Try.prog 3 #[.slice a0 n c] w fun e w' => e = .returned (.bool true) ∧ Below w.heap.size w w' :=
 lawFc w0.sl w0.small

end Go.Proofs.Ytdpbhbpcpnlbkaa
