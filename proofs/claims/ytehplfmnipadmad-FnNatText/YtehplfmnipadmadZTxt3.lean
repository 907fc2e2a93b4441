import Derived.Test.YtehplfmnipadmadZBJ
import Derived.Test.YtehplfmnipadmadTxt2
import Derived.Test.YtehplfmnipadmadW7
import Derived.Test.YtehplfmnipadmadW19
import Derived.Test.YtehplfmnipadmadByt
import Derived.Deep.CutBlock
import Derived.Deep.DeepCutAuto
namespace Go.Proofs.Ytehplfmnipadmad
open Go.RowKit
set_option linter.unusedVariables false
set_option maxRecDepth 100000

theorem dec_len (bs : List Nat) (h : M.Dig bs) : (D (M.dec bs)).length ≤ bs.length :=
  M.len_of_lt (B := 4294967296) (by omega) _ _ (Nat.lt_of_lt_of_le (M.dec_lt bs h) (Nat.pow_le_pow_left (by omega) _))

end Go.Proofs.Ytehplfmnipadmad
