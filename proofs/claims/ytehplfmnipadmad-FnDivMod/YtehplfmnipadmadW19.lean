import Derived.Test.YtehplfmnipadmadLen
import Derived.Test.YtehplfmnipadmadW19s
import Derived.Test.YtehplfmnipadmadW11
import Derived.Test.YtehplfmnipadmadW12
namespace Go.Proofs.Ytehplfmnipadmad
open Go.RowKit
set_option linter.unusedVariables false
set_option maxRecDepth 100000

end Go.Proofs.Ytehplfmnipadmad
