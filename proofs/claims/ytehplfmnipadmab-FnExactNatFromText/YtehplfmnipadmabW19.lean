import Derived.Test.YtehplfmnipadmabLen
import Derived.Test.YtehplfmnipadmabW19s
import Derived.Test.YtehplfmnipadmabW11
import Derived.Test.YtehplfmnipadmabW12
namespace Go.Proofs.Ytehplfmnipadmab
open Go.RowKit
set_option linter.unusedVariables false

end Go.Proofs.Ytehplfmnipadmab
