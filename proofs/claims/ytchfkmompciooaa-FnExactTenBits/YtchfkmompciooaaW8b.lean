import Derived.Test.YtchfkmompciooaaW6
import Derived.Test.YtchfkmompciooaaSeg
import Derived.Test.YtchfkmompciooaaW8a
namespace Go.Proofs.Ytchfkmompciooaa
open Go.RowKit
set_option linter.unusedVariables false

end Go.Proofs.Ytchfkmompciooaa
