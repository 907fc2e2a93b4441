import Derived.Test.YtcilemkeljcidaaDoorW6
import Derived.Test.YtcilemkeljcidaaDoorSeg
import Derived.Test.YtcilemkeljcidaaDoorW8a
namespace Go.Proofs.YtcilemkeljcidaaDoor
open Go.RowKit
set_option linter.unusedVariables false
set_option maxRecDepth 100000

end Go.Proofs.YtcilemkeljcidaaDoor
