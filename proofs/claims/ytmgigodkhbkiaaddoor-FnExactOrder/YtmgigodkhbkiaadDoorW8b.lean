import Derived.Test.YtmgigodkhbkiaadDoorW6
import Derived.Test.YtmgigodkhbkiaadDoorSeg
import Derived.Test.YtmgigodkhbkiaadDoorW8a
namespace Go.Proofs.YtmgigodkhbkiaadDoor
open Go.RowKit
set_option linter.unusedVariables false

end Go.Proofs.YtmgigodkhbkiaadDoor
