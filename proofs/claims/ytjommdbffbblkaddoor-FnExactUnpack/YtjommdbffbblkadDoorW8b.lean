import Derived.Test.YtjommdbffbblkadDoorW6
import Derived.Test.YtjommdbffbblkadDoorSeg
import Derived.Test.YtjommdbffbblkadDoorW8a
namespace Go.Proofs.YtjommdbffbblkadDoor
open Go.RowKit
set_option linter.unusedVariables false

end Go.Proofs.YtjommdbffbblkadDoor
