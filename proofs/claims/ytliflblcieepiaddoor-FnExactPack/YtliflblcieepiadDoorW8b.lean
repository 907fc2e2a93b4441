import Derived.Test.YtliflblcieepiadDoorW6
import Derived.Test.YtliflblcieepiadDoorSeg
import Derived.Test.YtliflblcieepiadDoorW8a
namespace Go.Proofs.YtliflblcieepiadDoor
open Go.RowKit
set_option linter.unusedVariables false

end Go.Proofs.YtliflblcieepiadDoor
