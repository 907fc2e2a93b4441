import Derived.Test.YtmgigodkhbkiaaaW6
import Derived.Test.YtmgigodkhbkiaaaSeg
import Derived.Test.YtmgigodkhbkiaaaW8a
namespace Go.Proofs.Ytmgigodkhbkiaaa
open Go.RowKit
set_option linter.unusedVariables false

end Go.Proofs.Ytmgigodkhbkiaaa
