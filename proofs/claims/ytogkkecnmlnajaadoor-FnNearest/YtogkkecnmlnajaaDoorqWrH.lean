import Derived.WalkKit
import Derived.Test.YtogkkecnmlnajaaDoorRows
import Derived.WalkSpells
import Derived.WalkLawsBesides
import Derived.Laws.CopyOwn
import Derived.Deep.QuietTactic
import Derived.BigQuiet
namespace Go.Proofs.YtogkkecnmlnajaaDoor
open Go.RowKit
theorem al0 (v : World) (o : Obj) : Below v.heap.size v (v.alloc o) := (Below.refl _ _).alloc (Nat.le_refl _) _

end Go.Proofs.YtogkkecnmlnajaaDoor
