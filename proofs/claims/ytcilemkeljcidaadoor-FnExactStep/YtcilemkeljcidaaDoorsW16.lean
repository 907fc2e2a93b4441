import Derived.WalkKit
import Derived.Test.YtcilemkeljcidaaDoorRows
import Derived.WalkSpells
import Derived.WalkLawsBesides
import Derived.Laws.CopyOwn
import Derived.Deep.QuietTactic
import Derived.BigQuiet
namespace Go.Proofs.YtcilemkeljcidaaDoor
open Go.RowKit
set_option linter.unusedVariables false
set_option maxRecDepth 100000
theorem pow_cast (p : Nat) : ((2 : Int) ^ p) = ((2 ^ p : Nat) : Int) := by simp

theorem or_comm_nat (a b : Nat) (ha : a < 18446744073709551616) (hb : b < 18446744073709551616) : bits BinOp.or IntKind.u64 (a : Int) (b : Int) = ((b ||| a : Nat) : Int) := by
 rw [u64_or_nat a b ha hb, Nat.or_comm]

theorem div_cast (x k : Nat) : (x : Int) / 2 ^ k = ((x / 2 ^ k : Nat) : Int) := by
 rw [pow_cast]; exact (Int.natCast_ediv x (2 ^ k)).symm

end Go.Proofs.YtcilemkeljcidaaDoor
