import Derived.Test.YtcilemkeljcidaaDoorRows
import Derived.WalkSpells
import Derived.WalkLawsBesides
import Derived.Deep.QuietTactic
import Derived.BigQuiet
import Derived.Laws.CopyOwn
import Derived.Deep.RegionHeld3
import Derived.Deep.CutBlock
import Derived.Deep.DeepCutAuto
import Derived.Test.YtcilemkeljcidaaDoorsFmM
import Derived.Test.YtcilemkeljcidaaDoorsWdM
namespace Go.Proofs.YtcilemkeljcidaaDoor
open Go.RowKit
set_option linter.unusedVariables false
set_option maxRecDepth 100000
theorem lo_small {A : Nat} (h : A < 40000) : M.loN A = A := by unfold M.loN; omega

theorem wr_small {A : Nat} (h : A < 40000) : wrap64 (A : Int) = (A : Int) := by simp only [wrap64]; omega

theorem wr_small2 {A : Nat} (h : A < 40000) : IntKind.i64.wrap (A : Int) = (A : Int) := by simp only [IntKind.wrap_i64]; omega

theorem sub_word {r B C : Nat} (h : B + C = r) (hr : r < 2 ^ 128) : C = (r + (2 ^ 128 - B)) % 2 ^ 128 := by
 have : r + (2 ^ 128 - B) = C + 2 ^ 128 := by omega
 rw [this, Nat.add_mod_right, Nat.mod_eq_of_lt (by omega)]

theorem wp1 {F : M.Fm} (h : F.Ok) : wrap64 ((F.p : Int) - 1) = (F.p : Int) - 1 := by have := h.p1; have := h.p2; simp only [wrap64]; omega

theorem wp2 {F : M.Fm} (h : F.Ok) : IntKind.i64.wrap ((F.p : Int) - 1) = (F.p : Int) - 1 := by have := h.p1; have := h.p2; simp only [IntKind.wrap_i64]; omega

end Go.Proofs.YtcilemkeljcidaaDoor
