import Derived.Test.YtdfljbpcjkbflaaGreatDoorChecked
import Derived.Lib.Strings
import Derived.Lib.Slices
import Derived.Lib.Small
import Derived.Lib.Walk
import Derived.Lib.Mul64
import Derived.Shelf.Bits.Mul64
import Derived.OwnWalk
import Derived.WalkMore
import Derived.Deep.Cut
import Derived.Deep.LoopGhost
import Derived.Lib.SlBytesConst
import Derived.RangeFuncNested
import Derived.RangeFuncBound
import Derived.RangeFuncCalls
import Derived.RangeFuncLeaves
import Derived.RangeFuncBox
import Derived.RangeFuncWrites
import Derived.Shelf.Abstract
import Derived.Shelf.RegionOpen
import Derived.OwnWalkIn
import Derived.TacticsInMore
import Derived.LoopNIn
import Derived.LoopIn
import Derived.Shelf.RegionOpenPlain
import Derived.Maps.AppendAt
import Derived.Maps.OwnIn
import Derived.Deep.AppendLies
import Derived.Test.YtdfljbpcjkbflaaGreatDoorrHAI
import Derived.Test.YtdfljbpcjkbflaaGreatDoorrHAJ
namespace Go.Proofs.YtdfljbpcjkbflaaGreatDoor.M
set_option linter.unusedVariables false
set_option maxRecDepth 100000
theorem Wd.Ok.exists_best {t : Wd} (h : t.Ok) : ∃ r, t.Best r := by
 have hN := h.N_le
 have key : ∀ m : Nat, 1 ≤ m → m ≤ t.N → ∃ r, r < m ∧ t.ok (t.X + (r : Nat)) ∧ ∀ z : Nat, r < z → z < m → ¬ t.ok (t.X + z) := by
  intro m
  induction m with
  | zero => intro h1; omega
  | succ m ih =>
    intro _ h2
    rcases Nat.eq_zero_or_pos m with e | e
    · subst e
      exact ⟨0, by omega, by have := h.first.2.2; simpa using this, fun z h3 h4 => by omega⟩
    · by_cases hk : t.ok (t.X + (m : Nat))
      · exact ⟨m, by omega, hk, fun z h3 h4 => by omega⟩
      · obtain ⟨r, r1, r2, r3⟩ := ih e (by omega)
        refine ⟨r, by omega, r2, fun z h3 h4 => ?_⟩
        by_cases hz : z = m
        · subst hz; exact hk
        · exact r3 z h3 (by omega)
 obtain ⟨r, r1, r2, r3⟩ := key t.N hN.1 (Nat.le_refl _)
 exact ⟨r, r1, r2, r3⟩

end Go.Proofs.YtdfljbpcjkbflaaGreatDoor.M
