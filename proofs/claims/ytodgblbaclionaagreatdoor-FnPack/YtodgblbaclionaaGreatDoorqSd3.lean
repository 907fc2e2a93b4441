import Derived.Laws.BytesArg
import Derived.Laws.AppendOwnNone
import Derived.Lib.AppendStr
import Derived.Deep.CutBlock
import Derived.Deep.DeepCutAuto
import Derived.Test.YtodgblbaclionaaGreatDoorqBD
import Derived.Test.YtodgblbaclionaaGreatDoorqBY
import Derived.Test.YtodgblbaclionaaGreatDoorqBS
namespace Go.Proofs.YtodgblbaclionaaGreatDoor

open Go.RowKit

set_option linter.unusedVariables false
set_option maxRecDepth 100000

/-- What a scan says: the number, the code, the offset. -/
def scOut (bs : List Nat) : M.Dec × Int × Int := if 800 < bs.length then (⟨0, false, [], 0⟩, 2, 800) else match M.scanD bs with
  | .inl d => (d, 0, 0)
  | .inr k => (⟨0, false, [], 0⟩, 1, (k : Int))

def scV (o : M.Dec × Int × Int) (v : Value) : Value := .agg #[.int .i64 o.1.kind, .bool o.1.neg, v, .int .i64 o.1.exp, .int .i64 o.2.1, .int .i64 o.2.2]

theorem box6 {W : World} {g : Nat} {xs : Array Value} {t : TypeId} (R : Cls W g xs t) (hx : xs.size = 6) (a b c d e f : Value) :
    Cls ((((((W.setCell ⟨g, 0, none⟩ a).setCell ⟨g, 1, none⟩ b).setCell ⟨g, 2, none⟩ c).setCell ⟨g, 3, none⟩ d).setCell ⟨g, 4, none⟩ e).setCell ⟨g, 5, none⟩ f) g #[a, b, c, d, e, f] t := by
  refine (((((R.set 0 a _ rfl).set 1 b _ rfl).set 2 c _ rfl).set 3 d _ rfl).set 4 e _ rfl).set 5 f _ ?_
  obtain ⟨l⟩ := xs
  match l, hx with
  | [x0, x1, x2, x3, x4, x5], _ => rfl

theorem below6 {w W : World} {g : Nat} (H : Below g w W) (a b c d e f : Value) :
    Below g w ((((((W.setCell ⟨g, 0, none⟩ a).setCell ⟨g, 1, none⟩ b).setCell ⟨g, 2, none⟩ c).setCell ⟨g, 3, none⟩ d).setCell ⟨g, 4, none⟩ e).setCell ⟨g, 5, none⟩ f) :=
  (((((H.setCell (p := ⟨g, 0, none⟩) (Nat.le_refl _) _).setCell (p := ⟨g, 1, none⟩) (Nat.le_refl _) _).setCell (p := ⟨g, 2, none⟩) (Nat.le_refl _) _).setCell (p := ⟨g, 3, none⟩) (Nat.le_refl _) _).setCell (p := ⟨g, 4, none⟩) (Nat.le_refl _) _).setCell (p := ⟨g, 5, none⟩) (Nat.le_refl _) _

abbrev zSc : Array Value := #[.int .i64 0, .bool false, .slice none 0 0, .int .i64 0, .int .i64 0, .int .i64 0]

end Go.Proofs.YtodgblbaclionaaGreatDoor

