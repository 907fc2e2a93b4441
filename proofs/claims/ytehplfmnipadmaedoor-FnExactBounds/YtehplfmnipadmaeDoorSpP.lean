import Derived.Test.YtehplfmnipadmaeDoorAtR
import Derived.Test.YtehplfmnipadmaeDoorIo
import Derived.Test.YtehplfmnipadmaeDoorSp1
namespace Go.Proofs.YtehplfmnipadmaeDoor
open Go.RowKit
set_option linter.unusedVariables false
set_option maxRecDepth 100000

/-- Three lists that can be read. -/
def Sp3 (w w' : World) (e : Ending) (A B C : Nat) : Prop :=
  ∃ (a : Option Addr) (ca : Nat) (b : Option Addr) (cb : Nat) (c : Option Addr) (cc : Nat), e = .returned (.tuple #[.slice a (D A).length ca, .slice b (D B).length cb, .slice c (D C).length cc]) ∧ Rd w' a (D A) ∧ Rd w' b (D B) ∧ Rd w' c (D C) ∧ Below w.heap.size w w'

/-- The variables of l2Span. -/
structure Cv (w v : World) (gd : Nat) (e0 e1 e2 e3 e4 : Int) (e5 : Bool) (T : M.Pt) : Prop where
  b : Below w.heap.size w v
  d : D6 v gd e0 e1 e2 e3 e4 e5
  p : P5 v w.heap.size T

theorem Cv.below {w v v' : World} {gd : Nat} {e0 e1 e2 e3 e4 : Int} {e5 : Bool} {T : M.Pt} (h : Cv w v gd e0 e1 e2 e3 e4 e5 T) (hb : Below v.heap.size v v') : Cv w v' gd e0 e1 e2 e3 e4 e5 T :=
  ⟨h.b.trans (hb.mono h.b.size), h.d.below hb, h.p.below hb⟩

end Go.Proofs.YtehplfmnipadmaeDoor
