import Derived.OpenShut
import Derived.Test.YtehplfmnipadmaeDoorBH
namespace Go.Proofs.YtehplfmnipadmaeDoor

open Go.RowKit

set_option linter.unusedVariables false
set_option maxRecDepth 100000

/-- An interval's variable, filled. -/
def J5 (v : World) (g : Nat) (xs ys zs : List Nat) (cl ok : Bool) (a : Option Addr) (ca : Nat) (b : Option Addr) (cb : Nat) (c : Option Addr) (cc : Nat) : Prop :=
  v.cell? ⟨g, 0, none⟩ = some (.slice a xs.length ca) ∧ v.cell? ⟨g, 1, none⟩ = some (.slice b ys.length cb) ∧ v.cell? ⟨g, 2, none⟩ = some (.slice c zs.length cc) ∧ v.cell? ⟨g, 3, none⟩ = some (.bool cl) ∧ v.cell? ⟨g, 4, none⟩ = some (.bool ok) ∧ g < v.heap.size

theorem J5.same {v v' : World} {g : Nat} {xs ys zs : List Nat} {cl ok : Bool} {a : Option Addr} {ca : Nat} {b : Option Addr} {cb : Nat} {c : Option Addr} {cc : Nat} (h : J5 v g xs ys zs cl ok a ca b cb c cc) (hs : v.heap.size ≤ v'.heap.size) (hh : v'.heap[g]? = v.heap[g]?) : J5 v' g xs ys zs cl ok a ca b cb c cc :=
  ⟨(World.cell?_of_block (a := ⟨g, 0, none⟩) hh).trans h.1, (World.cell?_of_block (a := ⟨g, 1, none⟩) hh).trans h.2.1, (World.cell?_of_block (a := ⟨g, 2, none⟩) hh).trans h.2.2.1, (World.cell?_of_block (a := ⟨g, 3, none⟩) hh).trans h.2.2.2.1, (World.cell?_of_block (a := ⟨g, 4, none⟩) hh).trans h.2.2.2.2.1, Nat.lt_of_lt_of_le h.2.2.2.2.2 hs⟩

theorem J5.below {v v' : World} {g : Nat} {xs ys zs : List Nat} {cl ok : Bool} {a : Option Addr} {ca : Nat} {b : Option Addr} {cb : Nat} {c : Option Addr} {cc : Nat} (h : J5 v g xs ys zs cl ok a ca b cb c cc) (hb : Below v.heap.size v v') : J5 v' g xs ys zs cl ok a ca b cb c cc := h.same hb.size (hb.block g h.2.2.2.2.2)

end Go.Proofs.YtehplfmnipadmaeDoor

