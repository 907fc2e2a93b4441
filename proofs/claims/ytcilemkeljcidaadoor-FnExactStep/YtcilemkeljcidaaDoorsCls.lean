import Derived.Test.YtcilemkeljcidaaDoorRows
import Derived.WalkKit
import Derived.WalkSpells
import Derived.WalkLawsBesides
namespace Go.Proofs.YtcilemkeljcidaaDoor
open Go.RowKit
set_option linter.unusedVariables false
set_option maxRecDepth 100000
def Cls (v : World) (g : Nat) (xs : Array Value) (t : TypeId) : Prop := v.heap[g]? = some (.cells xs t (0, 0))

theorem Cls.lt {v : World} {g : Nat} {xs : Array Value} {t : TypeId} (h : Cls v g xs t) : g < v.heap.size := (Array.getElem?_eq_some_iff.1 h).1

theorem Cls.new (v : World) (xs : Array Value) (t : TypeId) : Cls (v.alloc (.cells xs t)) v.heap.size xs t := heap_alloc_new v _

theorem Cls.cell {v : World} {g : Nat} {xs : Array Value} {t : TypeId} (h : Cls v g xs t) (i : Nat) {x : Value} (hx : xs[i]? = some x) : v.cell? ⟨g, i, none⟩ = some x := by
 rw [cell_of_row v g i _ _ (0, 0) h, hx]

theorem Cls.frozen {v : World} {g : Nat} {xs : Array Value} {t : TypeId} (h : Cls v g xs t) (i : Nat) : v.frozen? ⟨g, i, none⟩ = false := frozen_of_row v g i _ _ h

theorem Cls.below {v v' : World} {g : Nat} {xs : Array Value} {t : TypeId} (h : Cls v g xs t) (hb : Below v.heap.size v v') : Cls v' g xs t := (hb.block g h.lt).trans h

theorem Cls.grown {v v' : World} {g : Nat} {xs : Array Value} {t : TypeId} {row : Option Nat} (h : Cls v g xs t) (hg : v.grownBy v' row) (hr : some g ≠ row) : Cls v' g xs t := (hg.block g h.lt hr).trans h

theorem Cls.set {v : World} {g : Nat} {xs : Array Value} {t : TypeId} (h : Cls v g xs t) (i : Nat) (x : Value) (ys : Array Value) (hy : xs.setIfInBounds i x = ys) : Cls (v.setCell ⟨g, i, none⟩ x) g ys t := by
 subst hy
 unfold Cls
 rw [heap_setCell_same v g i _ _ _ h]

theorem Cls.far {v : World} {g : Nat} {xs : Array Value} {t : TypeId} (h : Cls v g xs t) (a : Addr) (ha : a.block ≠ g) (x : Value) : Cls (v.setCell a x) g xs t := by
 unfold Cls
 rw [Below.heap_setCell _ _ _ _ (fun e => ha e.symm)]; exact h

end Go.Proofs.YtcilemkeljcidaaDoor
