/-
  Blocks made one behind the other.
-/
import Derived.Test.YtcilemkeljcidaaDoorCls
namespace Go.Proofs.YtcilemkeljcidaaDoor
open Go.RowKit
set_option linter.unusedVariables false
set_option maxRecDepth 100000

theorem Cls.new2 (v : World) (xs ys : Array Value) (t s : TypeId) : Cls ((v.alloc (.cells xs t)).alloc (.cells ys s)) v.heap.size xs t ∧ Cls ((v.alloc (.cells xs t)).alloc (.cells ys s)) (v.heap.size + 1) ys s ∧ Below v.heap.size v ((v.alloc (.cells xs t)).alloc (.cells ys s)) := by
  have b1 : Below v.heap.size v (v.alloc (.cells xs t)) := (Below.refl _ _).alloc (Nat.le_refl _) _
  have b2 : Below (v.alloc (.cells xs t)).heap.size (v.alloc (.cells xs t)) ((v.alloc (.cells xs t)).alloc (.cells ys s)) := (Below.refl _ _).alloc (Nat.le_refl _) _
  refine ⟨(Cls.new v xs t).below b2, ?_, b1.trans (b2.mono b1.size)⟩
  have := Cls.new (v.alloc (.cells xs t)) ys s
  rwa [World.size_alloc] at this

theorem Cls.new3 (v : World) (xs ys zs : Array Value) (t s r : TypeId) : Cls (((v.alloc (.cells xs t)).alloc (.cells ys s)).alloc (.cells zs r)) v.heap.size xs t ∧ Cls (((v.alloc (.cells xs t)).alloc (.cells ys s)).alloc (.cells zs r)) (v.heap.size + 1) ys s ∧ Cls (((v.alloc (.cells xs t)).alloc (.cells ys s)).alloc (.cells zs r)) (v.heap.size + 1 + 1) zs r ∧ Below v.heap.size v (((v.alloc (.cells xs t)).alloc (.cells ys s)).alloc (.cells zs r)) := by
  obtain ⟨c1, c2, b1⟩ := Cls.new2 v xs ys t s
  have b2 : Below ((v.alloc (.cells xs t)).alloc (.cells ys s)).heap.size ((v.alloc (.cells xs t)).alloc (.cells ys s)) (((v.alloc (.cells xs t)).alloc (.cells ys s)).alloc (.cells zs r)) := (Below.refl _ _).alloc (Nat.le_refl _) _
  refine ⟨c1.below b2, c2.below b2, ?_, b1.trans (b2.mono b1.size)⟩
  have := Cls.new ((v.alloc (.cells xs t)).alloc (.cells ys s)) zs r
  rwa [World.size_alloc, World.size_alloc] at this

end Go.Proofs.YtcilemkeljcidaaDoor
