import Derived.Test.YtcilemkeljcidaaDoorsCls
namespace Go.Proofs.YtcilemkeljcidaaDoor
open Go.RowKit
set_option linter.unusedVariables false
set_option maxRecDepth 100000
theorem Cls.new2 (v : World) (xs ys : Array Value) (t s : TypeId) : Cls ((v.alloc (.cells xs t)).alloc (.cells ys s)) v.heap.size xs t ∧ Cls ((v.alloc (.cells xs t)).alloc (.cells ys s)) (v.heap.size + 1) ys s ∧ Below v.heap.size v ((v.alloc (.cells xs t)).alloc (.cells ys s)) := by
 have b1 : Below v.heap.size v (v.alloc (.cells xs t)) := (Below.refl _ _).alloc (Nat.le_refl _) _
 have b2 : Below (v.alloc (.cells xs t)).heap.size (v.alloc (.cells xs t)) ((v.alloc (.cells xs t)).alloc (.cells ys s)) := (Below.refl _ _).alloc (Nat.le_refl _) _
 refine ⟨(Cls.new v xs t).below b2, ?_, b1.trans (b2.mono b1.size)⟩
 have := Cls.new (v.alloc (.cells xs t)) ys s
 rwa [World.size_alloc] at this

end Go.Proofs.YtcilemkeljcidaaDoor
