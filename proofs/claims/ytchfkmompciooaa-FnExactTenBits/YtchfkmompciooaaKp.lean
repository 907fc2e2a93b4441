import Derived.Test.YtchfkmompciooaaRows
import Derived.WalkKit
import Derived.WalkSpells
import Derived.WalkLawsBesides
namespace Go.Proofs.Ytchfkmompciooaa
open Go.RowKit
set_option linter.unusedVariables false

theorem keepC1 {w1 W v : World} (h : Below w1.heap.size w1 W) (k : Below W.heap.size W v) : Below w1.heap.size w1 v := h.trans (k.mono h.size)
theorem keepDr1 {w1 W : World} {b : Prop} (h : Below w1.heap.size w1 W ∧ b) : Below w1.heap.size w1 W.drew := h.1.drew

theorem two_new (w : World) (t : TypeId) (x y : Value) : (w.alloc (.cells #[x, y] t)).cell? ⟨w.heap.size, 0, none⟩ = some x ∧ (w.alloc (.cells #[x, y] t)).cell? ⟨w.heap.size, 1, none⟩ = some y ∧ (w.alloc (.cells #[x, y] t)).frozen? ⟨w.heap.size, 0, none⟩ = false ∧ (w.alloc (.cells #[x, y] t)).frozen? ⟨w.heap.size, 1, none⟩ = false := by
  simp [go_sem]

end Go.Proofs.Ytchfkmompciooaa
