import Derived.WalkKit
namespace Go.Proofs.YtcilemkeljcidaaDoor.M
set_option linter.unusedVariables false
set_option maxRecDepth 100000
theorem getD_set_ne (xs : List Nat) (i j x : Nat) (h : i ≠ j) : (xs.set i x).getD j 0 = xs.getD j 0 := by
 simp [List.getD_eq_getElem?_getD, h]

structure Wrote (B : Nat) (zs : List Nat) (off n : Nat) (cur : List Nat) : Prop where
 len : cur.length = zs.length
 lt : ∀ x ∈ cur, x < B
 out : ∀ j, (j < off ∨ off + n ≤ j) → cur.getD j 0 = zs.getD j 0

theorem Wrote.refl {B : Nat} {zs : List Nat} (h : ∀ x ∈ zs, x < B) (off n : Nat) : Wrote B zs off n zs := ⟨rfl, h, fun _ _ => rfl⟩

theorem Wrote.set {B : Nat} {zs cur : List Nat} {off n : Nat} (h : Wrote B zs off n cur) (k x : Nat) (hk : k < n) (hx : x < B) : Wrote B zs off n (cur.set (off + k) x) := by
 refine ⟨by rw [List.length_set]; exact h.len, fun y hy => ?_, fun j hj => ?_⟩
 · rcases List.mem_or_eq_of_mem_set hy with hy | rfl
   · exact h.lt y hy
   · exact hx
 · rw [getD_set_ne _ _ _ _ (by omega)]; exact h.out j hj

end Go.Proofs.YtcilemkeljcidaaDoor.M
