import Derived.Test.YtcilemkeljcidaaDoorSo2
import Derived.Test.YtcilemkeljcidaaDoorSo3
import Derived.Test.YtcilemkeljcidaaDoorIo2
import Derived.OpenShut
namespace Go.Proofs.YtcilemkeljcidaaDoor
open Go.RowKit
set_option linter.unusedVariables false
set_option maxRecDepth 100000

set_option maxRecDepth 10000 in
set_option maxHeartbeats 4000000 in
theorem lawOrderKey (f a b c d r : Int) (w : World) (h : Fmt w)
    (hS : ∀ v : World, Calls Tryd.prog 15 #[.int .i64 f, .agg #[.int .u64 a, .int .u64 b], .agg #[.int .u64 c, .int .u64 d]] v fun e w' => e = .returned (.int .i64 r) ∧ Below v.heap.size v w')
    (hI : ∀ v : World, Fmt v → Calls Tryd.prog 16 #[.int .i64 f, .agg #[.int .u64 a, .int .u64 b], .agg #[.int .u64 c, .int .u64 d]] v fun e w' => e = .returned (.int .i64 r) ∧ Below v.heap.size v w') :
    Calls Tryd.prog 5 #[.int .i64 f, .agg #[.int .u64 a, .int .u64 b], .agg #[.int .u64 c, .int .u64 d]] w fun e w' => e = .returned (.bool true) ∧ Below w.heap.size w w' := by
  go_enter Tryd.func5, Tryd.ntmps5
  go_wp2_with fail
  have b0 : Below w.heap.size w ((w.alloc (.cells #[.int .u64 a, .int .u64 b] 29)).alloc (.cells #[.int .u64 c, .int .u64 d] 29)) := ((Below.refl w.heap.size w).alloc (Nat.le_refl _) _).alloc (by simp) _
  generalize hw1 : ((w.alloc (.cells #[.int .u64 a, .int .u64 b] 29)).alloc (.cells #[.int .u64 c, .int .u64 d] 29)) = w1 at *
  have x0 : w1.cell? ⟨w.heap.size, 0, none⟩ = some (.int .u64 a) := by rw [← hw1]; simp [go_sem]
  have x1 : w1.cell? ⟨w.heap.size, 1, none⟩ = some (.int .u64 b) := by rw [← hw1]; simp [go_sem]
  have y0 : w1.cell? ⟨w.heap.size + 1, 0, none⟩ = some (.int .u64 c) := by rw [← hw1]; simp [go_sem]
  have y1 : w1.cell? ⟨w.heap.size + 1, 1, none⟩ = some (.int .u64 d) := by rw [← hw1]; simp [go_sem]
  have n1 : w.heap.size + 1 < w1.heap.size := by rw [← hw1]; simp
  clear hw1
  have KH : ∀ v, Below w1.heap.size w1 v → (fun v => v.cell? ⟨w.heap.size, 0, none⟩ = some (.int .u64 a) ∧ v.cell? ⟨w.heap.size, 1, none⟩ = some (.int .u64 b) ∧ v.cell? ⟨w.heap.size + 1, 0, none⟩ = some (.int .u64 c) ∧ v.cell? ⟨w.heap.size + 1, 1, none⟩ = some (.int .u64 d)) v := fun v hv => ⟨(hv.cell (by simp only; omega)).trans x0, (hv.cell (by simp only; omega)).trans x1, (hv.cell n1).trans y0, (hv.cell n1).trans y1⟩
  clear x0 x1 y0 y1
  have A0 : Below w1.heap.size w1 w1.drew := (Below.refl _ _).drew
  go_region_held3 (fun v => v.cell? ⟨w.heap.size, 0, none⟩ = some (.int .u64 a) ∧ v.cell? ⟨w.heap.size, 1, none⟩ = some (.int .u64 b) ∧ v.cell? ⟨w.heap.size + 1, 0, none⟩ = some (.int .u64 c) ∧ v.cell? ⟨w.heap.size + 1, 1, none⟩ = some (.int .u64 d)) (first | with_reducible exact KH _ hb3 | with_reducible exact KH _ hb2 | with_reducible exact KH _ hb1 | with_reducible exact KH _ A0)
    (first | (have hq := hb2; clear hq; go_at_call 15; refine (hS _).mono ?_; rintro e u3 ⟨rfl, hb0⟩; have hb3 := keepC (w1 := w1) hb2 hb0; clear hb0) | (have hq := hb1; clear hq; go_at_call 12; refine (toWord_any c d _).mono ?_; rintro e u2 ⟨rfl, hb0⟩; have hb2 := keepC (w1 := w1) hb1 hb0; clear hb0) | (go_at_call 12; refine (toWord_any a b _).mono ?_; rintro e u1 ⟨rfl, hb0⟩; have hb1 := keepC (w1 := w1) A0 hb0; clear hb0))
  all_goals go_upto_region 2 with fail
  have KF : ∀ v, Below u3.heap.size u3 v → Fmt v := fun v hv => h.below ((b0.trans (hb3.mono b0.size)).trans (hv.mono (Nat.le_trans b0.size hb3.size)))
  have BB : Below w.heap.size w u3 := b0.trans (hb3.mono b0.size)
  replace KH : ∀ v, Below u3.heap.size u3 v → (fun v => v.cell? ⟨w.heap.size, 0, none⟩ = some (.int .u64 a) ∧ v.cell? ⟨w.heap.size, 1, none⟩ = some (.int .u64 b) ∧ v.cell? ⟨w.heap.size + 1, 0, none⟩ = some (.int .u64 c) ∧ v.cell? ⟨w.heap.size + 1, 1, none⟩ = some (.int .u64 d)) v := fun v hv => KH v (keepC hb3 hv)
  clear hb1 hb2 hb3 A0 hS b0
  have A0 : Below u3.heap.size u3 u3.drew := (Below.refl _ _).drew
  go_region_held3 (fun v => v.cell? ⟨w.heap.size, 0, none⟩ = some (.int .u64 a) ∧ v.cell? ⟨w.heap.size, 1, none⟩ = some (.int .u64 b) ∧ v.cell? ⟨w.heap.size + 1, 0, none⟩ = some (.int .u64 c) ∧ v.cell? ⟨w.heap.size + 1, 1, none⟩ = some (.int .u64 d)) (first | with_reducible exact KH _ hb3 | with_reducible exact KH _ hb2 | with_reducible exact KH _ hb1 | with_reducible exact KH _ A0)
    (first | (have hq := hb2; clear hq; go_at_call 16; refine (hI _ (KF _ hb2)).mono ?_; rintro e u6 ⟨rfl, hb0⟩; have hb3 := keepC (w1 := u3) hb2 hb0; clear hb0) | (have hq := hb1; clear hq; go_at_call 12; refine (toWord_any c d _).mono ?_; rintro e u5 ⟨rfl, hb0⟩; have hb2 := keepC (w1 := u3) hb1 hb0; clear hb0) | (go_at_call 12; refine (toWord_any a b _).mono ?_; rintro e u4 ⟨rfl, hb0⟩; have hb1 := keepC (w1 := u3) A0 hb0; clear hb0))
  have hne : (r != r) = false := by simp
  all_goals go_wp2_with fail
  all_goals go_ret
  all_goals exact ⟨rfl, BB.trans (hb3.mono BB.size)⟩

theorem word_of {a b : Int} (wa : (Lit.int .u64 a).wf = true) (wb : (Lit.int .u64 b).wf = true) : ∃ X : Nat, X < 2 ^ 128 ∧ a = (M.hiN X : Int) ∧ b = (M.loN X : Int) := by
  have ha := bounds_u64 wa
  have hb := bounds_u64 wb
  obtain ⟨x, rfl⟩ : ∃ x : Nat, a = (x : Int) := ⟨a.toNat, by omega⟩
  obtain ⟨y, rfl⟩ : ∃ y : Nat, b = (y : Int) := ⟨b.toNat, by omega⟩
  exact ⟨x * 18446744073709551616 + y, by omega, by rw [M.hiOf x y (by omega)], by rw [M.loOf x y (by omega)]⟩

theorem lawOrder (f a b c d : Int) (w : World) (wf0 : (Lit.int .i64 f).wf = true) (wa : (Lit.int .u64 a).wf = true) (wb : (Lit.int .u64 b).wf = true) (wc : (Lit.int .u64 c).wf = true) (wd : (Lit.int .u64 d).wf = true) (h : Fmt w) :
    Calls Tryd.prog 5 #[.int .i64 f, .agg #[.int .u64 a, .int .u64 b], .agg #[.int .u64 c, .int .u64 d]] w fun e w' => e = .returned (.bool true) ∧ Below w.heap.size w w' := by
  obtain ⟨X, hX, rfl, rfl⟩ := word_of wa wb
  obtain ⟨Y, hY, rfl, rfl⟩ := word_of wc wd
  by_cases hf : 0 ≤ f ∧ f < 4
  · obtain ⟨k, rfl⟩ : ∃ k : Nat, f = (k : Int) := ⟨f.toNat, by omega⟩
    exact lawOrderKey _ _ _ _ _ _ w h (fun v => sorder_any k (by omega) X Y hX hY v) (fun v hv => iorder_any k (by omega) X Y hX hY v hv)
  · have hn : f < 0 ∨ 4 ≤ f := by omega
    exact lawOrderKey _ _ _ _ _ _ w h (fun v => sorder_no f hn _ _ _ _ v) (fun v hv => iorder_no f hn X Y v hv)

end Go.Proofs.YtcilemkeljcidaaDoor
