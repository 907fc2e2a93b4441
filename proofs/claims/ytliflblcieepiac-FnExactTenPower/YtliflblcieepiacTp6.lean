import Derived.Test.YtliflblcieepiacTp5
namespace Go.Proofs.Ytliflblcieepiac
open Go.RowKit Go.Maps
set_option linter.unusedVariables false
set_option maxRecDepth 100000

set_option maxRecDepth 10000 in
set_option maxHeartbeats 2000000 in
theorem implTenPower_any (k W : Int) (w : World) :
    Calls Try.prog 27 #[.int .i64 k, .int .i64 W] w fun e w' => e = .returned (tpv k W) ∧ Below w.heap.size w w' := by
  have kE := entry_any k W
  obtain ⟨a, b, T, E, x, y, hv⟩ := tpv_shape k W
  rw [hv] at kE ⊢
  clear hv
  unfold pwv at kE ⊢
  obtain ⟨v0, hv0⟩ : ∃ v0, v0 = w.alloc (.cells #[.int .i64 0, .int .i64 0, .int .u64 0, .int .u64 0, .int .i64 0, .bool false, .bool false] 58) := ⟨_, rfl⟩
  have zR := Z7_new w
  rw [← hv0] at zR
  have b0 : Below w.heap.size w v0 := by rw [hv0]; exact (Below.refl _ _).alloc (Nat.le_refl _) _
  have HV0 := hid hv0
  obtain ⟨v1, hv1⟩ : ∃ v1, v1 = (v0.alloc (.map #[] 0)).alloc (.cells #[.int .i32 0, .int .u32 0, .map (some v0.heap.size)] 163) := ⟨_, rfl⟩
  have b1 : Below v0.heap.size v0 v1 := by rw [hv1]; exact ((Below.refl _ _).alloc (Nat.le_refl _) _).alloc (by simp) _
  have own1 : v1.ownsMap Try.prog 164 Rz v0.heap.size 0 (.map []) := by rw [hv1]; exact (World.ownsMap_made v0 Try.prog 164 Rz).alloc _
  have c0 : v1.cell? ⟨v0.heap.size + 1, 0, none⟩ = some (.int .i32 0) := by rw [hv1]; simp [go_sem]
  have c2 : v1.cell? ⟨v0.heap.size + 1, 2, none⟩ = some (.map (some v0.heap.size)) := by rw [hv1]; simp [go_sem]
  have f0 : v1.frozen? ⟨v0.heap.size + 1, 0, none⟩ = false := by rw [hv1]; simp [go_sem]
  have ls : v0.heap.size < v1.heap.size := by rw [hv1]; simp; omega
  have kC := kE v1 (v0.heap.size + 1) v0.heap.size v0.heap.size (by omega) (Nat.le_refl _) (by omega) ls c0 c2 f0 (by omega) own1
  have kN := newTable_any v0
  rw [← hv1] at kN
  clear hv1 own1 c0 c2 f0 kE hv0
  go_enter Try.func27, Try.ntmps27
  go_wp2_with fail
  rw [← HV0.out]
  refine kN.mono ?_
  rintro e v2 ⟨rfl, rfl⟩
  go_wp2_with fail
  refine kC.mono ?_
  rintro e v3 ⟨rfl, hb3⟩
  have b3 : Below v0.heap.size v0 v3 := b1.trans hb3
  obtain ⟨o0, o1, o2, o3, o4, o5, o6, p0, p1, p2, p3, p4, p5, p6, pl⟩ := zR.below b3
  have BB := (far7 v3 w.heap.size (.int .i64 a) (.int .i64 b) (.int .u64 (M.hiN T : Int)) (.int .u64 (M.loN T : Int)) (.int .i64 E) (.bool x) (.bool y)).2.2.2 w.heap.size w (b0.trans (b3.mono b0.size)) (Nat.le_refl _)
  obtain ⟨a0, a1, a2, a3, a4, a5, a6⟩ := set7_cells (zR.below b3) (.int .i64 a) (.int .i64 b) (.int .u64 (M.hiN T : Int)) (.int .u64 (M.loN T : Int)) (.int .i64 E) (.bool x) (.bool y)
  have HA := hid (And.intro a0 (And.intro a1 (And.intro a2 (And.intro a3 (And.intro a4 (And.intro a5 a6))))))
  have HB := hid BB
  clear a0 a1 a2 a3 a4 a5 a6 BB b3 hb3 kN kC b1 zR HV0
  go_wp2_with fail
  obtain ⟨a0, a1, a2, a3, a4, a5, a6⟩ := HA.out
  have BB := HB.out
  clear HA HB
  generalize (((((((v3.setCell ⟨w.heap.size, 0, none⟩ (.int .i64 a)).setCell ⟨w.heap.size, 1, none⟩ (.int .i64 b)).setCell ⟨w.heap.size, 2, none⟩ (.int .u64 (M.hiN T : Int))).setCell ⟨w.heap.size, 3, none⟩ (.int .u64 (M.loN T : Int))).setCell ⟨w.heap.size, 4, none⟩ (.int .i64 E)).setCell ⟨w.heap.size, 5, none⟩ (.bool x)).setCell ⟨w.heap.size, 6, none⟩ (.bool y)) = Y at *
  exact bodyPost_ret (v := .agg #[.int .i64 a, .int .i64 b, .int .u64 (M.hiN T : Int), .int .u64 (M.loN T : Int), .int .i64 E, .bool x, .bool y]) (by simp [results, Try.results27, go_sem, a0, a1, a2, a3, a4, a5, a6]) rfl ⟨rfl, BB⟩

end Go.Proofs.Ytliflblcieepiac
