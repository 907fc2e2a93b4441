import Derived.Test.YtcilemkeljcidaaDoorSo2
import Derived.Test.YtcilemkeljcidaaDoorIU
namespace Go.Proofs.YtcilemkeljcidaaDoor
open Go.RowKit
set_option linter.unusedVariables false
set_option maxRecDepth 100000

set_option maxRecDepth 10000 in
set_option maxHeartbeats 1000000 in
theorem l2Rank_none (f : Int) (hf : f < 0 ∨ 4 ≤ f) (a b : Int) (w : World) :
    Calls Tryd.prog 32 #[.int .i64 f, .agg #[.int .u64 a, .int .u64 b]] w fun e w' => e = .returned (.tuple #[.slice none 0 0, .bool false, .bool false]) ∧ Below w.heap.size w w' := by
  have kU := fun v : World => sunpack_no f hf a b v
  go_enter Tryd.func32, Tryd.ntmps32
  have b0 := (Below.refl w.heap.size w).alloc (Nat.le_refl _) (.cells #[.int .u64 a, .int .u64 b] 30)
  go_wp2_with fail
  refine (kU _).mono ?_
  rintro e v1 ⟨rfl, hb1⟩
  have x0 : v1.cell? ⟨w.heap.size, 0, none⟩ = some (.int .u64 a) := (hb1.cell (by simp <;> omega)).trans (by simp [go_sem])
  have x1 : v1.cell? ⟨w.heap.size, 1, none⟩ = some (.int .u64 b) := (hb1.cell (by simp <;> omega)).trans (by simp [go_sem])
  have n1 : w.heap.size + 1 ≤ v1.heap.size := by have := hb1.size; simp at this; omega
  have b1 := b0.trans (hb1.mono b0.size)
  clear hb1 b0 kU
  go_upto_region 2 with fail
  have hbp : Below v1.heap.size v1 (v1.alloc (.cells #[.int .i64 0, .bool false, .int .u64 0, .int .u64 0, .int .i64 0] 32)) := (Below.refl _ _).alloc (Nat.le_refl _) _
  have t0 : (v1.alloc (.cells #[.int .i64 0, .bool false, .int .u64 0, .int .u64 0, .int .i64 0] 32)).cell? ⟨v1.heap.size, 0, none⟩ = some (.int .i64 0) := by simp [go_sem]
  have t1 : (v1.alloc (.cells #[.int .i64 0, .bool false, .int .u64 0, .int .u64 0, .int .i64 0] 32)).cell? ⟨v1.heap.size, 1, none⟩ = some (.bool false) := by simp [go_sem]
  replace x0 : (v1.alloc (.cells #[.int .i64 0, .bool false, .int .u64 0, .int .u64 0, .int .i64 0] 32)).cell? ⟨w.heap.size, 0, none⟩ = some (.int .u64 a) := (hbp.cell (by simp only; omega)).trans x0
  replace x1 : (v1.alloc (.cells #[.int .i64 0, .bool false, .int .u64 0, .int .u64 0, .int .i64 0] 32)).cell? ⟨w.heap.size, 1, none⟩ = some (.int .u64 b) := (hbp.cell (by simp only; omega)).trans x1
  have lp : v1.heap.size < (v1.alloc (.cells #[.int .i64 0, .bool false, .int .u64 0, .int .u64 0, .int .i64 0] 32)).heap.size := by simp
  replace b1 := b1.trans (hbp.mono b1.size)
  clear hbp
  generalize (v1.alloc (.cells #[.int .i64 0, .bool false, .int .u64 0, .int .u64 0, .int .i64 0] 32)) = v2 at *
  generalize v1.heap.size = gp at *
  go_wp2_with fail
  go_ret3
  exact ⟨rfl, b1⟩

set_option maxRecDepth 10000 in
set_option maxHeartbeats 1000000 in
theorem sorder_no (f : Int) (hf : f < 0 ∨ 4 ≤ f) (a b c d : Int) (w : World) :
    Calls Tryd.prog 15 #[.int .i64 f, .agg #[.int .u64 a, .int .u64 b], .agg #[.int .u64 c, .int .u64 d]] w fun e w' => e = .returned (.int .i64 2) ∧ Below w.heap.size w w' := by
  have kX := fun v : World => l2Rank_none f hf a b v
  have kY := fun v : World => l2Rank_none f hf c d v
  have b0 := ((Below.refl w.heap.size w).alloc (Nat.le_refl _) (.cells #[.int .u64 a, .int .u64 b] 30)).alloc (by simp) (.cells #[.int .u64 c, .int .u64 d] 30)
  go_enter Tryd.func15, Tryd.ntmps15
  go_wp2_with fail
  refine (kX _).mono ?_
  rintro e v1 ⟨rfl, hb1⟩
  have y0 : v1.cell? ⟨w.heap.size + 1, 0, none⟩ = some (.int .u64 c) := (hb1.cell (by simp <;> omega)).trans (by simp [go_sem])
  have y1 : v1.cell? ⟨w.heap.size + 1, 1, none⟩ = some (.int .u64 d) := (hb1.cell (by simp <;> omega)).trans (by simp [go_sem])
  have b1 := b0.trans (hb1.mono b0.size)
  clear b0
  go_wp2_with fail
  refine (kY _).mono ?_
  rintro e v2 ⟨rfl, hb2⟩
  go_wp2_with fail
  go_ret
  exact ⟨rfl, b1.trans (hb2.mono b1.size)⟩

end Go.Proofs.YtcilemkeljcidaaDoor
