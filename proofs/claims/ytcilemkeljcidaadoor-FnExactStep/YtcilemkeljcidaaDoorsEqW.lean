import Derived.Lib.BitFns
import Derived.Test.YtcilemkeljcidaaDoorsFd1
import Derived.Test.YtcilemkeljcidaaDoorsSeg
import Derived.Test.YtcilemkeljcidaaDoorsUnA
import Derived.Test.YtcilemkeljcidaaDoorsCls
set_option maxHeartbeats 1000000
set_option maxRecDepth 10000
namespace Go.Proofs.YtcilemkeljcidaaDoor
open Go.RowKit
set_option linter.unusedVariables false
set_option maxRecDepth 100000
theorem sunpack_no (f : Int) (hf : f < 0 ∨ 4 ≤ f) (a b : Int) (w : World) :
 Calls Tryd.prog 11 #[.int .i64 f, .agg #[.int .u64 a, .int .u64 b]] w fun e w' => e = .returned (.agg #[.int .i64 0, .bool false, .int .u64 0, .int .u64 0, .int .i64 0]) ∧ Below w.heap.size w w' := by
 have kE := fun (v : World) => sdescribeNo f v hf
 have b0 := ((Below.refl w.heap.size w).alloc (Nat.le_refl _) (.cells #[.int .u64 a, .int .u64 b] 30)).alloc (by simp) (.cells #[.int .i64 0, .bool false, .int .u64 0, .int .u64 0, .int .i64 0] 32)
 go_enter Tryd.func11, Tryd.ntmps11
 go_wp2_with fail
 refine (kE _).mono ?_
 rintro e v1 ⟨rfl, hb1⟩
 have r0 : v1.cell? ⟨w.heap.size + 1, 0, none⟩ = some (.int .i64 0) := (hb1.cell (by simp <;> omega)).trans (by simp [go_sem])
 have r1 : v1.cell? ⟨w.heap.size + 1, 1, none⟩ = some (.bool false) := (hb1.cell (by simp <;> omega)).trans (by simp [go_sem])
 have r2 : v1.cell? ⟨w.heap.size + 1, 2, none⟩ = some (.int .u64 0) := (hb1.cell (by simp <;> omega)).trans (by simp [go_sem])
 have r3 : v1.cell? ⟨w.heap.size + 1, 3, none⟩ = some (.int .u64 0) := (hb1.cell (by simp <;> omega)).trans (by simp [go_sem])
 have r4 : v1.cell? ⟨w.heap.size + 1, 4, none⟩ = some (.int .i64 0) := (hb1.cell (by simp <;> omega)).trans (by simp [go_sem])
 have z0 : v1.frozen? ⟨w.heap.size + 1, 0, none⟩ = false := (hb1.frozen (by simp <;> omega)).trans (by simp [go_sem])
 have z1 : v1.frozen? ⟨w.heap.size + 1, 1, none⟩ = false := (hb1.frozen (by simp <;> omega)).trans (by simp [go_sem])
 have z2 : v1.frozen? ⟨w.heap.size + 1, 2, none⟩ = false := (hb1.frozen (by simp <;> omega)).trans (by simp [go_sem])
 have z3 : v1.frozen? ⟨w.heap.size + 1, 3, none⟩ = false := (hb1.frozen (by simp <;> omega)).trans (by simp [go_sem])
 have z4 : v1.frozen? ⟨w.heap.size + 1, 4, none⟩ = false := (hb1.frozen (by simp <;> omega)).trans (by simp [go_sem])
 have n1 : w.heap.size + 2 ≤ v1.heap.size := by have := hb1.size; simp at this; omega
 have hn1 : w.heap.size + 1 < v1.heap.size := by omega
 have b1 := b0.trans (hb1.mono b0.size)
 clear hb1 b0 kE
 go_upto_region 2 with fail
 have hb3 : Below v1.heap.size v1 (v1.alloc (.cells #[.int .i64 0, .int .i64 0, .int .i64 0, .int .i64 0, .int .i64 0, .bool false] 23)) := (Below.refl _ _).alloc (Nat.le_refl _) _
 have d0 : (v1.alloc (.cells #[.int .i64 0, .int .i64 0, .int .i64 0, .int .i64 0, .int .i64 0, .bool false] 23)).cell? ⟨v1.heap.size, 0, none⟩ = some (.int .i64 0) := by simp [go_sem]
 replace r0 : (v1.alloc (.cells #[.int .i64 0, .int .i64 0, .int .i64 0, .int .i64 0, .int .i64 0, .bool false] 23)).cell? ⟨w.heap.size + 1, 0, none⟩ = some (.int .i64 0) := (hb3.cell (by simp only; omega)).trans r0
 replace r1 : (v1.alloc (.cells #[.int .i64 0, .int .i64 0, .int .i64 0, .int .i64 0, .int .i64 0, .bool false] 23)).cell? ⟨w.heap.size + 1, 1, none⟩ = some (.bool false) := (hb3.cell (by simp only; omega)).trans r1
 replace r2 : (v1.alloc (.cells #[.int .i64 0, .int .i64 0, .int .i64 0, .int .i64 0, .int .i64 0, .bool false] 23)).cell? ⟨w.heap.size + 1, 2, none⟩ = some (.int .u64 0) := (hb3.cell (by simp only; omega)).trans r2
 replace r3 : (v1.alloc (.cells #[.int .i64 0, .int .i64 0, .int .i64 0, .int .i64 0, .int .i64 0, .bool false] 23)).cell? ⟨w.heap.size + 1, 3, none⟩ = some (.int .u64 0) := (hb3.cell (by simp only; omega)).trans r3
 replace r4 : (v1.alloc (.cells #[.int .i64 0, .int .i64 0, .int .i64 0, .int .i64 0, .int .i64 0, .bool false] 23)).cell? ⟨w.heap.size + 1, 4, none⟩ = some (.int .i64 0) := (hb3.cell (by simp only; omega)).trans r4
 replace z0 : (v1.alloc (.cells #[.int .i64 0, .int .i64 0, .int .i64 0, .int .i64 0, .int .i64 0, .bool false] 23)).frozen? ⟨w.heap.size + 1, 0, none⟩ = false := (hb3.frozen (by simp only; omega)).trans z0
 replace z1 : (v1.alloc (.cells #[.int .i64 0, .int .i64 0, .int .i64 0, .int .i64 0, .int .i64 0, .bool false] 23)).frozen? ⟨w.heap.size + 1, 1, none⟩ = false := (hb3.frozen (by simp only; omega)).trans z1
 replace z2 : (v1.alloc (.cells #[.int .i64 0, .int .i64 0, .int .i64 0, .int .i64 0, .int .i64 0, .bool false] 23)).frozen? ⟨w.heap.size + 1, 2, none⟩ = false := (hb3.frozen (by simp only; omega)).trans z2
 replace z3 : (v1.alloc (.cells #[.int .i64 0, .int .i64 0, .int .i64 0, .int .i64 0, .int .i64 0, .bool false] 23)).frozen? ⟨w.heap.size + 1, 3, none⟩ = false := (hb3.frozen (by simp only; omega)).trans z3
 replace z4 : (v1.alloc (.cells #[.int .i64 0, .int .i64 0, .int .i64 0, .int .i64 0, .int .i64 0, .bool false] 23)).frozen? ⟨w.heap.size + 1, 4, none⟩ = false := (hb3.frozen (by simp only; omega)).trans z4
 replace b1 := b1.trans (hb3.mono b1.size)
 clear hb3 hn1
 generalize (v1.alloc (.cells #[.int .i64 0, .int .i64 0, .int .i64 0, .int .i64 0, .int .i64 0, .bool false] 23)) = v2 at *
 generalize v1.heap.size = gd at *
 go_wp2_with fail
 exact bodyPost_ret (v := .agg #[.int .i64 0, .bool false, .int .u64 0, .int .u64 0, .int .i64 0]) (by simp [results, Tryd.results11, go_sem, r0, r1, r2, r3, r4]) rfl ⟨rfl, below5 b1 (by omega) _ _ _ _ _⟩

theorem eqWord_same (a b : Int) (w : World) :
 Calls Tryd.prog 20 #[.agg #[.int .u64 a, .int .u64 b], .agg #[.int .u64 a, .int .u64 b]] w fun r w' => r = .returned (.bool true) ∧ Below w.heap.size w w' := by
 go_enter Tryd.func20, Tryd.ntmps20
 go_wp2_with fail
 go_ret
 exact ⟨rfl, ((Below.refl _ _).alloc (Nat.le_refl _) _).alloc (by simp) _⟩

theorem toWord_any (a b : Int) (w : World) :
 Calls Tryd.prog 12 #[.agg #[.int .u64 a, .int .u64 b]] w fun r w' => r = .returned (.agg #[.int .u64 a, .int .u64 b]) ∧ Below w.heap.size w w' := by
 go_enter Tryd.func12, Tryd.ntmps12
 go_wp2_with fail
 exact bodyPost_ret (v := .agg #[.int .u64 a, .int .u64 b]) (by simp [results, Tryd.results12, go_sem]) rfl ⟨rfl, (((Below.refl _ _).alloc (Nat.le_refl _) _).alloc (by simp) _).alloc (by simp; omega) _⟩

end Go.Proofs.YtcilemkeljcidaaDoor
