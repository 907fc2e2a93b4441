import Derived.Lib.BitFns
import Derived.Test.YtcilemkeljcidaaDoorsUn1
import Derived.Test.YtcilemkeljcidaaDoorsCls
set_option maxHeartbeats 1000000
set_option maxRecDepth 10000
namespace Go.Proofs.YtcilemkeljcidaaDoor
open Go.RowKit
set_option linter.unusedVariables false
set_option maxRecDepth 100000
theorem iunpack_any (f : Nat) (hf : f < 4) (X : Nat) (hX : X < 2 ^ 128) (w : World) (hm : Fmt w) :
 Calls Tryd.prog 13 #[.int .i64 (f : Int), .agg #[.int .u64 (M.hiN X : Int), .int .u64 (M.loN X : Int)]] w fun e w' => e = .returned (pv ((M.fm f).upk X)) ∧ Below w.heap.size w w' := by
 have kE := fun (v : World) (hv : Fmt v) => describe_ok f hf v hv
 have h := M.fm_ok f
 generalize M.fm f = F at *
 have kK := fun v : World => dKnown F h v
 have kU := fun v : World => unpack_any F h X hX v
 obtain ⟨T, hT⟩ : ∃ T, T = F.upk X := ⟨_, rfl⟩
 rw [← hT] at kU ⊢
 clear hT
 simp only [dv, pv] at kE kK kU
 have b0 := ((Below.refl w.heap.size w).alloc (Nat.le_refl _) (.cells #[.int .u64 (M.hiN X : Int), .int .u64 (M.loN X : Int)] 30)).alloc (by simp) (.cells #[.int .i64 0, .bool false, .int .u64 0, .int .u64 0, .int .i64 0] 32)
 go_enter Tryd.func13, Tryd.ntmps13
 go_wp2_with fail
 refine (kE _ (hm.below b0)).mono ?_
 rintro e v1 ⟨rfl, hb1⟩
 have r0 : v1.cell? ⟨w.heap.size + 1, 0, none⟩ = some (.int .i64 0) := (hb1.cell (by simp <;> omega)).trans (by simp [go_sem])
 have r1 : v1.cell? ⟨w.heap.size + 1, 1, none⟩ = some (.bool false) := (hb1.cell (by simp <;> omega)).trans (by simp [go_sem])
 have r2 : v1.cell? ⟨w.heap.size + 1, 2, none⟩ = some (.int .u64 0) := (hb1.cell (by simp <;> omega)).trans (by simp [go_sem])
 have r3 : v1.cell? ⟨w.heap.size + 1, 3, none⟩ = some (.int .u64 0) := (hb1.cell (by simp <;> omega)).trans (by simp [go_sem])
 have r4 : v1.cell? ⟨w.heap.size + 1, 4, none⟩ = some (.int .i64 0) := (hb1.cell (by simp <;> omega)).trans (by simp [go_sem])
 have z0 : v1.frozen? ⟨w.heap.size + 1, 0, none⟩ = false := (hb1.frozen (by simp <;> omega)).trans (by simp [go_sem])
 have z1 : v1.frozen? ⟨w.heap.size + 1, 1, none⟩ = false := (hb1.frozen (by simp <;> omega)).trans (by simp [go_sem])
 have z2 : v1.frozen? ⟨w.heap.size + 1, 2, none⟩ = false := (hb1.frozen (by simp <;> omega)).trans (by simp [go_sem])
 have z3 : v1.frozen? ⟨w.heap.size + 1, 3, none⟩ = false := (hb1.frozen (by simp <;> omega)).trans (by simp [go_sem])
 have z4 : v1.frozen? ⟨w.heap.size + 1, 4, none⟩ = false := (hb1.frozen (by simp <;> omega)).trans (by simp [go_sem])
 have x0 : v1.cell? ⟨w.heap.size, 0, none⟩ = some (.int .u64 (M.hiN X : Int)) := (hb1.cell (by simp <;> omega)).trans (by simp [go_sem])
 have x1 : v1.cell? ⟨w.heap.size, 1, none⟩ = some (.int .u64 (M.loN X : Int)) := (hb1.cell (by simp <;> omega)).trans (by simp [go_sem])
 have n1 : w.heap.size + 2 ≤ v1.heap.size := by have := hb1.size; simp at this; omega
 have b1 := b0.trans (hb1.mono b0.size)
 clear hb1 b0 kE hm
 go_wp2_with fail
 have hbd : Below v1.heap.size v1 (v1.alloc (.cells #[.int .i64 (F.p : Int), .int .i64 (1 - (F.emax : Int)), .int .i64 (F.emax : Int), .int .i64 (F.wd : Int), .int .i64 (F.e : Int), .bool F.x] 23)) := (Below.refl _ _).alloc (Nat.le_refl _) _
 refine (kK _).mono ?_
 rintro e v2 ⟨rfl, hb2⟩
 have hb3 := hbd.trans (hb2.mono hbd.size)
 have d0 : v2.cell? ⟨v1.heap.size, 0, none⟩ = some (.int .i64 (F.p : Int)) := (hb2.cell (by simp)).trans (by simp [go_sem])
 have d1 : v2.cell? ⟨v1.heap.size, 1, none⟩ = some (.int .i64 (1 - (F.emax : Int))) := (hb2.cell (by simp)).trans (by simp [go_sem])
 have d2 : v2.cell? ⟨v1.heap.size, 2, none⟩ = some (.int .i64 (F.emax : Int)) := (hb2.cell (by simp)).trans (by simp [go_sem])
 have d3 : v2.cell? ⟨v1.heap.size, 3, none⟩ = some (.int .i64 (F.wd : Int)) := (hb2.cell (by simp)).trans (by simp [go_sem])
 have d4 : v2.cell? ⟨v1.heap.size, 4, none⟩ = some (.int .i64 (F.e : Int)) := (hb2.cell (by simp)).trans (by simp [go_sem])
 have d5 : v2.cell? ⟨v1.heap.size, 5, none⟩ = some (.bool F.x) := (hb2.cell (by simp)).trans (by simp [go_sem])
 replace r0 : v2.cell? ⟨w.heap.size + 1, 0, none⟩ = some (.int .i64 0) := (hb3.cell (by simp only; omega)).trans r0
 replace r1 : v2.cell? ⟨w.heap.size + 1, 1, none⟩ = some (.bool false) := (hb3.cell (by simp only; omega)).trans r1
 replace r2 : v2.cell? ⟨w.heap.size + 1, 2, none⟩ = some (.int .u64 0) := (hb3.cell (by simp only; omega)).trans r2
 replace r3 : v2.cell? ⟨w.heap.size + 1, 3, none⟩ = some (.int .u64 0) := (hb3.cell (by simp only; omega)).trans r3
 replace r4 : v2.cell? ⟨w.heap.size + 1, 4, none⟩ = some (.int .i64 0) := (hb3.cell (by simp only; omega)).trans r4
 replace z0 : v2.frozen? ⟨w.heap.size + 1, 0, none⟩ = false := (hb3.frozen (by simp only; omega)).trans z0
 replace z1 : v2.frozen? ⟨w.heap.size + 1, 1, none⟩ = false := (hb3.frozen (by simp only; omega)).trans z1
 replace z2 : v2.frozen? ⟨w.heap.size + 1, 2, none⟩ = false := (hb3.frozen (by simp only; omega)).trans z2
 replace z3 : v2.frozen? ⟨w.heap.size + 1, 3, none⟩ = false := (hb3.frozen (by simp only; omega)).trans z3
 replace z4 : v2.frozen? ⟨w.heap.size + 1, 4, none⟩ = false := (hb3.frozen (by simp only; omega)).trans z4
 replace x0 : v2.cell? ⟨w.heap.size, 0, none⟩ = some (.int .u64 (M.hiN X : Int)) := (hb3.cell (by simp only; omega)).trans x0
 replace x1 : v2.cell? ⟨w.heap.size, 1, none⟩ = some (.int .u64 (M.loN X : Int)) := (hb3.cell (by simp only; omega)).trans x1
 have n2 : v1.heap.size + 1 ≤ v2.heap.size := by have := hb2.size; simp at this; omega
 replace b1 := b1.trans (hb3.mono b1.size)
 clear hb2 hb3 hbd kK
 go_wp2_with fail
 refine (kU _).mono ?_
 rintro e v3 ⟨rfl, hb4⟩
 replace r0 : v3.cell? ⟨w.heap.size + 1, 0, none⟩ = some (.int .i64 0) := (hb4.cell (by simp only; omega)).trans r0
 replace r1 : v3.cell? ⟨w.heap.size + 1, 1, none⟩ = some (.bool false) := (hb4.cell (by simp only; omega)).trans r1
 replace r2 : v3.cell? ⟨w.heap.size + 1, 2, none⟩ = some (.int .u64 0) := (hb4.cell (by simp only; omega)).trans r2
 replace r3 : v3.cell? ⟨w.heap.size + 1, 3, none⟩ = some (.int .u64 0) := (hb4.cell (by simp only; omega)).trans r3
 replace r4 : v3.cell? ⟨w.heap.size + 1, 4, none⟩ = some (.int .i64 0) := (hb4.cell (by simp only; omega)).trans r4
 replace z0 : v3.frozen? ⟨w.heap.size + 1, 0, none⟩ = false := (hb4.frozen (by simp only; omega)).trans z0
 replace z1 : v3.frozen? ⟨w.heap.size + 1, 1, none⟩ = false := (hb4.frozen (by simp only; omega)).trans z1
 replace z2 : v3.frozen? ⟨w.heap.size + 1, 2, none⟩ = false := (hb4.frozen (by simp only; omega)).trans z2
 replace z3 : v3.frozen? ⟨w.heap.size + 1, 3, none⟩ = false := (hb4.frozen (by simp only; omega)).trans z3
 replace z4 : v3.frozen? ⟨w.heap.size + 1, 4, none⟩ = false := (hb4.frozen (by simp only; omega)).trans z4
 replace b1 := b1.trans (hb4.mono b1.size)
 clear hb4 kU
 go_wp2_with fail
 exact bodyPost_ret (v := .agg #[.int .i64 T.c, .bool T.n, .int .u64 (M.hiN T.s : Int), .int .u64 (M.loN T.s : Int), .int .i64 T.q]) (by simp [results, Tryd.results13, go_sem, r0, r1, r2, r3, r4]) rfl ⟨rfl, below5 b1 (by omega) _ _ _ _ _⟩

theorem iunpack_no (f : Int) (hf : f < 0 ∨ 4 ≤ f) (a b : Int) (w : World) :
 Calls Tryd.prog 13 #[.int .i64 f, .agg #[.int .u64 a, .int .u64 b]] w fun e w' => e = .returned (.agg #[.int .i64 0, .bool false, .int .u64 0, .int .u64 0, .int .i64 0]) ∧ Below w.heap.size w w' := by
 have kE := fun (v : World) => describeNo f v hf
 have b0 := ((Below.refl w.heap.size w).alloc (Nat.le_refl _) (.cells #[.int .u64 a, .int .u64 b] 30)).alloc (by simp) (.cells #[.int .i64 0, .bool false, .int .u64 0, .int .u64 0, .int .i64 0] 32)
 go_enter Tryd.func13, Tryd.ntmps13
 go_wp2_with fail
 refine (kE _).mono ?_
 rintro e v1 ⟨rfl, hb1⟩
 have r0 : v1.cell? ⟨w.heap.size + 1, 0, none⟩ = some (.int .i64 0) := (hb1.cell (by simp <;> omega)).trans (by simp [go_sem])
 have r1 : v1.cell? ⟨w.heap.size + 1, 1, none⟩ = some (.bool false) := (hb1.cell (by simp <;> omega)).trans (by simp [go_sem])
 have r2 : v1.cell? ⟨w.heap.size + 1, 2, none⟩ = some (.int .u64 0) := (hb1.cell (by simp <;> omega)).trans (by simp [go_sem])
 have r3 : v1.cell? ⟨w.heap.size + 1, 3, none⟩ = some (.int .u64 0) := (hb1.cell (by simp <;> omega)).trans (by simp [go_sem])
 have r4 : v1.cell? ⟨w.heap.size + 1, 4, none⟩ = some (.int .i64 0) := (hb1.cell (by simp <;> omega)).trans (by simp [go_sem])
 have z0 : v1.frozen? ⟨w.heap.size + 1, 0, none⟩ = false := (hb1.frozen (by simp <;> omega)).trans (by simp [go_sem])
 have z1 : v1.frozen? ⟨w.heap.size + 1, 1, none⟩ = false := (hb1.frozen (by simp <;> omega)).trans (by simp [go_sem])
 have z2 : v1.frozen? ⟨w.heap.size + 1, 2, none⟩ = false := (hb1.frozen (by simp <;> omega)).trans (by simp [go_sem])
 have z3 : v1.frozen? ⟨w.heap.size + 1, 3, none⟩ = false := (hb1.frozen (by simp <;> omega)).trans (by simp [go_sem])
 have z4 : v1.frozen? ⟨w.heap.size + 1, 4, none⟩ = false := (hb1.frozen (by simp <;> omega)).trans (by simp [go_sem])
 have n1 : w.heap.size + 2 ≤ v1.heap.size := by have := hb1.size; simp at this; omega
 have hn1 : w.heap.size + 1 < v1.heap.size := by omega
 have b1 := b0.trans (hb1.mono b0.size)
 clear hb1 b0 kE
 go_wp2_with fail
 have hbd : Below v1.heap.size v1 (v1.alloc (.cells #[.int .i64 0, .int .i64 0, .int .i64 0, .int .i64 0, .int .i64 0, .bool false] 23)) := (Below.refl _ _).alloc (Nat.le_refl _) _
 refine (dKnown0 _).mono ?_
 rintro e v2 ⟨rfl, hb2⟩
 have hb3 := hbd.trans (hb2.mono hbd.size)
 replace r0 : v2.cell? ⟨w.heap.size + 1, 0, none⟩ = some (.int .i64 0) := (hb3.cell (by simp only; omega)).trans r0
 replace r1 : v2.cell? ⟨w.heap.size + 1, 1, none⟩ = some (.bool false) := (hb3.cell (by simp only; omega)).trans r1
 replace r2 : v2.cell? ⟨w.heap.size + 1, 2, none⟩ = some (.int .u64 0) := (hb3.cell (by simp only; omega)).trans r2
 replace r3 : v2.cell? ⟨w.heap.size + 1, 3, none⟩ = some (.int .u64 0) := (hb3.cell (by simp only; omega)).trans r3
 replace r4 : v2.cell? ⟨w.heap.size + 1, 4, none⟩ = some (.int .i64 0) := (hb3.cell (by simp only; omega)).trans r4
 replace z0 : v2.frozen? ⟨w.heap.size + 1, 0, none⟩ = false := (hb3.frozen (by simp only; omega)).trans z0
 replace z1 : v2.frozen? ⟨w.heap.size + 1, 1, none⟩ = false := (hb3.frozen (by simp only; omega)).trans z1
 replace z2 : v2.frozen? ⟨w.heap.size + 1, 2, none⟩ = false := (hb3.frozen (by simp only; omega)).trans z2
 replace z3 : v2.frozen? ⟨w.heap.size + 1, 3, none⟩ = false := (hb3.frozen (by simp only; omega)).trans z3
 replace z4 : v2.frozen? ⟨w.heap.size + 1, 4, none⟩ = false := (hb3.frozen (by simp only; omega)).trans z4
 replace b1 := b1.trans (hb3.mono b1.size)
 clear hb2 hb3 hbd
 go_wp2_with fail
 exact bodyPost_ret (v := .agg #[.int .i64 0, .bool false, .int .u64 0, .int .u64 0, .int .i64 0]) (by simp [results, Tryd.results13, go_sem, r0, r1, r2, r3, r4]) rfl ⟨rfl, below5 b1 (by omega) _ _ _ _ _⟩

end Go.Proofs.YtcilemkeljcidaaDoor
