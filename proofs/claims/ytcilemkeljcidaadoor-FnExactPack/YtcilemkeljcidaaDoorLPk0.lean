import Derived.Test.YtcilemkeljcidaaDoorUnA
import Derived.Deep.RegionHeld3
import Derived.OpenShut
namespace Go.Proofs.YtcilemkeljcidaaDoor
open Go.RowKit
set_option linter.unusedVariables false
set_option maxRecDepth 100000

set_option maxHeartbeats 400000 in
theorem toWordP_any (a b : Int) (w : World) :
    Calls Tryd.prog 12 #[.agg #[.int .u64 a, .int .u64 b]] w fun r w' => r = .returned (.agg #[.int .u64 a, .int .u64 b]) ∧ Below w.heap.size w w' := by
  go_enter Tryd.func12, Tryd.ntmps12
  go_wp2_with fail
  exact bodyPost_ret (v := .agg #[.int .u64 a, .int .u64 b]) (by simp [results, Tryd.results12, go_sem]) rfl ⟨rfl, (((Below.refl _ _).alloc (Nat.le_refl _) _).alloc (by simp) _).alloc (by simp; omega) _⟩

set_option maxHeartbeats 400000 in
theorem eqWordP_same (a b : Int) (w : World) :
    Calls Tryd.prog 20 #[.agg #[.int .u64 a, .int .u64 b], .agg #[.int .u64 a, .int .u64 b]] w fun r w' => r = .returned (.bool true) ∧ Below w.heap.size w w' := by
  go_enter Tryd.func20, Tryd.ntmps20
  go_wp2_with fail
  go_ret
  exact ⟨rfl, ((Below.refl _ _).alloc (Nat.le_refl _) _).alloc (by simp) _⟩

set_option maxHeartbeats 1000000 in
theorem toParts_any (c : Int) (n : Bool) (a b q : Int) (w : World) :
    Calls Tryd.prog 18 #[.agg #[.int .i64 c, .bool n, .int .u64 a, .int .u64 b, .int .i64 q]] w fun r w' => r = .returned (.agg #[.int .i64 c, .bool n, .int .u64 a, .int .u64 b, .int .i64 q]) ∧ Below w.heap.size w w' := by
  go_enter Tryd.func18, Tryd.ntmps18
  go_wp2_with fail
  refine (toWordP_any a b _).mono ?_
  rintro e v1 ⟨rfl, hb⟩
  have b0 := (((Below.refl w.heap.size w).alloc (Nat.le_refl _) (.cells #[.int .i64 c, .bool n, .int .u64 a, .int .u64 b, .int .i64 q] 40)).alloc (by simp) (.cells #[.int .i64 0, .bool false, .int .u64 0, .int .u64 0, .int .i64 0] 32)).alloc (by simp; omega) (.cells #[.int .i64 c, .bool n, .int .u64 0, .int .u64 0, .int .i64 0] 32)
  have x4 : v1.cell? ⟨w.heap.size, 4, none⟩ = some (.int .i64 q) := (hb.cell (by simp; omega)).trans (by simp [go_sem])
  have o0 : v1.cell? ⟨w.heap.size + 1 + 1, 0, none⟩ = some (.int .i64 c) := (hb.cell (by simp)).trans (by simp [go_sem])
  have o1 : v1.cell? ⟨w.heap.size + 1 + 1, 1, none⟩ = some (.bool n) := (hb.cell (by simp)).trans (by simp [go_sem])
  have o2 : v1.cell? ⟨w.heap.size + 1 + 1, 2, none⟩ = some (.int .u64 0) := (hb.cell (by simp)).trans (by simp [go_sem])
  have o3 : v1.cell? ⟨w.heap.size + 1 + 1, 3, none⟩ = some (.int .u64 0) := (hb.cell (by simp)).trans (by simp [go_sem])
  have o4 : v1.cell? ⟨w.heap.size + 1 + 1, 4, none⟩ = some (.int .i64 0) := (hb.cell (by simp)).trans (by simp [go_sem])
  have f2 : v1.frozen? ⟨w.heap.size + 1 + 1, 2, none⟩ = false := (hb.frozen (by simp)).trans (by simp [go_sem])
  have f3 : v1.frozen? ⟨w.heap.size + 1 + 1, 3, none⟩ = false := (hb.frozen (by simp)).trans (by simp [go_sem])
  have f4 : v1.frozen? ⟨w.heap.size + 1 + 1, 4, none⟩ = false := (hb.frozen (by simp)).trans (by simp [go_sem])
  have r0 : v1.cell? ⟨w.heap.size + 1, 0, none⟩ = some (.int .i64 0) := (hb.cell (by simp)).trans (by simp [go_sem])
  have z0 : v1.frozen? ⟨w.heap.size + 1, 0, none⟩ = false := (hb.frozen (by simp)).trans (by simp [go_sem])
  have r1 : v1.cell? ⟨w.heap.size + 1, 1, none⟩ = some (.bool false) := (hb.cell (by simp)).trans (by simp [go_sem])
  have z1 : v1.frozen? ⟨w.heap.size + 1, 1, none⟩ = false := (hb.frozen (by simp)).trans (by simp [go_sem])
  have r2 : v1.cell? ⟨w.heap.size + 1, 2, none⟩ = some (.int .u64 0) := (hb.cell (by simp)).trans (by simp [go_sem])
  have z2 : v1.frozen? ⟨w.heap.size + 1, 2, none⟩ = false := (hb.frozen (by simp)).trans (by simp [go_sem])
  have r3 : v1.cell? ⟨w.heap.size + 1, 3, none⟩ = some (.int .u64 0) := (hb.cell (by simp)).trans (by simp [go_sem])
  have z3 : v1.frozen? ⟨w.heap.size + 1, 3, none⟩ = false := (hb.frozen (by simp)).trans (by simp [go_sem])
  have r4 : v1.cell? ⟨w.heap.size + 1, 4, none⟩ = some (.int .i64 0) := (hb.cell (by simp)).trans (by simp [go_sem])
  have z4 : v1.frozen? ⟨w.heap.size + 1, 4, none⟩ = false := (hb.frozen (by simp)).trans (by simp [go_sem])
  replace b0 := b0.trans (hb.mono b0.size)
  clear hb
  go_wp2_with fail
  exact bodyPost_ret (v := .agg #[.int .i64 c, .bool n, .int .u64 a, .int .u64 b, .int .i64 q]) (by simp [results, Tryd.results18, go_sem, r0, r1, r2, r3, r4]) rfl ⟨rfl, below5 (((b0.setCell (p := ⟨w.heap.size + 1 + 1, 2, none⟩) (by simp only; omega) _).setCell (p := ⟨w.heap.size + 1 + 1, 3, none⟩) (by simp only; omega) _).setCell (p := ⟨w.heap.size + 1 + 1, 4, none⟩) (by simp only; omega) _) (by omega) _ _ _ _ _⟩

set_option maxRecDepth 10000 in
set_option maxHeartbeats 4000000 in
theorem lawPackKey (f c : Int) (n : Bool) (a b q x y : Int) (ok : Bool) (w : World) (h : Fmt w)
    (hT : ∀ v : World, Calls Tryd.prog 18 #[.agg #[.int .i64 c, .bool n, .int .u64 a, .int .u64 b, .int .i64 q]] v fun e w' => e = .returned (.agg #[.int .i64 c, .bool n, .int .u64 a, .int .u64 b, .int .i64 q]) ∧ Below v.heap.size v w')
    (hS : ∀ v : World, Calls Tryd.prog 17 #[.int .i64 f, .agg #[.int .i64 c, .bool n, .int .u64 a, .int .u64 b, .int .i64 q]] v fun e w' => e = .returned (.tuple #[.agg #[.int .u64 x, .int .u64 y], .bool ok]) ∧ Below v.heap.size v w')
    (hI : ∀ v : World, Fmt v → Calls Tryd.prog 19 #[.int .i64 f, .agg #[.int .i64 c, .bool n, .int .u64 a, .int .u64 b, .int .i64 q]] v fun e w' => e = .returned (.tuple #[.agg #[.int .u64 x, .int .u64 y], .bool ok]) ∧ Below v.heap.size v w') :
    Calls Tryd.prog 6 #[.int .i64 f, .agg #[.int .i64 c, .bool n, .int .u64 a, .int .u64 b, .int .i64 q]] w fun e w' => e = .returned (.bool true) ∧ Below w.heap.size w w' := by
  have b0 := (Below.refl w.heap.size w).alloc (Nat.le_refl _) (.cells #[.int .i64 c, .bool n, .int .u64 a, .int .u64 b, .int .i64 q] 40)
  go_enter Tryd.func6, Tryd.ntmps6
  go_wp2_with fail
  refine (hT _).mono ?_
  rintro e v1 ⟨rfl, hb⟩
  have x0 : v1.cell? ⟨w.heap.size, 0, none⟩ = some (.int .i64 c) := (hb.cell (by simp)).trans (by simp [go_sem])
  have x1 : v1.cell? ⟨w.heap.size, 1, none⟩ = some (.bool n) := (hb.cell (by simp)).trans (by simp [go_sem])
  have x2 : v1.cell? ⟨w.heap.size, 2, none⟩ = some (.int .u64 a) := (hb.cell (by simp)).trans (by simp [go_sem])
  have x3 : v1.cell? ⟨w.heap.size, 3, none⟩ = some (.int .u64 b) := (hb.cell (by simp)).trans (by simp [go_sem])
  have x4 : v1.cell? ⟨w.heap.size, 4, none⟩ = some (.int .i64 q) := (hb.cell (by simp)).trans (by simp [go_sem])
  have l0 : w.heap.size < v1.heap.size := by have := hb.size; simp at this; omega
  replace b0 := b0.trans (hb.mono b0.size)
  clear hb
  go_wp2_with fail
  refine (hS _).mono ?_
  rintro e v2 ⟨rfl, hb⟩
  replace x0 := (hb.cell (p := ⟨w.heap.size, 0, none⟩) l0).trans x0
  replace x1 := (hb.cell (p := ⟨w.heap.size, 1, none⟩) l0).trans x1
  replace x2 := (hb.cell (p := ⟨w.heap.size, 2, none⟩) l0).trans x2
  replace x3 := (hb.cell (p := ⟨w.heap.size, 3, none⟩) l0).trans x3
  replace x4 := (hb.cell (p := ⟨w.heap.size, 4, none⟩) l0).trans x4
  replace l0 := Nat.lt_of_lt_of_le l0 hb.size
  replace b0 := b0.trans (hb.mono b0.size)
  clear hb hS
  go_wp2_with fail
  refine (hT _).mono ?_
  rintro e v3 ⟨rfl, hb⟩
  have w0 : v3.cell? ⟨v2.heap.size, 0, none⟩ = some (.int .u64 x) := (hb.cell (by simp)).trans (by simp [go_sem])
  have w1 : v3.cell? ⟨v2.heap.size, 1, none⟩ = some (.int .u64 y) := (hb.cell (by simp)).trans (by simp [go_sem])
  have l1 : v2.heap.size < v3.heap.size := by have := hb.size; simp at this; omega
  replace b0 := (b0.alloc b0.size (.cells #[.int .u64 x, .int .u64 y] 30)).trans (hb.mono (Nat.le_trans b0.size (by simp)))
  clear hb x0 x1 x2 x3 x4 l0
  generalize v2.heap.size = g at *
  go_wp2_with fail
  refine (hI _ (h.below b0)).mono ?_
  rintro e v4 ⟨rfl, hb⟩
  replace w0 := (hb.cell (p := ⟨g, 0, none⟩) l1).trans w0
  replace w1 := (hb.cell (p := ⟨g, 1, none⟩) l1).trans w1
  replace l1 := Nat.lt_of_lt_of_le l1 hb.size
  replace b0 := b0.trans (hb.mono b0.size)
  clear hb hI hT
  have hne : (ok != ok) = false := by simp
  go_wp2_with fail
  refine (eqWordP_same x y _).mono ?_
  rintro e v5 ⟨rfl, hb⟩
  replace b0 := (b0.alloc b0.size (.cells #[.int .u64 x, .int .u64 y] 30)).trans (hb.mono (Nat.le_trans b0.size (by simp)))
  clear hb
  go_wp2_with fail
  go_ret
  exact ⟨rfl, b0⟩

end Go.Proofs.YtcilemkeljcidaaDoor
