import Derived.Test.YtcilemkeljcidaaDoorIU
import Derived.Test.YtcilemkeljcidaaDoorSp2
import Derived.OpenShut
namespace Go.Proofs.YtcilemkeljcidaaDoor
open Go.RowKit
set_option linter.unusedVariables false
set_option maxRecDepth 100000

set_option maxRecDepth 10000 in
set_option maxHeartbeats 1000000 in
theorem lawUnpackKey (f a b : Int) (w : World) (h : Fmt w) (c : Int) (n : Bool) (s t q : Int)
    (hS : ∀ v : World, Calls Tryd.prog 11 #[.int .i64 f, .agg #[.int .u64 a, .int .u64 b]] v fun e w' => e = .returned (.agg #[.int .i64 c, .bool n, .int .u64 s, .int .u64 t, .int .i64 q]) ∧ Below v.heap.size v w')
    (hI : ∀ v : World, Fmt v → Calls Tryd.prog 13 #[.int .i64 f, .agg #[.int .u64 a, .int .u64 b]] v fun e w' => e = .returned (.agg #[.int .i64 c, .bool n, .int .u64 s, .int .u64 t, .int .i64 q]) ∧ Below v.heap.size v w') :
    Calls Tryd.prog 4 #[.int .i64 f, .agg #[.int .u64 a, .int .u64 b]] w fun e w' => e = .returned (.bool true) ∧ Below w.heap.size w w' := by
  have b0 := (Below.refl w.heap.size w).alloc (Nat.le_refl _) (.cells #[.int .u64 a, .int .u64 b] 29)
  go_enter Tryd.func4, Tryd.ntmps4
  go_wp2_with fail
  refine (toWord_any a b _).mono ?_
  rintro e v1 ⟨rfl, hb1⟩
  have x0 : v1.cell? ⟨w.heap.size, 0, none⟩ = some (.int .u64 a) := (hb1.cell (by simp <;> omega)).trans (by simp [go_sem])
  have x1 : v1.cell? ⟨w.heap.size, 1, none⟩ = some (.int .u64 b) := (hb1.cell (by simp <;> omega)).trans (by simp [go_sem])
  have n1 : w.heap.size + 1 ≤ v1.heap.size := by have := hb1.size; simp at this; omega
  replace b0 := b0.trans (hb1.mono b0.size)
  clear hb1
  go_wp2_with fail
  refine (hS _).mono ?_
  rintro e v2 ⟨rfl, hb2⟩
  clear hS
  go_upto_region 2 with fail
  have hb3 : Below v1.heap.size v1 (v2.alloc (.cells #[.int .i64 c, .bool n, .int .u64 s, .int .u64 t, .int .i64 q] 32)) := hb2.alloc hb2.size _
  have q0 : (v2.alloc (.cells #[.int .i64 c, .bool n, .int .u64 s, .int .u64 t, .int .i64 q] 32)).cell? ⟨v2.heap.size, 0, none⟩ = some (.int .i64 c) := by simp [go_sem]
  have q1 : (v2.alloc (.cells #[.int .i64 c, .bool n, .int .u64 s, .int .u64 t, .int .i64 q] 32)).cell? ⟨v2.heap.size, 1, none⟩ = some (.bool n) := by simp [go_sem]
  have q2 : (v2.alloc (.cells #[.int .i64 c, .bool n, .int .u64 s, .int .u64 t, .int .i64 q] 32)).cell? ⟨v2.heap.size, 2, none⟩ = some (.int .u64 s) := by simp [go_sem]
  have q3 : (v2.alloc (.cells #[.int .i64 c, .bool n, .int .u64 s, .int .u64 t, .int .i64 q] 32)).cell? ⟨v2.heap.size, 3, none⟩ = some (.int .u64 t) := by simp [go_sem]
  have q4 : (v2.alloc (.cells #[.int .i64 c, .bool n, .int .u64 s, .int .u64 t, .int .i64 q] 32)).cell? ⟨v2.heap.size, 4, none⟩ = some (.int .i64 q) := by simp [go_sem]
  have lg : v2.heap.size < (v2.alloc (.cells #[.int .i64 c, .bool n, .int .u64 s, .int .u64 t, .int .i64 q] 32)).heap.size := by simp
  replace x0 := (hb3.cell (p := ⟨w.heap.size, 0, none⟩) (by simp only; omega)).trans x0
  replace x1 := (hb3.cell (p := ⟨w.heap.size, 1, none⟩) (by simp only; omega)).trans x1
  replace b0 := b0.trans (hb3.mono b0.size)
  replace n1 := Nat.le_trans n1 hb3.size
  clear hb2 hb3
  generalize v2.alloc (.cells #[.int .i64 c, .bool n, .int .u64 s, .int .u64 t, .int .i64 q] 32) = v3 at *
  generalize v2.heap.size = g at *
  go_wp2_with fail
  refine (toWord_any a b _).mono ?_
  rintro e v4 ⟨rfl, hb4⟩
  replace b0 := b0.trans (hb4.mono b0.size)
  go_wp2_with fail
  refine (hI _ (h.below b0)).mono ?_
  rintro e v5 ⟨rfl, hb5⟩
  clear hI
  have hb6 := hb4.trans (hb5.mono hb4.size)
  replace q0 := (hb6.cell (p := ⟨g, 0, none⟩) lg).trans q0
  replace q1 := (hb6.cell (p := ⟨g, 1, none⟩) lg).trans q1
  replace q2 := (hb6.cell (p := ⟨g, 2, none⟩) lg).trans q2
  replace q3 := (hb6.cell (p := ⟨g, 3, none⟩) lg).trans q3
  replace q4 := (hb6.cell (p := ⟨g, 4, none⟩) lg).trans q4
  replace lg := Nat.lt_of_lt_of_le lg hb6.size
  replace b0 := b0.trans (hb5.mono b0.size)
  clear hb4 hb5 hb6 x0 x1 n1
  have b1 := b0.alloc b0.size (.cells #[.int .i64 c, .bool n, .int .u64 s, .int .u64 t, .int .i64 q] 32)
  go_wp2_with fail
  refine (eqParts_same c n s t q _).mono ?_
  rintro e v6 ⟨rfl, hb7⟩
  go_wp2_with fail
  go_ret
  exact ⟨rfl, b1.trans (hb7.mono b1.size)⟩

theorem lawUnpack (f a b : Int) (w : World) (wf0 : (Lit.int .i64 f).wf = true) (wa : (Lit.int .u64 a).wf = true) (wb : (Lit.int .u64 b).wf = true) (h : Fmt w) :
    Calls Tryd.prog 4 #[.int .i64 f, .agg #[.int .u64 a, .int .u64 b]] w fun e w' => e = .returned (.bool true) ∧ Below w.heap.size w w' := by
  have ha := bounds_u64 wa
  have hb := bounds_u64 wb
  by_cases hf : 0 ≤ f ∧ f < 4
  · obtain ⟨k, rfl⟩ : ∃ k : Nat, f = (k : Int) := ⟨f.toNat, by omega⟩
    obtain ⟨x, rfl⟩ : ∃ x : Nat, a = (x : Int) := ⟨a.toNat, by omega⟩
    obtain ⟨y, rfl⟩ : ∃ y : Nat, b = (y : Int) := ⟨b.toNat, by omega⟩
    have e1 : x = M.hiN (x * 18446744073709551616 + y) := (M.hiOf x y (by omega)).symm
    have e2 : y = M.loN (x * 18446744073709551616 + y) := (M.loOf x y (by omega)).symm
    have hX : x * 18446744073709551616 + y < 2 ^ 128 := by omega
    generalize x * 18446744073709551616 + y = X at *
    subst e1
    subst e2
    exact lawUnpackKey _ _ _ w h _ _ _ _ _ (fun v => sunpack_any k (by omega) X hX v) (fun v hv => iunpack_any k (by omega) X hX v hv)
  · have hn : f < 0 ∨ 4 ≤ f := by omega
    exact lawUnpackKey _ _ _ w h _ _ _ _ _ (fun v => sunpack_no f hn a b v) (fun v _ => iunpack_no f hn a b v)

end Go.Proofs.YtcilemkeljcidaaDoor
