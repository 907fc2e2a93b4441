import Derived.Test.YtcilemkeljcidaaDoorsBcl
import Derived.Test.YtcilemkeljcidaaDoorsWd1
set_option maxHeartbeats 400000
namespace Go.Proofs.YtcilemkeljcidaaDoor
open Go.RowKit
set_option linter.unusedVariables false
set_option maxRecDepth 100000
theorem wplus (X Y : Nat) (w : World) (hX : X < 2 ^ 128) (hY : Y < 2 ^ 128) (Z : Nat) (hZ : Z = (X + Y) % 2 ^ 128) :
 Calls Tryd.prog 47 #[.agg #[.int .u64 (M.hiN X : Int), .int .u64 (M.loN X : Int)], .agg #[.int .u64 (M.hiN Y : Int), .int .u64 (M.loN Y : Int)]] w fun e w' => e = .returned (.agg #[.int .u64 (M.hiN Z : Int), .int .u64 (M.loN Z : Int)]) ∧ Below w.heap.size w w' := by
 obtain ⟨e1, e2⟩ := M.plus_hl X Y hX hY
 rw [← hZ] at e1 e2
 have a1 := M.loLt X
 have b1 := M.loLt Y
 have a2 := M.hiLt hX
 have b2 := M.hiLt hY
 generalize M.hiN X = xh at *
 generalize M.loN X = xl at *
 generalize M.hiN Y = yh at *
 generalize M.loN Y = yl at *
 generalize M.hiN Z = zh at *
 generalize M.loN Z = zl at *
 rw [← e1] at e2
 have w1 := wrapU2 xl yl zl e1
 have w2 := wrapU2 xh yh ((xh + yh) % 18446744073709551616) rfl
 obtain ⟨s, hs⟩ : ∃ s : Nat, s = (xh + yh) % 18446744073709551616 := ⟨_, rfl⟩
 rw [← hs] at w2
 obtain ⟨c, hc⟩ : ∃ c : Nat, c = if (zl : Int) < (yl : Int) then 1 else 0 := ⟨_, rfl⟩
 have hc' : c = if zl < yl then 1 else 0 := by rw [hc]; congr 1; simp
 have w3 := wrapU2 s c zh (by rw [e2, ← hc', hs]; omega)
 have HC := hid hc
 clear hc hc' hs e1 e2 hZ hX hY
 go_enter Tryd.func47, Tryd.ntmps47
 go_wp2_with fail
 go_region_held3 (fun v => v.cell? ⟨w.heap.size, 0, none⟩ = some (.int .u64 (xh : Int)) ∧ v.cell? ⟨w.heap.size, 1, none⟩ = some (.int .u64 (xl : Int)) ∧ v.cell? ⟨w.heap.size + 1, 0, none⟩ = some (.int .u64 (yh : Int)) ∧ v.cell? ⟨w.heap.size + 1, 1, none⟩ = some (.int .u64 (yl : Int))) (go_keep) (first | (go_at_call 62; refine (less_any _ _ _ c HC.out).mono ?_; rintro e w' ⟨rfl, rfl⟩))
 go_wp2_with fail
 exact bodyPost_ret (v := .agg #[.int .u64 (zh : Int), .int .u64 (zl : Int)]) (by simp [results, Tryd.results47, go_sem]) rfl ⟨rfl, ((((Below.refl _ _).alloc (Nat.le_refl _) _).alloc (by simp) _).alloc (by simp; omega) _).drew⟩

theorem wminus (X Y : Nat) (w : World) (hX : X < 2 ^ 128) (hY : Y < 2 ^ 128) (Z : Nat) (hZ : Z = (X + (2 ^ 128 - Y)) % 2 ^ 128) :
 Calls Tryd.prog 46 #[.agg #[.int .u64 (M.hiN X : Int), .int .u64 (M.loN X : Int)], .agg #[.int .u64 (M.hiN Y : Int), .int .u64 (M.loN Y : Int)]] w fun e w' => e = .returned (.agg #[.int .u64 (M.hiN Z : Int), .int .u64 (M.loN Z : Int)]) ∧ Below w.heap.size w w' := by
 obtain ⟨e1, e2⟩ := M.minus_hl X Y hX hY
 rw [← hZ] at e1 e2
 have a1 := M.loLt X
 have b1 := M.loLt Y
 have a2 := M.hiLt hX
 have b2 := M.hiLt hY
 generalize M.hiN X = xh at *
 generalize M.loN X = xl at *
 generalize M.hiN Y = yh at *
 generalize M.loN Y = yl at *
 generalize M.hiN Z = zh at *
 generalize M.loN Z = zl at *
 have w1 := wrapSub xl yl zl e1 (by omega)
 obtain ⟨s, hs⟩ : ∃ s : Nat, s = (xh + 18446744073709551616 - yh) % 18446744073709551616 := ⟨_, rfl⟩
 have w2 := wrapSub xh yh s hs (by omega)
 obtain ⟨c, hc⟩ : ∃ c : Nat, c = if (xl : Int) < (yl : Int) then 1 else 0 := ⟨_, rfl⟩
 have hc' : c = if xl < yl then 1 else 0 := by rw [hc]; congr 1; simp
 have hc2 : c ≤ 1 := by rw [hc']; split <;> omega
 have w3 := wrapSub s c zh (by rw [e2, ← hc', hs]; omega) (by omega)
 have HC := hid hc
 clear hc hc' hs e1 e2 hZ hX hY
 go_enter Tryd.func46, Tryd.ntmps46
 go_wp2_with fail
 go_region_held3 (fun v => v.cell? ⟨w.heap.size, 0, none⟩ = some (.int .u64 (xh : Int)) ∧ v.cell? ⟨w.heap.size, 1, none⟩ = some (.int .u64 (xl : Int)) ∧ v.cell? ⟨w.heap.size + 1, 0, none⟩ = some (.int .u64 (yh : Int)) ∧ v.cell? ⟨w.heap.size + 1, 1, none⟩ = some (.int .u64 (yl : Int))) (go_keep) (first | (go_at_call 62; refine (less_any _ _ _ c HC.out).mono ?_; rintro e w' ⟨rfl, rfl⟩))
 go_wp2_with fail
 exact bodyPost_ret (v := .agg #[.int .u64 (zh : Int), .int .u64 (zl : Int)]) (by simp [results, Tryd.results46, go_sem]) rfl ⟨rfl, ((((Below.refl _ _).alloc (Nat.le_refl _) _).alloc (by simp) _).alloc (by simp; omega) _).drew⟩

theorem wbitAt (n : Nat) (w : World) (hn : n < 128) (Y : Nat) (hY : Y = 2 ^ n) :
 Calls Tryd.prog 61 #[.int .i64 (n : Int)] w fun e w' => e = .returned (.agg #[.int .u64 (M.hiN Y : Int), .int .u64 (M.loN Y : Int)]) ∧ Below w.heap.size w w' := by
 have h1 : Y = 1 * 2 ^ n % 2 ^ 128 := by rw [hY, Nat.one_mul, Nat.mod_eq_of_lt (Nat.pow_lt_pow_right (by omega) hn)]
 have HY := hid h1
 clear h1 hY
 have k := fun v : World => wshl 1 n v (by omega) hn Y HY.out
 rw [M.hi_small (show 1 < 18446744073709551616 by omega), M.lo_small (show 1 < 18446744073709551616 by omega)] at k
 go_enter Tryd.func61, Tryd.ntmps61
 go_wp2_with fail
 refine (k _).mono ?_
 rintro e v1 ⟨rfl, b1⟩
 clear k
 obtain ⟨hc, hf⟩ := bcell b1
 go_wp2_with fail
 exact bodyPost_ret (v := .agg #[.int .u64 (M.hiN Y : Int), .int .u64 (M.loN Y : Int)]) (by simp [results, Tryd.results61, go_sem, hc]) rfl ⟨rfl, (((((Below.refl _ _).alloc (Nat.le_refl _) _).trans (b1.mono (by simp))).setCell (Nat.le_refl _) _).setCell (Nat.le_refl _) _)⟩

end Go.Proofs.YtcilemkeljcidaaDoor
