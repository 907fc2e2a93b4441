import Derived.Test.YtcilemkeljcidaaDoorsW1
import Derived.Test.YtcilemkeljcidaaDoorsOrM
import Derived.Test.YtcilemkeljcidaaDoorsWd3
set_option maxHeartbeats 400000
namespace Go.Proofs.YtcilemkeljcidaaDoor
open Go.RowKit
set_option linter.unusedVariables false
set_option maxRecDepth 100000
theorem cmp_hl (X Y : Nat) : (if cmpI (M.hiN X : Int) (M.hiN Y : Int) = 0 then cmpI (M.loN X : Int) (M.loN Y : Int) else cmpI (M.hiN X : Int) (M.hiN Y : Int)) = M.cmpN X Y := by
 have a := M.hl X
 have b := M.hl Y
 have a1 := M.loLt X
 have b1 := M.loLt Y
 generalize M.hiN X = xh at *
 generalize M.loN X = xl at *
 generalize M.hiN Y = yh at *
 generalize M.loN Y = yl at *
 unfold cmpI M.cmpN
 rcases Nat.lt_trichotomy xh yh with h | h | h
 · have c1 : (xh : Int) < (yh : Int) := by omega
   have c2 : X < Y := by omega
   simp [c1, c2]
 · subst h
   simp
   rcases Nat.lt_trichotomy xl yl with h | h | h
   · have c2 : X < Y := by omega
     simp [h, c2]
   · subst h
     have : X = Y := by omega
     simp [this]
   · have c2 : Y < X := by omega
     have c3 : ¬ X < Y := by omega
     have c4 : ¬ xl < yl := by omega
     simp [h, c2, c3, c4]
 · have c1 : (yh : Int) < (xh : Int) := by omega
   have c2 : Y < X := by omega
   have c3 : ¬ X < Y := by omega
   have c4 : ¬ (xh : Int) < (yh : Int) := by omega
   simp [c1, c2, c3, c4]

theorem or2r (g : Nat) (a b : Int) (w : World) (r : Int) (hr : Hid (r = if a = 0 then b else a)) (h0 : w.cell? ⟨g, 0, none⟩ = some (.int .i64 a)) (h1 : w.cell? ⟨g, 1, none⟩ = some (.int .i64 b)) :
 Calls Tryd.prog 58 #[.slice (some ⟨g, 0, none⟩) 2 2] w fun e w' => e = .returned (.int .i64 r) ∧ w' = w := by
 rw [hr.out]; exact or2 g a b w h0 h1

theorem wcmp (X Y : Nat) (w : World) (r : Int) (hr : r = M.cmpN X Y) :
 Calls Tryd.prog 37 #[.agg #[.int .u64 (M.hiN X : Int), .int .u64 (M.loN X : Int)], .agg #[.int .u64 (M.hiN Y : Int), .int .u64 (M.loN Y : Int)]] w fun e w' => e = .returned (.int .i64 r) ∧ Below w.heap.size w w' := by
 rw [← cmp_hl] at hr
 have HR := hid hr
 clear hr
 generalize M.hiN X = xh at *
 generalize M.loN X = xl at *
 generalize M.hiN Y = yh at *
 generalize M.loN Y = yl at *
 go_enter Tryd.func37, Tryd.ntmps37
 go_wp2_with fail
 go_region_held3 (fun v => v.cell? ⟨w.heap.size, 0, none⟩ = some (.int .u64 (xh : Int)) ∧ v.cell? ⟨w.heap.size, 1, none⟩ = some (.int .u64 (xl : Int)) ∧ v.cell? ⟨w.heap.size + 1, 0, none⟩ = some (.int .u64 (yh : Int)) ∧ v.cell? ⟨w.heap.size + 1, 1, none⟩ = some (.int .u64 (yl : Int))) (go_keep)
  (first | (go_at_call 59; refine (cmpU_any _ _ _).mono ?_; rintro e w' ⟨rfl, rfl⟩) | (go_at_call 58; refine (or2r _ (cmpI (xh : Int) (yh : Int)) (cmpI (xl : Int) (yl : Int)) _ r HR (by simp [go_sem]) (by simp [go_sem])).mono ?_; rintro e w' ⟨rfl, rfl⟩))
 all_goals go_wp2_with fail
 all_goals go_ret
 all_goals exact ⟨rfl, ((((Below.refl _ _).alloc (Nat.le_refl _) _).alloc (by simp) _).alloc (by simp; omega) _).drew⟩

end Go.Proofs.YtcilemkeljcidaaDoor
