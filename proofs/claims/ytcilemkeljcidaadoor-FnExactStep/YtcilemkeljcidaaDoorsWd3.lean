import Derived.Test.YtcilemkeljcidaaDoorsFd1
import Derived.Test.YtcilemkeljcidaaDoorsWd2
set_option maxHeartbeats 400000
namespace Go.Proofs.YtcilemkeljcidaaDoor
open Go.RowKit
set_option linter.unusedVariables false
set_option maxRecDepth 100000
theorem dFrac (F : M.Fm) (h : F.Ok) (w : World) : Calls Tryd.prog 53 #[dv F] w fun e w' => e = .returned (.int .i64 (F.fb : Int)) ∧ Below w.heap.size w w' := by
 have h1 := h.w
 have h2 : (F.wd : Int) - (F.e : Int) - 1 = (F.fb : Int) := by unfold M.Fm.wd; omega
 unfold dv
 have h3 := h.e2
 generalize F.wd = wd at *
 generalize F.fb = fb at *
 go_enter Tryd.func53, Tryd.ntmps53
 go_wp2_with fail
 go_ret
 exact ⟨rfl, (Below.refl _ _).alloc (Nat.le_refl _) _⟩

theorem dTop (F : M.Fm) (h : F.Ok) (w : World) : Calls Tryd.prog 55 #[dv F] w fun e w' => e = .returned (.int .i64 (F.top : Int)) ∧ Below w.heap.size w w' := by
 have h2 := h.top2
 have h3 := h.e2
 have e1 : (2 : Int) ^ F.e = ((F.top + 1 : Nat) : Int) := by rw [← h2.2.1]; simp
 have e2 : IntKind.i64.wrap ((2 : Int) ^ F.e) = (F.top : Int) + 1 := by rw [e1]; simp only [IntKind.wrap_i64]; omega
 have hb : F.top ≤ 40000 := by omega
 have HE := hid e1
 unfold dv
 clear h2 e1
 generalize F.top = tp at *
 go_enter Tryd.func55, Tryd.ntmps55
 go_wp2_with fail
 go_ret
 exact ⟨rfl, (Below.refl _ _).alloc (Nat.le_refl _) _⟩

theorem dQmin (F : M.Fm) (h : F.Ok) (w : World) : Calls Tryd.prog 57 #[dv F] w fun e w' => e = .returned (.int .i64 F.qmin) ∧ Below w.heap.size w w' := by
 have h2 := h.top2
 have h3 := h.p2
 have e1 : 1 - (F.emax : Int) - (F.p : Int) + 1 = F.qmin := by unfold M.Fm.qmin; omega
 have hb : F.emax ≤ 16383 := by omega
 unfold dv
 clear h2
 generalize F.emax = m at *
 generalize F.qmin = q at *
 go_enter Tryd.func57, Tryd.ntmps57
 go_wp2_with fail
 go_ret
 exact ⟨rfl, (Below.refl _ _).alloc (Nat.le_refl _) _⟩

theorem dLead (F : M.Fm) (h : F.Ok) (w : World) : Calls Tryd.prog 56 #[dv F] w fun e w' => e = .returned (.agg #[.int .u64 (M.hiN F.lead : Int), .int .u64 (M.loN F.lead : Int)]) ∧ Below w.heap.size w w' := by
 have h2 := h.p1
 have h3 := h.p2
 obtain ⟨q, hq⟩ : ∃ q : Nat, F.p = q + 1 := ⟨F.p - 1, by omega⟩
 have k := fun v : World => wbitAt q v (by omega) F.lead (by unfold M.Fm.lead; rw [hq]; rfl)
 have e1 : (F.p : Int) - 1 = (q : Int) := by omega
 have hb : F.p ≤ 113 := h3
 unfold dv
 clear hq h2 h3
 generalize F.lead = Y at *
 go_enter Tryd.func56, Tryd.ntmps56
 go_wp2_with fail
 refine (k _).mono ?_
 rintro e v1 ⟨rfl, b1⟩
 clear k
 obtain ⟨hc, hf⟩ := bcell b1
 go_wp2_with fail
 exact bodyPost_ret (v := .agg #[.int .u64 (M.hiN Y : Int), .int .u64 (M.loN Y : Int)]) (by simp [results, Tryd.results56, go_sem, hc]) rfl ⟨rfl, ((((((Below.refl _ _).alloc (Nat.le_refl _) _).alloc (by simp) _).trans (b1.mono (by simp; omega))).setCell (by simp) _).setCell (by simp) _)⟩

theorem dKnown (F : M.Fm) (h : F.Ok) (w : World) : Calls Tryd.prog 30 #[dv F] w fun e w' => e = .returned (.bool true) ∧ Below w.heap.size w w' := by
 have h2 := h.p1
 have e1 : ((F.p : Int) == 0) = false := by simp; omega
 have e2 : ¬ F.p = 0 := by omega
 unfold dv
 go_enter Tryd.func30, Tryd.ntmps30
 go_wp2_with fail
 go_ret
 exact ⟨rfl, (Below.refl _ _).alloc (Nat.le_refl _) _⟩

theorem dKnown0 (w : World) : Calls Tryd.prog 30 #[.agg #[.int .i64 0, .int .i64 0, .int .i64 0, .int .i64 0, .int .i64 0, .bool false]] w fun e w' => e = .returned (.bool false) ∧ Below w.heap.size w w' := by
 go_enter Tryd.func30, Tryd.ntmps30
 go_wp2_with fail
 go_ret
 exact ⟨rfl, (Below.refl _ _).alloc (Nat.le_refl _) _⟩

theorem or2 (g : Nat) (a b : Int) (w : World) (h0 : w.cell? ⟨g, 0, none⟩ = some (.int .i64 a)) (h1 : w.cell? ⟨g, 1, none⟩ = some (.int .i64 b)) :
 Calls Tryd.prog 58 #[.slice (some ⟨g, 0, none⟩) 2 2] w fun e w' => e = .returned (.int .i64 (if a = 0 then b else a)) ∧ w' = w := by
 go_enter Tryd.func58, Tryd.ntmps58
 go_wp2_with fail
 go_loop [8] (fun i => i = .int .i64 0 ∨ (i = .int .i64 1 ∧ a = 0) ∨ (i = .int .i64 2 ∧ a = 0 ∧ b = 0)) (fun i => 2 - (intOf i).toNat)
 case atStart => exact .inl rfl
 case round =>
  rcases hrel with rfl | ⟨rfl, ha⟩ | ⟨rfl, ha, hb⟩
  · by_cases ha : a = 0
    · subst ha
      go_wp2_with fail
      go_round
      case rel => exact .inr (.inl ⟨rfl, by simp⟩)
      case measure => simp [intOf]
    · have hne : (a != 0) = true := by simp [ha]
      go_wp2_with fail
      go_ret
      exact ⟨by simp, rfl⟩
  · subst ha
    by_cases hb : b = 0
    · subst hb
      go_wp2_with fail
      go_round
      case rel => exact .inr (.inr ⟨rfl, by simp, by simp⟩)
      case measure => simp [intOf]
    · have hne : (b != 0) = true := by simp [hb]
      go_wp2_with fail
      go_ret
      exact ⟨by simp, rfl⟩
  · subst ha
    subst hb
    go_wp2_with fail
    go_ret
    exact ⟨by simp, rfl⟩

end Go.Proofs.YtcilemkeljcidaaDoor
