import Derived.Test.YtcilemkeljcidaaDoorsWd3
import Derived.Test.YtcilemkeljcidaaDoorsUnA
set_option maxHeartbeats 2000000
set_option maxRecDepth 10000
namespace Go.Proofs.YtcilemkeljcidaaDoor
open Go.RowKit
set_option linter.unusedVariables false
set_option maxRecDepth 100000
theorem pValued (c : Int) (n : Bool) (a b q : Int) (w : World) (r : Bool) (hr : r = decide (c ≠ 0 ∧ c ≠ 5)) :
 Calls Tryd.prog 34 #[.agg #[.int .i64 c, .bool n, .int .u64 a, .int .u64 b, .int .i64 q]] w fun e w' => e = .returned (.bool r) ∧ Below w.heap.size w w' := by
 by_cases h0 : c = 0
 · have hr' : r = false := by rw [hr]; simp [h0]
   subst h0
   subst hr'
   clear hr
   go_enter Tryd.func34, Tryd.ntmps34
   go_wp2_with fail
   go_ret
   exact ⟨rfl, (Below.refl _ _).alloc (Nat.le_refl _) _⟩
 · have hn0 : (c != 0) = true := by simp [h0]
   by_cases h5 : c = 5
   · have hr' : r = false := by rw [hr]; simp [h5]
     subst h5
     subst hr'
     clear hr
     go_enter Tryd.func34, Tryd.ntmps34
     go_wp2_with fail
     go_ret
     exact ⟨rfl, (Below.refl _ _).alloc (Nat.le_refl _) _⟩
   · have hn5 : (c != 5) = true := by simp [h5]
     have hr' : r = true := by rw [hr]; simp [h0, h5]
     subst hr'
     clear hr
     go_enter Tryd.func34, Tryd.ntmps34
     go_wp2_with fail
     go_ret
     exact ⟨rfl, (Below.refl _ _).alloc (Nat.le_refl _) _⟩

theorem M.Fm.Ok.leadPow {F : M.Fm} (h : F.Ok) : F.lead * 2 ^ F.e ≤ 2 ^ 127 := by
 have h1 := h.p1
 have h2 := h.w
 unfold M.Fm.lead
 rw [← Nat.pow_add]
 apply Nat.pow_le_pow_right (by omega)
 unfold M.Fm.wd M.Fm.fb at h2
 split at h2 <;> omega

theorem drank1 (F : M.Fm) (h : F.Ok) (c : Int) (n : Bool) (s : Nat) (q : Int) (w : World) (hc : c = 1) :
 Calls Tryd.prog 36 #[dv F, .agg #[.int .i64 c, .bool n, .int .u64 (M.hiN s : Int), .int .u64 (M.loN s : Int), .int .i64 q]] w fun e w' => e = .returned (.agg #[.int .u64 (M.hiN (0) : Int), .int .u64 (M.loN (0) : Int)]) ∧ Below w.heap.size w w' := by
 subst hc
 simp only [dv] at *
 go_enter Tryd.func36, Tryd.ntmps36
 go_wp2_with fail
 exact bodyPost_ret (v := .agg #[.int .u64 0, .int .u64 0]) (by simp [results, Tryd.results36, go_sem]) rfl ⟨by rw [hi0, lo0]; rfl, (((Below.refl _ _).alloc (Nat.le_refl _) _).alloc (by simp) _).alloc (by simp; omega) _⟩

theorem drank4 (F : M.Fm) (h : F.Ok) (c : Int) (n : Bool) (s : Nat) (q : Int) (w : World) (hc : c = 4) :
 Calls Tryd.prog 36 #[dv F, .agg #[.int .i64 c, .bool n, .int .u64 (M.hiN s : Int), .int .u64 (M.loN s : Int), .int .i64 q]] w fun e w' => e = .returned (.agg #[.int .u64 (M.hiN (F.top * F.lead) : Int), .int .u64 (M.loN (F.top * F.lead) : Int)]) ∧ Below w.heap.size w w' := by
 subst hc
 have ht := h.top2
 have hp1 := h.p1
 have hp2 := h.p2
 obtain ⟨pm, hpm⟩ : ∃ pm, F.p = pm + 1 := ⟨F.p - 1, by omega⟩
 have hle : F.lead = 2 ^ pm := by unfold M.Fm.lead; rw [hpm]; rfl
 obtain ⟨Y, hY⟩ : ∃ Y, Y = F.top * F.lead := ⟨_, rfl⟩
 rw [← hY]
 have hm := M.Fm.Ok.leadPow h
 have hYl : Y < 2 ^ 128 := by
  rw [hY, Nat.mul_comm]
  have : F.lead * F.top ≤ F.lead * 2 ^ F.e := Nat.mul_le_mul_left _ (by omega)
  omega
 have kT := fun v : World => dTop F h v
 have kS := fun v : World => wshl F.top pm v (by omega) (by omega) Y (by rw [hY, hle] at *; rw [Nat.mod_eq_of_lt hYl])
 rw [M.hi_small (show F.top < 18446744073709551616 by omega), M.lo_small (show F.top < 18446744073709551616 by omega)] at kS
 have hcv : IntKind.u64.wrap (F.top : Int) = (F.top : Int) := by rw [wrapU, Nat.mod_eq_of_lt (by omega)]
 have e1 : (F.p : Int) - 1 = (pm : Int) := by omega
 have hwp : IntKind.i64.wrap (pm : Int) = (pm : Int) := by simp only [IntKind.wrap_i64]; omega
 have htb : F.top ≤ 40000 := by omega
 clear hpm hle hY hm hYl ht
 simp only [dv] at *
 go_enter Tryd.func36, Tryd.ntmps36
 go_upto_region 5 with fail
 have b1 : Below w.heap.size w (((w.alloc (.cells #[.int .i64 (F.p : Int), .int .i64 (1 - (F.emax : Int)), .int .i64 (F.emax : Int), .int .i64 (F.wd : Int), .int .i64 (F.e : Int), .bool F.x] 23)).alloc (.cells #[.int .i64 4, .bool n, .int .u64 (M.hiN s : Int), .int .u64 (M.loN s : Int), .int .i64 q] 32)).alloc (.cells #[.int .u64 0, .int .u64 0] 30)) :=
  (((Below.refl _ _).alloc (Nat.le_refl _) _).alloc (by simp) _).alloc (by simp; omega) _
 generalize hw1 : ((w.alloc (.cells #[.int .i64 (F.p : Int), .int .i64 (1 - (F.emax : Int)), .int .i64 (F.emax : Int), .int .i64 (F.wd : Int), .int .i64 (F.e : Int), .bool F.x] 23)).alloc (.cells #[.int .i64 4, .bool n, .int .u64 (M.hiN s : Int), .int .u64 (M.loN s : Int), .int .i64 q] 32)).alloc (.cells #[.int .u64 0, .int .u64 0] 30) = w1 at b1 ⊢
 have c0 : w1.cell? ⟨w.heap.size, 0, none⟩ = some (.int .i64 (F.p : Int)) := by rw [← hw1]; simp [go_sem]
 have c1 : w1.cell? ⟨w.heap.size, 1, none⟩ = some (.int .i64 (1 - (F.emax : Int))) := by rw [← hw1]; simp [go_sem]
 have c2 : w1.cell? ⟨w.heap.size, 2, none⟩ = some (.int .i64 (F.emax : Int)) := by rw [← hw1]; simp [go_sem]
 have c3 : w1.cell? ⟨w.heap.size, 3, none⟩ = some (.int .i64 (F.wd : Int)) := by rw [← hw1]; simp [go_sem]
 have c4 : w1.cell? ⟨w.heap.size, 4, none⟩ = some (.int .i64 (F.e : Int)) := by rw [← hw1]; simp [go_sem]
 have c5 : w1.cell? ⟨w.heap.size, 5, none⟩ = some (.bool F.x) := by rw [← hw1]; simp [go_sem]
 have p0 : w1.cell? ⟨w.heap.size + 1, 0, none⟩ = some (.int .i64 4) := by rw [← hw1]; simp [go_sem]
 have p1 : w1.cell? ⟨w.heap.size + 1, 1, none⟩ = some (.bool n) := by rw [← hw1]; simp [go_sem]
 have p2 : w1.cell? ⟨w.heap.size + 1, 2, none⟩ = some (.int .u64 (M.hiN s : Int)) := by rw [← hw1]; simp [go_sem]
 have p3 : w1.cell? ⟨w.heap.size + 1, 3, none⟩ = some (.int .u64 (M.loN s : Int)) := by rw [← hw1]; simp [go_sem]
 have p4 : w1.cell? ⟨w.heap.size + 1, 4, none⟩ = some (.int .i64 q) := by rw [← hw1]; simp [go_sem]
 have r0 : w1.cell? ⟨w.heap.size + 1 + 1, 0, none⟩ = some (.int .u64 0) := by rw [← hw1]; simp [go_sem]
 have r1 : w1.cell? ⟨w.heap.size + 1 + 1, 1, none⟩ = some (.int .u64 0) := by rw [← hw1]; simp [go_sem]
 have z0 : w1.frozen? ⟨w.heap.size + 1 + 1, 0, none⟩ = false := by rw [← hw1]; simp [go_sem]
 have z1 : w1.frozen? ⟨w.heap.size + 1 + 1, 1, none⟩ = false := by rw [← hw1]; simp [go_sem]
 have n1 : w.heap.size + 3 ≤ w1.heap.size := by rw [← hw1]; simp
 clear hw1
 have D1 : ∀ v, Below w1.heap.size w1 v → (fun v => v.cell? ⟨w.heap.size, 0, none⟩ = some (.int .i64 (F.p : Int)) ∧ v.cell? ⟨w.heap.size, 1, none⟩ = some (.int .i64 (1 - (F.emax : Int))) ∧ v.cell? ⟨w.heap.size, 2, none⟩ = some (.int .i64 (F.emax : Int)) ∧ v.cell? ⟨w.heap.size, 3, none⟩ = some (.int .i64 (F.wd : Int)) ∧ v.cell? ⟨w.heap.size, 4, none⟩ = some (.int .i64 (F.e : Int)) ∧ v.cell? ⟨w.heap.size, 5, none⟩ = some (.bool F.x)) v := fun v hv => ⟨(hv.cell (by simp only; omega)).trans c0, (hv.cell (by simp only; omega)).trans c1, (hv.cell (by simp only; omega)).trans c2, (hv.cell (by simp only; omega)).trans c3, (hv.cell (by simp only; omega)).trans c4, (hv.cell (by simp only; omega)).trans c5⟩
 have D2 : ∀ v x y, Below w1.heap.size w1 v → (fun v => v.cell? ⟨w.heap.size, 0, none⟩ = some (.int .i64 (F.p : Int)) ∧ v.cell? ⟨w.heap.size, 1, none⟩ = some (.int .i64 (1 - (F.emax : Int))) ∧ v.cell? ⟨w.heap.size, 2, none⟩ = some (.int .i64 (F.emax : Int)) ∧ v.cell? ⟨w.heap.size, 3, none⟩ = some (.int .i64 (F.wd : Int)) ∧ v.cell? ⟨w.heap.size, 4, none⟩ = some (.int .i64 (F.e : Int)) ∧ v.cell? ⟨w.heap.size, 5, none⟩ = some (.bool F.x)) ((v.setCell ⟨w.heap.size + 1 + 1, 0, none⟩ x).setCell ⟨w.heap.size + 1 + 1, 1, none⟩ y) := fun v x y hv => ⟨((far2 v x y (by omega)).trans (hv.cell (by simp only; omega))).trans c0, ((far2 v x y (by omega)).trans (hv.cell (by simp only; omega))).trans c1, ((far2 v x y (by omega)).trans (hv.cell (by simp only; omega))).trans c2, ((far2 v x y (by omega)).trans (hv.cell (by simp only; omega))).trans c3, ((far2 v x y (by omega)).trans (hv.cell (by simp only; omega))).trans c4, ((far2 v x y (by omega)).trans (hv.cell (by simp only; omega))).trans c5⟩
 clear c0 c1 c2 c3 c4 c5 p0 p1 p2 p3 p4
 go_region_held3 (fun v => v.cell? ⟨w.heap.size, 0, none⟩ = some (.int .i64 (F.p : Int)) ∧ v.cell? ⟨w.heap.size, 1, none⟩ = some (.int .i64 (1 - (F.emax : Int))) ∧ v.cell? ⟨w.heap.size, 2, none⟩ = some (.int .i64 (F.emax : Int)) ∧ v.cell? ⟨w.heap.size, 3, none⟩ = some (.int .i64 (F.wd : Int)) ∧ v.cell? ⟨w.heap.size, 4, none⟩ = some (.int .i64 (F.e : Int)) ∧ v.cell? ⟨w.heap.size, 5, none⟩ = some (.bool F.x)) (first | exact D1 _ (by assumption) | exact D1 _ ((Below.refl _ _).drew) | exact D2 _ _ _ (by assumption))
  (first | (go_at_call 55; refine (kT _).mono ?_; rintro e w' ⟨rfl, hb0⟩; have hb1 := keepC (w1 := w1) ((Below.refl _ _).drew) hb0; clear hb0) | (go_at_call 54; refine (kS _).mono ?_; rintro e w' ⟨rfl, hb0⟩; have hb2 := keepC (w1 := w1) hb1 hb0; clear hb0; have f0 := (hb2.cell (p := ⟨w.heap.size + 1 + 1, 0, none⟩) (by simp only; omega)).trans r0; have f1 := (hb2.cell (p := ⟨w.heap.size + 1 + 1, 1, none⟩) (by simp only; omega)).trans r1; have f2 := (hb2.frozen (p := ⟨w.heap.size + 1 + 1, 0, none⟩) (by simp only; omega)).trans z0; have f3 := (hb2.frozen (p := ⟨w.heap.size + 1 + 1, 1, none⟩) (by simp only; omega)).trans z1))
 go_wp2_with fail
 exact bodyPost_ret (v := .agg #[.int .u64 (M.hiN Y : Int), .int .u64 (M.loN Y : Int)]) (by simp [results, Tryd.results36, go_sem, f0, f1]) rfl ⟨rfl, (((b1.trans (hb2.mono b1.size)).setCell (by simp only; omega) _).setCell (by simp only; omega) _)⟩

theorem drankF (F : M.Fm) (h : F.Ok) (c : Int) (n : Bool) (s : Nat) (q : Int) (w : World) (hc1 : c ≠ 1) (hc4 : c ≠ 4) (k : Nat) (hk : q - F.qmin = (k : Int)) (hkl : k ≤ 40000) (hs : s < 2 ^ 120) (hkb : k * F.lead + s < 2 ^ 128) :
 Calls Tryd.prog 36 #[dv F, .agg #[.int .i64 c, .bool n, .int .u64 (M.hiN s : Int), .int .u64 (M.loN s : Int), .int .i64 q]] w fun e w' => e = .returned (.agg #[.int .u64 (M.hiN (k * F.lead + s) : Int), .int .u64 (M.loN (k * F.lead + s) : Int)]) ∧ Below w.heap.size w w' := by
 have ht := h.top2
 have hp1 := h.p1
 have hp2 := h.p2
 obtain ⟨pm, hpm⟩ : ∃ pm, F.p = pm + 1 := ⟨F.p - 1, by omega⟩
 have hle : F.lead = 2 ^ pm := by unfold M.Fm.lead; rw [hpm]; rfl
 obtain ⟨Z, hZ⟩ : ∃ Z, Z = k * F.lead := ⟨_, rfl⟩
 rw [← hZ] at hkb ⊢
 obtain ⟨Y, hY⟩ : ∃ Y, Y = Z + s := ⟨_, rfl⟩
 rw [← hY] at hkb ⊢
 have kQ := fun v : World => dQmin F h v
 have kS := fun v : World => wshl k pm v (by omega) (by omega) Z (by rw [hZ, hle] at *; rw [Nat.mod_eq_of_lt (by omega)])
 have kP := fun v : World => wplus Z s v (by omega) (by omega) Y (by rw [hY, Nat.mod_eq_of_lt (by omega)])
 rw [M.hi_small (show k < 18446744073709551616 by omega), M.lo_small (show k < 18446744073709551616 by omega)] at kS
 have hcv : IntKind.u64.wrap (k : Int) = (k : Int) := by rw [wrapU, Nat.mod_eq_of_lt (by omega)]
 have hsb : IntKind.i64.wrap (q - F.qmin) = (k : Int) := by rw [hk]; simp only [IntKind.wrap_i64]; omega
 have e1 : (F.p : Int) - 1 = (pm : Int) := by omega
 have hwp : IntKind.i64.wrap (pm : Int) = (pm : Int) := by simp only [IntKind.wrap_i64]; omega
 have hwk : IntKind.i64.wrap (k : Int) = (k : Int) := by simp only [IntKind.wrap_i64]; omega
 have hn1 : (c == 1) = false := by simp [hc1]
 have hn4 : (c == 4) = false := by simp [hc4]
 clear hpm hle hY hZ hkb ht
 simp only [dv] at *
 go_enter Tryd.func36, Tryd.ntmps36
 go_upto_region 6 with fail
 have b1 : Below w.heap.size w (((w.alloc (.cells #[.int .i64 (F.p : Int), .int .i64 (1 - (F.emax : Int)), .int .i64 (F.emax : Int), .int .i64 (F.wd : Int), .int .i64 (F.e : Int), .bool F.x] 23)).alloc (.cells #[.int .i64 c, .bool n, .int .u64 (M.hiN s : Int), .int .u64 (M.loN s : Int), .int .i64 q] 32)).alloc (.cells #[.int .u64 0, .int .u64 0] 30)) :=
  (((Below.refl _ _).alloc (Nat.le_refl _) _).alloc (by simp) _).alloc (by simp; omega) _
 generalize hw1 : ((w.alloc (.cells #[.int .i64 (F.p : Int), .int .i64 (1 - (F.emax : Int)), .int .i64 (F.emax : Int), .int .i64 (F.wd : Int), .int .i64 (F.e : Int), .bool F.x] 23)).alloc (.cells #[.int .i64 c, .bool n, .int .u64 (M.hiN s : Int), .int .u64 (M.loN s : Int), .int .i64 q] 32)).alloc (.cells #[.int .u64 0, .int .u64 0] 30) = w1 at b1 ⊢
 have c0 : w1.cell? ⟨w.heap.size, 0, none⟩ = some (.int .i64 (F.p : Int)) := by rw [← hw1]; simp [go_sem]
 have c1 : w1.cell? ⟨w.heap.size, 1, none⟩ = some (.int .i64 (1 - (F.emax : Int))) := by rw [← hw1]; simp [go_sem]
 have c2 : w1.cell? ⟨w.heap.size, 2, none⟩ = some (.int .i64 (F.emax : Int)) := by rw [← hw1]; simp [go_sem]
 have c3 : w1.cell? ⟨w.heap.size, 3, none⟩ = some (.int .i64 (F.wd : Int)) := by rw [← hw1]; simp [go_sem]
 have c4 : w1.cell? ⟨w.heap.size, 4, none⟩ = some (.int .i64 (F.e : Int)) := by rw [← hw1]; simp [go_sem]
 have c5 : w1.cell? ⟨w.heap.size, 5, none⟩ = some (.bool F.x) := by rw [← hw1]; simp [go_sem]
 have p0 : w1.cell? ⟨w.heap.size + 1, 0, none⟩ = some (.int .i64 c) := by rw [← hw1]; simp [go_sem]
 have p1 : w1.cell? ⟨w.heap.size + 1, 1, none⟩ = some (.bool n) := by rw [← hw1]; simp [go_sem]
 have p2 : w1.cell? ⟨w.heap.size + 1, 2, none⟩ = some (.int .u64 (M.hiN s : Int)) := by rw [← hw1]; simp [go_sem]
 have p3 : w1.cell? ⟨w.heap.size + 1, 3, none⟩ = some (.int .u64 (M.loN s : Int)) := by rw [← hw1]; simp [go_sem]
 have p4 : w1.cell? ⟨w.heap.size + 1, 4, none⟩ = some (.int .i64 q) := by rw [← hw1]; simp [go_sem]
 have r0 : w1.cell? ⟨w.heap.size + 1 + 1, 0, none⟩ = some (.int .u64 0) := by rw [← hw1]; simp [go_sem]
 have r1 : w1.cell? ⟨w.heap.size + 1 + 1, 1, none⟩ = some (.int .u64 0) := by rw [← hw1]; simp [go_sem]
 have z0 : w1.frozen? ⟨w.heap.size + 1 + 1, 0, none⟩ = false := by rw [← hw1]; simp [go_sem]
 have z1 : w1.frozen? ⟨w.heap.size + 1 + 1, 1, none⟩ = false := by rw [← hw1]; simp [go_sem]
 have n1 : w.heap.size + 3 ≤ w1.heap.size := by rw [← hw1]; simp
 clear hw1
 have D1 : ∀ v, Below w1.heap.size w1 v → (fun v => v.cell? ⟨w.heap.size, 0, none⟩ = some (.int .i64 (F.p : Int)) ∧ v.cell? ⟨w.heap.size, 1, none⟩ = some (.int .i64 (1 - (F.emax : Int))) ∧ v.cell? ⟨w.heap.size, 2, none⟩ = some (.int .i64 (F.emax : Int)) ∧ v.cell? ⟨w.heap.size, 3, none⟩ = some (.int .i64 (F.wd : Int)) ∧ v.cell? ⟨w.heap.size, 4, none⟩ = some (.int .i64 (F.e : Int)) ∧ v.cell? ⟨w.heap.size, 5, none⟩ = some (.bool F.x) ∧ v.cell? ⟨w.heap.size + 1, 0, none⟩ = some (.int .i64 c) ∧ v.cell? ⟨w.heap.size + 1, 1, none⟩ = some (.bool n) ∧ v.cell? ⟨w.heap.size + 1, 2, none⟩ = some (.int .u64 (M.hiN s : Int)) ∧ v.cell? ⟨w.heap.size + 1, 3, none⟩ = some (.int .u64 (M.loN s : Int)) ∧ v.cell? ⟨w.heap.size + 1, 4, none⟩ = some (.int .i64 q)) v := fun v hv => ⟨(hv.cell (by simp only; omega)).trans c0, (hv.cell (by simp only; omega)).trans c1, (hv.cell (by simp only; omega)).trans c2, (hv.cell (by simp only; omega)).trans c3, (hv.cell (by simp only; omega)).trans c4, (hv.cell (by simp only; omega)).trans c5, (hv.cell (by simp only; omega)).trans p0, (hv.cell (by simp only; omega)).trans p1, (hv.cell (by simp only; omega)).trans p2, (hv.cell (by simp only; omega)).trans p3, (hv.cell (by simp only; omega)).trans p4⟩
 have D2 : ∀ v x y, Below w1.heap.size w1 v → (fun v => v.cell? ⟨w.heap.size, 0, none⟩ = some (.int .i64 (F.p : Int)) ∧ v.cell? ⟨w.heap.size, 1, none⟩ = some (.int .i64 (1 - (F.emax : Int))) ∧ v.cell? ⟨w.heap.size, 2, none⟩ = some (.int .i64 (F.emax : Int)) ∧ v.cell? ⟨w.heap.size, 3, none⟩ = some (.int .i64 (F.wd : Int)) ∧ v.cell? ⟨w.heap.size, 4, none⟩ = some (.int .i64 (F.e : Int)) ∧ v.cell? ⟨w.heap.size, 5, none⟩ = some (.bool F.x) ∧ v.cell? ⟨w.heap.size + 1, 0, none⟩ = some (.int .i64 c) ∧ v.cell? ⟨w.heap.size + 1, 1, none⟩ = some (.bool n) ∧ v.cell? ⟨w.heap.size + 1, 2, none⟩ = some (.int .u64 (M.hiN s : Int)) ∧ v.cell? ⟨w.heap.size + 1, 3, none⟩ = some (.int .u64 (M.loN s : Int)) ∧ v.cell? ⟨w.heap.size + 1, 4, none⟩ = some (.int .i64 q)) ((v.setCell ⟨w.heap.size + 1 + 1, 0, none⟩ x).setCell ⟨w.heap.size + 1 + 1, 1, none⟩ y) := fun v x y hv => ⟨((far2 v x y (by omega)).trans (hv.cell (by simp only; omega))).trans c0, ((far2 v x y (by omega)).trans (hv.cell (by simp only; omega))).trans c1, ((far2 v x y (by omega)).trans (hv.cell (by simp only; omega))).trans c2, ((far2 v x y (by omega)).trans (hv.cell (by simp only; omega))).trans c3, ((far2 v x y (by omega)).trans (hv.cell (by simp only; omega))).trans c4, ((far2 v x y (by omega)).trans (hv.cell (by simp only; omega))).trans c5, ((far2 v x y (by omega)).trans (hv.cell (by simp only; omega))).trans p0, ((far2 v x y (by omega)).trans (hv.cell (by simp only; omega))).trans p1, ((far2 v x y (by omega)).trans (hv.cell (by simp only; omega))).trans p2, ((far2 v x y (by omega)).trans (hv.cell (by simp only; omega))).trans p3, ((far2 v x y (by omega)).trans (hv.cell (by simp only; omega))).trans p4⟩
 clear c0 c1 c2 c3 c4 c5 p0 p1 p2 p3 p4
 go_region_held3 (fun v => v.cell? ⟨w.heap.size, 0, none⟩ = some (.int .i64 (F.p : Int)) ∧ v.cell? ⟨w.heap.size, 1, none⟩ = some (.int .i64 (1 - (F.emax : Int))) ∧ v.cell? ⟨w.heap.size, 2, none⟩ = some (.int .i64 (F.emax : Int)) ∧ v.cell? ⟨w.heap.size, 3, none⟩ = some (.int .i64 (F.wd : Int)) ∧ v.cell? ⟨w.heap.size, 4, none⟩ = some (.int .i64 (F.e : Int)) ∧ v.cell? ⟨w.heap.size, 5, none⟩ = some (.bool F.x) ∧ v.cell? ⟨w.heap.size + 1, 0, none⟩ = some (.int .i64 c) ∧ v.cell? ⟨w.heap.size + 1, 1, none⟩ = some (.bool n) ∧ v.cell? ⟨w.heap.size + 1, 2, none⟩ = some (.int .u64 (M.hiN s : Int)) ∧ v.cell? ⟨w.heap.size + 1, 3, none⟩ = some (.int .u64 (M.loN s : Int)) ∧ v.cell? ⟨w.heap.size + 1, 4, none⟩ = some (.int .i64 q)) (first | exact D1 _ (by assumption) | exact D1 _ ((Below.refl _ _).drew) | exact D2 _ _ _ (by assumption))
  (first | (go_at_call 57; refine (kQ _).mono ?_; rintro e w' ⟨rfl, hb0⟩; have hb1 := keepC (w1 := w1) ((Below.refl _ _).drew) hb0; clear hb0) | (go_at_call 54; refine (kS _).mono ?_; rintro e w' ⟨rfl, hb0⟩; have hb2 := keepC (w1 := w1) hb1 hb0; clear hb0) | (go_at_call 47; refine (kP _).mono ?_; rintro e w' ⟨rfl, hb0⟩; have hb3 := keepC (w1 := w1) hb2 hb0; clear hb0; have f0 := (hb3.cell (p := ⟨w.heap.size + 1 + 1, 0, none⟩) (by simp only; omega)).trans r0; have f1 := (hb3.cell (p := ⟨w.heap.size + 1 + 1, 1, none⟩) (by simp only; omega)).trans r1; have f2 := (hb3.frozen (p := ⟨w.heap.size + 1 + 1, 0, none⟩) (by simp only; omega)).trans z0; have f3 := (hb3.frozen (p := ⟨w.heap.size + 1 + 1, 1, none⟩) (by simp only; omega)).trans z1))
 go_wp2_with fail
 exact bodyPost_ret (v := .agg #[.int .u64 (M.hiN Y : Int), .int .u64 (M.loN Y : Int)]) (by simp [results, Tryd.results36, go_sem, f0, f1]) rfl ⟨rfl, (((b1.trans (hb3.mono b1.size)).setCell (by simp only; omega) _).setCell (by simp only; omega) _)⟩

end Go.Proofs.YtcilemkeljcidaaDoor
