import Derived.Test.YtogkkecnmlnajaaDoorqUI
import Derived.Test.YtogkkecnmlnajaaDoorqSI
set_option maxHeartbeats 2000000
set_option maxRecDepth 10000
namespace Go.Proofs.YtogkkecnmlnajaaDoor
open Go.RowKit
set_option linter.unusedVariables false
set_option maxRecDepth 100000
theorem pValued (c : Int) (n : Bool) (a b q : Int) (w : World) (r : Bool) (hr : r = decide (c ≠ 0 ∧ c ≠ 5)) :
 Calls Tryd.prog 39 #[.agg #[.int .i64 c, .bool n, .int .u64 a, .int .u64 b, .int .i64 q]] w fun e w' => e = .returned (.bool r) ∧ Below w.heap.size w w' := by
 by_cases h0 : c = 0
 · have hr' : r = false := by rw [hr]; simp [h0]
   subst h0
   subst hr'
   clear hr
   go_enter Tryd.func39, Tryd.ntmps39
   go_wp2_with fail
   go_ret
   exact ⟨rfl, (Below.refl _ _).alloc (Nat.le_refl _) _⟩
 · have hn0 : (c != 0) = true := by simp [h0]
   by_cases h5 : c = 5
   · have hr' : r = false := by rw [hr]; simp [h5]
     subst h5
     subst hr'
     clear hr
     go_enter Tryd.func39, Tryd.ntmps39
     go_wp2_with fail
     go_ret
     exact ⟨rfl, (Below.refl _ _).alloc (Nat.le_refl _) _⟩
   · have hn5 : (c != 5) = true := by simp [h5]
     have hr' : r = true := by rw [hr]; simp [h0, h5]
     subst hr'
     clear hr
     go_enter Tryd.func39, Tryd.ntmps39
     go_wp2_with fail
     go_ret
     exact ⟨rfl, (Below.refl _ _).alloc (Nat.le_refl _) _⟩

theorem M.Fm.Ok.leadPow {F : M.Fm} (h : F.Ok) : F.lead * 2 ^ F.e ≤ 2 ^ 127 := by
 have h1 := h.p1
 have h2 := h.w
 unfold M.Fm.lead
 rw [← Nat.pow_add]
 apply Nat.pow_le_pow_right (by omega)
 unfold M.Fm.wd M.Fm.fb at h2
 split at h2 <;> omega

theorem drank1 (F : M.Fm) (h : F.Ok) (c : Int) (n : Bool) (s : Nat) (q : Int) (w : World) (hc : c = 1) :
 Calls Tryd.prog 41 #[dv F, .agg #[.int .i64 c, .bool n, .int .u64 (M.hiN s : Int), .int .u64 (M.loN s : Int), .int .i64 q]] w fun e w' => e = .returned (.agg #[.int .u64 (M.hiN (0) : Int), .int .u64 (M.loN (0) : Int)]) ∧ Below w.heap.size w w' := by
 subst hc
 simp only [dv] at *
 go_enter Tryd.func41, Tryd.ntmps41
 go_wp2_with fail
 exact bodyPost_ret (v := .agg #[.int .u64 0, .int .u64 0]) (by simp [results, Tryd.results41, go_sem]) rfl ⟨by rw [hi0, lo0]; rfl, (((Below.refl _ _).alloc (Nat.le_refl _) _).alloc (by simp) _).alloc (by simp; omega) _⟩

theorem drank4 (F : M.Fm) (h : F.Ok) (c : Int) (n : Bool) (s : Nat) (q : Int) (w : World) (hc : c = 4) :
 Calls Tryd.prog 41 #[dv F, .agg #[.int .i64 c, .bool n, .int .u64 (M.hiN s : Int), .int .u64 (M.loN s : Int), .int .i64 q]] w fun e w' => e = .returned (.agg #[.int .u64 (M.hiN (F.top * F.lead) : Int), .int .u64 (M.loN (F.top * F.lead) : Int)]) ∧ Below w.heap.size w w' := by
 subst hc
 have ht := h.top2
 have hp1 := h.p1
 have hp2 := h.p2
 obtain ⟨pm, hpm⟩ : ∃ pm, F.p = pm + 1 := ⟨F.p - 1, by omega⟩
 have hle : F.lead = 2 ^ pm := by unfold M.Fm.lead; rw [hpm]; rfl
 obtain ⟨Y, hY⟩ : ∃ Y, Y = F.top * F.lead := ⟨_, rfl⟩
 rw [← hY]
 have hm := M.Fm.Ok.leadPow h
 have hYl : Y < 2 ^ 128 := by
  rw [hY, Nat.mul_comm]
  have : F.lead * F.top ≤ F.lead * 2 ^ F.e := Nat.mul_le_mul_left _ (by omega)
  omega
 have kT := fun v : World => dTop F h v
 have kS := fun v : World => wshl F.top pm v (by omega) (by omega) Y (by rw [hY, hle] at *; rw [Nat.mod_eq_of_lt hYl])
 rw [M.hi_small (show F.top < 18446744073709551616 by omega), M.lo_small (show F.top < 18446744073709551616 by omega)] at kS
 have hcv : IntKind.u64.wrap (F.top : Int) = (F.top : Int) := by rw [wrapU, Nat.mod_eq_of_lt (by omega)]
 have e1 : (F.p : Int) - 1 = (pm : Int) := by omega
 have hwp : IntKind.i64.wrap (pm : Int) = (pm : Int) := by simp only [IntKind.wrap_i64]; omega
 have htb : F.top ≤ 40000 := by omega
 clear hpm hle hY hm hYl ht
 simp only [dv] at *
 go_enter Tryd.func41, Tryd.ntmps41
 go_upto_region 5 with fail
 have b1 : Below w.heap.size w (((w.alloc (.cells #[.int .i64 (F.p : Int), .int .i64 (1 - (F.emax : Int)), .int .i64 (F.emax : Int), .int .i64 (F.wd : Int), .int .i64 (F.e : Int), .bool F.x] 56)).alloc (.cells #[.int .i64 4, .bool n, .int .u64 (M.hiN s : Int), .int .u64 (M.loN s : Int), .int .i64 q] 33)).alloc (.cells #[.int .u64 0, .int .u64 0] 28)) :=
  (((Below.refl _ _).alloc (Nat.le_refl _) _).alloc (by simp) _).alloc (by simp; omega) _
 generalize hw1 : ((w.alloc (.cells #[.int .i64 (F.p : Int), .int .i64 (1 - (F.emax : Int)), .int .i64 (F.emax : Int), .int .i64 (F.wd : Int), .int .i64 (F.e : Int), .bool F.x] 56)).alloc (.cells #[.int .i64 4, .bool n, .int .u64 (M.hiN s : Int), .int .u64 (M.loN s : Int), .int .i64 q] 33)).alloc (.cells #[.int .u64 0, .int .u64 0] 28) = w1 at b1 ⊢
 have c0 : w1.cell? ⟨w.heap.size, 0, none⟩ = some (.int .i64 (F.p : Int)) := by rw [← hw1]; simp [go_sem]
 have c1 : w1.cell? ⟨w.heap.size, 1, none⟩ = some (.int .i64 (1 - (F.emax : Int))) := by rw [← hw1]; simp [go_sem]
 have c2 : w1.cell? ⟨w.heap.size, 2, none⟩ = some (.int .i64 (F.emax : Int)) := by rw [← hw1]; simp [go_sem]
 have c3 : w1.cell? ⟨w.heap.size, 3, none⟩ = some (.int .i64 (F.wd : Int)) := by rw [← hw1]; simp [go_sem]
 have c4 : w1.cell? ⟨w.heap.size, 4, none⟩ = some (.int .i64 (F.e : Int)) := by rw [← hw1]; simp [go_sem]
 have c5 : w1.cell? ⟨w.heap.size, 5, none⟩ = some (.bool F.x) := by rw [← hw1]; simp [go_sem]
 have p0 : w1.cell? ⟨w.heap.size + 1, 0, none⟩ = some (.int .i64 4) := by rw [← hw1]; simp [go_sem]
 have p1 : w1.cell? ⟨w.heap.size + 1, 1, none⟩ = some (.bool n) := by rw [← hw1]; simp [go_sem]
 have p2 : w1.cell? ⟨w.heap.size + 1, 2, none⟩ = some (.int .u64 (M.hiN s : Int)) := by rw [← hw1]; simp [go_sem]
 have p3 : w1.cell? ⟨w.heap.size + 1, 3, none⟩ = some (.int .u64 (M.loN s : Int)) := by rw [← hw1]; simp [go_sem]
 have p4 : w1.cell? ⟨w.heap.size + 1, 4, none⟩ = some (.int .i64 q) := by rw [← hw1]; simp [go_sem]
 have r0 : w1.cell? ⟨w.heap.size + 1 + 1, 0, none⟩ = some (.int .u64 0) := by rw [← hw1]; simp [go_sem]
 have r1 : w1.cell? ⟨w.heap.size + 1 + 1, 1, none⟩ = some (.int .u64 0) := by rw [← hw1]; simp [go_sem]
 have z0 : w1.frozen? ⟨w.heap.size + 1 + 1, 0, none⟩ = false := by rw [← hw1]; simp [go_sem]
 have z1 : w1.frozen? ⟨w.heap.size + 1 + 1, 1, none⟩ = false := by rw [← hw1]; simp [go_sem]
 have n1 : w.heap.size + 3 ≤ w1.heap.size := by rw [← hw1]; simp
 clear hw1
 have D1 : ∀ v, Below w1.heap.size w1 v → (fun v => v.cell? ⟨w.heap.size, 0, none⟩ = some (.int .i64 (F.p : Int)) ∧ v.cell? ⟨w.heap.size, 1, none⟩ = some (.int .i64 (1 - (F.emax : Int))) ∧ v.cell? ⟨w.heap.size, 2, none⟩ = some (.int .i64 (F.emax : Int)) ∧ v.cell? ⟨w.heap.size, 3, none⟩ = some (.int .i64 (F.wd : Int)) ∧ v.cell? ⟨w.heap.size, 4, none⟩ = some (.int .i64 (F.e : Int)) ∧ v.cell? ⟨w.heap.size, 5, none⟩ = some (.bool F.x)) v := fun v hv => ⟨(hv.cell (by simp only; omega)).trans c0, (hv.cell (by simp only; omega)).trans c1, (hv.cell (by simp only; omega)).trans c2, (hv.cell (by simp only; omega)).trans c3, (hv.cell (by simp only; omega)).trans c4, (hv.cell (by simp only; omega)).trans c5⟩
 have D2 : ∀ v x y, Below w1.heap.size w1 v → (fun v => v.cell? ⟨w.heap.size, 0, none⟩ = some (.int .i64 (F.p : Int)) ∧ v.cell? ⟨w.heap.size, 1, none⟩ = some (.int .i64 (1 - (F.emax : Int))) ∧ v.cell? ⟨w.heap.size, 2, none⟩ = some (.int .i64 (F.emax : Int)) ∧ v.cell? ⟨w.heap.size, 3, none⟩ = some (.int .i64 (F.wd : Int)) ∧ v.cell? ⟨w.heap.size, 4, none⟩ = some (.int .i64 (F.e : Int)) ∧ v.cell? ⟨w.heap.size, 5, none⟩ = some (.bool F.x)) ((v.setCell ⟨w.heap.size + 1 + 1, 0, none⟩ x).setCell ⟨w.heap.size + 1 + 1, 1, none⟩ y) := fun v x y hv => ⟨((far2 v x y (by omega)).trans (hv.cell (by simp only; omega))).trans c0, ((far2 v x y (by omega)).trans (hv.cell (by simp only; omega))).trans c1, ((far2 v x y (by omega)).trans (hv.cell (by simp only; omega))).trans c2, ((far2 v x y (by omega)).trans (hv.cell (by simp only; omega))).trans c3, ((far2 v x y (by omega)).trans (hv.cell (by simp only; omega))).trans c4, ((far2 v x y (by omega)).trans (hv.cell (by simp only; omega))).trans c5⟩
 clear c0 c1 c2 c3 c4 c5 p0 p1 p2 p3 p4
 go_region_held3 (fun v => v.cell? ⟨w.heap.size, 0, none⟩ = some (.int .i64 (F.p : Int)) ∧ v.cell? ⟨w.heap.size, 1, none⟩ = some (.int .i64 (1 - (F.emax : Int))) ∧ v.cell? ⟨w.heap.size, 2, none⟩ = some (.int .i64 (F.emax : Int)) ∧ v.cell? ⟨w.heap.size, 3, none⟩ = some (.int .i64 (F.wd : Int)) ∧ v.cell? ⟨w.heap.size, 4, none⟩ = some (.int .i64 (F.e : Int)) ∧ v.cell? ⟨w.heap.size, 5, none⟩ = some (.bool F.x)) (first | exact D1 _ (by assumption) | exact D1 _ ((Below.refl _ _).drew) | exact D2 _ _ _ (by assumption))
  (first | (go_at_call 67; refine (kT _).mono ?_; rintro e w' ⟨rfl, hb0⟩; have hb1 := keepC (w1 := w1) ((Below.refl _ _).drew) hb0; clear hb0) | (go_at_call 66; refine (kS _).mono ?_; rintro e w' ⟨rfl, hb0⟩; have hb2 := keepC (w1 := w1) hb1 hb0; clear hb0; have f0 := (hb2.cell (p := ⟨w.heap.size + 1 + 1, 0, none⟩) (by simp only; omega)).trans r0; have f1 := (hb2.cell (p := ⟨w.heap.size + 1 + 1, 1, none⟩) (by simp only; omega)).trans r1; have f2 := (hb2.frozen (p := ⟨w.heap.size + 1 + 1, 0, none⟩) (by simp only; omega)).trans z0; have f3 := (hb2.frozen (p := ⟨w.heap.size + 1 + 1, 1, none⟩) (by simp only; omega)).trans z1))
 go_wp2_with fail
 exact bodyPost_ret (v := .agg #[.int .u64 (M.hiN Y : Int), .int .u64 (M.loN Y : Int)]) (by simp [results, Tryd.results41, go_sem, f0, f1]) rfl ⟨rfl, (((b1.trans (hb2.mono b1.size)).setCell (by simp only; omega) _).setCell (by simp only; omega) _)⟩

theorem drankF (F : M.Fm) (h : F.Ok) (c : Int) (n : Bool) (s : Nat) (q : Int) (w : World) (hc1 : c ≠ 1) (hc4 : c ≠ 4) (k : Nat) (hk : q - F.qmin = (k : Int)) (hkl : k ≤ 40000) (hs : s < 2 ^ 120) (hkb : k * F.lead + s < 2 ^ 128) :
 Calls Tryd.prog 41 #[dv F, .agg #[.int .i64 c, .bool n, .int .u64 (M.hiN s : Int), .int .u64 (M.loN s : Int), .int .i64 q]] w fun e w' => e = .returned (.agg #[.int .u64 (M.hiN (k * F.lead + s) : Int), .int .u64 (M.loN (k * F.lead + s) : Int)]) ∧ Below w.heap.size w w' := by
 have ht := h.top2
 have hp1 := h.p1
 have hp2 := h.p2
 obtain ⟨pm, hpm⟩ : ∃ pm, F.p = pm + 1 := ⟨F.p - 1, by omega⟩
 have hle : F.lead = 2 ^ pm := by unfold M.Fm.lead; rw [hpm]; rfl
 obtain ⟨Z, hZ⟩ : ∃ Z, Z = k * F.lead := ⟨_, rfl⟩
 rw [← hZ] at hkb ⊢
 obtain ⟨Y, hY⟩ : ∃ Y, Y = Z + s := ⟨_, rfl⟩
 rw [← hY] at hkb ⊢
 have kQ := fun v : World => dQmin F h v
 have kS := fun v : World => wshl k pm v (by omega) (by omega) Z (by rw [hZ, hle] at *; rw [Nat.mod_eq_of_lt (by omega)])
 have kP := fun v : World => wplus Z s v (by omega) (by omega) Y (by rw [hY, Nat.mod_eq_of_lt (by omega)])
 rw [M.hi_small (show k < 18446744073709551616 by omega), M.lo_small (show k < 18446744073709551616 by omega)] at kS
 have hcv : IntKind.u64.wrap (k : Int) = (k : Int) := by rw [wrapU, Nat.mod_eq_of_lt (by omega)]
 have hsb : IntKind.i64.wrap (q - F.qmin) = (k : Int) := by rw [hk]; simp only [IntKind.wrap_i64]; omega
 have e1 : (F.p : Int) - 1 = (pm : Int) := by omega
 have hwp : IntKind.i64.wrap (pm : Int) = (pm : Int) := by simp only [IntKind.wrap_i64]; omega
 have hwk : IntKind.i64.wrap (k : Int) = (k : Int) := by simp only [IntKind.wrap_i64]; omega
 have hn1 : (c == 1) = false := by simp [hc1]
 have hn4 : (c == 4) = false := by simp [hc4]
 clear hpm hle hY hZ hkb ht
 simp only [dv] at *
 go_enter Tryd.func41, Tryd.ntmps41
 go_upto_region 6 with fail
 have b1 : Below w.heap.size w (((w.alloc (.cells #[.int .i64 (F.p : Int), .int .i64 (1 - (F.emax : Int)), .int .i64 (F.emax : Int), .int .i64 (F.wd : Int), .int .i64 (F.e : Int), .bool F.x] 56)).alloc (.cells #[.int .i64 c, .bool n, .int .u64 (M.hiN s : Int), .int .u64 (M.loN s : Int), .int .i64 q] 33)).alloc (.cells #[.int .u64 0, .int .u64 0] 28)) :=
  (((Below.refl _ _).alloc (Nat.le_refl _) _).alloc (by simp) _).alloc (by simp; omega) _
 generalize hw1 : ((w.alloc (.cells #[.int .i64 (F.p : Int), .int .i64 (1 - (F.emax : Int)), .int .i64 (F.emax : Int), .int .i64 (F.wd : Int), .int .i64 (F.e : Int), .bool F.x] 56)).alloc (.cells #[.int .i64 c, .bool n, .int .u64 (M.hiN s : Int), .int .u64 (M.loN s : Int), .int .i64 q] 33)).alloc (.cells #[.int .u64 0, .int .u64 0] 28) = w1 at b1 ⊢
 have c0 : w1.cell? ⟨w.heap.size, 0, none⟩ = some (.int .i64 (F.p : Int)) := by rw [← hw1]; simp [go_sem]
 have c1 : w1.cell? ⟨w.heap.size, 1, none⟩ = some (.int .i64 (1 - (F.emax : Int))) := by rw [← hw1]; simp [go_sem]
 have c2 : w1.cell? ⟨w.heap.size, 2, none⟩ = some (.int .i64 (F.emax : Int)) := by rw [← hw1]; simp [go_sem]
 have c3 : w1.cell? ⟨w.heap.size, 3, none⟩ = some (.int .i64 (F.wd : Int)) := by rw [← hw1]; simp [go_sem]
 have c4 : w1.cell? ⟨w.heap.size, 4, none⟩ = some (.int .i64 (F.e : Int)) := by rw [← hw1]; simp [go_sem]
 have c5 : w1.cell? ⟨w.heap.size, 5, none⟩ = some (.bool F.x) := by rw [← hw1]; simp [go_sem]
 have p0 : w1.cell? ⟨w.heap.size + 1, 0, none⟩ = some (.int .i64 c) := by rw [← hw1]; simp [go_sem]
 have p1 : w1.cell? ⟨w.heap.size + 1, 1, none⟩ = some (.bool n) := by rw [← hw1]; simp [go_sem]
 have p2 : w1.cell? ⟨w.heap.size + 1, 2, none⟩ = some (.int .u64 (M.hiN s : Int)) := by rw [← hw1]; simp [go_sem]
 have p3 : w1.cell? ⟨w.heap.size + 1, 3, none⟩ = some (.int .u64 (M.loN s : Int)) := by rw [← hw1]; simp [go_sem]
 have p4 : w1.cell? ⟨w.heap.size + 1, 4, none⟩ = some (.int .i64 q) := by rw [← hw1]; simp [go_sem]
 have r0 : w1.cell? ⟨w.heap.size + 1 + 1, 0, none⟩ = some (.int .u64 0) := by rw [← hw1]; simp [go_sem]
 have r1 : w1.cell? ⟨w.heap.size + 1 + 1, 1, none⟩ = some (.int .u64 0) := by rw [← hw1]; simp [go_sem]
 have z0 : w1.frozen? ⟨w.heap.size + 1 + 1, 0, none⟩ = false := by rw [← hw1]; simp [go_sem]
 have z1 : w1.frozen? ⟨w.heap.size + 1 + 1, 1, none⟩ = false := by rw [← hw1]; simp [go_sem]
 have n1 : w.heap.size + 3 ≤ w1.heap.size := by rw [← hw1]; simp
 clear hw1
 have D1 : ∀ v, Below w1.heap.size w1 v → (fun v => v.cell? ⟨w.heap.size, 0, none⟩ = some (.int .i64 (F.p : Int)) ∧ v.cell? ⟨w.heap.size, 1, none⟩ = some (.int .i64 (1 - (F.emax : Int))) ∧ v.cell? ⟨w.heap.size, 2, none⟩ = some (.int .i64 (F.emax : Int)) ∧ v.cell? ⟨w.heap.size, 3, none⟩ = some (.int .i64 (F.wd : Int)) ∧ v.cell? ⟨w.heap.size, 4, none⟩ = some (.int .i64 (F.e : Int)) ∧ v.cell? ⟨w.heap.size, 5, none⟩ = some (.bool F.x) ∧ v.cell? ⟨w.heap.size + 1, 0, none⟩ = some (.int .i64 c) ∧ v.cell? ⟨w.heap.size + 1, 1, none⟩ = some (.bool n) ∧ v.cell? ⟨w.heap.size + 1, 2, none⟩ = some (.int .u64 (M.hiN s : Int)) ∧ v.cell? ⟨w.heap.size + 1, 3, none⟩ = some (.int .u64 (M.loN s : Int)) ∧ v.cell? ⟨w.heap.size + 1, 4, none⟩ = some (.int .i64 q)) v := fun v hv => ⟨(hv.cell (by simp only; omega)).trans c0, (hv.cell (by simp only; omega)).trans c1, (hv.cell (by simp only; omega)).trans c2, (hv.cell (by simp only; omega)).trans c3, (hv.cell (by simp only; omega)).trans c4, (hv.cell (by simp only; omega)).trans c5, (hv.cell (by simp only; omega)).trans p0, (hv.cell (by simp only; omega)).trans p1, (hv.cell (by simp only; omega)).trans p2, (hv.cell (by simp only; omega)).trans p3, (hv.cell (by simp only; omega)).trans p4⟩
 have D2 : ∀ v x y, Below w1.heap.size w1 v → (fun v => v.cell? ⟨w.heap.size, 0, none⟩ = some (.int .i64 (F.p : Int)) ∧ v.cell? ⟨w.heap.size, 1, none⟩ = some (.int .i64 (1 - (F.emax : Int))) ∧ v.cell? ⟨w.heap.size, 2, none⟩ = some (.int .i64 (F.emax : Int)) ∧ v.cell? ⟨w.heap.size, 3, none⟩ = some (.int .i64 (F.wd : Int)) ∧ v.cell? ⟨w.heap.size, 4, none⟩ = some (.int .i64 (F.e : Int)) ∧ v.cell? ⟨w.heap.size, 5, none⟩ = some (.bool F.x) ∧ v.cell? ⟨w.heap.size + 1, 0, none⟩ = some (.int .i64 c) ∧ v.cell? ⟨w.heap.size + 1, 1, none⟩ = some (.bool n) ∧ v.cell? ⟨w.heap.size + 1, 2, none⟩ = some (.int .u64 (M.hiN s : Int)) ∧ v.cell? ⟨w.heap.size + 1, 3, none⟩ = some (.int .u64 (M.loN s : Int)) ∧ v.cell? ⟨w.heap.size + 1, 4, none⟩ = some (.int .i64 q)) ((v.setCell ⟨w.heap.size + 1 + 1, 0, none⟩ x).setCell ⟨w.heap.size + 1 + 1, 1, none⟩ y) := fun v x y hv => ⟨((far2 v x y (by omega)).trans (hv.cell (by simp only; omega))).trans c0, ((far2 v x y (by omega)).trans (hv.cell (by simp only; omega))).trans c1, ((far2 v x y (by omega)).trans (hv.cell (by simp only; omega))).trans c2, ((far2 v x y (by omega)).trans (hv.cell (by simp only; omega))).trans c3, ((far2 v x y (by omega)).trans (hv.cell (by simp only; omega))).trans c4, ((far2 v x y (by omega)).trans (hv.cell (by simp only; omega))).trans c5, ((far2 v x y (by omega)).trans (hv.cell (by simp only; omega))).trans p0, ((far2 v x y (by omega)).trans (hv.cell (by simp only; omega))).trans p1, ((far2 v x y (by omega)).trans (hv.cell (by simp only; omega))).trans p2, ((far2 v x y (by omega)).trans (hv.cell (by simp only; omega))).trans p3, ((far2 v x y (by omega)).trans (hv.cell (by simp only; omega))).trans p4⟩
 clear c0 c1 c2 c3 c4 c5 p0 p1 p2 p3 p4
 go_region_held3 (fun v => v.cell? ⟨w.heap.size, 0, none⟩ = some (.int .i64 (F.p : Int)) ∧ v.cell? ⟨w.heap.size, 1, none⟩ = some (.int .i64 (1 - (F.emax : Int))) ∧ v.cell? ⟨w.heap.size, 2, none⟩ = some (.int .i64 (F.emax : Int)) ∧ v.cell? ⟨w.heap.size, 3, none⟩ = some (.int .i64 (F.wd : Int)) ∧ v.cell? ⟨w.heap.size, 4, none⟩ = some (.int .i64 (F.e : Int)) ∧ v.cell? ⟨w.heap.size, 5, none⟩ = some (.bool F.x) ∧ v.cell? ⟨w.heap.size + 1, 0, none⟩ = some (.int .i64 c) ∧ v.cell? ⟨w.heap.size + 1, 1, none⟩ = some (.bool n) ∧ v.cell? ⟨w.heap.size + 1, 2, none⟩ = some (.int .u64 (M.hiN s : Int)) ∧ v.cell? ⟨w.heap.size + 1, 3, none⟩ = some (.int .u64 (M.loN s : Int)) ∧ v.cell? ⟨w.heap.size + 1, 4, none⟩ = some (.int .i64 q)) (first | exact D1 _ (by assumption) | exact D1 _ ((Below.refl _ _).drew) | exact D2 _ _ _ (by assumption))
  (first | (go_at_call 70; refine (kQ _).mono ?_; rintro e w' ⟨rfl, hb0⟩; have hb1 := keepC (w1 := w1) ((Below.refl _ _).drew) hb0; clear hb0) | (go_at_call 66; refine (kS _).mono ?_; rintro e w' ⟨rfl, hb0⟩; have hb2 := keepC (w1 := w1) hb1 hb0; clear hb0) | (go_at_call 43; refine (kP _).mono ?_; rintro e w' ⟨rfl, hb0⟩; have hb3 := keepC (w1 := w1) hb2 hb0; clear hb0; have f0 := (hb3.cell (p := ⟨w.heap.size + 1 + 1, 0, none⟩) (by simp only; omega)).trans r0; have f1 := (hb3.cell (p := ⟨w.heap.size + 1 + 1, 1, none⟩) (by simp only; omega)).trans r1; have f2 := (hb3.frozen (p := ⟨w.heap.size + 1 + 1, 0, none⟩) (by simp only; omega)).trans z0; have f3 := (hb3.frozen (p := ⟨w.heap.size + 1 + 1, 1, none⟩) (by simp only; omega)).trans z1))
 go_wp2_with fail
 exact bodyPost_ret (v := .agg #[.int .u64 (M.hiN Y : Int), .int .u64 (M.loN Y : Int)]) (by simp [results, Tryd.results41, go_sem, f0, f1]) rfl ⟨rfl, (((b1.trans (hb3.mono b1.size)).setCell (by simp only; omega) _).setCell (by simp only; omega) _)⟩

theorem rank_lt {F : M.Fm} (h : F.Ok) : F.top * F.lead < 2 ^ 128 := by
 have := h.leadPow
 have ht := h.top2
 rw [Nat.mul_comm F.lead, ht.2.1] at this
 have : F.top * F.lead ≤ (F.top + 1) * F.lead := Nat.mul_le_mul_right _ (by omega)
 omega

theorem datRank (F : M.Fm) (h : F.Ok) (n : Bool) (r : Nat) (hr : r ≤ F.top * F.lead) (w : World) :
 Calls Tryd.prog 40 #[.agg #[.int .i64 (F.p : Int), .int .i64 (1 - (F.emax : Int)), .int .i64 (F.emax : Int), .int .i64 (F.wd : Int), .int .i64 (F.e : Int), .bool F.x], .bool n, .agg #[.int .u64 (M.hiN r : Int), .int .u64 (M.loN r : Int)]] w fun e w' => e = .returned (.agg #[.int .u64 (M.hiN (F.wat n r) : Int), .int .u64 (M.loN (F.wat n r) : Int)]) ∧ Below w.heap.size w w' := by
 have p1 := h.p1
 have p2 := h.p2
 have lp := h.leadPos
 have tp := h.top2
 have tl : F.top < 40000 := by omega
 have rl := rank_lt h
 have hr2 : r < 2 ^ 128 := Nat.lt_of_le_of_lt hr rl
 have e1 : (F.p : Int) - 1 = ((F.p - 1 : Nat) : Int) := by omega
 obtain ⟨A, hA⟩ : ∃ A, A = r / F.lead := ⟨_, rfl⟩
 have hA1 : A ≤ F.top := by rw [hA]; exact Nat.div_le_of_le_mul (by rw [Nat.mul_comm]; exact hr)
 have dm := Nat.div_add_mod r F.lead
 rw [← hA] at dm
 have ml := Nat.mod_lt r lp
 obtain ⟨C, hC⟩ : ∃ C, C = r % F.lead := ⟨_, rfl⟩
 rw [← hC] at dm ml
 have hA2 := Nat.lt_of_le_of_lt hA1 tl
 have lA := lo_small hA2
 clear rl hr
 have lL := lead_lt h
 have l2 : F.lead ≤ 2 ^ 112 := Nat.pow_le_pow_right (by omega) (by omega)
 have kR : ∀ (v : World) (z : Int), z = (F.p : Int) - 1 → Calls Tryd.prog 64 #[.agg #[.int .u64 (M.hiN r : Int), .int .u64 (M.loN r : Int)], .int .i64 z] v fun e w' => e = .returned (.agg #[.int .u64 (M.hiN A : Int), .int .u64 (M.loN A : Int)]) ∧ Below v.heap.size v w' := fun v z hz => by
  rw [hz, e1]
  exact wshr r (F.p - 1) v hr2 (by omega) A hA
 obtain ⟨B, hB⟩ : ∃ B, B = F.lead * A := ⟨_, rfl⟩
 rw [← hB] at dm
 have hB2 : B < 2 ^ 128 := by omega
 have kS : ∀ (v : World) (z : Int), z = (F.p : Int) - 1 → Calls Tryd.prog 66 #[.agg #[.int .u64 (M.hiN A : Int), .int .u64 (M.loN A : Int)], .int .i64 z] v fun e w' => e = .returned (.agg #[.int .u64 (M.hiN B : Int), .int .u64 (M.loN B : Int)]) ∧ Below v.heap.size v w' := fun v z hz => by
  rw [hz, e1]
  exact wshl A (F.p - 1) v (Nat.lt_of_lt_of_le hA2 (by decide)) (by omega) B (by rw [show A * 2 ^ (F.p - 1) = B by rw [hB, Nat.mul_comm]; rfl]; exact (Nat.mod_eq_of_lt hB2).symm)
 have hC2 : C < 2 ^ 128 := by omega
 have kM := fun v : World => wminus r B v hr2 hB2 C (sub_word dm hr2)
 clear dm hB hr2 hB2
 have HA := hid hA
 have HC := hid hC
 clear hA hC
 by_cases h0 : 0 < A
 · have a2 : F.lead ≤ C + F.lead ↔ 0 < A := by omega
   have hf := (h.fields n A (C + F.lead) hA1 (by omega) a2).2.2.2
   have hw := h.width.2.2
   have hj : jn F n (A : Int) (C + F.lead) = F.wat n r := by
    rw [jn_word h n (by omega) (by omega) (fun _ => by omega) (Nat.lt_of_lt_of_le hf hw)]
    unfold M.Fm.wat
    rw [← HA.out, ← HC.out, if_pos h0]
   have kP := fun v : World => wplus C F.lead v (by omega) lL (C + F.lead) (by rw [Nat.mod_eq_of_lt (by omega)])
   have kL := fun v : World => dLead F h v
   simp only [dv] at kL
   exact atRank_pos n r A B C F.lead (C + F.lead) (F.wat n r) _ _ _ _ _ _ w (wp1 h) (wp2 h) (by rw [lA]; exact wr_small hA2) (by rw [lA]; exact wr_small2 hA2) kR kS kM (by omega) kL kP (fun v z hz => by
    have := djoin F h n (A : Int) (C + F.lead) (by omega) v
    rw [hj] at this
    rw [hz, lA]
    exact this)
 · have hA0 : A = 0 := by omega
   have a2 : F.lead ≤ C ↔ 0 < A := by omega
   have hf := (h.fields n A C hA1 (by omega) a2).2.2.2
   have hw := h.width.2.2
   have hj : jn F n (A : Int) C = F.wat n r := by
    rw [jn_word h n (by omega) (by omega) (fun hh => by omega) (Nat.lt_of_lt_of_le hf hw)]
    unfold M.Fm.wat
    rw [← HA.out, ← HC.out, if_neg h0, Nat.add_zero]
   exact atRank_zero n r A B C 0 0 (F.wat n r) _ _ _ _ _ _ w (wp1 h) (wp2 h) (by rw [lA]; exact wr_small hA2) (by rw [lA]; exact wr_small2 hA2) kR kS kM (by omega) (fun v z hz => by
    have := djoin F h n (A : Int) C (by omega) v
    rw [hj] at this
    rw [hz, lA]
    exact this)

def stN (F : M.Fm) (t : M.Pt) (up : Bool) : Nat :=
 if t.c = 0 ∨ t.c = 5 then 0 else if t.c = 1 then F.wat (!up) 1 else if (up == t.n) = true then F.wat t.n (F.rank t - 1) else if t.c = 4 then 0 else F.wat t.n (F.rank t + 1)

def stB (t : M.Pt) (up : Bool) : Bool :=
 if t.c = 0 ∨ t.c = 5 then false else if t.c = 1 then true else if (up == t.n) = true then true else if t.c = 4 then false else true

theorem stp_bad {F : M.Fm} {t : M.Pt} {up : Bool} (hc : t.c = 0 ∨ t.c = 5) : stN F t up = 0 ∧ stB t up = false := by
 unfold stN stB; rw [if_pos hc, if_pos hc]; exact ⟨rfl, rfl⟩

theorem stp_zero {F : M.Fm} {t : M.Pt} {up : Bool} (hc : t.c = 1) : stN F t up = F.wat (!up) 1 ∧ stB t up = true := by
 unfold stN stB; rw [hc]; simp

theorem stp_in {F : M.Fm} {t : M.Pt} {up : Bool} (c0 : ¬ t.c = 0) (c5 : ¬ t.c = 5) (c1 : ¬ t.c = 1) (hn : (up == t.n) = true) : stN F t up = F.wat t.n (F.rank t - 1) ∧ stB t up = true := by
 unfold stN stB
 have : ¬ (t.c = 0 ∨ t.c = 5) := by omega
 rw [if_neg this, if_neg this, if_neg c1, if_neg c1, if_pos hn, if_pos hn]; exact ⟨rfl, rfl⟩

theorem stp_inf {F : M.Fm} {t : M.Pt} {up : Bool} (hc : t.c = 4) (hn : (up == t.n) = false) : stN F t up = 0 ∧ stB t up = false := by
 unfold stN stB; rw [hc, hn]; simp

theorem stp_out {F : M.Fm} {t : M.Pt} {up : Bool} (c0 : ¬ t.c = 0) (c5 : ¬ t.c = 5) (c1 : ¬ t.c = 1) (c4 : ¬ t.c = 4) (hn : (up == t.n) = false) : stN F t up = F.wat t.n (F.rank t + 1) ∧ stB t up = true := by
 unfold stN stB
 have : ¬ (t.c = 0 ∨ t.c = 5) := by omega
 rw [if_neg this, if_neg this, if_neg c1, if_neg c1, hn, if_neg c4, if_neg c4]; simp

theorem rank_room2 {F : M.Fm} (h : F.Ok) {k s : Nat} (hk : k + 2 ≤ F.top) (hs : s < 2 * F.lead) : s < 2 ^ 120 ∧ k ≤ 40000 ∧ k * F.lead + s < 2 ^ 128 := by
 have h1 := h.leadPow
 have h2 := h.p2
 have h3 := h.e2
 have ht : F.top + 1 = 2 ^ F.e := by unfold M.Fm.top; have := Nat.pow_pos (n := F.e) (show 0 < 2 by omega); omega
 have he : 2 ^ F.e ≤ 2 ^ 15 := Nat.pow_le_pow_right (by omega) h3
 have hl : F.lead ≤ 2 ^ 112 := by unfold M.Fm.lead; exact Nat.pow_le_pow_right (by omega) (by omega)
 have hm : (k + 2) * F.lead ≤ F.top * F.lead := Nat.mul_le_mul_right _ hk
 have hm2 : F.top * F.lead ≤ F.lead * 2 ^ F.e := by rw [← ht, Nat.mul_comm]; exact Nat.mul_le_mul_left _ (by omega)
 have hm3 : (k + 2) * F.lead = k * F.lead + 2 * F.lead := by rw [Nat.add_mul]
 refine ⟨by omega, by omega, by omega⟩

theorem drank_any (F : M.Fm) (h : F.Ok) (t : M.Pt) (hp : F.Proper t) (h5 : t.c ≠ 5) (v : World) :
 Calls Tryd.prog 41 #[.agg #[.int .i64 (F.p : Int), .int .i64 (1 - (F.emax : Int)), .int .i64 (F.emax : Int), .int .i64 (F.wd : Int), .int .i64 (F.e : Int), .bool F.x], .agg #[.int .i64 t.c, .bool t.n, .int .u64 (M.hiN t.s : Int), .int .u64 (M.loN t.s : Int), .int .i64 t.q]] v fun e w' => e = .returned (.agg #[.int .u64 (M.hiN (F.rank t) : Int), .int .u64 (M.loN (F.rank t) : Int)]) ∧ Below v.heap.size v w' := by
 by_cases h1 : t.c = 1
 · have e : F.rank t = 0 := by unfold M.Fm.rank; rw [if_pos h1]
   rw [e]
   exact drank1 F h t.c t.n t.s t.q v h1
 · by_cases h4 : t.c = 4
   · have e : F.rank t = F.top * F.lead := by unfold M.Fm.rank; rw [if_neg h1, if_pos h4]
     rw [e]
     exact drank4 F h t.c t.n t.s t.q v h4
   · have e : F.rank t = (t.q - F.qmin).toNat * F.lead + t.s := by unfold M.Fm.rank; rw [if_neg h1, if_neg h4]
     have ht := h.top2
     have hlp := h.leadPos
     have hq : 0 ≤ t.q - F.qmin ∧ (t.q - F.qmin).toNat + 2 ≤ F.top ∧ t.s < 2 * F.lead := by
      rcases hp with hp | hp | hp | hp | hp
      · exact absurd hp.1 h1
      · exact absurd hp.1 h4
      · exact absurd hp.1 h5
      · obtain ⟨_, _, b, c⟩ := hp
        rw [c]
        refine ⟨by omega, ?_, by omega⟩
        have : (F.qmin - F.qmin).toNat = 0 := by omega
        omega
      · obtain ⟨_, _, b, c, d⟩ := hp
        have hqm : F.qmin = 2 - (F.emax : Int) - (F.p : Int) := rfl
        exact ⟨by omega, by omega, b⟩
     obtain ⟨r1, r2, r3⟩ := rank_room2 h hq.2.1 hq.2.2
     rw [e]
     exact drankF F h t.c t.n t.s t.q v h1 h4 _ (by omega) r2 r1 r3

theorem rank_in {F : M.Fm} (h : F.Ok) {t : M.Pt} (hp : F.Proper t) (h5 : ¬ t.c = 5) : (¬ t.c = 1 → 1 ≤ F.rank t) ∧ F.rank t ≤ F.top * F.lead := by
 have lp := h.leadPos
 have tp := h.top2
 by_cases h1 : t.c = 1
 · have e : F.rank t = 0 := by unfold M.Fm.rank; rw [if_pos h1]
   rw [e]; exact ⟨fun q => absurd h1 q, Nat.zero_le _⟩
 · by_cases h4 : t.c = 4
   · have e : F.rank t = F.top * F.lead := by unfold M.Fm.rank; rw [if_neg h1, if_pos h4]
     rw [e]; exact ⟨fun _ => Nat.mul_le_mul (show 1 ≤ F.top by omega) lp, Nat.le_refl _⟩
   · have hc : t.c = 2 ∨ t.c = 3 := by have := hp; unfold M.Fm.Proper at this; omega
     exact ⟨fun _ => (h.shrink_eq t hp hc).2, Nat.le_of_lt (h.grow_eq t hp hc).2⟩

theorem istep_any (f : Nat) (hf : f < 4) (X : Nat) (hX : X < 2 ^ 128) (up : Bool) (w : World) (hm : Fmt w) :
 Calls Tryd.prog 11 #[.int .i64 (f : Int), .agg #[.int .u64 (M.hiN X : Int), .int .u64 (M.loN X : Int)], .bool up] w fun e w' => e = .returned (.tuple #[.agg #[.int .u64 (M.hiN (stN (M.fm f) ((M.fm f).upk X) up) : Int), .int .u64 (M.loN (stN (M.fm f) ((M.fm f).upk X) up) : Int)], .bool (stB ((M.fm f).upk X) up)]) ∧ Below w.heap.size w w' := by
 have kE := fun (v : World) (hv : Fmt v) => describe_ok f hf v hv
 have kU := fun (v : World) (hv : Fmt v) => iunpack_any f hf X hX v hv
 have h := M.fm_ok f
 generalize M.fm f = F at *
 have hp := h.upk_proper X
 obtain ⟨T, hT⟩ : ∃ T, T = F.upk X := ⟨_, rfl⟩
 rw [← hT] at kU hp ⊢
 simp only [dv, pv] at kE kU
 have lp := h.leadPos
 have tp := h.top2
 have rl := rank_lt h
 have o1 : M.hiN 1 = 0 := by decide
 have o2 : M.loN 1 = 1 := by decide
 by_cases hc : T.c = 0 ∨ T.c = 5
 · rw [(stp_bad (F := F) (up := up) hc).1, (stp_bad (F := F) (up := up) hc).2, hi0, lo0]
   exact istep0 (f : Int) X up T _ _ _ _ _ _ w hm kE kU (fun v => pValued _ _ _ _ _ v _ (by rcases hc with hc | hc <;> simp [hc]))
 · have c0 : ¬ T.c = 0 := fun q => hc (Or.inl q)
   have c5 : ¬ T.c = 5 := fun q => hc (Or.inr q)
   have hpr : F.Proper T := by
    rcases hp with hp | hp
    · rw [hp] at c0; simp at c0
    · exact hp
   have kV := fun v : World => pValued T.c T.n (M.hiN T.s : Int) (M.loN T.s : Int) T.q v true (by simp [c0, c5])
   by_cases c1 : T.c = 1
   · rw [(stp_zero (F := F) (up := up) c1).1, (stp_zero (F := F) (up := up) c1).2]
     refine istep1 (f : Int) X up T _ _ _ _ _ _ w hm kE kU kV c1 _ (fun v => ?_)
     have := datRank F h (!up) 1 (Nat.le_trans (by omega) (Nat.mul_le_mul (show 1 ≤ F.top by omega) lp)) v
     rw [o1, o2] at this
     exact this
   · -- the rank
     have kR : ∀ v : World, Calls Tryd.prog 41 #[.agg #[.int .i64 (F.p : Int), .int .i64 (1 - (F.emax : Int)), .int .i64 (F.emax : Int), .int .i64 (F.wd : Int), .int .i64 (F.e : Int), .bool F.x], .agg #[.int .i64 T.c, .bool T.n, .int .u64 (M.hiN T.s : Int), .int .u64 (M.loN T.s : Int), .int .i64 T.q]] v fun e w' => e = .returned (.agg #[.int .u64 (M.hiN (F.rank T) : Int), .int .u64 (M.loN (F.rank T) : Int)]) ∧ Below v.heap.size v w' := fun v => by
      have := drank_any F h T hpr c5 v
      exact this
     have rk := rank_in h hpr c5
     have l1 : 1 < 2 ^ 128 := by decide
     by_cases hn : (up == T.n) = true
     · rw [(stp_in (F := F) c0 c5 c1 hn).1, (stp_in (F := F) c0 c5 c1 hn).2]
       have kM := fun v : World => wminus (F.rank T) 1 v (Nat.lt_of_le_of_lt rk.2 rl) l1 (F.rank T - 1) (sub_word (by have := rk.1 c1; omega) (Nat.lt_of_le_of_lt rk.2 rl))
       rw [o1, o2] at kM
       have kA := fun v : World => datRank F h T.n (F.rank T - 1) (Nat.le_trans (Nat.sub_le _ _) rk.2) v
       exact istep2 (f : Int) X up T _ _ _ _ _ _ w hm kE kU kV c1 _ _ _ kR kM kA hn
     · have hn' : (up == T.n) = false := by simpa using hn
       by_cases c4 : T.c = 4
       · rw [(stp_inf (F := F) c4 hn').1, (stp_inf (F := F) c4 hn').2, hi0, lo0]
         exact istep3 (f : Int) X up T _ _ _ _ _ _ w hm kE kU kV c1 _ 0 0 kR hn' c4
       · rw [(stp_out (F := F) c0 c5 c1 c4 hn').1, (stp_out (F := F) c0 c5 c1 c4 hn').2]
         have gt := (h.grow_eq T hpr (by have := hpr; unfold M.Fm.Proper at this; omega)).2
         have kP := fun v : World => wplus (F.rank T) 1 v (Nat.lt_of_le_of_lt rk.2 rl) l1 (F.rank T + 1) (by rw [Nat.mod_eq_of_lt (by omega)])
         rw [o1, o2] at kP
         have kA := fun v : World => datRank F h T.n (F.rank T + 1) gt v
         exact istep4 (f : Int) X up T _ _ _ _ _ _ w hm kE kU kV c1 _ _ _ kR kP kA hn' c4

end Go.Proofs.YtogkkecnmlnajaaDoor
