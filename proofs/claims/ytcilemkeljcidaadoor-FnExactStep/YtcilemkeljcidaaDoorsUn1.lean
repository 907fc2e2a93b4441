import Derived.Test.YtcilemkeljcidaaDoorsWd4
import Derived.Test.YtcilemkeljcidaaDoorsUnA
set_option maxHeartbeats 12000000
set_option maxRecDepth 10000
namespace Go.Proofs.YtcilemkeljcidaaDoor
open Go.RowKit
set_option linter.unusedVariables false
set_option maxRecDepth 100000
theorem unpack_any (F : M.Fm) (h : F.Ok) (X : Nat) (hX : X < 2 ^ 128) (w : World) :
 Calls Tryd.prog 31 #[dv F, .agg #[.int .u64 (M.hiN X : Int), .int .u64 (M.loN X : Int)]] w fun e w' => e = .returned (pv (F.upk X)) ∧ Below w.heap.size w w' := by
 obtain ⟨A, hA⟩ : ∃ A, A = X / 2 ^ F.fb := ⟨_, rfl⟩
 obtain ⟨B, hB⟩ : ∃ B, B = A * 2 ^ F.fb % 2 ^ 128 := ⟨_, rfl⟩
 obtain ⟨G0, hG⟩ : ∃ G0, G0 = X % 2 ^ F.fb := ⟨_, rfl⟩
 have hfb : F.fb < 128 := by have := h.w; unfold M.Fm.wd at this; omega
 have hAl : A ≤ X := by rw [hA]; exact Nat.div_le_self _ _
 have hBe : B = A * 2 ^ F.fb := by
  rw [hB]; apply Nat.mod_eq_of_lt; rw [hA]; exact Nat.lt_of_le_of_lt (Nat.div_mul_le_self _ _) hX
 have hBl : B ≤ X := by rw [hBe, hA]; exact Nat.div_mul_le_self _ _
 have hGe : G0 = (X + (2 ^ 128 - B)) % 2 ^ 128 := by
  have := Nat.div_add_mod X (2 ^ F.fb)
  rw [Nat.mul_comm, ← hA, ← hBe, ← hG] at this
  omega
 obtain ⟨Sn, hS⟩ : ∃ Sn, Sn = A / 2 ^ F.e := ⟨_, rfl⟩
 obtain ⟨fl, hfl⟩ : ∃ fl, fl = F.fld X := ⟨_, rfl⟩
 have hFl : bits BinOp.and IntKind.i64 (IntKind.i64.wrap (M.loN A : Int)) (F.top : Int) = (fl : Int) := by
  rw [hfl]; unfold M.Fm.fld; rw [← hA]; exact and_top A F.e F.top h.top2.2.1 h.e2
 have kS := fun v : World => wshr A F.e v (by omega) (by have := h.e2; omega) Sn hS
 have kT := fun v : World => dTop F h v
 obtain ⟨Sg, hSg⟩ : ∃ Sg, Sg = F.sig X := ⟨_, rfl⟩
 have hGl : G0 < 2 ^ F.fb := by rw [hG]; exact Nat.mod_lt _ (Nat.pow_pos (by omega))
 have hlp := h.leadPos
 have hl128 : 2 * F.lead ≤ 2 ^ 114 := by have := h.p2; have := h.p1; unfold M.Fm.lead; rw [Nat.mul_comm, ← Nat.pow_succ]; exact Nat.pow_le_pow_right (by omega) (by omega)
 have hP : 2 ^ F.fb ≤ 2 * F.lead := by rw [h.ad]; split <;> omega
 have hSy : F.x = false ∧ 0 < fl → Sg = (G0 + F.lead) % 2 ^ 128 := by
  intro hh
  rw [hSg]; unfold M.Fm.sig; rw [← hfl, if_pos hh, ← hG]; omega
 have hSn : ¬ (F.x = false ∧ 0 < fl) → Sg = G0 := by
  intro hh
  rw [hSg]; unfold M.Fm.sig; rw [← hfl, if_neg hh, ← hG]
 have kL := fun v : World => dLead F h v
 have kP := fun (v : World) (hh : F.x = false ∧ 0 < fl) => wplus G0 F.lead v (by omega) (by omega) Sg (hSy hh)
 obtain ⟨r, hr⟩ : ∃ r, r = M.cmpN Sg F.lead := ⟨_, rfl⟩
 obtain ⟨r2, hr2⟩ : ∃ r2, r2 = M.cmpN Sn 1 := ⟨_, rfl⟩
 have kC := fun v : World => wcmp Sg F.lead v r hr
 have kD := fun v : World => wcmp Sn 1 v r2 hr2
 rw [M.hi_small (show 1 < 18446744073709551616 by omega), M.lo_small (show 1 < 18446744073709551616 by omega)] at kD
 have hU := upk_eq hfl hSg (show Sn = F.sgn X by rw [hS, hA]; rfl)
 have HU := hid hU; clear hU
 have hem : F.emax ≤ 16383 := h.top2.2.2.2
 have hpp : F.p ≤ 113 := h.p2
 have HR := hid hr; have HR2 := hid hr2; clear hr hr2
 have kF := fun v : World => dFrac F h v
 have kA := fun v : World => wshr X F.fb v hX hfb A hA
 have kB := fun v : World => wshl A F.fb v (by omega) hfb B hB
 have kG := fun v : World => wminus X B v hX (by omega) G0 hGe
 have HSg := hid hSg; have HSn := hid hSn
 clear hSg hSy hSn hGl hlp hl128 hP
 have HFl := hid hFl; have HS := hid hS; have Hfl := hid hfl
 have hflt : fl ≤ 40000 := by have := h.top2; have := M.Fm.fldLe h X; omega
 clear hFl hS hfl
 have HA := hid hA; have HG := hid hG; have HX := hid hX
 clear hA hB hG hGe hBe hBl hAl hX
 obtain ⟨T, hT⟩ : ∃ T, T = F.upk X := ⟨_, rfl⟩
 rw [← hT] at HU
 rw [← hT]
 clear hT
 simp only [dv] at kF kL kT ⊢
 go_enter Tryd.func31, Tryd.ntmps31
 go_upto_region 1 with fail
 have b1 : Below w.heap.size w (((w.alloc (.cells #[.int .i64 (F.p : Int), .int .i64 (1 - (F.emax : Int)), .int .i64 (F.emax : Int), .int .i64 (F.wd : Int), .int .i64 (F.e : Int), .bool F.x] 23)).alloc (.cells #[.int .u64 (M.hiN X : Int), .int .u64 (M.loN X : Int)] 30)).alloc (.cells #[.int .i64 0, .bool false, .int .u64 0, .int .u64 0, .int .i64 0] 32)) :=
  (((Below.refl _ _).alloc (Nat.le_refl _) _).alloc (by simp) _).alloc (by simp; omega) _
 generalize hw1 : ((w.alloc (.cells #[.int .i64 (F.p : Int), .int .i64 (1 - (F.emax : Int)), .int .i64 (F.emax : Int), .int .i64 (F.wd : Int), .int .i64 (F.e : Int), .bool F.x] 23)).alloc (.cells #[.int .u64 (M.hiN X : Int), .int .u64 (M.loN X : Int)] 30)).alloc (.cells #[.int .i64 0, .bool false, .int .u64 0, .int .u64 0, .int .i64 0] 32) = w1 at b1 ⊢
 have c0 : w1.cell? ⟨w.heap.size, 0, none⟩ = some (.int .i64 (F.p : Int)) := by rw [← hw1]; simp [go_sem]
 have c1 : w1.cell? ⟨w.heap.size, 1, none⟩ = some (.int .i64 (1 - (F.emax : Int))) := by rw [← hw1]; simp [go_sem]
 have c2 : w1.cell? ⟨w.heap.size, 2, none⟩ = some (.int .i64 (F.emax : Int)) := by rw [← hw1]; simp [go_sem]
 have c3 : w1.cell? ⟨w.heap.size, 3, none⟩ = some (.int .i64 (F.wd : Int)) := by rw [← hw1]; simp [go_sem]
 have c4 : w1.cell? ⟨w.heap.size, 4, none⟩ = some (.int .i64 (F.e : Int)) := by rw [← hw1]; simp [go_sem]
 have c5 : w1.cell? ⟨w.heap.size, 5, none⟩ = some (.bool F.x) := by rw [← hw1]; simp [go_sem]
 have c6 : w1.cell? ⟨w.heap.size + 1, 0, none⟩ = some (.int .u64 (M.hiN X : Int)) := by rw [← hw1]; simp [go_sem]
 have c7 : w1.cell? ⟨w.heap.size + 1, 1, none⟩ = some (.int .u64 (M.loN X : Int)) := by rw [← hw1]; simp [go_sem]
 have c8 : w1.cell? ⟨w.heap.size + 1 + 1, 0, none⟩ = some (.int .i64 0) := by rw [← hw1]; simp [go_sem]
 have c9 : w1.cell? ⟨w.heap.size + 1 + 1, 1, none⟩ = some (.bool false) := by rw [← hw1]; simp [go_sem]
 have c10 : w1.cell? ⟨w.heap.size + 1 + 1, 2, none⟩ = some (.int .u64 0) := by rw [← hw1]; simp [go_sem]
 have c11 : w1.cell? ⟨w.heap.size + 1 + 1, 3, none⟩ = some (.int .u64 0) := by rw [← hw1]; simp [go_sem]
 have c12 : w1.cell? ⟨w.heap.size + 1 + 1, 4, none⟩ = some (.int .i64 0) := by rw [← hw1]; simp [go_sem]
 have z0 : w1.frozen? ⟨w.heap.size + 1 + 1, 0, none⟩ = false := by rw [← hw1]; simp [go_sem]
 have z1 : w1.frozen? ⟨w.heap.size + 1 + 1, 1, none⟩ = false := by rw [← hw1]; simp [go_sem]
 have z2 : w1.frozen? ⟨w.heap.size + 1 + 1, 2, none⟩ = false := by rw [← hw1]; simp [go_sem]
 have z3 : w1.frozen? ⟨w.heap.size + 1 + 1, 3, none⟩ = false := by rw [← hw1]; simp [go_sem]
 have z4 : w1.frozen? ⟨w.heap.size + 1 + 1, 4, none⟩ = false := by rw [← hw1]; simp [go_sem]
 have n1 : w.heap.size + 3 ≤ w1.heap.size := by rw [← hw1]; simp
 clear hw1
 have Kof := fun (v : World) (hv : Below w1.heap.size w1 v) => And.intro hv (And.intro (kc hv c0) (And.intro (kc hv c1) (And.intro (kc hv c2) (And.intro (kc hv c3) (And.intro (kc hv c4) (And.intro (kc hv c5) (And.intro (kc hv c6) (kc hv c7))))))))
 go_cut [5] (fun p wx => ∃ g, p = .pointer (some ⟨g, 0, none⟩) ∧ w1.heap.size ≤ g ∧ W2 wx g A ∧ Below w1.heap.size w1 wx)
 case first =>
  clear c0 c1 c2 c3 c4 c5 c6 c7 c8 c9 c10 c11 c12 z0 z1 z2 z3 z4
  go_region_held3 (fun v => Below w1.heap.size w1 v ∧ v.cell? ⟨w.heap.size, 0, none⟩ = some (.int .i64 (F.p : Int)) ∧ v.cell? ⟨w.heap.size, 1, none⟩ = some (.int .i64 (1 - (F.emax : Int))) ∧ v.cell? ⟨w.heap.size, 2, none⟩ = some (.int .i64 (F.emax : Int)) ∧ v.cell? ⟨w.heap.size, 3, none⟩ = some (.int .i64 (F.wd : Int)) ∧ v.cell? ⟨w.heap.size, 4, none⟩ = some (.int .i64 (F.e : Int)) ∧ v.cell? ⟨w.heap.size, 5, none⟩ = some (.bool F.x) ∧ v.cell? ⟨w.heap.size + 1, 0, none⟩ = some (.int .u64 (M.hiN X : Int)) ∧ v.cell? ⟨w.heap.size + 1, 1, none⟩ = some (.int .u64 (M.loN X : Int))) (first | exact Kof _ (by assumption) | exact Kof _ (keepDr (by assumption)) | exact Kof _ (keepAl (by assumption) _) | exact Kof _ (keepAl2 (by assumption) _) | exact Kof _ (keepSt2 (keepSt2 (by assumption) _ _ (by first | assumption | exact Below.size (by assumption) | omega) _) _ _ (by first | assumption | exact Below.size (by assumption) | omega) _) | exact Kof _ (Below.refl _ _).drew)
   (first | (go_at_call 53; refine (kF _).mono ?_; rintro e w' ⟨rfl, hb0⟩; have hb1 := keepC (w1 := w1) (And.left (by assumption)) hb0; have hc1 := (bcell hb0).1; have hf1 := (bcell hb0).2; have hz1 := hb0.size; (try simp at hz1); (try replace hz1 := Nat.lt_of_succ_le hz1); clear hb0) | (go_at_call 52; refine (kA _).mono ?_; rintro e w' ⟨rfl, hb0⟩; have hb2 := keepC (w1 := w1) (And.left (by assumption)) hb0; have hc2 := (bcell hb0).1; have hf2 := (bcell hb0).2; have hz2 := hb0.size; (try simp at hz2); (try replace hz2 := Nat.lt_of_succ_le hz2); clear hb0; (try have hy2 := Nat.lt_of_lt_of_le hz1 hz2)))
  all_goals go_wp2_with fail
  all_goals go_meet
  · exact ⟨_, rfl, hb2.size, W2_new _ _ _, keepAl2 hb2 _⟩
  · exact ⟨_, rfl, hb1.size, W2_set (a := .int .u64 0) (b := .int .u64 0) (by simp [hc2, go_sem]) (by simp [hc2, go_sem]) (by simp [hf2, go_sem]) (by simp [hf2, go_sem]), keepSt2 (keepSt2 hb2 _ _ (hb1.size) _) _ _ (hb1.size) _⟩
  · exact ⟨_, rfl, Nat.le_refl _, W2_set (a := .int .u64 0) (b := .int .u64 0) (by simp [hc2, hc1, hz1, go_sem]) (by simp [hc2, hc1, hz1, go_sem]) (by simp [hf2, hf1, hz1, go_sem]) (by simp [hf2, hf1, hz1, go_sem]), keepSt2 (keepSt2 hb2 _ _ (Nat.le_refl _) _) _ _ (Nat.le_refl _) _⟩
 clear Kof kA
 rename World => w2
 obtain ⟨g5, rfl, geg5, ⟨y0, y1, y2, y3, y4⟩, hbn⟩ := hcut
 have nw2 := hbn.size
 replace c0 := kc hbn c0
 replace c1 := kc hbn c1
 replace c2 := kc hbn c2
 replace c3 := kc hbn c3
 replace c4 := kc hbn c4
 replace c5 := kc hbn c5
 replace c6 := kc hbn c6
 replace c7 := kc hbn c7
 replace c8 := kc hbn c8
 replace c9 := kc hbn c9
 replace c10 := kc hbn c10
 replace c11 := kc hbn c11
 replace c12 := kc hbn c12
 replace z0 := kz hbn (by omega) z0
 replace z1 := kz hbn (by omega) z1
 replace z2 := kz hbn (by omega) z2
 replace z3 := kz hbn (by omega) z3
 replace z4 := kz hbn (by omega) z4
 have c13 := y0
 have c14 := y1
 have z5 := y2
 have z6 := y3
 have lg5 := y4
 clear y0 y1 y2 y3 y4
 replace b1 := b1.trans (hbn.mono b1.size)
 clear hbn
 go_upto_region 2 with fail
 have Kof := fun (v : World) (hv : Below w2.heap.size w2 v) => And.intro hv (And.intro (kc hv c0) (And.intro (kc hv c1) (And.intro (kc hv c2) (And.intro (kc hv c3) (And.intro (kc hv c4) (And.intro (kc hv c5) (And.intro (kc hv c6) (And.intro (kc hv c7) (And.intro (kc hv c13) (kc hv c14))))))))))
 go_cut [6] (fun p wx => ∃ g, p = .pointer (some ⟨g, 0, none⟩) ∧ w2.heap.size ≤ g ∧ W2 wx g G0 ∧ Below w2.heap.size w2 wx)
 case first =>
  clear c0 c1 c2 c3 c4 c5 c6 c7 c8 c9 c10 c11 c12 c13 c14 z0 z1 z2 z3 z4 z5 z6
  go_region_held3 (fun v => Below w2.heap.size w2 v ∧ v.cell? ⟨w.heap.size, 0, none⟩ = some (.int .i64 (F.p : Int)) ∧ v.cell? ⟨w.heap.size, 1, none⟩ = some (.int .i64 (1 - (F.emax : Int))) ∧ v.cell? ⟨w.heap.size, 2, none⟩ = some (.int .i64 (F.emax : Int)) ∧ v.cell? ⟨w.heap.size, 3, none⟩ = some (.int .i64 (F.wd : Int)) ∧ v.cell? ⟨w.heap.size, 4, none⟩ = some (.int .i64 (F.e : Int)) ∧ v.cell? ⟨w.heap.size, 5, none⟩ = some (.bool F.x) ∧ v.cell? ⟨w.heap.size + 1, 0, none⟩ = some (.int .u64 (M.hiN X : Int)) ∧ v.cell? ⟨w.heap.size + 1, 1, none⟩ = some (.int .u64 (M.loN X : Int)) ∧ v.cell? ⟨g5, 0, none⟩ = some (.int .u64 (M.hiN A : Int)) ∧ v.cell? ⟨g5, 1, none⟩ = some (.int .u64 (M.loN A : Int))) (first | exact Kof _ (by assumption) | exact Kof _ (keepDr (by assumption)) | exact Kof _ (keepAl (by assumption) _) | exact Kof _ (keepAl2 (by assumption) _) | exact Kof _ (keepSt2 (keepSt2 (by assumption) _ _ (by first | assumption | exact Below.size (by assumption) | omega) _) _ _ (by first | assumption | exact Below.size (by assumption) | omega) _) | exact Kof _ (Below.refl _ _).drew)
   (first | (go_at_call 53; refine (kF _).mono ?_; rintro e w' ⟨rfl, hb0⟩; have hb1 := keepC (w1 := w2) (And.left (by assumption)) hb0; have hc1 := (bcell hb0).1; have hf1 := (bcell hb0).2; have hz1 := hb0.size; (try simp at hz1); (try replace hz1 := Nat.lt_of_succ_le hz1); clear hb0) | (go_at_call 54; refine (kB _).mono ?_; rintro e w' ⟨rfl, hb0⟩; have hb2 := keepC (w1 := w2) (And.left (by assumption)) hb0; have hc2 := (bcell hb0).1; have hf2 := (bcell hb0).2; have hz2 := hb0.size; (try simp at hz2); (try replace hz2 := Nat.lt_of_succ_le hz2); clear hb0; (try have hy2 := Nat.lt_of_lt_of_le hz1 hz2)) | (go_at_call 46; refine (kG _).mono ?_; rintro e w' ⟨rfl, hb0⟩; have hb3 := keepC (w1 := w2) (And.left (by assumption)) hb0; have hc3 := (bcell hb0).1; have hf3 := (bcell hb0).2; have hz3 := hb0.size; (try simp at hz3); (try replace hz3 := Nat.lt_of_succ_le hz3); clear hb0; (try have hy3 := Nat.lt_of_lt_of_le hz2 hz3)))
  all_goals go_wp2_with fail
  all_goals go_meet
  · exact ⟨_, rfl, hb3.size, W2_new _ _ _, keepAl2 hb3 _⟩
  · exact ⟨_, rfl, hb2.size, W2_set (a := .int .u64 0) (b := .int .u64 0) (by simp [hc3, go_sem]) (by simp [hc3, go_sem]) (by simp [hf3, go_sem]) (by simp [hf3, go_sem]), keepSt2 (keepSt2 hb3 _ _ (hb2.size) _) _ _ (hb2.size) _⟩
  · exact ⟨_, rfl, hb1.size, W2_set (a := .int .u64 0) (b := .int .u64 0) (by simp [hc3, hc2, hz2, go_sem]) (by simp [hc3, hc2, hz2, go_sem]) (by simp [hf3, hf2, hz2, go_sem]) (by simp [hf3, hf2, hz2, go_sem]), keepSt2 (keepSt2 hb3 _ _ (hb1.size) _) _ _ (hb1.size) _⟩
  · exact ⟨_, rfl, Nat.le_refl _, W2_set (a := .int .u64 0) (b := .int .u64 0) (by simp [hc3, hc2, hc1, hz1, hy2, go_sem]) (by simp [hc3, hc2, hc1, hz1, hy2, go_sem]) (by simp [hf3, hf2, hf1, hz1, hy2, go_sem]) (by simp [hf3, hf2, hf1, hz1, hy2, go_sem]), keepSt2 (keepSt2 hb3 _ _ (Nat.le_refl _) _) _ _ (Nat.le_refl _) _⟩
 clear Kof kB kG
 rename World => w3
 obtain ⟨g6, rfl, geg6, ⟨y0, y1, y2, y3, y4⟩, hbn⟩ := hcut
 have nw3 := hbn.size
 replace c0 := kc hbn c0
 replace c1 := kc hbn c1
 replace c2 := kc hbn c2
 replace c3 := kc hbn c3
 replace c4 := kc hbn c4
 replace c5 := kc hbn c5
 replace c6 := kc hbn c6
 replace c7 := kc hbn c7
 replace c8 := kc hbn c8
 replace c9 := kc hbn c9
 replace c10 := kc hbn c10
 replace c11 := kc hbn c11
 replace c12 := kc hbn c12
 replace c13 := kc hbn c13
 replace c14 := kc hbn c14
 replace z0 := kz hbn (by omega) z0
 replace z1 := kz hbn (by omega) z1
 replace z2 := kz hbn (by omega) z2
 replace z3 := kz hbn (by omega) z3
 replace z4 := kz hbn (by omega) z4
 replace z5 := kz hbn (by omega) z5
 replace z6 := kz hbn (by omega) z6
 have c15 := y0
 have c16 := y1
 have z7 := y2
 have z8 := y3
 have lg6 := y4
 clear y0 y1 y2 y3 y4
 replace b1 := b1.trans (hbn.mono b1.size)
 clear hbn
 go_upto_region 3 with fail
 have Kof := fun (v : World) (hv : Below w3.heap.size w3 v) => And.intro hv (And.intro (kc hv c0) (And.intro (kc hv c1) (And.intro (kc hv c2) (And.intro (kc hv c3) (And.intro (kc hv c4) (And.intro (kc hv c5) (And.intro (kc hv c13) (kc hv c14))))))))
 go_cut [7] (fun p wx => p = .int .i64 (fl : Int) ∧ Below w3.heap.size w3 wx)
 case first =>
  clear c0 c1 c2 c3 c4 c5 c6 c7 c8 c9 c10 c11 c12 c13 c14 c15 c16 z0 z1 z2 z3 z4 z5 z6 z7 z8
  go_region_held3 (fun v => Below w3.heap.size w3 v ∧ v.cell? ⟨w.heap.size, 0, none⟩ = some (.int .i64 (F.p : Int)) ∧ v.cell? ⟨w.heap.size, 1, none⟩ = some (.int .i64 (1 - (F.emax : Int))) ∧ v.cell? ⟨w.heap.size, 2, none⟩ = some (.int .i64 (F.emax : Int)) ∧ v.cell? ⟨w.heap.size, 3, none⟩ = some (.int .i64 (F.wd : Int)) ∧ v.cell? ⟨w.heap.size, 4, none⟩ = some (.int .i64 (F.e : Int)) ∧ v.cell? ⟨w.heap.size, 5, none⟩ = some (.bool F.x) ∧ v.cell? ⟨g5, 0, none⟩ = some (.int .u64 (M.hiN A : Int)) ∧ v.cell? ⟨g5, 1, none⟩ = some (.int .u64 (M.loN A : Int))) (first | exact Kof _ (by assumption) | exact Kof _ (keepDr (by assumption)) | exact Kof _ (keepAl (by assumption) _) | exact Kof _ (keepAl2 (by assumption) _) | exact Kof _ (keepSt2 (keepSt2 (by assumption) _ _ (by first | assumption | exact Below.size (by assumption) | omega) _) _ _ (by first | assumption | exact Below.size (by assumption) | omega) _) | exact Kof _ (Below.refl _ _).drew)
   (first | (go_at_call 55; refine (kT _).mono ?_; rintro e w' ⟨rfl, hb0⟩; have hb1 := keepC (w1 := w3) (And.left (by assumption)) hb0; have hc1 := (bcell hb0).1; have hf1 := (bcell hb0).2; have hz1 := hb0.size; (try simp at hz1); (try replace hz1 := Nat.lt_of_succ_le hz1); clear hb0))
  all_goals go_wp2_with fail
  all_goals go_meet
  exact ⟨congrArg (Value.int .i64) HFl.out, hb1⟩
 clear Kof
 rename World => w4
 obtain ⟨rfl, hbn⟩ := hcut
 have nw4 := hbn.size
 replace c0 := kc hbn c0
 replace c1 := kc hbn c1
 replace c2 := kc hbn c2
 replace c3 := kc hbn c3
 replace c4 := kc hbn c4
 replace c5 := kc hbn c5
 replace c6 := kc hbn c6
 replace c7 := kc hbn c7
 replace c8 := kc hbn c8
 replace c9 := kc hbn c9
 replace c10 := kc hbn c10
 replace c11 := kc hbn c11
 replace c12 := kc hbn c12
 replace c13 := kc hbn c13
 replace c14 := kc hbn c14
 replace c15 := kc hbn c15
 replace c16 := kc hbn c16
 replace z0 := kz hbn (by omega) z0
 replace z1 := kz hbn (by omega) z1
 replace z2 := kz hbn (by omega) z2
 replace z3 := kz hbn (by omega) z3
 replace z4 := kz hbn (by omega) z4
 replace z5 := kz hbn (by omega) z5
 replace z6 := kz hbn (by omega) z6
 replace z7 := kz hbn (by omega) z7
 replace z8 := kz hbn (by omega) z8
 replace b1 := b1.trans (hbn.mono b1.size)
 clear hbn
 go_upto_region 5 with (first | (go_at_call 52; refine (kS _).mono ?_; rintro e w' ⟨rfl, hb0⟩; have hc1 := (bcell hb0).1; have hf1 := (bcell hb0).2; have hz1 := hb0.size))
 have hbn : Below w4.heap.size w4 (w'.alloc (.cells #[.int .u64 (M.hiN Sn : Int), .int .u64 (M.loN Sn : Int)] 30)) := keepAl2 hb0 _
 obtain ⟨y0, y1, y2, y3, y4⟩ := W2_new w' Sn 30
 clear hc1 hf1 hb0
 generalize w'.alloc (.cells #[.int .u64 (M.hiN Sn : Int), .int .u64 (M.loN Sn : Int)] 30) = w5 at *
 generalize w'.heap.size = g8 at *
 have nw5 := hbn.size
 replace c0 := kc hbn c0
 replace c1 := kc hbn c1
 replace c2 := kc hbn c2
 replace c3 := kc hbn c3
 replace c4 := kc hbn c4
 replace c5 := kc hbn c5
 replace c6 := kc hbn c6
 replace c7 := kc hbn c7
 replace c8 := kc hbn c8
 replace c9 := kc hbn c9
 replace c10 := kc hbn c10
 replace c11 := kc hbn c11
 replace c12 := kc hbn c12
 replace c13 := kc hbn c13
 replace c14 := kc hbn c14
 replace c15 := kc hbn c15
 replace c16 := kc hbn c16
 replace z0 := kz hbn (by omega) z0
 replace z1 := kz hbn (by omega) z1
 replace z2 := kz hbn (by omega) z2
 replace z3 := kz hbn (by omega) z3
 replace z4 := kz hbn (by omega) z4
 replace z5 := kz hbn (by omega) z5
 replace z6 := kz hbn (by omega) z6
 replace z7 := kz hbn (by omega) z7
 replace z8 := kz hbn (by omega) z8
 have c17 := y0
 have c18 := y1
 have z9 := y2
 have z10 := y3
 have lg8 := y4
 clear y0 y1 y2 y3 y4
 replace b1 := b1.trans (hbn.mono b1.size)
 clear hbn
 go_cut [37] (fun c wx => c = .bool (decide (F.x = false ∧ 0 < fl)) ∧ wx = w5)
 case first =>
  by_cases hx : F.x = true
  · have hd : decide (F.x = false ∧ 0 < fl) = false := by simp [hx]
    rw [hx] at c5
    go_wp2_with fail
    go_meet
    exact ⟨by rw [hd], rfl⟩
  · have hx' : F.x = false := by simpa using hx
    rw [hx'] at c5
    by_cases hp : 0 < fl
    · have hd : decide (F.x = false ∧ 0 < fl) = true := by simp [hx', hp]
      go_wp2_with fail
      go_meet
      exact ⟨by rw [hd], rfl⟩
    · have hd : decide (F.x = false ∧ 0 < fl) = false := by simp [hp]
      have hp' : fl = 0 := by omega
      subst hp'
      go_wp2_with fail
      go_meet
      exact ⟨by rw [hd], rfl⟩
 obtain ⟨rfl, hww⟩ := hcut
 replace hww := hww.symm
 subst hww
 go_upto_if 37 with fail
 go_cut [37] (fun _ wx => Below w.heap.size w wx ∧ g8 < wx.heap.size ∧ W2 wx g6 Sg ∧ W2 wx g8 Sn ∧ wx.cell? ⟨w.heap.size, 0, none⟩ = some (.int .i64 (F.p : Int)) ∧ wx.cell? ⟨w.heap.size, 1, none⟩ = some (.int .i64 (1 - (F.emax : Int))) ∧ wx.cell? ⟨w.heap.size, 2, none⟩ = some (.int .i64 (F.emax : Int)) ∧ wx.cell? ⟨w.heap.size, 3, none⟩ = some (.int .i64 (F.wd : Int)) ∧ wx.cell? ⟨w.heap.size, 4, none⟩ = some (.int .i64 (F.e : Int)) ∧ wx.cell? ⟨w.heap.size, 5, none⟩ = some (.bool F.x) ∧ wx.cell? ⟨w.heap.size + 1 + 1, 0, none⟩ = some (.int .i64 0) ∧ wx.cell? ⟨w.heap.size + 1 + 1, 1, none⟩ = some (.bool false) ∧ wx.cell? ⟨w.heap.size + 1 + 1, 2, none⟩ = some (.int .u64 0) ∧ wx.cell? ⟨w.heap.size + 1 + 1, 3, none⟩ = some (.int .u64 0) ∧ wx.cell? ⟨w.heap.size + 1 + 1, 4, none⟩ = some (.int .i64 0) ∧ wx.frozen? ⟨w.heap.size + 1 + 1, 0, none⟩ = false ∧ wx.frozen? ⟨w.heap.size + 1 + 1, 1, none⟩ = false ∧ wx.frozen? ⟨w.heap.size + 1 + 1, 2, none⟩ = false ∧ wx.frozen? ⟨w.heap.size + 1 + 1, 3, none⟩ = false ∧ wx.frozen? ⟨w.heap.size + 1 + 1, 4, none⟩ = false)
 case first =>
  by_cases hcond : F.x = false ∧ 0 < fl
  · rw [decide_eq_true hcond]
    have kP' := fun v : World => kP v hcond
    clear hcond
    clear kP kS kT kF
    go_upto_region 6 with fail
    have D1 : ∀ v, Below w5.heap.size w5 v → (fun v => v.cell? ⟨w.heap.size, 0, none⟩ = some (.int .i64 (F.p : Int)) ∧ v.cell? ⟨w.heap.size, 1, none⟩ = some (.int .i64 (1 - (F.emax : Int))) ∧ v.cell? ⟨w.heap.size, 2, none⟩ = some (.int .i64 (F.emax : Int)) ∧ v.cell? ⟨w.heap.size, 3, none⟩ = some (.int .i64 (F.wd : Int)) ∧ v.cell? ⟨w.heap.size, 4, none⟩ = some (.int .i64 (F.e : Int)) ∧ v.cell? ⟨w.heap.size, 5, none⟩ = some (.bool F.x)) v := fun v hv => ⟨(hv.cell (by simp only; omega)).trans c0, (hv.cell (by simp only; omega)).trans c1, (hv.cell (by simp only; omega)).trans c2, (hv.cell (by simp only; omega)).trans c3, (hv.cell (by simp only; omega)).trans c4, (hv.cell (by simp only; omega)).trans c5⟩
    have D2 : ∀ v x y, Below w5.heap.size w5 v → (fun v => v.cell? ⟨w.heap.size, 0, none⟩ = some (.int .i64 (F.p : Int)) ∧ v.cell? ⟨w.heap.size, 1, none⟩ = some (.int .i64 (1 - (F.emax : Int))) ∧ v.cell? ⟨w.heap.size, 2, none⟩ = some (.int .i64 (F.emax : Int)) ∧ v.cell? ⟨w.heap.size, 3, none⟩ = some (.int .i64 (F.wd : Int)) ∧ v.cell? ⟨w.heap.size, 4, none⟩ = some (.int .i64 (F.e : Int)) ∧ v.cell? ⟨w.heap.size, 5, none⟩ = some (.bool F.x)) ((v.setCell ⟨g6, 0, none⟩ x).setCell ⟨g6, 1, none⟩ y) := fun v x y hv => ⟨((far2 v x y (by omega)).trans (hv.cell (by simp only; omega))).trans c0, ((far2 v x y (by omega)).trans (hv.cell (by simp only; omega))).trans c1, ((far2 v x y (by omega)).trans (hv.cell (by simp only; omega))).trans c2, ((far2 v x y (by omega)).trans (hv.cell (by simp only; omega))).trans c3, ((far2 v x y (by omega)).trans (hv.cell (by simp only; omega))).trans c4, ((far2 v x y (by omega)).trans (hv.cell (by simp only; omega))).trans c5⟩
    have lq : g6 < w5.heap.size := by omega
    go_region_with
     (first | (go_at_call 56; refine (kL _).mono ?_; rintro e w' ⟨rfl, hb0⟩; have hb1 := keepC (w1 := w5) ((Below.refl _ _).drew) hb0; have ea := (hb1.cell (p := ⟨g6, 0, none⟩) lq).trans c15; have eb := (hb1.cell (p := ⟨g6, 1, none⟩) lq).trans c16; clear hb0) | (go_at_call 47; refine (kP' _).mono ?_; rintro e w' ⟨rfl, hb0⟩; have hb2 := keepC (w1 := w5) hb1 hb0; have ec := (hb2.cell (p := ⟨g6, 0, none⟩) lq).trans c15; have ed := (hb2.cell (p := ⟨g6, 1, none⟩) lq).trans c16; have ee := (hb2.frozen (p := ⟨g6, 0, none⟩) lq).trans z7; have ef := (hb2.frozen (p := ⟨g6, 1, none⟩) lq).trans z8; clear hb0))
    all_goals go_wp2_with fail
    all_goals go_meet
    all_goals exact ⟨((b1.trans (hb2.mono b1.size)).setCell (by simp only; omega) _).setCell (by simp only; omega) _, by simp; have := hb2.size; omega, W2_set ec ed ee ef, ⟨(far2 _ _ _ (by omega)).trans ((hb2.cell (p := ⟨g8, 0, none⟩) lg8).trans c17), (far2 _ _ _ (by omega)).trans ((hb2.cell (p := ⟨g8, 1, none⟩) lg8).trans c18), (ffar2 _ _ _ (by omega)).trans ((hb2.frozen (p := ⟨g8, 0, none⟩) lg8).trans z9), (ffar2 _ _ _ (by omega)).trans ((hb2.frozen (p := ⟨g8, 1, none⟩) lg8).trans z10), by simp; have := hb2.size; omega⟩, (far2 _ _ _ (by omega)).trans ((hb2.cell (by simp only; omega)).trans c0), (far2 _ _ _ (by omega)).trans ((hb2.cell (by simp only; omega)).trans c1), (far2 _ _ _ (by omega)).trans ((hb2.cell (by simp only; omega)).trans c2), (far2 _ _ _ (by omega)).trans ((hb2.cell (by simp only; omega)).trans c3), (far2 _ _ _ (by omega)).trans ((hb2.cell (by simp only; omega)).trans c4), (far2 _ _ _ (by omega)).trans ((hb2.cell (by simp only; omega)).trans c5), (far2 _ _ _ (by omega)).trans ((hb2.cell (by simp only; omega)).trans c8), (far2 _ _ _ (by omega)).trans ((hb2.cell (by simp only; omega)).trans c9), (far2 _ _ _ (by omega)).trans ((hb2.cell (by simp only; omega)).trans c10), (far2 _ _ _ (by omega)).trans ((hb2.cell (by simp only; omega)).trans c11), (far2 _ _ _ (by omega)).trans ((hb2.cell (by simp only; omega)).trans c12), (ffar2 _ _ _ (by omega)).trans ((hb2.frozen (by simp only; omega)).trans z0), (ffar2 _ _ _ (by omega)).trans ((hb2.frozen (by simp only; omega)).trans z1), (ffar2 _ _ _ (by omega)).trans ((hb2.frozen (by simp only; omega)).trans z2), (ffar2 _ _ _ (by omega)).trans ((hb2.frozen (by simp only; omega)).trans z3), (ffar2 _ _ _ (by omega)).trans ((hb2.frozen (by simp only; omega)).trans z4)⟩
  · rw [decide_eq_false hcond]
    have e := HSn.out hcond
    subst e
    go_wp2_with fail
    go_meet
    exact ⟨b1, lg8, ⟨c15, c16, z7, z8, by omega⟩, ⟨c17, c18, z9, z10, lg8⟩, c0, c1, c2, c3, c4, c5, c8, c9, c10, c11, c12, z0, z1, z2, z3, z4⟩
 rename World => w6
 obtain ⟨b6, l8, ⟨x0, x1, y0, y1, l6⟩, ⟨x2, x3, y2, y3, _⟩, d0, d1, d2, d3, d4, d5, d6, d7, d8, d9, d10, f0, f1, f2, f3, f4⟩ := hcut
 clear c0 c1 c2 c3 c4 c5 c6 c7 c8 c9 c10 c11 c12 c13 c14 c15 c16 c17 c18 z0 z1 z2 z3 z4 z5 z6 z7 z8 z9 z10 b1 kP kS kF HSn
 have c0 := d0
 have c1 := d1
 have c2 := d2
 have c3 := d3
 have c4 := d4
 have c5 := d5
 have c6 := d6
 have c7 := d7
 have c8 := d8
 have c9 := d9
 have c10 := d10
 have c11 := x0
 have c12 := x1
 have c13 := x2
 have c14 := x3
 have z0 := f0
 have z1 := f1
 have z2 := f2
 have z3 := f3
 have z4 := f4
 clear d0 d1 d2 d3 d4 d5 d6 d7 d8 d9 d10 x0 x1 x2 x3 y0 y1 y2 y3 f0 f1 f2 f3 f4
 have n6 : w.heap.size + 3 ≤ w6.heap.size := by omega
 go_upto_region 7 with fail
 have Kof := fun (v : World) (hv : Below w6.heap.size w6 v) => And.intro hv (And.intro (kc hv c0) (And.intro (kc hv c1) (And.intro (kc hv c2) (And.intro (kc hv c3) (And.intro (kc hv c4) (And.intro (kc hv c5) (And.intro (kc hv c11) (kc hv c12))))))))
 go_cut [9] (fun p wx => p = .bool (decide (0 ≤ r)) ∧ Below w6.heap.size w6 wx)
 case first =>
  clear c0 c1 c2 c3 c4 c5 c6 c7 c8 c9 c10 c11 c12 c13 c14 z0 z1 z2 z3 z4
  go_region_held3 (fun v => Below w6.heap.size w6 v ∧ v.cell? ⟨w.heap.size, 0, none⟩ = some (.int .i64 (F.p : Int)) ∧ v.cell? ⟨w.heap.size, 1, none⟩ = some (.int .i64 (1 - (F.emax : Int))) ∧ v.cell? ⟨w.heap.size, 2, none⟩ = some (.int .i64 (F.emax : Int)) ∧ v.cell? ⟨w.heap.size, 3, none⟩ = some (.int .i64 (F.wd : Int)) ∧ v.cell? ⟨w.heap.size, 4, none⟩ = some (.int .i64 (F.e : Int)) ∧ v.cell? ⟨w.heap.size, 5, none⟩ = some (.bool F.x) ∧ v.cell? ⟨g6, 0, none⟩ = some (.int .u64 (M.hiN Sg : Int)) ∧ v.cell? ⟨g6, 1, none⟩ = some (.int .u64 (M.loN Sg : Int))) (first | exact Kof _ (by assumption) | exact Kof _ (keepDr (by assumption)) | exact Kof _ (keepAl (by assumption) _) | exact Kof _ (keepAl2 (by assumption) _) | exact Kof _ (keepSt2 (keepSt2 (by assumption) _ _ (by first | assumption | exact Below.size (by assumption) | omega) _) _ _ (by first | assumption | exact Below.size (by assumption) | omega) _) | exact Kof _ (Below.refl _ _).drew)
   (first | (go_at_call 56; refine (kL _).mono ?_; rintro e w' ⟨rfl, hb0⟩; have hb1 := keepC (w1 := w6) (And.left (by assumption)) hb0; have hc1 := (bcell hb0).1; have hf1 := (bcell hb0).2; have hz1 := hb0.size; (try simp at hz1); (try replace hz1 := Nat.lt_of_succ_le hz1); clear hb0) | (go_at_call 37; refine (kC _).mono ?_; rintro e w' ⟨rfl, hb0⟩; have hb2 := keepC (w1 := w6) (And.left (by assumption)) hb0; have hc2 := (bcell hb0).1; have hf2 := (bcell hb0).2; have hz2 := hb0.size; (try simp at hz2); (try replace hz2 := Nat.lt_of_succ_le hz2); clear hb0; (try have hy2 := Nat.lt_of_lt_of_le hz1 hz2)))
  all_goals go_wp2_with fail
  all_goals go_meet
  exact ⟨rfl, hb2⟩
 clear Kof kC
 rename World => w7
 obtain ⟨rfl, hbn⟩ := hcut
 have nw7 := hbn.size
 replace c0 := kc hbn c0
 replace c1 := kc hbn c1
 replace c2 := kc hbn c2
 replace c3 := kc hbn c3
 replace c4 := kc hbn c4
 replace c5 := kc hbn c5
 replace c6 := kc hbn c6
 replace c7 := kc hbn c7
 replace c8 := kc hbn c8
 replace c9 := kc hbn c9
 replace c10 := kc hbn c10
 replace c11 := kc hbn c11
 replace c12 := kc hbn c12
 replace c13 := kc hbn c13
 replace c14 := kc hbn c14
 replace z0 := kz hbn (by omega) z0
 replace z1 := kz hbn (by omega) z1
 replace z2 := kz hbn (by omega) z2
 replace z3 := kz hbn (by omega) z3
 replace z4 := kz hbn (by omega) z4
 replace b6 := b6.trans (hbn.mono b6.size)
 clear hbn
 obtain ⟨led, hled⟩ : ∃ led, led = decide (0 ≤ r) := ⟨_, rfl⟩
 rw [← hled]
 have HLed := hid hled; clear hled
 by_cases hb : 0 < r2 ∨ ¬ (led = decide (0 < fl))
 · have hTe : T = ⟨0, false, 0, 0⟩ := by
    rw [HU.out, if_pos]
    rcases hb with hb | hb
    · exact .inl ((cmpN_gt HR2.out).1 hb)
    · refine .inr fun hh => hb ?_
      rw [HLed.out]
      exact decide_eq_decide.2 ((cmpN_ge HR.out).trans hh)
   have HT := hid hTe; clear hTe
   have h3 : 0 < r2 ∨ (¬ 0 < r2 ∧ 0 < fl ∧ led = false) ∨ (¬ 0 < r2 ∧ fl = 0 ∧ led = true) := by
    by_cases hr2 : 0 < r2
    · exact .inl hr2
    · have hl := hb.resolve_left hr2
      by_cases hf : 0 < fl
      · exact .inr (.inl ⟨hr2, hf, by simpa [hf] using hl⟩)
      · exact .inr (.inr ⟨hr2, by omega, by simpa [hf] using hl⟩)
   clear hb
   rcases h3 with hr2 | ⟨hr2, hf, rfl⟩ | ⟨hr2, rfl, rfl⟩
   all_goals (
    go_wp2_with (first | (go_at_call 37; refine (kD _).mono ?_; rintro e w' ⟨rfl, hb0⟩; have hbn := keepC (w1 := w7) (Below.refl _ _) hb0; clear hb0; replace c6 := kc hbn c6; replace c7 := kc hbn c7; replace c8 := kc hbn c8; replace c9 := kc hbn c9; replace c10 := kc hbn c10; replace z0 := kz hbn (by omega) z0; replace z1 := kz hbn (by omega) z1; replace z2 := kz hbn (by omega) z2; replace z3 := kz hbn (by omega) z3; replace z4 := kz hbn (by omega) z4))
    exact bodyPost_ret (v := .agg #[.int .i64 0, .bool false, .int .u64 0, .int .u64 0, .int .i64 0]) (by simp [results, Tryd.results31, go_sem, c6, c7, c8, c9, c10]) rfl ⟨pv_ret T (c := 0) (d := 0) (by rw [HT.out]) (by rw [HT.out]) (by rw [HT.out]; exact hi0.symm) (by rw [HT.out]; exact lo0.symm) (by rw [HT.out]), below5 (b6.trans (hbn.mono b6.size)) (by omega) _ _ _ _ _⟩)
 · have hr2 : ¬ 0 < r2 := fun hh => hb (.inl hh)
   have hld : led = decide (0 < fl) := Classical.byContradiction fun hh => hb (.inr hh)
   clear hb
   subst hld
   go_upto_region 10 with (first | (go_at_call 37; refine (kD _).mono ?_; rintro e w' ⟨rfl, hb0⟩; have hbn := keepC (w1 := w7) (Below.refl _ _) hb0; clear hb0; replace c0 := kc hbn c0; replace c1 := kc hbn c1; replace c2 := kc hbn c2; replace c3 := kc hbn c3; replace c4 := kc hbn c4; replace c5 := kc hbn c5; replace c6 := kc hbn c6; replace c7 := kc hbn c7; replace c8 := kc hbn c8; replace c9 := kc hbn c9; replace c10 := kc hbn c10; replace c11 := kc hbn c11; replace c12 := kc hbn c12; replace c13 := kc hbn c13; replace c14 := kc hbn c14; replace z0 := kz hbn (by omega) z0; replace z1 := kz hbn (by omega) z1; replace z2 := kz hbn (by omega) z2; replace z3 := kz hbn (by omega) z3; replace z4 := kz hbn (by omega) z4))
   rename World => w8
   have nw8 := hbn.size
   replace b6 := b6.trans (hbn.mono b6.size)
   clear hbn kD
   have hS1 : Sn ≤ 1 := cmpN_le1 HR2.out (by omega)
   go_cut [10] (fun c wx => c = .bool (decide (Sn = 1)) ∧ wx = w8)
   case first =>
    rcases (by omega : Sn = 0 ∨ Sn = 1) with hs | hs
    all_goals (
     subst hs
     rw [M.hi_small (by omega)] at c13
     rw [M.lo_small (by omega)] at c14
     go_wp2_with fail
     go_meet
     exact ⟨by simp, rfl⟩)
   obtain ⟨rfl, hww⟩ := hcut
   replace hww := hww.symm
   subst hww
   obtain ⟨ng, hng⟩ : ∃ ng, ng = decide (Sn = 1) := ⟨_, rfl⟩
   rw [← hng]
   have HNg := hid hng; clear hng
   go_upto_region 11 with fail
   have Kof := fun (v : World) (hv : Below w8.heap.size w8 v) => And.intro hv (And.intro (kc hv c0) (And.intro (kc hv c1) (And.intro (kc hv c2) (And.intro (kc hv c3) (And.intro (kc hv c4) (And.intro (kc hv c5) (And.intro (kc hv c11) (kc hv c12))))))))
   go_cut [61] (fun c wx => c = .bool (decide (fl = F.top ∧ Sg = F.lead)) ∧ Below w8.heap.size w8 wx)
   case first =>
    by_cases ht : fl = F.top
    · subst ht
      rcases (show (M.hiN Sg = M.hiN F.lead ∧ M.loN Sg = M.loN F.lead ∧ Sg = F.lead) ∨ (M.hiN Sg = M.hiN F.lead ∧ ¬ M.loN Sg = M.loN F.lead ∧ ¬ Sg = F.lead) ∨ (¬ M.hiN Sg = M.hiN F.lead ∧ True ∧ ¬ Sg = F.lead) from by
       by_cases hs : Sg = F.lead
       · exact .inl ⟨by rw [hs], by rw [hs], hs⟩
       · by_cases q0 : M.hiN Sg = M.hiN F.lead
         · exact .inr (.inl ⟨q0, fun hh => hs (M.hl_eq q0 hh), hs⟩)
         · exact .inr (.inr ⟨q0, trivial, hs⟩)) with ⟨q0, q1, hs⟩ | ⟨q0, q1, hs⟩ | ⟨q0, q1, hs⟩
      have hd : decide (F.top = F.top ∧ Sg = F.lead) = true := by simp [hs]
      rotate_left
      have q2 : ((M.loN Sg : Int) == (M.loN F.lead : Int)) = false := by simp; omega
      have q3 : ¬ (M.loN Sg : Int) = (M.loN F.lead : Int) := by omega
      have hd : decide (F.top = F.top ∧ Sg = F.lead) = false := by simp [hs]
      rotate_left
      have q2 : ((M.hiN Sg : Int) == (M.hiN F.lead : Int)) = false := by simp; omega
      have q3 : ¬ (M.hiN Sg : Int) = (M.hiN F.lead : Int) := by omega
      have hd : decide (F.top = F.top ∧ Sg = F.lead) = false := by simp [hs]
      all_goals (
       clear hs
       clear c0 c1 c2 c3 c4 c5 c6 c7 c8 c9 c10 c11 c12 c13 c14 z0 z1 z2 z3 z4
       go_region_held3 (fun v => Below w8.heap.size w8 v ∧ v.cell? ⟨w.heap.size, 0, none⟩ = some (.int .i64 (F.p : Int)) ∧ v.cell? ⟨w.heap.size, 1, none⟩ = some (.int .i64 (1 - (F.emax : Int))) ∧ v.cell? ⟨w.heap.size, 2, none⟩ = some (.int .i64 (F.emax : Int)) ∧ v.cell? ⟨w.heap.size, 3, none⟩ = some (.int .i64 (F.wd : Int)) ∧ v.cell? ⟨w.heap.size, 4, none⟩ = some (.int .i64 (F.e : Int)) ∧ v.cell? ⟨w.heap.size, 5, none⟩ = some (.bool F.x) ∧ v.cell? ⟨g6, 0, none⟩ = some (.int .u64 (M.hiN Sg : Int)) ∧ v.cell? ⟨g6, 1, none⟩ = some (.int .u64 (M.loN Sg : Int))) (first | exact Kof _ (by assumption) | exact Kof _ (keepDr (by assumption)) | exact Kof _ (keepAl (by assumption) _) | exact Kof _ (keepAl2 (by assumption) _) | exact Kof _ (keepSt2 (keepSt2 (by assumption) _ _ (by first | assumption | exact Below.size (by assumption) | omega) _) _ _ (by first | assumption | exact Below.size (by assumption) | omega) _) | exact Kof _ (Below.refl _ _).drew)
        (first | (go_at_call 55; refine (kT _).mono ?_; rintro e w' ⟨rfl, hb0⟩; have hb1 := keepC (w1 := w8) (And.left (by assumption)) hb0; have hc1 := (bcell hb0).1; have hf1 := (bcell hb0).2; have hz1 := hb0.size; (try simp at hz1); (try replace hz1 := Nat.lt_of_succ_le hz1); clear hb0) | (go_at_call 56; refine (kL _).mono ?_; rintro e w' ⟨rfl, hb0⟩; have hb2 := keepC (w1 := w8) (And.left (by assumption)) hb0; have hc2 := (bcell hb0).1; have hf2 := (bcell hb0).2; have hz2 := hb0.size; (try simp at hz2); (try replace hz2 := Nat.lt_of_succ_le hz2); clear hb0; (try have hy2 := Nat.lt_of_lt_of_le hz1 hz2)))
       all_goals go_wp2_with fail
       all_goals go_meet
       exact ⟨by rw [hd], hb2⟩)
    · have ht2 : ((fl : Int) == (F.top : Int)) = false := by simp; omega
      have ht3 : (fl == F.top) = false := by simp [ht]
      have hd : decide (fl = F.top ∧ Sg = F.lead) = false := by simp [ht]
      go_region_with (first | (go_at_call 55; refine (kT _).mono ?_; rintro e w' ⟨rfl, hb0⟩; have hb1 := keepC (w1 := w8) ((Below.refl _ _).drew) hb0; clear hb0))
      all_goals go_wp2_with fail
      all_goals go_meet
      all_goals exact ⟨by rw [hd], hb1⟩
   clear Kof
   rename World => w9
   obtain ⟨rfl, hbn⟩ := hcut
   have nw9 := hbn.size
   replace c0 := kc hbn c0
   replace c1 := kc hbn c1
   replace c2 := kc hbn c2
   replace c3 := kc hbn c3
   replace c4 := kc hbn c4
   replace c5 := kc hbn c5
   replace c6 := kc hbn c6
   replace c7 := kc hbn c7
   replace c8 := kc hbn c8
   replace c9 := kc hbn c9
   replace c10 := kc hbn c10
   replace c11 := kc hbn c11
   replace c12 := kc hbn c12
   replace c13 := kc hbn c13
   replace c14 := kc hbn c14
   replace z0 := kz hbn (by omega) z0
   replace z1 := kz hbn (by omega) z1
   replace z2 := kz hbn (by omega) z2
   replace z3 := kz hbn (by omega) z3
   replace z4 := kz hbn (by omega) z4
   replace b6 := b6.trans (hbn.mono b6.size)
   clear hbn
   have hnb : ¬ (1 < Sn ∨ ¬ (F.lead ≤ Sg ↔ 0 < fl)) := by
    have e1 := HLed.out
    have e2 := cmpN_ge HR.out
    rintro (hh | hh)
    · omega
    · exact hh (e2.symm.trans (decide_eq_decide.1 e1.symm))
   have hTe := HU.out
   rw [if_neg hnb, ← HNg.out] at hTe
   clear hnb HLed HR2 HR
   by_cases hi : fl = F.top ∧ Sg = F.lead
   · rw [decide_eq_true hi]
     rw [if_pos hi.1, if_pos hi.2] at hTe
     have HT := hid hTe; clear hTe hi HU
     go_wp2_with fail
     exact bodyPost_ret (v := .agg #[.int .i64 4, .bool ng, .int .u64 0, .int .u64 0, .int .i64 0]) (by simp [results, Tryd.results31, go_sem, c6, c7, c8, c9, c10]) rfl ⟨pv_ret T (c := 0) (d := 0) (by rw [HT.out]) (by rw [HT.out]) (by rw [HT.out]; exact hi0.symm) (by rw [HT.out]; exact lo0.symm) (by rw [HT.out]), below5 b6 (by omega) _ _ _ _ _⟩
   · rw [decide_eq_false hi]
     by_cases ht : fl = F.top
     · rw [if_pos ht, if_neg (fun hs => hi ⟨ht, hs⟩)] at hTe
       have HT := hid hTe; clear hTe hi HU
       subst ht
       go_wp2_with (first | (go_at_call 55; refine (kT _).mono ?_; rintro e w' ⟨rfl, hb0⟩; have hbn := keepC (w1 := w9) (Below.refl _ _) hb0; clear hb0; replace b6 := b6.trans (hbn.mono b6.size); replace c0 := kc hbn c0; replace c1 := kc hbn c1; replace c2 := kc hbn c2; replace c3 := kc hbn c3; replace c4 := kc hbn c4; replace c5 := kc hbn c5; replace c6 := kc hbn c6; replace c7 := kc hbn c7; replace c8 := kc hbn c8; replace c9 := kc hbn c9; replace c10 := kc hbn c10; replace c11 := (hbn.cell (p := ⟨g6, 0, none⟩) (by simp only; omega)).trans c11; replace c12 := (hbn.cell (p := ⟨g6, 1, none⟩) (by simp only; omega)).trans c12; replace z0 := kz hbn (by omega) z0; replace z1 := kz hbn (by omega) z1; replace z2 := kz hbn (by omega) z2; replace z3 := kz hbn (by omega) z3; replace z4 := kz hbn (by omega) z4; replace nw9 := Nat.le_trans nw9 hbn.size; clear hbn))
       exact bodyPost_ret (v := .agg #[.int .i64 5, .bool false, .int .u64 0, .int .u64 0, .int .i64 0]) (by simp [results, Tryd.results31, go_sem, c6, c7, c8, c9, c10]) rfl ⟨pv_ret T (c := 0) (d := 0) (by rw [HT.out]) (by rw [HT.out]) (by rw [HT.out]; exact hi0.symm) (by rw [HT.out]; exact lo0.symm) (by rw [HT.out]), below5 b6 (by omega) _ _ _ _ _⟩
     · rw [if_neg ht] at hTe
       have ht2 : ((fl : Int) == (F.top : Int)) = false := by simp; omega
       clear hi HU
       by_cases hp : 0 < fl
       · rw [if_pos hp] at hTe
         have HT := hid hTe; clear hTe
         go_wp2_with (first | (go_at_call 55; refine (kT _).mono ?_; rintro e w' ⟨rfl, hb0⟩; have hbn := keepC (w1 := w9) (Below.refl _ _) hb0; clear hb0; replace b6 := b6.trans (hbn.mono b6.size); replace c0 := kc hbn c0; replace c1 := kc hbn c1; replace c2 := kc hbn c2; replace c3 := kc hbn c3; replace c4 := kc hbn c4; replace c5 := kc hbn c5; replace c6 := kc hbn c6; replace c7 := kc hbn c7; replace c8 := kc hbn c8; replace c9 := kc hbn c9; replace c10 := kc hbn c10; replace c11 := (hbn.cell (p := ⟨g6, 0, none⟩) (by simp only; omega)).trans c11; replace c12 := (hbn.cell (p := ⟨g6, 1, none⟩) (by simp only; omega)).trans c12; replace z0 := kz hbn (by omega) z0; replace z1 := kz hbn (by omega) z1; replace z2 := kz hbn (by omega) z2; replace z3 := kz hbn (by omega) z3; replace z4 := kz hbn (by omega) z4; replace nw9 := Nat.le_trans nw9 hbn.size; clear hbn))
         exact bodyPost_ret (v := .agg #[.int .i64 3, .bool ng, .int .u64 (M.hiN Sg : Int), .int .u64 (M.loN Sg : Int), .int .i64 ((fl : Int) - (F.emax : Int) - (F.p : Int) + 1)]) (by simp [results, Tryd.results31, go_sem, c6, c7, c8, c9, c10]) rfl ⟨pv_ret T (c := M.hiN Sg) (d := M.loN Sg) (by rw [HT.out]) (by rw [HT.out]) (by rw [HT.out]) (by rw [HT.out]) (by rw [HT.out]), below5 b6 (by omega) _ _ _ _ _⟩
       · rw [if_neg hp] at hTe
         have hf0 : fl = 0 := by omega
         subst hf0
         by_cases hs : Sg = 0
         · rw [if_pos hs] at hTe
           have HT := hid hTe; clear hTe
           subst hs
           rw [hi0] at c11
           rw [lo0] at c12
           go_wp2_with (first | (go_at_call 55; refine (kT _).mono ?_; rintro e w' ⟨rfl, hb0⟩; have hbn := keepC (w1 := w9) (Below.refl _ _) hb0; clear hb0; replace b6 := b6.trans (hbn.mono b6.size); replace c0 := kc hbn c0; replace c1 := kc hbn c1; replace c2 := kc hbn c2; replace c3 := kc hbn c3; replace c4 := kc hbn c4; replace c5 := kc hbn c5; replace c6 := kc hbn c6; replace c7 := kc hbn c7; replace c8 := kc hbn c8; replace c9 := kc hbn c9; replace c10 := kc hbn c10; replace c11 := (hbn.cell (p := ⟨g6, 0, none⟩) (by simp only; omega)).trans c11; replace c12 := (hbn.cell (p := ⟨g6, 1, none⟩) (by simp only; omega)).trans c12; replace z0 := kz hbn (by omega) z0; replace z1 := kz hbn (by omega) z1; replace z2 := kz hbn (by omega) z2; replace z3 := kz hbn (by omega) z3; replace z4 := kz hbn (by omega) z4; replace nw9 := Nat.le_trans nw9 hbn.size; clear hbn))
           exact bodyPost_ret (v := .agg #[.int .i64 1, .bool ng, .int .u64 0, .int .u64 0, .int .i64 0]) (by simp [results, Tryd.results31, go_sem, c6, c7, c8, c9, c10]) rfl ⟨pv_ret T (c := 0) (d := 0) (by rw [HT.out]) (by rw [HT.out]) (by rw [HT.out]; exact hi0.symm) (by rw [HT.out]; exact lo0.symm) (by rw [HT.out]), below5 b6 (by omega) _ _ _ _ _⟩
         · rw [if_neg hs] at hTe
           have HT := hid hTe; clear hTe
           have kQ := fun v : World => dQmin F h v
           simp only [dv] at kQ
           by_cases q0 : M.hiN Sg = 0
           · have q1 : ¬ M.loN Sg = 0 := fun hh => hs (M.hl_eq (q0.trans hi0.symm) (hh.trans lo0.symm))
             have q2 : ((M.loN Sg : Int) == 0) = false := by simp; omega
             have q3 : ¬ (M.loN Sg : Int) = 0 := by omega
             clear hs
             go_upto_region 19 with (first | (go_at_call 55; refine (kT _).mono ?_; rintro e w' ⟨rfl, hb0⟩; have hbn := keepC (w1 := w9) (Below.refl _ _) hb0; clear hb0; replace b6 := b6.trans (hbn.mono b6.size); replace c0 := kc hbn c0; replace c1 := kc hbn c1; replace c2 := kc hbn c2; replace c3 := kc hbn c3; replace c4 := kc hbn c4; replace c5 := kc hbn c5; replace c6 := kc hbn c6; replace c7 := kc hbn c7; replace c8 := kc hbn c8; replace c9 := kc hbn c9; replace c10 := kc hbn c10; replace c11 := (hbn.cell (p := ⟨g6, 0, none⟩) (by simp only; omega)).trans c11; replace c12 := (hbn.cell (p := ⟨g6, 1, none⟩) (by simp only; omega)).trans c12; replace z0 := kz hbn (by omega) z0; replace z1 := kz hbn (by omega) z1; replace z2 := kz hbn (by omega) z2; replace z3 := kz hbn (by omega) z3; replace z4 := kz hbn (by omega) z4; replace nw9 := Nat.le_trans nw9 hbn.size; clear hbn))
             rename World => wa
             have D1 : ∀ v, Below wa.heap.size wa v → (fun v => v.cell? ⟨w.heap.size, 0, none⟩ = some (.int .i64 (F.p : Int)) ∧ v.cell? ⟨w.heap.size, 1, none⟩ = some (.int .i64 (1 - (F.emax : Int))) ∧ v.cell? ⟨w.heap.size, 2, none⟩ = some (.int .i64 (F.emax : Int)) ∧ v.cell? ⟨w.heap.size, 3, none⟩ = some (.int .i64 (F.wd : Int)) ∧ v.cell? ⟨w.heap.size, 4, none⟩ = some (.int .i64 (F.e : Int)) ∧ v.cell? ⟨w.heap.size, 5, none⟩ = some (.bool F.x) ∧ v.cell? ⟨g6, 0, none⟩ = some (.int .u64 (M.hiN Sg : Int)) ∧ v.cell? ⟨g6, 1, none⟩ = some (.int .u64 (M.loN Sg : Int))) v := fun v hv => ⟨(hv.cell (by simp only; omega)).trans c0, (hv.cell (by simp only; omega)).trans c1, (hv.cell (by simp only; omega)).trans c2, (hv.cell (by simp only; omega)).trans c3, (hv.cell (by simp only; omega)).trans c4, (hv.cell (by simp only; omega)).trans c5, (hv.cell (by simp only; omega)).trans c11, (hv.cell (by simp only; omega)).trans c12⟩
             have D5 : ∀ v a b c d e, Below wa.heap.size wa v → (fun v => v.cell? ⟨w.heap.size, 0, none⟩ = some (.int .i64 (F.p : Int)) ∧ v.cell? ⟨w.heap.size, 1, none⟩ = some (.int .i64 (1 - (F.emax : Int))) ∧ v.cell? ⟨w.heap.size, 2, none⟩ = some (.int .i64 (F.emax : Int)) ∧ v.cell? ⟨w.heap.size, 3, none⟩ = some (.int .i64 (F.wd : Int)) ∧ v.cell? ⟨w.heap.size, 4, none⟩ = some (.int .i64 (F.e : Int)) ∧ v.cell? ⟨w.heap.size, 5, none⟩ = some (.bool F.x) ∧ v.cell? ⟨g6, 0, none⟩ = some (.int .u64 (M.hiN Sg : Int)) ∧ v.cell? ⟨g6, 1, none⟩ = some (.int .u64 (M.loN Sg : Int))) (((((v.setCell ⟨w.heap.size + 1 + 1, 0, none⟩ a).setCell ⟨w.heap.size + 1 + 1, 1, none⟩ b).setCell ⟨w.heap.size + 1 + 1, 2, none⟩ c).setCell ⟨w.heap.size + 1 + 1, 3, none⟩ d).setCell ⟨w.heap.size + 1 + 1, 4, none⟩ e) := fun v a b c d e hv => ⟨((far5 v a b c d e (by omega)).trans (hv.cell (by simp only; omega))).trans c0, ((far5 v a b c d e (by omega)).trans (hv.cell (by simp only; omega))).trans c1, ((far5 v a b c d e (by omega)).trans (hv.cell (by simp only; omega))).trans c2, ((far5 v a b c d e (by omega)).trans (hv.cell (by simp only; omega))).trans c3, ((far5 v a b c d e (by omega)).trans (hv.cell (by simp only; omega))).trans c4, ((far5 v a b c d e (by omega)).trans (hv.cell (by simp only; omega))).trans c5, ((far5 v a b c d e (by omega)).trans (hv.cell (by simp only; omega))).trans c11, ((far5 v a b c d e (by omega)).trans (hv.cell (by simp only; omega))).trans c12⟩
             clear c0 c1 c2 c3 c4 c5 c11 c12
             go_region_held3 (fun v => v.cell? ⟨w.heap.size, 0, none⟩ = some (.int .i64 (F.p : Int)) ∧ v.cell? ⟨w.heap.size, 1, none⟩ = some (.int .i64 (1 - (F.emax : Int))) ∧ v.cell? ⟨w.heap.size, 2, none⟩ = some (.int .i64 (F.emax : Int)) ∧ v.cell? ⟨w.heap.size, 3, none⟩ = some (.int .i64 (F.wd : Int)) ∧ v.cell? ⟨w.heap.size, 4, none⟩ = some (.int .i64 (F.e : Int)) ∧ v.cell? ⟨w.heap.size, 5, none⟩ = some (.bool F.x) ∧ v.cell? ⟨g6, 0, none⟩ = some (.int .u64 (M.hiN Sg : Int)) ∧ v.cell? ⟨g6, 1, none⟩ = some (.int .u64 (M.loN Sg : Int))) (first | exact D1 _ (by assumption) | exact D1 _ ((Below.refl _ _).drew) | exact D5 _ _ _ _ _ _ (by assumption))
              (first | (go_at_call 57; refine (kQ _).mono ?_; rintro e w' ⟨rfl, hb0⟩; have hbn := keepC (w1 := wa) ((Below.refl _ _).drew) hb0; clear hb0; replace b6 := b6.trans (hbn.mono b6.size); replace c6 := kc hbn c6; replace c7 := kc hbn c7; replace c8 := kc hbn c8; replace c9 := kc hbn c9; replace c10 := kc hbn c10; replace z0 := kz hbn (by omega) z0; replace z1 := kz hbn (by omega) z1; replace z2 := kz hbn (by omega) z2; replace z3 := kz hbn (by omega) z3; replace z4 := kz hbn (by omega) z4))
             go_wp2_with fail
             exact bodyPost_ret (v := .agg #[.int .i64 2, .bool ng, .int .u64 0, .int .u64 (M.loN Sg : Int), .int .i64 F.qmin]) (by simp [results, Tryd.results31, go_sem, c6, c7, c8, c9, c10]) rfl ⟨pv_ret T (c := 0) (d := M.loN Sg) (by rw [HT.out]) (by rw [HT.out]) (by rw [HT.out]; exact q0.symm) (by rw [HT.out]) (by rw [HT.out]), below5 b6 (by omega) _ _ _ _ _⟩
           · have q2 : ((M.hiN Sg : Int) == 0) = false := by simp; omega
             have q3 : ¬ (M.hiN Sg : Int) = 0 := by omega
             clear hs
             go_upto_region 19 with (first | (go_at_call 55; refine (kT _).mono ?_; rintro e w' ⟨rfl, hb0⟩; have hbn := keepC (w1 := w9) (Below.refl _ _) hb0; clear hb0; replace b6 := b6.trans (hbn.mono b6.size); replace c0 := kc hbn c0; replace c1 := kc hbn c1; replace c2 := kc hbn c2; replace c3 := kc hbn c3; replace c4 := kc hbn c4; replace c5 := kc hbn c5; replace c6 := kc hbn c6; replace c7 := kc hbn c7; replace c8 := kc hbn c8; replace c9 := kc hbn c9; replace c10 := kc hbn c10; replace c11 := (hbn.cell (p := ⟨g6, 0, none⟩) (by simp only; omega)).trans c11; replace c12 := (hbn.cell (p := ⟨g6, 1, none⟩) (by simp only; omega)).trans c12; replace z0 := kz hbn (by omega) z0; replace z1 := kz hbn (by omega) z1; replace z2 := kz hbn (by omega) z2; replace z3 := kz hbn (by omega) z3; replace z4 := kz hbn (by omega) z4; replace nw9 := Nat.le_trans nw9 hbn.size; clear hbn))
             rename World => wa
             have D1 : ∀ v, Below wa.heap.size wa v → (fun v => v.cell? ⟨w.heap.size, 0, none⟩ = some (.int .i64 (F.p : Int)) ∧ v.cell? ⟨w.heap.size, 1, none⟩ = some (.int .i64 (1 - (F.emax : Int))) ∧ v.cell? ⟨w.heap.size, 2, none⟩ = some (.int .i64 (F.emax : Int)) ∧ v.cell? ⟨w.heap.size, 3, none⟩ = some (.int .i64 (F.wd : Int)) ∧ v.cell? ⟨w.heap.size, 4, none⟩ = some (.int .i64 (F.e : Int)) ∧ v.cell? ⟨w.heap.size, 5, none⟩ = some (.bool F.x) ∧ v.cell? ⟨g6, 0, none⟩ = some (.int .u64 (M.hiN Sg : Int)) ∧ v.cell? ⟨g6, 1, none⟩ = some (.int .u64 (M.loN Sg : Int))) v := fun v hv => ⟨(hv.cell (by simp only; omega)).trans c0, (hv.cell (by simp only; omega)).trans c1, (hv.cell (by simp only; omega)).trans c2, (hv.cell (by simp only; omega)).trans c3, (hv.cell (by simp only; omega)).trans c4, (hv.cell (by simp only; omega)).trans c5, (hv.cell (by simp only; omega)).trans c11, (hv.cell (by simp only; omega)).trans c12⟩
             have D5 : ∀ v a b c d e, Below wa.heap.size wa v → (fun v => v.cell? ⟨w.heap.size, 0, none⟩ = some (.int .i64 (F.p : Int)) ∧ v.cell? ⟨w.heap.size, 1, none⟩ = some (.int .i64 (1 - (F.emax : Int))) ∧ v.cell? ⟨w.heap.size, 2, none⟩ = some (.int .i64 (F.emax : Int)) ∧ v.cell? ⟨w.heap.size, 3, none⟩ = some (.int .i64 (F.wd : Int)) ∧ v.cell? ⟨w.heap.size, 4, none⟩ = some (.int .i64 (F.e : Int)) ∧ v.cell? ⟨w.heap.size, 5, none⟩ = some (.bool F.x) ∧ v.cell? ⟨g6, 0, none⟩ = some (.int .u64 (M.hiN Sg : Int)) ∧ v.cell? ⟨g6, 1, none⟩ = some (.int .u64 (M.loN Sg : Int))) (((((v.setCell ⟨w.heap.size + 1 + 1, 0, none⟩ a).setCell ⟨w.heap.size + 1 + 1, 1, none⟩ b).setCell ⟨w.heap.size + 1 + 1, 2, none⟩ c).setCell ⟨w.heap.size + 1 + 1, 3, none⟩ d).setCell ⟨w.heap.size + 1 + 1, 4, none⟩ e) := fun v a b c d e hv => ⟨((far5 v a b c d e (by omega)).trans (hv.cell (by simp only; omega))).trans c0, ((far5 v a b c d e (by omega)).trans (hv.cell (by simp only; omega))).trans c1, ((far5 v a b c d e (by omega)).trans (hv.cell (by simp only; omega))).trans c2, ((far5 v a b c d e (by omega)).trans (hv.cell (by simp only; omega))).trans c3, ((far5 v a b c d e (by omega)).trans (hv.cell (by simp only; omega))).trans c4, ((far5 v a b c d e (by omega)).trans (hv.cell (by simp only; omega))).trans c5, ((far5 v a b c d e (by omega)).trans (hv.cell (by simp only; omega))).trans c11, ((far5 v a b c d e (by omega)).trans (hv.cell (by simp only; omega))).trans c12⟩
             clear c0 c1 c2 c3 c4 c5 c11 c12
             go_region_held3 (fun v => v.cell? ⟨w.heap.size, 0, none⟩ = some (.int .i64 (F.p : Int)) ∧ v.cell? ⟨w.heap.size, 1, none⟩ = some (.int .i64 (1 - (F.emax : Int))) ∧ v.cell? ⟨w.heap.size, 2, none⟩ = some (.int .i64 (F.emax : Int)) ∧ v.cell? ⟨w.heap.size, 3, none⟩ = some (.int .i64 (F.wd : Int)) ∧ v.cell? ⟨w.heap.size, 4, none⟩ = some (.int .i64 (F.e : Int)) ∧ v.cell? ⟨w.heap.size, 5, none⟩ = some (.bool F.x) ∧ v.cell? ⟨g6, 0, none⟩ = some (.int .u64 (M.hiN Sg : Int)) ∧ v.cell? ⟨g6, 1, none⟩ = some (.int .u64 (M.loN Sg : Int))) (first | exact D1 _ (by assumption) | exact D1 _ ((Below.refl _ _).drew) | exact D5 _ _ _ _ _ _ (by assumption))
              (first | (go_at_call 57; refine (kQ _).mono ?_; rintro e w' ⟨rfl, hb0⟩; have hbn := keepC (w1 := wa) ((Below.refl _ _).drew) hb0; clear hb0; replace b6 := b6.trans (hbn.mono b6.size); replace c6 := kc hbn c6; replace c7 := kc hbn c7; replace c8 := kc hbn c8; replace c9 := kc hbn c9; replace c10 := kc hbn c10; replace z0 := kz hbn (by omega) z0; replace z1 := kz hbn (by omega) z1; replace z2 := kz hbn (by omega) z2; replace z3 := kz hbn (by omega) z3; replace z4 := kz hbn (by omega) z4))
             go_wp2_with fail
             exact bodyPost_ret (v := .agg #[.int .i64 2, .bool ng, .int .u64 (M.hiN Sg : Int), .int .u64 (M.loN Sg : Int), .int .i64 F.qmin]) (by simp [results, Tryd.results31, go_sem, c6, c7, c8, c9, c10]) rfl ⟨pv_ret T (c := M.hiN Sg) (d := M.loN Sg) (by rw [HT.out]) (by rw [HT.out]) (by rw [HT.out]) (by rw [HT.out]) (by rw [HT.out]), below5 b6 (by omega) _ _ _ _ _⟩

end Go.Proofs.YtcilemkeljcidaaDoor
