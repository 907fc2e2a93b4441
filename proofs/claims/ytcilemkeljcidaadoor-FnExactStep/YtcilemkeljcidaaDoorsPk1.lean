import Derived.Test.YtcilemkeljcidaaDoorsIoA
set_option maxHeartbeats 8000000
set_option maxRecDepth 10000
namespace Go.Proofs.YtcilemkeljcidaaDoor
open Go.RowKit
set_option linter.unusedVariables false
set_option maxRecDepth 100000
def uw (fld : Int) : Nat := (IntKind.u64.wrap fld).toNat

theorem uw_eq (fld : Int) : IntKind.u64.wrap fld = ((uw fld : Nat) : Int) ∧ uw fld < 18446744073709551616 := by
 unfold uw
 rw [IntKind.wrap_u64]
 omega

def js (F : M.Fm) (fld : Int) (sg : Nat) : Nat := if F.x = false ∧ 0 < fld then (sg + (2 ^ 128 - F.lead)) % 2 ^ 128 else sg

theorem js_yes {F : M.Fm} {fld : Int} (sg : Nat) (h : F.x = false ∧ 0 < fld) : js F fld sg = (sg + (2 ^ 128 - F.lead)) % 2 ^ 128 := by unfold js; rw [if_pos h]

theorem js_no {F : M.Fm} {fld : Int} (sg : Nat) (h : ¬ (F.x = false ∧ 0 < fld)) : js F fld sg = sg := by unfold js; rw [if_neg h]

theorem js_lt (F : M.Fm) (fld : Int) {sg : Nat} (h : sg < 2 ^ 128) : js F fld sg < 2 ^ 128 := by
 unfold js; split
 · exact Nat.mod_lt _ (by omega)
 · exact h

def jy (F : M.Fm) (fld : Int) (sg : Nat) : Nat := (uw fld * 2 ^ F.fb % 2 ^ 128 + js F fld sg) % 2 ^ 128

def jn (F : M.Fm) (n : Bool) (fld : Int) (sg : Nat) : Nat := if n = true then (jy F fld sg + 2 ^ (F.wd - 1)) % 2 ^ 128 else jy F fld sg

structure Jv (w v : World) (F : M.Fm) (fx : Bool) (sg : Nat) : Prop where
 b : Below w.heap.size w v
 d : v.cell? ⟨w.heap.size, 0, none⟩ = some (.int .i64 (F.p : Int)) ∧ v.cell? ⟨w.heap.size, 1, none⟩ = some (.int .i64 (1 - (F.emax : Int))) ∧ v.cell? ⟨w.heap.size, 2, none⟩ = some (.int .i64 (F.emax : Int)) ∧ v.cell? ⟨w.heap.size, 3, none⟩ = some (.int .i64 (F.wd : Int)) ∧ v.cell? ⟨w.heap.size, 4, none⟩ = some (.int .i64 (F.e : Int)) ∧ v.cell? ⟨w.heap.size, 5, none⟩ = some (.bool fx)
 s : W2 v (w.heap.size + 1) sg
 r : W2 v (w.heap.size + 1 + 1) 0

theorem W2.below {v v' : World} {g X : Nat} (h : W2 v g X) (hb : Below v.heap.size v v') : W2 v' g X :=
 ⟨(hb.cell h.2.2.2.2).trans h.1, (hb.cell h.2.2.2.2).trans h.2.1, (hb.frozen h.2.2.2.2).trans h.2.2.1, (hb.frozen h.2.2.2.2).trans h.2.2.2.1, Nat.lt_of_lt_of_le h.2.2.2.2 hb.size⟩

theorem Jv.below {w v v' : World} {F : M.Fm} {fx : Bool} {sg : Nat} (h : Jv w v F fx sg) (hb : Below v.heap.size v v') : Jv w v' F fx sg := by
 have hl : w.heap.size < v.heap.size := Nat.lt_trans (Nat.lt_succ_self _) h.s.2.2.2.2
 obtain ⟨d0, d1, d2, d3, d4, d5⟩ := h.d
 exact ⟨h.b.trans (hb.mono h.b.size), ⟨(hb.cell hl).trans d0, (hb.cell hl).trans d1, (hb.cell hl).trans d2, (hb.cell hl).trans d3, (hb.cell hl).trans d4, (hb.cell hl).trans d5⟩, h.s.below hb, h.r.below hb⟩

theorem W2_zero (v : World) : W2 (v.alloc (.cells #[.int .u64 0, .int .u64 0] 30)) v.heap.size 0 := by
 have := W2_new v 0 30
 rw [hi0, lo0] at this
 exact this

theorem Jv.raw {w v : World} {F : M.Fm} {fx : Bool} {sg : Nat} (h : Jv w v F fx sg) : v.cell? ⟨w.heap.size, 0, none⟩ = some (.int .i64 (F.p : Int)) ∧ v.cell? ⟨w.heap.size, 1, none⟩ = some (.int .i64 (1 - (F.emax : Int))) ∧ v.cell? ⟨w.heap.size, 2, none⟩ = some (.int .i64 (F.emax : Int)) ∧ v.cell? ⟨w.heap.size, 3, none⟩ = some (.int .i64 (F.wd : Int)) ∧ v.cell? ⟨w.heap.size, 4, none⟩ = some (.int .i64 (F.e : Int)) ∧ v.cell? ⟨w.heap.size, 5, none⟩ = some (.bool fx) ∧ v.cell? ⟨w.heap.size + 1, 0, none⟩ = some (.int .u64 (M.hiN sg : Int)) ∧ v.cell? ⟨w.heap.size + 1, 1, none⟩ = some (.int .u64 (M.loN sg : Int)) := by
 obtain ⟨d0, d1, d2, d3, d4, d5⟩ := h.d
 exact ⟨d0, d1, d2, d3, d4, d5, h.s.1, h.s.2.1⟩

theorem Jv.set {w v : World} {F : M.Fm} {fx : Bool} {sg : Nat} (h : Jv w v F fx sg) (s' : Nat) : Jv w ((v.setCell ⟨w.heap.size + 1, 0, none⟩ (.int .u64 (M.hiN s' : Int))).setCell ⟨w.heap.size + 1, 1, none⟩ (.int .u64 (M.loN s' : Int))) F fx s' := by
 obtain ⟨d0, d1, d2, d3, d4, d5⟩ := h.d
 obtain ⟨s0, s1, s2, s3, s4⟩ := h.s
 obtain ⟨r0, r1, r2, r3, r4⟩ := h.r
 refine ⟨(h.b.setCell (p := ⟨w.heap.size + 1, 0, none⟩) (Nat.le_succ _) _).setCell (p := ⟨w.heap.size + 1, 1, none⟩) (Nat.le_succ _) _, ⟨?_, ?_, ?_, ?_, ?_, ?_⟩, W2_set s0 s1 s2 s3, ⟨?_, ?_, ?_, ?_, by simpa using r4⟩⟩
 · exact (far2 v _ _ (by omega)).trans d0
 · exact (far2 v _ _ (by omega)).trans d1
 · exact (far2 v _ _ (by omega)).trans d2
 · exact (far2 v _ _ (by omega)).trans d3
 · exact (far2 v _ _ (by omega)).trans d4
 · exact (far2 v _ _ (by omega)).trans d5
 · exact (far2 v _ _ (by omega)).trans r0
 · exact (far2 v _ _ (by omega)).trans r1
 · exact (ffar2 v _ _ (by omega)).trans r2
 · exact (ffar2 v _ _ (by omega)).trans r3

theorem djoin_m (F : M.Fm) (fx n : Bool) (fld : Int) (sg Z : Nat) (w : World) (hZ : ¬ (fx = false ∧ 0 < fld) → Z = sg)
 (kL : ∀ v : World, Calls Tryd.prog 56 #[.agg #[.int .i64 (F.p : Int), .int .i64 (1 - (F.emax : Int)), .int .i64 (F.emax : Int), .int .i64 (F.wd : Int), .int .i64 (F.e : Int), .bool fx]] v fun e w' => e = .returned (.agg #[.int .u64 (M.hiN F.lead : Int), .int .u64 (M.loN F.lead : Int)]) ∧ Below v.heap.size v w')
 (kM : fx = false ∧ 0 < fld → ∀ v : World, Calls Tryd.prog 46 #[.agg #[.int .u64 (M.hiN sg : Int), .int .u64 (M.loN sg : Int)], .agg #[.int .u64 (M.hiN F.lead : Int), .int .u64 (M.loN F.lead : Int)]] v fun e w' => e = .returned (.agg #[.int .u64 (M.hiN Z : Int), .int .u64 (M.loN Z : Int)]) ∧ Below v.heap.size v w') (U Y T R Q : Nat) (hwd : F.wd ≤ 128) (hwd1 : 1 ≤ F.wd) (hQ : Q = if n = true then R else Y)
 (kB : ∀ (v : World) (z : Int), z = (F.wd : Int) - 1 → Calls Tryd.prog 61 #[.int .i64 z] v fun e w' => e = .returned (.agg #[.int .u64 (M.hiN T : Int), .int .u64 (M.loN T : Int)]) ∧ Below v.heap.size v w')
 (kQ : ∀ v : World, Calls Tryd.prog 47 #[.agg #[.int .u64 (M.hiN Y : Int), .int .u64 (M.loN Y : Int)], .agg #[.int .u64 (M.hiN T : Int), .int .u64 (M.loN T : Int)]] v fun e w' => e = .returned (.agg #[.int .u64 (M.hiN R : Int), .int .u64 (M.loN R : Int)]) ∧ Below v.heap.size v w')
 (kF : ∀ v : World, Calls Tryd.prog 53 #[.agg #[.int .i64 (F.p : Int), .int .i64 (1 - (F.emax : Int)), .int .i64 (F.emax : Int), .int .i64 (F.wd : Int), .int .i64 (F.e : Int), .bool fx]] v fun e w' => e = .returned (.int .i64 (F.fb : Int)) ∧ Below v.heap.size v w')
 (kS : ∀ v : World, Calls Tryd.prog 54 #[.agg #[.int .u64 0, .int .u64 (IntKind.u64.wrap fld)], .int .i64 (F.fb : Int)] v fun e w' => e = .returned (.agg #[.int .u64 (M.hiN U : Int), .int .u64 (M.loN U : Int)]) ∧ Below v.heap.size v w')
 (kP : ∀ v : World, Calls Tryd.prog 47 #[.agg #[.int .u64 (M.hiN U : Int), .int .u64 (M.loN U : Int)], .agg #[.int .u64 (M.hiN Z : Int), .int .u64 (M.loN Z : Int)]] v fun e w' => e = .returned (.agg #[.int .u64 (M.hiN Y : Int), .int .u64 (M.loN Y : Int)]) ∧ Below v.heap.size v w') :
 Calls Tryd.prog 60 #[.agg #[.int .i64 (F.p : Int), .int .i64 (1 - (F.emax : Int)), .int .i64 (F.emax : Int), .int .i64 (F.wd : Int), .int .i64 (F.e : Int), .bool fx], .bool n, .int .i64 fld, .agg #[.int .u64 (M.hiN sg : Int), .int .u64 (M.loN sg : Int)]] w fun e w' => e = .returned (.agg #[.int .u64 (M.hiN Q : Int), .int .u64 (M.loN Q : Int)]) ∧ Below w.heap.size w w' := by
 have HZ := hid hZ
 have HM := hid kM
 clear hZ kM
 go_enter Tryd.func60, Tryd.ntmps60
 go_upto_region 1 with fail
 have J0 : Jv w (((w.alloc (.cells #[.int .i64 (F.p : Int), .int .i64 (1 - (F.emax : Int)), .int .i64 (F.emax : Int), .int .i64 (F.wd : Int), .int .i64 (F.e : Int), .bool fx] 23)).alloc (.cells #[.int .u64 (M.hiN sg : Int), .int .u64 (M.loN sg : Int)] 30)).alloc (.cells #[.int .u64 0, .int .u64 0] 30)) F fx sg := by
  refine ⟨(((Below.refl _ _).alloc (Nat.le_refl _) _).alloc (by simp) _).alloc (by simp; omega) _, ⟨?_, ?_, ?_, ?_, ?_, ?_⟩, ⟨?_, ?_, ?_, ?_, ?_⟩, ⟨?_, ?_, ?_, ?_, ?_⟩⟩ <;> simp [go_sem, hi0, lo0] <;> omega
 generalize (((w.alloc (.cells #[.int .i64 (F.p : Int), .int .i64 (1 - (F.emax : Int)), .int .i64 (F.emax : Int), .int .i64 (F.wd : Int), .int .i64 (F.e : Int), .bool fx] 23)).alloc (.cells #[.int .u64 (M.hiN sg : Int), .int .u64 (M.loN sg : Int)] 30)).alloc (.cells #[.int .u64 0, .int .u64 0] 30)) = v0 at *
 obtain ⟨bb, hbb⟩ : ∃ bb : Bool, bb = decide (fx = false ∧ 0 < fld) := ⟨_, rfl⟩
 have HBB := hid hbb
 clear hbb
 go_cut [16] (fun x wx => x = .bool bb ∧ wx = v0)
 case first =>
  obtain ⟨d0, d1, d2, d3, d4, d5⟩ := id J0.d
  cases fx <;> by_cases h0 : 0 < fld
  all_goals (
   go_wp2_with fail
   go_meet
   exact ⟨by rw [HBB.out]; simp [h0], rfl⟩)
 case rest =>
 obtain ⟨rfl, hww⟩ := hcut
 replace hww := hww.symm
 subst hww
 cases bb
 go_upto_region 3 with fail
 have hz := HZ.out (of_decide_eq_false HBB.out.symm)
 clear HM HZ HBB
 subst hz
 have J1 := J0
 clear J0
 obtain ⟨wx, hwx⟩ : ∃ wx, wx = v0 := ⟨_, rfl⟩
 subst hwx
 rotate_left
 focus
  have kM := HM.out (of_decide_eq_true HBB.out.symm)
  clear HZ HM HBB
  go_upto_region 2 with fail
  have A0 : Below v0.heap.size v0 v0.drew := (Below.refl _ _).drew
  obtain ⟨e0, e1, -, -, -⟩ := (J0.below A0).s
  have KH : ∀ v, Below v0.heap.size v0 v → (fun v => v.cell? ⟨w.heap.size, 0, none⟩ = some (.int .i64 (F.p : Int)) ∧ v.cell? ⟨w.heap.size, 1, none⟩ = some (.int .i64 (1 - (F.emax : Int))) ∧ v.cell? ⟨w.heap.size, 2, none⟩ = some (.int .i64 (F.emax : Int)) ∧ v.cell? ⟨w.heap.size, 3, none⟩ = some (.int .i64 (F.wd : Int)) ∧ v.cell? ⟨w.heap.size, 4, none⟩ = some (.int .i64 (F.e : Int)) ∧ v.cell? ⟨w.heap.size, 5, none⟩ = some (.bool fx)) v := fun v hv => (J0.below hv).d
  have KS : ∀ v x y, Below v0.heap.size v0 v → (fun v => v.cell? ⟨w.heap.size, 0, none⟩ = some (.int .i64 (F.p : Int)) ∧ v.cell? ⟨w.heap.size, 1, none⟩ = some (.int .i64 (1 - (F.emax : Int))) ∧ v.cell? ⟨w.heap.size, 2, none⟩ = some (.int .i64 (F.emax : Int)) ∧ v.cell? ⟨w.heap.size, 3, none⟩ = some (.int .i64 (F.wd : Int)) ∧ v.cell? ⟨w.heap.size, 4, none⟩ = some (.int .i64 (F.e : Int)) ∧ v.cell? ⟨w.heap.size, 5, none⟩ = some (.bool fx)) ((v.setCell ⟨w.heap.size + 1, 0, none⟩ x).setCell ⟨w.heap.size + 1, 1, none⟩ y) := fun v x y hv => by
   obtain ⟨d0, d1, d2, d3, d4, d5⟩ := (J0.below hv).d
   exact ⟨(far2 v _ _ (by omega)).trans d0, (far2 v _ _ (by omega)).trans d1, (far2 v _ _ (by omega)).trans d2, (far2 v _ _ (by omega)).trans d3, (far2 v _ _ (by omega)).trans d4, (far2 v _ _ (by omega)).trans d5⟩
  have JB : ∀ v, Below v0.heap.size v0 v → Jv w v F fx sg := fun v hv => J0.below hv
  go_cut [7] (fun p wx => p = .pointer (some ⟨w.heap.size + 1, 0, none⟩) ∧ Jv w wx F fx Z)
  case first =>
   obtain ⟨d0, d1, d2, d3, d4, d5⟩ := (J0.below A0).d
   go_region_with (first | (have hq := hb1; clear hq; go_at_call 46; refine (kM _).mono ?_; rintro e u2 ⟨rfl, hb0⟩; have hb2 := keepC (w1 := v0) hb1 hb0; clear hb0; obtain ⟨y0, y1, y2, y3, -⟩ := (JB _ hb2).s) | (go_at_call 56; refine (kL _).mono ?_; rintro e u1 ⟨rfl, hb0⟩; have hb1 := keepC (w1 := v0) A0 hb0; clear hb0; obtain ⟨x0, x1, -, -, -⟩ := (JB _ hb1).s; obtain ⟨m0, m1, m2, m3, m4, m5⟩ := (JB _ hb1).d))
   all_goals go_wp2_with fail
   all_goals go_meet
   all_goals exact ⟨rfl, (JB _ hb2).set Z⟩
  case' rest =>
   rename World => wx
   obtain ⟨rfl, J1⟩ := hcut
   go_upto_region 3 with fail
 all_goals (
  have A0 : Below wx.heap.size wx wx.drew := (Below.refl _ _).drew
  have A1 : Below wx.heap.size wx (wx.alloc (.cells #[.int .u64 0, .int .u64 0] 30)).drew := (keepAl2 (Below.refl _ _) _).drew
  have ZA : W2 (wx.alloc (.cells #[.int .u64 0, .int .u64 0] 30)).drew wx.heap.size 0 := (W2_zero wx).below (Below.refl _ _).drew
  have JB : ∀ v, Below wx.heap.size wx v → Jv w v F fx Z := fun v hv => J1.below hv
  have KH : ∀ v, Below wx.heap.size wx v → (fun v => v.cell? ⟨w.heap.size, 0, none⟩ = some (.int .i64 (F.p : Int)) ∧ v.cell? ⟨w.heap.size, 1, none⟩ = some (.int .i64 (1 - (F.emax : Int))) ∧ v.cell? ⟨w.heap.size, 2, none⟩ = some (.int .i64 (F.emax : Int)) ∧ v.cell? ⟨w.heap.size, 3, none⟩ = some (.int .i64 (F.wd : Int)) ∧ v.cell? ⟨w.heap.size, 4, none⟩ = some (.int .i64 (F.e : Int)) ∧ v.cell? ⟨w.heap.size, 5, none⟩ = some (.bool fx) ∧ v.cell? ⟨w.heap.size + 1, 0, none⟩ = some (.int .u64 (M.hiN Z : Int)) ∧ v.cell? ⟨w.heap.size + 1, 1, none⟩ = some (.int .u64 (M.loN Z : Int))) v := fun v hv => (JB v hv).raw
  go_cut [9] (fun p wy => ∃ nb, p = .pointer (some ⟨nb, 0, none⟩) ∧ wx.heap.size ≤ nb ∧ W2 wy nb Y ∧ Below wx.heap.size wx wy)
  case first =>
   go_region_held3 (fun v => v.cell? ⟨w.heap.size, 0, none⟩ = some (.int .i64 (F.p : Int)) ∧ v.cell? ⟨w.heap.size, 1, none⟩ = some (.int .i64 (1 - (F.emax : Int))) ∧ v.cell? ⟨w.heap.size, 2, none⟩ = some (.int .i64 (F.emax : Int)) ∧ v.cell? ⟨w.heap.size, 3, none⟩ = some (.int .i64 (F.wd : Int)) ∧ v.cell? ⟨w.heap.size, 4, none⟩ = some (.int .i64 (F.e : Int)) ∧ v.cell? ⟨w.heap.size, 5, none⟩ = some (.bool fx) ∧ v.cell? ⟨w.heap.size + 1, 0, none⟩ = some (.int .u64 (M.hiN Z : Int)) ∧ v.cell? ⟨w.heap.size + 1, 1, none⟩ = some (.int .u64 (M.loN Z : Int))) (first | with_reducible exact KH _ hb3 | with_reducible exact KH _ (keepAl2 hb3 _) | with_reducible exact KH _ hb2 | with_reducible exact KH _ (keepAl2 hb2 _) | with_reducible exact KH _ hb1 | with_reducible exact KH _ (keepAl2 hb1 _) | with_reducible exact KH _ A0 | with_reducible exact KH _ A1 | with_reducible exact KH _ (keepSt2 (keepSt2 hb3 _ _ (by first | with_reducible exact Nat.le_refl _ | with_reducible exact hs1 | with_reducible exact hs2 | with_reducible exact hs3) _) _ _ (by first | with_reducible exact Nat.le_refl _ | with_reducible exact hs1 | with_reducible exact hs2 | with_reducible exact hs3) _))
    (first | (have hq := hb2; clear hq; go_at_call 47; refine (kP _).mono ?_; rintro e u3 ⟨rfl, hb0⟩; have hb3 := keepC (w1 := wx) (by first | with_reducible exact hb2 | with_reducible exact keepAl2 hb2 _) hb0; have hs3 := hb3.size; (first | (with_reducible replace z := z.below hb0) | (with_reducible have z := (W2_zero u2).below hb0) | skip); clear hb0; (try (have zz := z; obtain ⟨z0, z1, z2, z3, z4⟩ := zz))) | (have hq := hb1; clear hq; go_at_call 54; refine (kS _).mono ?_; rintro e u2 ⟨rfl, hb0⟩; have hb2 := keepC (w1 := wx) (by first | with_reducible exact hb1 | with_reducible exact keepAl2 hb1 _) hb0; have hs2 := hb2.size; (first | (with_reducible replace z := z.below hb0) | (with_reducible have z := (W2_zero u1).below hb0) | skip); clear hb0) | (go_at_call 53; refine (kF _).mono ?_; rintro e u1 ⟨rfl, hb0⟩; have hb1 := keepC (w1 := wx) (by first | with_reducible exact A0 | with_reducible exact A1) hb0; have hs1 := hb1.size; (first | (with_reducible have z := ZA.below hb0) | skip); clear hb0 ZA))
   all_goals go_wp2_with fail
   all_goals go_meet
   all_goals first | exact ⟨_, rfl, hs3, W2_new u3 Y _, keepAl2 hb3 _⟩ | exact ⟨_, rfl, (by first | with_reducible exact Nat.le_refl _ | with_reducible exact hs1 | with_reducible exact hs2 | with_reducible exact hs3), W2_set z.1 z.2.1 z.2.2.1 z.2.2.2.1, keepSt2 (keepSt2 hb3 _ _ (by first | with_reducible exact Nat.le_refl _ | with_reducible exact hs1 | with_reducible exact hs2 | with_reducible exact hs3) _) _ _ (by first | with_reducible exact Nat.le_refl _ | with_reducible exact hs1 | with_reducible exact hs2 | with_reducible exact hs3) _⟩
  case rest =>
   rename World => wy
   obtain ⟨nb, rfl, hnb, hW, hby⟩ := hcut
   have J2 := JB _ hby
   have hrl := J1.r.2.2.2.2
   clear ZA A0 A1 KH JB
   cases n
   · skip
     simp only [Bool.false_eq_true, if_false] at hQ
     subst hQ
     obtain ⟨x0, x1, -, -, -⟩ := id hW
     obtain ⟨r0, r1, r2, r3, -⟩ := J2.r
     go_wp2_with fail
     exact bodyPost_ret (v := .agg #[.int .u64 (M.hiN Q : Int), .int .u64 (M.loN Q : Int)]) (by simp [results, Tryd.results60, go_sem, r0, r1]) rfl ⟨rfl, (J2.b.setCell (p := ⟨w.heap.size + 1 + 1, 0, none⟩) (by simp only; omega) _).setCell (p := ⟨w.heap.size + 1 + 1, 1, none⟩) (by simp only; omega) _⟩
   · skip
     simp only [if_true] at hQ
     subst hQ
     go_upto_region 5 with fail
     have C0 : Below wy.heap.size wy wy.drew := (Below.refl _ _).drew
     obtain ⟨x0, x1, -, -, -⟩ := hW.below C0
     obtain ⟨d0, d1, d2, d3, d4, d5⟩ := (J2.below C0).d
     go_region_with (first | (have hq := hc1; clear hq; go_at_call 47; refine (kQ _).mono ?_; rintro e u5 ⟨rfl, hb0⟩; have hc2 := keepC (w1 := wy) hc1 hb0; clear hb0; obtain ⟨y0, y1, y2, y3, -⟩ := hW.below hc2) | (go_at_call 61; refine (kB _ _ (by first | with_reducible rfl | omega | (simp only [IntKind.wrap_i64]; omega))).mono ?_; rintro e u4 ⟨rfl, hb0⟩; have hc1 := keepC (w1 := wy) C0 hb0; clear hb0; obtain ⟨s0, s1, -, -, -⟩ := hW.below hc1; obtain ⟨m0, m1, m2, m3, m4, m5⟩ := (J2.below hc1).d))
     all_goals have J5 := J2.below hc2
     all_goals obtain ⟨r0, r1, r2, r3, r4⟩ := J5.r
     all_goals have nrb : w.heap.size + 1 + 1 ≠ nb := by omega
     all_goals have q0 := fun x y => (far2 u5 x y nrb).trans r0
     all_goals have q1 := fun x y => (far2 u5 x y nrb).trans r1
     all_goals have q2 := fun x y => (ffar2 u5 x y nrb).trans r2
     all_goals have q3 := fun x y => (ffar2 u5 x y nrb).trans r3
     all_goals go_wp2_with fail
     all_goals have hnw : w.heap.size ≤ nb := by omega
     all_goals exact bodyPost_ret (v := .agg #[.int .u64 (M.hiN Q : Int), .int .u64 (M.loN Q : Int)]) (by simp [results, Tryd.results60, go_sem, q0, q1]) rfl ⟨rfl, (((J5.b.setCell (p := ⟨nb, 0, none⟩) hnw _).setCell (p := ⟨nb, 1, none⟩) hnw _).setCell (p := ⟨w.heap.size + 1 + 1, 0, none⟩) (by simp only; omega) _).setCell (p := ⟨w.heap.size + 1 + 1, 1, none⟩) (by simp only; omega) _⟩)

end Go.Proofs.YtcilemkeljcidaaDoor
