import Derived.Test.YtcilemkeljcidaaDoorPk2
import Derived.Test.YtcilemkeljcidaaDoorCl2
namespace Go.Proofs.YtcilemkeljcidaaDoor
open Go.RowKit
set_option linter.unusedVariables false
set_option maxRecDepth 100000

/-- What pack makes of any parts. -/
def pki (F : M.Fm) (c : Int) (n : Bool) (s : Nat) (q : Int) : Nat :=
  if c = 2 then jn F n 0 s else if c = 3 then jn F n (IntKind.i64.wrap (q + (F.emax : Int) + (F.p : Int) - 1)) s
  else if c = 4 then jn F n (F.top : Int) F.lead else if c = 5 then jn F false (F.top : Int) ((F.lead + 2 ^ (F.p - 2)) % 2 ^ 128) else jn F n 0 0

theorem new3v (v : World) (xs ys zs : Array Value) (t s r : TypeId) : ∃ V, ((v.alloc (.cells xs t)).alloc (.cells ys s)).alloc (.cells zs r) = V ∧ Cls V v.heap.size xs t ∧ Cls V (v.heap.size + 1) ys s ∧ Cls V (v.heap.size + 1 + 1) zs r ∧ Below v.heap.size v V :=
  ⟨_, rfl, Cls.new3 v xs ys zs t s r⟩

theorem djz (F : M.Fm) (h : F.Ok) (n : Bool) (s : Nat) (hs : s < 2 ^ 128) (Z : Int) (v : World) (z : Int) (hz : z = Z) :
    Calls Tryd.prog 60 #[.agg #[.int .i64 (F.p : Int), .int .i64 (1 - (F.emax : Int)), .int .i64 (F.emax : Int), .int .i64 (F.wd : Int), .int .i64 (F.e : Int), .bool F.x], .bool n, .int .i64 z, .agg #[.int .u64 (M.hiN s : Int), .int .u64 (M.loN s : Int)]] v fun e w' => e = .returned (.agg #[.int .u64 (M.hiN (jn F n Z s) : Int), .int .u64 (M.loN (jn F n Z s) : Int)]) ∧ Below v.heap.size v w' := by
  rw [hz]
  exact djoin F h n Z s hs v

set_option maxHeartbeats 4000000 in
set_option maxRecDepth 10000 in
theorem dpack (F : M.Fm) (h : F.Ok) (c : Int) (n : Bool) (s : Nat) (q : Int) (hs : s < 2 ^ 128) (w : World) :
    Calls Tryd.prog 40 #[.agg #[.int .i64 (F.p : Int), .int .i64 (1 - (F.emax : Int)), .int .i64 (F.emax : Int), .int .i64 (F.wd : Int), .int .i64 (F.e : Int), .bool F.x], .agg #[.int .i64 c, .bool n, .int .u64 (M.hiN s : Int), .int .u64 (M.loN s : Int), .int .i64 q]] w fun e w' => e = .returned (.agg #[.int .u64 (M.hiN (pki F c n s q) : Int), .int .u64 (M.loN (pki F c n s q) : Int)]) ∧ Below w.heap.size w w' := by
  obtain ⟨V, hV, cd, cp, cr, b0⟩ := new3v w #[.int .i64 (F.p : Int), .int .i64 (1 - (F.emax : Int)), .int .i64 (F.emax : Int), .int .i64 (F.wd : Int), .int .i64 (F.e : Int), .bool F.x] #[.int .i64 c, .bool n, .int .u64 (M.hiN s : Int), .int .u64 (M.loN s : Int), .int .i64 q] #[.int .u64 0, .int .u64 0] 23 32 30
  have HV := hid hV
  have HB := hid b0
  have kT := fun v : World => dTop F h v
  have kL := fun v : World => dLead F h v
  simp only [dv] at kT kL
  have A0 : Below V.heap.size V V.drew := (Below.refl _ _).drew
  obtain ⟨S, hS⟩ : ∃ S : World → Prop, S = (fun v => v.cell? ⟨w.heap.size, 0, none⟩ = some (.int .i64 (F.p : Int)) ∧ v.cell? ⟨w.heap.size, 1, none⟩ = some (.int .i64 (1 - (F.emax : Int))) ∧ v.cell? ⟨w.heap.size, 2, none⟩ = some (.int .i64 (F.emax : Int)) ∧ v.cell? ⟨w.heap.size, 3, none⟩ = some (.int .i64 (F.wd : Int)) ∧ v.cell? ⟨w.heap.size, 4, none⟩ = some (.int .i64 (F.e : Int)) ∧ v.cell? ⟨w.heap.size, 5, none⟩ = some (.bool F.x) ∧ v.cell? ⟨w.heap.size + 1, 1, none⟩ = some (.bool n)) := ⟨_, rfl⟩
  have KB : ∀ v : World, Below V.heap.size V v → S v := fun v hv => by rw [hS]; exact ⟨(cd.below hv).cell 0 rfl, (cd.below hv).cell 1 rfl, (cd.below hv).cell 2 rfl, (cd.below hv).cell 3 rfl, (cd.below hv).cell 4 rfl, (cd.below hv).cell 5 rfl, (cp.below hv).cell 1 rfl⟩
  have KS : ∀ (v : World) (x y : Value), Below V.heap.size V v → S ((v.setCell ⟨w.heap.size + 1 + 1, 0, none⟩ x).setCell ⟨w.heap.size + 1 + 1, 1, none⟩ y) := fun v x y hv => by
    have k := KB v hv
    rw [hS] at k ⊢
    obtain ⟨d0, d1, d2, d3, d4, d5, p1⟩ := k
    refine ⟨?_, ?_, ?_, ?_, ?_, ?_, ?_⟩ <;> (refine (far2 v x y (by omega)).trans ?_; assumption)
  subst hS
  have KR := hid (fun (u : World) (hb : Below V.heap.size V u) => cr.below hb)
  clear hV b0 cr cd cp
  rcases (show (c = 4 ∨ c = 5) ∨ c = 2 ∨ c = 3 ∨ (c ≠ 2 ∧ c ≠ 3 ∧ c ≠ 4 ∧ c ≠ 5) by omega) with (rfl | rfl) | rfl | rfl | ⟨h2, h3, h4, h5⟩
  · have kJ := fun v : World => djoin F h n (F.top : Int) F.lead (lead_lt h) v
    rw [show pki F 4 n s q = jn F n (F.top : Int) F.lead from rfl]
    generalize jn F n (F.top : Int) F.lead = Q at *
    go_enter Tryd.func40, Tryd.ntmps40
    go_upto_region 7 with fail
    rw [HV.out]
    go_region_held3 (fun v => v.cell? ⟨w.heap.size, 0, none⟩ = some (.int .i64 (F.p : Int)) ∧ v.cell? ⟨w.heap.size, 1, none⟩ = some (.int .i64 (1 - (F.emax : Int))) ∧ v.cell? ⟨w.heap.size, 2, none⟩ = some (.int .i64 (F.emax : Int)) ∧ v.cell? ⟨w.heap.size, 3, none⟩ = some (.int .i64 (F.wd : Int)) ∧ v.cell? ⟨w.heap.size, 4, none⟩ = some (.int .i64 (F.e : Int)) ∧ v.cell? ⟨w.heap.size, 5, none⟩ = some (.bool F.x) ∧ v.cell? ⟨w.heap.size + 1, 1, none⟩ = some (.bool n)) (first | with_reducible exact KB _ hb3 | with_reducible exact KB _ hb2 | with_reducible exact KB _ hb1 | with_reducible exact KB _ A0 | with_reducible exact KS _ _ _ hb3)
      (first | (have hq := hb2; clear hq; go_at_call 60; refine (kJ _).mono ?_; rintro e u3 ⟨rfl, hb0⟩; have hb3 := keepC (w1 := V) hb2 hb0; clear hb0; have r0 := (KR.out _ hb3).cell 0 rfl; have r1 := (KR.out _ hb3).cell 1 rfl; have r2 := (KR.out _ hb3).frozen 0; have r3 := (KR.out _ hb3).frozen 1) | (have hq := hb1; clear hq; go_at_call 56; refine (kL _).mono ?_; rintro e u2 ⟨rfl, hb0⟩; have hb2 := keepC (w1 := V) hb1 hb0; clear hb0) | (go_at_call 55; refine (kT _).mono ?_; rintro e u1 ⟨rfl, hb0⟩; have hb1 := keepC (w1 := V) A0 hb0; clear hb0))
    all_goals go_wp2_with fail
    all_goals exact bodyPost_ret (v := .agg #[.int .u64 (M.hiN Q : Int), .int .u64 (M.loN Q : Int)]) (by simp [results, Tryd.results40, go_sem, r0, r1]) rfl ⟨rfl, ((keepC HB.out hb3).setCell (p := ⟨w.heap.size + 1 + 1, 0, none⟩) (by simp only; omega) _).setCell (p := ⟨w.heap.size + 1 + 1, 1, none⟩) (by simp only; omega) _⟩
  · have hp2 : 2 ≤ F.p := by have := h.p1; omega
    have hp3 := h.p2
    have hb2 : 2 ^ (F.p - 2) < 2 ^ 128 := Nat.pow_lt_pow_right (by omega) (by omega)
    have kB : ∀ (v : World) (z : Int), z = (F.p : Int) - 2 → Calls Tryd.prog 61 #[.int .i64 z] v fun e w' => e = .returned (.agg #[.int .u64 (M.hiN (2 ^ (F.p - 2)) : Int), .int .u64 (M.loN (2 ^ (F.p - 2)) : Int)]) ∧ Below v.heap.size v w' := fun v z hz => by
      rw [hz, show (F.p : Int) - 2 = ((F.p - 2 : Nat) : Int) by omega]
      exact wbitAt (F.p - 2) v (by omega) _ rfl
    have kP := fun v : World => wplus F.lead (2 ^ (F.p - 2)) v (lead_lt h) hb2 _ rfl
    have kJ := fun v : World => djoin F h false (F.top : Int) ((F.lead + 2 ^ (F.p - 2)) % 2 ^ 128) (Nat.mod_lt _ (by omega)) v
    rw [show pki F 5 n s q = jn F false (F.top : Int) ((F.lead + 2 ^ (F.p - 2)) % 2 ^ 128) from rfl]
    generalize (F.lead + 2 ^ (F.p - 2)) % 2 ^ 128 = Y at *
    generalize 2 ^ (F.p - 2) = T at *
    generalize jn F false (F.top : Int) Y = Q at *
    clear hb2
    go_enter Tryd.func40, Tryd.ntmps40
    go_upto_region 9 with fail
    rw [HV.out]
    go_region_held3 (fun v => v.cell? ⟨w.heap.size, 0, none⟩ = some (.int .i64 (F.p : Int)) ∧ v.cell? ⟨w.heap.size, 1, none⟩ = some (.int .i64 (1 - (F.emax : Int))) ∧ v.cell? ⟨w.heap.size, 2, none⟩ = some (.int .i64 (F.emax : Int)) ∧ v.cell? ⟨w.heap.size, 3, none⟩ = some (.int .i64 (F.wd : Int)) ∧ v.cell? ⟨w.heap.size, 4, none⟩ = some (.int .i64 (F.e : Int)) ∧ v.cell? ⟨w.heap.size, 5, none⟩ = some (.bool F.x) ∧ v.cell? ⟨w.heap.size + 1, 1, none⟩ = some (.bool n)) (first | with_reducible exact KB _ hb5 | with_reducible exact KB _ hb4 | with_reducible exact KB _ hb3 | with_reducible exact KB _ hb2 | with_reducible exact KB _ hb1 | with_reducible exact KB _ A0 | with_reducible exact KS _ _ _ hb5)
      (first | (have hq := hb4; clear hq; go_at_call 60; refine (kJ _).mono ?_; rintro e u5 ⟨rfl, hb0⟩; have hb5 := keepC (w1 := V) hb4 hb0; clear hb0; have r0 := (KR.out _ hb5).cell 0 rfl; have r1 := (KR.out _ hb5).cell 1 rfl; have r2 := (KR.out _ hb5).frozen 0; have r3 := (KR.out _ hb5).frozen 1) | (have hq := hb3; clear hq; go_at_call 47; refine (kP _).mono ?_; rintro e u4 ⟨rfl, hb0⟩; have hb4 := keepC (w1 := V) hb3 hb0; clear hb0) | (have hq := hb2; clear hq; go_at_call 61; refine (kB _ _ (by first | with_reducible rfl | omega | (simp only [IntKind.wrap_i64]; omega))).mono ?_; rintro e u3 ⟨rfl, hb0⟩; have hb3 := keepC (w1 := V) hb2 hb0; clear hb0) | (have hq := hb1; clear hq; go_at_call 56; refine (kL _).mono ?_; rintro e u2 ⟨rfl, hb0⟩; have hb2 := keepC (w1 := V) hb1 hb0; clear hb0) | (go_at_call 55; refine (kT _).mono ?_; rintro e u1 ⟨rfl, hb0⟩; have hb1 := keepC (w1 := V) A0 hb0; clear hb0))
    all_goals go_wp2_with fail
    all_goals exact bodyPost_ret (v := .agg #[.int .u64 (M.hiN Q : Int), .int .u64 (M.loN Q : Int)]) (by simp [results, Tryd.results40, go_sem, r0, r1]) rfl ⟨rfl, ((keepC HB.out hb5).setCell (p := ⟨w.heap.size + 1 + 1, 0, none⟩) (by simp only; omega) _).setCell (p := ⟨w.heap.size + 1 + 1, 1, none⟩) (by simp only; omega) _⟩
  have kQ := djz F h n s hs 0
  rw [show pki F 2 n s q = jn F n 0 s from rfl]
  generalize jn F n 0 s = Q at *
  rotate_left
  have kQ := djz F h n s hs (IntKind.i64.wrap (q + (F.emax : Int) + (F.p : Int) - 1))
  rw [show pki F 3 n s q = jn F n (IntKind.i64.wrap (q + (F.emax : Int) + (F.p : Int) - 1)) s from rfl]
  generalize jn F n (IntKind.i64.wrap (q + (F.emax : Int) + (F.p : Int) - 1)) s = Q at *
  rotate_left
  have kQ := djz F h n 0 (by omega) 0
  simp only [hi0, lo0] at kQ
  rw [show pki F c n s q = jn F n 0 0 by unfold pki; rw [if_neg h2, if_neg h3, if_neg h4, if_neg h5]]
  generalize jn F n 0 0 = Q at *
  all_goals (
    clear KB KS A0
    go_enter Tryd.func40, Tryd.ntmps40
    go_wp2_with fail
    refine (kQ _ _ (by first | with_reducible rfl | (simp only [wrap64, IntKind.wrap_i64]; omega) | (simp only [IntKind.wrap_i64]; omega))).mono ?_
    rintro e u ⟨rfl, hbj⟩
    rw [HV.out] at hbj
    have r0 := (KR.out _ hbj).cell 0 rfl
    have r1 := (KR.out _ hbj).cell 1 rfl
    have r2 := (KR.out _ hbj).frozen 0
    have r3 := (KR.out _ hbj).frozen 1
    have bb := hid (keepC HB.out hbj)
    clear hbj
    go_wp2_with fail
    exact bodyPost_ret (v := .agg #[.int .u64 (M.hiN Q : Int), .int .u64 (M.loN Q : Int)]) (by simp [results, Tryd.results40, go_sem, r0, r1]) rfl ⟨rfl, (bb.out.setCell (p := ⟨w.heap.size + 1 + 1, 0, none⟩) (by simp only; omega) _).setCell (p := ⟨w.heap.size + 1 + 1, 1, none⟩) (by simp only; omega) _⟩)

end Go.Proofs.YtcilemkeljcidaaDoor
