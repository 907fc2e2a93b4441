import Derived.Test.YtogkkecnmlnajaaDoorqSpn
set_option maxHeartbeats 1000000
namespace Go.Proofs.YtogkkecnmlnajaaDoor
open Go.RowKit
set_option linter.unusedVariables false
set_option maxRecDepth 100000
theorem L_len_b (a j K : Nat) (h : a < 2 ^ j) (hj : j ≤ 64 * K) : (L a).length ≤ K := by
 refine M.len_of_lt (B := 18446744073709551616) (by omega) _ _ ?_
 rw [show (18446744073709551616 : Nat) = 2 ^ 64 by rfl, ← Nat.pow_mul]
 exact Nat.lt_of_lt_of_le h (Nat.pow_le_pow_right (by omega) hj)

theorem mul_pow_lt {x u : Nat} (hx : x < 2 ^ 128) : x * 2 ^ u < 2 ^ (128 + u) := by
 rw [Nat.pow_add]
 exact Nat.mul_lt_mul_of_pos_right hx (Nat.pow_pos (by omega))

def bLow (F : M.Fm) (t : M.Pt) : Nat := if t.s = F.lead ∧ F.qmin < t.q then 4 * t.s - 1 else 4 * t.s - 2

def bA (F : M.Fm) (t : M.Pt) : Nat := bLow F t * 2 ^ (t.q - 2).toNat

def bB (t : M.Pt) : Nat := (4 * t.s + 2) * 2 ^ (t.q - 2).toNat

def bC (t : M.Pt) : Nat := 2 ^ (2 - t.q).toNat

structure Fin (F : M.Fm) (t : M.Pt) : Prop where
 s1 : 0 < t.s
 s2 : t.s < 2 * F.lead
 q1 : F.qmin ≤ t.q
 q2 : t.q + F.p - 1 ≤ F.emax
 q3 : -16600 ≤ t.q
 q4 : t.q ≤ 16400
 s3 : t.s < 2 ^ 114
 s4 : t.c = 2 → t.s < F.lead

theorem fin_of {F : M.Fm} (h : F.Ok) {t : M.Pt} (hp : F.Proper t) (hc : t.c = 2 ∨ t.c = 3) : Fin F t := by
 have p1 := h.p1
 have p2 := h.p2
 have lp := h.leadPos
 have tp := h.top2
 have hq : F.qmin = 2 - (F.emax : Int) - (F.p : Int) := rfl
 have l2 : F.lead ≤ 2 ^ 112 := Nat.pow_le_pow_right (by omega) (by omega)
 have := hp
 unfold M.Fm.Proper at this
 constructor <;> omega

theorem twoL_any (s : Nat) (w : World) (hs : s ≤ 100000) :
 Calls Tryd.prog 50 #[.int .i64 (s : Int)] w fun e w' => Ret w w' e (D (2 ^ s)) := by
 go_enter Tryd.func50, Tryd.ntmps50
 go_wp2_with fail
 refine (l1Of_any 1 _ (by omega)).mono ?_
 rintro e w1 ⟨ao1, cap1, rfl, ho1, hb1⟩
 have hl : (D 1).length ≤ 6 := D_small 1 (by omega)
 go_wp2_with fail
 refine (l1Left_any ao1 _ cap1 s 1 _ rfl (by omega) (by omega) (Rd.own ho1)).mono ?_
 rw [Nat.one_mul]
 rintro e w2 ⟨ao2, cap2, rfl, ho2, hb2⟩
 go_wp2_with fail
 go_ret
 exact ⟨ao2, cap2, rfl, own_base ho2 hb1.size, hb1.trans (hb2.mono hb1.size)⟩

theorem sspan_any (f : Nat) (hf : f < 4) (T : M.Pt) (h : (M.fm f).Ok) (hfi : Fin (M.fm f) T) (hc : T.c = 2 ∨ T.c = 3) (w : World)
 (kb : T.c = 3 → ¬ T.s = (M.fm f).lead → Calls Tryd.prog 18 #[.int .i64 (f : Int), .agg #[.int .i64 T.c, .bool T.n, .int .u64 (M.hiN T.s : Int), .int .u64 (M.loN T.s : Int), .int .i64 T.q]] w fun e w' => Sp3 w w' e (bA (M.fm f) T) (bB T) (bC T)) :
 Calls Tryd.prog 18 #[.int .i64 (f : Int), .agg #[.int .i64 T.c, .bool T.n, .int .u64 (M.hiN T.s : Int), .int .u64 (M.loN T.s : Int), .int .i64 T.q]] w fun e w' => Sp3 w w' e (bA (M.fm f) T) (bB T) (bC T) := by
 have kE := fun v : World => sdescribe_ok f hf v
 simp only [dv] at kE
 generalize M.fm f = F at *
 have p1 := h.p1
 have p2 := h.p2
 have lp := h.leadPos
 have tp := h.top2
 have hqd : F.qmin = 2 - (F.emax : Int) - (F.p : Int) := rfl
 have l2 : F.lead ≤ 2 ^ 112 := Nat.pow_le_pow_right (by omega) (by omega)
 obtain ⟨s1, s2, q1, q2, q3, q4, s3, s4⟩ := hfi
 have kO := fun v : World => l2Of_any T.s (show T.s < 2 ^ 128 by omega) v
 have kL2 : ∀ (v : World) (ao : Option Addr) (c : Nat), Rd v ao (D T.s) → Calls Tryd.prog 20 #[.slice ao (D T.s).length c, .int .i64 2] v fun e w' => Ret v w' e (D (4 * T.s)) := fun v ao c hr => by
  have := l1Left_any ao _ c 2 T.s v rfl (Nat.le_trans (D_small T.s (by omega)) (by omega)) (by omega) hr
  rw [show T.s * 2 ^ 2 = 4 * T.s by omega] at this
  exact this
 have k2 : ∀ v : World, Calls Tryd.prog 21 #[.int .u64 2] v fun e w' => Ret v w' e (D 2) := fun v => l1Of_any 2 v (by omega)
 have k1 : ∀ v : World, Calls Tryd.prog 21 #[.int .u64 1] v fun e w' => Ret v w' e (D 1) := fun v => l1Of_any 1 v (by omega)
 have dl : ∀ x : Nat, x < 2 ^ 128 → (D x).length ≤ 6 := fun x hx => D_small x (by omega)
 have kA := fun (v : World) (ao bo : Option Addr) (c d : Nat) (hr : Rd v ao (D (4 * T.s))) (hr2 : Rd v bo (D 2)) => l1Add_any ao bo _ _ c d (4 * T.s) 2 v rfl rfl (Nat.le_trans (dl _ (by omega)) (by omega)) (Nat.le_trans (dl _ (by omega)) (by omega)) hr hr2
 have kS := fun (v : World) (ao bo : Option Addr) (c d : Nat) (hr : Rd v ao (D (4 * T.s))) (hr2 : Rd v bo (D 2)) => l1Sub_any ao bo _ _ c d (4 * T.s) 2 v rfl rfl (by omega) (Nat.le_trans (dl _ (by omega)) (by omega)) hr hr2
 have kS1 := fun (v : World) (ao bo : Option Addr) (c d : Nat) (hr : Rd v ao (D (4 * T.s))) (hr2 : Rd v bo (D 1)) => l1Sub_any ao bo _ _ c d (4 * T.s) 1 v rfl rfl (by omega) (Nat.le_trans (dl _ (by omega)) (by omega)) hr hr2
 have kL := fun (x : Nat) (hx : x < 2 ^ 128) (u : Nat) (hu : u ≤ 20000) (v : World) (ao : Option Addr) (c : Nat) (hr : Rd v ao (D x)) => l1Left_any ao _ c u x v rfl (Nat.le_trans (dl _ hx) (by omega)) (by omega) hr
 have kT : ∀ (v : World) (z : Int), z = (F.p : Int) - 1 → Calls Tryd.prog 50 #[.int .i64 z] v fun e w' => Ret v w' e (D F.lead) := fun v z hz => by
  have := l2Two_any (F.p - 1) v (by omega)
  rw [show ((F.p - 1 : Nat) : Int) = z by omega] at this
  exact this
 have hz : wrap64 (T.q - 2) = T.q - 2 := by simp only [wrap64]; omega
 have HZ := hid hz
 have hqm : wrap64 (wrap64 (1 - (F.emax : Int) - (F.p : Int)) + 1) = F.qmin := by simp only [wrap64]; omega
 have hqw : IntKind.i64.wrap (IntKind.i64.wrap (1 - (F.emax : Int) - (F.p : Int)) + 1) = F.qmin := by simp only [IntKind.wrap_i64]; omega
 have HQ := hid (And.intro hqm hqw)
 clear hz hqm hqw
 by_cases hp : 0 ≤ T.q - 2
 · obtain ⟨u, hu⟩ : ∃ u : Nat, (u : Int) = T.q - 2 := ⟨(T.q - 2).toNat, by omega⟩
   have hu1 : (T.q - 2).toNat = u := by omega
   have hu2 : (2 - T.q).toNat = 0 := by omega
   have hC : bC T = 1 := by simp [bC, hu2]
   have eB : bB T = (4 * T.s + 2) * 2 ^ u := by unfold bB; rw [hu1]
   have kLx := fun (x : Nat) (hx : x < 2 ^ 128) => kL x hx u (by omega)
   rw [hu] at kLx
   rcases hc with hc | hc
   · have eA : bA F T = (4 * T.s - 2) * 2 ^ u := by unfold bA bLow; rw [if_neg (fun hh => by have := s4 hc; omega), hu1]
     rw [eA, eB]
     exact span_ap (f : Int) T _ _ _ _ _ _ _ _ _ w kE kO (4 * T.s) kL2 k2 k1 (4 * T.s + 2) (4 * T.s - 2) kA kS hc (T.q - 2) HZ.out hp (kLx _ (by omega)) (kLx _ (by omega)) hC
   · by_cases he : T.s = F.lead
     · have kC : ∀ (v : World) (ao bo : Option Addr) (c d : Nat), Rd v ao (D T.s) → Rd v bo (D F.lead) → Calls Tryd.prog 44 #[.slice ao (D T.s).length c, .slice bo (D F.lead).length d] v fun e w' => e = .returned (.int .i64 0) ∧ Below v.heap.size v w' := fun v ao bo c d hr hr2 => (l1Cmp_any ao bo _ _ c d T.s F.lead v rfl rfl (Nat.le_trans (dl _ (by omega)) (by omega)) (Nat.le_trans (dl _ (by omega)) (by omega)) hr hr2).mono fun e w' ⟨he', hw⟩ => ⟨by rw [he', he]; simp [cmpI], by rw [hw]; exact Below.refl _ _⟩
       by_cases hq : F.qmin < T.q
       · have eA : bA F T = (4 * T.s - 1) * 2 ^ u := by unfold bA bLow; rw [if_pos ⟨he, hq⟩, hu1]
         rw [eA, eB]
         exact span_dp (f : Int) T _ _ _ _ _ _ _ _ _ w kE kO (4 * T.s) kL2 k2 k1 (4 * T.s + 2) (4 * T.s - 2) kA kS hc F.lead (wp1 h) (wp2 h) kT kC F.qmin HQ.out.1 HQ.out.2 hq (4 * T.s - 1) kS1 (T.q - 2) HZ.out hp (kLx _ (by omega)) (kLx _ (by omega)) hC
       · have eA : bA F T = (4 * T.s - 2) * 2 ^ u := by unfold bA bLow; rw [if_neg (fun hh => hq hh.2), hu1]
         rw [eA, eB]
         exact span_cp (f : Int) T _ _ _ _ _ _ _ _ _ w kE kO (4 * T.s) kL2 k2 k1 (4 * T.s + 2) (4 * T.s - 2) kA kS hc F.lead (wp1 h) (wp2 h) kT kC F.qmin HQ.out.1 HQ.out.2 hq (decide_eq_false hq) (T.q - 2) HZ.out hp (kLx _ (by omega)) (kLx _ (by omega)) hC
     · exact kb hc he
 · have hu1 : (T.q - 2).toNat = 0 := by omega
   obtain ⟨u, hu⟩ : ∃ u : Nat, (u : Int) = -(T.q - 2) := ⟨(-(T.q - 2)).toNat, by omega⟩
   have hu2 : (2 - T.q).toNat = u := by omega
   have eB : bB T = 4 * T.s + 2 := by unfold bB; rw [hu1, Nat.pow_zero, Nat.mul_one]
   have kT2 : ∀ (v : World) (y : Int), y = -(T.q - 2) → Calls Tryd.prog 50 #[.int .i64 y] v fun e w' => Ret v w' e (D (bC T)) := fun v y hy => by
    have := twoL_any u v (by omega)
    rw [hu, ← hy] at this
    unfold bC
    rw [hu2]
    exact this
   have n1 : wrap64 (-(T.q - 2)) = -(T.q - 2) := by simp only [wrap64]; omega
   have n2 : IntKind.i64.wrap (-(T.q - 2)) = -(T.q - 2) := by simp only [IntKind.wrap_i64]; omega
   have HN := hid (And.intro n1 n2)
   clear n1 n2
   rcases hc with hc | hc
   · have eA : bA F T = 4 * T.s - 2 := by unfold bA bLow; rw [if_neg (fun hh => by have := s4 hc; omega), hu1, Nat.pow_zero, Nat.mul_one]
     exact span_an (f : Int) T _ _ _ _ _ _ _ _ _ w kE kO (4 * T.s) kL2 k2 k1 (4 * T.s + 2) (4 * T.s - 2) kA kS hc (T.q - 2) HZ.out hp HN.out.1 HN.out.2 kT2 eA eB
   · by_cases he : T.s = F.lead
     · have kC : ∀ (v : World) (ao bo : Option Addr) (c d : Nat), Rd v ao (D T.s) → Rd v bo (D F.lead) → Calls Tryd.prog 44 #[.slice ao (D T.s).length c, .slice bo (D F.lead).length d] v fun e w' => e = .returned (.int .i64 0) ∧ Below v.heap.size v w' := fun v ao bo c d hr hr2 => (l1Cmp_any ao bo _ _ c d T.s F.lead v rfl rfl (Nat.le_trans (dl _ (by omega)) (by omega)) (Nat.le_trans (dl _ (by omega)) (by omega)) hr hr2).mono fun e w' ⟨he', hw⟩ => ⟨by rw [he', he]; simp [cmpI], by rw [hw]; exact Below.refl _ _⟩
       by_cases hq : F.qmin < T.q
       · have eA : bA F T = 4 * T.s - 1 := by unfold bA bLow; rw [if_pos ⟨he, hq⟩, hu1, Nat.pow_zero, Nat.mul_one]
         exact span_dn (f : Int) T _ _ _ _ _ _ _ _ _ w kE kO (4 * T.s) kL2 k2 k1 (4 * T.s + 2) (4 * T.s - 2) kA kS hc F.lead (wp1 h) (wp2 h) kT kC F.qmin HQ.out.1 HQ.out.2 hq (4 * T.s - 1) kS1 (T.q - 2) HZ.out hp HN.out.1 HN.out.2 kT2 eA eB
       · have eA : bA F T = 4 * T.s - 2 := by unfold bA bLow; rw [if_neg (fun hh => hq hh.2), hu1, Nat.pow_zero, Nat.mul_one]
         exact span_cn (f : Int) T _ _ _ _ _ _ _ _ _ w kE kO (4 * T.s) kL2 k2 k1 (4 * T.s + 2) (4 * T.s - 2) kA kS hc F.lead (wp1 h) (wp2 h) kT kC F.qmin HQ.out.1 HQ.out.2 hq (decide_eq_false hq) (T.q - 2) HZ.out hp HN.out.1 HN.out.2 kT2 eA eB
     · exact kb hc he

end Go.Proofs.YtogkkecnmlnajaaDoor
