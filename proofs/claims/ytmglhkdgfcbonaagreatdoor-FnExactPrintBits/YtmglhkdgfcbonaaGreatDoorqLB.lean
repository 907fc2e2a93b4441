import Derived.Test.YtmglhkdgfcbonaaGreatDoorqSp2
import Derived.Test.YtmglhkdgfcbonaaGreatDoorqSJ
import Derived.Test.YtmglhkdgfcbonaaGreatDoorqSy2hu
import Derived.Test.YtmglhkdgfcbonaaGreatDoorqSy2hd
import Derived.Test.YtmglhkdgfcbonaaGreatDoorqSy2lu
import Derived.Test.YtmglhkdgfcbonaaGreatDoorqSy2ld
import Derived.Test.YtmglhkdgfcbonaaGreatDoorqSpb
import Derived.Test.YtmglhkdgfcbonaaGreatDoorqSpd
namespace Go.Proofs.YtmglhkdgfcbonaaGreatDoor

open Go.RowKit

set_option linter.unusedVariables false
set_option maxRecDepth 100000

theorem cmp_ne {a b : Nat} (h : ¬ a = b) : ¬ cmpI a b = 0 := by
  unfold cmpI
  split
  · omega
  · split <;> omega

set_option maxHeartbeats 1000000 in
theorem sspanB (f : Nat) (hf : f < 4) (T : M.Pt) (h : (M.fm f).Ok) (hfi : Fin (M.fm f) T) (hc : T.c = 3) (he : ¬ T.s = (M.fm f).lead) (w : World) :
    Calls Tryz.prog 30 #[.int .i64 (f : Int), .agg #[.int .i64 T.c, .bool T.n, .int .u64 (M.hiN T.s : Int), .int .u64 (M.loN T.s : Int), .int .i64 T.q]] w fun e w' => Sp3 w w' e (bA (M.fm f) T) (bB T) (bC T) := by
  have kE := fun v : World => sdescribe_ok f hf v
  simp only [dv] at kE
  generalize M.fm f = F at *
  have p1 := h.p1
  have p2 := h.p2
  have lp := h.leadPos
  have tp := h.top2
  have l2 : F.lead ≤ 2 ^ 112 := Nat.pow_le_pow_right (by omega) (by omega)
  obtain ⟨s1, s2, q1, q2, q3, q4, s3, s4⟩ := hfi
  have kO := fun v : World => l2Of_any T.s (show T.s < 2 ^ 128 by omega) v
  have kL2 : ∀ (v : World) (ao : Option Addr) (c : Nat), Rd v ao (D T.s) → Calls Tryz.prog 31 #[.slice ao (D T.s).length c, .int .i64 2] v fun e w' => Ret v w' e (D (4 * T.s)) := fun v ao c hr => by
    have := l1Left_any ao _ c 2 T.s v rfl (Nat.le_trans (D_small T.s (by omega)) (by omega)) (by omega) hr
    rw [show T.s * 2 ^ 2 = 4 * T.s by omega] at this
    exact this
  have k2 : ∀ v : World, Calls Tryz.prog 39 #[.int .u64 2] v fun e w' => Ret v w' e (D 2) := fun v => l1Of_any 2 v (by omega)
  have k1 : ∀ v : World, Calls Tryz.prog 39 #[.int .u64 1] v fun e w' => Ret v w' e (D 1) := fun v => l1Of_any 1 v (by omega)
  have dl : ∀ x : Nat, x < 2 ^ 128 → (D x).length ≤ 6 := fun x hx => D_small x (by omega)
  have kA := fun (v : World) (ao bo : Option Addr) (c d : Nat) (hr : Rd v ao (D (4 * T.s))) (hr2 : Rd v bo (D 2)) => l1Add_any ao bo _ _ c d (4 * T.s) 2 v rfl rfl (Nat.le_trans (dl _ (by omega)) (by omega)) (Nat.le_trans (dl _ (by omega)) (by omega)) hr hr2
  have kS := fun (v : World) (ao bo : Option Addr) (c d : Nat) (hr : Rd v ao (D (4 * T.s))) (hr2 : Rd v bo (D 2)) => l1Sub_any ao bo _ _ c d (4 * T.s) 2 v rfl rfl (by omega) (Nat.le_trans (dl _ (by omega)) (by omega)) hr hr2
  have kL := fun (x : Nat) (hx : x < 2 ^ 128) (u : Nat) (hu : u ≤ 20000) (v : World) (ao : Option Addr) (c : Nat) (hr : Rd v ao (D x)) => l1Left_any ao _ c u x v rfl (Nat.le_trans (dl _ hx) (by omega)) (by omega) hr
  have kT : ∀ (v : World) (z : Int), z = (F.p : Int) - 1 → Calls Tryz.prog 60 #[.int .i64 z] v fun e w' => Ret v w' e (D F.lead) := fun v z hz => by
    have := l2Two_any (F.p - 1) v (by omega)
    rw [show ((F.p - 1 : Nat) : Int) = z by omega] at this
    exact this
  have kC : ∀ (v : World) (ao bo : Option Addr) (c d : Nat), Rd v ao (D T.s) → Rd v bo (D F.lead) → Calls Tryz.prog 68 #[.slice ao (D T.s).length c, .slice bo (D F.lead).length d] v fun e w' => e = .returned (.int .i64 (cmpI T.s F.lead)) ∧ Below v.heap.size v w' := fun v ao bo c d hr hr2 => (l1Cmp_any ao bo _ _ c d T.s F.lead v rfl rfl (Nat.le_trans (dl _ (by omega)) (by omega)) (Nat.le_trans (dl _ (by omega)) (by omega)) hr hr2).mono fun e w' ⟨he', hw⟩ => ⟨he', by rw [hw]; exact Below.refl _ _⟩
  have hcm := cmp_ne he
  have hcm2 : (cmpI T.s F.lead == 0) = false := by simp [hcm]
  have hz : wrap64 (T.q - 2) = T.q - 2 := by simp only [wrap64]; omega
  have HZ := hid hz
  clear hz
  by_cases hp : 0 ≤ T.q - 2
  · obtain ⟨u, hu⟩ : ∃ u : Nat, (u : Int) = T.q - 2 := ⟨(T.q - 2).toNat, by omega⟩
    have hu1 : (T.q - 2).toNat = u := by omega
    have hu2 : (2 - T.q).toNat = 0 := by omega
    have hC : bC T = 1 := by simp [bC, hu2]
    have eB : bB T = (4 * T.s + 2) * 2 ^ u := by unfold bB; rw [hu1]
    have kLx := fun (x : Nat) (hx : x < 2 ^ 128) => kL x hx u (by omega)
    rw [hu] at kLx
    have eA : bA F T = (4 * T.s - 2) * 2 ^ u := by unfold bA bLow; rw [if_neg (fun hh => he hh.1), hu1]
    rw [eA, eB]
    exact span_bp (f : Int) T _ _ _ _ _ _ _ _ _ w kE kO (4 * T.s) kL2 k2 k1 (4 * T.s + 2) (4 * T.s - 2) kA kS hc F.lead _ (wp1 h) (wp2 h) kT kC hcm hcm2 (T.q - 2) HZ.out hp (kLx _ (by omega)) (kLx _ (by omega)) hC
  · have hu1 : (T.q - 2).toNat = 0 := by omega
    obtain ⟨u, hu⟩ : ∃ u : Nat, (u : Int) = -(T.q - 2) := ⟨(-(T.q - 2)).toNat, by omega⟩
    have hu2 : (2 - T.q).toNat = u := by omega
    have eB : bB T = 4 * T.s + 2 := by unfold bB; rw [hu1, Nat.pow_zero, Nat.mul_one]
    have kT2 : ∀ (v : World) (y : Int), y = -(T.q - 2) → Calls Tryz.prog 60 #[.int .i64 y] v fun e w' => Ret v w' e (D (bC T)) := fun v y hy => by
      have := twoL_any u v (by omega)
      rw [hu, ← hy] at this
      unfold bC
      rw [hu2]
      exact this
    have n1 : wrap64 (-(T.q - 2)) = -(T.q - 2) := by simp only [wrap64]; omega
    have n2 : IntKind.i64.wrap (-(T.q - 2)) = -(T.q - 2) := by simp only [IntKind.wrap_i64]; omega
    have HN := hid (And.intro n1 n2)
    clear n1 n2
    have eA : bA F T = 4 * T.s - 2 := by unfold bA bLow; rw [if_neg (fun hh => he hh.1), hu1, Nat.pow_zero, Nat.mul_one]
    exact span_bn (f : Int) T _ _ _ _ _ _ _ _ _ w kE kO (4 * T.s) kL2 k2 k1 (4 * T.s + 2) (4 * T.s - 2) kA kS hc F.lead _ (wp1 h) (wp2 h) kT kC hcm hcm2 (T.q - 2) HZ.out hp HN.out.1 HN.out.2 kT2 eA eB

theorem bnd_lt {F : M.Fm} {T : M.Pt} (hf : Fin F T) : bA F T < 2 ^ (128 + (T.q - 2).toNat) ∧ bB T < 2 ^ (128 + (T.q - 2).toNat) ∧ bC T < 2 ^ (128 + (2 - T.q).toNat) ∧ (T.q - 2).toNat ≤ 17000 ∧ (2 - T.q).toNat ≤ 17000 := by
  obtain ⟨s1, s2, q1, q2, q3, q4, s3, s4⟩ := hf
  refine ⟨mul_pow_lt ?_, mul_pow_lt (by omega), ?_, by omega, by omega⟩
  · unfold bLow; split <;> omega
  · unfold bC
    exact Nat.pow_lt_pow_right (by omega) (by omega)

end Go.Proofs.YtmglhkdgfcbonaaGreatDoor

namespace Go.Proofs.YtmglhkdgfcbonaaGreatDoor

open Go.RowKit

set_option linter.unusedVariables false
set_option maxRecDepth 100000

theorem un_len (a j : Nat) (x : Int) (h : a < 2 ^ j) (hj : j ≤ 17200) (hx : -7100 ≤ x) : (D (M.un a x)).length ≤ 1500 := by
  unfold M.un
  have l1 := D_len_b a j 540 h (by omega)
  have l2 := D_len_b (10 ^ (-x).toNat) (4 * (-x).toNat + 1) 900 (ten_lt1 _) (by omega)
  have := D_mul_len _ _ 540 900 l1 l2
  omega

theorem ud_len (a j : Nat) (x : Int) (h : a < 2 ^ j) (hj : j ≤ 17200) (hx : x ≤ 7100) : (D (M.ud a x)).length ≤ 1500 := by
  unfold M.ud
  have l1 := D_len_b a j 540 h (by omega)
  have l2 := D_len_b (10 ^ x.toNat) (4 * x.toNat + 1) 900 (ten_lt1 _) (by omega)
  have := D_mul_len _ _ 540 900 l1 l2
  omega

set_option maxHeartbeats 1000000 in
theorem sshort_any (f : Nat) (hf : f < 4) (X : Nat) (hX : X < 2 ^ 128) (w : World) (T : M.Pt) (hT : T = (M.fm f).upk X) (hc : T.c = 2 ∨ T.c = 3) (t : M.Wd) (ht : t = wdOf (M.fm f) T) (r : Nat) (b : t.Best r) :
    Calls Tryz.prog 6 #[.int .i64 (f : Int), .agg #[.int .u64 (M.hiN X : Int), .int .u64 (M.loN X : Int)]] w fun e w' => ShR w w' e (M.sd (t.pick (t.X + r))) (wdX t r) T.n 0 := by
  have h := M.fm_ok f
  have hp := h.upk_proper X
  have kU := fun v : World => sunpack_any f hf X hX v
  rw [← hT] at kU hp
  have hpr : (M.fm f).Proper T := by
    rcases hp with hp | hp
    · rw [hp] at hc; simp at hc
    · exact hp
  have hfi := fin_of h hpr hc
  have hok := wd_ok h hfi
  rw [← ht] at hok
  have kE := fun v : World => sdescribe_ok f hf v
  have kP := fun v : World => sspan_any f hf T h hfi hc v (fun h3 he => sspanB f hf T h hfi h3 he v)
  have hl := bnd_lt hfi
  have eA : bA (M.fm f) T = t.lo := by rw [ht]; rfl
  have eB : bB T = t.hi := by rw [ht]; rfl
  have eC : bC T = t.den := by rw [ht]; rfl
  have eM : t.mid = T.s * 2 ^ 2 * 2 ^ (T.q - 2).toNat := by rw [ht]; show 4 * T.s * _ = _; rw [show 4 * T.s = T.s * 2 ^ 2 by omega]; rfl
  have eK : t.cl = decide (T.s % 2 = 0) := by rw [ht]; rfl
  rw [eA, eB, eC] at kP hl
  obtain ⟨s1, s2, q1, q2, q3, q4, s3, s4⟩ := hfi
  have hM : t.mid < 2 ^ (128 + (T.q - 2).toNat) := by rw [eM]; exact mul_pow_lt (by omega)
  obtain ⟨l1, l2, l3, l4, l5⟩ := hl
  obtain ⟨e1, e2, -, -⟩ := hok.e_le
  have hN := hok.N_le
  have hr := b.lt
  have hp0 : (M.fm f).p ≠ 0 := by have := h.p1; omega
  have hcl : ((M.loN T.s : Int) % 2 == 0) = t.cl := by
    have e2 : M.loN T.s % 2 = T.s % 2 := by unfold M.loN; omega
    have e1 : (M.loN T.s : Int) % 2 = ((M.loN T.s % 2 : Nat) : Int) := rfl
    rw [eK, e1, e2]
    by_cases h : T.s % 2 = 0
    · simp [h]
    · have h2 : T.s % 2 = 1 := by omega
      simp [h2]
  have lm := un_len t.mid _ (t.e - 40 + 1) hM (by omega) (by omega)
  have lu := ud_len t.den _ (t.e - 40 + 1) l3 (by omega) (by omega)
  have lA := D_len_b _ _ 540 l1 (by omega)
  have lB := D_len_b _ _ 540 l2 (by omega)
  have lC := D_len_b _ _ 540 l3 (by omega)
  have lM := D_len_b _ _ 540 hM (by omega)
  have l4s := D_len_b (T.s * 2 ^ 2) 128 540 (by omega) (by omega)
  have lS := D_len_b T.s 128 540 (by omega) (by omega)
  have lWH := Nat.le_trans (D_len_le (Nat.div_le_self (M.un t.mid (t.e - 40 + 1)) (M.ud t.den (t.e - 40 + 1)))) lm
  have hxx : wdX t r = t.e - ((t.N - r : Nat) : Int) + 1 + (((M.txt (t.pick (t.X + r))).length : Int) - ((M.sd (t.pick (t.X + r))).length : Int)) := by
    unfold wdX
    show _ = t.X + (t.N : Int) - 1 - _ + 1 + _
    omega
  have hpk := b.doc_pick hok _ _ _ rfl rfl rfl
  have hno := fun n h1 h2 => b.doc_no hok n h1 h2
  have hyes := b.doc_yes hok
  have pu := M.ud_pos hok.den_pos (t.e - 40 + 1)
  have l6 := blen_le_of _ _ hM
  have l7 := blen_le_of _ _ l3
  have HQ := Classical.em (2 < T.q)
  have HU := Classical.em (0 ≤ t.e - 40 + 1)
  rcases HQ with hq | hq <;> rcases HU with hu | hu
  · exact sshort_finhu (f : Int) X T (M.fm f) t.lo t.hi t.den (T.s * 2 ^ 2) t.mid w hp0 hc (by omega) (by omega) (by omega) (by omega) (by omega) (by omega) (by omega) (by omega) (by omega) (by omega) (by omega) t.e (by omega) (by omega) (fun y => hok.ten y) _ _ _ _ rfl rfl rfl rfl t.cl hcl (Nat.le_trans (un_len t.lo _ _ l1 (by omega) (by omega)) (by omega)) (Nat.le_trans (un_len t.hi _ _ l2 (by omega) (by omega)) (by omega)) (t.N - r) (by omega) (by omega) hno hyes hq hu pu (by omega) (by omega) (by omega) rfl eM _ hpk.symm (b.pick_pos hok) _ rfl _ hxx kE kU kP
  · exact sshort_finhd (f : Int) X T (M.fm f) t.lo t.hi t.den (T.s * 2 ^ 2) t.mid w hp0 hc (by omega) (by omega) (by omega) (by omega) (by omega) (by omega) (by omega) (by omega) (by omega) (by omega) (by omega) t.e (by omega) (by omega) (fun y => hok.ten y) _ _ _ _ rfl rfl rfl rfl t.cl hcl (Nat.le_trans (un_len t.lo _ _ l1 (by omega) (by omega)) (by omega)) (Nat.le_trans (un_len t.hi _ _ l2 (by omega) (by omega)) (by omega)) (t.N - r) (by omega) (by omega) hno hyes hq hu pu (by omega) (by omega) (by omega) rfl eM _ hpk.symm (b.pick_pos hok) _ rfl _ hxx kE kU kP
  · exact sshort_finlu (f : Int) X T (M.fm f) t.lo t.hi t.den (T.s * 2 ^ 2) t.mid w hp0 hc (by omega) (by omega) (by omega) (by omega) (by omega) (by omega) (by omega) (by omega) (by omega) (by omega) (by omega) t.e (by omega) (by omega) (fun y => hok.ten y) _ _ _ _ rfl rfl rfl rfl t.cl hcl (Nat.le_trans (un_len t.lo _ _ l1 (by omega) (by omega)) (by omega)) (Nat.le_trans (un_len t.hi _ _ l2 (by omega) (by omega)) (by omega)) (t.N - r) (by omega) (by omega) hno hyes hq hu pu (by omega) (by omega) (by omega) rfl eM _ hpk.symm (b.pick_pos hok) _ rfl _ hxx kE kU kP
  · exact sshort_finld (f : Int) X T (M.fm f) t.lo t.hi t.den (T.s * 2 ^ 2) t.mid w hp0 hc (by omega) (by omega) (by omega) (by omega) (by omega) (by omega) (by omega) (by omega) (by omega) (by omega) (by omega) t.e (by omega) (by omega) (fun y => hok.ten y) _ _ _ _ rfl rfl rfl rfl t.cl hcl (Nat.le_trans (un_len t.lo _ _ l1 (by omega) (by omega)) (by omega)) (Nat.le_trans (un_len t.hi _ _ l2 (by omega) (by omega)) (by omega)) (t.N - r) (by omega) (by omega) hno hyes hq hu pu (by omega) (by omega) (by omega) rfl eM _ hpk.symm (b.pick_pos hok) _ rfl _ hxx kE kU kP

end Go.Proofs.YtmglhkdgfcbonaaGreatDoor

