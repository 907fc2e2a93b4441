import Derived.Test.YtmglhkdgfcbonaaGreatDoorrBnZ
import Derived.Test.YtmglhkdgfcbonaaGreatDoorrSp2
import Derived.Test.YtmglhkdgfcbonaaGreatDoorrSpb
import Derived.Test.YtmglhkdgfcbonaaGreatDoorrSpd
set_option maxHeartbeats 1000000
namespace Go.Proofs.YtmglhkdgfcbonaaGreatDoor
open Go.RowKit
set_option linter.unusedVariables false
set_option maxRecDepth 100000
theorem cmp_ne {a b : Nat} (h : ¬ a = b) : ¬ cmpI a b = 0 := by
 unfold cmpI
 split
 · omega
 · split <;> omega

theorem sspanB (f : Nat) (hf : f < 4) (T : M.Pt) (h : (M.fm f).Ok) (hfi : Fin (M.fm f) T) (hc : T.c = 3) (he : ¬ T.s = (M.fm f).lead) (w : World) :
 Calls Tryz.prog 30 #[.int .i64 (f : Int), .agg #[.int .i64 T.c, .bool T.n, .int .u64 (M.hiN T.s : Int), .int .u64 (M.loN T.s : Int), .int .i64 T.q]] w fun e w' => Sp3 w w' e (bA (M.fm f) T) (bB T) (bC T) := by
 have kE := fun v : World => sdescribe_ok f hf v
 simp only [dv] at kE
 generalize M.fm f = F at *
 have p1 := h.p1
 have p2 := h.p2
 have lp := h.leadPos
 have tp := h.top2
 have l2 : F.lead ≤ 2 ^ 112 := Nat.pow_le_pow_right (by omega) (by omega)
 obtain ⟨s1, s2, q1, q2, q3, q4, s3, s4⟩ := hfi
 have kO := fun v : World => l2Of_any T.s (show T.s < 2 ^ 128 by omega) v
 have kL2 : ∀ (v : World) (ao : Option Addr) (c : Nat), Rd v ao (D T.s) → Calls Tryz.prog 31 #[.slice ao (D T.s).length c, .int .i64 2] v fun e w' => Ret v w' e (D (4 * T.s)) := fun v ao c hr => by
  have := l1Left_any ao _ c 2 T.s v rfl (Nat.le_trans (D_small T.s (by omega)) (by omega)) (by omega) hr
  rw [show T.s * 2 ^ 2 = 4 * T.s by omega] at this
  exact this
 have k2 : ∀ v : World, Calls Tryz.prog 39 #[.int .u64 2] v fun e w' => Ret v w' e (D 2) := fun v => l1Of_any 2 v (by omega)
 have k1 : ∀ v : World, Calls Tryz.prog 39 #[.int .u64 1] v fun e w' => Ret v w' e (D 1) := fun v => l1Of_any 1 v (by omega)
 have dl : ∀ x : Nat, x < 2 ^ 128 → (D x).length ≤ 6 := fun x hx => D_small x (by omega)
 have kA := fun (v : World) (ao bo : Option Addr) (c d : Nat) (hr : Rd v ao (D (4 * T.s))) (hr2 : Rd v bo (D 2)) => l1Add_any ao bo _ _ c d (4 * T.s) 2 v rfl rfl (Nat.le_trans (dl _ (by omega)) (by omega)) (Nat.le_trans (dl _ (by omega)) (by omega)) hr hr2
 have kS := fun (v : World) (ao bo : Option Addr) (c d : Nat) (hr : Rd v ao (D (4 * T.s))) (hr2 : Rd v bo (D 2)) => l1Sub_any ao bo _ _ c d (4 * T.s) 2 v rfl rfl (by omega) (Nat.le_trans (dl _ (by omega)) (by omega)) hr hr2
 have kL := fun (x : Nat) (hx : x < 2 ^ 128) (u : Nat) (hu : u ≤ 20000) (v : World) (ao : Option Addr) (c : Nat) (hr : Rd v ao (D x)) => l1Left_any ao _ c u x v rfl (Nat.le_trans (dl _ hx) (by omega)) (by omega) hr
 have kT : ∀ (v : World) (z : Int), z = (F.p : Int) - 1 → Calls Tryz.prog 60 #[.int .i64 z] v fun e w' => Ret v w' e (D F.lead) := fun v z hz => by
  have := l2Two_any (F.p - 1) v (by omega)
  rw [show ((F.p - 1 : Nat) : Int) = z by omega] at this
  exact this
 have kC : ∀ (v : World) (ao bo : Option Addr) (c d : Nat), Rd v ao (D T.s) → Rd v bo (D F.lead) → Calls Tryz.prog 68 #[.slice ao (D T.s).length c, .slice bo (D F.lead).length d] v fun e w' => e = .returned (.int .i64 (cmpI T.s F.lead)) ∧ Below v.heap.size v w' := fun v ao bo c d hr hr2 => (l1Cmp_any ao bo _ _ c d T.s F.lead v rfl rfl (Nat.le_trans (dl _ (by omega)) (by omega)) (Nat.le_trans (dl _ (by omega)) (by omega)) hr hr2).mono fun e w' ⟨he', hw⟩ => ⟨he', by rw [hw]; exact Below.refl _ _⟩
 have hcm := cmp_ne he
 have hcm2 : (cmpI T.s F.lead == 0) = false := by simp [hcm]
 have hz : wrap64 (T.q - 2) = T.q - 2 := by simp only [wrap64]; omega
 have HZ := hid hz
 clear hz
 by_cases hp : 0 ≤ T.q - 2
 · obtain ⟨u, hu⟩ : ∃ u : Nat, (u : Int) = T.q - 2 := ⟨(T.q - 2).toNat, by omega⟩
   have hu1 : (T.q - 2).toNat = u := by omega
   have hu2 : (2 - T.q).toNat = 0 := by omega
   have hC : bC T = 1 := by simp [bC, hu2]
   have eB : bB T = (4 * T.s + 2) * 2 ^ u := by unfold bB; rw [hu1]
   have kLx := fun (x : Nat) (hx : x < 2 ^ 128) => kL x hx u (by omega)
   rw [hu] at kLx
   have eA : bA F T = (4 * T.s - 2) * 2 ^ u := by unfold bA bLow; rw [if_neg (fun hh => he hh.1), hu1]
   rw [eA, eB]
   exact span_bp (f : Int) T _ _ _ _ _ _ _ _ _ w kE kO (4 * T.s) kL2 k2 k1 (4 * T.s + 2) (4 * T.s - 2) kA kS hc F.lead _ (wp1 h) (wp2 h) kT kC hcm hcm2 (T.q - 2) HZ.out hp (kLx _ (by omega)) (kLx _ (by omega)) hC
 · have hu1 : (T.q - 2).toNat = 0 := by omega
   obtain ⟨u, hu⟩ : ∃ u : Nat, (u : Int) = -(T.q - 2) := ⟨(-(T.q - 2)).toNat, by omega⟩
   have hu2 : (2 - T.q).toNat = u := by omega
   have eB : bB T = 4 * T.s + 2 := by unfold bB; rw [hu1, Nat.pow_zero, Nat.mul_one]
   have kT2 : ∀ (v : World) (y : Int), y = -(T.q - 2) → Calls Tryz.prog 60 #[.int .i64 y] v fun e w' => Ret v w' e (D (bC T)) := fun v y hy => by
    have := twoL_any u v (by omega)
    rw [hu, ← hy] at this
    unfold bC
    rw [hu2]
    exact this
   have n1 : wrap64 (-(T.q - 2)) = -(T.q - 2) := by simp only [wrap64]; omega
   have n2 : IntKind.i64.wrap (-(T.q - 2)) = -(T.q - 2) := by simp only [IntKind.wrap_i64]; omega
   have HN := hid (And.intro n1 n2)
   clear n1 n2
   have eA : bA F T = 4 * T.s - 2 := by unfold bA bLow; rw [if_neg (fun hh => he hh.1), hu1, Nat.pow_zero, Nat.mul_one]
   exact span_bn (f : Int) T _ _ _ _ _ _ _ _ _ w kE kO (4 * T.s) kL2 k2 k1 (4 * T.s + 2) (4 * T.s - 2) kA kS hc F.lead _ (wp1 h) (wp2 h) kT kC hcm hcm2 (T.q - 2) HZ.out hp HN.out.1 HN.out.2 kT2 eA eB

theorem bnd_lt {F : M.Fm} {T : M.Pt} (hf : Fin F T) : bA F T < 2 ^ (128 + (T.q - 2).toNat) ∧ bB T < 2 ^ (128 + (T.q - 2).toNat) ∧ bC T < 2 ^ (128 + (2 - T.q).toNat) ∧ (T.q - 2).toNat ≤ 17000 ∧ (2 - T.q).toNat ≤ 17000 := by
 obtain ⟨s1, s2, q1, q2, q3, q4, s3, s4⟩ := hf
 refine ⟨mul_pow_lt ?_, mul_pow_lt (by omega), ?_, by omega, by omega⟩
 · unfold bLow; split <;> omega
 · unfold bC
   exact Nat.pow_lt_pow_right (by omega) (by omega)

theorem sbounds_any (f : Nat) (hf : f < 4) (X : Nat) (hX : X < 2 ^ 128) (w : World) (T : M.Pt) (hT : T = (M.fm f).upk X) (hc : T.c = 2 ∨ T.c = 3) :
 Calls Tryz.prog 20 #[.int .i64 (f : Int), .agg #[.int .u64 (M.hiN X : Int), .int .u64 (M.loN X : Int)]] w fun e w' => Iv w w' e (bA (M.fm f) T) (bB T) (bC T) (decide (T.s % 2 = 0)) := by
 have kU := fun v : World => sunpack_any f hf X hX v
 have h := M.fm_ok f
 have hp := h.upk_proper X
 rw [← hT] at kU hp
 have hpr : (M.fm f).Proper T := by
  rcases hp with hp | hp
  · rw [hp] at hc; simp at hc
  · exact hp
 have hfi := fin_of h hpr hc
 have kP := fun v : World => sspan_any f hf T h hfi hc v (fun h3 he => sspanB f hf T h hfi h3 he v)
 have hl := bnd_lt hfi
 simp only [pv] at kU
 have kO := fun (A j : Nat) (hA : A < 2 ^ (128 + j)) (hj : j ≤ 17000) (v : World) (ao : Option Addr) (c : Nat) (hr : Rd v ao (D A)) => l1Out_any ao _ c A v rfl (Nat.le_trans (D_len_b A (128 + j) 1000 hA (by omega)) (by omega)) hr
 have hcl : ((M.loN T.s : Int).tmod 2 == 0) = decide (T.s % 2 = 0) := by
  have e1 : (M.loN T.s : Int).tmod 2 = ((M.loN T.s % 2 : Nat) : Int) := rfl
  have e2 : M.loN T.s % 2 = T.s % 2 := by unfold M.loN; omega
  rw [e1, e2]
  by_cases h : T.s % 2 = 0
  · simp [h]
  · have h2 : T.s % 2 = 1 := by omega
    simp [h2]
 rcases hc with hc | hc
 · exact sbnd_in2 (f : Int) X T 0 0 0 0 0 false w kU _ _ _ _ kP (kO _ _ hl.1 hl.2.2.2.1) (kO _ _ hl.2.1 hl.2.2.2.1) (kO _ _ hl.2.2.1 hl.2.2.2.2) hcl hc
 · exact sbnd_in3 (f : Int) X T 0 0 0 0 0 false w kU _ _ _ _ kP (kO _ _ hl.1 hl.2.2.2.1) (kO _ _ hl.2.1 hl.2.2.2.1) (kO _ _ hl.2.2.1 hl.2.2.2.2) hcl hc

end Go.Proofs.YtmglhkdgfcbonaaGreatDoor
