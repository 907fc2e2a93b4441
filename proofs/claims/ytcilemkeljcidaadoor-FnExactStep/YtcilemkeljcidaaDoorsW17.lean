import Derived.Test.YtcilemkeljcidaaDoorsW1
import Derived.Test.YtcilemkeljcidaaDoorsSeg
import Derived.Test.YtcilemkeljcidaaDoorsW8a
import Derived.Test.YtcilemkeljcidaaDoorsCom
import Derived.Test.YtcilemkeljcidaaDoorsShM
import Derived.Test.YtcilemkeljcidaaDoorsW16
set_option maxHeartbeats 1000000
namespace Go.Proofs.YtcilemkeljcidaaDoor
open Go.RowKit
set_option linter.unusedVariables false
set_option maxRecDepth 100000
theorem M.shl32 (x p cc : Nat) (hp : p < 32) (hx : x < 4294967296) (hc : cc < 2 ^ p) :
 x * 2 ^ p + cc < 9223372036854775808 ∧ (x * 2 ^ p + cc) / 4294967296 < 2 ^ p := by
 have h1 : 2 ^ p ≤ 2 ^ 31 := Nat.pow_le_pow_right (by omega) (by omega)
 have h2 : (x + 1) * 2 ^ p ≤ 4294967296 * 2 ^ p := Nat.mul_le_mul_right _ hx
 rw [Nat.add_mul] at h2
 constructor
 · have : 4294967296 * 2 ^ p ≤ 4294967296 * 2 ^ 31 := Nat.mul_le_mul_left _ h1
   omega
 · exact Nat.div_lt_of_lt_mul (by omega)

theorem shl32_word (x p cc : Nat) (hp : p < 32) (hx : x < 4294967296) (hc : cc < 2 ^ p) :
 bits BinOp.or IntKind.u64 (IntKind.u64.wrap ((x : Int) * 2 ^ p)) (cc : Int) = ((x * 2 ^ p + cc : Nat) : Int) := by
 have hb := (M.shl32 x p cc hp hx hc).1
 have e1 : IntKind.u64.wrap ((x : Int) * 2 ^ p) = ((x * 2 ^ p : Nat) : Int) := by
  rw [pow_cast, ← Int.natCast_mul, wrapU, Nat.mod_eq_of_lt (by omega)]
 have h1 : 2 ^ p ≤ 2 ^ 31 := Nat.pow_le_pow_right (by omega) (by omega)
 rw [e1, or_comm_nat _ _ (by omega) (by omega), or_nat cc x p hc, Nat.add_comm]

theorem low_mask (s : Nat) (hs : s < 18446744073709551616) : bits BinOp.and IntKind.u64 (s : Int) 4294967295 = ((s % 4294967296 : Nat) : Int) := by
 rw [and_low32 _ (by omega) (by omega)]; omega

theorem l1Left_any (ao : Option Addr) (n c s : Nat) (a : Nat) (w : World) (hl : (D a).length = n) (hn : n ≤ 1048576) (hs : s ≤ 100000) (hr : Rd w ao (D a)) :
 Calls Tryd.prog 44 #[.slice ao n c, .int .i64 (s : Int)] w fun e w' => Ret w w' e (D (a * 2 ^ s)) := by
 obtain ⟨i0, hi, hz0, hz1, hz2⟩ := info_parts Tryd.infoU
 obtain ⟨q, hq⟩ : ∃ q : Nat, q = s / 32 := ⟨_, rfl⟩
 obtain ⟨p, hp⟩ : ∃ p : Nat, p = s % 32 := ⟨_, rfl⟩
 have hqI : (s : Int) / 32 = (q : Int) := by omega
 have hpI : (s : Int) % 32 = (p : Int) := by omega
 have hpb : p < 32 := by omega
 have hqb : q ≤ 100000 := by omega
 have HQ := hid hq; clear hq
 have HP := hid hp; clear hp
 have hsq : 2 ^ s = 4294967296 ^ q * 2 ^ p := by
  rw [show (4294967296 : Nat) = 2 ^ 32 from rfl, ← Nat.pow_mul, ← Nat.pow_add]
  congr 1
  have := HQ.out; have := HP.out; omega
 have HSQ := hid hsq; clear hsq
 have hmk := fun (wx : World) => run_make (P := Tryd.prog) wx 49 27 i0 (.int .u64 0) Tryd.underlying49 hi hz0 .i64 .i64 (q : Int) (q : Int) (by omega) (Int.le_refl _) (by rw [hz2]; omega) (by omega)
 have fa := F32_D a
 go_enter Tryd.func44, Tryd.ntmps44
 go_wp2_with fail
 go_loopw [5, 6, 7] (fun v cy i wr => ∃ (k : Nat) (os : List Nat) (cc : Nat), k ≤ n + 1 ∧ i = .int .i64 k ∧ cy = .int .u64 cc ∧ cc < 2 ^ p ∧ wr.ownsRow w.heap.size 27 1 v (q + k) (U os) ∧ F32 os ∧ os.length = q + k ∧ X os + cc * 4294967296 ^ (q + k) = (4294967296 ^ q * 2 ^ p) * X ((D a).take k) ∧ Below w.heap.size w wr) (fun _ _ i _ => n + 1 - (intOf i).toNat)
 case atStart =>
  refine ⟨0, List.replicate q 0, 0, by omega, rfl, rfl, Nat.pow_pos (by omega), ?_, fun x hx => by simp at hx; omega, by simp, ?_, (Below.refl _ _).alloc (Nat.le_refl _) _⟩
  · exact (blk_made w q).own (Nat.le_refl _) (by simp) (by unfold maxLen; omega)
  · unfold X; rw [M.val_replicate]; simp [M.val]
 case round =>
  obtain ⟨k, os, cc, hk, rfl, rfl, hcc, hown, hf, hlen, hv, hbl⟩ := hrel
  clear hmk
  have HV := hid hv; clear hv
  have HLen := hid hlen; clear hlen
  by_cases hlt : k ≤ n
  · obtain ⟨x, hxx⟩ : ∃ x : Nat, x = (D a).getD k 0 := ⟨_, rfl⟩
    have hx1 := fa.get k
    rw [← hxx] at hx1
    have HX := hid hxx; clear hxx
    have hlt' : (k : Int) ≤ (n : Int) := by omega
    have hwo := shl32_word x p cc hpb hx1 hcc
    have hbb := M.shl32 x p cc hpb hx1 hcc
    obtain ⟨t, ht⟩ : ∃ t : Nat, t = x * 2 ^ p + cc := ⟨_, rfl⟩
    rw [← ht] at hwo hbb
    have hlow := low_mask t (by omega)
    have hhi : (t : Int) / 4294967296 = ((t / 4294967296 : Nat) : Int) := by omega
    obtain ⟨o, eo⟩ : ∃ o : Nat, o = t % 4294967296 := ⟨_, rfl⟩
    rw [← eo] at hlow
    have hsum : o + 4294967296 * (t / 4294967296) = x * 2 ^ p + cc ∧ o < 4294967296 := by omega
    have E1 := hid hsum; have E2 := hid hbb; have E3 := hid ht; have E4 := hid eo; have E5 := hid hhi
    clear hsum hbb ht eo hhi hcc
    go_wp2_with fail
    refine (l1At_any ao _ c k (D a) _ hl (by omega) (by omega) (hr.below hbl) x HX.out).mono ?_
    rintro e w2 ⟨rfl, rfl⟩
    go_wp2_with (at_builtin; refine wpList_append_own _ rfl _ _ 49 rfl w.heap.size 27 i0 (.int .u64 0) 1 8 Tryd.underlying49 hi hz0 hz1 hz2 rfl (by decide) _ _ _ rfl (hown.alloc _) ⟨w2.heap.size, 0, none⟩ 1 1 (U [o]) rfl rfl ?c1 ?c2 ?c3 ?c4 ?c5 ?_)
    case c1 =>
     intro j u hj
     match j, hj with
     | 0, hj => simp [U] at hj; subst hj; simp [Addr.add]
    case c2 => exact U_one _
    case c3 => unfold maxLen; omega
    case c4 => omega
    case c5 => have := hbl.size; simp; omega
    intro v' w1 hown' hgrow hnn
    clear hnn
    have hb1 : Below w.heap.size w w1 := (hbl.alloc hbl.size _).grown hgrow (by have := hbl.size; simp; omega) (fun k' hk' => (hown.lt k' hk').1)
    clear hown hgrow
    go_wp2_with fail
    go_roundw
    case rel =>
     have R : ∃ (k1 : Nat) (os1 : List Nat) (cc1 : Nat), k1 ≤ n + 1 ∧ Value.int .i64 ((k : Int) + 1) = .int .i64 k1 ∧ Value.int .u64 ((t : Int) / 4294967296) = .int .u64 cc1 ∧ cc1 < 2 ^ p ∧ w1.ownsRow w.heap.size 27 1 v' (q + k1) (U os1) ∧ F32 os1 ∧ os1.length = q + k1 ∧ X os1 + cc1 * 4294967296 ^ (q + k1) = (4294967296 ^ q * 2 ^ p) * X ((D a).take k1) ∧ Below w.heap.size w w1 := by
      refine ⟨k + 1, os ++ [o], t / 4294967296, by omega, by go_num, by rw [E5.out], E2.out.2, ?_, ?_, by simp [HLen.out]; omega, ?_, hb1⟩
      · rw [U_append]; exact hown'
      · intro z hz
        rcases List.mem_append.1 hz with hz | hz
        · exact hf z hz
        · simp at hz; have := E1.out.2; omega
      · have e3 := HV.out
        unfold X at *
        rw [M.val_take_succ, ← HX.out, show q + (k + 1) = q + k + 1 by omega, Nat.pow_succ, M.val_snoc, HLen.out]
        rw [Nat.pow_add] at e3 ⊢
        exact M.shl_over e3 rfl E1.out.1
     first | exact R | ((repeat apply Exists.intro); exact ⟨R, rfl⟩)
    case measure => simp [intOf]; omega
  · have e : k = n + 1 := by omega
    have hfin : X os = a * 2 ^ s := by
     have h1 := HV.out
     rw [X_takeD a k (by omega), ← HSQ.out] at h1
     have h2 := D_lt a n (by omega)
     rw [Nat.mul_comm a]
     refine (M.no_carry h1 ?_).2
     rw [HSQ.out, e, show q + (n + 1) = q + 1 + n by omega, Nat.pow_add, Nat.pow_succ]
     have h3 : 2 ^ p ≤ 4294967296 := Nat.le_trans (Nat.pow_le_pow_right (by omega) (show p ≤ 32 by omega)) (by omega)
     have h4 : 4294967296 ^ q * 2 ^ p ≤ 4294967296 ^ q * 4294967296 := Nat.mul_le_mul_left _ h3
     exact Nat.lt_of_lt_of_le (Nat.mul_lt_mul_of_pos_left h2 (Nat.mul_pos (Nat.pow_pos (by omega)) (Nat.pow_pos (by omega)))) (Nat.mul_le_mul_right _ h4)
    have hv := own_shape hown
    obtain ⟨ao1, cap1, hv⟩ := hv
    rw [hv]
    rw [hv] at hown
    have hlt' : ¬ (k : Int) ≤ (n : Int) := by omega
    clear e hv hcc
    have HF := hid hfin; clear hfin
    go_wp2_with fail
    have hrd := Rd.own hown
    refine (l1Trim_any 4294967296 (by omega) ao1 _ cap1 os _ HLen.out (own_cap hown) (by omega) hf hrd).mono ?_
    have hfin : M.val 4294967296 os = a * 2 ^ s := HF.out
    rw [hfin]
    rintro e w1 ⟨ao', cap', rfl, ho, hb⟩
    go_wp2_with fail
    go_ret
    exact ⟨ao', cap', rfl, own_base ho hbl.size, hbl.trans (hb.mono hbl.size)⟩

theorem M.shr_digit {C P Q A k : Nat} (hC : 0 < C) (hP : 0 < P) (hCP : C = Q * P) : ((A / C ^ k) % (C * C) / P) % C = A / P / C ^ k % C := by
 have e1 : C * C = P * (Q * C) := by rw [← Nat.mul_assoc, Nat.mul_comm P Q, ← hCP]
 rw [e1, Nat.mod_mul_right_div_self, Nat.mod_mul_left_mod, Nat.div_div_eq_div_mul, Nat.div_div_eq_div_mul, Nat.mul_comm]

theorem M.two_digits (C Z : Nat) (hC : 0 < C) : Z % C + (Z / C) % C * C = Z % (C * C) := by
 rw [Nat.mod_mul, Nat.mul_comm C]

theorem M.dig_get {B : Nat} (hB : 1 < B) (k : Nat) : ∀ n, (M.dig B n).getD k 0 = n / B ^ k % B := by
 induction k with
 | zero =>
   intro n
   by_cases hn : 0 < n
   · rw [M.dig_pos hB hn]; simp
   · have : n = 0 := by omega
     subst this; simp [M.dig_zero]
 | succ k ih =>
   intro n
   by_cases hn : 0 < n
   · rw [M.dig_pos hB hn, List.getD_cons_succ, ih, Nat.div_div_eq_div_mul, Nat.pow_succ, Nat.mul_comm B]
   · have : n = 0 := by omega
     subst this; simp [M.dig_zero]

theorem D_get (a k : Nat) : (D a).getD k 0 = a / 4294967296 ^ k % 4294967296 := M.dig_get (by omega) k a

theorem l1Right_any (ao : Option Addr) (n c s : Nat) (a : Nat) (w : World) (hl : (D a).length = n) (hn : n ≤ 1048576) (hs : s ≤ 100000) (hr : Rd w ao (D a)) :
 Calls Tryd.prog 43 #[.slice ao n c, .int .i64 (s : Int)] w fun e w' => Ret w w' e (D (a / 2 ^ s)) := by
 obtain ⟨i0, hi, hz0, hz1, hz2⟩ := info_parts Tryd.infoU
 obtain ⟨q, hq⟩ : ∃ q : Nat, q = s / 32 := ⟨_, rfl⟩
 obtain ⟨p, hp⟩ : ∃ p : Nat, p = s % 32 := ⟨_, rfl⟩
 have hqI : (s : Int) / 32 = (q : Int) := by omega
 have hpI : (s : Int) % 32 = (p : Int) := by omega
 have hpb : p < 32 := by omega
 have hqb : q ≤ 100000 := by omega
 have HQ := hid hq; clear hq
 have HP := hid hp; clear hp
 have hsq : 2 ^ s = 4294967296 ^ q * 2 ^ p := by
  rw [show (4294967296 : Nat) = 2 ^ 32 from rfl, ← Nat.pow_mul, ← Nat.pow_add]
  congr 1
  have := HQ.out; have := HP.out; omega
 have HSQ := hid hsq; clear hsq
 have fa := F32_D a
 obtain ⟨A, hA⟩ : ∃ A : Nat, A = a / 4294967296 ^ q := ⟨_, rfl⟩
 have HA := hid hA; clear hA
 go_enter Tryd.func43, Tryd.ntmps43
 go_wp2_with fail
 go_loopw [5, 6] (fun v i wr => ∃ (k : Nat) (os : List Nat), (k = 0 ∨ q + k ≤ n) ∧ i = .int .i64 ((q : Int) + (k : Int)) ∧ wr.ownsRow w.heap.size 27 1 v k (U os) ∧ F32 os ∧ os.length = k ∧ X os = A / 2 ^ p % 4294967296 ^ k ∧ Below w.heap.size w wr) (fun _ i _ => n - (intOf i).toNat)
 case atStart => exact ⟨0, [], Or.inl rfl, by simp, World.ownsRow_nil _ _ _ _, fun x hx => by simp at hx, rfl, by simp [X, M.val, Nat.mod_one], Below.refl _ _⟩
 case round =>
  obtain ⟨k, os, hk, rfl, hown, hf, hlen, hv, hbl⟩ := hrel
  have HV := hid hv; clear hv
  have HLen := hid hlen; clear hlen
  have HK := hid hk; clear hk
  by_cases hlt : q + k < n
  · obtain ⟨x, hxx⟩ : ∃ x : Nat, x = (D a).getD (q + k) 0 := ⟨_, rfl⟩
    obtain ⟨y, hyy⟩ : ∃ y : Nat, y = (D a).getD (q + k + 1) 0 := ⟨_, rfl⟩
    have hx1 := fa.get (q + k)
    have hy1 := fa.get (q + k + 1)
    rw [← hxx] at hx1
    rw [← hyy] at hy1
    have hdx : x = A / 4294967296 ^ k % 4294967296 := by rw [hxx, D_get, HA.out, Nat.div_div_eq_div_mul, Nat.pow_add]
    have hdy : y = A / 4294967296 ^ k / 4294967296 % 4294967296 := by rw [hyy, D_get, HA.out, Nat.div_div_eq_div_mul, Nat.div_div_eq_div_mul, Nat.pow_succ, Nat.pow_add, Nat.mul_assoc]
    have hlt' : (q : Int) + (k : Int) < (n : Int) := by omega
    have hwo := or_pair x y hx1 hy1
    obtain ⟨t, ht⟩ : ∃ t : Nat, t = x + y * 4294967296 := ⟨_, rfl⟩
    rw [← ht] at hwo
    have hdt : t = A / 4294967296 ^ k % (4294967296 * 4294967296) := by rw [ht, hdx, hdy, M.two_digits _ _ (by omega)]
    have hdc := div_cast t p
    have hlow := low_mask (t / 2 ^ p) (Nat.lt_of_le_of_lt (Nat.div_le_self _ _) (by omega))
    obtain ⟨o, eo⟩ : ∃ o : Nat, o = t / 2 ^ p % 4294967296 := ⟨_, rfl⟩
    rw [← eo] at hlow
    have hdo : o = A / 2 ^ p / 4294967296 ^ k % 4294967296 := by
     rw [eo, hdt]
     exact M.shr_digit (Q := 2 ^ (32 - p)) (by omega) (Nat.pow_pos (by omega)) (by rw [M.pow_split p 32 (by omega)])
    have hob : o < 4294967296 := by rw [eo]; omega
    have HX := hid hxx; have HY := hid hyy; have E1 := hid hdo; have E2 := hid hob
    clear hxx hyy hdx hdy hdt ht eo hdo hob
    generalize t / 2 ^ p = u at hdc hlow
    go_wp2_with fail
    refine (l1At_any ao _ c (q + k) (D a) _ hl (by omega) (by omega) (hr.below hbl) x HX.out).mono ?_
    rintro e w2 ⟨rfl, rfl⟩
    go_wp2_with fail
    refine (l1At_any ao _ c (q + k + 1) (D a) _ hl (by omega) (by omega) (hr.below hbl) y HY.out).mono ?_
    rintro e w3 ⟨rfl, rfl⟩
    go_wp2_with (at_builtin; refine wpList_append_own _ rfl _ _ 49 rfl w.heap.size 27 i0 (.int .u64 0) 1 8 Tryd.underlying49 hi hz0 hz1 hz2 rfl (by decide) _ _ _ rfl (hown.alloc _) ⟨w3.heap.size, 0, none⟩ 1 1 (U [o]) rfl rfl ?c1 ?c2 ?c3 ?c4 ?c5 ?_)
    case c1 =>
     intro j u hj
     match j, hj with
     | 0, hj => simp [U] at hj; subst hj; simp [Addr.add]
    case c2 => exact U_one _
    case c3 => unfold maxLen; omega
    case c4 => omega
    case c5 => have := hbl.size; simp; omega
    intro v' w1 hown' hgrow hnn
    clear hnn
    have hb1 : Below w.heap.size w w1 := (hbl.alloc hbl.size _).grown hgrow (by have := hbl.size; simp; omega) (fun k' hk' => (hown.lt k' hk').1)
    clear hown hgrow
    go_wp2_with fail
    go_roundw
    case rel =>
     have R : ∃ (k1 : Nat) (os1 : List Nat), (k1 = 0 ∨ q + k1 ≤ n) ∧ Value.int .i64 ((q : Int) + (k : Int) + 1) = .int .i64 ((q : Int) + (k1 : Int)) ∧ w1.ownsRow w.heap.size 27 1 v' k1 (U os1) ∧ F32 os1 ∧ os1.length = k1 ∧ X os1 = A / 2 ^ p % 4294967296 ^ k1 ∧ Below w.heap.size w w1 := by
      refine ⟨k + 1, os ++ [o], Or.inr (by omega), by go_num, ?_, ?_, by simp [HLen.out], ?_, hb1⟩
      · rw [U_append]; exact hown'
      · intro z hz
        rcases List.mem_append.1 hz with hz | hz
        · exact hf z hz
        · simp at hz; have := E2.out; omega
      · have e3 := HV.out
        unfold X at *
        rw [M.val_snoc, HLen.out, e3, Nat.mod_pow_succ, ← E1.out]
     first | exact R | ((repeat apply Exists.intro); exact ⟨R, rfl⟩)
    case measure => simp [intOf]; omega
  · have hfin : X os = a / 2 ^ s := by
     rw [HV.out, HSQ.out, ← Nat.div_div_eq_div_mul, ← HA.out]
     apply Nat.mod_eq_of_lt
     refine Nat.lt_of_le_of_lt (Nat.div_le_self _ _) ?_
     have h2 := D_lt a n (by omega)
     rw [HA.out]
     apply Nat.div_lt_of_lt_mul
     rw [← Nat.pow_add]
     exact Nat.lt_of_lt_of_le h2 (Nat.pow_le_pow_right (by omega) (by have := HK.out; omega))
    have hkb : k ≤ 1048576 := by have := HK.out; omega
    have hv := own_shape hown
    obtain ⟨ao1, cap1, hv⟩ := hv
    rw [hv]
    rw [hv] at hown
    have hlt' : ¬ (q : Int) + (k : Int) < (n : Int) := by omega
    clear hv
    have HF := hid hfin; clear hfin
    go_wp2_with fail
    have hrd := Rd.own hown
    refine (l1Trim_any 4294967296 (by omega) ao1 _ cap1 os _ HLen.out (own_cap hown) (by omega) hf hrd).mono ?_
    have hfin : M.val 4294967296 os = a / 2 ^ s := HF.out
    rw [hfin]
    rintro e w1 ⟨ao', cap', rfl, ho, hb⟩
    go_wp2_with fail
    go_ret
    exact ⟨ao', cap', rfl, own_base ho hbl.size, hbl.trans (hb.mono hbl.size)⟩

end Go.Proofs.YtcilemkeljcidaaDoor
