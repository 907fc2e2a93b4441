import Derived.Deep.RegionHeld3
import Derived.Deep.CutBlock
import Derived.Deep.DeepCutAuto
import Derived.Test.YtogkkecnmlnajaaDoorqBC
import Derived.Test.YtogkkecnmlnajaaDoorqBD
set_option maxHeartbeats 1000000
namespace Go.Proofs.YtogkkecnmlnajaaDoor
open Go.RowKit
set_option linter.unusedVariables false
set_option maxRecDepth 100000
theorem M.shl32 (x p cc : Nat) (hp : p < 32) (hx : x < 4294967296) (hc : cc < 2 ^ p) :
 x * 2 ^ p + cc < 9223372036854775808 ∧ (x * 2 ^ p + cc) / 4294967296 < 2 ^ p := by
 have h1 : 2 ^ p ≤ 2 ^ 31 := Nat.pow_le_pow_right (by omega) (by omega)
 have h2 : (x + 1) * 2 ^ p ≤ 4294967296 * 2 ^ p := Nat.mul_le_mul_right _ hx
 rw [Nat.add_mul] at h2
 constructor
 · have : 4294967296 * 2 ^ p ≤ 4294967296 * 2 ^ 31 := Nat.mul_le_mul_left _ h1
   omega
 · exact Nat.div_lt_of_lt_mul (by omega)

theorem shl32_word (x p cc : Nat) (hp : p < 32) (hx : x < 4294967296) (hc : cc < 2 ^ p) :
 bits BinOp.or IntKind.u64 (IntKind.u64.wrap ((x : Int) * 2 ^ p)) (cc : Int) = ((x * 2 ^ p + cc : Nat) : Int) := by
 have hb := (M.shl32 x p cc hp hx hc).1
 have e1 : IntKind.u64.wrap ((x : Int) * 2 ^ p) = ((x * 2 ^ p : Nat) : Int) := by
  rw [pow_cast, ← Int.natCast_mul, wrapU, Nat.mod_eq_of_lt (by omega)]
 have h1 : 2 ^ p ≤ 2 ^ 31 := Nat.pow_le_pow_right (by omega) (by omega)
 rw [e1, or_comm_nat _ _ (by omega) (by omega), or_nat cc x p hc, Nat.add_comm]

theorem low_mask (s : Nat) (hs : s < 18446744073709551616) : bits BinOp.and IntKind.u64 (s : Int) 4294967295 = ((s % 4294967296 : Nat) : Int) := by
 rw [and_low32 _ (by omega) (by omega)]; omega

theorem l1Left_any (ao : Option Addr) (n c s : Nat) (a : Nat) (w : World) (hl : (D a).length = n) (hn : n ≤ 1048576) (hs : s ≤ 100000) (hr : Rd w ao (D a)) :
 Calls Tryd.prog 20 #[.slice ao n c, .int .i64 (s : Int)] w fun e w' => Ret w w' e (D (a * 2 ^ s)) := by
 obtain ⟨i0, hi, hz0, hz1, hz2⟩ := info_parts Tryd.infoU
 obtain ⟨q, hq⟩ : ∃ q : Nat, q = s / 32 := ⟨_, rfl⟩
 obtain ⟨p, hp⟩ : ∃ p : Nat, p = s % 32 := ⟨_, rfl⟩
 have hqI : (s : Int) / 32 = (q : Int) := by omega
 have hpI : (s : Int) % 32 = (p : Int) := by omega
 have hpb : p < 32 := by omega
 have hqb : q ≤ 100000 := by omega
 have HQ := hid hq; clear hq
 have HP := hid hp; clear hp
 have hsq : 2 ^ s = 4294967296 ^ q * 2 ^ p := by
  rw [show (4294967296 : Nat) = 2 ^ 32 from rfl, ← Nat.pow_mul, ← Nat.pow_add]
  congr 1
  have := HQ.out; have := HP.out; omega
 have HSQ := hid hsq; clear hsq
 have hmk := fun (wx : World) => run_make (P := Tryd.prog) wx 23 26 i0 (.int .u64 0) Tryd.underlying23 hi hz0 .i64 .i64 (q : Int) (q : Int) (by omega) (Int.le_refl _) (by rw [hz2]; omega) (by omega)
 have fa := F32_D a
 go_enter Tryd.func20, Tryd.ntmps20
 go_wp2_with fail
 go_loopw [5, 6, 7] (fun v cy i wr => ∃ (k : Nat) (os : List Nat) (cc : Nat), k ≤ n + 1 ∧ i = .int .i64 k ∧ cy = .int .u64 cc ∧ cc < 2 ^ p ∧ wr.ownsRow w.heap.size 26 1 v (q + k) (U os) ∧ F32 os ∧ os.length = q + k ∧ X os + cc * 4294967296 ^ (q + k) = (4294967296 ^ q * 2 ^ p) * X ((D a).take k) ∧ Below w.heap.size w wr) (fun _ _ i _ => n + 1 - (intOf i).toNat)
 case atStart =>
  refine ⟨0, List.replicate q 0, 0, by omega, rfl, rfl, Nat.pow_pos (by omega), ?_, fun x hx => by simp at hx; omega, by simp, ?_, (Below.refl _ _).alloc (Nat.le_refl _) _⟩
  · exact (blk_made w q).own (Nat.le_refl _) (by simp) (by unfold maxLen; omega)
  · unfold X; rw [M.val_replicate]; simp [M.val]
 case round =>
  obtain ⟨k, os, cc, hk, rfl, rfl, hcc, hown, hf, hlen, hv, hbl⟩ := hrel
  clear hmk
  have HV := hid hv; clear hv
  have HLen := hid hlen; clear hlen
  by_cases hlt : k ≤ n
  · obtain ⟨x, hxx⟩ : ∃ x : Nat, x = (D a).getD k 0 := ⟨_, rfl⟩
    have hx1 := fa.get k
    rw [← hxx] at hx1
    have HX := hid hxx; clear hxx
    have hlt' : (k : Int) ≤ (n : Int) := by omega
    have hwo := shl32_word x p cc hpb hx1 hcc
    have hbb := M.shl32 x p cc hpb hx1 hcc
    obtain ⟨t, ht⟩ : ∃ t : Nat, t = x * 2 ^ p + cc := ⟨_, rfl⟩
    rw [← ht] at hwo hbb
    have hlow := low_mask t (by omega)
    have hhi : (t : Int) / 4294967296 = ((t / 4294967296 : Nat) : Int) := by omega
    obtain ⟨o, eo⟩ : ∃ o : Nat, o = t % 4294967296 := ⟨_, rfl⟩
    rw [← eo] at hlow
    have hsum : o + 4294967296 * (t / 4294967296) = x * 2 ^ p + cc ∧ o < 4294967296 := by omega
    have E1 := hid hsum; have E2 := hid hbb; have E3 := hid ht; have E4 := hid eo; have E5 := hid hhi
    clear hsum hbb ht eo hhi hcc
    go_wp2_with fail
    refine (l1At_any ao _ c k (D a) _ hl (by omega) (by omega) (hr.below hbl) x HX.out).mono ?_
    rintro e w2 ⟨rfl, rfl⟩
    go_wp2_with (at_builtin; refine wpList_append_own _ rfl _ _ 23 rfl w.heap.size 26 i0 (.int .u64 0) 1 8 Tryd.underlying23 hi hz0 hz1 hz2 rfl (by decide) _ _ _ rfl (hown.alloc _) ⟨w2.heap.size, 0, none⟩ 1 1 (U [o]) rfl rfl ?c1 ?c2 ?c3 ?c4 ?c5 ?_)
    case c1 =>
     intro j u hj
     match j, hj with
     | 0, hj => simp [U] at hj; subst hj; simp [Addr.add]
    case c2 => exact U_one _
    case c3 => unfold maxLen; omega
    case c4 => omega
    case c5 => have := hbl.size; simp; omega
    intro v' w1 hown' hgrow hnn
    clear hnn
    have hb1 : Below w.heap.size w w1 := (hbl.alloc hbl.size _).grown hgrow (by have := hbl.size; simp; omega) (fun k' hk' => (hown.lt k' hk').1)
    clear hown hgrow
    go_wp2_with fail
    go_roundw
    case rel =>
     have R : ∃ (k1 : Nat) (os1 : List Nat) (cc1 : Nat), k1 ≤ n + 1 ∧ Value.int .i64 ((k : Int) + 1) = .int .i64 k1 ∧ Value.int .u64 ((t : Int) / 4294967296) = .int .u64 cc1 ∧ cc1 < 2 ^ p ∧ w1.ownsRow w.heap.size 26 1 v' (q + k1) (U os1) ∧ F32 os1 ∧ os1.length = q + k1 ∧ X os1 + cc1 * 4294967296 ^ (q + k1) = (4294967296 ^ q * 2 ^ p) * X ((D a).take k1) ∧ Below w.heap.size w w1 := by
      refine ⟨k + 1, os ++ [o], t / 4294967296, by omega, by go_num, by rw [E5.out], E2.out.2, ?_, ?_, by simp [HLen.out]; omega, ?_, hb1⟩
      · rw [U_append]; exact hown'
      · intro z hz
        rcases List.mem_append.1 hz with hz | hz
        · exact hf z hz
        · simp at hz; have := E1.out.2; omega
      · have e3 := HV.out
        unfold X at *
        rw [M.val_take_succ, ← HX.out, show q + (k + 1) = q + k + 1 by omega, Nat.pow_succ, M.val_snoc, HLen.out]
        rw [Nat.pow_add] at e3 ⊢
        exact M.shl_over e3 rfl E1.out.1
     first | exact R | ((repeat apply Exists.intro); exact ⟨R, rfl⟩)
    case measure => simp [intOf]; omega
  · have e : k = n + 1 := by omega
    have hfin : X os = a * 2 ^ s := by
     have h1 := HV.out
     rw [X_takeD a k (by omega), ← HSQ.out] at h1
     have h2 := D_lt a n (by omega)
     rw [Nat.mul_comm a]
     refine (M.no_carry h1 ?_).2
     rw [HSQ.out, e, show q + (n + 1) = q + 1 + n by omega, Nat.pow_add, Nat.pow_succ]
     have h3 : 2 ^ p ≤ 4294967296 := Nat.le_trans (Nat.pow_le_pow_right (by omega) (show p ≤ 32 by omega)) (by omega)
     have h4 : 4294967296 ^ q * 2 ^ p ≤ 4294967296 ^ q * 4294967296 := Nat.mul_le_mul_left _ h3
     exact Nat.lt_of_lt_of_le (Nat.mul_lt_mul_of_pos_left h2 (Nat.mul_pos (Nat.pow_pos (by omega)) (Nat.pow_pos (by omega)))) (Nat.mul_le_mul_right _ h4)
    have hv := own_shape hown
    obtain ⟨ao1, cap1, hv⟩ := hv
    rw [hv]
    rw [hv] at hown
    have hlt' : ¬ (k : Int) ≤ (n : Int) := by omega
    clear e hv hcc
    have HF := hid hfin; clear hfin
    go_wp2_with fail
    have hrd := Rd.own hown
    refine (l1Trim_any 4294967296 (by omega) ao1 _ cap1 os _ HLen.out (own_cap hown) (by omega) hf hrd).mono ?_
    have hfin : M.val 4294967296 os = a * 2 ^ s := HF.out
    rw [hfin]
    rintro e w1 ⟨ao', cap', rfl, ho, hb⟩
    go_wp2_with fail
    go_ret
    exact ⟨ao', cap', rfl, own_base ho hbl.size, hbl.trans (hb.mono hbl.size)⟩

theorem M.shr_digit {C P Q A k : Nat} (hC : 0 < C) (hP : 0 < P) (hCP : C = Q * P) : ((A / C ^ k) % (C * C) / P) % C = A / P / C ^ k % C := by
 have e1 : C * C = P * (Q * C) := by rw [← Nat.mul_assoc, Nat.mul_comm P Q, ← hCP]
 rw [e1, Nat.mod_mul_right_div_self, Nat.mod_mul_left_mod, Nat.div_div_eq_div_mul, Nat.div_div_eq_div_mul, Nat.mul_comm]

theorem M.two_digits (C Z : Nat) (hC : 0 < C) : Z % C + (Z / C) % C * C = Z % (C * C) := by
 rw [Nat.mod_mul, Nat.mul_comm C]

theorem M.dig_get {B : Nat} (hB : 1 < B) (k : Nat) : ∀ n, (M.dig B n).getD k 0 = n / B ^ k % B := by
 induction k with
 | zero =>
   intro n
   by_cases hn : 0 < n
   · rw [M.dig_pos hB hn]; simp
   · have : n = 0 := by omega
     subst this; simp [M.dig_zero]
 | succ k ih =>
   intro n
   by_cases hn : 0 < n
   · rw [M.dig_pos hB hn, List.getD_cons_succ, ih, Nat.div_div_eq_div_mul, Nat.pow_succ, Nat.mul_comm B]
   · have : n = 0 := by omega
     subst this; simp [M.dig_zero]

theorem D_get (a k : Nat) : (D a).getD k 0 = a / 4294967296 ^ k % 4294967296 := M.dig_get (by omega) k a

theorem l1Right_any (ao : Option Addr) (n c s : Nat) (a : Nat) (w : World) (hl : (D a).length = n) (hn : n ≤ 1048576) (hs : s ≤ 100000) (hr : Rd w ao (D a)) :
 Calls Tryd.prog 51 #[.slice ao n c, .int .i64 (s : Int)] w fun e w' => Ret w w' e (D (a / 2 ^ s)) := by
 obtain ⟨i0, hi, hz0, hz1, hz2⟩ := info_parts Tryd.infoU
 obtain ⟨q, hq⟩ : ∃ q : Nat, q = s / 32 := ⟨_, rfl⟩
 obtain ⟨p, hp⟩ : ∃ p : Nat, p = s % 32 := ⟨_, rfl⟩
 have hqI : (s : Int) / 32 = (q : Int) := by omega
 have hpI : (s : Int) % 32 = (p : Int) := by omega
 have hpb : p < 32 := by omega
 have hqb : q ≤ 100000 := by omega
 have HQ := hid hq; clear hq
 have HP := hid hp; clear hp
 have hsq : 2 ^ s = 4294967296 ^ q * 2 ^ p := by
  rw [show (4294967296 : Nat) = 2 ^ 32 from rfl, ← Nat.pow_mul, ← Nat.pow_add]
  congr 1
  have := HQ.out; have := HP.out; omega
 have HSQ := hid hsq; clear hsq
 have fa := F32_D a
 obtain ⟨A, hA⟩ : ∃ A : Nat, A = a / 4294967296 ^ q := ⟨_, rfl⟩
 have HA := hid hA; clear hA
 go_enter Tryd.func51, Tryd.ntmps51
 go_wp2_with fail
 go_loopw [5, 6] (fun v i wr => ∃ (k : Nat) (os : List Nat), (k = 0 ∨ q + k ≤ n) ∧ i = .int .i64 ((q : Int) + (k : Int)) ∧ wr.ownsRow w.heap.size 26 1 v k (U os) ∧ F32 os ∧ os.length = k ∧ X os = A / 2 ^ p % 4294967296 ^ k ∧ Below w.heap.size w wr) (fun _ i _ => n - (intOf i).toNat)
 case atStart => exact ⟨0, [], Or.inl rfl, by simp, World.ownsRow_nil _ _ _ _, fun x hx => by simp at hx, rfl, by simp [X, M.val, Nat.mod_one], Below.refl _ _⟩
 case round =>
  obtain ⟨k, os, hk, rfl, hown, hf, hlen, hv, hbl⟩ := hrel
  have HV := hid hv; clear hv
  have HLen := hid hlen; clear hlen
  have HK := hid hk; clear hk
  by_cases hlt : q + k < n
  · obtain ⟨x, hxx⟩ : ∃ x : Nat, x = (D a).getD (q + k) 0 := ⟨_, rfl⟩
    obtain ⟨y, hyy⟩ : ∃ y : Nat, y = (D a).getD (q + k + 1) 0 := ⟨_, rfl⟩
    have hx1 := fa.get (q + k)
    have hy1 := fa.get (q + k + 1)
    rw [← hxx] at hx1
    rw [← hyy] at hy1
    have hdx : x = A / 4294967296 ^ k % 4294967296 := by rw [hxx, D_get, HA.out, Nat.div_div_eq_div_mul, Nat.pow_add]
    have hdy : y = A / 4294967296 ^ k / 4294967296 % 4294967296 := by rw [hyy, D_get, HA.out, Nat.div_div_eq_div_mul, Nat.div_div_eq_div_mul, Nat.pow_succ, Nat.pow_add, Nat.mul_assoc]
    have hlt' : (q : Int) + (k : Int) < (n : Int) := by omega
    have hwo := or_pair x y hx1 hy1
    obtain ⟨t, ht⟩ : ∃ t : Nat, t = x + y * 4294967296 := ⟨_, rfl⟩
    rw [← ht] at hwo
    have hdt : t = A / 4294967296 ^ k % (4294967296 * 4294967296) := by rw [ht, hdx, hdy, M.two_digits _ _ (by omega)]
    have hdc := div_cast t p
    have hlow := low_mask (t / 2 ^ p) (Nat.lt_of_le_of_lt (Nat.div_le_self _ _) (by omega))
    obtain ⟨o, eo⟩ : ∃ o : Nat, o = t / 2 ^ p % 4294967296 := ⟨_, rfl⟩
    rw [← eo] at hlow
    have hdo : o = A / 2 ^ p / 4294967296 ^ k % 4294967296 := by
     rw [eo, hdt]
     exact M.shr_digit (Q := 2 ^ (32 - p)) (by omega) (Nat.pow_pos (by omega)) (by rw [M.pow_split p 32 (by omega)])
    have hob : o < 4294967296 := by rw [eo]; omega
    have HX := hid hxx; have HY := hid hyy; have E1 := hid hdo; have E2 := hid hob
    clear hxx hyy hdx hdy hdt ht eo hdo hob
    generalize t / 2 ^ p = u at hdc hlow
    go_wp2_with fail
    refine (l1At_any ao _ c (q + k) (D a) _ hl (by omega) (by omega) (hr.below hbl) x HX.out).mono ?_
    rintro e w2 ⟨rfl, rfl⟩
    go_wp2_with fail
    refine (l1At_any ao _ c (q + k + 1) (D a) _ hl (by omega) (by omega) (hr.below hbl) y HY.out).mono ?_
    rintro e w3 ⟨rfl, rfl⟩
    go_wp2_with (at_builtin; refine wpList_append_own _ rfl _ _ 23 rfl w.heap.size 26 i0 (.int .u64 0) 1 8 Tryd.underlying23 hi hz0 hz1 hz2 rfl (by decide) _ _ _ rfl (hown.alloc _) ⟨w3.heap.size, 0, none⟩ 1 1 (U [o]) rfl rfl ?c1 ?c2 ?c3 ?c4 ?c5 ?_)
    case c1 =>
     intro j u hj
     match j, hj with
     | 0, hj => simp [U] at hj; subst hj; simp [Addr.add]
    case c2 => exact U_one _
    case c3 => unfold maxLen; omega
    case c4 => omega
    case c5 => have := hbl.size; simp; omega
    intro v' w1 hown' hgrow hnn
    clear hnn
    have hb1 : Below w.heap.size w w1 := (hbl.alloc hbl.size _).grown hgrow (by have := hbl.size; simp; omega) (fun k' hk' => (hown.lt k' hk').1)
    clear hown hgrow
    go_wp2_with fail
    go_roundw
    case rel =>
     have R : ∃ (k1 : Nat) (os1 : List Nat), (k1 = 0 ∨ q + k1 ≤ n) ∧ Value.int .i64 ((q : Int) + (k : Int) + 1) = .int .i64 ((q : Int) + (k1 : Int)) ∧ w1.ownsRow w.heap.size 26 1 v' k1 (U os1) ∧ F32 os1 ∧ os1.length = k1 ∧ X os1 = A / 2 ^ p % 4294967296 ^ k1 ∧ Below w.heap.size w w1 := by
      refine ⟨k + 1, os ++ [o], Or.inr (by omega), by go_num, ?_, ?_, by simp [HLen.out], ?_, hb1⟩
      · rw [U_append]; exact hown'
      · intro z hz
        rcases List.mem_append.1 hz with hz | hz
        · exact hf z hz
        · simp at hz; have := E2.out; omega
      · have e3 := HV.out
        unfold X at *
        rw [M.val_snoc, HLen.out, e3, Nat.mod_pow_succ, ← E1.out]
     first | exact R | ((repeat apply Exists.intro); exact ⟨R, rfl⟩)
    case measure => simp [intOf]; omega
  · have hfin : X os = a / 2 ^ s := by
     rw [HV.out, HSQ.out, ← Nat.div_div_eq_div_mul, ← HA.out]
     apply Nat.mod_eq_of_lt
     refine Nat.lt_of_le_of_lt (Nat.div_le_self _ _) ?_
     have h2 := D_lt a n (by omega)
     rw [HA.out]
     apply Nat.div_lt_of_lt_mul
     rw [← Nat.pow_add]
     exact Nat.lt_of_lt_of_le h2 (Nat.pow_le_pow_right (by omega) (by have := HK.out; omega))
    have hkb : k ≤ 1048576 := by have := HK.out; omega
    have hv := own_shape hown
    obtain ⟨ao1, cap1, hv⟩ := hv
    rw [hv]
    rw [hv] at hown
    have hlt' : ¬ (q : Int) + (k : Int) < (n : Int) := by omega
    clear hv
    have HF := hid hfin; clear hfin
    go_wp2_with fail
    have hrd := Rd.own hown
    refine (l1Trim_any 4294967296 (by omega) ao1 _ cap1 os _ HLen.out (own_cap hown) (by omega) hf hrd).mono ?_
    have hfin : M.val 4294967296 os = a / 2 ^ s := HF.out
    rw [hfin]
    rintro e w1 ⟨ao', cap', rfl, ho, hb⟩
    go_wp2_with fail
    go_ret
    exact ⟨ao', cap', rfl, own_base ho hbl.size, hbl.trans (hb.mono hbl.size)⟩

theorem D_small (a : Nat) (h : a < 2 ^ 192) : (D a).length ≤ 6 := by
 apply M.len_of_lt (by omega)
 rw [show (4294967296 : Nat) = 2 ^ 32 from rfl, ← Nat.pow_mul]
 exact h

theorem L_get (a k : Nat) : (L a).getD k 0 = a / 18446744073709551616 ^ k % 18446744073709551616 := M.dig_get (by omega) k a

theorem getD_app0 (xs : List Nat) (k : Nat) : (xs ++ [0, 0]).getD k 0 = xs.getD k 0 := by
 rcases Nat.lt_or_ge k xs.length with h | h
 · simp [List.getD_eq_getElem?_getD, List.getElem?_append_left h]
 · rw [List.getD_eq_getElem?_getD, List.getD_eq_getElem?_getD, List.getElem?_append_right h, List.getElem?_eq_none (by omega : xs.length ≤ k)]
   rcases k - xs.length with _ | _ | m <;> simp

theorem l2Word_any (ao : Option Addr) (n c : Nat) (a : Nat) (w : World) (hl : (D a).length = n) (ha : a < 2 ^ 128) (hr : Rd w ao (D a)) :
 Calls Tryd.prog 49 #[.slice ao n c] w fun e w' => e = .returned (.agg #[.int .u64 (M.hiN a : Int), .int .u64 (M.loN a : Int)]) ∧ Below w.heap.size w w' := by
 obtain ⟨i0, hi, hz0, hz1, hz2⟩ := info_parts Tryd.infoU
 have hn : n ≤ 6 := by rw [← hl]; exact D_small a (by omega)
 have hL : (L a).length ≤ 4 := M.len_of_lt (by omega) _ _ (by omega)
 have g0 : (L a ++ [0, 0]).getD 0 0 = M.loN a := by rw [getD_app0, L_get]; simp [M.loN]
 have g1 : (L a ++ [0, 0]).getD 1 0 = M.hiN a := by rw [getD_app0, L_get]; have := M.hiLt ha; unfold M.hiN at *; simp; omega
 have G0 := hid g0; have G1 := hid g1
 clear g0 g1
 generalize M.hiN a = h at *
 generalize M.loN a = l at *
 go_enter Tryd.func49, Tryd.ntmps49
 go_wp2_with fail
 have b0 : Below w.heap.size w (w.alloc (.cells #[.int .u64 0, .int .u64 0] 28)) := (Below.refl _ _).alloc (Nat.le_refl _) _
 refine (l1Out_any ao n c a _ hl (by omega) (hr.below b0)).mono ?_
 rintro e w1 ⟨ao1, cap1, rfl, ho1, hb1⟩
 have hc1 := (bcell hb1).1
 have hf1 := (bcell hb1).2
 have b1 := b0.trans (hb1.mono b0.size)
 have hz : w.heap.size < w1.heap.size := by have := hb1.size; simp at this; omega
 go_wp2_with (at_builtin; refine wpList_append_own _ rfl _ _ 23 rfl (w.heap.size + 1) 26 i0 (.int .u64 0) 1 8 Tryd.underlying23 hi hz0 hz1 hz2 rfl (by decide) _ _ _ rfl ((own_base ho1 (by simp)).alloc _) ⟨w1.heap.size, 0, none⟩ 2 2 (U [0, 0]) rfl rfl ?c1 ?c2 ?c3 ?c4 ?c5 ?_)
 case c1 =>
  intro j u hj
  match j, hj with
  | 0, hj => simp [U] at hj; subst hj; simp [Addr.add]
  | 1, hj => simp [U] at hj; subst hj; simp [Addr.add]
 case c2 => exact U_one _
 case c3 => unfold maxLen; omega
 case c4 => omega
 case c5 => have := hb1.size; simp at this ⊢; omega
 intro v' w2 hown' hgrow hnn
 clear hnn
 have hb2 : Below (w.alloc (.cells #[.int .u64 0, .int .u64 0] 28)).heap.size (w.alloc (.cells #[.int .u64 0, .int .u64 0] 28)) w2 :=
  (hb1.alloc hb1.size _).grown hgrow (by have := hb1.size; simp at this ⊢; omega) (fun k hk => (ho1.lt k hk).1)
 have b2 := b0.trans (hb2.mono b0.size)
 rw [← U_append] at hown'
 obtain ⟨ao2, cap2, hv⟩ := own_shape hown'
 subst hv
 have hcap := own_cap hown'
 have hrd := Rd.own hown'
 obtain ⟨b, off, hao, hcl⟩ := hrd (by simp)
 subst hao
 have hbge : w.heap.size + 1 ≤ b := (hown'.lt b rfl).1
 have k0 := hcl 0 (by simp)
 have k1 := hcl 1 (by simp)
 rw [G0.out] at k0
 rw [G1.out] at k1
 rw [Nat.add_zero] at k0
 have hne : w.heap.size ≠ b := by omega
 have hlt : b < w2.heap.size := World.block_lt_of_cell? w2 ⟨b, off, none⟩ k0
 have r0 : w2.cell? ⟨w.heap.size, 0, none⟩ = some (.int .u64 0) := (hb2.cell (by simp)).trans (by simp [go_sem])
 have r1 : w2.cell? ⟨w.heap.size, 1, none⟩ = some (.int .u64 0) := (hb2.cell (by simp)).trans (by simp [go_sem])
 have z0 : w2.frozen? ⟨w.heap.size, 0, none⟩ = false := (hb2.frozen (by simp)).trans (by simp [go_sem])
 have z1 : w2.frozen? ⟨w.heap.size, 1, none⟩ = false := (hb2.frozen (by simp)).trans (by simp [go_sem])
 clear hown' hgrow hrd hcl ho1 hb1 hb2 hc1 hf1 b1 hz
 generalize (L a).length = m at *
 have m1 : (1 : Int) < (m : Int) + 2 := by omega
 have m0 : (0 : Int) < (m : Int) + 2 := by omega
 go_wp2_with fail
 go_region_held3 (fun v => v.cell? ⟨b, off, none⟩ = some (.int .u64 (l : Int)) ∧ v.cell? ⟨b, off + 1, none⟩ = some (.int .u64 (h : Int))) (go_keep) (fail)
 go_wp2_with fail
 exact bodyPost_ret (v := .agg #[.int .u64 (h : Int), .int .u64 (l : Int)]) (by simp [results, Tryd.results49, go_sem, r0, r1]) rfl ⟨rfl, ((b2.setCell (p := ⟨w.heap.size, 0, none⟩) (Nat.le_refl _) _).setCell (p := ⟨w.heap.size, 1, none⟩) (Nat.le_refl _) _).drew⟩

theorem blk_lit (w : World) (xs : List Nat) : Blk (w.alloc (.cells (U xs).toArray 26)) w.heap.size xs := heap_alloc_new w _

theorem l1Of_any (x : Nat) (w : World) (h : x < 18446744073709551616) :
 Calls Tryd.prog 21 #[.int .u64 (x : Int)] w fun e w' => Ret w w' e (D x) := by
 have hlow : bits BinOp.and IntKind.u64 (x : Int) 4294967295 = ((x % 4294967296 : Nat) : Int) := by
  rw [and_low32 _ (by omega) (by omega)]; omega
 have hhi : (x : Int) / 4294967296 = ((x / 4294967296 : Nat) : Int) := by omega
 have hB := blk_lit w [x % 4294967296, x / 4294967296]
 have hb : Below w.heap.size w (w.alloc (.cells (U [x % 4294967296, x / 4294967296]).toArray 26)) := (Below.refl _ _).alloc (Nat.le_refl _) _
 have hU : (U [x % 4294967296, x / 4294967296]).toArray = #[Value.int .u64 ((x % 4294967296 : Nat) : Int), Value.int .u64 ((x / 4294967296 : Nat) : Int)] := rfl
 rw [hU] at hB hb
 have hv : M.val 4294967296 [x % 4294967296, x / 4294967296] = x := by simp [M.val]; omega
 have hf : F32 [x % 4294967296, x / 4294967296] := by intro y hy; simp at hy; omega
 obtain ⟨lo, elo⟩ : ∃ lo : Nat, lo = x % 4294967296 := ⟨_, rfl⟩
 obtain ⟨hi, ehi⟩ : ∃ hi : Nat, hi = x / 4294967296 := ⟨_, rfl⟩
 rw [← elo, ← ehi] at hB hb hv hf
 rw [← elo] at hlow
 rw [← ehi] at hhi
 have HV := hid hv
 clear hv hU elo ehi
 go_enter Tryd.func21, Tryd.ntmps21
 go_wp2_with fail
 refine (l1Trim_any 4294967296 (by omega) _ 2 2 [lo, hi] _ rfl (by omega) (by omega) hf hB.rd0).mono ?_
 rw [HV.out]
 rintro e w1 ⟨ao', cap', rfl, ho, hb'⟩
 go_wp2_with fail
 go_ret
 exact ⟨ao', cap', rfl, own_base ho hb.size, hb.trans (hb'.mono hb.size)⟩

theorem l1Bits_any (ao : Option Addr) (n c : Nat) (a : Nat) (w : World) (hl : (D a).length = n) (hn : n ≤ 1048576) (hr : Rd w ao (D a)) (b : Nat) (hb : b = blen a) :
 Calls Tryd.prog 46 #[.slice ao n c] w fun e w' => e = .returned (.int .i64 (b : Int)) ∧ w' = w := by
 by_cases h0 : n = 0
 · subst h0
   have ha : a = 0 := by
    rcases Nat.eq_zero_or_pos a with h | h
    · exact h
    · unfold D at hl; rw [M.dig_pos (by omega) h] at hl; simp at hl
   have hb0 : b = 0 := by rw [hb, ha, blen_zero]
   subst hb0
   clear hb ha hl hr
   go_enter Tryd.func46, Tryd.ntmps46
   go_wp2_with fail
   go_ret
   exact ⟨rfl, rfl⟩
 · obtain ⟨m, rfl⟩ : ∃ m, n = m + 1 := ⟨n - 1, by omega⟩
   have ha : 0 < a := by
    rcases Nat.eq_zero_or_pos a with h | h
    · rw [h] at hl; simp [D, M.dig_zero] at hl
    · exact h
   have hbl := blen_D a ha
   rw [hl, Nat.add_sub_cancel] at hbl
   obtain ⟨b1, o1, hao, hcl⟩ := hr (by omega)
   have hck := hcl m (by omega)
   clear hcl
   have ht := (F32_D a).get m
   obtain ⟨t, htt⟩ : ∃ t : Nat, t = (D a).getD m 0 := ⟨_, rfl⟩
   rw [← htt] at hck ht hbl
   rw [← hb] at hbl
   have hne : (((m : Int) + 1) == 0) = false := by simp; omega
   have e1 : ((m + 1 : Nat) : Int) = (m : Int) + 1 := by omega
   have hltm : (m : Int) < (m : Int) + 1 := by omega
   have HBL := hid hbl; have HT := hid htt
   clear hbl htt hb
   go_enter Tryd.func46, Tryd.ntmps46
   go_wp2_with fail
   go_loop [3, 4] (fun cn x => ∃ k y : Nat, cn = .int .i64 (32 * (m : Int) + (k : Int)) ∧ x = .int .u64 (y : Int) ∧ y < 4294967296 ∧ blen t = k + blen y ∧ k ≤ 32) (fun _ x => (intOf x).toNat)
   case atStart => exact ⟨0, t, by simp, rfl, ht, by omega, by omega⟩
   case round =>
    obtain ⟨k, y, rfl, rfl, hy, hk, hk2⟩ := hrel
    have HK := hid hk; clear hk
    by_cases hy0 : 0 < y
    · have hy0' : (0 : Int) < (y : Int) := by omega
      have hk3 : k < 32 := by
       have h1 := blen_le_of t 32 ht
       have h2 := HK.out
       have h3 := blen_pos y hy0
       omega
      go_wp2_with fail
      go_round
      case rel =>
       refine ⟨k + 1, y / 2, by go_num, by go_num, by omega, ?_, by omega⟩
       have h1 := HK.out
       rw [blen_half y hy0] at h1
       omega
      case measure => simp [intOf]; omega
    · have : y = 0 := by omega
      subst this
      have hy0' : ¬ (0 : Int) < ((0 : Nat) : Int) := by omega
      go_wp2_with fail
      go_ret
      refine ⟨ret_int ?_, rfl⟩
      have h1 := HK.out
      rw [blen_zero] at h1
      have h2 := HBL.out
      rw [← HT.out] at *
      omega

def RetB (w w' : World) (e : Ending) (r : List Nat) (b : Bool) : Prop :=
 ∃ ao cap, e = .returned (.tuple #[.slice ao r.length cap, .bool b]) ∧ w'.ownsRow w.heap.size 26 1 (.slice ao r.length cap) r.length (U r) ∧ Below w.heap.size w w'

theorem RetB.nil {w w' : World} (h : Below w.heap.size w w') : RetB w w' (.returned (.tuple #[.slice none 0 0, .bool false])) [] false := ⟨none, 0, rfl, World.ownsRow_nil _ _ _ _, h⟩

theorem Rd.drewN {w : World} {ao : Option Addr} {xs : List Nat} (h : Rd w ao xs) (q : Nat) : Rd (w.drewN q) ao xs := h

theorem l1Sub_any (ao bo : Option Addr) (n m c d : Nat) (a b : Nat) (w : World) (hl : (D a).length = n) (hm : (D b).length = m) (hba : b ≤ a) (hn : n ≤ 2097152) (hr : Rd w ao (D a)) (hr2 : Rd w bo (D b)) :
 Calls Tryd.prog 22 #[.slice ao n c, .slice bo m d] w fun e w' => Ret w w' e (D (a - b)) := by
 obtain ⟨i0, hi, hz0, hz1, hz2⟩ := info_parts Tryd.infoU
 have fa := F32_D a
 have fb := F32_D b
 have hmn : m ≤ n := by
  rcases Nat.lt_or_ge n m with h | h
  · have : a < b := M.lt_of_length (B := 4294967296) (by omega) (by unfold D at hl hm; omega)
    omega
  · exact h
 go_enter Tryd.func22, Tryd.ntmps22
 go_wp2_with fail
 go_loopw [5, 6, 7] (fun v cy i wr => ∃ (k : Nat) (os : List Nat) (cc : Nat), k ≤ n ∧ i = .int .i64 k ∧ cy = .int .u64 cc ∧ cc ≤ 1 ∧ wr.ownsRow w.heap.size 26 1 v k (U os) ∧ F32 os ∧ os.length = k ∧ X os + X ((D b).take k) = X ((D a).take k) + cc * 4294967296 ^ k ∧ Below w.heap.size w wr) (fun _ _ i _ => n - (intOf i).toNat)
 case atStart => exact ⟨0, [], 0, by omega, rfl, rfl, by omega, World.ownsRow_nil _ _ _ _, fun x hx => by simp at hx, rfl, by simp [X, M.val], Below.refl _ _⟩
 case round =>
  obtain ⟨k, os, cc, hk, rfl, rfl, hcc, hown, hf, hlen, hv, hbl⟩ := hrel
  have HV := hid hv; clear hv
  have HLen := hid hlen; clear hlen
  by_cases hlt : k < n
  · obtain ⟨b1, o1, hao, hcA⟩ := (hr.below hbl) (by omega)
    have hck := hcA k (by omega)
    clear hcA
    obtain ⟨x, hxx⟩ : ∃ x : Nat, x = (D a).getD k 0 := ⟨_, rfl⟩
    obtain ⟨y, hyy⟩ : ∃ y : Nat, y = (D b).getD k 0 := ⟨_, rfl⟩
    have hx1 := fa.get k
    have hy1 := fb.get k
    rw [← hxx] at hx1 hck
    rw [← hyy] at hy1
    have HX := hid hxx; clear hxx
    have HY := hid hyy; clear hyy
    have hlt' : (k : Int) < (n : Int) := by omega
    obtain ⟨s, hs0⟩ : ∃ s : Nat, s = 4294967296 + x - y - cc := ⟨_, rfl⟩
    have w2 : (4294967296 : Int) + (x : Int) - (y : Int) - (cc : Int) = (s : Int) := by omega
    have hlow : bits BinOp.and IntKind.u64 (s : Int) 4294967295 = ((s % 4294967296 : Nat) : Int) := by
     rw [and_low32 _ (by omega) (by omega)]; omega
    have hsb : s < 8589934592 := by omega
    obtain ⟨o, eo⟩ : ∃ o : Nat, o = s % 4294967296 := ⟨_, rfl⟩
    rw [← eo] at hlow
    obtain ⟨c', ec'⟩ : ∃ c' : Nat, c' = 1 - s / 4294967296 := ⟨_, rfl⟩
    have hsum : o + y + cc = x + 4294967296 * c' ∧ c' ≤ 1 ∧ o < 4294967296 ∧ (1 : Int) - (s : Int) / 4294967296 = (c' : Int) := by omega
    have E0 := hid hs0; have E1 := hid hsum; have E2 := hid eo; have E3 := hid ec'
    clear hs0 hsum eo ec'
    go_wp2_with fail
    go_quiet ((go_at_call 53; exact Calls.quiet_of_same (l1At_any bo _ d k (D b) _ hm (by omega) (by omega) (Rd.drewN (hr2.below hbl) _) y HY.out)))
    have hown2 : (wr.drewN nq).ownsRow w.heap.size 26 1 _ k (U os) := hown
    have hbl2 := below_drewN hbl nq
    generalize wr.drewN nq = wq at hown2 hbl2 ⊢
    clear hown hck
    go_wp2_with (at_builtin; refine wpList_append_own _ rfl _ _ 23 rfl w.heap.size 26 i0 (.int .u64 0) 1 8 Tryd.underlying23 hi hz0 hz1 hz2 rfl (by decide) _ _ _ rfl (hown2.alloc _) ⟨wq.heap.size, 0, none⟩ 1 1 (U [o]) rfl rfl ?c1 ?c2 ?c3 ?c4 ?c5 ?_)
    case c1 =>
     intro j u hj
     match j, hj with
     | 0, hj => simp [U] at hj; subst hj; simp [Addr.add]
    case c2 => exact U_one _
    case c3 => unfold maxLen; omega
    case c4 => omega
    case c5 => have := hbl2.size; simp; omega
    intro v' w1 hown' hgrow hnn
    clear hnn
    have hb1 : Below w.heap.size w w1 := (hbl2.alloc hbl2.size _).grown hgrow (by have := hbl2.size; simp; omega) (fun k' hk' => (hown2.lt k' hk').1)
    clear hown2 hgrow
    go_wp2_with fail
    go_roundw
    case rel =>
     have R : ∃ (k1 : Nat) (os1 : List Nat) (cc1 : Nat), k1 ≤ n ∧ Value.int .i64 ((k : Int) + 1) = .int .i64 k1 ∧ Value.int .u64 ((1 : Int) - (s : Int) / 4294967296) = .int .u64 cc1 ∧ cc1 ≤ 1 ∧ w1.ownsRow w.heap.size 26 1 v' k1 (U os1) ∧ F32 os1 ∧ os1.length = k1 ∧ X os1 + X ((D b).take k1) = X ((D a).take k1) + cc1 * 4294967296 ^ k1 ∧ Below w.heap.size w w1 := by
      refine ⟨k + 1, os ++ [o], c', by omega, by go_num, by rw [E1.out.2.2.2], E1.out.2.1, ?_, ?_, by simp [HLen.out], ?_, hb1⟩
      · rw [U_append]; exact hown'
      · intro z hz
        rcases List.mem_append.1 hz with hz | hz
        · exact hf z hz
        · simp at hz; have := E1.out.2.2.1; omega
      · unfold X at *
        rw [M.val_snoc, HLen.out, M.val_take_succ, M.val_take_succ, ← HX.out, ← HY.out, Nat.pow_succ]
        exact M.sub_place HV.out E1.out.1
     first | exact R | ((repeat apply Exists.intro); exact ⟨R, rfl⟩) | ((repeat apply Exists.intro); exact ⟨R, by rw [hao]⟩)
    case measure => simp [intOf]; omega
  · have e : k = n := by omega
    subst e
    have hfin : X os = a - b := by
     have h1 := HV.out
     rw [X_takeD a k (by omega), X_takeD b k (by omega)] at h1
     have h2 := M.val_lt (B := 4294967296) (by omega) os hf
     rw [HLen.out] at h2
     exact (M.no_borrow h1 h2 hba).2
    have hv := own_shape hown
    obtain ⟨ao1, cap1, hv⟩ := hv
    rw [hv]
    rw [hv] at hown
    clear hv
    have HF := hid hfin; clear hfin
    go_wp2_with fail
    have hrd := Rd.own hown
    refine (l1Trim_any 4294967296 (by omega) ao1 _ cap1 os _ HLen.out (own_cap hown) (by omega) hf hrd).mono ?_
    have hfin : M.val 4294967296 os = a - b := HF.out
    rw [hfin]
    rintro e w1 ⟨ao', cap', rfl, ho, hb⟩
    go_wp2_with fail
    go_ret
    exact ⟨ao', cap', rfl, own_base ho hbl.size, hbl.trans (hb.mono hbl.size)⟩

theorem cmpI_neg {a b : Nat} (h : a < b) : cmpI (a : Int) (b : Int) < 0 := by rw [cmpI_nat_lt h]; omega

theorem cmpI_nonneg {a b : Nat} (h : b ≤ a) : ¬ cmpI (a : Int) (b : Int) < 0 := by
 rcases Nat.lt_or_ge b a with h1 | h1
 · rw [cmpI_nat_gt h1]; omega
 · rw [cmpI_nat_eq (by omega)]; omega

theorem l1Add_any (ao bo : Option Addr) (n m c d : Nat) (a b : Nat) (w : World) (hl : (D a).length = n) (hm : (D b).length = m) (hn : n ≤ 2097152) (hn2 : m ≤ 2097152) (hr : Rd w ao (D a)) (hr2 : Rd w bo (D b)) :
 Calls Tryd.prog 19 #[.slice ao n c, .slice bo m d] w fun e w' => ∃ ao' cap', e = .returned (.slice ao' (D (a + b)).length cap') ∧ w'.ownsRow w.heap.size 26 1 (.slice ao' (D (a + b)).length cap') (D (a + b)).length (U (D (a + b))) ∧ Below w.heap.size w w' := by
 obtain ⟨i0, hi, hz0, hz1, hz2⟩ := info_parts Tryd.infoU
 have fa := F32_D a
 have fb := F32_D b
 obtain ⟨mx, hmx⟩ : ∃ mx : Nat, n ≤ mx ∧ m ≤ mx ∧ mx ≤ 2097152 ∧ (mx = n ∨ mx = m) := ⟨max n m, by omega⟩
 have hh : (n < m ∧ mx = m) ∨ (¬ n < m ∧ mx = n) := by omega
 rcases hh with ⟨hnm, rfl⟩ | ⟨hnm, rfl⟩
 all_goals
  go_enter Tryd.func19, Tryd.ntmps19
  go_wp2_with fail
  go_loopw [6, 7, 8] (fun v cy i wr => ∃ (k : Nat) (os : List Nat) (cc : Nat), k ≤ mx + 1 ∧ i = .int .i64 k ∧ cy = .int .u64 cc ∧ cc ≤ 1 ∧ wr.ownsRow w.heap.size 26 1 v k (U os) ∧ F32 os ∧ os.length = k ∧ X os + cc * 4294967296 ^ k = X ((D a).take k) + X ((D b).take k) ∧ Below w.heap.size w wr) (fun _ _ i _ => mx + 2 - (intOf i).toNat)
  case atStart => exact ⟨0, [], 0, by omega, rfl, rfl, by omega, World.ownsRow_nil _ _ _ _, fun x hx => by simp at hx, rfl, by simp [X, M.val], Below.refl _ _⟩
  case round =>
   obtain ⟨k, os, cc, hk, rfl, rfl, hcc, hown, hf, hlen, hv, hbl⟩ := hrel
   have HV := hid hv; clear hv
   have HLen := hid hlen; clear hlen
   by_cases hlt : k ≤ mx
   · obtain ⟨x, hxx⟩ : ∃ x : Nat, x = (D a).getD k 0 := ⟨_, rfl⟩
     obtain ⟨y, hyy⟩ : ∃ y : Nat, y = (D b).getD k 0 := ⟨_, rfl⟩
     have hx1 := fa.get k
     have hy1 := fb.get k
     rw [← hxx] at hx1
     rw [← hyy] at hy1
     have HX := hid hxx; clear hxx
     have HY := hid hyy; clear hyy
     have hlt' : (k : Int) ≤ (mx : Int) := by omega
     go_wp2_with fail
     refine (l1At_any ao _ c k (D a) _ hl (by omega) (by omega) (hr.below hbl) x HX.out).mono ?_
     rintro e w1 ⟨rfl, rfl⟩
     go_wp2_with fail
     refine (l1At_any bo _ d k (D b) _ hm (by omega) (by omega) (hr2.below hbl) y HY.out).mono ?_
     rintro e w2 ⟨rfl, rfl⟩
     have hlow : bits BinOp.and IntKind.u64 ((x : Int) + (y : Int) + (cc : Int)) 4294967295 = (((x + y + cc) % 4294967296 : Nat) : Int) := by
      rw [and_low32 _ (by omega) (by omega)]; omega
     go_wp2_with (at_builtin; refine wpList_append_own _ rfl _ _ 23 rfl w.heap.size 26 i0 (.int .u64 0) 1 8 Tryd.underlying23 hi hz0 hz1 hz2 rfl (by decide) _ _ _ rfl (hown.alloc _) ⟨w2.heap.size, 0, none⟩ 1 1 (U [(x + y + cc) % 4294967296]) rfl rfl ?c1 ?c2 ?c3 ?c4 ?c5 ?_)
     case c1 =>
      intro j u hj
      match j, hj with
      | 0, hj => simp [U] at hj; subst hj; simp [Addr.add]
     case c2 => exact U_one _
     case c3 => unfold maxLen; omega
     case c4 => omega
     case c5 => have := hbl.size; simp; omega
     intro v' w1 hown' hgrow hnn
     clear hnn
     have hb1 : Below w.heap.size w w1 := (hbl.alloc hbl.size _).grown hgrow (by have := hbl.size; simp; omega) (fun k' hk' => (hown.lt k' hk').1)
     clear hown hgrow
     go_wp2_with fail
     go_roundw
     case rel =>
      have R : ∃ (k1 : Nat) (os1 : List Nat) (cc1 : Nat), k1 ≤ mx + 1 ∧ Value.int .i64 ((k : Int) + 1) = .int .i64 k1 ∧ Value.int .u64 (((x : Int) + (y : Int) + (cc : Int)) / 4294967296) = .int .u64 cc1 ∧ cc1 ≤ 1 ∧ w1.ownsRow w.heap.size 26 1 v' k1 (U os1) ∧ F32 os1 ∧ os1.length = k1 ∧ X os1 + cc1 * 4294967296 ^ k1 = X ((D a).take k1) + X ((D b).take k1) ∧ Below w.heap.size w w1 := by
       refine ⟨k + 1, os ++ [(x + y + cc) % 4294967296], (x + y + cc) / 4294967296, by omega, by go_num, by go_num, by omega, ?_, ?_, by simp [HLen.out], ?_, hb1⟩
       · rw [U_append]; exact hown'
       · intro z hz
         rcases List.mem_append.1 hz with hz | hz
         · exact hf z hz
         · simp at hz; omega
       · unfold X at *
         rw [M.val_snoc, HLen.out, M.val_take_succ, M.val_take_succ, ← HX.out, ← HY.out, Nat.pow_succ]
         exact M.add_place HV.out (by omega)
      first | exact R | ((repeat apply Exists.intro); exact ⟨R, rfl⟩)
     case measure => simp [intOf]; omega
   · have e : k = mx + 1 := by omega
     have hfin : X os = a + b := by
      have h1 := HV.out
      rw [X_takeD a k (by omega), X_takeD b k (by omega)] at h1
      have h2 := D_lt a mx (by omega)
      have h3 := D_lt b mx (by omega)
      refine (M.no_carry h1 ?_).2
      rw [e, Nat.pow_succ]; omega
     have hv := own_shape hown
     obtain ⟨ao1, cap1, hv⟩ := hv
     rw [hv]
     rw [hv] at hown
     have hlt' : ¬ (k : Int) ≤ (mx : Int) := by omega
     clear e hv
     have HF := hid hfin; clear hfin
     go_wp2_with fail
     have hrd := Rd.own hown
     refine (l1Trim_any 4294967296 (by omega) ao1 _ cap1 os _ HLen.out (own_cap hown) (by omega) hf hrd).mono ?_
     have hfin : M.val 4294967296 os = a + b := HF.out
     rw [hfin]
     rintro e w1 ⟨ao', cap', rfl, ho, hb⟩
     go_wp2_with fail
     go_ret
     exact ⟨ao', cap', rfl, own_base ho hbl.size, hbl.trans (hb.mono hbl.size)⟩

theorem V2 (l h : Nat) : V [l, h] = h * 18446744073709551616 + l := by simp [V, M.val]; omega

theorem l2Of_any (X : Nat) (hX : X < 2 ^ 128) (w : World) :
 Calls Tryd.prog 45 #[.agg #[.int .u64 (M.hiN X : Int), .int .u64 (M.loN X : Int)]] w fun e w' => Ret w w' e (D X) := by
 have hv : V [M.loN X, M.hiN X] = X := by rw [V2]; exact (M.hl X).symm
 have hf : F64 [M.loN X, M.hiN X] := by intro y hy; simp at hy; have := M.loLt X; have := M.hiLt hX; omega
 generalize M.hiN X = h at *
 generalize M.loN X = l at *
 have HV := hid hv; clear hv
 obtain ⟨w1, hw1⟩ : ∃ w1, w1 = w.alloc (.cells #[.int .u64 (h : Int), .int .u64 (l : Int)] 28) := ⟨_, rfl⟩
 have hB := blk_lit w1 [l, h]
 have b0 : Below w.heap.size w w1 := by rw [hw1]; exact (Below.refl _ _).alloc (Nat.le_refl _) _
 have hb : Below w1.heap.size w1 (w1.alloc (.cells (U [l, h]).toArray 26)) := (Below.refl _ _).alloc (Nat.le_refl _) _
 have hU : (U [l, h]).toArray = #[Value.int .u64 (l : Int), Value.int .u64 (h : Int)] := rfl
 rw [hU] at hB hb
 have hsz : w1.heap.size = w.heap.size + 1 := by rw [hw1]; simp
 rw [hw1] at hB hb b0
 rw [hw1] at hsz
 rw [hsz] at hB
 clear hU hw1
 go_enter Tryd.func45, Tryd.ntmps45
 go_wp2_with fail
 refine (l1In_any _ 2 2 [l, h] _ rfl (by omega) hf hB.rd0).mono ?_
 rw [HV.out]
 rintro e w2 ⟨ao', cap', rfl, ho, hb'⟩
 go_wp2_with fail
 go_ret
 have b1 := b0.trans (hb.mono b0.size)
 exact ⟨ao', cap', rfl, own_base ho b1.size, b1.trans (hb'.mono b1.size)⟩

theorem l2Low_any (ao : Option Addr) (n c s : Nat) (a : Nat) (w : World) (hl : (D a).length = n) (hn : n ≤ 64) (hs : s ≤ 128) (hr : Rd w ao (D a)) :
 Calls Tryd.prog 47 #[.slice ao n c, .int .i64 (s : Int)] w fun e w' => Ret w w' e (D (a % 2 ^ s)) := by
 have hle : a / 2 ^ s * 2 ^ s ≤ a := Nat.div_mul_le_self _ _
 have hsub : a - a / 2 ^ s * 2 ^ s = a % 2 ^ s := by
  have := Nat.div_add_mod a (2 ^ s)
  rw [Nat.mul_comm] at this
  omega
 have hq : (D (a / 2 ^ s)).length ≤ n := by
  rw [← hl]; exact M.len_of_lt (by omega) _ _ (Nat.lt_of_le_of_lt (Nat.div_le_self _ _) (M.lt_dig (by omega) a))
 have HS := hid hsub; have HLE := hid hle
 obtain ⟨q, hqd⟩ : ∃ q, q = a / 2 ^ s := ⟨_, rfl⟩
 rw [← hqd] at hq HS HLE
 have HQ := hid hqd
 clear hsub hle hqd
 go_enter Tryd.func47, Tryd.ntmps47
 go_wp2_with fail
 refine (l1Right_any ao n c s a _ hl (by omega) (by omega) hr).mono ?_
 rw [← HQ.out]
 rintro e w1 ⟨ao1, cap1, rfl, ho1, hb1⟩
 go_wp2_with fail
 refine (l1Left_any ao1 _ cap1 s q _ rfl (by omega) (by omega) (Rd.own ho1)).mono ?_
 rintro e w2 ⟨ao2, cap2, rfl, ho2, hb2⟩
 have b2 := hb1.trans (hb2.mono hb1.size)
 go_wp2_with fail
 refine (l1Sub_any ao ao2 n _ c cap2 a (q * 2 ^ s) _ hl rfl HLE.out (by omega) (hr.below b2) (Rd.own ho2)).mono ?_
 rw [HS.out]
 rintro e w3 ⟨ao3, cap3, rfl, ho3, hb3⟩
 go_wp2_with fail
 go_ret
 exact ⟨ao3, cap3, rfl, own_base ho3 b2.size, b2.trans (hb3.mono b2.size)⟩

theorem l2Two_any (s : Nat) (w : World) (hs : s ≤ 128) :
 Calls Tryd.prog 50 #[.int .i64 (s : Int)] w fun e w' => Ret w w' e (D (2 ^ s)) := by
 go_enter Tryd.func50, Tryd.ntmps50
 go_wp2_with fail
 refine (l1Of_any 1 _ (by omega)).mono ?_
 rintro e w1 ⟨ao1, cap1, rfl, ho1, hb1⟩
 have hl : (D 1).length ≤ 6 := D_small 1 (by omega)
 go_wp2_with fail
 refine (l1Left_any ao1 _ cap1 s 1 _ rfl (by omega) (by omega) (Rd.own ho1)).mono ?_
 rw [Nat.one_mul]
 rintro e w2 ⟨ao2, cap2, rfl, ho2, hb2⟩
 go_wp2_with fail
 go_ret
 exact ⟨ao2, cap2, rfl, own_base ho2 hb1.size, hb1.trans (hb2.mono hb1.size)⟩

theorem and1 (y : Nat) (h : y < 18446744073709551616) : bits BinOp.and IntKind.u64 (y : Int) 1 = ((y % 2 : Nat) : Int) := by
 have := u64_and_nat y 1 h (by omega)
 rw [show ((1 : Nat) : Int) = 1 from rfl, Nat.and_one_is_mod] at this
 exact this

theorem bit_digit (a i : Nat) : (D a).getD (i / 32) 0 / 2 ^ (i % 32) % 2 = a / 2 ^ i % 2 := by
 rw [D_get, show (4294967296 : Nat) = 2 ^ 32 from rfl, ← Nat.pow_mul]
 have e : 2 ^ 32 = 2 ^ (i % 32) * (2 * 2 ^ (31 - i % 32)) := by
  rw [← Nat.pow_succ', ← Nat.pow_add]; congr 1; omega
 rw [e, Nat.mod_mul_right_div_self, Nat.mod_mul_right_mod, Nat.div_div_eq_div_mul, ← Nat.pow_add]
 congr 2
 have := Nat.div_add_mod i 32
 rw [this]

theorem l1Bit_any (ao : Option Addr) (n c i : Nat) (a : Nat) (w : World) (hl : (D a).length = n) (hn : n ≤ 64) (hi : i ≤ 200) (hr : Rd w ao (D a)) (b : Nat) (hb : b = a / 2 ^ i % 2) :
 Calls Tryd.prog 48 #[.slice ao n c, .int .i64 (i : Int)] w fun e w' => e = .returned (.int .u64 (b : Int)) ∧ w' = w := by
 obtain ⟨q, hq⟩ : ∃ q : Nat, q = i / 32 := ⟨_, rfl⟩
 obtain ⟨p, hp⟩ : ∃ p : Nat, p = i % 32 := ⟨_, rfl⟩
 have hqI : (i : Int) / 32 = (q : Int) := by omega
 have hpI : (i : Int) % 32 = (p : Int) := by omega
 have hpb : p < 32 := by omega
 have hqb : q ≤ 200 := by omega
 obtain ⟨x, hx⟩ : ∃ x : Nat, x = (D a).getD q 0 := ⟨_, rfl⟩
 have hxl : x < 4294967296 := by rw [hx]; exact (F32_D a).get q
 have hd := bit_digit a i
 rw [← hq, ← hp, ← hx, ← hb] at hd
 have hdc := div_cast x p
 have hle : x / 2 ^ p ≤ x := Nat.div_le_self _ _
 have ha := and1 (x / 2 ^ p) (by omega)
 rw [hd, ← hdc] at ha
 have HX := hid hx
 clear hq hp hx hd hdc hle hb
 go_enter Tryd.func48, Tryd.ntmps48
 go_wp2_with fail
 refine (l1At_any ao _ c q (D a) _ hl (by omega) (by omega) hr x HX.out).mono ?_
 rintro e w2 ⟨rfl, rfl⟩
 go_wp2_with fail
 go_ret
 exact ⟨rfl, rfl⟩

end Go.Proofs.YtogkkecnmlnajaaDoor
