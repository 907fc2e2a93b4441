import Derived.Test.YtchfkmompciooabW8b
import Derived.Test.YtchfkmompciooabCom
import Derived.Test.YtchfkmompciooabShM
namespace Go.Proofs.Ytchfkmompciooab
open Go.RowKit
set_option linter.unusedVariables false

theorem pow_cast (p : Nat) : ((2 : Int) ^ p) = ((2 ^ p : Nat) : Int) := by simp

theorem or_comm_nat (a b : Nat) (ha : a < 18446744073709551616) (hb : b < 18446744073709551616) : bits BinOp.or IntKind.u64 (a : Int) (b : Int) = ((b ||| a : Nat) : Int) := by
  rw [u64_or_nat a b ha hb, Nat.or_comm]

/-- 'limb<<p | carry', the word that is kept. -/
theorem shl_word (x p cc : Nat) (hp : p < 64) (hx : x < 18446744073709551616) (hc : cc < 2 ^ p) :
    bits BinOp.or IntKind.u64 (IntKind.u64.wrap ((x : Int) * 2 ^ p)) (cc : Int) = ((cc + x % 2 ^ (64 - p) * 2 ^ p : Nat) : Int) := by
  have hKP : 2 ^ (64 - p) * 2 ^ p = 18446744073709551616 := M.pow_split p 64 (by omega)
  have hb := (M.shl_place (K := 2 ^ (64 - p)) (P := 2 ^ p) (x := x) (cc := cc) (Nat.pow_pos (by omega)) (Nat.pow_pos (by omega)) (by omega) hc).2.1
  have e1 : IntKind.u64.wrap ((x : Int) * 2 ^ p) = ((x % 2 ^ (64 - p) * 2 ^ p : Nat) : Int) := by
    rw [pow_cast, ← Int.natCast_mul, wrapU, ← hKP, Nat.mul_mod_mul_right]
  rw [e1, or_comm_nat _ _ (by omega) (by omega), or_nat cc _ p hc]

theorem div_cast (x k : Nat) : (x : Int) / 2 ^ k = ((x / 2 ^ k : Nat) : Int) := by
  rw [pow_cast]; exact (Int.natCast_ediv x (2 ^ k)).symm

set_option maxHeartbeats 1000000 in
theorem shiftLeft_any (ao : Option Addr) (n c s : Nat) (a : Nat) (w : World) (hl : (L a).length = n) (hn : n ≤ 1048576) (hs : s ≤ 100000) (hr : Rd w ao (L a)) :
    Calls Try.prog 37 #[.slice ao n c, .int .i64 (s : Int)] w fun e w' => Ret w w' e (L (a * 2 ^ s)) := by
  obtain ⟨i0, hi, hz0, hz1, hz2⟩ := info_parts Try.infoU
  obtain ⟨q, hq⟩ : ∃ q : Nat, q = s / 64 := ⟨_, rfl⟩
  obtain ⟨p, hp⟩ : ∃ p : Nat, p = s % 64 := ⟨_, rfl⟩
  have hqI : (s : Int) / 64 = (q : Int) := by omega
  have hpI : (s : Int) % 64 = (p : Int) := by omega
  have hpb : p < 64 := by omega
  have hqb : q ≤ 100000 := by omega
  have HQ := hid hq; clear hq
  have HP := hid hp; clear hp
  have hmk := fun (wx : World) => run_make (P := Try.prog) wx 41 34 i0 (.int .u64 0) Try.underlying41 hi hz0 .i64 .i64 ((q + n + 1 : Nat) : Int) ((q + n + 1 : Nat) : Int) (by omega) (Int.le_refl _) (by rw [hz2]; omega) (by omega)
  have es : ((q + n + 1 : Nat) : Int) = (q : Int) + (n : Int) + 1 := by omega
  rw [es] at hmk
  have et : ((q : Int) + (n : Int) + 1).toNat = q + n + 1 := by omega
  rw [et] at hmk
  clear es et
  have fa := F64_L a
  go_enter Try.func37, Try.ntmps37
  go_wp2_with fail
  go_loopw [8, 23] (fun cy i wr => ∃ (k : Nat) (cur : List Nat) (cc : Nat), k ≤ n ∧ i = .int .i64 k ∧ cy = .int .u64 cc ∧ cc < 2 ^ p ∧ Blk wr w.heap.size cur ∧ cur.length = q + n + 1 ∧ F64 cur ∧ (∀ j, q + k ≤ j → cur.getD j 0 = 0) ∧ V cur + cc * 18446744073709551616 ^ (q + k) = (18446744073709551616 ^ q * 2 ^ p) * V ((L a).take k) ∧ Below w.heap.size w wr) (fun _ i _ => n - (intOf i).toNat)
  case atStart =>
    refine ⟨0, List.replicate (q + n + 1) 0, 0, by omega, rfl, rfl, Nat.pow_pos (by omega), blk_made w (q + n + 1), by simp, fun x hx => by simp at hx; omega, fun j _ => ?_, ?_, (Below.refl _ _).alloc (Nat.le_refl _) _⟩
    · rw [List.getD_eq_getElem?_getD, List.getElem?_replicate]; split <;> rfl
    · unfold V; rw [M.val_replicate]; simp [M.val]
  case round =>
    obtain ⟨k, cur, cc, hk, rfl, rfl, hcc, hBk, hcl, hcf, hz, hv, hbl⟩ := hrel
    clear hmk
    have HZ := hid hz; clear hz
    have HV := hid hv; clear hv
    have HCL := hid hcl; clear hcl
    by_cases hlt : k < n
    · obtain ⟨b2, o2, hbo, hc2⟩ := (hr.below hbl) (by omega)
      have hck := hc2 k (by omega)
      clear hc2
      have hx1 := fa.get k
      obtain ⟨x, hxx⟩ : ∃ x : Nat, x = (L a).getD k 0 := ⟨_, rfl⟩
      rw [← hxx] at hck hx1
      have HX := hid hxx; clear hxx
      have hlt' : (k : Int) < (n : Int) := by omega
      have hltq : (q : Int) + (k : Int) < ((q + n + 1 : Nat) : Int) := by omega
      have hcs := hBk.cell (q + k) (by have := HCL.out; omega)
      rw [HZ.out (q + k) (by omega)] at hcs
      have hfs := hBk.frozen (q + k)
      have hKP : 2 ^ (64 - p) * 2 ^ p = 18446744073709551616 := M.pow_split p 64 (by omega)
      have hpl := M.shl_place (K := 2 ^ (64 - p)) (P := 2 ^ p) (x := x) (cc := cc) (Nat.pow_pos (by omega)) (Nat.pow_pos (by omega)) (by omega) hcc
      rw [hKP] at hpl
      have hwo := shl_word x p cc hpb hx1 hcc
      have hwc := div_cast x (64 - p)
      obtain ⟨o, eo⟩ : ∃ o : Nat, o = cc + x % 2 ^ (64 - p) * 2 ^ p := ⟨_, rfl⟩
      obtain ⟨c', ec'⟩ : ∃ c' : Nat, c' = x / 2 ^ (64 - p) := ⟨_, rfl⟩
      rw [← eo] at hwo hpl
      rw [← ec'] at hpl hwc
      have HPL := hid hpl; clear hpl hKP eo ec'
      clear hcc
      have HB := hid hBk; clear hBk
      go_wp2_with fail
      go_roundw
      case rel =>
        have R : ∃ (k1 : Nat) (cur1 : List Nat) (cc1 : Nat), k1 ≤ n ∧ Value.int .i64 ((k : Int) + 1) = .int .i64 k1 ∧ Value.int .u64 (c' : Int) = .int .u64 cc1 ∧ cc1 < 2 ^ p ∧ Blk (wr.setCell ⟨w.heap.size, q + k, none⟩ (.int .u64 (o : Int))) w.heap.size cur1 ∧ cur1.length = q + n + 1 ∧ F64 cur1 ∧ (∀ j, q + k1 ≤ j → cur1.getD j 0 = 0) ∧ V cur1 + cc1 * 18446744073709551616 ^ (q + k1) = (18446744073709551616 ^ q * 2 ^ p) * V ((L a).take k1) ∧ Below w.heap.size w (wr.setCell ⟨w.heap.size, q + k, none⟩ (.int .u64 (o : Int))) := by
          refine ⟨k + 1, cur.set (q + k) o, c', by omega, by go_num, rfl, HPL.out.2.2, HB.out.set _ _ _ rfl, by rw [List.length_set]; exact HCL.out, ?_, ?_, ?_, hbl.setCell (Nat.le_refl _) _⟩
          · intro v hv
            rcases List.mem_or_eq_of_mem_set hv with hv | rfl
            · exact hcf v hv
            · exact HPL.out.2.1
          · intro j hj
            rw [M.getD_set_ne _ _ _ _ (by omega)]; exact HZ.out j (by omega)
          · have e2 := M.val_set 18446744073709551616 (q + k) cur o (by have := HCL.out; omega)
            rw [HZ.out (q + k) (by omega), Nat.mul_zero, Nat.add_zero] at e2
            have e3 := HV.out
            unfold V at *
            rw [M.val_take_succ, ← HX.out, show q + (k + 1) = q + k + 1 by omega, Nat.pow_succ]
            rw [Nat.pow_add] at e2 e3 ⊢
            exact M.shl_over e3 e2 HPL.out.1
        first | exact R | ((repeat apply Exists.intro); exact ⟨R, rfl⟩) | ((repeat apply Exists.intro); exact ⟨R, by rw [hbo]⟩)
      case measure => simp [intOf]; omega
    · have e : k = n := by omega
      subst e
      have hcs := hBk.cell (q + k) (by have := HCL.out; omega)
      rw [HZ.out (q + k) (by omega)] at hcs
      have hfs := hBk.frozen (q + k)
      have hlt' : ¬ (k : Int) < (k : Int) := by omega
      have hltq : (q : Int) + (k : Int) < ((q + k + 1 : Nat) : Int) := by omega
      have hpp : 2 ^ p ≤ 2 ^ 64 := Nat.pow_le_pow_right (by omega) (by omega)
      have hccb : cc < 18446744073709551616 := by omega
      clear hpp
      have HB := hid hBk; clear hBk
      have HCB := hid hccb; clear hccb hcc
      go_wp2_with fail
      have hB2 : Blk (wr.setCell ⟨w.heap.size, q + k, none⟩ (.int .u64 (cc : Int))) w.heap.size (cur.set (q + k) cc) := HB.out.set _ _ _ rfl
      have hb2 : Below w.heap.size w (wr.setCell ⟨w.heap.size, q + k, none⟩ (.int .u64 (cc : Int))) := hbl.setCell (Nat.le_refl _) _
      have hf2 : F64 (cur.set (q + k) cc) := by
        intro v hv
        rcases List.mem_or_eq_of_mem_set hv with hv | rfl
        · exact hcf v hv
        · exact HCB.out
      have hfin : V (cur.set (q + k) cc) = a * 2 ^ s := by
        have e2 := M.val_set 18446744073709551616 (q + k) cur cc (by have := HCL.out; omega)
        rw [HZ.out (q + k) (by omega), Nat.mul_zero, Nat.add_zero] at e2
        have e3 := HV.out
        rw [List.take_of_length_le (by omega), V_L] at e3
        unfold V at *
        rw [e2, Nat.mul_comm (18446744073709551616 ^ (q + k)) cc, e3, show (18446744073709551616 : Nat) = 2 ^ 64 from rfl, ← Nat.pow_mul, ← Nat.pow_add, Nat.mul_comm]
        congr 2
        have := HQ.out; have := HP.out; omega
      generalize wr.setCell ⟨w.heap.size, q + k, none⟩ (.int .u64 (cc : Int)) = w2 at hB2 hb2 ⊢
      refine (trim_any _ (q + k + 1) (q + k + 1) _ _ (by rw [List.length_set]; exact HCL.out) (Nat.le_refl _) (by omega) hf2 hB2.rd0).mono ?_
      rw [hfin]
      rintro e w3 ⟨rfl, rfl⟩
      go_wp2_with fail
      go_ret
      have h1 := L_len _ hf2
      have h2 := L_take _ hf2
      rw [hfin] at h1 h2
      have h3 := hB2.ownPre (base := w.heap.size) (c := q + k + 1) (Nat.le_refl _) h1 (by rw [List.length_set]; exact HCL.out) (by unfold maxLen; omega)
      rw [h2] at h3
      exact ⟨_, _, rfl, h3, hb2⟩

/-- 'limb>>p | carry' and the carry below it. -/
theorem shr_word (x p t : Nat) (hp : p < 64) (hx : x < 18446744073709551616) (ht : t < 2 ^ p) :
    bits BinOp.or IntKind.u64 ((x : Int) / 2 ^ p) ((t * 2 ^ (64 - p) : Nat) : Int) = ((x / 2 ^ p + t * 2 ^ (64 - p) : Nat) : Int) := by
  have hKP : 2 ^ (64 - p) * 2 ^ p = 18446744073709551616 := M.pow_split p 64 (by omega)
  have h1 : x / 2 ^ p < 2 ^ (64 - p) := Nat.div_lt_of_lt_mul (by rw [Nat.mul_comm]; omega)
  have h2 : t * 2 ^ (64 - p) < 18446744073709551616 := by
    have : t * 2 ^ (64 - p) < 2 ^ p * 2 ^ (64 - p) := Nat.mul_lt_mul_of_pos_right ht (Nat.pow_pos (by omega))
    rw [Nat.mul_comm (2 ^ p)] at this
    omega
  have h3 : x / 2 ^ p ≤ x := Nat.div_le_self _ _
  rw [div_cast, u64_or_nat _ _ (by omega) h2, or_nat _ _ _ h1]

theorem shl_carry (x p : Nat) (hp : p < 64) : IntKind.u64.wrap ((x : Int) * 2 ^ (64 - p)) = ((x % 2 ^ p * 2 ^ (64 - p) : Nat) : Int) := by
  have hKP : 2 ^ p * 2 ^ (64 - p) = 18446744073709551616 := by rw [Nat.mul_comm]; exact M.pow_split p 64 (by omega)
  rw [pow_cast, ← Int.natCast_mul, wrapU, ← hKP, Nat.mul_mod_mul_right]

theorem V_drop (xs : List Nat) (k : Nat) (h : k < xs.length) : V (xs.drop k) = xs.getD k 0 + 18446744073709551616 * V (xs.drop (k + 1)) := by
  rw [List.drop_eq_getElem_cons h]
  unfold V
  rw [M.val, List.getD_eq_getElem?_getD, List.getElem?_eq_getElem h]
  rfl

set_option maxHeartbeats 1000000 in
theorem shiftRight_any (ao : Option Addr) (n c s : Nat) (a : Nat) (w : World) (hl : (L a).length = n) (hc : n ≤ c) (hn : n ≤ 1048576) (hs : s ≤ 100000) (hr : Rd w ao (L a)) :
    Calls Try.prog 36 #[.slice ao n c, .int .i64 (s : Int)] w fun e w' => Ret w w' e (L (a / 2 ^ s)) := by
  obtain ⟨q, hq⟩ : ∃ q : Nat, q = s / 64 := ⟨_, rfl⟩
  obtain ⟨p, hp⟩ : ∃ p : Nat, p = s % 64 := ⟨_, rfl⟩
  have hqI : (s : Int) / 64 = (q : Int) := by omega
  have hpI : (s : Int) % 64 = (p : Int) := by omega
  have hpb : p < 64 := by omega
  have hqb : q ≤ 100000 := by omega
  have HQ := hid hq; clear hq
  have HP := hid hp; clear hp
  have fa := F64_L a
  have hsq : 2 ^ s = 18446744073709551616 ^ q * 2 ^ p := by
    rw [show (18446744073709551616 : Nat) = 2 ^ 64 from rfl, ← Nat.pow_mul, ← Nat.pow_add]
    congr 1
    have := HQ.out; have := HP.out; omega
  have HSQ := hid hsq; clear hsq
  by_cases hqn : n ≤ q
  · have hz : a / 2 ^ s = 0 := by
      apply Nat.div_eq_of_lt
      have h1 := L_lt a q (by omega)
      rw [HSQ.out]
      exact Nat.lt_of_lt_of_le h1 (Nat.le_mul_of_pos_right _ (Nat.pow_pos (by omega)))
    rw [hz, show L 0 = [] from M.dig_zero _]
    clear hz
    go_enter Try.func36, Try.ntmps36
    go_wp2_with fail
    go_ret
    exact Ret.nil (Below.refl _ _)
  · have hqn' : ¬ (n : Int) ≤ (q : Int) := by omega
    obtain ⟨b0, o0, hao, hcl⟩ := hr (by omega)
    have hrd : Rd w (some ⟨b0, o0 + q, none⟩) ((L a).drop q) := by
      intro hp
      refine ⟨b0, o0 + q, rfl, fun i hi => ?_⟩
      have := hcl (q + i) (by simp at hi; omega)
      rw [Nat.add_assoc, this]
      simp [List.getD_eq_getElem?_getD]
    have hdl : ((L a).drop q).length = n - q := by simp [hl]
    have hne : ¬ c = q := by omega
    have fd : F64 ((L a).drop q) := fun x hx => fa x (List.mem_of_mem_drop hx)
    have hvd : V ((L a).drop q) = a / 18446744073709551616 ^ q := by
      have h1 := M.val_append 18446744073709551616 ((L a).take q) ((L a).drop q)
      rw [List.take_append_drop] at h1
      have h2 : ((L a).take q).length = q := by simp; omega
      have h3 := M.val_lt (B := 18446744073709551616) (by omega) ((L a).take q) (fun x hx => fa x (List.mem_of_mem_take hx))
      rw [h2] at h1 h3
      have h4 : a = M.val 18446744073709551616 ((L a).take q) + 18446744073709551616 ^ q * V ((L a).drop q) := by
        conv => lhs; rw [← V_L a]
        exact h1
      conv => rhs; rw [h4]
      rw [Nat.add_mul_div_left _ _ (Nat.pow_pos (by omega)), Nat.div_eq_of_lt h3, Nat.zero_add]
    obtain ⟨xs, hxs⟩ : ∃ xs, xs = (L a).drop q := ⟨_, rfl⟩
    rw [← hxs] at hrd hdl fd hvd
    clear hxs hcl
    obtain ⟨m, hm⟩ : ∃ m, m = n - q := ⟨_, rfl⟩
    have hmI : n - q = m := hm.symm
    rw [hmI] at hdl
    have hmb : m ≤ 1048576 := by omega
    have HVD := hid hvd; clear hvd
    have HDL := hid hdl; clear hdl
    clear hm
    go_enter Try.func36, Try.ntmps36
    go_wp2_with fail
    refine (clone_any _ m (c - q) 0 xs _ HDL.out (by omega) (by omega) hrd).mono ?_
    rw [List.replicate_zero, List.append_nil]
    rintro e w1 ⟨rfl, hB1, hb1⟩
    have HB1 := hid hB1; clear hB1
    have Hb1 := hid hb1; clear hb1
    go_wp2_with fail
    go_loopw [8, 9] (fun cy i wr => ∃ (k : Nat) (cur : List Nat), k ≤ m ∧ i = .int .i64 ((k : Int) - 1) ∧ cy = .int .u64 ((V (xs.drop k) % 2 ^ p * 2 ^ (64 - p) : Nat) : Int) ∧ Blk wr w.heap.size cur ∧ cur.length = m ∧ F64 cur ∧ (∀ j, j < k → cur.getD j 0 = xs.getD j 0) ∧ V (cur.drop k) = V (xs.drop k) / 2 ^ p ∧ Below w.heap.size w wr) (fun _ i _ => (intOf i + 1).toNat)
    case atStart =>
      refine ⟨m, xs, by omega, by go_num, ?_, HB1.out, HDL.out, fd, fun _ _ => rfl, ?_, Hb1.out⟩
      · rw [List.drop_of_length_le (by have := HDL.out; omega)]; simp [V, M.val]
      · rw [List.drop_of_length_le (by have := HDL.out; omega)]; simp [V, M.val]
    case round =>
      obtain ⟨k, cur, hk, rfl, rfl, hBk, hcl, hcf, hz, hv, hbl⟩ := hrel
      have HZ := hid hz; clear hz
      have HV := hid hv; clear hv
      have HCL := hid hcl; clear hcl
      by_cases hlt : 0 < k
      · obtain ⟨k, rfl⟩ : ∃ k', k = k' + 1 := ⟨k - 1, by omega⟩
        have e1 : (((k + 1 : Nat) : Int) - 1) = (k : Int) := by omega
        rw [e1]
        have hcs := hBk.cell k (by have := HCL.out; omega)
        have hfs := hBk.frozen k
        rw [HZ.out k (by omega)] at hcs
        have hx1 : xs.getD k 0 < 18446744073709551616 := F64.get fd k
        obtain ⟨x, hxx⟩ : ∃ x : Nat, x = xs.getD k 0 := ⟨_, rfl⟩
        rw [← hxx] at hcs hx1
        have HX := hid hxx; clear hxx
        obtain ⟨T, hT⟩ : ∃ T : Nat, T = V (xs.drop (k + 1)) := ⟨_, rfl⟩
        rw [← hT]
        have hKP : 2 ^ (64 - p) * 2 ^ p = 18446744073709551616 := M.pow_split p 64 (by omega)
        have hwo := shr_word x p (T % 2 ^ p) hpb hx1 (Nat.mod_lt _ (Nat.pow_pos (by omega)))
        have hwc := shl_carry x p hpb
        have hpl := M.shr_place (K := 2 ^ (64 - p)) (P := 2 ^ p) (x := x) (T := T) (Nat.pow_pos (by omega)) (Nat.pow_pos (by omega))
        have hob := M.shr_lt (K := 2 ^ (64 - p)) (P := 2 ^ p) (x := x) (T := T) (Nat.pow_pos (by omega)) (by omega)
        rw [Nat.mul_comm (2 ^ p) (2 ^ (64 - p)), hKP] at hob
        rw [hKP] at hpl
        obtain ⟨o, eo⟩ : ∃ o : Nat, o = x / 2 ^ p + T % 2 ^ p * 2 ^ (64 - p) := ⟨_, rfl⟩
        rw [← eo] at hwo hpl hob
        obtain ⟨ci, eci⟩ : ∃ ci : Nat, ci = T % 2 ^ p * 2 ^ (64 - p) := ⟨_, rfl⟩
        rw [← eci] at hwo ⊢
        obtain ⟨c', ec'⟩ : ∃ c' : Nat, c' = x % 2 ^ p * 2 ^ (64 - p) := ⟨_, rfl⟩
        rw [← ec'] at hwc
        have HPL := hid hpl; have HOB := hid hob; have HT := hid hT; have HC' := hid ec'
        clear hpl hob hKP eo eci ec' hT
        have HB := hid hBk; clear hBk
        have hltk : (k : Int) < (m : Int) := by omega
        go_wp2_with fail
        go_roundw
        case rel =>
          have R : ∃ (k1 : Nat) (cur1 : List Nat), k1 ≤ m ∧ Value.int .i64 ((k : Int) - 1) = .int .i64 ((k1 : Int) - 1) ∧ Value.int .u64 (c' : Int) = .int .u64 ((V (xs.drop k1) % 2 ^ p * 2 ^ (64 - p) : Nat) : Int) ∧ Blk (wr.setCell ⟨w.heap.size, k, none⟩ (.int .u64 (o : Int))) w.heap.size cur1 ∧ cur1.length = m ∧ F64 cur1 ∧ (∀ j, j < k1 → cur1.getD j 0 = xs.getD j 0) ∧ V (cur1.drop k1) = V (xs.drop k1) / 2 ^ p ∧ Below w.heap.size w (wr.setCell ⟨w.heap.size, k, none⟩ (.int .u64 (o : Int))) := by
            have hd := V_drop xs k (by have := HDL.out; omega)
            rw [← HX.out, ← HT.out] at hd
            refine ⟨k, cur.set k o, by omega, rfl, ?_, HB.out.set _ _ _ rfl, by rw [List.length_set]; exact HCL.out, ?_, ?_, ?_, hbl.setCell (Nat.le_refl _) _⟩
            · rw [hd, HPL.out.2, HC'.out]
            · intro v hv
              rcases List.mem_or_eq_of_mem_set hv with hv | rfl
              · exact hcf v hv
              · exact HOB.out
            · intro j hj
              rw [M.getD_set_ne _ _ _ _ (by omega)]; exact HZ.out j (by omega)
            · rw [V_drop _ k (by rw [List.length_set]; have := HCL.out; omega), M.getD_set_eq _ _ _ (by have := HCL.out; omega), List.drop_set_of_lt (by omega), HV.out, hd, ← HT.out]
              exact HPL.out.1
          first | exact R | ((repeat apply Exists.intro); exact ⟨R, rfl⟩) | ((repeat apply Exists.intro); exact ⟨R, by rw [hao]⟩)
        case measure => simp [intOf]
      · have : k = 0 := by omega
        subst this
        have hfin : V cur = a / 2 ^ s := by
          have := HV.out
          rw [List.drop_zero, List.drop_zero, HVD.out, Nat.div_div_eq_div_mul, ← HSQ.out] at this
          exact this
        go_wp2_with fail
        refine (trim_any _ m m cur _ HCL.out (Nat.le_refl _) (by omega) hcf hBk.rd0).mono ?_
        rw [hfin]
        rintro e w3 ⟨rfl, rfl⟩
        go_wp2_with fail
        go_ret
        have h1 := L_len cur hcf
        have h2 := L_take cur hcf
        rw [hfin] at h1 h2
        have h3 := hBk.ownPre (base := w.heap.size) (c := m) (Nat.le_refl _) h1 HCL.out (by unfold maxLen; omega)
        rw [h2] at h3
        exact ⟨_, _, rfl, h3, hbl⟩

end Go.Proofs.Ytchfkmompciooab
