import Derived.Deep.RegionHeld3
import Derived.Deep.CutBlock
import Derived.Deep.DeepCutAuto
import Derived.Test.YtdfljbpcjkbflaaGreatDoorrHAB
set_option maxHeartbeats 1000000
namespace Go.Proofs.YtdfljbpcjkbflaaGreatDoor
open Go.RowKit
set_option linter.unusedVariables false
set_option maxRecDepth 100000
theorem eI (p : Nat) : ((2 : Int) ^ p) = ((2 ^ p : Nat) : Int) := by simp

theorem bQ (a b : Nat) (ha : a < 18446744073709551616) (hb : b < 18446744073709551616) : bits BinOp.or IntKind.u64 (a : Int) (b : Int) = ((b ||| a : Nat) : Int) := by
 rw [u64_or_nat a b ha hb, Nat.or_comm]

theorem EN (x p cc : Nat) (hp : p < 64) (hx : x < 18446744073709551616) (hc : cc < 2 ^ p) :
 bits BinOp.or IntKind.u64 (IntKind.u64.wrap ((x : Int) * 2 ^ p)) (cc : Int) = ((cc + x % 2 ^ (64 - p) * 2 ^ p : Nat) : Int) := by
 have hKP : 2 ^ (64 - p) * 2 ^ p = 18446744073709551616 := M.dK p 64 (by omega)
 have hb := (M.pV (K := 2 ^ (64 - p)) (P := 2 ^ p) (x := x) (cc := cc) (Nat.pow_pos (by omega)) (Nat.pow_pos (by omega)) (by omega) hc).2.1
 have e1 : IntKind.u64.wrap ((x : Int) * 2 ^ p) = ((x % 2 ^ (64 - p) * 2 ^ p : Nat) : Int) := by
  rw [eI, ← Int.natCast_mul, gE, ← hKP, Nat.mul_mod_mul_right]
 rw [e1, bQ _ _ (by omega) (by omega), iG cc _ p hc]

theorem bX (x k : Nat) : (x : Int) / 2 ^ k = ((x / 2 ^ k : Nat) : Int) := by
 rw [eI]; exact (Int.natCast_ediv x (2 ^ k)).symm

theorem aL (ao : Option Addr) (n c s : Nat) (a : Nat) (w : World) (hl : (L a).length = n) (hn : n ≤ 1048576) (hs : s ≤ 100000) (hr : Rd w ao (L a)) :
 Calls Tryz.prog 77 #[.slice ao n c, .int .i64 (s : Int)] w fun e w' => Ret w w' e (L (a * 2 ^ s)) := by
 obtain ⟨i0, hi, hz0, hz1, hz2⟩ := info_parts Tryz.infoU
 obtain ⟨q, hq⟩ : ∃ q : Nat, q = s / 64 := ⟨_, rfl⟩
 obtain ⟨p, hp⟩ : ∃ p : Nat, p = s % 64 := ⟨_, rfl⟩
 have hqI : (s : Int) / 64 = (q : Int) := by omega
 have hpI : (s : Int) % 64 = (p : Int) := by omega
 have hpb : p < 64 := by omega
 have hqb : q ≤ 100000 := by omega
 have HQ := hid hq; clear hq
 have HP := hid hp; clear hp
 have hmk := fun (wx : World) => run_make (P := Tryz.prog) wx 71 23 i0 (.int .u64 0) Tryz.underlying71 hi hz0 .i64 .i64 ((q + n + 1 : Nat) : Int) ((q + n + 1 : Nat) : Int) (by omega) (Int.le_refl _) (by rw [hz2]; omega) (by omega)
 have es : ((q + n + 1 : Nat) : Int) = (q : Int) + (n : Int) + 1 := by omega
 rw [es] at hmk
 have et : ((q : Int) + (n : Int) + 1).toNat = q + n + 1 := by omega
 rw [et] at hmk
 clear es et
 have fa := eN a
 go_enter Tryz.func77, Tryz.ntmps77
 go_wp2_with fail
 go_loopw [8, 23] (fun cy i wr => ∃ (k : Nat) (cur : List Nat) (cc : Nat), k ≤ n ∧ i = .int .i64 k ∧ cy = .int .u64 cc ∧ cc < 2 ^ p ∧ Blk wr w.heap.size cur ∧ cur.length = q + n + 1 ∧ F64 cur ∧ (∀ j, q + k ≤ j → cur.getD j 0 = 0) ∧ V cur + cc * 18446744073709551616 ^ (q + k) = (18446744073709551616 ^ q * 2 ^ p) * V ((L a).take k) ∧ Below w.heap.size w wr) (fun _ i _ => n - (intOf i).toNat)
 case atStart =>
  refine ⟨0, List.replicate (q + n + 1) 0, 0, by omega, rfl, rfl, Nat.pow_pos (by omega), dQ w (q + n + 1), by simp, fun x hx => by simp at hx; omega, fun j _ => ?_, ?_, (Below.refl _ _).alloc (Nat.le_refl _) _⟩
  · rw [List.getD_eq_getElem?_getD, List.getElem?_replicate]; split <;> rfl
  · unfold V; rw [M.cM]; simp [M.val]
 case round =>
  obtain ⟨k, cur, cc, hk, rfl, rfl, hcc, hBk, hcl, hcf, hz, hv, hbl⟩ := hrel
  clear hmk
  have HZ := hid hz; clear hz
  have HV := hid hv; clear hv
  have HCL := hid hcl; clear hcl
  by_cases hlt : k < n
  · obtain ⟨b2, o2, hbo, hc2⟩ := (hr.below hbl) (by omega)
    have hck := hc2 k (by omega)
    clear hc2
    have hx1 := fa.get k
    obtain ⟨x, hxx⟩ : ∃ x : Nat, x = (L a).getD k 0 := ⟨_, rfl⟩
    rw [← hxx] at hck hx1
    have HX := hid hxx; clear hxx
    have hlt' : (k : Int) < (n : Int) := by omega
    have hltq : (q : Int) + (k : Int) < ((q + n + 1 : Nat) : Int) := by omega
    have hcs := hBk.cell (q + k) (by have := HCL.out; omega)
    rw [HZ.out (q + k) (by omega)] at hcs
    have hfs := hBk.frozen (q + k)
    have hKP : 2 ^ (64 - p) * 2 ^ p = 18446744073709551616 := M.dK p 64 (by omega)
    have hpl := M.pV (K := 2 ^ (64 - p)) (P := 2 ^ p) (x := x) (cc := cc) (Nat.pow_pos (by omega)) (Nat.pow_pos (by omega)) (by omega) hcc
    rw [hKP] at hpl
    have hwo := EN x p cc hpb hx1 hcc
    have hwc := bX x (64 - p)
    obtain ⟨o, eo⟩ : ∃ o : Nat, o = cc + x % 2 ^ (64 - p) * 2 ^ p := ⟨_, rfl⟩
    obtain ⟨c', ec'⟩ : ∃ c' : Nat, c' = x / 2 ^ (64 - p) := ⟨_, rfl⟩
    rw [← eo] at hwo hpl
    rw [← ec'] at hpl hwc
    have HPL := hid hpl; clear hpl hKP eo ec'
    clear hcc
    have HB := hid hBk; clear hBk
    go_wp2_with fail
    go_roundw
    case rel =>
     have R : ∃ (k1 : Nat) (cur1 : List Nat) (cc1 : Nat), k1 ≤ n ∧ Value.int .i64 ((k : Int) + 1) = .int .i64 k1 ∧ Value.int .u64 (c' : Int) = .int .u64 cc1 ∧ cc1 < 2 ^ p ∧ Blk (wr.setCell ⟨w.heap.size, q + k, none⟩ (.int .u64 (o : Int))) w.heap.size cur1 ∧ cur1.length = q + n + 1 ∧ F64 cur1 ∧ (∀ j, q + k1 ≤ j → cur1.getD j 0 = 0) ∧ V cur1 + cc1 * 18446744073709551616 ^ (q + k1) = (18446744073709551616 ^ q * 2 ^ p) * V ((L a).take k1) ∧ Below w.heap.size w (wr.setCell ⟨w.heap.size, q + k, none⟩ (.int .u64 (o : Int))) := by
      refine ⟨k + 1, cur.set (q + k) o, c', by omega, by go_num, rfl, HPL.out.2.2, HB.out.set _ _ _ rfl, by rw [List.length_set]; exact HCL.out, ?_, ?_, ?_, hbl.setCell (Nat.le_refl _) _⟩
      · intro v hv
        rcases List.mem_or_eq_of_mem_set hv with hv | rfl
        · exact hcf v hv
        · exact HPL.out.2.1
      · intro j hj
        rw [M.aX _ _ _ _ (by omega)]; exact HZ.out j (by omega)
      · have e2 := M.gT 18446744073709551616 (q + k) cur o (by have := HCL.out; omega)
        rw [HZ.out (q + k) (by omega), Nat.mul_zero, Nat.add_zero] at e2
        have e3 := HV.out
        unfold V at *
        rw [M.aH, ← HX.out, show q + (k + 1) = q + k + 1 by omega, Nat.pow_succ]
        rw [Nat.pow_add] at e2 e3 ⊢
        exact M.uO e3 e2 HPL.out.1
     first | exact R | ((repeat apply Exists.intro); exact ⟨R, rfl⟩) | ((repeat apply Exists.intro); exact ⟨R, by rw [hbo]⟩)
    case measure => simp [intOf]; omega
  · have e : k = n := by omega
    subst e
    have hcs := hBk.cell (q + k) (by have := HCL.out; omega)
    rw [HZ.out (q + k) (by omega)] at hcs
    have hfs := hBk.frozen (q + k)
    have hlt' : ¬ (k : Int) < (k : Int) := by omega
    have hltq : (q : Int) + (k : Int) < ((q + k + 1 : Nat) : Int) := by omega
    have hpp : 2 ^ p ≤ 2 ^ 64 := Nat.pow_le_pow_right (by omega) (by omega)
    have hccb : cc < 18446744073709551616 := by omega
    clear hpp
    have HB := hid hBk; clear hBk
    have HCB := hid hccb; clear hccb hcc
    go_wp2_with fail
    have hB2 : Blk (wr.setCell ⟨w.heap.size, q + k, none⟩ (.int .u64 (cc : Int))) w.heap.size (cur.set (q + k) cc) := HB.out.set _ _ _ rfl
    have hb2 : Below w.heap.size w (wr.setCell ⟨w.heap.size, q + k, none⟩ (.int .u64 (cc : Int))) := hbl.setCell (Nat.le_refl _) _
    have hf2 : F64 (cur.set (q + k) cc) := by
     intro v hv
     rcases List.mem_or_eq_of_mem_set hv with hv | rfl
     · exact hcf v hv
     · exact HCB.out
    have hfin : V (cur.set (q + k) cc) = a * 2 ^ s := by
     have e2 := M.gT 18446744073709551616 (q + k) cur cc (by have := HCL.out; omega)
     rw [HZ.out (q + k) (by omega), Nat.mul_zero, Nat.add_zero] at e2
     have e3 := HV.out
     rw [List.take_of_length_le (by omega), V_L] at e3
     unfold V at *
     rw [e2, Nat.mul_comm (18446744073709551616 ^ (q + k)) cc, e3, show (18446744073709551616 : Nat) = 2 ^ 64 from rfl, ← Nat.pow_mul, ← Nat.pow_add, Nat.mul_comm]
     congr 2
     have := HQ.out; have := HP.out; omega
    generalize wr.setCell ⟨w.heap.size, q + k, none⟩ (.int .u64 (cc : Int)) = w2 at hB2 hb2 ⊢
    refine (cE _ (q + k + 1) (q + k + 1) _ _ (by rw [List.length_set]; exact HCL.out) (Nat.le_refl _) (by omega) hf2 hB2.rd0).mono ?_
    rw [hfin]
    rintro e w3 ⟨rfl, rfl⟩
    go_wp2_with fail
    go_ret
    have h1 := iX _ hf2
    have h2 := gK _ hf2
    rw [hfin] at h1 h2
    have h3 := hB2.ownPre (base := w.heap.size) (c := q + k + 1) (Nat.le_refl _) h1 (by rw [List.length_set]; exact HCL.out) (by unfold maxLen; omega)
    rw [h2] at h3
    exact ⟨_, _, rfl, h3, hb2⟩

theorem C7 (x p t : Nat) (hp : p < 64) (hx : x < 18446744073709551616) (ht : t < 2 ^ p) :
 bits BinOp.or IntKind.u64 ((x : Int) / 2 ^ p) ((t * 2 ^ (64 - p) : Nat) : Int) = ((x / 2 ^ p + t * 2 ^ (64 - p) : Nat) : Int) := by
 have hKP : 2 ^ (64 - p) * 2 ^ p = 18446744073709551616 := M.dK p 64 (by omega)
 have h1 : x / 2 ^ p < 2 ^ (64 - p) := Nat.div_lt_of_lt_mul (by rw [Nat.mul_comm]; omega)
 have h2 : t * 2 ^ (64 - p) < 18446744073709551616 := by
  have : t * 2 ^ (64 - p) < 2 ^ p * 2 ^ (64 - p) := Nat.mul_lt_mul_of_pos_right ht (Nat.pow_pos (by omega))
  rw [Nat.mul_comm (2 ^ p)] at this
  omega
 have h3 : x / 2 ^ p ≤ x := Nat.div_le_self _ _
 rw [bX, u64_or_nat _ _ (by omega) h2, iG _ _ _ h1]

theorem AB (x p : Nat) (hp : p < 64) : IntKind.u64.wrap ((x : Int) * 2 ^ (64 - p)) = ((x % 2 ^ p * 2 ^ (64 - p) : Nat) : Int) := by
 have hKP : 2 ^ p * 2 ^ (64 - p) = 18446744073709551616 := by rw [Nat.mul_comm]; exact M.dK p 64 (by omega)
 rw [eI, ← Int.natCast_mul, gE, ← hKP, Nat.mul_mod_mul_right]

theorem oI (xs : List Nat) (k : Nat) (h : k < xs.length) : V (xs.drop k) = xs.getD k 0 + 18446744073709551616 * V (xs.drop (k + 1)) := by
 rw [List.drop_eq_getElem_cons h]
 unfold V
 rw [M.val, List.getD_eq_getElem?_getD, List.getElem?_eq_getElem h]
 rfl

theorem oP (ao : Option Addr) (n c s : Nat) (a : Nat) (w : World) (hl : (L a).length = n) (hc : n ≤ c) (hn : n ≤ 1048576) (hs : s ≤ 100000) (hr : Rd w ao (L a)) :
 Calls Tryz.prog 130 #[.slice ao n c, .int .i64 (s : Int)] w fun e w' => Ret w w' e (L (a / 2 ^ s)) := by
 obtain ⟨q, hq⟩ : ∃ q : Nat, q = s / 64 := ⟨_, rfl⟩
 obtain ⟨p, hp⟩ : ∃ p : Nat, p = s % 64 := ⟨_, rfl⟩
 have hqI : (s : Int) / 64 = (q : Int) := by omega
 have hpI : (s : Int) % 64 = (p : Int) := by omega
 have hpb : p < 64 := by omega
 have hqb : q ≤ 100000 := by omega
 have HQ := hid hq; clear hq
 have HP := hid hp; clear hp
 have fa := eN a
 have hsq : 2 ^ s = 18446744073709551616 ^ q * 2 ^ p := by
  rw [show (18446744073709551616 : Nat) = 2 ^ 64 from rfl, ← Nat.pow_mul, ← Nat.pow_add]
  congr 1
  have := HQ.out; have := HP.out; omega
 have HSQ := hid hsq; clear hsq
 by_cases hqn : n ≤ q
 · have hz : a / 2 ^ s = 0 := by
    apply Nat.div_eq_of_lt
    have h1 := iL a q (by omega)
    rw [HSQ.out]
    exact Nat.lt_of_lt_of_le h1 (Nat.le_mul_of_pos_right _ (Nat.pow_pos (by omega)))
   rw [hz, show L 0 = [] from M.aJ _]
   clear hz
   go_enter Tryz.func130, Tryz.ntmps130
   go_wp2_with fail
   go_ret
   exact Ret.nil (Below.refl _ _)
 · have hqn' : ¬ (n : Int) ≤ (q : Int) := by omega
   obtain ⟨b0, o0, hao, hcl⟩ := hr (by omega)
   have hrd : Rd w (some ⟨b0, o0 + q, none⟩) ((L a).drop q) := by
    intro hp
    refine ⟨b0, o0 + q, rfl, fun i hi => ?_⟩
    have := hcl (q + i) (by simp at hi; omega)
    rw [Nat.add_assoc, this]
    simp [List.getD_eq_getElem?_getD]
   have hdl : ((L a).drop q).length = n - q := by simp [hl]
   have hne : ¬ c = q := by omega
   have fd : F64 ((L a).drop q) := fun x hx => fa x (List.mem_of_mem_drop hx)
   have hvd : V ((L a).drop q) = a / 18446744073709551616 ^ q := by
    have h1 := M.cQ 18446744073709551616 ((L a).take q) ((L a).drop q)
    rw [List.take_append_drop] at h1
    have h2 : ((L a).take q).length = q := by simp; omega
    have h3 := M.eT (B := 18446744073709551616) (by omega) ((L a).take q) (fun x hx => fa x (List.mem_of_mem_take hx))
    rw [h2] at h1 h3
    have h4 : a = M.val 18446744073709551616 ((L a).take q) + 18446744073709551616 ^ q * V ((L a).drop q) := by
     conv => lhs; rw [← V_L a]
     exact h1
    conv => rhs; rw [h4]
    rw [Nat.add_mul_div_left _ _ (Nat.pow_pos (by omega)), Nat.div_eq_of_lt h3, Nat.zero_add]
   obtain ⟨xs, hxs⟩ : ∃ xs, xs = (L a).drop q := ⟨_, rfl⟩
   rw [← hxs] at hrd hdl fd hvd
   clear hxs hcl
   obtain ⟨m, hm⟩ : ∃ m, m = n - q := ⟨_, rfl⟩
   have hmI : n - q = m := hm.symm
   rw [hmI] at hdl
   have hmb : m ≤ 1048576 := by omega
   have HVD := hid hvd; clear hvd
   have HDL := hid hdl; clear hdl
   clear hm
   go_enter Tryz.func130, Tryz.ntmps130
   go_wp2_with fail
   refine (eY _ m (c - q) 0 xs _ HDL.out (by omega) (by omega) hrd).mono ?_
   rw [List.replicate_zero, List.append_nil]
   rintro e w1 ⟨rfl, hB1, hb1⟩
   have HB1 := hid hB1; clear hB1
   have Hb1 := hid hb1; clear hb1
   go_wp2_with fail
   go_loopw [8, 9] (fun cy i wr => ∃ (k : Nat) (cur : List Nat), k ≤ m ∧ i = .int .i64 ((k : Int) - 1) ∧ cy = .int .u64 ((V (xs.drop k) % 2 ^ p * 2 ^ (64 - p) : Nat) : Int) ∧ Blk wr w.heap.size cur ∧ cur.length = m ∧ F64 cur ∧ (∀ j, j < k → cur.getD j 0 = xs.getD j 0) ∧ V (cur.drop k) = V (xs.drop k) / 2 ^ p ∧ Below w.heap.size w wr) (fun _ i _ => (intOf i + 1).toNat)
   case atStart =>
    refine ⟨m, xs, by omega, by go_num, ?_, HB1.out, HDL.out, fd, fun _ _ => rfl, ?_, Hb1.out⟩
    · rw [List.drop_of_length_le (by have := HDL.out; omega)]; simp [V, M.val]
    · rw [List.drop_of_length_le (by have := HDL.out; omega)]; simp [V, M.val]
   case round =>
    obtain ⟨k, cur, hk, rfl, rfl, hBk, hcl, hcf, hz, hv, hbl⟩ := hrel
    have HZ := hid hz; clear hz
    have HV := hid hv; clear hv
    have HCL := hid hcl; clear hcl
    by_cases hlt : 0 < k
    · obtain ⟨k, rfl⟩ : ∃ k', k = k' + 1 := ⟨k - 1, by omega⟩
      have e1 : (((k + 1 : Nat) : Int) - 1) = (k : Int) := by omega
      rw [e1]
      have hcs := hBk.cell k (by have := HCL.out; omega)
      have hfs := hBk.frozen k
      rw [HZ.out k (by omega)] at hcs
      have hx1 : xs.getD k 0 < 18446744073709551616 := F64.get fd k
      obtain ⟨x, hxx⟩ : ∃ x : Nat, x = xs.getD k 0 := ⟨_, rfl⟩
      rw [← hxx] at hcs hx1
      have HX := hid hxx; clear hxx
      obtain ⟨T, hT⟩ : ∃ T : Nat, T = V (xs.drop (k + 1)) := ⟨_, rfl⟩
      rw [← hT]
      have hKP : 2 ^ (64 - p) * 2 ^ p = 18446744073709551616 := M.dK p 64 (by omega)
      have hwo := C7 x p (T % 2 ^ p) hpb hx1 (Nat.mod_lt _ (Nat.pow_pos (by omega)))
      have hwc := AB x p hpb
      have hpl := M.AS (K := 2 ^ (64 - p)) (P := 2 ^ p) (x := x) (T := T) (Nat.pow_pos (by omega)) (Nat.pow_pos (by omega))
      have hob := M.I2 (K := 2 ^ (64 - p)) (P := 2 ^ p) (x := x) (T := T) (Nat.pow_pos (by omega)) (by omega)
      rw [Nat.mul_comm (2 ^ p) (2 ^ (64 - p)), hKP] at hob
      rw [hKP] at hpl
      obtain ⟨o, eo⟩ : ∃ o : Nat, o = x / 2 ^ p + T % 2 ^ p * 2 ^ (64 - p) := ⟨_, rfl⟩
      rw [← eo] at hwo hpl hob
      obtain ⟨ci, eci⟩ : ∃ ci : Nat, ci = T % 2 ^ p * 2 ^ (64 - p) := ⟨_, rfl⟩
      rw [← eci] at hwo ⊢
      obtain ⟨c', ec'⟩ : ∃ c' : Nat, c' = x % 2 ^ p * 2 ^ (64 - p) := ⟨_, rfl⟩
      rw [← ec'] at hwc
      have HPL := hid hpl; have HOB := hid hob; have HT := hid hT; have HC' := hid ec'
      clear hpl hob hKP eo eci ec' hT
      have HB := hid hBk; clear hBk
      have hltk : (k : Int) < (m : Int) := by omega
      go_wp2_with fail
      go_roundw
      case rel =>
       have R : ∃ (k1 : Nat) (cur1 : List Nat), k1 ≤ m ∧ Value.int .i64 ((k : Int) - 1) = .int .i64 ((k1 : Int) - 1) ∧ Value.int .u64 (c' : Int) = .int .u64 ((V (xs.drop k1) % 2 ^ p * 2 ^ (64 - p) : Nat) : Int) ∧ Blk (wr.setCell ⟨w.heap.size, k, none⟩ (.int .u64 (o : Int))) w.heap.size cur1 ∧ cur1.length = m ∧ F64 cur1 ∧ (∀ j, j < k1 → cur1.getD j 0 = xs.getD j 0) ∧ V (cur1.drop k1) = V (xs.drop k1) / 2 ^ p ∧ Below w.heap.size w (wr.setCell ⟨w.heap.size, k, none⟩ (.int .u64 (o : Int))) := by
        have hd := oI xs k (by have := HDL.out; omega)
        rw [← HX.out, ← HT.out] at hd
        refine ⟨k, cur.set k o, by omega, rfl, ?_, HB.out.set _ _ _ rfl, by rw [List.length_set]; exact HCL.out, ?_, ?_, ?_, hbl.setCell (Nat.le_refl _) _⟩
        · rw [hd, HPL.out.2, HC'.out]
        · intro v hv
          rcases List.mem_or_eq_of_mem_set hv with hv | rfl
          · exact hcf v hv
          · exact HOB.out
        · intro j hj
          rw [M.aX _ _ _ _ (by omega)]; exact HZ.out j (by omega)
        · rw [oI _ k (by rw [List.length_set]; have := HCL.out; omega), M.aY _ _ _ (by have := HCL.out; omega), List.drop_set_of_lt (by omega), HV.out, hd, ← HT.out]
          exact HPL.out.1
       first | exact R | ((repeat apply Exists.intro); exact ⟨R, rfl⟩) | ((repeat apply Exists.intro); exact ⟨R, by rw [hao]⟩)
      case measure => simp [intOf]
    · have : k = 0 := by omega
      subst this
      have hfin : V cur = a / 2 ^ s := by
       have := HV.out
       rw [List.drop_zero, List.drop_zero, HVD.out, Nat.div_div_eq_div_mul, ← HSQ.out] at this
       exact this
      go_wp2_with fail
      refine (cE _ m m cur _ HCL.out (Nat.le_refl _) (by omega) hcf hBk.rd0).mono ?_
      rw [hfin]
      rintro e w3 ⟨rfl, rfl⟩
      go_wp2_with fail
      go_ret
      have h1 := iX cur hcf
      have h2 := gK cur hcf
      rw [hfin] at h1 h2
      have h3 := hBk.ownPre (base := w.heap.size) (c := m) (Nat.le_refl _) h1 HCL.out (by unfold maxLen; omega)
      rw [h2] at h3
      exact ⟨_, _, rfl, h3, hbl⟩

theorem dS (x y p : Nat) (hp : p = (x + 18446744073709551616 - y) % 18446744073709551616) (hy : y ≤ 18446744073709551616) : IntKind.u64.wrap ((x : Int) - (y : Int)) = (p : Int) := by
 rw [IntKind.wrap_u64]; omega

theorem M.sub_over {V V' V0 T c c' P B x y o : Nat} (h : V + T = V0 + c * P) (hv : V' + P * x = V + P * o) (hs : o + y + c = x + B * c') : V' + (T + P * y) = V0 + c' * (P * B) := by
 have e : P * (o + y + c) = P * (x + B * c') := by rw [hs]
 simp only [Nat.mul_add] at e
 rw [Nat.mul_comm c' (P * B), Nat.mul_assoc]
 rw [Nat.mul_comm c P] at h
 omega

theorem M.no_borrow {S c P t a : Nat} (h : S + t = a + c * P) (hS : S < P) (ht : t ≤ a) : c = 0 ∧ S = a - t := by
 rcases Nat.eq_zero_or_pos c with rfl | hc
 · simp at h; exact ⟨rfl, by omega⟩
 · have := Nat.le_mul_of_pos_left P hc; omega

theorem M.sub_place {S c P B A A' x y o c' : Nat} (h : S + A' = A + c * P) (hs : o + y + c = x + B * c') : S + P * o + (A' + P * y) = A + P * x + c' * (P * B) := by
 have e : P * (o + y + c) = P * (x + B * c') := by rw [hs]
 simp only [Nat.mul_add] at e
 rw [Nat.mul_comm c' (P * B), Nat.mul_assoc]
 rw [Nat.mul_comm c P] at h
 omega

theorem mS (n m : Nat) (h : n ≤ m) (hm : m ≤ 128) : IntKind.u64.wrap (IntKind.i64.wrap ((m : Int) - (n : Int))) = ((m - n : Nat) : Int) := by
 have e : IntKind.i64.wrap ((m : Int) - (n : Int)) = ((m - n : Nat) : Int) := by
  simp only [IntKind.wrap_i64]; omega
 rw [e, gE, Nat.mod_eq_of_lt (by omega)]

theorem nP (n m : Nat) (h : m < n) (hm : n ≤ 200) : 64 ≤ (IntKind.u64.wrap (IntKind.i64.wrap ((m : Int) - (n : Int)))).toNat := by
 have e : IntKind.i64.wrap ((m : Int) - (n : Int)) = (m : Int) - (n : Int) := by
  simp only [IntKind.wrap_i64]; omega
 rw [e, dS m n (m + 18446744073709551616 - n) (by omega) (by omega)]
 omega

theorem yU (l : Nat) : IntKind.u64.wrap ((l : Int) * 2 ^ 64) = 0 := by
 have : (l : Int) * 2 ^ 64 = ((l * 18446744073709551616 : Nat) : Int) := by omega
 rw [this, gE]
 omega

theorem DO (l n : Nat) : IntKind.u64.wrap ((l : Int) * 2 ^ n) = ((l * 2 ^ n % 18446744073709551616 : Nat) : Int) := by
 rw [eI, ← Int.natCast_mul, gE]

theorem p9 (a : Nat) (ha : a < 18446744073709551616) : bits BinOp.or IntKind.u64 (a : Int) 0 = (a : Int) := by
 have := bQ a 0 ha (by omega)
 simpa using this

theorem fN (a : Nat) (ha : a < 18446744073709551616) : bits BinOp.or IntKind.u64 0 (a : Int) = (a : Int) := by
 have := bQ 0 a (by omega) ha
 simpa using this

theorem tW (a : Nat) (ha : a < 18446744073709551616) : bits BinOp.or IntKind.u64 (a : Int) (a : Int) = (a : Int) := by
 have := bQ a a ha ha
 simpa using this

theorem JF (h l n k : Nat) (hl : l < 18446744073709551616) (hn : n < 64) (e3 : l / 2 ^ (64 - n) < 2 ^ n) (e4 : h * 2 ^ n % 18446744073709551616 = k * 2 ^ n) :
 bits BinOp.or IntKind.u64 (bits BinOp.or IntKind.u64 (IntKind.u64.wrap ((h : Int) * 2 ^ n)) ((l : Int) / 2 ^ min (IntKind.u64.wrap (IntKind.i64.wrap (64 - (n : Int)))).toNat 64))
  (IntKind.u64.wrap ((l : Int) * 2 ^ min (IntKind.u64.wrap (IntKind.i64.wrap ((n : Int) - 64))).toNat 64)) = ((h * 2 ^ n % 18446744073709551616 + l / 2 ^ (64 - n) : Nat) : Int) := by
 have t1 : min (IntKind.u64.wrap (IntKind.i64.wrap (64 - (n : Int)))).toNat 64 = 64 - n := by
  have := mS n 64 (by omega) (by omega)
  rw [show ((64 : Nat) : Int) = 64 from rfl] at this
  rw [this]; omega
 have t2 : min (IntKind.u64.wrap (IntKind.i64.wrap ((n : Int) - 64))).toNat 64 = 64 := by
  have := nP 64 n (by omega) (by omega)
  rw [show ((64 : Nat) : Int) = 64 from rfl] at this
  omega
 have hb : h * 2 ^ n % 18446744073709551616 < 18446744073709551616 := Nat.mod_lt _ (by omega)
 have hd : l / 2 ^ (64 - n) ≤ l := Nat.div_le_self _ _
 rw [t1, t2, yU, DO, bX, bQ _ _ hb (by omega), e4, iG _ _ _ e3, ← e4, Nat.add_comm]
 have hp : 2 ^ (64 - n) * 2 ^ n = 18446744073709551616 := by rw [← Nat.pow_add, show 64 - n + n = 64 by omega]
 apply p9
 rw [e4] at hb ⊢
 have : k < 2 ^ (64 - n) := by
  rw [← hp] at hb
  exact Nat.lt_of_mul_lt_mul_right hb
 have h2 : (k + 1) * 2 ^ n ≤ 2 ^ (64 - n) * 2 ^ n := Nat.mul_le_mul_right _ this
 rw [Nat.add_mul, hp] at h2
 omega

theorem IH (h l n : Nat) (hl : l < 18446744073709551616) (hn : 64 ≤ n) (hm : n < 128) :
 bits BinOp.or IntKind.u64 (bits BinOp.or IntKind.u64 (IntKind.u64.wrap ((h : Int) * 18446744073709551616)) ((l : Int) / 2 ^ min (IntKind.u64.wrap (IntKind.i64.wrap (64 - (n : Int)))).toNat 64))
  (IntKind.u64.wrap ((l : Int) * 2 ^ min (IntKind.u64.wrap (IntKind.i64.wrap ((n : Int) - 64))).toNat 64)) = ((l * 2 ^ (n - 64) % 18446744073709551616 : Nat) : Int) := by
 have t2 : min (IntKind.u64.wrap (IntKind.i64.wrap ((n : Int) - 64))).toNat 64 = n - 64 := by
  have := mS 64 n (by omega) (by omega)
  rw [show ((64 : Nat) : Int) = 64 from rfl] at this
  rw [this]; omega
 have h0 := yU h
 rw [show (2 : Int) ^ 64 = 18446744073709551616 from rfl] at h0
 have hb : l * 2 ^ (n - 64) % 18446744073709551616 < 18446744073709551616 := Nat.mod_lt _ (by omega)
 rw [t2, h0, DO]
 by_cases he : n = 64
 · have t1 : min (IntKind.u64.wrap (IntKind.i64.wrap (64 - (n : Int)))).toNat 64 = 0 := by
    have := mS n 64 (by omega) (by omega)
    rw [show ((64 : Nat) : Int) = 64 from rfl] at this
    rw [this]; omega
   rw [t1, bX]
   subst he
   simp only [Nat.sub_self, Nat.pow_zero, Nat.div_one, Nat.mul_one, Nat.mod_eq_of_lt hl]
   rw [fN l hl, tW l hl]
 · have t1 : min (IntKind.u64.wrap (IntKind.i64.wrap (64 - (n : Int)))).toNat 64 = 64 := by
    have := nP n 64 (by omega) (by omega)
    rw [show ((64 : Nat) : Int) = 64 from rfl] at this
    omega
   rw [t1, bX, show l / 2 ^ 64 = 0 from Nat.div_eq_of_lt (by omega)]
   have z : bits BinOp.or IntKind.u64 0 ((0 : Nat) : Int) = ((0 : Nat) : Int) := fN 0 (by omega)
   rw [z]
   exact fN _ hb

theorem IR (h l n k : Nat) (hh : h < 18446744073709551616) (hl : l < 18446744073709551616) (hn : n < 64) (e3 : l / 2 ^ n < 2 ^ (64 - n)) (e4 : h * 2 ^ (64 - n) % 18446744073709551616 = k * 2 ^ (64 - n)) :
 bits BinOp.or IntKind.u64 (bits BinOp.or IntKind.u64 ((l : Int) / 2 ^ n) (IntKind.u64.wrap ((h : Int) * 2 ^ min (IntKind.u64.wrap (IntKind.i64.wrap (64 - (n : Int)))).toNat 64)))
  ((h : Int) / 2 ^ min (IntKind.u64.wrap (IntKind.i64.wrap ((n : Int) - 64))).toNat 64) = ((l / 2 ^ n + h * 2 ^ (64 - n) % 18446744073709551616 : Nat) : Int) := by
 have t1 : min (IntKind.u64.wrap (IntKind.i64.wrap (64 - (n : Int)))).toNat 64 = 64 - n := by
  have := mS n 64 (by omega) (by omega)
  rw [show ((64 : Nat) : Int) = 64 from rfl] at this
  rw [this]; omega
 have t2 : min (IntKind.u64.wrap (IntKind.i64.wrap ((n : Int) - 64))).toNat 64 = 64 := by
  have := nP 64 n (by omega) (by omega)
  rw [show ((64 : Nat) : Int) = 64 from rfl] at this
  omega
 have hb : h * 2 ^ (64 - n) % 18446744073709551616 < 18446744073709551616 := Nat.mod_lt _ (by omega)
 have hd : l / 2 ^ n ≤ l := Nat.div_le_self _ _
 rw [t1, t2, DO, bX, bX, show h / 2 ^ 64 = 0 from Nat.div_eq_of_lt (by omega)]
 have e : bits BinOp.or IntKind.u64 ((l / 2 ^ n : Nat) : Int) ((h * 2 ^ (64 - n) % 18446744073709551616 : Nat) : Int) = ((l / 2 ^ n + h * 2 ^ (64 - n) % 18446744073709551616 : Nat) : Int) := by
  rw [bQ _ _ (by omega) hb, Nat.or_comm, e4, iG _ _ _ e3]
 rw [e]
 have hp : 2 ^ n * 2 ^ (64 - n) = 18446744073709551616 := by rw [← Nat.pow_add, show n + (64 - n) = 64 by omega]
 apply p9
 rw [e4] at hb ⊢
 have : k < 2 ^ n := by
  rw [← hp] at hb
  exact Nat.lt_of_mul_lt_mul_right hb
 have h2 : (k + 1) * 2 ^ (64 - n) ≤ 2 ^ n * 2 ^ (64 - n) := Nat.mul_le_mul_right _ this
 rw [Nat.add_mul, hp] at h2
 omega

theorem JD (h l n : Nat) (hh : h < 18446744073709551616) (hl : l < 18446744073709551616) (hn : 64 ≤ n) (hm : n < 128) :
 bits BinOp.or IntKind.u64 (bits BinOp.or IntKind.u64 ((l : Int) / 18446744073709551616) (IntKind.u64.wrap ((h : Int) * 2 ^ min (IntKind.u64.wrap (IntKind.i64.wrap (64 - (n : Int)))).toNat 64)))
  ((h : Int) / 2 ^ min (IntKind.u64.wrap (IntKind.i64.wrap ((n : Int) - 64))).toNat 64) = ((h / 2 ^ (n - 64) : Nat) : Int) := by
 have t2 : min (IntKind.u64.wrap (IntKind.i64.wrap ((n : Int) - 64))).toNat 64 = n - 64 := by
  have := mS 64 n (by omega) (by omega)
  rw [show ((64 : Nat) : Int) = 64 from rfl] at this
  rw [this]; omega
 have hb : h / 2 ^ (n - 64) ≤ h := Nat.div_le_self _ _
 have h0 : (l : Int) / 18446744073709551616 = ((0 : Nat) : Int) := by omega
 rw [t2, h0, bX]
 by_cases he : n = 64
 · have t1 : min (IntKind.u64.wrap (IntKind.i64.wrap (64 - (n : Int)))).toNat 64 = 0 := by
    have := mS n 64 (by omega) (by omega)
    rw [show ((64 : Nat) : Int) = 64 from rfl] at this
    rw [this]; omega
   rw [t1, DO]
   subst he
   simp only [Nat.sub_self, Nat.pow_zero, Nat.div_one, Nat.mul_one, Nat.mod_eq_of_lt hh]
   have z := fN h hh
   rw [show bits BinOp.or IntKind.u64 ((0 : Nat) : Int) (h : Int) = (h : Int) from z, tW h hh]
 · have t1 : min (IntKind.u64.wrap (IntKind.i64.wrap (64 - (n : Int)))).toNat 64 = 64 := by
    have := nP n 64 (by omega) (by omega)
    rw [show ((64 : Nat) : Int) = 64 from rfl] at this
    omega
   rw [t1, yU]
   have z : bits BinOp.or IntKind.u64 ((0 : Nat) : Int) 0 = ((0 : Nat) : Int) := fN 0 (by omega)
   rw [z]
   exact fN _ (by omega)

theorem sW {w : World} (o1 o2 : Obj) : Below w.heap.size w ((w.alloc o1).alloc o2).drew :=
 (((Below.refl _ _).alloc (Nat.le_refl _) _).alloc (by simp) _).drew

theorem xG (X n : Nat) (w : World) (hX : X < 2 ^ 128) (hn : n < 64) :
 Calls Tryz.prog 65 #[.agg #[.int .u64 (M.hiN X : Int), .int .u64 (M.loN X : Int)], .int .i64 (n : Int)] w fun e w' => e = .returned (.agg #[.int .u64 (M.hiN (X * 2 ^ n % 2 ^ 128) : Int), .int .u64 (M.loN (X * 2 ^ n % 2 ^ 128) : Int)]) ∧ Below w.heap.size w w' := by
 obtain ⟨e1, e2, e3, k, e4⟩ := M.AG X n hX hn
 rw [e1, e2]
 have hh := M.gS hX
 have hl := M.gO X
 generalize M.hiN X = h at *
 generalize M.loN X = l at *
 clear e1 e2
 have E3 := hid e3; have E4 := hid e4; clear e3 e4
 go_enter Tryz.func65, Tryz.ntmps65
 go_wp2_with fail
 go_region_held3 (fun v => v.cell? ⟨w.heap.size, 0, none⟩ = some (.int .u64 (h : Int)) ∧ v.cell? ⟨w.heap.size, 1, none⟩ = some (.int .u64 (l : Int))) (go_keep) (fail)
 go_wp2_with fail
 refine bodyPost_ret (v := .agg #[.int .u64 (bits BinOp.or IntKind.u64 (bits BinOp.or IntKind.u64 (IntKind.u64.wrap ((h : Int) * 2 ^ n)) ((l : Int) / 2 ^ min (IntKind.u64.wrap (IntKind.i64.wrap (64 - (n : Int)))).toNat 64)) (IntKind.u64.wrap ((l : Int) * 2 ^ min (IntKind.u64.wrap (IntKind.i64.wrap ((n : Int) - 64))).toNat 64))), .int .u64 (IntKind.u64.wrap ((l : Int) * 2 ^ n))]) (by simp [results, Tryz.results65, go_sem]) rfl ⟨?_, sW _ _⟩
 rw [JF h l n k hl hn E3.out E4.out, DO]

theorem wE (X n : Nat) (w : World) (hX : X < 2 ^ 128) (hn : 64 ≤ n) (hm : n < 128) :
 Calls Tryz.prog 65 #[.agg #[.int .u64 (M.hiN X : Int), .int .u64 (M.loN X : Int)], .int .i64 (n : Int)] w fun e w' => e = .returned (.agg #[.int .u64 (M.hiN (X * 2 ^ n % 2 ^ 128) : Int), .int .u64 (M.loN (X * 2 ^ n % 2 ^ 128) : Int)]) ∧ Below w.heap.size w w' := by
 obtain ⟨e1, e2⟩ := M.zJ X n hX hn hm
 rw [e1, e2]
 have hh := M.gS hX
 have hl := M.gO X
 generalize M.hiN X = h at *
 generalize M.loN X = l at *
 clear e1 e2
 go_enter Tryz.func65, Tryz.ntmps65
 go_wp2_with fail
 go_region_held3 (fun v => v.cell? ⟨w.heap.size, 0, none⟩ = some (.int .u64 (h : Int)) ∧ v.cell? ⟨w.heap.size, 1, none⟩ = some (.int .u64 (l : Int))) (go_keep) (fail)
 go_wp2_with fail
 refine bodyPost_ret (v := .agg #[.int .u64 (bits BinOp.or IntKind.u64 (bits BinOp.or IntKind.u64 (IntKind.u64.wrap ((h : Int) * 18446744073709551616)) ((l : Int) / 2 ^ min (IntKind.u64.wrap (IntKind.i64.wrap (64 - (n : Int)))).toNat 64)) (IntKind.u64.wrap ((l : Int) * 2 ^ min (IntKind.u64.wrap (IntKind.i64.wrap ((n : Int) - 64))).toNat 64))), .int .u64 (IntKind.u64.wrap ((l : Int) * 18446744073709551616))]) (by simp [results, Tryz.results65, go_sem]) rfl ⟨?_, sW _ _⟩
 rw [IH h l n hl hn hm, show IntKind.u64.wrap ((l : Int) * 18446744073709551616) = ((0 : Nat) : Int) from yU l]

theorem vS (X n : Nat) (w : World) (hX : X < 2 ^ 128) (hn : n < 64) :
 Calls Tryz.prog 62 #[.agg #[.int .u64 (M.hiN X : Int), .int .u64 (M.loN X : Int)], .int .i64 (n : Int)] w fun e w' => e = .returned (.agg #[.int .u64 (M.hiN (X / 2 ^ n) : Int), .int .u64 (M.loN (X / 2 ^ n) : Int)]) ∧ Below w.heap.size w w' := by
 obtain ⟨e1, e2, e3, k, e4⟩ := M.AX X n hX hn
 rw [e1, e2]
 have hh := M.gS hX
 have hl := M.gO X
 generalize M.hiN X = h at *
 generalize M.loN X = l at *
 clear e1 e2
 have E3 := hid e3; have E4 := hid e4; clear e3 e4
 go_enter Tryz.func62, Tryz.ntmps62
 go_wp2_with fail
 go_region_held3 (fun v => v.cell? ⟨w.heap.size, 0, none⟩ = some (.int .u64 (h : Int)) ∧ v.cell? ⟨w.heap.size, 1, none⟩ = some (.int .u64 (l : Int))) (go_keep) (fail)
 go_wp2_with fail
 refine bodyPost_ret (v := .agg #[.int .u64 ((h : Int) / 2 ^ n), .int .u64 (bits BinOp.or IntKind.u64 (bits BinOp.or IntKind.u64 ((l : Int) / 2 ^ n) (IntKind.u64.wrap ((h : Int) * 2 ^ min (IntKind.u64.wrap (IntKind.i64.wrap (64 - (n : Int)))).toNat 64))) ((h : Int) / 2 ^ min (IntKind.u64.wrap (IntKind.i64.wrap ((n : Int) - 64))).toNat 64))]) (by simp [results, Tryz.results62, go_sem]) rfl ⟨?_, sW _ _⟩
 rw [IR h l n k hh hl hn E3.out E4.out, bX]

theorem vG (X n : Nat) (w : World) (hX : X < 2 ^ 128) (hn : 64 ≤ n) (hm : n < 128) :
 Calls Tryz.prog 62 #[.agg #[.int .u64 (M.hiN X : Int), .int .u64 (M.loN X : Int)], .int .i64 (n : Int)] w fun e w' => e = .returned (.agg #[.int .u64 (M.hiN (X / 2 ^ n) : Int), .int .u64 (M.loN (X / 2 ^ n) : Int)]) ∧ Below w.heap.size w w' := by
 obtain ⟨e1, e2⟩ := M.AH X n hX hn hm
 rw [e1, e2]
 have hh := M.gS hX
 have hl := M.gO X
 generalize M.hiN X = h at *
 generalize M.loN X = l at *
 clear e1 e2
 go_enter Tryz.func62, Tryz.ntmps62
 go_wp2_with fail
 go_region_held3 (fun v => v.cell? ⟨w.heap.size, 0, none⟩ = some (.int .u64 (h : Int)) ∧ v.cell? ⟨w.heap.size, 1, none⟩ = some (.int .u64 (l : Int))) (go_keep) (fail)
 go_wp2_with fail
 refine bodyPost_ret (v := .agg #[.int .u64 ((h : Int) / 18446744073709551616), .int .u64 (bits BinOp.or IntKind.u64 (bits BinOp.or IntKind.u64 ((l : Int) / 18446744073709551616) (IntKind.u64.wrap ((h : Int) * 2 ^ min (IntKind.u64.wrap (IntKind.i64.wrap (64 - (n : Int)))).toNat 64))) ((h : Int) / 2 ^ min (IntKind.u64.wrap (IntKind.i64.wrap ((n : Int) - 64))).toNat 64))]) (by simp [results, Tryz.results62, go_sem]) rfl ⟨?_, sW _ _⟩
 rw [JD h l n hh hl hn hm, show (h : Int) / 18446744073709551616 = ((0 : Nat) : Int) by omega]

theorem GK (X n : Nat) (w : World) (hX : X < 2 ^ 128) (hn : n < 128) (Y : Nat) (hY : Y = X * 2 ^ n % 2 ^ 128) :
 Calls Tryz.prog 65 #[.agg #[.int .u64 (M.hiN X : Int), .int .u64 (M.loN X : Int)], .int .i64 (n : Int)] w fun e w' => e = .returned (.agg #[.int .u64 (M.hiN Y : Int), .int .u64 (M.loN Y : Int)]) ∧ Below w.heap.size w w' := by
 subst hY
 by_cases h : n < 64
 · exact xG X n w hX h
 · exact wE X n w hX (by omega) hn

theorem KP (X n : Nat) (w : World) (hX : X < 2 ^ 128) (hn : n < 128) (Y : Nat) (hY : Y = X / 2 ^ n) :
 Calls Tryz.prog 62 #[.agg #[.int .u64 (M.hiN X : Int), .int .u64 (M.loN X : Int)], .int .i64 (n : Int)] w fun e w' => e = .returned (.agg #[.int .u64 (M.hiN Y : Int), .int .u64 (M.loN Y : Int)]) ∧ Below w.heap.size w w' := by
 subst hY
 by_cases h : n < 64
 · exact vS X n w hX h
 · exact vG X n w hX (by omega) hn

theorem qD (X Y : Nat) (w : World) (hX : X < 2 ^ 128) (hY : Y < 2 ^ 128) (Z : Nat) (hZ : Z = (X + Y) % 2 ^ 128) :
 Calls Tryz.prog 67 #[.agg #[.int .u64 (M.hiN X : Int), .int .u64 (M.loN X : Int)], .agg #[.int .u64 (M.hiN Y : Int), .int .u64 (M.loN Y : Int)]] w fun e w' => e = .returned (.agg #[.int .u64 (M.hiN Z : Int), .int .u64 (M.loN Z : Int)]) ∧ Below w.heap.size w w' := by
 obtain ⟨e1, e2⟩ := M.FR X Y hX hY
 rw [← hZ] at e1 e2
 have a1 := M.gO X
 have b1 := M.gO Y
 have a2 := M.gS hX
 have b2 := M.gS hY
 generalize M.hiN X = xh at *
 generalize M.loN X = xl at *
 generalize M.hiN Y = yh at *
 generalize M.loN Y = yl at *
 generalize M.hiN Z = zh at *
 generalize M.loN Z = zl at *
 rw [← e1] at e2
 have w1 := eE xl yl zl e1
 have w2 := eE xh yh ((xh + yh) % 18446744073709551616) rfl
 obtain ⟨s, hs⟩ : ∃ s : Nat, s = (xh + yh) % 18446744073709551616 := ⟨_, rfl⟩
 rw [← hs] at w2
 obtain ⟨c, hc⟩ : ∃ c : Nat, c = if (zl : Int) < (yl : Int) then 1 else 0 := ⟨_, rfl⟩
 have hc' : c = if zl < yl then 1 else 0 := by rw [hc]; congr 1; simp
 have w3 := eE s c zh (by rw [e2, ← hc', hs]; omega)
 have HC := hid hc
 clear hc hc' hs e1 e2 hZ hX hY
 go_enter Tryz.func67, Tryz.ntmps67
 go_wp2_with fail
 go_region_held3 (fun v => v.cell? ⟨w.heap.size, 0, none⟩ = some (.int .u64 (xh : Int)) ∧ v.cell? ⟨w.heap.size, 1, none⟩ = some (.int .u64 (xl : Int)) ∧ v.cell? ⟨w.heap.size + 1, 0, none⟩ = some (.int .u64 (yh : Int)) ∧ v.cell? ⟨w.heap.size + 1, 1, none⟩ = some (.int .u64 (yl : Int))) (go_keep) (first | (go_at_call 99; refine (cC _ _ _ c HC.out).mono ?_; rintro e w' ⟨rfl, rfl⟩))
 go_wp2_with fail
 exact bodyPost_ret (v := .agg #[.int .u64 (zh : Int), .int .u64 (zl : Int)]) (by simp [results, Tryz.results67, go_sem]) rfl ⟨rfl, ((((Below.refl _ _).alloc (Nat.le_refl _) _).alloc (by simp) _).alloc (by simp; omega) _).drew⟩

theorem rG (X Y : Nat) (w : World) (hX : X < 2 ^ 128) (hY : Y < 2 ^ 128) (Z : Nat) (hZ : Z = (X + (2 ^ 128 - Y)) % 2 ^ 128) :
 Calls Tryz.prog 64 #[.agg #[.int .u64 (M.hiN X : Int), .int .u64 (M.loN X : Int)], .agg #[.int .u64 (M.hiN Y : Int), .int .u64 (M.loN Y : Int)]] w fun e w' => e = .returned (.agg #[.int .u64 (M.hiN Z : Int), .int .u64 (M.loN Z : Int)]) ∧ Below w.heap.size w w' := by
 obtain ⟨e1, e2⟩ := M.DV X Y hX hY
 rw [← hZ] at e1 e2
 have a1 := M.gO X
 have b1 := M.gO Y
 have a2 := M.gS hX
 have b2 := M.gS hY
 generalize M.hiN X = xh at *
 generalize M.loN X = xl at *
 generalize M.hiN Y = yh at *
 generalize M.loN Y = yl at *
 generalize M.hiN Z = zh at *
 generalize M.loN Z = zl at *
 have w1 := dS xl yl zl e1 (by omega)
 obtain ⟨s, hs⟩ : ∃ s : Nat, s = (xh + 18446744073709551616 - yh) % 18446744073709551616 := ⟨_, rfl⟩
 have w2 := dS xh yh s hs (by omega)
 obtain ⟨c, hc⟩ : ∃ c : Nat, c = if (xl : Int) < (yl : Int) then 1 else 0 := ⟨_, rfl⟩
 have hc' : c = if xl < yl then 1 else 0 := by rw [hc]; congr 1; simp
 have hc2 : c ≤ 1 := by rw [hc']; split <;> omega
 have w3 := dS s c zh (by rw [e2, ← hc', hs]; omega) (by omega)
 have HC := hid hc
 clear hc hc' hs e1 e2 hZ hX hY
 go_enter Tryz.func64, Tryz.ntmps64
 go_wp2_with fail
 go_region_held3 (fun v => v.cell? ⟨w.heap.size, 0, none⟩ = some (.int .u64 (xh : Int)) ∧ v.cell? ⟨w.heap.size, 1, none⟩ = some (.int .u64 (xl : Int)) ∧ v.cell? ⟨w.heap.size + 1, 0, none⟩ = some (.int .u64 (yh : Int)) ∧ v.cell? ⟨w.heap.size + 1, 1, none⟩ = some (.int .u64 (yl : Int))) (go_keep) (first | (go_at_call 99; refine (cC _ _ _ c HC.out).mono ?_; rintro e w' ⟨rfl, rfl⟩))
 go_wp2_with fail
 exact bodyPost_ret (v := .agg #[.int .u64 (zh : Int), .int .u64 (zl : Int)]) (by simp [results, Tryz.results64, go_sem]) rfl ⟨rfl, ((((Below.refl _ _).alloc (Nat.le_refl _) _).alloc (by simp) _).alloc (by simp; omega) _).drew⟩

theorem sL (n : Nat) (w : World) (hn : n < 128) (Y : Nat) (hY : Y = 2 ^ n) :
 Calls Tryz.prog 93 #[.int .i64 (n : Int)] w fun e w' => e = .returned (.agg #[.int .u64 (M.hiN Y : Int), .int .u64 (M.loN Y : Int)]) ∧ Below w.heap.size w w' := by
 have h1 : Y = 1 * 2 ^ n % 2 ^ 128 := by rw [hY, Nat.one_mul, Nat.mod_eq_of_lt (Nat.pow_lt_pow_right (by omega) hn)]
 have HY := hid h1
 clear h1 hY
 have k := fun v : World => GK 1 n v (by omega) hn Y HY.out
 rw [M.lW (show 1 < 18446744073709551616 by omega), M.j4 (show 1 < 18446744073709551616 by omega)] at k
 go_enter Tryz.func93, Tryz.ntmps93
 go_wp2_with fail
 refine (k _).mono ?_
 rintro e v1 ⟨rfl, b1⟩
 clear k
 obtain ⟨hc, hf⟩ := cG b1
 go_wp2_with fail
 exact bodyPost_ret (v := .agg #[.int .u64 (M.hiN Y : Int), .int .u64 (M.loN Y : Int)]) (by simp [results, Tryz.results93, go_sem, hc]) rfl ⟨rfl, (((((Below.refl _ _).alloc (Nat.le_refl _) _).trans (b1.mono (by simp))).setCell (Nat.le_refl _) _).setCell (Nat.le_refl _) _)⟩

end Go.Proofs.YtdfljbpcjkbflaaGreatDoor
namespace Go.Proofs.YtdfljbpcjkbflaaGreatDoor.M
set_option linter.unusedVariables false
set_option maxRecDepth 100000
def jK (a b : Nat) : Int := if a < b then -1 else if b < a then 1 else 0

theorem Fm.Ok.notBad {F : Fm} (h : F.Ok) (X : Nat) (hb : ¬ F.bad X) : F.sgn X ≤ 1 ∧ (F.lead ≤ F.sig X ↔ 0 < F.fld X) := by
 unfold Fm.bad at hb
 exact ⟨by have : ¬ 1 < F.sgn X := fun h1 => hb (.inl h1); omega, Classical.byContradiction fun h2 => hb (.inr h2)⟩

theorem Fm.upk_bad (F : Fm) (X : Nat) (h : (F.upk X).c ≠ 0) : ¬ F.bad X := by
 intro hb; apply h; unfold Fm.upk; simp [hb]

end Go.Proofs.YtdfljbpcjkbflaaGreatDoor.M
namespace Go.Proofs.YtdfljbpcjkbflaaGreatDoor
open Go.RowKit
set_option linter.unusedVariables false
set_option maxRecDepth 100000
theorem IB (F : M.Fm) (h : F.Ok) (w : World) : Calls Tryz.prog 63 #[dv F] w fun e w' => e = .returned (.int .i64 (F.fb : Int)) ∧ Below w.heap.size w w' := by
 have h1 := h.w
 have h2 : (F.wd : Int) - (F.e : Int) - 1 = (F.fb : Int) := by unfold M.Fm.wd; omega
 unfold dv
 have h3 := h.e2
 generalize F.wd = wd at *
 generalize F.fb = fb at *
 go_enter Tryz.func63, Tryz.ntmps63
 go_wp2_with fail
 go_ret
 exact ⟨rfl, (Below.refl _ _).alloc (Nat.le_refl _) _⟩

theorem KO (F : M.Fm) (h : F.Ok) (w : World) : Calls Tryz.prog 66 #[dv F] w fun e w' => e = .returned (.int .i64 (F.top : Int)) ∧ Below w.heap.size w w' := by
 have h2 := h.top2
 have h3 := h.e2
 have e1 : (2 : Int) ^ F.e = ((F.top + 1 : Nat) : Int) := by rw [← h2.2.1]; simp
 have e2 : IntKind.i64.wrap ((2 : Int) ^ F.e) = (F.top : Int) + 1 := by rw [e1]; simp only [IntKind.wrap_i64]; omega
 have hb : F.top ≤ 40000 := by omega
 have HE := hid e1
 unfold dv
 clear h2 e1
 generalize F.top = tp at *
 go_enter Tryz.func66, Tryz.ntmps66
 go_wp2_with fail
 go_ret
 exact ⟨rfl, (Below.refl _ _).alloc (Nat.le_refl _) _⟩

theorem DH (F : M.Fm) (h : F.Ok) (w : World) : Calls Tryz.prog 70 #[dv F] w fun e w' => e = .returned (.int .i64 F.qmin) ∧ Below w.heap.size w w' := by
 have h2 := h.top2
 have h3 := h.p2
 have e1 : 1 - (F.emax : Int) - (F.p : Int) + 1 = F.qmin := by unfold M.Fm.qmin; omega
 have hb : F.emax ≤ 16383 := by omega
 unfold dv
 clear h2
 generalize F.emax = m at *
 generalize F.qmin = q at *
 go_enter Tryz.func70, Tryz.ntmps70
 go_wp2_with fail
 go_ret
 exact ⟨rfl, (Below.refl _ _).alloc (Nat.le_refl _) _⟩

theorem uR (F : M.Fm) (h : F.Ok) (w : World) : Calls Tryz.prog 68 #[dv F] w fun e w' => e = .returned (.agg #[.int .u64 (M.hiN F.lead : Int), .int .u64 (M.loN F.lead : Int)]) ∧ Below w.heap.size w w' := by
 have h2 := h.p1
 have h3 := h.p2
 obtain ⟨q, hq⟩ : ∃ q : Nat, F.p = q + 1 := ⟨F.p - 1, by omega⟩
 have k := fun v : World => sL q v (by omega) F.lead (by unfold M.Fm.lead; rw [hq]; rfl)
 have e1 : (F.p : Int) - 1 = (q : Int) := by omega
 have hb : F.p ≤ 113 := h3
 unfold dv
 clear hq h2 h3
 generalize F.lead = Y at *
 go_enter Tryz.func68, Tryz.ntmps68
 go_wp2_with fail
 refine (k _).mono ?_
 rintro e v1 ⟨rfl, b1⟩
 clear k
 obtain ⟨hc, hf⟩ := cG b1
 go_wp2_with fail
 exact bodyPost_ret (v := .agg #[.int .u64 (M.hiN Y : Int), .int .u64 (M.loN Y : Int)]) (by simp [results, Tryz.results68, go_sem, hc]) rfl ⟨rfl, ((((((Below.refl _ _).alloc (Nat.le_refl _) _).alloc (by simp) _).trans (b1.mono (by simp; omega))).setCell (by simp) _).setCell (by simp) _)⟩

theorem sN (F : M.Fm) (h : F.Ok) (w : World) : Calls Tryz.prog 31 #[dv F] w fun e w' => e = .returned (.bool true) ∧ Below w.heap.size w w' := by
 have h2 := h.p1
 have e1 : ((F.p : Int) == 0) = false := by simp; omega
 have e2 : ¬ F.p = 0 := by omega
 unfold dv
 go_enter Tryz.func31, Tryz.ntmps31
 go_wp2_with fail
 go_ret
 exact ⟨rfl, (Below.refl _ _).alloc (Nat.le_refl _) _⟩

theorem F2 (w : World) : Calls Tryz.prog 31 #[.agg #[.int .i64 0, .int .i64 0, .int .i64 0, .int .i64 0, .int .i64 0, .bool false]] w fun e w' => e = .returned (.bool false) ∧ Below w.heap.size w w' := by
 go_enter Tryz.func31, Tryz.ntmps31
 go_wp2_with fail
 go_ret
 exact ⟨rfl, (Below.refl _ _).alloc (Nat.le_refl _) _⟩

theorem or2 (g : Nat) (a b : Int) (w : World) (h0 : w.cell? ⟨g, 0, none⟩ = some (.int .i64 a)) (h1 : w.cell? ⟨g, 1, none⟩ = some (.int .i64 b)) :
 Calls Tryz.prog 100 #[.slice (some ⟨g, 0, none⟩) 2 2] w fun e w' => e = .returned (.int .i64 (if a = 0 then b else a)) ∧ w' = w := by
 go_enter Tryz.func100, Tryz.ntmps100
 go_wp2_with fail
 go_loop [8] (fun i => i = .int .i64 0 ∨ (i = .int .i64 1 ∧ a = 0) ∨ (i = .int .i64 2 ∧ a = 0 ∧ b = 0)) (fun i => 2 - (intOf i).toNat)
 case atStart => exact .inl rfl
 case round =>
  rcases hrel with rfl | ⟨rfl, ha⟩ | ⟨rfl, ha, hb⟩
  · by_cases ha : a = 0
    · subst ha
      go_wp2_with fail
      go_round
      case rel => exact .inr (.inl ⟨rfl, by simp⟩)
      case measure => simp [intOf]
    · have hne : (a != 0) = true := by simp [ha]
      go_wp2_with fail
      go_ret
      exact ⟨by simp, rfl⟩
  · subst ha
    by_cases hb : b = 0
    · subst hb
      go_wp2_with fail
      go_round
      case rel => exact .inr (.inr ⟨rfl, by simp, by simp⟩)
      case measure => simp [intOf]
    · have hne : (b != 0) = true := by simp [hb]
      go_wp2_with fail
      go_ret
      exact ⟨by simp, rfl⟩
  · subst ha
    subst hb
    go_wp2_with fail
    go_ret
    exact ⟨by simp, rfl⟩

theorem JE (X Y : Nat) : (if aR (M.hiN X : Int) (M.hiN Y : Int) = 0 then aR (M.loN X : Int) (M.loN Y : Int) else aR (M.hiN X : Int) (M.hiN Y : Int)) = M.jK X Y := by
 have a := M.hl X
 have b := M.hl Y
 have a1 := M.gO X
 have b1 := M.gO Y
 generalize M.hiN X = xh at *
 generalize M.loN X = xl at *
 generalize M.hiN Y = yh at *
 generalize M.loN Y = yl at *
 unfold aR M.jK
 rcases Nat.lt_trichotomy xh yh with h | h | h
 · have c1 : (xh : Int) < (yh : Int) := by omega
   have c2 : X < Y := by omega
   simp [c1, c2]
 · subst h
   simp
   rcases Nat.lt_trichotomy xl yl with h | h | h
   · have c2 : X < Y := by omega
     simp [h, c2]
   · subst h
     have : X = Y := by omega
     simp [this]
   · have c2 : Y < X := by omega
     have c3 : ¬ X < Y := by omega
     have c4 : ¬ xl < yl := by omega
     simp [h, c2, c3, c4]
 · have c1 : (yh : Int) < (xh : Int) := by omega
   have c2 : Y < X := by omega
   have c3 : ¬ X < Y := by omega
   have c4 : ¬ (xh : Int) < (yh : Int) := by omega
   simp [c1, c2, c3, c4]

theorem LH (g : Nat) (a b : Int) (w : World) (r : Int) (hr : Hid (r = if a = 0 then b else a)) (h0 : w.cell? ⟨g, 0, none⟩ = some (.int .i64 a)) (h1 : w.cell? ⟨g, 1, none⟩ = some (.int .i64 b)) :
 Calls Tryz.prog 100 #[.slice (some ⟨g, 0, none⟩) 2 2] w fun e w' => e = .returned (.int .i64 r) ∧ w' = w := by
 rw [hr.out]; exact or2 g a b w h0 h1

theorem JM (X Y : Nat) (w : World) (r : Int) (hr : r = M.jK X Y) :
 Calls Tryz.prog 69 #[.agg #[.int .u64 (M.hiN X : Int), .int .u64 (M.loN X : Int)], .agg #[.int .u64 (M.hiN Y : Int), .int .u64 (M.loN Y : Int)]] w fun e w' => e = .returned (.int .i64 r) ∧ Below w.heap.size w w' := by
 rw [← JE] at hr
 have HR := hid hr
 clear hr
 generalize M.hiN X = xh at *
 generalize M.loN X = xl at *
 generalize M.hiN Y = yh at *
 generalize M.loN Y = yl at *
 go_enter Tryz.func69, Tryz.ntmps69
 go_wp2_with fail
 go_region_held3 (fun v => v.cell? ⟨w.heap.size, 0, none⟩ = some (.int .u64 (xh : Int)) ∧ v.cell? ⟨w.heap.size, 1, none⟩ = some (.int .u64 (xl : Int)) ∧ v.cell? ⟨w.heap.size + 1, 0, none⟩ = some (.int .u64 (yh : Int)) ∧ v.cell? ⟨w.heap.size + 1, 1, none⟩ = some (.int .u64 (yl : Int))) (go_keep)
  (first | (go_at_call 101; refine (tS _ _ _).mono ?_; rintro e w' ⟨rfl, rfl⟩) | (go_at_call 100; refine (LH _ (aR (xh : Int) (yh : Int)) (aR (xl : Int) (yl : Int)) _ r HR (by simp [go_sem]) (by simp [go_sem])).mono ?_; rintro e w' ⟨rfl, rfl⟩))
 all_goals go_wp2_with fail
 all_goals go_ret
 all_goals exact ⟨rfl, ((((Below.refl _ _).alloc (Nat.le_refl _) _).alloc (by simp) _).alloc (by simp; omega) _).drew⟩

theorem o9 {w1 W : World} {b : Prop} (h : Below w1.heap.size w1 W ∧ b) (o : Obj) : Below w1.heap.size w1 (W.alloc o) := h.1.alloc h.1.size o

theorem aB {w1 W v : World} (h : Below w1.heap.size w1 W) (k : Below W.heap.size W v) : Below w1.heap.size w1 v := h.trans (k.mono h.size)

theorem aD {w1 W : World} (h : Below w1.heap.size w1 W) (o : Obj) : Below w1.heap.size w1 (W.alloc o) := h.alloc h.size o

theorem aM {w1 W : World} (h : Below w1.heap.size w1 W) (g o : Nat) (hg : w1.heap.size ≤ g) (u : Value) : Below w1.heap.size w1 (W.setCell ⟨g, o, none⟩ u) := h.setCell hg u

theorem kc {w v : World} {p : Addr} {x : Value} (hb : Below w.heap.size w v) (c : w.cell? p = some x) : v.cell? p = some x := (hb.cell (World.block_lt_of_cell? w p c)).trans c

theorem kz {w v : World} {b o : Nat} (hb : Below w.heap.size w v) (h : b < w.heap.size) (c : w.frozen? ⟨b, o, none⟩ = false) : v.frozen? ⟨b, o, none⟩ = false := (hb.frozen h).trans c

def W2 (v : World) (g X : Nat) : Prop := v.cell? ⟨g, 0, none⟩ = some (.int .u64 (M.hiN X : Int)) ∧ v.cell? ⟨g, 1, none⟩ = some (.int .u64 (M.loN X : Int)) ∧ v.frozen? ⟨g, 0, none⟩ = false ∧ v.frozen? ⟨g, 1, none⟩ = false ∧ g < v.heap.size

theorem iO (v : World) (X : Nat) (t : TypeId) : W2 (v.alloc (.cells #[.int .u64 (M.hiN X : Int), .int .u64 (M.loN X : Int)] t)) v.heap.size X := by
 unfold W2; simp [go_sem]

theorem iD {v : World} {g X : Nat} {a b : Value} (h0 : v.cell? ⟨g, 0, none⟩ = some a) (h1 : v.cell? ⟨g, 1, none⟩ = some b) (f0 : v.frozen? ⟨g, 0, none⟩ = false) (f1 : v.frozen? ⟨g, 1, none⟩ = false) :
 W2 ((v.setCell ⟨g, 0, none⟩ (.int .u64 (M.hiN X : Int))).setCell ⟨g, 1, none⟩ (.int .u64 (M.loN X : Int))) g X := by
 have := World.block_lt_of_cell? v ⟨g, 0, none⟩ h0
 unfold W2; simp [go_sem, h0, h1, f0, f1]; simpa using this

theorem far2 (v : World) (x y : Value) {g b o : Nat} (h : b ≠ g) : ((v.setCell ⟨g, 0, none⟩ x).setCell ⟨g, 1, none⟩ y).cell? ⟨b, o, none⟩ = v.cell? ⟨b, o, none⟩ :=
 World.cell?_of_block (w := v) (a := ⟨b, o, none⟩) ((Below.heap_setCell _ _ _ _ h).trans (Below.heap_setCell _ _ _ _ h))

theorem eL (v : World) (x y : Value) {g b o : Nat} (h : b ≠ g) : ((v.setCell ⟨g, 0, none⟩ x).setCell ⟨g, 1, none⟩ y).frozen? ⟨b, o, none⟩ = v.frozen? ⟨b, o, none⟩ :=
 World.frozen?_of_block (w := v) (a := ⟨b, o, none⟩) ((Below.heap_setCell _ _ _ _ h).trans (Below.heap_setCell _ _ _ _ h))

theorem C6 {n : Nat} {r : Int} (e : r = M.jK n 1) (h : ¬ 0 < r) : n ≤ 1 := by
 rw [e] at h
 unfold M.jK at h
 rcases Nat.lt_or_ge 1 n with hh | hh
 · rw [if_neg (by omega), if_pos hh] at h
   exact absurd (by omega) h
 · exact hh

def pv (t : M.Pt) : Value := .agg #[.int .i64 t.c, .bool t.n, .int .u64 (M.hiN t.s : Int), .int .u64 (M.loN t.s : Int), .int .i64 t.q]

theorem zD {a b : Nat} {r : Int} (e : r = M.jK a b) : 0 ≤ r ↔ b ≤ a := by
 rw [e]; unfold M.jK
 by_cases h : a < b
 · rw [if_pos h]; omega
 · rw [if_neg h]
   by_cases h2 : b < a
   · rw [if_pos h2]; omega
   · rw [if_neg h2]; omega

theorem GJ {a b : Nat} {r : Int} (e : r = M.jK a b) : 0 < r ↔ b < a := by
 rw [e]; unfold M.jK
 by_cases h : a < b
 · rw [if_pos h]; omega
 · rw [if_neg h]
   by_cases h2 : b < a
   · rw [if_pos h2]; omega
   · rw [if_neg h2]; omega

theorem JA {F : M.Fm} {X fl Sg Sn : Nat} (h1 : fl = F.fld X) (h2 : Sg = F.sig X) (h3 : Sn = F.sgn X) :
 F.upk X = if 1 < Sn ∨ ¬ (F.lead ≤ Sg ↔ 0 < fl) then ⟨0, false, 0, 0⟩
  else if fl = F.top then (if Sg = F.lead then ⟨4, decide (Sn = 1), 0, 0⟩ else ⟨5, false, 0, 0⟩)
  else if 0 < fl then ⟨3, decide (Sn = 1), Sg, (fl : Int) - F.emax - F.p + 1⟩
  else if Sg = 0 then ⟨1, decide (Sn = 1), 0, 0⟩ else ⟨2, decide (Sn = 1), Sg, F.qmin⟩ := by
 subst h1; subst h2; subst h3
 unfold M.Fm.upk M.Fm.bad
 rfl

theorem hi0 : M.hiN 0 = 0 := by unfold M.hiN; omega

theorem lo0 : M.loN 0 = 0 := by unfold M.loN; omega

theorem dH (t : M.Pt) {a e : Int} {b : Bool} {c d : Nat} (h1 : a = t.c) (h2 : b = t.n) (h3 : c = M.hiN t.s) (h4 : d = M.loN t.s) (h5 : e = t.q) :
 Ending.returned (.agg #[.int .i64 a, .bool b, .int .u64 (c : Int), .int .u64 (d : Int), .int .i64 e]) = .returned (pv t) := by
 subst h1; subst h2; subst h3; subst h4; subst h5; rfl

theorem jJ (v : World) (a b c d e : Value) {g k o : Nat} (h : k ≠ g) : (((((v.setCell ⟨g, 0, none⟩ a).setCell ⟨g, 1, none⟩ b).setCell ⟨g, 2, none⟩ c).setCell ⟨g, 3, none⟩ d).setCell ⟨g, 4, none⟩ e).cell? ⟨k, o, none⟩ = v.cell? ⟨k, o, none⟩ :=
 World.cell?_of_block (w := v) (a := ⟨k, o, none⟩) ((((((Below.heap_setCell _ _ _ _ h).trans (Below.heap_setCell _ _ _ _ h)).trans (Below.heap_setCell _ _ _ _ h)).trans (Below.heap_setCell _ _ _ _ h)).trans (Below.heap_setCell _ _ _ _ h)))

theorem cU {w v : World} {g : Nat} (h : Below w.heap.size w v) (hg : w.heap.size ≤ g) (a b c d e : Value) : Below w.heap.size w (((((v.setCell ⟨g, 0, none⟩ a).setCell ⟨g, 1, none⟩ b).setCell ⟨g, 2, none⟩ c).setCell ⟨g, 3, none⟩ d).setCell ⟨g, 4, none⟩ e) :=
 ((((h.setCell (p := ⟨g, 0, none⟩) hg a).setCell (p := ⟨g, 1, none⟩) hg b).setCell (p := ⟨g, 2, none⟩) hg c).setCell (p := ⟨g, 3, none⟩) hg d).setCell (p := ⟨g, 4, none⟩) hg e

theorem F8 (A e : Nat) (he : e ≤ 64) : A % 18446744073709551616 % 2 ^ e = A % 2 ^ e := by
 have h : (18446744073709551616 : Nat) = 2 ^ e * 2 ^ (64 - e) := by rw [← Nat.pow_add, show e + (64 - e) = 64 by omega]
 rw [h]
 exact Nat.mod_mul_right_mod _ _ _

theorem GR (l : Nat) (hl : l < 18446744073709551616) : (((l : Int) + 9223372036854775808) % 18446744073709551616 - 9223372036854775808) % 18446744073709551616 = (l : Int) := by omega

theorem AI (l : Nat) (hl : l < 40000) : ((l : Int) + 9223372036854775808) % 18446744073709551616 - 9223372036854775808 = (l : Int) := by omega

theorem GX (l e t : Nat) (hl : l < 18446744073709551616) (ht : 2 ^ e = t + 1) (hb : t < 40000) : bits BinOp.and IntKind.i64 (IntKind.i64.wrap (l : Int)) (t : Int) = ((l % 2 ^ e : Nat) : Int) := by
 have e64 : ((2 ^ 64 : Nat) : Int) = 18446744073709551616 := by rfl
 have ht2 : (BitVec.ofInt 64 (t : Int)).toNat = 2 ^ e - 1 := by
  rw [BitVec.toNat_ofInt, ht, e64, Int.emod_eq_of_lt (by omega) (by omega)]
  rfl
 have h2 : l % 2 ^ e < t + 1 := by rw [ht]; exact Nat.mod_lt _ (by omega)
 have key : (BitVec.ofInt 64 (IntKind.i64.wrap (l : Int)) &&& BitVec.ofInt 64 (t : Int)).toNat = ((IntKind.i64.wrap (l : Int)) % ((2 ^ 64 : Nat) : Int)).toNat % 2 ^ e := by
  rw [BitVec.toNat_and, BitVec.toNat_ofInt, ht2, Nat.and_two_pow_sub_one_eq_mod]
 rw [e64, IntKind.wrap_i64, GR l hl, Int.toNat_natCast] at key
 rw [← IntKind.wrap_i64] at key
 show IntKind.i64.wrap ((BitVec.ofInt 64 (IntKind.i64.wrap (l : Int)) &&& BitVec.ofInt 64 (t : Int)).toNat : Nat) = _
 rw [key, IntKind.wrap_i64, AI _ (by omega)]

theorem F4 (A e t : Nat) (ht : 2 ^ e = t + 1) (he : e ≤ 15) : bits BinOp.and IntKind.i64 (IntKind.i64.wrap (M.loN A : Int)) (t : Int) = ((A % 2 ^ e : Nat) : Int) := by
 have hb : 2 ^ e ≤ 2 ^ 15 := Nat.pow_le_pow_right (by omega) he
 rw [GX (M.loN A) e t (M.gO A) ht (by omega)]
 unfold M.loN
 rw [F8 A e (by omega)]

end Go.Proofs.YtdfljbpcjkbflaaGreatDoor
