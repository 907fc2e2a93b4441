import Derived.Test.YtmglhkdgfcbonaaGreatDoorChecked
import Derived.Lib.Strings
import Derived.Lib.Slices
import Derived.Lib.Small
import Derived.Lib.Walk
import Derived.Test.YtmglhkdgfcbonaaGreatDoorrBY
import Derived.Test.YtmglhkdgfcbonaaGreatDoorrBV
import Derived.Test.YtmglhkdgfcbonaaGreatDoorrBN
import Derived.Test.YtmglhkdgfcbonaaGreatDoorrBS
import Derived.Test.YtmglhkdgfcbonaaGreatDoorrChk
set_option maxHeartbeats 1000000
namespace Go.Proofs.YtmglhkdgfcbonaaGreatDoor
open Go.RowKit
set_option linter.unusedVariables false
set_option maxRecDepth 100000
def isDig (c : Nat) : Bool := decide (48 ≤ c) && decide (c ≤ 57)

def ftOk (bs : List Nat) : Bool := decide (1 ≤ bs.length) && decide (bs.length ≤ 20000) && bs.all isDig

def ftDoc (bs : List Nat) : List Nat := if ftOk bs then L (M.dec bs) else []

theorem all_dig {bs : List Nat} (h : bs.all isDig = true) : M.Dig bs := by
 intro c hc
 have := List.all_eq_true.1 h c hc
 simpa [isDig] using this

theorem not_all (bs : List Nat) (k : Nat) (hk : k < bs.length) (h : ¬ (48 ≤ bs.getD k 0 ∧ bs.getD k 0 ≤ 57)) : bs.all isDig = false := by
 rw [List.all_eq_false]
 refine ⟨bs.getD k 0, ?_, ?_⟩
 · rw [List.getD_eq_getElem?_getD, List.getElem?_eq_getElem hk]; exact List.getElem_mem hk
 · generalize bs.getD k 0 = x at h
   simp [isDig]; omega

theorem allDigits_any (ao : Option Addr) (n c : Nat) (bs : List Nat) (w : World) (hl : bs.length = n) (hn : n ≤ 20000) (hr : RdB w ao bs) (b : Bool) (hb : b = bs.all isDig) :
 Calls Tryz.prog 61 #[.slice ao n c] w fun e w' => e = .returned (.bool b) ∧ w' = w := by
 have HB := hid hb; clear hb
 go_enter Tryz.func61, Tryz.ntmps61
 go_wp2_with fail
 go_loopw [7] (fun i wr => ∃ k : Nat, k ≤ n ∧ i = .int .i64 k ∧ (∀ j, j < k → 48 ≤ bs.getD j 0 ∧ bs.getD j 0 ≤ 57) ∧ wr = w) (fun i _ => n - (intOf i).toNat)
 case atStart => exact ⟨0, by omega, rfl, fun j hj => by omega, rfl⟩
 case round =>
  obtain ⟨k, hk, rfl, hd, hwr⟩ := hrel
  subst hwr
  by_cases hlt : k < n
  · have hlt' : (k : Int) < (n : Int) := by omega
    obtain ⟨b2, o2, hbo, hc2⟩ := hr.2 (by omega)
    have hck := hc2 k (by omega)
    clear hc2
    obtain ⟨cv, ecv⟩ : ∃ x, x = bs.getD k 0 := ⟨_, rfl⟩
    rw [← ecv] at hck
    have ECV := hid ecv; clear ecv
    have HD := hid hd; clear hd
    by_cases h1 : cv < 48
    · have h1' : (cv : Int) < 48 := by omega
      have hbf : b = false := by rw [HB.out]; exact not_all bs k (by omega) (by rw [← ECV.out]; omega)
      have HBF := hid hbf; clear hbf
      go_wp2_with fail
      go_ret
      exact ⟨by rw [HBF.out]; rfl, rfl⟩
    · have h1' : ¬ (cv : Int) < 48 := by omega
      by_cases h2 : 57 < cv
      · have h2' : (57 : Int) < (cv : Int) := by omega
        have hbf : b = false := by rw [HB.out]; exact not_all bs k (by omega) (by rw [← ECV.out]; omega)
        have HBF := hid hbf; clear hbf
        go_wp2_with fail
        go_ret
        exact ⟨by rw [HBF.out]; rfl, rfl⟩
      · have h2' : ¬ (57 : Int) < (cv : Int) := by omega
        go_wp2_with fail
        go_roundw
        case rel =>
         have hd2 : ∀ j, j < k + 1 → 48 ≤ bs.getD j 0 ∧ bs.getD j 0 ≤ 57 := by
          intro j hj
          by_cases e : j = k
          · rw [e, ← ECV.out]; omega
          · exact HD.out j (by omega)
         first | exact ⟨k + 1, by omega, by go_num, hd2, by first | rfl | trivial⟩ | ((repeat apply Exists.intro); exact ⟨⟨k + 1, by omega, by go_num, hd2, by first | rfl | trivial⟩, by first | rfl | rw [hbo]⟩)
        case measure => simp [intOf]; omega
  · have e : k = n := by omega
    have hbt : b = true := by
     rw [HB.out, List.all_eq_true]
     intro c hc
     obtain ⟨i, hi, rfl⟩ := List.getElem_of_mem hc
     have := hd i (by omega)
     rw [List.getD_eq_getElem?_getD, List.getElem?_eq_getElem hi] at this
     simpa [isDig] using this
    have hlt' : ¬ (k : Int) < (n : Int) := by omega
    have HBT := hid hbt; clear hbt hd
    go_wp2_with fail
    go_ret
    exact ⟨by rw [HBT.out]; rfl, rfl⟩

theorem M.plus_place (x f c p : Nat) (hp : p = x * f) (hx : x < 18446744073709551616) (hf : f < 18446744073709551616) (hc : c < 18446744073709551616) :
 ∃ o r c' : Nat, o = (p % 18446744073709551616 + c) % 18446744073709551616 ∧ r = (if (o : Int) < (c : Int) then 1 else 0) ∧ c' = p / 18446744073709551616 + r ∧ c' < 18446744073709551616 ∧ o < 18446744073709551616 ∧ o + 18446744073709551616 * c' = p + c := by
 have hb : p ≤ 18446744073709551615 * 18446744073709551615 := by rw [hp]; exact Nat.mul_le_mul (by omega) (by omega)
 refine ⟨_, _, _, rfl, rfl, rfl, ?_, ?_, ?_⟩
 · split <;> omega
 · omega
 · split <;> omega

theorem M.plus_over {V Z c c' P B x o f e : Nat} (h : V + c * P = f * Z + e) (hs : o + B * c' = x * f + c) : V + P * o + c' * (P * B) = f * (Z + P * x) + e := by
 have e1 : P * (o + B * c') = P * (x * f + c) := by rw [hs]
 simp only [Nat.mul_add] at e1 ⊢
 rw [Nat.mul_comm c' (P * B), Nat.mul_assoc]
 rw [Nat.mul_comm c P] at h
 have e2 : f * (P * x) = P * (x * f) := by rw [Nat.mul_comm f, Nat.mul_assoc]
 rw [e2]
 omega

def BlkP (w : World) (g : Nat) (zs : List Nat) (rest : List Value) : Prop := w.heap[g]? = some (.cells (U zs ++ rest).toArray 22 (0, 0))

theorem BlkP.cell {w : World} {g : Nat} {zs : List Nat} {rest : List Value} (h : BlkP w g zs rest) (i : Nat) (hi : i < zs.length) : w.cell? ⟨g, i, none⟩ = some (.int .u64 ((zs.getD i 0 : Nat) : Int)) := by
 rw [cell_of_row w g i _ _ (0, 0) h, List.getElem?_toArray, List.getElem?_append_left (by rw [U_length]; exact hi), U_get zs i hi]

theorem BlkP.frozen {w : World} {g : Nat} {zs : List Nat} {rest : List Value} (h : BlkP w g zs rest) (i : Nat) : w.frozen? ⟨g, i, none⟩ = false := frozen_of_row w g i _ _ h

theorem BlkP.set {w : World} {g : Nat} {zs : List Nat} {rest : List Value} (h : BlkP w g zs rest) (i x : Nat) (hi : i < zs.length) (v : Int) (hv : v = (x : Int)) : BlkP (w.setCell ⟨g, i, none⟩ (.int .u64 v)) g (zs.set i x) rest := by
 subst hv
 unfold BlkP
 rw [heap_setCell_same w g i _ _ _ h, U_set, ← List.set_append_left i _ (by rw [U_length]; exact hi)]
 simp

theorem BlkP.of_own {w : World} {base g n cap : Nat} {xs : List Nat} (h : w.ownsRow base 22 1 (.slice (some ⟨g, 0, none⟩) n cap) n (U xs)) : ∃ rest : List Value, BlkP w g xs rest ∧ n + rest.length = cap ∧ base ≤ g ∧ n ≤ cap ∧ cap ≤ maxLen := by
 have hl := h.1
 rcases h.2 with ⟨he, h0⟩ | ⟨g', cap', cur, he, hb, hg, hc, hm, hs, ht⟩
 · simp at he
 · simp only [Value.slice.injEq, Option.some.injEq, Addr.mk.injEq] at he
   obtain ⟨⟨rfl, _⟩, _, rfl⟩ := he
   rw [Nat.mul_one] at hs ht
   refine ⟨cur.toList.drop n, ?_, by simp; omega, hb, hc, hm⟩
   unfold BlkP
   rw [hg, ← ht, List.take_append_drop]

theorem BlkP.own {w : World} {base g n cap : Nat} {xs : List Nat} {rest : List Value} (h : BlkP w g xs rest) (hb : base ≤ g) (hn : xs.length = n) (hc : n + rest.length = cap) (hm : cap ≤ maxLen) : w.ownsRow base 22 1 (.slice (some ⟨g, 0, none⟩) n cap) n (U xs) := by
 subst hc
 refine ⟨by rw [U_length]; omega, .inr ⟨g, _, (U xs ++ rest).toArray, rfl, hb, h, by omega, hm, by simp [U, hn], ?_⟩⟩
 rw [Nat.mul_one, ← hn, List.take_left' (by rw [U_length])]

theorem timesPlusIn_own (g N cap : Nat) (rest : List Value) (ao : Option Addr) (f ex : Nat) (zs : List Nat) (w : World) (hao : 0 < N → ao = some ⟨g, 0, none⟩) (hB : BlkP w g zs rest) (hz : F64 zs) (ho : N ≤ zs.length) (hN : N ≤ 4194304) (hf : f < 18446744073709551616) (he : ex < 18446744073709551616) :
 Calls Tryz.prog 105 #[.slice ao N cap, .int .u64 (f : Int), .int .u64 (ex : Int)] w fun e w' => ∃ (c : Nat) (cur : List Nat), e = .returned (.int .u64 (c : Int)) ∧ w.grownBy w' (some g) ∧ c < 18446744073709551616 ∧ BlkP w' g cur rest ∧ M.Wrote 18446744073709551616 zs 0 N cur ∧ V (M.seg cur 0 N) + c * 18446744073709551616 ^ N = f * V (M.seg zs 0 N) + ex := by
 go_enter Tryz.func105, Tryz.ntmps105
 go_wp2_with fail
 go_loopw [7, 15] (fun cy i wr => ∃ (k : Nat) (cur : List Nat) (c : Nat), k ≤ N ∧ i = .int .i64 k ∧ cy = .int .u64 c ∧ c < 18446744073709551616 ∧ BlkP wr g cur rest ∧ M.Wrote 18446744073709551616 zs 0 N cur ∧ w.grownBy wr (some g) ∧ (∀ j, k ≤ j → cur.getD j 0 = zs.getD j 0) ∧ V (M.seg cur 0 k) + c * 18446744073709551616 ^ k = f * V (M.seg zs 0 k) + ex) (fun _ i _ => N - (intOf i).toNat)
 case atStart => exact ⟨0, zs, ex, by omega, rfl, rfl, he, hB, M.Wrote.refl hz _ _, World.grownBy.refl _ _, fun _ _ => rfl, by simp [V, M.val, M.seg]⟩
 case round =>
  obtain ⟨k, cur, c, hk, rfl, rfl, hc, hBk, hW, hg, hsame, hv⟩ := hrel
  have HV := hid hv; clear hv
  have HSM := hid hsame; clear hsame
  by_cases hlt : k < N
  · have hao' := hao (by omega)
    have hca := hBk.cell k (by have := hW.len; omega)
    have hfa := hBk.frozen k
    have hx1 : cur.getD k 0 < 18446744073709551616 := M.getD_lt (by omega) hW.lt _
    obtain ⟨x, hxx⟩ : ∃ x : Nat, x = cur.getD k 0 := ⟨_, rfl⟩
    rw [← hxx] at hca hx1
    have HX := hid hxx; clear hxx
    have hlt' : (k : Int) < (N : Int) := by omega
    have HB := hid hBk; clear hBk
    have HG := hid hg; clear hg
    obtain ⟨o, r, c', eo, er, ec', bc', bo', hs⟩ := M.plus_place x f c (x * f) rfl hx1 hf hc
    obtain ⟨hi, ehi⟩ : ∃ h : Nat, h = x * f / 18446744073709551616 := ⟨_, rfl⟩
    obtain ⟨lo, elo⟩ : ∃ h : Nat, h = x * f % 18446744073709551616 := ⟨_, rfl⟩
    rw [← elo] at eo
    rw [← ehi] at ec'
    have w1 := wrapU2 lo c o eo
    have w2 := wrapU_in hi r c' ec' bc'
    have E1 := hid ehi; have E2 := hid elo; have E3 := hid er; have E5 := hid hs; have E6 := hid bc'; have E7 := hid bo'
    clear ehi elo er hs bc' bo' eo ec'
    go_wp2_with fail
    refine (mul64_any x f _ hx1 hf hi lo E1.out E2.out).mono ?_
    rintro e v1 ⟨rfl, rfl⟩
    go_wp2_with fail
    refine (less_any _ _ _ r E3.out).mono ?_
    rintro e w3' ⟨rfl, hw3⟩
    have hB3 : BlkP w3' g (cur.set k o) rest := by rw [hw3]; exact HB.out.set _ _ (by have := hW.len; omega) _ rfl
    have hg3 : w.grownBy w3' (some g) := by rw [hw3]; exact grown_trans HG.out (grown_setCell _ _ _ _)
    have hW3 := hW.set k o (by omega) E7.out
    rw [Nat.zero_add] at hW3
    have HB3 := hid hB3; clear hB3
    have HG3 := hid hg3; clear hg3
    clear hw3 hca hfa
    go_wp2_with fail
    go_roundw
    case rel =>
     have R : ∃ (k1 : Nat) (cur1 : List Nat) (c1 : Nat), k1 ≤ N ∧ Value.int .i64 ((k : Int) + 1) = .int .i64 k1 ∧ Value.int .u64 (c' : Int) = .int .u64 c1 ∧ c1 < 18446744073709551616 ∧ BlkP w3' g cur1 rest ∧ M.Wrote 18446744073709551616 zs 0 N cur1 ∧ w.grownBy w3' (some g) ∧ (∀ j, k1 ≤ j → cur1.getD j 0 = zs.getD j 0) ∧ V (M.seg cur1 0 k1) + c1 * 18446744073709551616 ^ k1 = f * V (M.seg zs 0 k1) + ex := by
      refine ⟨k + 1, cur.set k o, c', by omega, by go_num, rfl, E6.out, HB3.out, hW3, HG3.out, fun j hj => ?_, ?_⟩
      · rw [M.getD_set_ne _ _ _ _ (by omega)]; exact HSM.out j (by omega)
      · have hzx : zs.getD (0 + k) 0 = x := by rw [Nat.zero_add, ← HSM.out k (Nat.le_refl _)]; exact HX.out.symm
        have hcx : (cur.set k o).getD (0 + k) 0 = o := by rw [Nat.zero_add, M.getD_set_eq _ _ _ (by have := hW.len; omega)]
        have hsg : M.seg (cur.set k o) 0 k = M.seg cur 0 k := by
         unfold M.seg
         rw [List.drop_zero, List.drop_zero, List.take_set_of_le (Nat.le_refl _)]
        unfold V
        rw [M.val_seg_succ, M.val_seg_succ, hzx, hcx, hsg, Nat.pow_succ]
        exact M.plus_over HV.out E5.out
     first | exact R | ((repeat apply Exists.intro); exact ⟨R, rfl⟩) | ((repeat apply Exists.intro); exact ⟨R, by rw [hao']⟩)
    case measure => simp [intOf]; omega
  · have e : k = N := by omega
    subst e
    have HBk := hid hBk; clear hBk
    have HG := hid hg; clear hg
    go_wp2_with fail
    go_ret
    exact ⟨c, cur, rfl, HG.out, hc, HBk.out, hW, HV.out⟩

def pvs (bs : List Nat) (pre : List Nat) : Nat := pre.foldl (fun v k => v * 10 ^ chn bs.length k + M.dec (M.seg bs (19 * k) (chn bs.length k))) 0

theorem pvs_snoc (bs pre : List Nat) (k : Nat) : pvs bs (pre ++ [k]) = pvs bs pre * 10 ^ chn bs.length k + M.dec (M.seg bs (19 * k) (chn bs.length k)) := by simp [pvs]

theorem seg_dec_lt (bs : List Nat) (hd : M.Dig bs) (i m : Nat) : M.dec (M.seg bs i m) < 10 ^ m := by
 have h := M.dec_lt _ (hd.seg i m)
 exact Nat.lt_of_lt_of_le h (Nat.pow_le_pow_right (by omega) (by simp [M.seg]; omega))

theorem pvs_step {a m d K : Nat} (ha : a < 10 ^ K) (hd : d < 10 ^ m) (hm : m ≤ 19) : a * 10 ^ m + d < 10 ^ (K + 19) := by
 have h1 : (a + 1) * 10 ^ m ≤ 10 ^ K * 10 ^ m := Nat.mul_le_mul_right _ ha
 have h2 : 10 ^ K * 10 ^ m ≤ 10 ^ (K + 19) := by rw [← Nat.pow_add]; exact Nat.pow_le_pow_right (by omega) (by omega)
 rw [Nat.add_mul, Nat.one_mul] at h1
 omega

theorem pvs_lt (bs : List Nat) (hd : M.Dig bs) (pre : List Nat) : pvs bs pre < 10 ^ (19 * pre.length) := by
 have key : ∀ (j : Nat) (pre : List Nat), pre.length = j → pvs bs pre < 10 ^ (19 * j) := by
  intro j
  induction j with
  | zero =>
    intro pre hp
    rw [List.eq_nil_of_length_eq_zero hp]
    simp [pvs]
  | succ j ih =>
    intro pre hp
    have hne : pre ≠ [] := by intro e; rw [e] at hp; simp at hp
    rw [← List.dropLast_concat_getLast hne, pvs_snoc, Nat.mul_add]
    exact pvs_step (ih _ (by rw [List.length_dropLast]; omega)) (seg_dec_lt bs hd _ _) (by unfold chn; omega)
 exact key _ pre rfl

theorem pvs_range (bs : List Nat) (j : Nat) (hj : 19 * j < bs.length + 19) : pvs bs (List.range j) = M.dec (bs.take (19 * j)) := by
 induction j with
 | zero => simp [pvs, M.dec]
 | succ j ih =>
   rw [List.range_succ, pvs_snoc, ih (by omega)]
   have e : chn bs.length j = min 19 (bs.length - 19 * j) := rfl
   rw [← M.dec_take_add bs (19 * j) (chn bs.length j) (by omega)]
   rcases Nat.le_total (19 * (j + 1)) bs.length with h | h
   · rw [show 19 * j + chn bs.length j = 19 * (j + 1) by omega]
   · rw [List.take_of_length_le (by omega), List.take_of_length_le h]

theorem pvs_all (bs : List Nat) : pvs bs (List.range ((bs.length + 18) / 19)) = M.dec bs := by
 rw [pvs_range bs _ (by omega), List.take_of_length_le (by omega)]

theorem L_short (v K : Nat) (h : v < 10 ^ (19 * K)) : (L v).length ≤ K := by
 refine M.len_of_lt (B := 18446744073709551616) (by omega) _ _ (Nat.lt_of_lt_of_le h ?_)
 rw [Nat.pow_mul]
 exact Nat.pow_le_pow_left (by omega) _

theorem grow_limbs (v f ex c : Nat) (cur : List Nat) (hlen : cur.length = (L v).length) (hF : F64 cur) (hc : c < 18446744073709551616) (hf : 0 < f)
 (h : V cur + c * 18446744073709551616 ^ (L v).length = f * v + ex) : (c = 0 → cur = L (f * v + ex)) ∧ (c ≠ 0 → cur ++ [c] = L (f * v + ex)) := by
 refine ⟨fun e => ?_, fun e => ?_⟩
 · subst e
   rw [Nat.zero_mul, Nat.add_zero] at h
   rw [← h]
   refine M.dig_of (by omega) cur hF ?_
   rcases Nat.eq_zero_or_pos cur.length with h0 | h0
   · exact .inl (List.eq_nil_of_length_eq_zero h0)
   · right
     intro hz
     have hv : 0 < v := by
      rcases Nat.eq_zero_or_pos v with e | e
      · subst e; rw [hlen] at h0; simp [L, M.dig_zero] at h0
      · exact e
     have h1 := M.dig_le (B := 18446744073709551616) (by omega) v hv
     have h2 : v ≤ f * v := Nat.le_mul_of_pos_left v hf
     have h3 := M.val_take_succ 18446744073709551616 cur (cur.length - 1)
     rw [show cur.length - 1 + 1 = cur.length by omega, List.take_length, hz, Nat.mul_zero, Nat.add_zero] at h3
     have h4 := M.val_lt (B := 18446744073709551616) (by omega) (cur.take (cur.length - 1)) (fun x hx => hF x (List.mem_of_mem_take hx))
     rw [← h3, List.length_take, Nat.min_eq_left (by omega), hlen] at h4
     have h5 : V cur = M.val 18446744073709551616 cur := rfl
     have h6 : (M.dig 18446744073709551616 v).length = (L v).length := rfl
     rw [h6] at h1
     omega
 · have hv : V (cur ++ [c]) = f * v + ex := by
    rw [← h, ← hlen]
    show M.val _ _ = _
    rw [M.val_snoc, Nat.mul_comm c]
    rfl
   rw [← hv]
   refine M.dig_of (by omega) (cur ++ [c]) ?_ (.inr ?_)
   · intro x hx
     rcases List.mem_append.1 hx with hx | hx
     · exact hF x hx
     · simp at hx; omega
   · simp [List.getD_eq_getElem?_getD, e]

theorem ownsRow_kept {a b : World} {base e n : Nat} {v : Value} {xs : List Value} {row : Option Nat} (h : a.ownsRow base e 1 v n xs) (hg : a.grownBy b row) (hr : ∀ r, row = some r → ∃ o : Obj, a.heap[r]? = some o ∧ o.isCells = false) : b.ownsRow base e 1 v n xs := by
 refine ⟨h.1, ?_⟩
 rcases h.2 with h' | ⟨g, cap', cur, e1, hb, hh, r⟩
 · exact .inl h'
 · refine .inr ⟨g, cap', cur, e1, hb, ?_, r⟩
   refine (hg.block g (Array.getElem?_eq_some_iff.1 hh).1 ?_).trans hh
   intro e2
   obtain ⟨o, ho, hc⟩ := hr g e2.symm
   rw [hh] at ho
   injection ho with ho
   rw [← ho] at hc
   simp [Obj.isCells] at hc

end Go.Proofs.YtmglhkdgfcbonaaGreatDoor
