import Derived.Test.YtehplfmnipadmabTxtM
import Derived.Test.YtehplfmnipadmabTxt2
import Derived.Test.YtehplfmnipadmabW7
import Derived.Test.YtehplfmnipadmabW19
import Derived.Test.YtehplfmnipadmabByt
import Derived.Deep.CutBlock
import Derived.Deep.DeepCutAuto
namespace Go.Proofs.Ytehplfmnipadmab
open Go.RowKit
set_option linter.unusedVariables false

theorem dec_len (bs : List Nat) (h : M.Dig bs) : (D (M.dec bs)).length ≤ bs.length :=
  M.len_of_lt (B := 4294967296) (by omega) _ _ (Nat.lt_of_lt_of_le (M.dec_lt bs h) (Nat.pow_le_pow_left (by omega) _))

set_option maxHeartbeats 2000000 in
theorem l1Digits_any (ao : Option Addr) (n c : Nat) (bs : List Nat) (w : World) (hl : bs.length = n) (hn : n ≤ 20000) (hd : M.Dig bs) (hr : RdB w ao bs) :
    Calls Try.prog 48 #[.slice ao n c] w fun e w' => Ret w w' e (D (M.dec bs)) := by
  go_enter Try.func48, Try.ntmps48
  go_wp2_with fail
  go_loopw [3, 4] (fun v i wr => ∃ (k : Nat) (oa : Option Addr) (oc : Nat), k ≤ n ∧ i = .int .i64 k ∧ v = .slice oa (D (M.dec (bs.take k))).length oc ∧ wr.ownsRow w.heap.size 39 1 (.slice oa (D (M.dec (bs.take k))).length oc) (D (M.dec (bs.take k))).length (U (D (M.dec (bs.take k)))) ∧ Below w.heap.size w wr) (fun _ i _ => n - (intOf i).toNat)
  case atStart => exact ⟨0, none, 0, by omega, rfl, rfl, World.ownsRow_nil _ _ _ _, Below.refl _ _⟩
  case round =>
    obtain ⟨k, oa, oc, hk, rfl, rfl, hown, hbl⟩ := hrel
    by_cases hlt : k < n
    · have hlt' : (k : Int) < (n : Int) := by omega
      obtain ⟨nd, end_⟩ : ∃ x, x = D (M.dec (bs.take k)) := ⟨_, rfl⟩
      rw [← end_] at hown ⊢
      have END := hid end_; clear end_
      have HOWN := hid hown; clear hown
      go_upto_block 2 with fail
      go_cut [4, 5, 6, 7] (fun i x p j wc => ∃ t : Nat, 1 ≤ t ∧ t ≤ 9 ∧ k + t ≤ n ∧ i = .int .i64 ((k + t : Nat) : Int) ∧ x = .int .u64 ((M.dec (M.seg bs k t) : Nat) : Int) ∧ p = .int .u64 ((10 ^ t : Nat) : Int) ∧ (∃ jj : Nat, j = .int .i64 (jj : Int)) ∧ wc = wr)
      case first =>
        go_wp2_with fail
        go_loopw [4, 5, 6, 7] (fun i x p j wv => ∃ t : Nat, t ≤ 9 ∧ k + t ≤ n ∧ i = .int .i64 ((k + t : Nat) : Int) ∧ x = .int .u64 ((M.dec (M.seg bs k t) : Nat) : Int) ∧ p = .int .u64 ((10 ^ t : Nat) : Int) ∧ j = .int .i64 (t : Int) ∧ wv = wr) (fun _ _ _ j _ => 9 - (intOf j).toNat)
        case atStart => exact ⟨0, by omega, by omega, rfl, by simp [M.seg, M.dec], rfl, rfl, rfl⟩
        case round =>
          rename World => wv
          obtain ⟨t, ht9, htn, rfl, rfl, rfl, rfl, hwv⟩ := hrel
          subst hwv
          have hxl := M.dec_lt (M.seg bs k t) (hd.seg k t)
          rw [M.seg_length _ _ _ (by omega)] at hxl
          have hp9 : 10 ^ t ≤ 10 ^ 9 := Nat.pow_le_pow_right (by omega) ht9
          obtain ⟨xv, exv⟩ : ∃ x, x = M.dec (M.seg bs k t) := ⟨_, rfl⟩
          obtain ⟨pv, epv⟩ : ∃ x, x = 10 ^ t := ⟨_, rfl⟩
          obtain ⟨q, eq⟩ : ∃ x, x = k + t := ⟨_, rfl⟩
          rw [← exv, ← epv] at hxl
          rw [← epv] at hp9
          rw [← exv, ← epv, ← eq]
          have EXV := hid exv; have EPV := hid epv; have EQ := hid eq
          clear exv epv eq
          by_cases hj : t < 9
          · have hj' : (t : Int) < 9 := by omega
            by_cases hi : q < n
            · have hi' : (q : Int) < (n : Int) := by omega
              obtain ⟨b2, o2, hbo, hc2⟩ := (hr.below hbl).2 (by omega)
              have hck := hc2 q (by omega)
              clear hc2
              have hcd := hd.get q (by omega)
              obtain ⟨cv, ecv⟩ : ∃ x, x = bs.getD q 0 := ⟨_, rfl⟩
              rw [← ecv] at hck hcd
              obtain ⟨dv, edv⟩ : ∃ x, x = cv - 48 := ⟨_, rfl⟩
              have hdI : (cv : Int) - 48 = (dv : Int) := by omega
              have hdb : dv ≤ 9 := by omega
              obtain ⟨x2, ex2⟩ : ∃ x, x = xv * 10 := ⟨_, rfl⟩
              have wx2 : (xv : Int) * 10 = (x2 : Int) := by omega
              obtain ⟨x3, ex3⟩ : ∃ x, x = x2 + dv := ⟨_, rfl⟩
              have wx3 : (x2 : Int) + (dv : Int) = (x3 : Int) := by omega
              obtain ⟨p2, ep2⟩ : ∃ x, x = pv * 10 := ⟨_, rfl⟩
              have wp2 : (pv : Int) * 10 = (p2 : Int) := by omega
              have hb2 : x2 ≤ 10000000000 := by omega
              have hb3 : x3 ≤ 20000000000 := by omega
              have hb4 : p2 ≤ 10000000000 := by omega
              have ECV := hid ecv; have EDV := hid edv; have EX2 := hid ex2; have EX3 := hid ex3; have EP2 := hid ep2
              clear ecv edv ex2 ex3 ep2
              go_wp2_with fail
              go_roundw
              case rel =>
                refine ⟨t + 1, by omega, by have := EQ.out; omega, ?_, ?_, ?_, by go_num, by first | rfl | trivial⟩
                · have := EQ.out
                  rw [show ((k + (t + 1) : Nat) : Int) = (q : Int) + 1 by omega]
                · have h1 := M.dec_seg_succ bs k t (by have := EQ.out; omega)
                  rw [← EXV.out, ← EQ.out, ← ECV.out, ← EDV.out, ← EX2.out, ← EX3.out] at h1
                  rw [h1]
                · rw [Nat.pow_succ, ← EPV.out, ← EP2.out]
              case measure => simp [intOf]; omega
            · have hi' : ¬ (q : Int) < (n : Int) := by omega
              go_wp2_with fail
              go_meet
              case rel => exact ⟨t, by have := EQ.out; omega, ht9, htn, by rw [← EQ.out], by rw [← EXV.out], by rw [← EPV.out], ⟨t, rfl⟩, by first | rfl | trivial⟩
          · have hj' : ¬ (t : Int) < 9 := by omega
            go_wp2_with fail
            go_meet
            case rel => exact ⟨t, by omega, ht9, htn, by rw [← EQ.out], by rw [← EXV.out], by rw [← EPV.out], ⟨t, rfl⟩, by first | rfl | trivial⟩
      case rest =>
        obtain ⟨t, ht1, ht9, htn, rfl, rfl, rfl, ⟨jj, rfl⟩, hwc⟩ := hcut
        subst hwc
        have hxl := M.dec_lt (M.seg bs k t) (hd.seg k t)
        rw [M.seg_length _ _ _ (by omega)] at hxl
        have hp9 : 10 ^ t ≤ 10 ^ 9 := Nat.pow_le_pow_right (by omega) ht9
        have hnum := M.dec_take_add bs k t (by omega)
        have hs := dec_len (bs.take k) (fun c hc => hd c (List.mem_of_mem_take hc))
        have hs2 : (D (M.dec (bs.take k) * 10 ^ t)).length ≤ 20100 := by
          obtain ⟨KK, eKK⟩ : ∃ x, x = 20100 := ⟨_, rfl⟩
          rw [← eKK]
          refine M.len_of_lt (B := 4294967296) (by omega) _ _ ?_
          have h1 := M.dec_lt (bs.take k) (fun c hc => hd c (List.mem_of_mem_take hc))
          rw [show (bs.take k).length = k by simp; omega] at h1
          have h2 : M.dec (bs.take k) * 10 ^ t < 10 ^ k * 10 ^ t := Nat.mul_lt_mul_of_pos_right h1 (Nat.pow_pos (by omega))
          rw [← Nat.pow_add] at h2
          have h3 : 10 ^ (k + t) ≤ 4294967296 ^ (k + t) := Nat.pow_le_pow_left (by omega) _
          have h4 : 4294967296 ^ (k + t) ≤ 4294967296 ^ KK := Nat.pow_le_pow_right (by omega) (by omega)
          exact Nat.lt_of_lt_of_le h2 (Nat.le_trans h3 h4)
        rw [show (bs.take k).length = k by simp; omega] at hs
        obtain ⟨xv, exv⟩ : ∃ x, x = M.dec (M.seg bs k t) := ⟨_, rfl⟩
        obtain ⟨pv, epv⟩ : ∃ x, x = 10 ^ t := ⟨_, rfl⟩
        obtain ⟨q, eq⟩ : ∃ x, x = k + t := ⟨_, rfl⟩
        obtain ⟨nv, env⟩ : ∃ x, x = M.dec (bs.take k) := ⟨_, rfl⟩
        rw [← exv, ← epv] at hxl
        rw [← epv] at hp9
        rw [← env, ← epv] at hs2
        rw [← env] at hs
        rw [← exv, ← epv, ← eq, ← env] at hnum
        rw [← exv, ← epv, ← eq]
        have hnd : nd = D nv := by rw [END.out, env]
        subst hnd
        have hsx : (D xv).length ≤ 20000 := Nat.le_trans (M.len_of_lt (B := 4294967296) (by omega) xv 1 (by omega)) (by omega)
        have EXV := hid exv; have EPV := hid epv; have EQ := hid eq; have ENV := hid env; have HN := hid hnum
        clear exv epv eq env hnum
        go_wp2_with fail
        refine (l1Times_any oa _ oc pv nv _ rfl (by omega) (by omega) (Rd.own HOWN.out)).mono ?_
        rintro e v1 ⟨a1, c1, rfl, o1, b1'⟩
        have b1 := hbl.trans (b1'.mono hbl.size)
        go_wp2_with fail
        refine (l1Of_any xv _ (by omega)).mono ?_
        rintro e v2 ⟨a2, c2, rfl, o2, b2'⟩
        have b2 := b1.trans (b2'.mono b1.size)
        go_wp2_with fail
        refine (l1Add_any a1 a2 _ _ c1 c2 (nv * pv) xv _ rfl rfl (by omega) (by omega) ((Rd.own o1).below b2') (Rd.own o2)).mono ?_
        rw [← HN.out]
        rintro e v3 ⟨a3, c3, rfl, o3, b3'⟩
        have b3 := b2.trans (b3'.mono b2.size)
        have o3' := own_base o3 b2.size
        have O3 := hid o3'; have B3 := hid b3
        clear o1 o2 o3 o3' b1 b2 b3 b1' b2' b3' HOWN
        go_wp2_with fail
        go_roundw
        case rel =>
          have R : ∃ (k1 : Nat) (oa1 : Option Addr) (oc1 : Nat), k1 ≤ n ∧ Value.int .i64 (q : Int) = .int .i64 k1 ∧ Value.slice a3 (D (M.dec (bs.take q))).length c3 = .slice oa1 (D (M.dec (bs.take k1))).length oc1 ∧ v3.ownsRow w.heap.size 39 1 (.slice oa1 (D (M.dec (bs.take k1))).length oc1) (D (M.dec (bs.take k1))).length (U (D (M.dec (bs.take k1)))) ∧ Below w.heap.size w v3 :=
            ⟨q, a3, c3, by have := EQ.out; omega, rfl, rfl, O3.out, B3.out⟩
          first | exact R | ((repeat apply Exists.intro); exact ⟨R, rfl⟩)
        case measure => simp [intOf]; have := EQ.out; omega
    · have e : k = n := by omega
      subst e
      have hlt' : ¬ (k : Int) < (k : Int) := by omega
      rw [List.take_of_length_le (by omega)] at hown ⊢
      go_wp2_with fail
      go_ret
      exact ⟨oa, oc, rfl, hown, hbl⟩

end Go.Proofs.Ytehplfmnipadmab
