import Derived.Test.YtfdgkleoaehjaaaGreatDoorsGAU
set_option maxHeartbeats 2000000
namespace Go.Proofs.YtfdgkleoaehjaaaGreatDoor
open Go.RowKit
set_option linter.unusedVariables false
set_option maxRecDepth 100000
theorem M.times32 (x y cc : Nat) (hx : x < 4294967296) (hy : y < 4294967296) (hc : cc < 4294967296) : y * x + cc < 18446744073709551616 /\ (y * x + cc) / 4294967296 < 4294967296 := by
 have h : y * x <= 4294967295 * 4294967295 := Nat.mul_le_mul (by omega) (by omega)
 constructor <;> omega

theorem M.times32_over {S c c' P C o y x T : Nat} (h : S + c * P = x * T) (hs : o + C * c' = y * x + c) : S + P * o + c' * (P * C) = x * (T + P * y) := by
 have e : P * (o + C * c') = P * (y * x + c) := by rw [hs]
 simp only [Nat.mul_add] at e |-;rw [Nat.mul_comm c' (P * C), Nat.mul_assoc];rw [Nat.mul_comm c P] at h;have e2 : x * (P * y) = P * (y * x) := by rw [Nat.mul_comm x, Nat.mul_assoc]
 rw [e2];omega

theorem eR (ao : Option Addr) (n c x : Nat) (a : Nat) (w : World) (hl : (D a).length = n) (hn : n <= 1048576) (hx : x < 4294967296) (hr : Rd w ao (D a)) :
 Calls Tryz.prog 54 #[.slice ao n c, .int .u64 (x : Int)] w fun e w' => Ret w w' e (D (a * x)) := by
 obtain ⟨i0, hi, hz0, hz1, hz2⟩ := info_parts Tryz.infoU;have fa := gO a;go_enter Tryz.func54, Tryz.ntmps54;go_wp2_with fail
 go_loopw [5, 6, 7] (fun v cy i wr => ∃ (k : Nat) (os : List Nat) (cc : Nat), k <= n /\ i = .int .i64 k /\ cy = .int .u64 cc /\ cc < 4294967296 /\ wr.ownsRow w.heap.size 25 1 v k (U os) /\ F32 os /\ os.length = k /\ X os + cc * 4294967296 ^ k = x * X ((D a).take k) /\ Below w.heap.size w wr) (fun _ _ i _ => n - (intOf i).toNat)
 case atStart =>
  refine ⟨0, [], 0, by omega, rfl, rfl, by omega, World.ownsRow_nil _ _ _ _, fun x hx => by simp at hx, rfl, by simp [X, M.val], Below.refl _ _⟩
 case round =>
  obtain ⟨k, os, cc, hk, rfl, rfl, hcc, hown, hf, hlen, hv, hbl⟩ := hrel;have HV := hid hv; clear hv;have HLen := hid hlen; clear hlen
  by_cases hlt : k < n
  . obtain ⟨b2, o2, hbo, hc2⟩ := (hr.below hbl) (by omega);have hck := hc2 k (by omega);clear hc2;have hy1 := fa.get k;obtain ⟨y, hyy⟩ : ∃ y : Nat, y = (D a).getD k 0 := ⟨_, rfl⟩;rw [<- hyy] at hck hy1;have HY := hid hyy; clear hyy;have hlt' : (k : Int) < (n : Int) := by omega
    have hbb := M.times32 x y cc hx hy1 hcc;obtain ⟨p, ep⟩ : ∃ p : Nat, p = y * x := ⟨_, rfl⟩;rw [<- ep] at hbb;have wp := jP y x p ep (by omega);obtain ⟨t, et⟩ : ∃ t : Nat, t = p + cc := ⟨_, rfl⟩;rw [<- et] at hbb;have wt := tA p cc t et (by omega);have htI : (p : Int) + (cc : Int) = (t : Int) := by omega
    have hlow := mS t (by omega);obtain ⟨o, eo⟩ : ∃ o : Nat, o = t % 4294967296 := ⟨_, rfl⟩;rw [<- eo] at hlow;obtain ⟨h, eh⟩ : ∃ h : Nat, h = t / 4294967296 := ⟨_, rfl⟩;have hhi : (t : Int) / 4294967296 = (h : Int) := by omega
    have htb : t < 18446744073709551616 := hbb.1;have hsum : o + 4294967296 * h = y * x + cc /\ o < 4294967296 /\ h < 4294967296 := by rw [<- ep]; omega
    have E1 := hid hsum; have E2 := hid hbb; have E3 := hid et; have E4 := hid eo; have E5 := hid eh; have E6 := hid ep;clear hsum hbb et eo eh ep hcc
    go_wp2_with (at_builtin; refine wpList_append_own _ rfl _ _ 56 rfl w.heap.size 25 i0 (.int .u64 0) 1 8 Tryz.underlying56 hi hz0 hz1 hz2 rfl (by decide) _ _ _ rfl (hown.alloc _) ⟨wr.heap.size, 0, none⟩ 1 1 (U [o]) rfl rfl ?c1 ?c2 ?c3 ?c4 ?c5 ?_)
    case c1 =>
     intro j u hj
     match j, hj with
     | 0, hj => simp [U] at hj; subst hj; simp [Addr.add]
    case c2 => exact iE _
    case c3 => unfold maxLen; omega
    case c4 => omega
    case c5 => have := hbl.size; simp; omega
    intro v' w1 hown' hgrow hnn;clear hnn
    have hb1 : Below w.heap.size w w1 := (hbl.alloc hbl.size _).grown hgrow (by have := hbl.size; simp; omega) (fun k' hk' => (hown.lt k' hk').1)
    clear hgrow;clear hown;go_wp2_with fail;go_roundw
    case rel =>
     have R : ∃ (k1 : Nat) (os1 : List Nat) (cc1 : Nat), k1 <= n /\ Value.int .i64 ((k : Int) + 1) = .int .i64 k1 /\ Value.int .u64 (h : Int) = .int .u64 cc1 /\ cc1 < 4294967296 /\ w1.ownsRow w.heap.size 25 1 v' k1 (U os1) /\ F32 os1 /\ os1.length = k1 /\ X os1 + cc1 * 4294967296 ^ k1 = x * X ((D a).take k1) /\ Below w.heap.size w w1 := by
      refine ⟨k + 1, os ++ [o], h, by omega, by go_num, rfl, E1.out.2.2, ?_, ?_, by simp [HLen.out], ?_, hb1⟩
      . rw [dI]; exact hown'
      . intro z hz;rcases List.mem_append.1 hz with hz | hz
        . exact hf z hz
        . simp at hz; have := E1.out.2.1; omega
      . have e3 := HV.out;unfold X at *;rw [M.aK, <- HY.out, Nat.pow_succ, M.gP, HLen.out];exact M.times32_over e3 E1.out.1
     first | exact R | ((repeat apply Exists.intro); exact ⟨R, rfl⟩) | ((repeat apply Exists.intro); exact ⟨R, by rw [hbo]⟩)
    case measure => simp [intOf]; omega
  . have e : k = n := by omega
    subst e
    have hv1 : X os + cc * 4294967296 ^ k = a * x := by
     have := HV.out;rw [jU a k (by omega), Nat.mul_comm x] at this;exact this
    have hlt' : ¬ (k : Int) < (k : Int) := by omega
    clear HV;have HV := hid hv1; clear hv1;have HLen0 := HLen;go_wp2_with fail
    go_loopw [5, 6] (fun v cy wq => ∃ (j : Nat) (os : List Nat) (cc : Nat), j <= k + 1 /\ (j = k + 1 -> cc = 0) /\ cy = .int .u64 cc /\ cc < 4294967296 /\ wq.ownsRow w.heap.size 25 1 v j (U os) /\ F32 os /\ os.length = j /\ X os + cc * 4294967296 ^ j = a * x /\ Below w.heap.size w wq) (fun _ cy _ => (intOf cy).toNat)
    case atStart => exact ⟨k, os, cc, by omega, by omega, rfl, hcc, hown, hf, HLen.out, HV.out, hbl⟩
    case round =>
     clear HV HLen HLen0 hcc hown hf hbl
     rename World => wq
     obtain ⟨j, os2, c2, hj, hj2, rfl, hc2, hown, hf, hlen, hv, hbl⟩ := hrel;have HV := hid hv; clear hv;have HLen := hid hlen; clear hlen
     by_cases hc0 : 0 < c2
     . have hc0' : (0 : Int) < (c2 : Int) := by omega
       have hjk : j <= k := by omega
       have hlow := mS c2 (by omega);rw [Nat.mod_eq_of_lt hc2] at hlow;have hhi : (c2 : Int) / 4294967296 = ((0 : Nat) : Int) := by omega
       go_wp2_with (at_builtin; refine wpList_append_own _ rfl _ _ 56 rfl w.heap.size 25 i0 (.int .u64 0) 1 8 Tryz.underlying56 hi hz0 hz1 hz2 rfl (by decide) _ _ _ rfl (hown.alloc _) ⟨wq.heap.size, 0, none⟩ 1 1 (U [c2]) rfl rfl ?c1 ?c2 ?c3 ?c4 ?c5 ?_)
       case c1 =>
        intro j u hj
        match j, hj with
        | 0, hj => simp [U] at hj; subst hj; simp [Addr.add]
       case c2 => exact iE _
       case c3 => unfold maxLen; omega
       case c4 => omega
       case c5 => have := hbl.size; simp; omega
       intro v' w1 hown' hgrow hnn;clear hnn
       have hb1 : Below w.heap.size w w1 := (hbl.alloc hbl.size _).grown hgrow (by have := hbl.size; simp; omega) (fun k' hk' => (hown.lt k' hk').1)
       clear hgrow;clear hown;go_wp2_with fail;go_roundw
       case rel =>
        have R : ∃ (j1 : Nat) (os1 : List Nat) (cc1 : Nat), j1 <= k + 1 /\ (j1 = k + 1 -> cc1 = 0) /\ Value.int .u64 ((0 : Nat) : Int) = .int .u64 cc1 /\ cc1 < 4294967296 /\ w1.ownsRow w.heap.size 25 1 v' j1 (U os1) /\ F32 os1 /\ os1.length = j1 /\ X os1 + cc1 * 4294967296 ^ j1 = a * x /\ Below w.heap.size w w1 := by
         refine ⟨j + 1, os2 ++ [c2], 0, by omega, fun _ => rfl, rfl, by omega, ?_, ?_, by simp [HLen.out], ?_, hb1⟩
         . rw [dI]; exact hown'
         . intro z hz;rcases List.mem_append.1 hz with hz | hz
           . exact hf z hz
           . simp at hz; omega
         . have e3 := HV.out;unfold X at *;rw [M.gP, HLen.out, Nat.zero_mul, Nat.add_zero, Nat.mul_comm _ c2];exact e3
        first | exact R | ((repeat apply Exists.intro); exact ⟨R, rfl⟩)
       case measure => simp [intOf]; omega
     . have e0 : c2 = 0 := by omega
       subst e0
       have hfin : X os2 = a * x := by
        have := HV.out
        rwa [Nat.zero_mul, Nat.add_zero] at this
       have hv := eT hown;obtain ⟨ao1, cap1, hv⟩ := hv;rw [hv];rw [hv] at hown;have hlt' : ¬ (0 : Int) < ((0 : Nat) : Int) := by omega
       clear hv;have HF := hid hfin; clear hfin;go_wp2_with fail;have hrd := Rd.own hown;refine (bO 4294967296 (by omega) ao1 _ cap1 os2 _ HLen.out (dC hown) (by omega) hf hrd).mono ?_;have hfin : M.val 4294967296 os2 = a * x := HF.out;rw [hfin];rintro e w1 ⟨ao', cap', rfl, ho, hb⟩;go_wp2_with fail;go_ret;exact ⟨ao', cap', rfl, aP ho hbl.size, hbl.trans (hb.mono hbl.size)⟩

theorem IS (bs : List Nat) (h : M.Dig bs) : (D (M.dec bs)).length <= bs.length :=
 M.len_of_lt (B := 4294967296) (by omega) _ _ (Nat.lt_of_lt_of_le (M.gT bs h) (Nat.pow_le_pow_left (by omega) _))

theorem sM (ao : Option Addr) (n c : Nat) (bs : List Nat) (w : World) (hl : bs.length = n) (hn : n <= 20000) (hd : M.Dig bs) (hr : RdB w ao bs) :
 Calls Tryz.prog 20 #[.slice ao n c] w fun e w' => Ret w w' e (D (M.dec bs)) := by
 go_enter Tryz.func20, Tryz.ntmps20;go_wp2_with fail
 go_loopw [3, 4] (fun v i wr => ∃ (k : Nat) (oa : Option Addr) (oc : Nat), k <= n /\ i = .int .i64 k /\ v = .slice oa (D (M.dec (bs.take k))).length oc /\ wr.ownsRow w.heap.size 25 1 (.slice oa (D (M.dec (bs.take k))).length oc) (D (M.dec (bs.take k))).length (U (D (M.dec (bs.take k)))) /\ Below w.heap.size w wr) (fun _ i _ => n - (intOf i).toNat)
 case atStart => exact ⟨0, none, 0, by omega, rfl, rfl, World.ownsRow_nil _ _ _ _, Below.refl _ _⟩
 case round =>
  obtain ⟨k, oa, oc, hk, rfl, rfl, hown, hbl⟩ := hrel
  by_cases hlt : k < n
  . have hlt' : (k : Int) < (n : Int) := by omega
    obtain ⟨nd, end_⟩ : ∃ x, x = D (M.dec (bs.take k)) := ⟨_, rfl⟩;rw [<- end_] at hown |-;have END := hid end_; clear end_;have HOWN := hid hown; clear hown;go_upto_block 2 with fail
    go_cut [4, 5, 6, 7] (fun i x p j wc => ∃ t : Nat, 1 <= t /\ t <= 9 /\ k + t <= n /\ i = .int .i64 ((k + t : Nat) : Int) /\ x = .int .u64 ((M.dec (M.seg bs k t) : Nat) : Int) /\ p = .int .u64 ((10 ^ t : Nat) : Int) /\ (∃ jj : Nat, j = .int .i64 (jj : Int)) /\ wc = wr)
    case first =>
     go_wp2_with fail
     go_loopw [4, 5, 6, 7] (fun i x p j wv => ∃ t : Nat, t <= 9 /\ k + t <= n /\ i = .int .i64 ((k + t : Nat) : Int) /\ x = .int .u64 ((M.dec (M.seg bs k t) : Nat) : Int) /\ p = .int .u64 ((10 ^ t : Nat) : Int) /\ j = .int .i64 (t : Int) /\ wv = wr) (fun _ _ _ j _ => 9 - (intOf j).toNat)
     case atStart => exact ⟨0, by omega, by omega, rfl, by simp [M.seg, M.dec], rfl, rfl, rfl⟩
     case round =>
      rename World => wv
      obtain ⟨t, ht9, htn, rfl, rfl, rfl, rfl, hwv⟩ := hrel;subst hwv;have hxl := M.gT (M.seg bs k t) (hd.seg k t);rw [M.dF _ _ _ (by omega)] at hxl;have hp9 : 10 ^ t <= 10 ^ 9 := Nat.pow_le_pow_right (by omega) ht9;obtain ⟨xv, exv⟩ : ∃ x, x = M.dec (M.seg bs k t) := ⟨_, rfl⟩;obtain ⟨pv, epv⟩ : ∃ x, x = 10 ^ t := ⟨_, rfl⟩;obtain ⟨q, eq⟩ : ∃ x, x = k + t := ⟨_, rfl⟩;rw [<- exv, <- epv] at hxl;rw [<- epv] at hp9;rw [<- exv, <- epv, <- eq];have EXV := hid exv; have EPV := hid epv; have EQ := hid eq;clear exv epv eq
      by_cases hj : t < 9
      . have hj' : (t : Int) < 9 := by omega
        by_cases hi : q < n
        . have hi' : (q : Int) < (n : Int) := by omega
          obtain ⟨b2, o2, hbo, hc2⟩ := (hr.below hbl).2 (by omega);have hck := hc2 q (by omega);clear hc2;have hcd := hd.get q (by omega);obtain ⟨cv, ecv⟩ : ∃ x, x = bs.getD q 0 := ⟨_, rfl⟩;rw [<- ecv] at hck hcd;obtain ⟨dv, edv⟩ : ∃ x, x = cv - 48 := ⟨_, rfl⟩;have hdI : (cv : Int) - 48 = (dv : Int) := by omega
          have hdb : dv <= 9 := by omega
          obtain ⟨x2, ex2⟩ : ∃ x, x = xv * 10 := ⟨_, rfl⟩;have wx2 : (xv : Int) * 10 = (x2 : Int) := by omega
          obtain ⟨x3, ex3⟩ : ∃ x, x = x2 + dv := ⟨_, rfl⟩;have wx3 : (x2 : Int) + (dv : Int) = (x3 : Int) := by omega
          obtain ⟨p2, ep2⟩ : ∃ x, x = pv * 10 := ⟨_, rfl⟩;have wp2 : (pv : Int) * 10 = (p2 : Int) := by omega
          have hb2 : x2 <= 10000000000 := by omega
          have hb3 : x3 <= 20000000000 := by omega
          have hb4 : p2 <= 10000000000 := by omega
          have ECV := hid ecv; have EDV := hid edv; have EX2 := hid ex2; have EX3 := hid ex3; have EP2 := hid ep2;clear ecv edv ex2 ex3 ep2;go_wp2_with fail;go_roundw
          case rel =>
           refine ⟨t + 1, by omega, by have := EQ.out; omega, ?_, ?_, ?_, by go_num, by first | rfl | trivial⟩
           . have := EQ.out;rw [show ((k + (t + 1) : Nat) : Int) = (q : Int) + 1 by omega]
           . have h1 := M.mU bs k t (by have := EQ.out; omega);rw [<- EXV.out, <- EQ.out, <- ECV.out, <- EDV.out, <- EX2.out, <- EX3.out] at h1;rw [h1]
           . rw [Nat.pow_succ, <- EPV.out, <- EP2.out]
          case measure => simp [intOf]; omega
        . have hi' : ¬ (q : Int) < (n : Int) := by omega
          go_wp2_with fail;go_meet
          case rel => exact ⟨t, by have := EQ.out; omega, ht9, htn, by rw [<- EQ.out], by rw [<- EXV.out], by rw [<- EPV.out], ⟨t, rfl⟩, by first | rfl | trivial⟩
      . have hj' : ¬ (t : Int) < 9 := by omega
        go_wp2_with fail;go_meet
        case rel => exact ⟨t, by omega, ht9, htn, by rw [<- EQ.out], by rw [<- EXV.out], by rw [<- EPV.out], ⟨t, rfl⟩, by first | rfl | trivial⟩
    case rest =>
     obtain ⟨t, ht1, ht9, htn, rfl, rfl, rfl, ⟨jj, rfl⟩, hwc⟩ := hcut;subst hwc;have hxl := M.gT (M.seg bs k t) (hd.seg k t);rw [M.dF _ _ _ (by omega)] at hxl;have hp9 : 10 ^ t <= 10 ^ 9 := Nat.pow_le_pow_right (by omega) ht9;have hnum := M.mB bs k t (by omega)
     have hs := IS (bs.take k) (fun c hc => hd c (List.mem_of_mem_take hc))
     have hs2 : (D (M.dec (bs.take k) * 10 ^ t)).length <= 20100 := by
      obtain ⟨KK, eKK⟩ : ∃ x, x = 20100 := ⟨_, rfl⟩;rw [<- eKK];refine M.len_of_lt (B := 4294967296) (by omega) _ _ ?_
      have h1 := M.gT (bs.take k) (fun c hc => hd c (List.mem_of_mem_take hc))
      rw [show (bs.take k).length = k by simp; omega] at h1;have h2 : M.dec (bs.take k) * 10 ^ t < 10 ^ k * 10 ^ t := Nat.mul_lt_mul_of_pos_right h1 (Nat.pow_pos (by omega));rw [<- Nat.pow_add] at h2;have h3 : 10 ^ (k + t) <= 4294967296 ^ (k + t) := Nat.pow_le_pow_left (by omega) _;have h4 : 4294967296 ^ (k + t) <= 4294967296 ^ KK := Nat.pow_le_pow_right (by omega) (by omega);exact Nat.lt_of_lt_of_le h2 (Nat.le_trans h3 h4)
     rw [show (bs.take k).length = k by simp; omega] at hs;obtain ⟨xv, exv⟩ : ∃ x, x = M.dec (M.seg bs k t) := ⟨_, rfl⟩;obtain ⟨pv, epv⟩ : ∃ x, x = 10 ^ t := ⟨_, rfl⟩;obtain ⟨q, eq⟩ : ∃ x, x = k + t := ⟨_, rfl⟩;obtain ⟨nv, env⟩ : ∃ x, x = M.dec (bs.take k) := ⟨_, rfl⟩;rw [<- exv, <- epv] at hxl;rw [<- epv] at hp9;rw [<- env, <- epv] at hs2;rw [<- env] at hs;rw [<- exv, <- epv, <- eq, <- env] at hnum;rw [<- exv, <- epv, <- eq];have hnd : nd = D nv := by rw [END.out, env]
     subst hnd;have hsx : (D xv).length <= 20000 := Nat.le_trans (M.len_of_lt (B := 4294967296) (by omega) xv 1 (by omega)) (by omega);have EXV := hid exv; have EPV := hid epv; have EQ := hid eq; have ENV := hid env; have HN := hid hnum;clear exv epv eq env hnum;go_wp2_with fail;refine (eR oa _ oc pv nv _ rfl (by omega) (by omega) (Rd.own HOWN.out)).mono ?_;rintro e v1 ⟨a1, c1, rfl, o1, b1'⟩;have b1 := hbl.trans (b1'.mono hbl.size);go_wp2_with fail;refine (bQ xv _ (by omega)).mono ?_;rintro e v2 ⟨a2, c2, rfl, o2, b2'⟩;have b2 := b1.trans (b2'.mono b1.size);go_wp2_with fail;refine (cT a1 a2 _ _ c1 c2 (nv * pv) xv _ rfl rfl (by omega) (by omega) ((Rd.own o1).below b2') (Rd.own o2)).mono ?_;rw [<- HN.out];rintro e v3 ⟨a3, c3, rfl, o3, b3'⟩;have b3 := b2.trans (b3'.mono b2.size);have o3' := aP o3 b2.size;have O3 := hid o3'; have B3 := hid b3;clear o1 o2 o3 o3' b1 b2 b3 b1' b2' b3' HOWN;go_wp2_with fail;go_roundw
     case rel =>
      have R : ∃ (k1 : Nat) (oa1 : Option Addr) (oc1 : Nat), k1 <= n /\ Value.int .i64 (q : Int) = .int .i64 k1 /\ Value.slice a3 (D (M.dec (bs.take q))).length c3 = .slice oa1 (D (M.dec (bs.take k1))).length oc1 /\ v3.ownsRow w.heap.size 25 1 (.slice oa1 (D (M.dec (bs.take k1))).length oc1) (D (M.dec (bs.take k1))).length (U (D (M.dec (bs.take k1)))) /\ Below w.heap.size w v3 :=
       ⟨q, a3, c3, by have := EQ.out; omega, rfl, rfl, O3.out, B3.out⟩
      first | exact R | ((repeat apply Exists.intro); exact ⟨R, rfl⟩)
     case measure => simp [intOf]; have := EQ.out; omega
  . have e : k = n := by omega
    subst e;have hlt' : ¬ (k : Int) < (k : Int) := by omega
    rw [List.take_of_length_le (by omega)] at hown |-;go_wp2_with fail;go_ret;exact ⟨oa, oc, rfl, hown, hbl⟩

theorem M.plus_place (x f c p : Nat) (hp : p = x * f) (hx : x < 18446744073709551616) (hf : f < 18446744073709551616) (hc : c < 18446744073709551616) :
 ∃ o r c' : Nat, o = (p % 18446744073709551616 + c) % 18446744073709551616 /\ r = (if (o : Int) < (c : Int) then 1 else 0) /\ c' = p / 18446744073709551616 + r /\ c' < 18446744073709551616 /\ o < 18446744073709551616 /\ o + 18446744073709551616 * c' = p + c := by
 have hb : p <= 18446744073709551615 * 18446744073709551615 := by rw [hp]; exact Nat.mul_le_mul (by omega) (by omega)
 refine ⟨_, _, _, rfl, rfl, rfl, ?_, ?_, ?_⟩
 . split <;> omega
 . omega
 . split <;> omega

theorem M.plus_over {V Z c c' P B x o f e : Nat} (h : V + c * P = f * Z + e) (hs : o + B * c' = x * f + c) : V + P * o + c' * (P * B) = f * (Z + P * x) + e := by
 have e1 : P * (o + B * c') = P * (x * f + c) := by rw [hs]
 simp only [Nat.mul_add] at e1 |-;rw [Nat.mul_comm c' (P * B), Nat.mul_assoc];rw [Nat.mul_comm c P] at h;have e2 : f * (P * x) = P * (x * f) := by rw [Nat.mul_comm f, Nat.mul_assoc]
 rw [e2];omega

def BlkP (w : World) (g : Nat) (zs : List Nat) (rest : List Value) : Prop := w.heap[g]? = some (.cells (U zs ++ rest).toArray 25 (0, 0))

theorem BlkP.cell {w : World} {g : Nat} {zs : List Nat} {rest : List Value} (h : BlkP w g zs rest) (i : Nat) (hi : i < zs.length) : w.cell? ⟨g, i, none⟩ = some (.int .u64 ((zs.getD i 0 : Nat) : Int)) := by
 rw [cell_of_row w g i _ _ (0, 0) h, List.getElem?_toArray, List.getElem?_append_left (by rw [dQ]; exact hi), zW zs i hi]

theorem BlkP.frozen {w : World} {g : Nat} {zs : List Nat} {rest : List Value} (h : BlkP w g zs rest) (i : Nat) : w.frozen? ⟨g, i, none⟩ = false := frozen_of_row w g i _ _ h

theorem BlkP.set {w : World} {g : Nat} {zs : List Nat} {rest : List Value} (h : BlkP w g zs rest) (i x : Nat) (hi : i < zs.length) (v : Int) (hv : v = (x : Int)) : BlkP (w.setCell ⟨g, i, none⟩ (.int .u64 v)) g (zs.set i x) rest := by
 subst hv;unfold BlkP;rw [heap_setCell_same w g i _ _ _ h, JN, <- List.set_append_left i _ (by rw [dQ]; exact hi)]
 simp

theorem BlkP.of_own {w : World} {base g n cap : Nat} {xs : List Nat} (h : w.ownsRow base 25 1 (.slice (some ⟨g, 0, none⟩) n cap) n (U xs)) : ∃ rest : List Value, BlkP w g xs rest /\ n + rest.length = cap /\ base <= g /\ n <= cap /\ cap <= maxLen := by
 have hl := h.1;rcases h.2 with ⟨he, h0⟩ | ⟨g', cap', cur, he, hb, hg, hc, hm, hs, ht⟩
 . simp at he
 . simp only [Value.slice.injEq, Option.some.injEq, Addr.mk.injEq] at he;obtain ⟨⟨rfl, _⟩, _, rfl⟩ := he;rw [Nat.mul_one] at hs ht;refine ⟨cur.toList.drop n, ?_, by simp; omega, hb, hc, hm⟩;unfold BlkP;rw [hg, <- ht, List.take_append_drop]

theorem BlkP.own {w : World} {base g n cap : Nat} {xs : List Nat} {rest : List Value} (h : BlkP w g xs rest) (hb : base <= g) (hn : xs.length = n) (hc : n + rest.length = cap) (hm : cap <= maxLen) : w.ownsRow base 25 1 (.slice (some ⟨g, 0, none⟩) n cap) n (U xs) := by
 subst hc;refine ⟨by rw [dQ]; omega, .inr ⟨g, _, (U xs ++ rest).toArray, rfl, hb, h, by omega, hm, by simp [U, hn], ?_⟩⟩;rw [Nat.mul_one, <- hn, List.take_left' (by rw [dQ])]

theorem n8 (g N cap : Nat) (rest : List Value) (ao : Option Addr) (f ex : Nat) (zs : List Nat) (w : World) (hao : 0 < N -> ao = some ⟨g, 0, none⟩) (hB : BlkP w g zs rest) (hz : F64 zs) (ho : N <= zs.length) (hN : N <= 4194304) (hf : f < 18446744073709551616) (he : ex < 18446744073709551616) :
 Calls Tryz.prog 97 #[.slice ao N cap, .int .u64 (f : Int), .int .u64 (ex : Int)] w fun e w' => ∃ (c : Nat) (cur : List Nat), e = .returned (.int .u64 (c : Int)) /\ w.grownBy w' (some g) /\ c < 18446744073709551616 /\ BlkP w' g cur rest /\ M.Wrote 18446744073709551616 zs 0 N cur /\ V (M.seg cur 0 N) + c * 18446744073709551616 ^ N = f * V (M.seg zs 0 N) + ex := by
 go_enter Tryz.func97, Tryz.ntmps97;go_wp2_with fail
 go_loopw [7, 15] (fun cy i wr => ∃ (k : Nat) (cur : List Nat) (c : Nat), k <= N /\ i = .int .i64 k /\ cy = .int .u64 c /\ c < 18446744073709551616 /\ BlkP wr g cur rest /\ M.Wrote 18446744073709551616 zs 0 N cur /\ w.grownBy wr (some g) /\ (∀ j, k <= j -> cur.getD j 0 = zs.getD j 0) /\ V (M.seg cur 0 k) + c * 18446744073709551616 ^ k = f * V (M.seg zs 0 k) + ex) (fun _ i _ => N - (intOf i).toNat)
 case atStart => exact ⟨0, zs, ex, by omega, rfl, rfl, he, hB, M.Wrote.refl hz _ _, World.grownBy.refl _ _, fun _ _ => rfl, by simp [V, M.val, M.seg]⟩
 case round =>
  obtain ⟨k, cur, c, hk, rfl, rfl, hc, hBk, hW, hg, hsame, hv⟩ := hrel;have HV := hid hv; clear hv;have HSM := hid hsame; clear hsame
  by_cases hlt : k < N
  . have hao' := hao (by omega);have hca := hBk.cell k (by have := hW.len; omega);have hfa := hBk.frozen k;have hx1 : cur.getD k 0 < 18446744073709551616 := M.aZ (by omega) hW.lt _;obtain ⟨x, hxx⟩ : ∃ x : Nat, x = cur.getD k 0 := ⟨_, rfl⟩;rw [<- hxx] at hca hx1;have HX := hid hxx; clear hxx;have hlt' : (k : Int) < (N : Int) := by omega
    have HB := hid hBk; clear hBk;have HG := hid hg; clear hg;obtain ⟨o, r, c', eo, er, ec', bc', bo', hs⟩ := M.plus_place x f c (x * f) rfl hx1 hf hc;obtain ⟨hi, ehi⟩ : ∃ h : Nat, h = x * f / 18446744073709551616 := ⟨_, rfl⟩;obtain ⟨lo, elo⟩ : ∃ h : Nat, h = x * f % 18446744073709551616 := ⟨_, rfl⟩;rw [<- elo] at eo;rw [<- ehi] at ec';have w1 := fA lo c o eo;have w2 := jJ hi r c' ec' bc';have E1 := hid ehi; have E2 := hid elo; have E3 := hid er; have E5 := hid hs; have E6 := hid bc'; have E7 := hid bo';clear ehi elo er hs bc' bo' eo ec';go_wp2_with fail;refine (j4 x f _ hx1 hf hi lo E1.out E2.out).mono ?_;rintro e v1 ⟨rfl, rfl⟩;go_wp2_with fail;refine (dZ _ _ _ r E3.out).mono ?_;rintro e w3' ⟨rfl, hw3⟩;have hB3 : BlkP w3' g (cur.set k o) rest := by rw [hw3]; exact HB.out.set _ _ (by have := hW.len; omega) _ rfl
    have hg3 : w.grownBy w3' (some g) := by rw [hw3]; exact aB HG.out (aE _ _ _ _)
    have hW3 := hW.set k o (by omega) E7.out;rw [Nat.zero_add] at hW3;have HB3 := hid hB3; clear hB3;have HG3 := hid hg3; clear hg3;clear hw3 hca hfa;go_wp2_with fail;go_roundw
    case rel =>
     have R : ∃ (k1 : Nat) (cur1 : List Nat) (c1 : Nat), k1 <= N /\ Value.int .i64 ((k : Int) + 1) = .int .i64 k1 /\ Value.int .u64 (c' : Int) = .int .u64 c1 /\ c1 < 18446744073709551616 /\ BlkP w3' g cur1 rest /\ M.Wrote 18446744073709551616 zs 0 N cur1 /\ w.grownBy w3' (some g) /\ (∀ j, k1 <= j -> cur1.getD j 0 = zs.getD j 0) /\ V (M.seg cur1 0 k1) + c1 * 18446744073709551616 ^ k1 = f * V (M.seg zs 0 k1) + ex := by
      refine ⟨k + 1, cur.set k o, c', by omega, by go_num, rfl, E6.out, HB3.out, hW3, HG3.out, fun j hj => ?_, ?_⟩
      . rw [M.cH _ _ _ _ (by omega)]; exact HSM.out j (by omega)
      . have hzx : zs.getD (0 + k) 0 = x := by rw [Nat.zero_add, <- HSM.out k (Nat.le_refl _)]; exact HX.out.symm
        have hcx : (cur.set k o).getD (0 + k) 0 = o := by rw [Nat.zero_add, M.cJ _ _ _ (by have := hW.len; omega)]
        have hsg : M.seg (cur.set k o) 0 k = M.seg cur 0 k := by
         unfold M.seg;rw [List.drop_zero, List.drop_zero, List.take_set_of_le (Nat.le_refl _)]
        unfold V;rw [M.dV, M.dV, hzx, hcx, hsg, Nat.pow_succ];exact M.plus_over HV.out E5.out
     first | exact R | ((repeat apply Exists.intro); exact ⟨R, rfl⟩) | ((repeat apply Exists.intro); exact ⟨R, by rw [hao']⟩)
    case measure => simp [intOf]; omega
  . have e : k = N := by omega
    subst e;have HBk := hid hBk; clear hBk;have HG := hid hg; clear hg;go_wp2_with fail;go_ret;exact ⟨c, cur, rfl, HG.out, hc, HBk.out, hW, HV.out⟩

end Go.Proofs.YtfdgkleoaehjaaaGreatDoor
