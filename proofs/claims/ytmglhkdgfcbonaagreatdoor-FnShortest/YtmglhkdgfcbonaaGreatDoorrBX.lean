import Derived.Test.YtmglhkdgfcbonaaGreatDoorrLD
import Derived.Test.YtmglhkdgfcbonaaGreatDoorrBV
set_option maxHeartbeats 1000000
namespace Go.Proofs.YtmglhkdgfcbonaaGreatDoor
open Go.RowKit
set_option linter.unusedVariables false
set_option maxRecDepth 100000
theorem len_any (x : Nat) (w : World) (h : x < 18446744073709551616) (b : Nat) (hb : b = blen x) :
 Calls Tryz.prog 131 #[.int .u64 (x : Int)] w fun e w' => e = .returned (.int .i64 (b : Int)) ∧ w' = w := by
 have HB := hid hb; clear hb
 go_enter Tryz.func131, Tryz.ntmps131
 go_wp2_with fail
 refine (len64_any x _ h b HB.out).mono ?_
 rintro e w1 ⟨rfl, rfl⟩
 go_wp2_with fail
 go_ret
 exact ⟨rfl, rfl⟩

theorem pow_le_two (a m : Nat) : a ^ m ≤ 2 ^ (blen a * m) := by
 rw [Nat.pow_mul]
 exact Nat.pow_le_pow_left (Nat.le_of_lt (lt_blen a)) m

theorem pow_len {B j : Nat} (hB : B = 2 ^ j) (hj : 0 < j) (a m K : Nat) (h : blen a * m < j * K) : (M.dig B (a ^ m)).length ≤ K := by
 have hB1 : 1 < B := by rw [hB]; exact Nat.one_lt_two_pow (by omega)
 refine M.len_of_lt hB1 _ _ ?_
 rw [hB, ← Nat.pow_mul]
 exact Nat.lt_of_le_of_lt (pow_le_two a m) (Nat.pow_lt_pow_right (by omega) h)

theorem L_pow_len (a m : Nat) (h : blen a * m ≤ 76800) : (L (a ^ m)).length ≤ 1201 := pow_len (j := 64) rfl (by omega) a m 1201 (by omega)

theorem D_pow_len (a m : Nat) (h : blen a * m ≤ 76800) : (D (a ^ m)).length ≤ 2401 := pow_len (j := 32) rfl (by omega) a m 2401 (by omega)

theorem mul_le_of {b m e : Nat} (h : m ≤ e) (hb : b * e ≤ 76800) : b * m ≤ 76800 := Nat.le_trans (Nat.mul_le_mul_left _ h) hb

theorem L_unit : L 1 = [1] := by
 unfold L; rw [M.dig_pos (by omega) (by omega)]; simp [M.dig_zero]

theorem shift_bit (e k : Nat) : e / 2 ^ k = 2 * (e / 2 ^ (k + 1)) + e / 2 ^ k % 2 := by
 rw [Nat.pow_succ, ← Nat.div_div_eq_div_mul]; omega

theorem and_one_i64 (q : Nat) (h : q < 4611686018427387904) : bits .and .i64 (q : Int) 1 = ((q % 2 : Nat) : Int) := by
 have := (bits_nat .i64 62 (by decide) (fun n h1 h2 => by rw [IntKind.wrap_i64]; omega) q 1 (by omega) (by omega)).1
 rw [Nat.and_one_is_mod] at this
 exact this

theorem div_pow_cast (x k : Nat) : (x : Int) / 2 ^ k = ((x / 2 ^ k : Nat) : Int) := by
 have : ((2 : Int) ^ k) = ((2 ^ k : Nat) : Int) := by simp
 rw [this]; exact (Int.natCast_ediv x (2 ^ k)).symm

theorem bit_test (e k : Nat) (he : e ≤ 20000) (b : Nat) (hb : e / 2 ^ k % 2 = b) : (bits BinOp.and IntKind.i64 ((e : Int) / 2 ^ k) 1 == 1) = decide (b = 1) := by
 have h1 := Nat.div_le_self e (2 ^ k)
 rw [div_pow_cast]
 generalize e / 2 ^ k = q at *
 rw [and_one_i64 _ (by omega)]
 rw [Bool.eq_iff_iff]
 simp
 omega

theorem natPower_any (a e : Nat) (w : World) (ha : a < 18446744073709551616) (he : e ≤ 20000) (hb : blen a * e ≤ 76800) :
 Calls Tryz.prog 111 #[.int .u64 (a : Int), .int .i64 (e : Int)] w fun r w' => Ret w w' r (L (a ^ e)) := by
 obtain ⟨bl, hbl⟩ : ∃ b : Nat, b = blen e := ⟨_, rfl⟩
 have hbl2 : bl ≤ 15 := by rw [hbl]; exact blen_le_of e 15 (by omega)
 have hlt0 : e < 2 ^ bl := by rw [hbl]; exact lt_blen e
 have HBL := hid hbl; clear hbl
 have HLT := hid hlt0; clear hlt0
 have hB1 := blk_lit w [a]
 have hU1 : (U [a]).toArray = #[Value.int .u64 (a : Int)] := rfl
 have hb1 : Below w.heap.size w (w.alloc (.cells (U [a]).toArray 22)) := (Below.refl _ _).alloc (Nat.le_refl _) _
 rw [hU1] at hB1 hb1
 have hf1 : F64 [a] := by intro y hy; simp at hy; omega
 have hv1 : V [a] = a := by simp [V, M.val]
 have HV1 := hid hv1; clear hv1 hU1
 have hlfa := L_len [a] hf1
 rw [HV1.out] at hlfa
 go_enter Tryz.func111, Tryz.ntmps111
 go_wp2_with fail
 refine (trim_any _ 1 1 [a] _ rfl (Nat.le_refl _) (by omega) hf1 hB1.rd0).mono ?_
 rw [HV1.out]
 rintro r w1 ⟨rfl, hw1⟩
 have hfac : Rd w1 (some ⟨w.heap.size, 0, none⟩) (L a) := by
  rw [hw1]
  have := hB1.rd0.trim hf1
  rwa [HV1.out] at this
 have hbw1 : Below w.heap.size w w1 := by rw [hw1]; exact hb1
 clear hw1 hB1 hb1
 have hB2 := blk_lit w1 [1]
 have hU2 : (U [1]).toArray = #[Value.int .u64 1] := rfl
 have hb2 : Below w1.heap.size w1 (w1.alloc (.cells (U [1]).toArray 22)) := (Below.refl _ _).alloc (Nat.le_refl _) _
 rw [hU2] at hB2 hb2
 have hb2w := hbw1.trans (hb2.mono hbw1.size)
 have ho2 := hB2.own (base := w.heap.size) (n := 1) hbw1.size rfl (by unfold maxLen; omega)
 have hfac2 := hfac.below hb2
 clear hU2
 go_wp2_with fail
 refine (len_any e _ (by omega) bl HBL.out).mono ?_
 rintro r w3 ⟨rfl, hw3⟩
 rw [← hw3] at hb2w ho2 hfac2
 clear hw3 hb2 hB2 hfac
 have Hw := hid hb2w; have Ho := hid ho2; have Hf := hid hfac2
 clear hb2w ho2 hfac2
 go_wp2_with fail
 go_loopw [6, 7] (fun v i wr => ∃ (k P : Nat) (pa : Option Addr) (pc : Nat), k ≤ bl ∧ i = .int .i64 ((k : Int) - 1) ∧ P = a ^ (e / 2 ^ k) ∧ v = .slice pa (L P).length pc ∧ wr.ownsRow w.heap.size 22 1 (.slice pa (L P).length pc) (L P).length (U (L P)) ∧ Rd wr (some ⟨w.heap.size, 0, none⟩) (L a) ∧ Below w.heap.size w wr) (fun _ i _ => (intOf i + 1).toNat)
 case atStart =>
  refine ⟨bl, 1, some ⟨w1.heap.size, 0, none⟩, 1, Nat.le_refl _, by go_num, ?_, ?_, ?_, Hf.out, Hw.out⟩
  · rw [Nat.div_eq_of_lt HLT.out]; simp
  · rw [L_unit]; rfl
  · rw [L_unit]; exact Ho.out
 case round =>
  obtain ⟨k, P, pa, pc, hk, rfl, hP, rfl, hown, hfa, hbl⟩ := hrel
  have HP := hid hP; clear hP
  clear Hw Ho Hf
  by_cases hk0 : 0 < k
  · obtain ⟨k, rfl⟩ : ∃ k', k = k' + 1 := ⟨k - 1, by omega⟩
    have e1 : (((k + 1 : Nat) : Int) - 1) = (k : Int) := by omega
    rw [e1]
    have hm1 : 2 * (e / 2 ^ (k + 1)) ≤ e := by
     have h1 := shift_bit e k
     have h2 := Nat.div_le_self e (2 ^ k)
     omega
    have hPl : (L P).length ≤ 1201 := by rw [HP.out]; exact L_pow_len a _ (mul_le_of (by omega) hb)
    have hPPl : (L (P * P)).length ≤ 1201 := by
     rw [HP.out, ← Nat.pow_add]; exact L_pow_len a _ (mul_le_of (by omega) hb)
    go_wp2_with fail
    refine (mul_any pa pa _ _ pc pc P P _ rfl rfl (by omega) (by omega) (Rd.own hown) (Rd.own hown)).mono ?_
    rintro r w4 ⟨p2, c2, rfl, ho4, hb4⟩
    have hbw4 := hbl.trans (hb4.mono hbl.size)
    have how4 := own_base ho4 hbl.size
    have hfa4 := hfa.below hb4
    clear ho4 hb4 hown hfa hbl
    have hbit := shift_bit e k
    by_cases hb1 : e / 2 ^ k % 2 = 1
    · have htest := bit_test e k he 1 hb1
      rw [decide_eq_true (by rfl)] at htest
      have hP2 : P * P * a = a ^ (e / 2 ^ k) := by
       rw [hbit, hb1, Nat.pow_succ, Nat.two_mul, Nat.pow_add, ← HP.out]
      have HP2 := hid hP2
      clear hP2 hbit hb1
      go_wp2_with fail
      refine (mul_any p2 _ _ _ c2 1 (P * P) a _ rfl rfl (by omega) (by simp at hlfa; omega) (Rd.own how4) hfa4).mono ?_
      rintro r w5 ⟨p3, c3, rfl, ho5, hb5⟩
      have hbw5 := hbw4.trans (hb5.mono hbw4.size)
      have how5 := own_base ho5 hbw4.size
      have hfa5 := hfa4.below hb5
      clear ho5 hb5 how4 hfa4
      go_wp2_with fail
      go_roundw
      case rel =>
       have R : ∃ (k1 P1 : Nat) (pa1 : Option Addr) (pc1 : Nat), k1 ≤ bl ∧ Value.int .i64 ((k : Int) - 1) = .int .i64 ((k1 : Int) - 1) ∧ P1 = a ^ (e / 2 ^ k1) ∧ Value.slice p3 (L (P * P * a)).length c3 = .slice pa1 (L P1).length pc1 ∧ w5.ownsRow w.heap.size 22 1 (.slice pa1 (L P1).length pc1) (L P1).length (U (L P1)) ∧ Rd w5 (some ⟨w.heap.size, 0, none⟩) (L a) ∧ Below w.heap.size w w5 :=
        ⟨k, P * P * a, p3, c3, by omega, rfl, HP2.out, rfl, how5, hfa5, hbw5⟩
       first | exact R | ((repeat apply Exists.intro); exact ⟨R, rfl⟩)
      case measure => simp [intOf]
    · have hb0 : e / 2 ^ k % 2 = 0 := by omega
      have htest := bit_test e k he 0 hb0
      rw [decide_eq_false (by omega)] at htest
      have hP2 : P * P = a ^ (e / 2 ^ k) := by
       rw [hbit, hb0, Nat.add_zero, Nat.two_mul, Nat.pow_add, ← HP.out]
      have HP2 := hid hP2
      clear hP2 hbit hb1 hb0
      go_wp2_with fail
      go_roundw
      case rel =>
       have R : ∃ (k1 P1 : Nat) (pa1 : Option Addr) (pc1 : Nat), k1 ≤ bl ∧ Value.int .i64 ((k : Int) - 1) = .int .i64 ((k1 : Int) - 1) ∧ P1 = a ^ (e / 2 ^ k1) ∧ Value.slice p2 (L (P * P)).length c2 = .slice pa1 (L P1).length pc1 ∧ w4.ownsRow w.heap.size 22 1 (.slice pa1 (L P1).length pc1) (L P1).length (U (L P1)) ∧ Rd w4 (some ⟨w.heap.size, 0, none⟩) (L a) ∧ Below w.heap.size w w4 :=
        ⟨k, P * P, p2, c2, by omega, rfl, HP2.out, rfl, how4, hfa4, hbw4⟩
       first | exact R | ((repeat apply Exists.intro); exact ⟨R, rfl⟩)
      case measure => simp [intOf]
  · have : k = 0 := by omega
    subst this
    have hPe : P = a ^ e := by rw [HP.out]; simp
    clear HP
    have HPe := hid hPe; clear hPe
    go_wp2_with fail
    go_ret
    rw [← HPe.out]
    exact ⟨pa, pc, rfl, hown, hbl⟩

def powDoc (a : Nat) (z : Int) : List Nat := if 0 ≤ z ∧ z ≤ 20000 ∧ blen a * z.toNat ≤ 76800 then L (a ^ z.toNat) else []

theorem specNatPow_any (a : Nat) (z : Int) (w : World) (ha : a < 18446744073709551616) :
 Calls Tryz.prog 106 #[.int .u64 (a : Int), .int .i64 z] w fun r w' => Ret w w' r (powDoc a z) := by
 have hDl : (D a).length ≤ 2 := M.len_of_lt (by omega) a 2 (by omega)
 by_cases h1 : 0 ≤ z
 · obtain ⟨e, rfl⟩ := Int.eq_ofNat_of_zero_le h1
   by_cases h2 : e ≤ 20000
   · obtain ⟨b, hb⟩ : ∃ b : Nat, b = blen a := ⟨_, rfl⟩
     have hbb : b ≤ 64 := by rw [hb]; exact blen_le_of a 64 ha
     obtain ⟨t, ht⟩ : ∃ t : Nat, t = b * e := ⟨_, rfl⟩
     have htb : t ≤ 1280000 := by rw [ht]; exact Nat.mul_le_mul hbb h2
     have htI : (b : Int) * (e : Int) = (t : Int) := by rw [ht]; exact (Int.natCast_mul b e).symm
     by_cases h3 : t ≤ 76800
     · have hdoc : powDoc a (e : Int) = L (a ^ e) := by
        unfold powDoc; rw [Int.toNat_natCast, if_pos ⟨by omega, by omega, by rw [← hb, ← ht]; exact h3⟩]
       rw [hdoc]
       have hbe : blen a * e ≤ 76800 := by rw [← hb, ← ht]; exact h3
       have HB := hid hb; clear hb ht
       have g1 : ¬ (e : Int) < 0 := by omega
       have g2 : ¬ (20000 : Int) < (e : Int) := by omega
       have g3 : ¬ (76800 : Int) < (t : Int) := by omega
       go_enter Tryz.func106, Tryz.ntmps106
       go_wp2_with fail
       refine (l1Of_any a _ ha).mono ?_
       rintro r w1 ⟨pa, ca, rfl, hoa, hb1⟩
       go_wp2_with fail
       refine (l1Bits_any pa _ ca a _ rfl (by omega) (Rd.own hoa) b HB.out).mono ?_
       rintro r w2 ⟨rfl, rfl⟩
       go_wp2_with fail
       refine (l1Of_any 1 _ (by omega)).mono ?_
       rintro r w3 ⟨p1, c1, rfl, ho1, hb3⟩
       have Hra := hid ((Rd.own hoa).below hb3)
       have Hw := hid (hb1.trans (hb3.mono hb1.size))
       have Ho := hid (own_base ho1 hb1.size)
       clear hoa hb1 ho1 hb3
       go_wp2_with fail
       go_loopw [1, 6] (fun i v wr => ∃ (k P : Nat) (pp : Option Addr) (pc : Nat), k ≤ e ∧ i = .int .i64 ((e : Int) - (k : Int)) ∧ P = a ^ k ∧ v = .slice pp (D P).length pc ∧ wr.ownsRow w.heap.size 22 1 (.slice pp (D P).length pc) (D P).length (U (D P)) ∧ Rd wr pa (D a) ∧ Below w.heap.size w wr) (fun i _ _ => (intOf i).toNat)
       case atStart => exact ⟨0, 1, p1, c1, by omega, by simp, by simp, rfl, Ho.out, Hra.out, Hw.out⟩
       case round =>
        obtain ⟨k, P, pp, pc, hk, rfl, hP, rfl, hown, hra, hbl⟩ := hrel
        clear Hra Hw Ho
        have hPl : (D P).length ≤ 2401 := by rw [hP]; exact D_pow_len a _ (mul_le_of hk hbe)
        have HP := hid hP; clear hP
        by_cases hke : k < e
        · have hgt : (0 : Int) < (e : Int) - (k : Int) := by omega
          go_wp2_with fail
          refine (l1Mul_any pp pa _ _ pc ca P a _ rfl rfl (by omega) (by omega) (Rd.own hown) hra).mono ?_
          rintro r w4 ⟨p2, c2, rfl, ho4, hb4⟩
          have hbw4 := hbl.trans (hb4.mono hbl.size)
          have how4 := own_base ho4 hbl.size
          have hra4 := hra.below hb4
          clear ho4 hb4 hown hra hbl
          go_wp2_with fail
          go_roundw
          case rel =>
           have R : ∃ (k1 P1 : Nat) (pp1 : Option Addr) (pc1 : Nat), k1 ≤ e ∧ Value.int .i64 ((e : Int) - (k : Int) - 1) = .int .i64 ((e : Int) - (k1 : Int)) ∧ P1 = a ^ k1 ∧ Value.slice p2 (D (P * a)).length c2 = .slice pp1 (D P1).length pc1 ∧ w4.ownsRow w.heap.size 22 1 (.slice pp1 (D P1).length pc1) (D P1).length (U (D P1)) ∧ Rd w4 pa (D a) ∧ Below w.heap.size w w4 :=
            ⟨k + 1, P * a, p2, c2, by omega, by go_num, by rw [Nat.pow_succ, ← HP.out], rfl, how4, hra4, hbw4⟩
           first | exact R | ((repeat apply Exists.intro); exact ⟨R, rfl⟩)
          case measure => simp [intOf]; omega
        · have hke' : k = e := by omega
          subst hke'
          have hgt : ¬ (0 : Int) < (k : Int) - (k : Int) := by omega
          go_wp2_with fail
          refine (l1Out_any pp _ pc P _ rfl (by omega) (Rd.own hown)).mono ?_
          rintro r w6 ⟨p4, c4, rfl, ho4, hb4⟩
          go_wp2_with fail
          go_ret
          rw [← HP.out]
          exact ⟨p4, c4, rfl, own_base ho4 hbl.size, hbl.trans (hb4.mono hbl.size)⟩
     · have hdoc : powDoc a (e : Int) = [] := by
        unfold powDoc; rw [Int.toNat_natCast, if_neg (by rw [← hb, ← ht]; omega)]
       rw [hdoc]
       have HB := hid hb; clear hb ht
       have g1 : ¬ (e : Int) < 0 := by omega
       have g2 : ¬ (20000 : Int) < (e : Int) := by omega
       have g3 : (76800 : Int) < (t : Int) := by omega
       go_enter Tryz.func106, Tryz.ntmps106
       go_wp2_with fail
       refine (l1Of_any a _ ha).mono ?_
       rintro r w1 ⟨pa, ca, rfl, hoa, hb1⟩
       go_wp2_with fail
       refine (l1Bits_any pa _ ca a _ rfl (by omega) (Rd.own hoa) b HB.out).mono ?_
       rintro r w2 ⟨rfl, rfl⟩
       go_wp2_with fail
       go_ret
       exact Ret.nil hb1
   · have hdoc : powDoc a (e : Int) = [] := by unfold powDoc; rw [if_neg (by omega)]
     rw [hdoc]
     have g1 : ¬ (e : Int) < 0 := by omega
     have g2 : (20000 : Int) < (e : Int) := by omega
     go_enter Tryz.func106, Tryz.ntmps106
     go_wp2_with fail
     refine (l1Of_any a _ ha).mono ?_
     rintro r w1 ⟨pa, ca, rfl, hoa, hb1⟩
     go_wp2_with fail
     go_ret
     exact Ret.nil hb1
 · have hdoc : powDoc a z = [] := by unfold powDoc; rw [if_neg (by omega)]
   rw [hdoc]
   have g1 : z < 0 := by omega
   go_enter Tryz.func106, Tryz.ntmps106
   go_wp2_with fail
   refine (l1Of_any a _ ha).mono ?_
   rintro r w1 ⟨pa, ca, rfl, hoa, hb1⟩
   go_wp2_with fail
   go_ret
   exact Ret.nil hb1

theorem keepC1 {w1 W v : World} (h : Below w1.heap.size w1 W) (k : Below W.heap.size W v) : Below w1.heap.size w1 v := h.trans (k.mono h.size)

theorem two_new (w : World) (t : TypeId) (x y : Value) : (w.alloc (.cells #[x, y] t)).cell? ⟨w.heap.size, 0, none⟩ = some x ∧ (w.alloc (.cells #[x, y] t)).cell? ⟨w.heap.size, 1, none⟩ = some y ∧ (w.alloc (.cells #[x, y] t)).frozen? ⟨w.heap.size, 0, none⟩ = false ∧ (w.alloc (.cells #[x, y] t)).frozen? ⟨w.heap.size, 1, none⟩ = false := by
 simp [go_sem]

def RR (w w' : World) (e : Ending) (N De : Nat) : Prop := ∃ a c b d, e = .returned (.agg #[.slice a (L N).length c, .slice b (L De).length d]) ∧ Rd w' a (L N) ∧ Rd w' b (L De) ∧ Below w.heap.size w w'

theorem blen10 : blen 10 = 4 := by decide

theorem ten_ok (m : Nat) (h : m ≤ 19000) : blen 10 * m ≤ 76800 := by rw [blen10]; omega

theorem own_apart {w : World} {base n cap g : Nat} {ao : Option Addr} {xs : List Value} (h : w.ownsRow base 22 1 (.slice ao n cap) n xs) (hg : g < base) : (Value.slice ao n cap).ownBlock ≠ some g := by
 rcases h.2 with ⟨he, h0⟩ | ⟨k, cap', cur, he, hk, _⟩
 · simp only [Value.slice.injEq] at he
   obtain ⟨rfl, _, rfl⟩ := he
   simp [Value.ownBlock]
 · simp only [Value.slice.injEq] at he
   obtain ⟨rfl, _, rfl⟩ := he
   simp [Value.ownBlock]; omega

theorem own_two {w : World} {base n cap g : Nat} {ao : Option Addr} {xs : List Nat} (h : w.ownsRow base 22 1 (.slice ao n cap) n (U xs)) (hg : g < base) (u v : Value) : Rd ((w.setCell ⟨g, 0, none⟩ u).setCell ⟨g, 1, none⟩ v) ao xs :=
 Rd.own (ownsRow_setCell_other (ownsRow_setCell_other h (own_apart h hg) u) (own_apart h hg) v)

theorem tenPower_pos (m : Nat) (w : World) (hm : m ≤ 19000) :
 Calls Tryz.prog 84 #[.int .i64 (m : Int)] w fun e w' => RR w w' e (10 ^ m) (1) := by
 have k1 := fun v : World => natPower_any 10 m v (by omega) (by omega) (ten_ok m (by omega))
 have k2 := fun v : World => natPower_any 10 0 v (by omega) (by omega) (ten_ok 0 (by omega))
 have hz : max (m : Int) 0 = (m : Int) := by omega
 have hz2 : max (-(m : Int)) 0 = (0 : Int) := by omega
 have b0 := (Below.refl w.heap.size w).alloc (Nat.le_refl _) (.cells #[.slice none 0 0, .slice none 0 0] 82)
 obtain ⟨c0, c1, z0, z1⟩ := two_new w 82 (.slice none 0 0) (.slice none 0 0)
 have l0 : w.heap.size < (w.alloc (.cells #[.slice none 0 0, .slice none 0 0] 82)).heap.size := by simp
 go_enter Tryz.func84, Tryz.ntmps84
 go_wp2_with fail
 refine (k1 _).mono ?_
 rintro e v1 ⟨a, c, rfl, ho1, hb1⟩
 have b1 := b0.trans (hb1.mono b0.size)
 go_wp2_with fail
 refine (k2 _).mono ?_
 rintro e v2 ⟨b, d, rfl, ho2, hb2⟩
 have hb3 := hb1.trans (hb2.mono hb1.size)
 have b2 := b1.trans (hb2.mono b1.size)
 have c0' : v2.cell? ⟨w.heap.size, 0, none⟩ = some (.slice none 0 0) := (hb3.cell l0).trans c0
 have c1' : v2.cell? ⟨w.heap.size, 1, none⟩ = some (.slice none 0 0) := (hb3.cell l0).trans c1
 have z0' : v2.frozen? ⟨w.heap.size, 0, none⟩ = false := (hb3.frozen l0).trans z0
 have z1' : v2.frozen? ⟨w.heap.size, 1, none⟩ = false := (hb3.frozen l0).trans z1
 have hl : w.heap.size < v1.heap.size := Nat.lt_of_lt_of_le l0 hb1.size
 have q1 := own_two (own_below ho1 hb2) l0
 have q2 := own_two ho2 hl
 clear ho1 ho2 c0 c1 z0 z1 hb2 hb1 hb3 b1 b0 l0 hl
 go_wp2_with fail
 exact bodyPost_ret (v := .agg #[.slice a (L (10 ^ m)).length c, .slice b (L (1)).length d]) (by simp [results, Tryz.results84, go_sem, c0', c1']) rfl ⟨a, c, b, d, rfl, q1 _ _, q2 _ _, (b2.setCell (p := ⟨w.heap.size, 0, none⟩) (Nat.le_refl _) _).setCell (p := ⟨w.heap.size, 1, none⟩) (Nat.le_refl _) _⟩

theorem tenPower_neg (m : Nat) (w : World) (hm : m ≤ 19000) :
 Calls Tryz.prog 84 #[.int .i64 (-(m : Int))] w fun e w' => RR w w' e (1) (10 ^ m) := by
 have k1 := fun v : World => natPower_any 10 0 v (by omega) (by omega) (ten_ok 0 (by omega))
 have k2 := fun v : World => natPower_any 10 m v (by omega) (by omega) (ten_ok m (by omega))
 have hz : max (-(m : Int)) 0 = (0 : Int) := by omega
 have hz2 : max (-(-(m : Int))) 0 = (m : Int) := by omega
 have b0 := (Below.refl w.heap.size w).alloc (Nat.le_refl _) (.cells #[.slice none 0 0, .slice none 0 0] 82)
 obtain ⟨c0, c1, z0, z1⟩ := two_new w 82 (.slice none 0 0) (.slice none 0 0)
 have l0 : w.heap.size < (w.alloc (.cells #[.slice none 0 0, .slice none 0 0] 82)).heap.size := by simp
 go_enter Tryz.func84, Tryz.ntmps84
 go_wp2_with fail
 refine (k1 _).mono ?_
 rintro e v1 ⟨a, c, rfl, ho1, hb1⟩
 have b1 := b0.trans (hb1.mono b0.size)
 go_wp2_with fail
 refine (k2 _).mono ?_
 rintro e v2 ⟨b, d, rfl, ho2, hb2⟩
 have hb3 := hb1.trans (hb2.mono hb1.size)
 have b2 := b1.trans (hb2.mono b1.size)
 have c0' : v2.cell? ⟨w.heap.size, 0, none⟩ = some (.slice none 0 0) := (hb3.cell l0).trans c0
 have c1' : v2.cell? ⟨w.heap.size, 1, none⟩ = some (.slice none 0 0) := (hb3.cell l0).trans c1
 have z0' : v2.frozen? ⟨w.heap.size, 0, none⟩ = false := (hb3.frozen l0).trans z0
 have z1' : v2.frozen? ⟨w.heap.size, 1, none⟩ = false := (hb3.frozen l0).trans z1
 have hl : w.heap.size < v1.heap.size := Nat.lt_of_lt_of_le l0 hb1.size
 have q1 := own_two (own_below ho1 hb2) l0
 have q2 := own_two ho2 hl
 clear ho1 ho2 c0 c1 z0 z1 hb2 hb1 hb3 b1 b0 l0 hl
 go_wp2_with fail
 exact bodyPost_ret (v := .agg #[.slice a (L (1)).length c, .slice b (L (10 ^ m)).length d]) (by simp [results, Tryz.results84, go_sem, c0', c1']) rfl ⟨a, c, b, d, rfl, q1 _ _, q2 _ _, (b2.setCell (p := ⟨w.heap.size, 0, none⟩) (Nat.le_refl _) _).setCell (p := ⟨w.heap.size, 1, none⟩) (Nat.le_refl _) _⟩

theorem far2' (v : World) (x y : Value) {g b o : Nat} (h : b ≠ g) : ((v.setCell ⟨g, 0, none⟩ x).setCell ⟨g, 1, none⟩ y).cell? ⟨b, o, none⟩ = v.cell? ⟨b, o, none⟩ :=
 World.cell?_of_block (w := v) (a := ⟨b, o, none⟩) ((Below.heap_setCell _ _ _ _ h).trans (Below.heap_setCell _ _ _ _ h))

end Go.Proofs.YtmglhkdgfcbonaaGreatDoor
