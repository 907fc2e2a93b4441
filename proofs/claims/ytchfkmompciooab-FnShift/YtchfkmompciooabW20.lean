import Derived.Test.YtchfkmompciooabW19
namespace Go.Proofs.Ytchfkmompciooab
open Go.RowKit
set_option linter.unusedVariables false

theorem pow_le_two (a m : Nat) : a ^ m ≤ 2 ^ (blen a * m) := by
  rw [Nat.pow_mul]
  exact Nat.pow_le_pow_left (Nat.le_of_lt (lt_blen a)) m

theorem pow_len {B j : Nat} (hB : B = 2 ^ j) (hj : 0 < j) (a m K : Nat) (h : blen a * m < j * K) : (M.dig B (a ^ m)).length ≤ K := by
  have hB1 : 1 < B := by rw [hB]; exact Nat.one_lt_two_pow (by omega)
  refine M.len_of_lt hB1 _ _ ?_
  rw [hB, ← Nat.pow_mul]
  exact Nat.lt_of_le_of_lt (pow_le_two a m) (Nat.pow_lt_pow_right (by omega) h)

theorem L_pow_len (a m : Nat) (h : blen a * m ≤ 76800) : (L (a ^ m)).length ≤ 1201 := pow_len (j := 64) rfl (by omega) a m 1201 (by omega)
theorem D_pow_len (a m : Nat) (h : blen a * m ≤ 76800) : (D (a ^ m)).length ≤ 2401 := pow_len (j := 32) rfl (by omega) a m 2401 (by omega)

theorem mul_le_of {b m e : Nat} (h : m ≤ e) (hb : b * e ≤ 76800) : b * m ≤ 76800 := Nat.le_trans (Nat.mul_le_mul_left _ h) hb

theorem L_unit : L 1 = [1] := by
  unfold L; rw [M.dig_pos (by omega) (by omega)]; simp [M.dig_zero]

theorem shift_bit (e k : Nat) : e / 2 ^ k = 2 * (e / 2 ^ (k + 1)) + e / 2 ^ k % 2 := by
  rw [Nat.pow_succ, ← Nat.div_div_eq_div_mul]; omega

theorem and_one_i64 (q : Nat) (h : q < 4611686018427387904) : bits .and .i64 (q : Int) 1 = ((q % 2 : Nat) : Int) := by
  have := (bits_nat .i64 62 (by decide) (fun n h1 h2 => by rw [IntKind.wrap_i64]; omega) q 1 (by omega) (by omega)).1
  rw [Nat.and_one_is_mod] at this
  exact this

theorem div_pow_cast (x k : Nat) : (x : Int) / 2 ^ k = ((x / 2 ^ k : Nat) : Int) := by
  have : ((2 : Int) ^ k) = ((2 ^ k : Nat) : Int) := by simp
  rw [this]; exact (Int.natCast_ediv x (2 ^ k)).symm

theorem bit_test (e k : Nat) (he : e ≤ 20000) (b : Nat) (hb : e / 2 ^ k % 2 = b) : (bits BinOp.and IntKind.i64 ((e : Int) / 2 ^ k) 1 == 1) = decide (b = 1) := by
  have h1 := Nat.div_le_self e (2 ^ k)
  rw [div_pow_cast]
  generalize e / 2 ^ k = q at *
  rw [and_one_i64 _ (by omega)]
  rw [Bool.eq_iff_iff]
  simp
  omega

set_option maxHeartbeats 1000000 in
theorem natPower_any (a e : Nat) (w : World) (ha : a < 18446744073709551616) (he : e ≤ 20000) (hb : blen a * e ≤ 76800) :
    Calls Try.prog 43 #[.int .u64 (a : Int), .int .i64 (e : Int)] w fun r w' => Ret w w' r (L (a ^ e)) := by
  obtain ⟨bl, hbl⟩ : ∃ b : Nat, b = blen e := ⟨_, rfl⟩
  have hbl2 : bl ≤ 15 := by rw [hbl]; exact blen_le_of e 15 (by omega)
  have hlt0 : e < 2 ^ bl := by rw [hbl]; exact lt_blen e
  have HBL := hid hbl; clear hbl
  have HLT := hid hlt0; clear hlt0
  have hB1 := blk_lit w [a]
  have hU1 : (U [a]).toArray = #[Value.int .u64 (a : Int)] := rfl
  have hb1 : Below w.heap.size w (w.alloc (.cells (U [a]).toArray 34)) := (Below.refl _ _).alloc (Nat.le_refl _) _
  rw [hU1] at hB1 hb1
  have hf1 : F64 [a] := by intro y hy; simp at hy; omega
  have hv1 : V [a] = a := by simp [V, M.val]
  have HV1 := hid hv1; clear hv1 hU1
  have hlfa := L_len [a] hf1
  rw [HV1.out] at hlfa
  go_enter Try.func43, Try.ntmps43
  go_wp2_with fail
  refine (trim_any _ 1 1 [a] _ rfl (Nat.le_refl _) (by omega) hf1 hB1.rd0).mono ?_
  rw [HV1.out]
  rintro r w1 ⟨rfl, hw1⟩
  have hfac : Rd w1 (some ⟨w.heap.size, 0, none⟩) (L a) := by
    rw [hw1]
    have := hB1.rd0.trim hf1
    rwa [HV1.out] at this
  have hbw1 : Below w.heap.size w w1 := by rw [hw1]; exact hb1
  clear hw1 hB1 hb1
  have hB2 := blk_lit w1 [1]
  have hU2 : (U [1]).toArray = #[Value.int .u64 1] := rfl
  have hb2 : Below w1.heap.size w1 (w1.alloc (.cells (U [1]).toArray 34)) := (Below.refl _ _).alloc (Nat.le_refl _) _
  rw [hU2] at hB2 hb2
  have hb2w := hbw1.trans (hb2.mono hbw1.size)
  have ho2 := hB2.own (base := w.heap.size) (n := 1) hbw1.size rfl (by unfold maxLen; omega)
  have hfac2 := hfac.below hb2
  clear hU2
  go_wp2_with fail
  refine (len_any e _ (by omega) bl HBL.out).mono ?_
  rintro r w3 ⟨rfl, hw3⟩
  rw [← hw3] at hb2w ho2 hfac2
  clear hw3 hb2 hB2 hfac
  have Hw := hid hb2w; have Ho := hid ho2; have Hf := hid hfac2
  clear hb2w ho2 hfac2
  go_wp2_with fail
  go_loopw [6, 7] (fun v i wr => ∃ (k P : Nat) (pa : Option Addr) (pc : Nat), k ≤ bl ∧ i = .int .i64 ((k : Int) - 1) ∧ P = a ^ (e / 2 ^ k) ∧ v = .slice pa (L P).length pc ∧ wr.ownsRow w.heap.size 34 1 (.slice pa (L P).length pc) (L P).length (U (L P)) ∧ Rd wr (some ⟨w.heap.size, 0, none⟩) (L a) ∧ Below w.heap.size w wr) (fun _ i _ => (intOf i + 1).toNat)
  case atStart =>
    refine ⟨bl, 1, some ⟨w1.heap.size, 0, none⟩, 1, Nat.le_refl _, by go_num, ?_, ?_, ?_, Hf.out, Hw.out⟩
    · rw [Nat.div_eq_of_lt HLT.out]; simp
    · rw [L_unit]; rfl
    · rw [L_unit]; exact Ho.out
  case round =>
    obtain ⟨k, P, pa, pc, hk, rfl, hP, rfl, hown, hfa, hbl⟩ := hrel
    have HP := hid hP; clear hP
    clear Hw Ho Hf
    by_cases hk0 : 0 < k
    · obtain ⟨k, rfl⟩ : ∃ k', k = k' + 1 := ⟨k - 1, by omega⟩
      have e1 : (((k + 1 : Nat) : Int) - 1) = (k : Int) := by omega
      rw [e1]
      have hm1 : 2 * (e / 2 ^ (k + 1)) ≤ e := by
        have h1 := shift_bit e k
        have h2 := Nat.div_le_self e (2 ^ k)
        omega
      have hPl : (L P).length ≤ 1201 := by rw [HP.out]; exact L_pow_len a _ (mul_le_of (by omega) hb)
      have hPPl : (L (P * P)).length ≤ 1201 := by
        rw [HP.out, ← Nat.pow_add]; exact L_pow_len a _ (mul_le_of (by omega) hb)
      go_wp2_with fail
      refine (mul_any pa pa _ _ pc pc P P _ rfl rfl (by omega) (by omega) (Rd.own hown) (Rd.own hown)).mono ?_
      rintro r w4 ⟨p2, c2, rfl, ho4, hb4⟩
      have hbw4 := hbl.trans (hb4.mono hbl.size)
      have how4 := own_base ho4 hbl.size
      have hfa4 := hfa.below hb4
      clear ho4 hb4 hown hfa hbl
      have hbit := shift_bit e k
      by_cases hb1 : e / 2 ^ k % 2 = 1
      · have htest := bit_test e k he 1 hb1
        rw [decide_eq_true (by rfl)] at htest
        have hP2 : P * P * a = a ^ (e / 2 ^ k) := by
          rw [hbit, hb1, Nat.pow_succ, Nat.two_mul, Nat.pow_add, ← HP.out]
        have HP2 := hid hP2
        clear hP2 hbit hb1
        go_wp2_with fail
        refine (mul_any p2 _ _ _ c2 1 (P * P) a _ rfl rfl (by omega) (by simp at hlfa; omega) (Rd.own how4) hfa4).mono ?_
        rintro r w5 ⟨p3, c3, rfl, ho5, hb5⟩
        have hbw5 := hbw4.trans (hb5.mono hbw4.size)
        have how5 := own_base ho5 hbw4.size
        have hfa5 := hfa4.below hb5
        clear ho5 hb5 how4 hfa4
        go_wp2_with fail
        go_roundw
        case rel =>
          have R : ∃ (k1 P1 : Nat) (pa1 : Option Addr) (pc1 : Nat), k1 ≤ bl ∧ Value.int .i64 ((k : Int) - 1) = .int .i64 ((k1 : Int) - 1) ∧ P1 = a ^ (e / 2 ^ k1) ∧ Value.slice p3 (L (P * P * a)).length c3 = .slice pa1 (L P1).length pc1 ∧ w5.ownsRow w.heap.size 34 1 (.slice pa1 (L P1).length pc1) (L P1).length (U (L P1)) ∧ Rd w5 (some ⟨w.heap.size, 0, none⟩) (L a) ∧ Below w.heap.size w w5 :=
            ⟨k, P * P * a, p3, c3, by omega, rfl, HP2.out, rfl, how5, hfa5, hbw5⟩
          first | exact R | ((repeat apply Exists.intro); exact ⟨R, rfl⟩)
        case measure => simp [intOf]
      · have hb0 : e / 2 ^ k % 2 = 0 := by omega
        have htest := bit_test e k he 0 hb0
        rw [decide_eq_false (by omega)] at htest
        have hP2 : P * P = a ^ (e / 2 ^ k) := by
          rw [hbit, hb0, Nat.add_zero, Nat.two_mul, Nat.pow_add, ← HP.out]
        have HP2 := hid hP2
        clear hP2 hbit hb1 hb0
        go_wp2_with fail
        go_roundw
        case rel =>
          have R : ∃ (k1 P1 : Nat) (pa1 : Option Addr) (pc1 : Nat), k1 ≤ bl ∧ Value.int .i64 ((k : Int) - 1) = .int .i64 ((k1 : Int) - 1) ∧ P1 = a ^ (e / 2 ^ k1) ∧ Value.slice p2 (L (P * P)).length c2 = .slice pa1 (L P1).length pc1 ∧ w4.ownsRow w.heap.size 34 1 (.slice pa1 (L P1).length pc1) (L P1).length (U (L P1)) ∧ Rd w4 (some ⟨w.heap.size, 0, none⟩) (L a) ∧ Below w.heap.size w w4 :=
            ⟨k, P * P, p2, c2, by omega, rfl, HP2.out, rfl, how4, hfa4, hbw4⟩
          first | exact R | ((repeat apply Exists.intro); exact ⟨R, rfl⟩)
        case measure => simp [intOf]
    · have : k = 0 := by omega
      subst this
      have hPe : P = a ^ e := by rw [HP.out]; simp
      clear HP
      have HPe := hid hPe; clear hPe
      go_wp2_with fail
      go_ret
      rw [← HPe.out]
      exact ⟨pa, pc, rfl, hown, hbl⟩

/-- What NatPow is to answer. -/
def powDoc (a : Nat) (z : Int) : List Nat := if 0 ≤ z ∧ z ≤ 20000 ∧ blen a * z.toNat ≤ 76800 then L (a ^ z.toNat) else []

theorem powDoc_len (a : Nat) (z : Int) : (powDoc a z).length ≤ 1201 := by
  unfold powDoc
  split
  · next h => exact L_pow_len a _ h.2.2
  · simp

set_option maxHeartbeats 1000000 in
theorem implNatPow_any (a : Nat) (z : Int) (w : World) (ha : a < 18446744073709551616) :
    Calls Try.prog 21 #[.int .u64 (a : Int), .int .i64 z] w fun r w' => Ret w w' r (powDoc a z) := by
  by_cases h1 : 0 ≤ z
  · obtain ⟨e, rfl⟩ := Int.eq_ofNat_of_zero_le h1
    by_cases h2 : e ≤ 20000
    · obtain ⟨b, hb⟩ : ∃ b : Nat, b = blen a := ⟨_, rfl⟩
      have hbb : b ≤ 64 := by rw [hb]; exact blen_le_of a 64 ha
      obtain ⟨t, ht⟩ : ∃ t : Nat, t = b * e := ⟨_, rfl⟩
      have htb : t ≤ 1280000 := by rw [ht]; exact Nat.mul_le_mul hbb h2
      have htI : (b : Int) * (e : Int) = (t : Int) := by rw [ht]; exact (Int.natCast_mul b e).symm
      by_cases h3 : t ≤ 76800
      · have hdoc : powDoc a (e : Int) = L (a ^ e) := by
          unfold powDoc; rw [Int.toNat_natCast, if_pos ⟨by omega, by omega, by rw [← hb, ← ht]; exact h3⟩]
        rw [hdoc]
        have hbe : blen a * e ≤ 76800 := by rw [← hb, ← ht]; exact h3
        have HB := hid hb; clear hb ht
        have g1 : ¬ (e : Int) < 0 := by omega
        have g2 : ¬ (20000 : Int) < (e : Int) := by omega
        have g3 : ¬ (76800 : Int) < (t : Int) := by omega
        go_enter Try.func21, Try.ntmps21
        go_wp2_with fail
        refine (len64_any a _ ha b HB.out).mono ?_
        rintro r w1 ⟨rfl, rfl⟩
        go_wp2_with fail
        refine (natPower_any a e _ ha h2 hbe).mono ?_
        rintro r w2 ⟨p2, c2, rfl, ho, hb⟩
        go_wp2_with fail
        go_ret
        exact ⟨p2, c2, rfl, ho, hb⟩
      · have hdoc : powDoc a (e : Int) = [] := by
          unfold powDoc; rw [Int.toNat_natCast, if_neg (by rw [← hb, ← ht]; omega)]
        rw [hdoc]
        have HB := hid hb; clear hb ht
        have g1 : ¬ (e : Int) < 0 := by omega
        have g2 : ¬ (20000 : Int) < (e : Int) := by omega
        have g3 : (76800 : Int) < (t : Int) := by omega
        go_enter Try.func21, Try.ntmps21
        go_wp2_with fail
        refine (len64_any a _ ha b HB.out).mono ?_
        rintro r w1 ⟨rfl, rfl⟩
        go_wp2_with fail
        go_ret
        exact Ret.nil (Below.refl _ _)
    · have hdoc : powDoc a (e : Int) = [] := by unfold powDoc; rw [if_neg (by omega)]
      rw [hdoc]
      have g1 : ¬ (e : Int) < 0 := by omega
      have g2 : (20000 : Int) < (e : Int) := by omega
      go_enter Try.func21, Try.ntmps21
      go_wp2_with fail
      go_ret
      exact Ret.nil (Below.refl _ _)
  · have hdoc : powDoc a z = [] := by unfold powDoc; rw [if_neg (by omega)]
    rw [hdoc]
    have g1 : z < 0 := by omega
    go_enter Try.func21, Try.ntmps21
    go_wp2_with fail
    go_ret
    exact Ret.nil (Below.refl _ _)

theorem D_one : D 1 = [1] := by
  unfold D; rw [M.dig_pos (by omega) (by omega)]; simp [M.dig_zero]

set_option maxHeartbeats 1000000 in
theorem specNatPow_any (a : Nat) (z : Int) (w : World) (ha : a < 18446744073709551616) :
    Calls Try.prog 22 #[.int .u64 (a : Int), .int .i64 z] w fun r w' => Ret w w' r (powDoc a z) := by
  have hDl : (D a).length ≤ 2 := M.len_of_lt (by omega) a 2 (by omega)
  by_cases h1 : 0 ≤ z
  · obtain ⟨e, rfl⟩ := Int.eq_ofNat_of_zero_le h1
    by_cases h2 : e ≤ 20000
    · obtain ⟨b, hb⟩ : ∃ b : Nat, b = blen a := ⟨_, rfl⟩
      have hbb : b ≤ 64 := by rw [hb]; exact blen_le_of a 64 ha
      obtain ⟨t, ht⟩ : ∃ t : Nat, t = b * e := ⟨_, rfl⟩
      have htb : t ≤ 1280000 := by rw [ht]; exact Nat.mul_le_mul hbb h2
      have htI : (b : Int) * (e : Int) = (t : Int) := by rw [ht]; exact (Int.natCast_mul b e).symm
      by_cases h3 : t ≤ 76800
      · have hdoc : powDoc a (e : Int) = L (a ^ e) := by
          unfold powDoc; rw [Int.toNat_natCast, if_pos ⟨by omega, by omega, by rw [← hb, ← ht]; exact h3⟩]
        rw [hdoc]
        have hbe : blen a * e ≤ 76800 := by rw [← hb, ← ht]; exact h3
        have HB := hid hb; clear hb ht
        have g1 : ¬ (e : Int) < 0 := by omega
        have g2 : ¬ (20000 : Int) < (e : Int) := by omega
        have g3 : ¬ (76800 : Int) < (t : Int) := by omega
        go_enter Try.func22, Try.ntmps22
        go_wp2_with fail
        refine (l1Of_any a _ ha).mono ?_
        rintro r w1 ⟨pa, ca, rfl, hoa, hb1⟩
        go_wp2_with fail
        refine (l1Bits_any pa _ ca a _ rfl (by omega) (Rd.own hoa) b HB.out).mono ?_
        rintro r w2 ⟨rfl, rfl⟩
        go_wp2_with fail
        refine (l1Of_any 1 _ (by omega)).mono ?_
        rintro r w3 ⟨p1, c1, rfl, ho1, hb3⟩
        have Hra := hid ((Rd.own hoa).below hb3)
        have Hw := hid (hb1.trans (hb3.mono hb1.size))
        have Ho := hid (own_base ho1 hb1.size)
        clear hoa hb1 ho1 hb3
        go_wp2_with fail
        go_loopw [1, 6] (fun i v wr => ∃ (k P : Nat) (pp : Option Addr) (pc : Nat), k ≤ e ∧ i = .int .i64 ((e : Int) - (k : Int)) ∧ P = a ^ k ∧ v = .slice pp (D P).length pc ∧ wr.ownsRow w.heap.size 34 1 (.slice pp (D P).length pc) (D P).length (U (D P)) ∧ Rd wr pa (D a) ∧ Below w.heap.size w wr) (fun i _ _ => (intOf i).toNat)
        case atStart => exact ⟨0, 1, p1, c1, by omega, by simp, by simp, rfl, Ho.out, Hra.out, Hw.out⟩
        case round =>
          obtain ⟨k, P, pp, pc, hk, rfl, hP, rfl, hown, hra, hbl⟩ := hrel
          clear Hra Hw Ho
          have hPl : (D P).length ≤ 2401 := by rw [hP]; exact D_pow_len a _ (mul_le_of hk hbe)
          have HP := hid hP; clear hP
          by_cases hke : k < e
          · have hgt : (0 : Int) < (e : Int) - (k : Int) := by omega
            go_wp2_with fail
            refine (l1Mul_any pp pa _ _ pc ca P a _ rfl rfl (by omega) (by omega) (Rd.own hown) hra).mono ?_
            rintro r w4 ⟨p2, c2, rfl, ho4, hb4⟩
            have hbw4 := hbl.trans (hb4.mono hbl.size)
            have how4 := own_base ho4 hbl.size
            have hra4 := hra.below hb4
            clear ho4 hb4 hown hra hbl
            go_wp2_with fail
            go_roundw
            case rel =>
              have R : ∃ (k1 P1 : Nat) (pp1 : Option Addr) (pc1 : Nat), k1 ≤ e ∧ Value.int .i64 ((e : Int) - (k : Int) - 1) = .int .i64 ((e : Int) - (k1 : Int)) ∧ P1 = a ^ k1 ∧ Value.slice p2 (D (P * a)).length c2 = .slice pp1 (D P1).length pc1 ∧ w4.ownsRow w.heap.size 34 1 (.slice pp1 (D P1).length pc1) (D P1).length (U (D P1)) ∧ Rd w4 pa (D a) ∧ Below w.heap.size w w4 :=
                ⟨k + 1, P * a, p2, c2, by omega, by go_num, by rw [Nat.pow_succ, ← HP.out], rfl, how4, hra4, hbw4⟩
              first | exact R | ((repeat apply Exists.intro); exact ⟨R, rfl⟩)
            case measure => simp [intOf]; omega
          · have hke' : k = e := by omega
            subst hke'
            have hgt : ¬ (0 : Int) < (k : Int) - (k : Int) := by omega
            go_wp2_with fail
            refine (l1Out_any pp _ pc P _ rfl (by omega) (Rd.own hown)).mono ?_
            rintro r w6 ⟨p4, c4, rfl, ho4, hb4⟩
            go_wp2_with fail
            go_ret
            rw [← HP.out]
            exact ⟨p4, c4, rfl, own_base ho4 hbl.size, hbl.trans (hb4.mono hbl.size)⟩
      · have hdoc : powDoc a (e : Int) = [] := by
          unfold powDoc; rw [Int.toNat_natCast, if_neg (by rw [← hb, ← ht]; omega)]
        rw [hdoc]
        have HB := hid hb; clear hb ht
        have g1 : ¬ (e : Int) < 0 := by omega
        have g2 : ¬ (20000 : Int) < (e : Int) := by omega
        have g3 : (76800 : Int) < (t : Int) := by omega
        go_enter Try.func22, Try.ntmps22
        go_wp2_with fail
        refine (l1Of_any a _ ha).mono ?_
        rintro r w1 ⟨pa, ca, rfl, hoa, hb1⟩
        go_wp2_with fail
        refine (l1Bits_any pa _ ca a _ rfl (by omega) (Rd.own hoa) b HB.out).mono ?_
        rintro r w2 ⟨rfl, rfl⟩
        go_wp2_with fail
        go_ret
        exact Ret.nil hb1
    · have hdoc : powDoc a (e : Int) = [] := by unfold powDoc; rw [if_neg (by omega)]
      rw [hdoc]
      have g1 : ¬ (e : Int) < 0 := by omega
      have g2 : (20000 : Int) < (e : Int) := by omega
      go_enter Try.func22, Try.ntmps22
      go_wp2_with fail
      refine (l1Of_any a _ ha).mono ?_
      rintro r w1 ⟨pa, ca, rfl, hoa, hb1⟩
      go_wp2_with fail
      go_ret
      exact Ret.nil hb1
  · have hdoc : powDoc a z = [] := by unfold powDoc; rw [if_neg (by omega)]
    rw [hdoc]
    have g1 : z < 0 := by omega
    go_enter Try.func22, Try.ntmps22
    go_wp2_with fail
    refine (l1Of_any a _ ha).mono ?_
    rintro r w1 ⟨pa, ca, rfl, hoa, hb1⟩
    go_wp2_with fail
    go_ret
    exact Ret.nil hb1

end Go.Proofs.Ytchfkmompciooab
