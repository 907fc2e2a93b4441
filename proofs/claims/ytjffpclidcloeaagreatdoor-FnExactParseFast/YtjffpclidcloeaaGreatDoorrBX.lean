import Derived.Test.YtjffpclidcloeaaGreatDoorrBY
import Derived.Test.YtjffpclidcloeaaGreatDoorrBF
import Derived.Test.YtjffpclidcloeaaGreatDoorrLD
import Derived.Test.YtjffpclidcloeaaGreatDoorrBV
import Derived.Test.YtjffpclidcloeaaGreatDoorrBS
set_option maxHeartbeats 2000000
namespace Go.Proofs.YtjffpclidcloeaaGreatDoor
open Go.RowKit
set_option linter.unusedVariables false
set_option maxRecDepth 100000
theorem len_any (x : Nat) (w : World) (h : x < 18446744073709551616) (b : Nat) (hb : b = blen x) :
 Calls Tryz.prog 135 #[.int .u64 (x : Int)] w fun e w' => e = .returned (.int .i64 (b : Int)) ∧ w' = w := by
 have HB := hid hb; clear hb
 go_enter Tryz.func135, Tryz.ntmps135
 go_wp2_with fail
 refine (len64_any x _ h b HB.out).mono ?_
 rintro e w1 ⟨rfl, rfl⟩
 go_wp2_with fail
 go_ret
 exact ⟨rfl, rfl⟩

theorem pow_le_two (a m : Nat) : a ^ m ≤ 2 ^ (blen a * m) := by
 rw [Nat.pow_mul]
 exact Nat.pow_le_pow_left (Nat.le_of_lt (lt_blen a)) m

theorem pow_len {B j : Nat} (hB : B = 2 ^ j) (hj : 0 < j) (a m K : Nat) (h : blen a * m < j * K) : (M.dig B (a ^ m)).length ≤ K := by
 have hB1 : 1 < B := by rw [hB]; exact Nat.one_lt_two_pow (by omega)
 refine M.len_of_lt hB1 _ _ ?_
 rw [hB, ← Nat.pow_mul]
 exact Nat.lt_of_le_of_lt (pow_le_two a m) (Nat.pow_lt_pow_right (by omega) h)

theorem L_pow_len (a m : Nat) (h : blen a * m ≤ 76800) : (L (a ^ m)).length ≤ 1201 := pow_len (j := 64) rfl (by omega) a m 1201 (by omega)

theorem mul_le_of {b m e : Nat} (h : m ≤ e) (hb : b * e ≤ 76800) : b * m ≤ 76800 := Nat.le_trans (Nat.mul_le_mul_left _ h) hb

theorem L_unit : L 1 = [1] := by
 unfold L; rw [M.dig_pos (by omega) (by omega)]; simp [M.dig_zero]

theorem shift_bit (e k : Nat) : e / 2 ^ k = 2 * (e / 2 ^ (k + 1)) + e / 2 ^ k % 2 := by
 rw [Nat.pow_succ, ← Nat.div_div_eq_div_mul]; omega

theorem and_one_i64 (q : Nat) (h : q < 4611686018427387904) : bits .and .i64 (q : Int) 1 = ((q % 2 : Nat) : Int) := by
 have := (bits_nat .i64 62 (by decide) (fun n h1 h2 => by rw [IntKind.wrap_i64]; omega) q 1 (by omega) (by omega)).1
 rw [Nat.and_one_is_mod] at this
 exact this

theorem div_pow_cast (x k : Nat) : (x : Int) / 2 ^ k = ((x / 2 ^ k : Nat) : Int) := by
 have : ((2 : Int) ^ k) = ((2 ^ k : Nat) : Int) := by simp
 rw [this]; exact (Int.natCast_ediv x (2 ^ k)).symm

theorem bit_test (e k : Nat) (he : e ≤ 20000) (b : Nat) (hb : e / 2 ^ k % 2 = b) : (bits BinOp.and IntKind.i64 ((e : Int) / 2 ^ k) 1 == 1) = decide (b = 1) := by
 have h1 := Nat.div_le_self e (2 ^ k)
 rw [div_pow_cast]
 generalize e / 2 ^ k = q at *
 rw [and_one_i64 _ (by omega)]
 rw [Bool.eq_iff_iff]
 simp
 omega

theorem natPower_any (a e : Nat) (w : World) (ha : a < 18446744073709551616) (he : e ≤ 20000) (hb : blen a * e ≤ 76800) :
 Calls Tryz.prog 116 #[.int .u64 (a : Int), .int .i64 (e : Int)] w fun r w' => Ret w w' r (L (a ^ e)) := by
 obtain ⟨bl, hbl⟩ : ∃ b : Nat, b = blen e := ⟨_, rfl⟩
 have hbl2 : bl ≤ 15 := by rw [hbl]; exact blen_le_of e 15 (by omega)
 have hlt0 : e < 2 ^ bl := by rw [hbl]; exact lt_blen e
 have HBL := hid hbl; clear hbl
 have HLT := hid hlt0; clear hlt0
 have hB1 := blk_lit w [a]
 have hU1 : (U [a]).toArray = #[Value.int .u64 (a : Int)] := rfl
 have hb1 : Below w.heap.size w (w.alloc (.cells (U [a]).toArray 23)) := (Below.refl _ _).alloc (Nat.le_refl _) _
 rw [hU1] at hB1 hb1
 have hf1 : F64 [a] := by intro y hy; simp at hy; omega
 have hv1 : V [a] = a := by simp [V, M.val]
 have HV1 := hid hv1; clear hv1 hU1
 have hlfa := L_len [a] hf1
 rw [HV1.out] at hlfa
 go_enter Tryz.func116, Tryz.ntmps116
 go_wp2_with fail
 refine (trim_any _ 1 1 [a] _ rfl (Nat.le_refl _) (by omega) hf1 hB1.rd0).mono ?_
 rw [HV1.out]
 rintro r w1 ⟨rfl, hw1⟩
 have hfac : Rd w1 (some ⟨w.heap.size, 0, none⟩) (L a) := by
  rw [hw1]
  have := hB1.rd0.trim hf1
  rwa [HV1.out] at this
 have hbw1 : Below w.heap.size w w1 := by rw [hw1]; exact hb1
 clear hw1 hB1 hb1
 have hB2 := blk_lit w1 [1]
 have hU2 : (U [1]).toArray = #[Value.int .u64 1] := rfl
 have hb2 : Below w1.heap.size w1 (w1.alloc (.cells (U [1]).toArray 23)) := (Below.refl _ _).alloc (Nat.le_refl _) _
 rw [hU2] at hB2 hb2
 have hb2w := hbw1.trans (hb2.mono hbw1.size)
 have ho2 := hB2.own (base := w.heap.size) (n := 1) hbw1.size rfl (by unfold maxLen; omega)
 have hfac2 := hfac.below hb2
 clear hU2
 go_wp2_with fail
 refine (len_any e _ (by omega) bl HBL.out).mono ?_
 rintro r w3 ⟨rfl, hw3⟩
 rw [← hw3] at hb2w ho2 hfac2
 clear hw3 hb2 hB2 hfac
 have Hw := hid hb2w; have Ho := hid ho2; have Hf := hid hfac2
 clear hb2w ho2 hfac2
 go_wp2_with fail
 go_loopw [6, 7] (fun v i wr => ∃ (k P : Nat) (pa : Option Addr) (pc : Nat), k ≤ bl ∧ i = .int .i64 ((k : Int) - 1) ∧ P = a ^ (e / 2 ^ k) ∧ v = .slice pa (L P).length pc ∧ wr.ownsRow w.heap.size 23 1 (.slice pa (L P).length pc) (L P).length (U (L P)) ∧ Rd wr (some ⟨w.heap.size, 0, none⟩) (L a) ∧ Below w.heap.size w wr) (fun _ i _ => (intOf i + 1).toNat)
 case atStart =>
  refine ⟨bl, 1, some ⟨w1.heap.size, 0, none⟩, 1, Nat.le_refl _, by go_num, ?_, ?_, ?_, Hf.out, Hw.out⟩
  · rw [Nat.div_eq_of_lt HLT.out]; simp
  · rw [L_unit]; rfl
  · rw [L_unit]; exact Ho.out
 case round =>
  obtain ⟨k, P, pa, pc, hk, rfl, hP, rfl, hown, hfa, hbl⟩ := hrel
  have HP := hid hP; clear hP
  clear Hw Ho Hf
  by_cases hk0 : 0 < k
  · obtain ⟨k, rfl⟩ : ∃ k', k = k' + 1 := ⟨k - 1, by omega⟩
    have e1 : (((k + 1 : Nat) : Int) - 1) = (k : Int) := by omega
    rw [e1]
    have hm1 : 2 * (e / 2 ^ (k + 1)) ≤ e := by
     have h1 := shift_bit e k
     have h2 := Nat.div_le_self e (2 ^ k)
     omega
    have hPl : (L P).length ≤ 1201 := by rw [HP.out]; exact L_pow_len a _ (mul_le_of (by omega) hb)
    have hPPl : (L (P * P)).length ≤ 1201 := by
     rw [HP.out, ← Nat.pow_add]; exact L_pow_len a _ (mul_le_of (by omega) hb)
    go_wp2_with fail
    refine (mul_any pa pa _ _ pc pc P P _ rfl rfl (by omega) (by omega) (Rd.own hown) (Rd.own hown)).mono ?_
    rintro r w4 ⟨p2, c2, rfl, ho4, hb4⟩
    have hbw4 := hbl.trans (hb4.mono hbl.size)
    have how4 := own_base ho4 hbl.size
    have hfa4 := hfa.below hb4
    clear ho4 hb4 hown hfa hbl
    have hbit := shift_bit e k
    by_cases hb1 : e / 2 ^ k % 2 = 1
    · have htest := bit_test e k he 1 hb1
      rw [decide_eq_true (by rfl)] at htest
      have hP2 : P * P * a = a ^ (e / 2 ^ k) := by
       rw [hbit, hb1, Nat.pow_succ, Nat.two_mul, Nat.pow_add, ← HP.out]
      have HP2 := hid hP2
      clear hP2 hbit hb1
      go_wp2_with fail
      refine (mul_any p2 _ _ _ c2 1 (P * P) a _ rfl rfl (by omega) (by simp at hlfa; omega) (Rd.own how4) hfa4).mono ?_
      rintro r w5 ⟨p3, c3, rfl, ho5, hb5⟩
      have hbw5 := hbw4.trans (hb5.mono hbw4.size)
      have how5 := own_base ho5 hbw4.size
      have hfa5 := hfa4.below hb5
      clear ho5 hb5 how4 hfa4
      go_wp2_with fail
      go_roundw
      case rel =>
       have R : ∃ (k1 P1 : Nat) (pa1 : Option Addr) (pc1 : Nat), k1 ≤ bl ∧ Value.int .i64 ((k : Int) - 1) = .int .i64 ((k1 : Int) - 1) ∧ P1 = a ^ (e / 2 ^ k1) ∧ Value.slice p3 (L (P * P * a)).length c3 = .slice pa1 (L P1).length pc1 ∧ w5.ownsRow w.heap.size 23 1 (.slice pa1 (L P1).length pc1) (L P1).length (U (L P1)) ∧ Rd w5 (some ⟨w.heap.size, 0, none⟩) (L a) ∧ Below w.heap.size w w5 :=
        ⟨k, P * P * a, p3, c3, by omega, rfl, HP2.out, rfl, how5, hfa5, hbw5⟩
       first | exact R | ((repeat apply Exists.intro); exact ⟨R, rfl⟩)
      case measure => simp [intOf]
    · have hb0 : e / 2 ^ k % 2 = 0 := by omega
      have htest := bit_test e k he 0 hb0
      rw [decide_eq_false (by omega)] at htest
      have hP2 : P * P = a ^ (e / 2 ^ k) := by
       rw [hbit, hb0, Nat.add_zero, Nat.two_mul, Nat.pow_add, ← HP.out]
      have HP2 := hid hP2
      clear hP2 hbit hb1 hb0
      go_wp2_with fail
      go_roundw
      case rel =>
       have R : ∃ (k1 P1 : Nat) (pa1 : Option Addr) (pc1 : Nat), k1 ≤ bl ∧ Value.int .i64 ((k : Int) - 1) = .int .i64 ((k1 : Int) - 1) ∧ P1 = a ^ (e / 2 ^ k1) ∧ Value.slice p2 (L (P * P)).length c2 = .slice pa1 (L P1).length pc1 ∧ w4.ownsRow w.heap.size 23 1 (.slice pa1 (L P1).length pc1) (L P1).length (U (L P1)) ∧ Rd w4 (some ⟨w.heap.size, 0, none⟩) (L a) ∧ Below w.heap.size w w4 :=
        ⟨k, P * P, p2, c2, by omega, rfl, HP2.out, rfl, how4, hfa4, hbw4⟩
       first | exact R | ((repeat apply Exists.intro); exact ⟨R, rfl⟩)
      case measure => simp [intOf]
  · have : k = 0 := by omega
    subst this
    have hPe : P = a ^ e := by rw [HP.out]; simp
    clear HP
    have HPe := hid hPe; clear hPe
    go_wp2_with fail
    go_ret
    rw [← HPe.out]
    exact ⟨pa, pc, rfl, hown, hbl⟩

theorem keepC1 {w1 W v : World} (h : Below w1.heap.size w1 W) (k : Below W.heap.size W v) : Below w1.heap.size w1 v := h.trans (k.mono h.size)

theorem two_new (w : World) (t : TypeId) (x y : Value) : (w.alloc (.cells #[x, y] t)).cell? ⟨w.heap.size, 0, none⟩ = some x ∧ (w.alloc (.cells #[x, y] t)).cell? ⟨w.heap.size, 1, none⟩ = some y ∧ (w.alloc (.cells #[x, y] t)).frozen? ⟨w.heap.size, 0, none⟩ = false ∧ (w.alloc (.cells #[x, y] t)).frozen? ⟨w.heap.size, 1, none⟩ = false := by
 simp [go_sem]

def RR (w w' : World) (e : Ending) (N De : Nat) : Prop := ∃ a c b d, e = .returned (.agg #[.slice a (L N).length c, .slice b (L De).length d]) ∧ Rd w' a (L N) ∧ Rd w' b (L De) ∧ Below w.heap.size w w'

theorem blen10 : blen 10 = 4 := by decide

theorem ten_ok (m : Nat) (h : m ≤ 19000) : blen 10 * m ≤ 76800 := by rw [blen10]; omega

theorem own_apart {w : World} {base n cap g : Nat} {ao : Option Addr} {xs : List Value} (h : w.ownsRow base 23 1 (.slice ao n cap) n xs) (hg : g < base) : (Value.slice ao n cap).ownBlock ≠ some g := by
 rcases h.2 with ⟨he, h0⟩ | ⟨k, cap', cur, he, hk, _⟩
 · simp only [Value.slice.injEq] at he
   obtain ⟨rfl, _, rfl⟩ := he
   simp [Value.ownBlock]
 · simp only [Value.slice.injEq] at he
   obtain ⟨rfl, _, rfl⟩ := he
   simp [Value.ownBlock]; omega

theorem own_two {w : World} {base n cap g : Nat} {ao : Option Addr} {xs : List Nat} (h : w.ownsRow base 23 1 (.slice ao n cap) n (U xs)) (hg : g < base) (u v : Value) : Rd ((w.setCell ⟨g, 0, none⟩ u).setCell ⟨g, 1, none⟩ v) ao xs :=
 Rd.own (ownsRow_setCell_other (ownsRow_setCell_other h (own_apart h hg) u) (own_apart h hg) v)

theorem tenPower_pos (m : Nat) (w : World) (hm : m ≤ 19000) :
 Calls Tryz.prog 94 #[.int .i64 (m : Int)] w fun e w' => RR w w' e (10 ^ m) (1) := by
 have k1 := fun v : World => natPower_any 10 m v (by omega) (by omega) (ten_ok m (by omega))
 have k2 := fun v : World => natPower_any 10 0 v (by omega) (by omega) (ten_ok 0 (by omega))
 have hz : max (m : Int) 0 = (m : Int) := by omega
 have hz2 : max (-(m : Int)) 0 = (0 : Int) := by omega
 have b0 := (Below.refl w.heap.size w).alloc (Nat.le_refl _) (.cells #[.slice none 0 0, .slice none 0 0] 99)
 obtain ⟨c0, c1, z0, z1⟩ := two_new w 99 (.slice none 0 0) (.slice none 0 0)
 have l0 : w.heap.size < (w.alloc (.cells #[.slice none 0 0, .slice none 0 0] 99)).heap.size := by simp
 go_enter Tryz.func94, Tryz.ntmps94
 go_wp2_with fail
 refine (k1 _).mono ?_
 rintro e v1 ⟨a, c, rfl, ho1, hb1⟩
 have b1 := b0.trans (hb1.mono b0.size)
 go_wp2_with fail
 refine (k2 _).mono ?_
 rintro e v2 ⟨b, d, rfl, ho2, hb2⟩
 have hb3 := hb1.trans (hb2.mono hb1.size)
 have b2 := b1.trans (hb2.mono b1.size)
 have c0' : v2.cell? ⟨w.heap.size, 0, none⟩ = some (.slice none 0 0) := (hb3.cell l0).trans c0
 have c1' : v2.cell? ⟨w.heap.size, 1, none⟩ = some (.slice none 0 0) := (hb3.cell l0).trans c1
 have z0' : v2.frozen? ⟨w.heap.size, 0, none⟩ = false := (hb3.frozen l0).trans z0
 have z1' : v2.frozen? ⟨w.heap.size, 1, none⟩ = false := (hb3.frozen l0).trans z1
 have hl : w.heap.size < v1.heap.size := Nat.lt_of_lt_of_le l0 hb1.size
 have q1 := own_two (own_below ho1 hb2) l0
 have q2 := own_two ho2 hl
 clear ho1 ho2 c0 c1 z0 z1 hb2 hb1 hb3 b1 b0 l0 hl
 go_wp2_with fail
 exact bodyPost_ret (v := .agg #[.slice a (L (10 ^ m)).length c, .slice b (L (1)).length d]) (by simp [results, Tryz.results94, go_sem, c0', c1']) rfl ⟨a, c, b, d, rfl, q1 _ _, q2 _ _, (b2.setCell (p := ⟨w.heap.size, 0, none⟩) (Nat.le_refl _) _).setCell (p := ⟨w.heap.size, 1, none⟩) (Nat.le_refl _) _⟩

theorem tenPower_neg (m : Nat) (w : World) (hm : m ≤ 19000) :
 Calls Tryz.prog 94 #[.int .i64 (-(m : Int))] w fun e w' => RR w w' e (1) (10 ^ m) := by
 have k1 := fun v : World => natPower_any 10 0 v (by omega) (by omega) (ten_ok 0 (by omega))
 have k2 := fun v : World => natPower_any 10 m v (by omega) (by omega) (ten_ok m (by omega))
 have hz : max (-(m : Int)) 0 = (0 : Int) := by omega
 have hz2 : max (-(-(m : Int))) 0 = (m : Int) := by omega
 have b0 := (Below.refl w.heap.size w).alloc (Nat.le_refl _) (.cells #[.slice none 0 0, .slice none 0 0] 99)
 obtain ⟨c0, c1, z0, z1⟩ := two_new w 99 (.slice none 0 0) (.slice none 0 0)
 have l0 : w.heap.size < (w.alloc (.cells #[.slice none 0 0, .slice none 0 0] 99)).heap.size := by simp
 go_enter Tryz.func94, Tryz.ntmps94
 go_wp2_with fail
 refine (k1 _).mono ?_
 rintro e v1 ⟨a, c, rfl, ho1, hb1⟩
 have b1 := b0.trans (hb1.mono b0.size)
 go_wp2_with fail
 refine (k2 _).mono ?_
 rintro e v2 ⟨b, d, rfl, ho2, hb2⟩
 have hb3 := hb1.trans (hb2.mono hb1.size)
 have b2 := b1.trans (hb2.mono b1.size)
 have c0' : v2.cell? ⟨w.heap.size, 0, none⟩ = some (.slice none 0 0) := (hb3.cell l0).trans c0
 have c1' : v2.cell? ⟨w.heap.size, 1, none⟩ = some (.slice none 0 0) := (hb3.cell l0).trans c1
 have z0' : v2.frozen? ⟨w.heap.size, 0, none⟩ = false := (hb3.frozen l0).trans z0
 have z1' : v2.frozen? ⟨w.heap.size, 1, none⟩ = false := (hb3.frozen l0).trans z1
 have hl : w.heap.size < v1.heap.size := Nat.lt_of_lt_of_le l0 hb1.size
 have q1 := own_two (own_below ho1 hb2) l0
 have q2 := own_two ho2 hl
 clear ho1 ho2 c0 c1 z0 z1 hb2 hb1 hb3 b1 b0 l0 hl
 go_wp2_with fail
 exact bodyPost_ret (v := .agg #[.slice a (L (1)).length c, .slice b (L (10 ^ m)).length d]) (by simp [results, Tryz.results94, go_sem, c0', c1']) rfl ⟨a, c, b, d, rfl, q1 _ _, q2 _ _, (b2.setCell (p := ⟨w.heap.size, 0, none⟩) (Nat.le_refl _) _).setCell (p := ⟨w.heap.size, 1, none⟩) (Nat.le_refl _) _⟩

theorem far2' (v : World) (x y : Value) {g b o : Nat} (h : b ≠ g) : ((v.setCell ⟨g, 0, none⟩ x).setCell ⟨g, 1, none⟩ y).cell? ⟨b, o, none⟩ = v.cell? ⟨b, o, none⟩ :=
 World.cell?_of_block (w := v) (a := ⟨b, o, none⟩) ((Below.heap_setCell _ _ _ _ h).trans (Below.heap_setCell _ _ _ _ h))

theorem M.times32 (x y cc : Nat) (hx : x < 4294967296) (hy : y < 4294967296) (hc : cc < 4294967296) : y * x + cc < 18446744073709551616 ∧ (y * x + cc) / 4294967296 < 4294967296 := by
 have h : y * x ≤ 4294967295 * 4294967295 := Nat.mul_le_mul (by omega) (by omega)
 constructor <;> omega

theorem M.times32_over {S c c' P C o y x T : Nat} (h : S + c * P = x * T) (hs : o + C * c' = y * x + c) : S + P * o + c' * (P * C) = x * (T + P * y) := by
 have e : P * (o + C * c') = P * (y * x + c) := by rw [hs]
 simp only [Nat.mul_add] at e ⊢
 rw [Nat.mul_comm c' (P * C), Nat.mul_assoc]
 rw [Nat.mul_comm c P] at h
 have e2 : x * (P * y) = P * (y * x) := by rw [Nat.mul_comm x, Nat.mul_assoc]
 rw [e2]
 omega

theorem l1Times_any (ao : Option Addr) (n c x : Nat) (a : Nat) (w : World) (hl : (D a).length = n) (hn : n ≤ 1048576) (hx : x < 4294967296) (hr : Rd w ao (D a)) :
 Calls Tryz.prog 34 #[.slice ao n c, .int .u64 (x : Int)] w fun e w' => Ret w w' e (D (a * x)) := by
 obtain ⟨i0, hi, hz0, hz1, hz2⟩ := info_parts Tryz.infoU
 have fa := F32_D a
 go_enter Tryz.func34, Tryz.ntmps34
 go_wp2_with fail
 go_loopw [5, 6, 7] (fun v cy i wr => ∃ (k : Nat) (os : List Nat) (cc : Nat), k ≤ n ∧ i = .int .i64 k ∧ cy = .int .u64 cc ∧ cc < 4294967296 ∧ wr.ownsRow w.heap.size 23 1 v k (U os) ∧ F32 os ∧ os.length = k ∧ X os + cc * 4294967296 ^ k = x * X ((D a).take k) ∧ Below w.heap.size w wr) (fun _ _ i _ => n - (intOf i).toNat)
 case atStart =>
  refine ⟨0, [], 0, by omega, rfl, rfl, by omega, World.ownsRow_nil _ _ _ _, fun x hx => by simp at hx, rfl, by simp [X, M.val], Below.refl _ _⟩
 case round =>
  obtain ⟨k, os, cc, hk, rfl, rfl, hcc, hown, hf, hlen, hv, hbl⟩ := hrel
  have HV := hid hv; clear hv
  have HLen := hid hlen; clear hlen
  by_cases hlt : k < n
  · obtain ⟨b2, o2, hbo, hc2⟩ := (hr.below hbl) (by omega)
    have hck := hc2 k (by omega)
    clear hc2
    have hy1 := fa.get k
    obtain ⟨y, hyy⟩ : ∃ y : Nat, y = (D a).getD k 0 := ⟨_, rfl⟩
    rw [← hyy] at hck hy1
    have HY := hid hyy; clear hyy
    have hlt' : (k : Int) < (n : Int) := by omega
    have hbb := M.times32 x y cc hx hy1 hcc
    obtain ⟨p, ep⟩ : ∃ p : Nat, p = y * x := ⟨_, rfl⟩
    rw [← ep] at hbb
    have wp := wrapMul y x p ep (by omega)
    obtain ⟨t, et⟩ : ∃ t : Nat, t = p + cc := ⟨_, rfl⟩
    rw [← et] at hbb
    have wt := wrapAdd p cc t et (by omega)
    have htI : (p : Int) + (cc : Int) = (t : Int) := by omega
    have hlow := low_mask t (by omega)
    obtain ⟨o, eo⟩ : ∃ o : Nat, o = t % 4294967296 := ⟨_, rfl⟩
    rw [← eo] at hlow
    obtain ⟨h, eh⟩ : ∃ h : Nat, h = t / 4294967296 := ⟨_, rfl⟩
    have hhi : (t : Int) / 4294967296 = (h : Int) := by omega
    have htb : t < 18446744073709551616 := hbb.1
    have hsum : o + 4294967296 * h = y * x + cc ∧ o < 4294967296 ∧ h < 4294967296 := by rw [← ep]; omega
    have E1 := hid hsum; have E2 := hid hbb; have E3 := hid et; have E4 := hid eo; have E5 := hid eh; have E6 := hid ep
    clear hsum hbb et eo eh ep hcc
    go_wp2_with (at_builtin; refine wpList_append_own _ rfl _ _ 43 rfl w.heap.size 23 i0 (.int .u64 0) 1 8 Tryz.underlying43 hi hz0 hz1 hz2 rfl (by decide) _ _ _ rfl (hown.alloc _) ⟨wr.heap.size, 0, none⟩ 1 1 (U [o]) rfl rfl ?c1 ?c2 ?c3 ?c4 ?c5 ?_)
    case c1 =>
     intro j u hj
     match j, hj with
     | 0, hj => simp [U] at hj; subst hj; simp [Addr.add]
    case c2 => exact U_one _
    case c3 => unfold maxLen; omega
    case c4 => omega
    case c5 => have := hbl.size; simp; omega
    intro v' w1 hown' hgrow hnn
    clear hnn
    have hb1 : Below w.heap.size w w1 := (hbl.alloc hbl.size _).grown hgrow (by have := hbl.size; simp; omega) (fun k' hk' => (hown.lt k' hk').1)
    clear hgrow
    clear hown
    go_wp2_with fail
    go_roundw
    case rel =>
     have R : ∃ (k1 : Nat) (os1 : List Nat) (cc1 : Nat), k1 ≤ n ∧ Value.int .i64 ((k : Int) + 1) = .int .i64 k1 ∧ Value.int .u64 (h : Int) = .int .u64 cc1 ∧ cc1 < 4294967296 ∧ w1.ownsRow w.heap.size 23 1 v' k1 (U os1) ∧ F32 os1 ∧ os1.length = k1 ∧ X os1 + cc1 * 4294967296 ^ k1 = x * X ((D a).take k1) ∧ Below w.heap.size w w1 := by
      refine ⟨k + 1, os ++ [o], h, by omega, by go_num, rfl, E1.out.2.2, ?_, ?_, by simp [HLen.out], ?_, hb1⟩
      · rw [U_append]; exact hown'
      · intro z hz
        rcases List.mem_append.1 hz with hz | hz
        · exact hf z hz
        · simp at hz; have := E1.out.2.1; omega
      · have e3 := HV.out
        unfold X at *
        rw [M.val_take_succ, ← HY.out, Nat.pow_succ, M.val_snoc, HLen.out]
        exact M.times32_over e3 E1.out.1
     first | exact R | ((repeat apply Exists.intro); exact ⟨R, rfl⟩) | ((repeat apply Exists.intro); exact ⟨R, by rw [hbo]⟩)
    case measure => simp [intOf]; omega
  · have e : k = n := by omega
    subst e
    have hv1 : X os + cc * 4294967296 ^ k = a * x := by
     have := HV.out
     rw [X_takeD a k (by omega), Nat.mul_comm x] at this
     exact this
    have hlt' : ¬ (k : Int) < (k : Int) := by omega
    clear HV
    have HV := hid hv1; clear hv1
    have HLen0 := HLen
    go_wp2_with fail
    go_loopw [5, 6] (fun v cy wq => ∃ (j : Nat) (os : List Nat) (cc : Nat), j ≤ k + 1 ∧ (j = k + 1 → cc = 0) ∧ cy = .int .u64 cc ∧ cc < 4294967296 ∧ wq.ownsRow w.heap.size 23 1 v j (U os) ∧ F32 os ∧ os.length = j ∧ X os + cc * 4294967296 ^ j = a * x ∧ Below w.heap.size w wq) (fun _ cy _ => (intOf cy).toNat)
    case atStart => exact ⟨k, os, cc, by omega, by omega, rfl, hcc, hown, hf, HLen.out, HV.out, hbl⟩
    case round =>
     clear HV HLen HLen0 hcc hown hf hbl
     rename World => wq
     obtain ⟨j, os2, c2, hj, hj2, rfl, hc2, hown, hf, hlen, hv, hbl⟩ := hrel
     have HV := hid hv; clear hv
     have HLen := hid hlen; clear hlen
     by_cases hc0 : 0 < c2
     · have hc0' : (0 : Int) < (c2 : Int) := by omega
       have hjk : j ≤ k := by omega
       have hlow := low_mask c2 (by omega)
       rw [Nat.mod_eq_of_lt hc2] at hlow
       have hhi : (c2 : Int) / 4294967296 = ((0 : Nat) : Int) := by omega
       go_wp2_with (at_builtin; refine wpList_append_own _ rfl _ _ 43 rfl w.heap.size 23 i0 (.int .u64 0) 1 8 Tryz.underlying43 hi hz0 hz1 hz2 rfl (by decide) _ _ _ rfl (hown.alloc _) ⟨wq.heap.size, 0, none⟩ 1 1 (U [c2]) rfl rfl ?c1 ?c2 ?c3 ?c4 ?c5 ?_)
       case c1 =>
        intro j u hj
        match j, hj with
        | 0, hj => simp [U] at hj; subst hj; simp [Addr.add]
       case c2 => exact U_one _
       case c3 => unfold maxLen; omega
       case c4 => omega
       case c5 => have := hbl.size; simp; omega
       intro v' w1 hown' hgrow hnn
       clear hnn
       have hb1 : Below w.heap.size w w1 := (hbl.alloc hbl.size _).grown hgrow (by have := hbl.size; simp; omega) (fun k' hk' => (hown.lt k' hk').1)
       clear hgrow
       clear hown
       go_wp2_with fail
       go_roundw
       case rel =>
        have R : ∃ (j1 : Nat) (os1 : List Nat) (cc1 : Nat), j1 ≤ k + 1 ∧ (j1 = k + 1 → cc1 = 0) ∧ Value.int .u64 ((0 : Nat) : Int) = .int .u64 cc1 ∧ cc1 < 4294967296 ∧ w1.ownsRow w.heap.size 23 1 v' j1 (U os1) ∧ F32 os1 ∧ os1.length = j1 ∧ X os1 + cc1 * 4294967296 ^ j1 = a * x ∧ Below w.heap.size w w1 := by
         refine ⟨j + 1, os2 ++ [c2], 0, by omega, fun _ => rfl, rfl, by omega, ?_, ?_, by simp [HLen.out], ?_, hb1⟩
         · rw [U_append]; exact hown'
         · intro z hz
           rcases List.mem_append.1 hz with hz | hz
           · exact hf z hz
           · simp at hz; omega
         · have e3 := HV.out
           unfold X at *
           rw [M.val_snoc, HLen.out, Nat.zero_mul, Nat.add_zero, Nat.mul_comm _ c2]
           exact e3
        first | exact R | ((repeat apply Exists.intro); exact ⟨R, rfl⟩)
       case measure => simp [intOf]; omega
     · have e0 : c2 = 0 := by omega
       subst e0
       have hfin : X os2 = a * x := by
        have := HV.out
        rwa [Nat.zero_mul, Nat.add_zero] at this
       have hv := own_shape hown
       obtain ⟨ao1, cap1, hv⟩ := hv
       rw [hv]
       rw [hv] at hown
       have hlt' : ¬ (0 : Int) < ((0 : Nat) : Int) := by omega
       clear hv
       have HF := hid hfin; clear hfin
       go_wp2_with fail
       have hrd := Rd.own hown
       refine (l1Trim_any 4294967296 (by omega) ao1 _ cap1 os2 _ HLen.out (own_cap hown) (by omega) hf hrd).mono ?_
       have hfin : M.val 4294967296 os2 = a * x := HF.out
       rw [hfin]
       rintro e w1 ⟨ao', cap', rfl, ho, hb⟩
       go_wp2_with fail
       go_ret
       exact ⟨ao', cap', rfl, own_base ho hbl.size, hbl.trans (hb.mono hbl.size)⟩

theorem ten_len (n P K : Nat) {k : Nat} (hK : 4 * n < 32 * K) (h : P * 10 ^ k = 10 ^ n) : (D P).length ≤ K := by
 have h1 : P ≤ 10 ^ n := by rw [← h]; exact Nat.le_mul_of_pos_right _ (Nat.pow_pos (by omega))
 have h2 := Nat.lt_of_le_of_lt (Nat.le_trans h1 (pow_le_two 10 n)) (Nat.pow_lt_pow_right (by omega) (show blen 10 * n < 32 * K by rw [blen10]; omega))
 refine M.len_of_lt (B := 4294967296) (by omega) _ _ ?_
 rw [show (4294967296 : Nat) = 2 ^ 32 by rfl, ← Nat.pow_mul]
 exact h2

theorem l1Ten_any (n : Nat) (w : World) (hn : n ≤ 19000) :
 Calls Tryz.prog 28 #[.int .i64 (n : Int)] w fun e w' => Ret w w' e (D (10 ^ n)) := by
 go_enter Tryz.func28, Tryz.ntmps28
 go_wp2_with fail
 refine (l1Of_any 1 _ (by omega)).mono ?_
 rintro r w3 ⟨p1, c1, rfl, ho1, hb3⟩
 have hD1 : (D 1).length ≤ 2401 := by have := M.len_of_lt (B := 4294967296) (by omega) 1 1 (by omega); have h2 : (D 1).length ≤ 1 := this; omega
 go_wp2_with fail
 go_loopw [0, 3] (fun i v wr => ∃ (k P : Nat) (pp : Option Addr) (pc : Nat), k ≤ n ∧ i = .int .i64 (k : Int) ∧ Hid (P * 10 ^ k = 10 ^ n) ∧ v = .slice pp (D P).length pc ∧ (D P).length ≤ 2401 ∧ wr.ownsRow w.heap.size 23 1 (.slice pp (D P).length pc) (D P).length (U (D P)) ∧ Below w.heap.size w wr) (fun i _ _ => (intOf i).toNat)
 case atStart => exact ⟨n, 1, p1, c1, by omega, rfl, hid (by simp), rfl, hD1, ho1, hb3⟩
 case round =>
  obtain ⟨k, P, pp, pc, hk, rfl, HP, rfl, hPl, hown, hbl⟩ := hrel
  clear ho1 hb3 hD1
  by_cases hke : 9 ≤ k
  · have hgt : (9 : Int) ≤ (k : Int) := by omega
    obtain ⟨k, rfl⟩ : ∃ k', k = k' + 9 := ⟨k - 9, by omega⟩
    have hHP : P * 1000000000 * 10 ^ k = 10 ^ n := by rw [← HP.out, Nat.pow_add, Nat.mul_assoc, Nat.mul_comm 1000000000]
    have hPl2 : (D (P * 1000000000)).length ≤ 2401 := ten_len n _ 2401 (by omega) hHP
    have HP2 := hid hHP; clear hHP
    go_wp2_with fail
    refine (l1Times_any pp _ pc 1000000000 P _ rfl (by omega) (by omega) (Rd.own hown)).mono ?_
    rintro r w4 ⟨p2, c2, rfl, ho4, hb4⟩
    have hbw4 := hbl.trans (hb4.mono hbl.size)
    have how4 := own_base ho4 hbl.size
    clear ho4 hb4 hown hbl
    go_wp2_with fail
    go_roundw
    case rel =>
     have R : ∃ (k1 P1 : Nat) (pp1 : Option Addr) (pc1 : Nat), k1 ≤ n ∧ Value.int .i64 ((k : Int) + 9 - 9) = .int .i64 (k1 : Int) ∧ Hid (P1 * 10 ^ k1 = 10 ^ n) ∧ Value.slice p2 (D (P * 1000000000)).length c2 = .slice pp1 (D P1).length pc1 ∧ (D P1).length ≤ 2401 ∧ w4.ownsRow w.heap.size 23 1 (.slice pp1 (D P1).length pc1) (D P1).length (U (D P1)) ∧ Below w.heap.size w w4 :=
      ⟨k, P * 1000000000, p2, c2, by omega, by go_num, HP2, rfl, hPl2, how4, hbw4⟩
     first | exact R | ((repeat apply Exists.intro); exact ⟨R, rfl⟩) | (simp only [Int.add_sub_cancel] at R ⊢; exact R)
    case measure => simp [intOf]; omega
  · have hgt : ¬ (9 : Int) ≤ (k : Int) := by omega
    have R0 : ∃ (k1 P1 : Nat) (pp1 : Option Addr) (pc1 : Nat), k1 ≤ n ∧ Value.int .i64 (k : Int) = .int .i64 (k1 : Int) ∧ Hid (P1 * 10 ^ k1 = 10 ^ n) ∧ Value.slice pp (D P).length pc = .slice pp1 (D P1).length pc1 ∧ (D P1).length ≤ 2401 ∧ wr.ownsRow w.heap.size 23 1 (.slice pp1 (D P1).length pc1) (D P1).length (U (D P1)) ∧ Below w.heap.size w wr := ⟨k, P, pp, pc, hk, rfl, HP, rfl, hPl, hown, hbl⟩
    have HR := hid R0
    clear R0 hPl hown hbl HP
    go_wp2_with fail
    go_loopw [0, 3] (fun i v wr => ∃ (k P : Nat) (pp : Option Addr) (pc : Nat), k ≤ n ∧ i = .int .i64 (k : Int) ∧ Hid (P * 10 ^ k = 10 ^ n) ∧ v = .slice pp (D P).length pc ∧ (D P).length ≤ 2401 ∧ wr.ownsRow w.heap.size 23 1 (.slice pp (D P).length pc) (D P).length (U (D P)) ∧ Below w.heap.size w wr) (fun i _ _ => (intOf i).toNat)
    case atStart => exact HR.out
    case round =>
     obtain ⟨k, P, pp, pc, hk, rfl, HP, rfl, hPl, hown, hbl⟩ := hrel
     by_cases hk0 : 1 ≤ k
     · have hgt : (1 : Int) ≤ (k : Int) := by omega
       obtain ⟨k, rfl⟩ : ∃ k', k = k' + 1 := ⟨k - 1, by omega⟩
       have hHP : P * 10 * 10 ^ k = 10 ^ n := by rw [← HP.out, Nat.pow_add, Nat.mul_assoc, Nat.mul_comm 10]
       have hPl2 : (D (P * 10)).length ≤ 2401 := ten_len n _ 2401 (by omega) hHP
       have HP2 := hid hHP; clear hHP
       go_wp2_with fail
       refine (l1Times_any pp _ pc 10 P _ rfl (by omega) (by omega) (Rd.own hown)).mono ?_
       rintro r w4 ⟨p2, c2, rfl, ho4, hb4⟩
       have hbw4 := hbl.trans (hb4.mono hbl.size)
       have how4 := own_base ho4 hbl.size
       clear ho4 hb4 hown hbl
       go_wp2_with fail
       go_roundw
       case rel =>
        have R : ∃ (k1 P1 : Nat) (pp1 : Option Addr) (pc1 : Nat), k1 ≤ n ∧ Value.int .i64 ((k : Int) + 1 - 1) = .int .i64 (k1 : Int) ∧ Hid (P1 * 10 ^ k1 = 10 ^ n) ∧ Value.slice p2 (D (P * 10)).length c2 = .slice pp1 (D P1).length pc1 ∧ (D P1).length ≤ 2401 ∧ w4.ownsRow w.heap.size 23 1 (.slice pp1 (D P1).length pc1) (D P1).length (U (D P1)) ∧ Below w.heap.size w w4 :=
         ⟨k, P * 10, p2, c2, by omega, by go_num, HP2, rfl, hPl2, how4, hbw4⟩
        first | exact R | ((repeat apply Exists.intro); exact ⟨R, rfl⟩) | (simp only [Int.add_sub_cancel] at R ⊢; exact R)
       case measure => simp [intOf]
     · have hgt0 : ¬ (0 : Int) < (k : Int) := by omega
       go_wp2_with fail
       go_ret
       have hk1 : k = 0 := by omega
       subst hk1
       have hE := HP.out
       rw [Nat.pow_zero, Nat.mul_one] at hE
       rw [← hE]
       exact ⟨pp, pc, rfl, hown, hbl⟩

theorem dec_len (bs : List Nat) (h : M.Dig bs) : (D (M.dec bs)).length ≤ bs.length :=
 M.len_of_lt (B := 4294967296) (by omega) _ _ (Nat.lt_of_lt_of_le (M.dec_lt bs h) (Nat.pow_le_pow_left (by omega) _))

theorem l1Digits_any (ao : Option Addr) (n c : Nat) (bs : List Nat) (w : World) (hl : bs.length = n) (hn : n ≤ 20000) (hd : M.Dig bs) (hr : RdB w ao bs) :
 Calls Tryz.prog 13 #[.slice ao n c] w fun e w' => Ret w w' e (D (M.dec bs)) := by
 go_enter Tryz.func13, Tryz.ntmps13
 go_wp2_with fail
 go_loopw [3, 4] (fun v i wr => ∃ (k : Nat) (oa : Option Addr) (oc : Nat), k ≤ n ∧ i = .int .i64 k ∧ v = .slice oa (D (M.dec (bs.take k))).length oc ∧ wr.ownsRow w.heap.size 23 1 (.slice oa (D (M.dec (bs.take k))).length oc) (D (M.dec (bs.take k))).length (U (D (M.dec (bs.take k)))) ∧ Below w.heap.size w wr) (fun _ i _ => n - (intOf i).toNat)
 case atStart => exact ⟨0, none, 0, by omega, rfl, rfl, World.ownsRow_nil _ _ _ _, Below.refl _ _⟩
 case round =>
  obtain ⟨k, oa, oc, hk, rfl, rfl, hown, hbl⟩ := hrel
  by_cases hlt : k < n
  · have hlt' : (k : Int) < (n : Int) := by omega
    obtain ⟨nd, end_⟩ : ∃ x, x = D (M.dec (bs.take k)) := ⟨_, rfl⟩
    rw [← end_] at hown ⊢
    have END := hid end_; clear end_
    have HOWN := hid hown; clear hown
    go_upto_block 2 with fail
    go_cut [4, 5, 6, 7] (fun i x p j wc => ∃ t : Nat, 1 ≤ t ∧ t ≤ 9 ∧ k + t ≤ n ∧ i = .int .i64 ((k + t : Nat) : Int) ∧ x = .int .u64 ((M.dec (M.seg bs k t) : Nat) : Int) ∧ p = .int .u64 ((10 ^ t : Nat) : Int) ∧ (∃ jj : Nat, j = .int .i64 (jj : Int)) ∧ wc = wr)
    case first =>
     go_wp2_with fail
     go_loopw [4, 5, 6, 7] (fun i x p j wv => ∃ t : Nat, t ≤ 9 ∧ k + t ≤ n ∧ i = .int .i64 ((k + t : Nat) : Int) ∧ x = .int .u64 ((M.dec (M.seg bs k t) : Nat) : Int) ∧ p = .int .u64 ((10 ^ t : Nat) : Int) ∧ j = .int .i64 (t : Int) ∧ wv = wr) (fun _ _ _ j _ => 9 - (intOf j).toNat)
     case atStart => exact ⟨0, by omega, by omega, rfl, by simp [M.seg, M.dec], rfl, rfl, rfl⟩
     case round =>
      rename World => wv
      obtain ⟨t, ht9, htn, rfl, rfl, rfl, rfl, hwv⟩ := hrel
      subst hwv
      have hxl := M.dec_lt (M.seg bs k t) (hd.seg k t)
      rw [M.seg_length _ _ _ (by omega)] at hxl
      have hp9 : 10 ^ t ≤ 10 ^ 9 := Nat.pow_le_pow_right (by omega) ht9
      obtain ⟨xv, exv⟩ : ∃ x, x = M.dec (M.seg bs k t) := ⟨_, rfl⟩
      obtain ⟨pv, epv⟩ : ∃ x, x = 10 ^ t := ⟨_, rfl⟩
      obtain ⟨q, eq⟩ : ∃ x, x = k + t := ⟨_, rfl⟩
      rw [← exv, ← epv] at hxl
      rw [← epv] at hp9
      rw [← exv, ← epv, ← eq]
      have EXV := hid exv; have EPV := hid epv; have EQ := hid eq
      clear exv epv eq
      by_cases hj : t < 9
      · have hj' : (t : Int) < 9 := by omega
        by_cases hi : q < n
        · have hi' : (q : Int) < (n : Int) := by omega
          obtain ⟨b2, o2, hbo, hc2⟩ := (hr.below hbl).2 (by omega)
          have hck := hc2 q (by omega)
          clear hc2
          have hcd := hd.get q (by omega)
          obtain ⟨cv, ecv⟩ : ∃ x, x = bs.getD q 0 := ⟨_, rfl⟩
          rw [← ecv] at hck hcd
          obtain ⟨dv, edv⟩ : ∃ x, x = cv - 48 := ⟨_, rfl⟩
          have hdI : (cv : Int) - 48 = (dv : Int) := by omega
          have hdb : dv ≤ 9 := by omega
          obtain ⟨x2, ex2⟩ : ∃ x, x = xv * 10 := ⟨_, rfl⟩
          have wx2 : (xv : Int) * 10 = (x2 : Int) := by omega
          obtain ⟨x3, ex3⟩ : ∃ x, x = x2 + dv := ⟨_, rfl⟩
          have wx3 : (x2 : Int) + (dv : Int) = (x3 : Int) := by omega
          obtain ⟨p2, ep2⟩ : ∃ x, x = pv * 10 := ⟨_, rfl⟩
          have wp2 : (pv : Int) * 10 = (p2 : Int) := by omega
          have hb2 : x2 ≤ 10000000000 := by omega
          have hb3 : x3 ≤ 20000000000 := by omega
          have hb4 : p2 ≤ 10000000000 := by omega
          have ECV := hid ecv; have EDV := hid edv; have EX2 := hid ex2; have EX3 := hid ex3; have EP2 := hid ep2
          clear ecv edv ex2 ex3 ep2
          go_wp2_with fail
          go_roundw
          case rel =>
           refine ⟨t + 1, by omega, by have := EQ.out; omega, ?_, ?_, ?_, by go_num, by first | rfl | trivial⟩
           · have := EQ.out
             rw [show ((k + (t + 1) : Nat) : Int) = (q : Int) + 1 by omega]
           · have h1 := M.dec_seg_succ bs k t (by have := EQ.out; omega)
             rw [← EXV.out, ← EQ.out, ← ECV.out, ← EDV.out, ← EX2.out, ← EX3.out] at h1
             rw [h1]
           · rw [Nat.pow_succ, ← EPV.out, ← EP2.out]
          case measure => simp [intOf]; omega
        · have hi' : ¬ (q : Int) < (n : Int) := by omega
          go_wp2_with fail
          go_meet
          case rel => exact ⟨t, by have := EQ.out; omega, ht9, htn, by rw [← EQ.out], by rw [← EXV.out], by rw [← EPV.out], ⟨t, rfl⟩, by first | rfl | trivial⟩
      · have hj' : ¬ (t : Int) < 9 := by omega
        go_wp2_with fail
        go_meet
        case rel => exact ⟨t, by omega, ht9, htn, by rw [← EQ.out], by rw [← EXV.out], by rw [← EPV.out], ⟨t, rfl⟩, by first | rfl | trivial⟩
    case rest =>
     obtain ⟨t, ht1, ht9, htn, rfl, rfl, rfl, ⟨jj, rfl⟩, hwc⟩ := hcut
     subst hwc
     have hxl := M.dec_lt (M.seg bs k t) (hd.seg k t)
     rw [M.seg_length _ _ _ (by omega)] at hxl
     have hp9 : 10 ^ t ≤ 10 ^ 9 := Nat.pow_le_pow_right (by omega) ht9
     have hnum := M.dec_take_add bs k t (by omega)
     have hs := dec_len (bs.take k) (fun c hc => hd c (List.mem_of_mem_take hc))
     have hs2 : (D (M.dec (bs.take k) * 10 ^ t)).length ≤ 20100 := by
      obtain ⟨KK, eKK⟩ : ∃ x, x = 20100 := ⟨_, rfl⟩
      rw [← eKK]
      refine M.len_of_lt (B := 4294967296) (by omega) _ _ ?_
      have h1 := M.dec_lt (bs.take k) (fun c hc => hd c (List.mem_of_mem_take hc))
      rw [show (bs.take k).length = k by simp; omega] at h1
      have h2 : M.dec (bs.take k) * 10 ^ t < 10 ^ k * 10 ^ t := Nat.mul_lt_mul_of_pos_right h1 (Nat.pow_pos (by omega))
      rw [← Nat.pow_add] at h2
      have h3 : 10 ^ (k + t) ≤ 4294967296 ^ (k + t) := Nat.pow_le_pow_left (by omega) _
      have h4 : 4294967296 ^ (k + t) ≤ 4294967296 ^ KK := Nat.pow_le_pow_right (by omega) (by omega)
      exact Nat.lt_of_lt_of_le h2 (Nat.le_trans h3 h4)
     rw [show (bs.take k).length = k by simp; omega] at hs
     obtain ⟨xv, exv⟩ : ∃ x, x = M.dec (M.seg bs k t) := ⟨_, rfl⟩
     obtain ⟨pv, epv⟩ : ∃ x, x = 10 ^ t := ⟨_, rfl⟩
     obtain ⟨q, eq⟩ : ∃ x, x = k + t := ⟨_, rfl⟩
     obtain ⟨nv, env⟩ : ∃ x, x = M.dec (bs.take k) := ⟨_, rfl⟩
     rw [← exv, ← epv] at hxl
     rw [← epv] at hp9
     rw [← env, ← epv] at hs2
     rw [← env] at hs
     rw [← exv, ← epv, ← eq, ← env] at hnum
     rw [← exv, ← epv, ← eq]
     have hnd : nd = D nv := by rw [END.out, env]
     subst hnd
     have hsx : (D xv).length ≤ 20000 := Nat.le_trans (M.len_of_lt (B := 4294967296) (by omega) xv 1 (by omega)) (by omega)
     have EXV := hid exv; have EPV := hid epv; have EQ := hid eq; have ENV := hid env; have HN := hid hnum
     clear exv epv eq env hnum
     go_wp2_with fail
     refine (l1Times_any oa _ oc pv nv _ rfl (by omega) (by omega) (Rd.own HOWN.out)).mono ?_
     rintro e v1 ⟨a1, c1, rfl, o1, b1'⟩
     have b1 := hbl.trans (b1'.mono hbl.size)
     go_wp2_with fail
     refine (l1Of_any xv _ (by omega)).mono ?_
     rintro e v2 ⟨a2, c2, rfl, o2, b2'⟩
     have b2 := b1.trans (b2'.mono b1.size)
     go_wp2_with fail
     refine (l1Add_any a1 a2 _ _ c1 c2 (nv * pv) xv _ rfl rfl (by omega) (by omega) ((Rd.own o1).below b2') (Rd.own o2)).mono ?_
     rw [← HN.out]
     rintro e v3 ⟨a3, c3, rfl, o3, b3'⟩
     have b3 := b2.trans (b3'.mono b2.size)
     have o3' := own_base o3 b2.size
     have O3 := hid o3'; have B3 := hid b3
     clear o1 o2 o3 o3' b1 b2 b3 b1' b2' b3' HOWN
     go_wp2_with fail
     go_roundw
     case rel =>
      have R : ∃ (k1 : Nat) (oa1 : Option Addr) (oc1 : Nat), k1 ≤ n ∧ Value.int .i64 (q : Int) = .int .i64 k1 ∧ Value.slice a3 (D (M.dec (bs.take q))).length c3 = .slice oa1 (D (M.dec (bs.take k1))).length oc1 ∧ v3.ownsRow w.heap.size 23 1 (.slice oa1 (D (M.dec (bs.take k1))).length oc1) (D (M.dec (bs.take k1))).length (U (D (M.dec (bs.take k1)))) ∧ Below w.heap.size w v3 :=
       ⟨q, a3, c3, by have := EQ.out; omega, rfl, rfl, O3.out, B3.out⟩
      first | exact R | ((repeat apply Exists.intro); exact ⟨R, rfl⟩)
     case measure => simp [intOf]; have := EQ.out; omega
  · have e : k = n := by omega
    subst e
    have hlt' : ¬ (k : Int) < (k : Int) := by omega
    rw [List.take_of_length_le (by omega)] at hown ⊢
    go_wp2_with fail
    go_ret
    exact ⟨oa, oc, rfl, hown, hbl⟩

end Go.Proofs.YtjffpclidcloeaaGreatDoor
