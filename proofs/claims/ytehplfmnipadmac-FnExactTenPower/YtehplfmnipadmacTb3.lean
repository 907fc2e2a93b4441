import Derived.Test.YtehplfmnipadmacTb2
import Derived.Test.YtehplfmnipadmacTxt2
namespace Go.Proofs.Ytehplfmnipadmac
open Go.RowKit
set_option linter.unusedVariables false
set_option maxRecDepth 100000

/-- The program's condition: two to the x is at most N over De. -/
def fits (N De : Nat) (x : Int) : Bool := decide (De * 2 ^ x.toNat ≤ N * 2 ^ (-x).toNat)

theorem fits_pos (N De s : Nat) : fits N De (s : Int) = decide (De * 2 ^ s ≤ N * 2 ^ 0) := by
  unfold fits
  rw [show (-(s : Int)).toNat = 0 by omega, Int.toNat_natCast]
theorem fits_neg (N De s : Nat) : fits N De (-(s : Int)) = decide (De * 2 ^ 0 ≤ N * 2 ^ s) := by
  unfold fits
  rw [show (-(s : Int)).toNat = 0 by omega, show (- -(s : Int)).toNat = s by omega]

theorem pow8 (m : Nat) : 2 ^ (3 * m) ≤ 10 ^ m := by
  rw [Nat.pow_mul]; exact Nat.pow_le_pow_left (by omega) m
theorem pow16 (m : Nat) : 10 ^ m ≤ 2 ^ (4 * m) := by
  rw [Nat.pow_mul]; exact Nat.pow_le_pow_left (by omega) m
theorem pow16' (m : Nat) (h : 0 < m) : 10 ^ m < 2 ^ (4 * m) := by
  rw [Nat.pow_mul]; exact Nat.pow_lt_pow_left (by omega) (by omega)
theorem pow8' (m : Nat) (h : 0 < m) : 2 ^ (3 * m) < 10 ^ m := by
  rw [Nat.pow_mul]; exact Nat.pow_lt_pow_left (by omega) (by omega)

theorem two_ne_ten (s m : Nat) (h : 0 < m) : 10 ^ m ≠ 2 ^ s := by
  intro e
  have h5 : 5 ∣ 10 ^ m := Nat.dvd_trans (by decide) (Nat.pow_dvd_pow 10 h)
  rw [e] at h5
  have : ∀ s, ¬ 5 ∣ 2 ^ s := by
    intro s
    induction s with
    | zero => decide
    | succ s ih =>
      intro hh
      rw [Nat.pow_succ] at hh
      exact ih (by omega)
  exact this s h5

/-- For a power that is not below one. -/
theorem bits_pos (m : Nat) (r : Int) (h1 : 3 * (m : Int) ≤ r) (h2 : r ≤ 4 * (m : Int)) (h3 : 3 * (m : Int) < r → fits (10 ^ m) 1 r = true) (h4 : r < 4 * (m : Int) → fits (10 ^ m) 1 (r + 1) = false) : r = (blen (10 ^ m) : Int) - 1 := by
  obtain ⟨s, rfl⟩ : ∃ s : Nat, r = s := ⟨r.toNat, by omega⟩
  rw [fits_pos] at h3
  rw [show (s : Int) + 1 = ((s + 1 : Nat) : Int) by omega, fits_pos] at h4
  have a1 : 2 ^ s ≤ 10 ^ m := by
    rcases Nat.lt_or_ge (3 * m) s with h | h
    · have := of_decide_eq_true (h3 (by omega)); omega
    · have e : s = 3 * m := by omega
      rw [e]; exact pow8 m
  have a2 : 10 ^ m < 2 ^ (s + 1) := by
    rcases Nat.lt_or_ge s (4 * m) with h | h
    · have := of_decide_eq_false (h4 (by omega)); omega
    · have e : s = 4 * m := by omega
      rw [e, Nat.pow_succ]
      have := pow16 m
      have := Nat.pow_pos (n := 4 * m) (show 0 < 2 by omega)
      omega
  have := blen_unique (10 ^ m) (s + 1) (by simpa using a1) a2 (by omega)
  omega

/-- For a power below one. -/
theorem bits_neg (m : Nat) (hm : 0 < m) (r : Int) (h1 : -(4 * (m : Int)) ≤ r) (h2 : r ≤ -(3 * (m : Int))) (h3 : -(4 * (m : Int)) < r → fits 1 (10 ^ m) r = true) (h4 : r < -(3 * (m : Int)) → fits 1 (10 ^ m) (r + 1) = false) : r = -(blen (10 ^ m) : Int) := by
  obtain ⟨s, rfl⟩ : ∃ s : Nat, r = -(s : Int) := ⟨(-r).toNat, by omega⟩
  rw [fits_neg] at h3
  have a1 : 10 ^ m ≤ 2 ^ s := by
    rcases Nat.lt_or_ge s (4 * m) with h | h
    · have := of_decide_eq_true (h3 (by omega)); omega
    · have e : s = 4 * m := by omega
      rw [e]; exact pow16 m
  have hs : 3 * m < s := by
    rcases Nat.lt_or_ge (3 * m) s with h | h
    · exact h
    · have e : s = 3 * m := by omega
      have := pow8' m hm
      rw [e] at a1
      omega
  have a2 : 2 ^ (s - 1) < 10 ^ m := by
    rw [show -(s : Int) + 1 = -((s - 1 : Nat) : Int) by omega, fits_neg] at h4
    have := of_decide_eq_false (h4 (by omega)); omega
  have a3 := two_ne_ten s m hm
  have := blen_unique (10 ^ m) s (by omega) (by omega) (by omega)
  omega

theorem len_ten (m : Nat) (h : m ≤ 5200) : (L (10 ^ m)).length ≤ 1201 := L_pow_len 10 m (ten_ok m h)
theorem len_one : (L 1).length ≤ 1201 := by rw [L_unit]; simp

set_option maxRecDepth 10000 in
set_option maxHeartbeats 2000000 in
theorem highest_pos (a b : Option Addr) (c d n m2 m : Nat) (w : World) (hm : m ≤ 5200) (hl : (L (10 ^ m)).length = n) (hm2 : (L (1)).length = m2) (ra : Rd w a (L (10 ^ m))) (rb : Rd w b (L (1))) :
    Calls Try.prog 116 #[.int .i64 (m : Int), .agg #[.slice a n c, .slice b m2 d]] w fun e w' => e = .returned (.int .i64 ((blen (10 ^ m) : Int) - 1)) ∧ Below w.heap.size w w' := by
  have hn : n ≤ 1201 := by rw [← hl]; first | exact len_ten m hm | exact len_one
  have hn2 : m2 ≤ 1201 := by rw [← hm2]; first | exact len_ten m hm | exact len_one
  have bn : Below w.heap.size w (w.alloc (.cells #[.slice a n c, .slice b m2 d] 182)) := (Below.refl _ _).alloc (Nat.le_refl _) _
  obtain ⟨t0, t1, y0, y1⟩ := two_new w 182 (.slice a n c) (.slice b m2 d)
  have lw : w.heap.size < (w.alloc (.cells #[.slice a n c, .slice b m2 d] 182)).heap.size := by simp
  have KG := greatest_any (3 * (m : Int)) (4 * (m : Int)) (fits (10 ^ m) (1)) (.pointer (some ⟨w.heap.size, 0, none⟩)) (w.alloc (.cells #[.slice a n c, .slice b m2 d] 182)) (by omega) (by omega) (by omega) (fun x v hx1 hx2 hv => by
    rcases Int.lt_or_le x 0 with h0 | h0
    · obtain ⟨s, rfl⟩ : ∃ s : Nat, x = -(s : Int) := ⟨(-x).toNat, by omega⟩
      rw [fits_neg]
      exact clo_neg w.heap.size a b c d n m2 _ _ s v hl hm2 (by omega) (by omega) (by omega) ((ra.below bn).below hv) ((rb.below bn).below hv) ((hv.cell lw).trans t0) ((hv.cell lw).trans t1)
    · obtain ⟨s, rfl⟩ : ∃ s : Nat, x = (s : Int) := ⟨x.toNat, by omega⟩
      rw [fits_pos]
      exact clo_pos w.heap.size a b c d n m2 _ _ s v hl hm2 (by omega) (by omega) (by omega) ((ra.below bn).below hv) ((rb.below bn).below hv) ((hv.cell lw).trans t0) ((hv.cell lw).trans t1))
  have w3 : IntKind.i64.wrap (3 * (m : Int)) = 3 * (m : Int) := by rw [IntKind.wrap_i64]; omega
  have w4 : IntKind.i64.wrap (4 * (m : Int)) = 4 * (m : Int) := by rw [IntKind.wrap_i64]; omega
  have q1 : min (3 * (m : Int)) (4 * (m : Int)) = 3 * (m : Int) := by omega
  have q2 : max (3 * (m : Int)) (4 * (m : Int)) = 4 * (m : Int) := by omega
  clear hl hm2 ra rb t0 t1 y0 y1
  go_enter Try.func116, Try.ntmps116
  go_wp2_with fail
  try rw [q1]
  try rw [q2]
  refine KG.mono ?_
  rintro e v1 ⟨r, rfl, i1, i2, i3, i4, hb1⟩
  have E := hid (bits_pos m r i1 i2 i3 i4)
  clear i3 i4
  go_wp2_with fail
  go_ret
  exact ⟨by rw [E.out]; rfl, bn.trans (hb1.mono bn.size)⟩

set_option maxRecDepth 10000 in
set_option maxHeartbeats 2000000 in
theorem highest_neg (a b : Option Addr) (c d n m2 m : Nat) (w : World) (h0 : 0 < m) (hm : m ≤ 5200) (hl : (L (1)).length = n) (hm2 : (L (10 ^ m)).length = m2) (ra : Rd w a (L (1))) (rb : Rd w b (L (10 ^ m))) :
    Calls Try.prog 116 #[.int .i64 (-(m : Int)), .agg #[.slice a n c, .slice b m2 d]] w fun e w' => e = .returned (.int .i64 (-(blen (10 ^ m) : Int))) ∧ Below w.heap.size w w' := by
  have hn : n ≤ 1201 := by rw [← hl]; first | exact len_ten m hm | exact len_one
  have hn2 : m2 ≤ 1201 := by rw [← hm2]; first | exact len_ten m hm | exact len_one
  have bn : Below w.heap.size w (w.alloc (.cells #[.slice a n c, .slice b m2 d] 182)) := (Below.refl _ _).alloc (Nat.le_refl _) _
  obtain ⟨t0, t1, y0, y1⟩ := two_new w 182 (.slice a n c) (.slice b m2 d)
  have lw : w.heap.size < (w.alloc (.cells #[.slice a n c, .slice b m2 d] 182)).heap.size := by simp
  have KG := greatest_any (-(4 * (m : Int))) (-(3 * (m : Int))) (fits (1) (10 ^ m)) (.pointer (some ⟨w.heap.size, 0, none⟩)) (w.alloc (.cells #[.slice a n c, .slice b m2 d] 182)) (by omega) (by omega) (by omega) (fun x v hx1 hx2 hv => by
    rcases Int.lt_or_le x 0 with h0 | h0
    · obtain ⟨s, rfl⟩ : ∃ s : Nat, x = -(s : Int) := ⟨(-x).toNat, by omega⟩
      rw [fits_neg]
      exact clo_neg w.heap.size a b c d n m2 _ _ s v hl hm2 (by omega) (by omega) (by omega) ((ra.below bn).below hv) ((rb.below bn).below hv) ((hv.cell lw).trans t0) ((hv.cell lw).trans t1)
    · obtain ⟨s, rfl⟩ : ∃ s : Nat, x = (s : Int) := ⟨x.toNat, by omega⟩
      rw [fits_pos]
      exact clo_pos w.heap.size a b c d n m2 _ _ s v hl hm2 (by omega) (by omega) (by omega) ((ra.below bn).below hv) ((rb.below bn).below hv) ((hv.cell lw).trans t0) ((hv.cell lw).trans t1))
  have w3 : IntKind.i64.wrap (3 * (-(m : Int))) = 3 * (-(m : Int)) := by rw [IntKind.wrap_i64]; omega
  have w4 : IntKind.i64.wrap (4 * (-(m : Int))) = 4 * (-(m : Int)) := by rw [IntKind.wrap_i64]; omega
  have q1 : min (3 * (-(m : Int))) (4 * (-(m : Int))) = -(4 * (m : Int)) := by omega
  have q2 : max (3 * (-(m : Int))) (4 * (-(m : Int))) = -(3 * (m : Int)) := by omega
  clear hl hm2 ra rb t0 t1 y0 y1
  go_enter Try.func116, Try.ntmps116
  go_wp2_with fail
  try rw [q1]
  try rw [q2]
  refine KG.mono ?_
  rintro e v1 ⟨r, rfl, i1, i2, i3, i4, hb1⟩
  have E := hid (bits_neg m h0 r i1 i2 i3 i4)
  clear i3 i4
  go_wp2_with fail
  go_ret
  exact ⟨by rw [E.out]; rfl, bn.trans (hb1.mono bn.size)⟩

theorem ten_len (n P K : Nat) {k : Nat} (hK : 4 * n < 32 * K) (h : P * 10 ^ k = 10 ^ n) : (D P).length ≤ K := by
  have h1 : P ≤ 10 ^ n := by rw [← h]; exact Nat.le_mul_of_pos_right _ (Nat.pow_pos (by omega))
  have h2 := Nat.lt_of_le_of_lt (Nat.le_trans h1 (pow_le_two 10 n)) (Nat.pow_lt_pow_right (by omega) (show blen 10 * n < 32 * K by rw [blen10]; omega))
  refine M.len_of_lt (B := 4294967296) (by omega) _ _ ?_
  rw [show (4294967296 : Nat) = 2 ^ 32 by rfl, ← Nat.pow_mul]
  exact h2

set_option maxHeartbeats 2000000 in
theorem l1Ten_any (n : Nat) (w : World) (hn : n ≤ 5200) :
    Calls Try.prog 68 #[.int .i64 (n : Int)] w fun e w' => Ret w w' e (D (10 ^ n)) := by
  go_enter Try.func68, Try.ntmps68
  go_wp2_with fail
  refine (l1Of_any 1 _ (by omega)).mono ?_
  rintro r w3 ⟨p1, c1, rfl, ho1, hb3⟩
  have hD1 : (D 1).length ≤ 2401 := by have := M.len_of_lt (B := 4294967296) (by omega) 1 1 (by omega); have h2 : (D 1).length ≤ 1 := this; omega
  go_wp2_with fail
  go_loopw [0, 3] (fun i v wr => ∃ (k P : Nat) (pp : Option Addr) (pc : Nat), k ≤ n ∧ i = .int .i64 (k : Int) ∧ Hid (P * 10 ^ k = 10 ^ n) ∧ v = .slice pp (D P).length pc ∧ (D P).length ≤ 2401 ∧ wr.ownsRow w.heap.size 50 1 (.slice pp (D P).length pc) (D P).length (U (D P)) ∧ Below w.heap.size w wr) (fun i _ _ => (intOf i).toNat)
  case atStart => exact ⟨n, 1, p1, c1, by omega, rfl, hid (by simp), rfl, hD1, ho1, hb3⟩
  case round =>
    obtain ⟨k, P, pp, pc, hk, rfl, HP, rfl, hPl, hown, hbl⟩ := hrel
    clear ho1 hb3 hD1
    by_cases hke : 9 ≤ k
    · have hgt : (9 : Int) ≤ (k : Int) := by omega
      obtain ⟨k, rfl⟩ : ∃ k', k = k' + 9 := ⟨k - 9, by omega⟩
      have hHP : P * 1000000000 * 10 ^ k = 10 ^ n := by rw [← HP.out, Nat.pow_add, Nat.mul_assoc, Nat.mul_comm 1000000000]
      have hPl2 : (D (P * 1000000000)).length ≤ 2401 := ten_len n _ 2401 (by omega) hHP
      have HP2 := hid hHP; clear hHP
      go_wp2_with fail
      refine (l1Times_any pp _ pc 1000000000 P _ rfl (by omega) (by omega) (Rd.own hown)).mono ?_
      rintro r w4 ⟨p2, c2, rfl, ho4, hb4⟩
      have hbw4 := hbl.trans (hb4.mono hbl.size)
      have how4 := own_base ho4 hbl.size
      clear ho4 hb4 hown hbl
      go_wp2_with fail
      go_roundw
      case rel =>
        have R : ∃ (k1 P1 : Nat) (pp1 : Option Addr) (pc1 : Nat), k1 ≤ n ∧ Value.int .i64 ((k : Int) + 9 - 9) = .int .i64 (k1 : Int) ∧ Hid (P1 * 10 ^ k1 = 10 ^ n) ∧ Value.slice p2 (D (P * 1000000000)).length c2 = .slice pp1 (D P1).length pc1 ∧ (D P1).length ≤ 2401 ∧ w4.ownsRow w.heap.size 50 1 (.slice pp1 (D P1).length pc1) (D P1).length (U (D P1)) ∧ Below w.heap.size w w4 :=
          ⟨k, P * 1000000000, p2, c2, by omega, by go_num, HP2, rfl, hPl2, how4, hbw4⟩
        first | exact R | ((repeat apply Exists.intro); exact ⟨R, rfl⟩) | (simp only [Int.add_sub_cancel] at R ⊢; exact R)
      case measure => simp [intOf]; omega
    · have hgt : ¬ (9 : Int) ≤ (k : Int) := by omega
      have R0 : ∃ (k1 P1 : Nat) (pp1 : Option Addr) (pc1 : Nat), k1 ≤ n ∧ Value.int .i64 (k : Int) = .int .i64 (k1 : Int) ∧ Hid (P1 * 10 ^ k1 = 10 ^ n) ∧ Value.slice pp (D P).length pc = .slice pp1 (D P1).length pc1 ∧ (D P1).length ≤ 2401 ∧ wr.ownsRow w.heap.size 50 1 (.slice pp1 (D P1).length pc1) (D P1).length (U (D P1)) ∧ Below w.heap.size w wr := ⟨k, P, pp, pc, hk, rfl, HP, rfl, hPl, hown, hbl⟩
      have HR := hid R0
      clear R0 hPl hown hbl HP
      go_wp2_with fail
      go_loopw [0, 3] (fun i v wr => ∃ (k P : Nat) (pp : Option Addr) (pc : Nat), k ≤ n ∧ i = .int .i64 (k : Int) ∧ Hid (P * 10 ^ k = 10 ^ n) ∧ v = .slice pp (D P).length pc ∧ (D P).length ≤ 2401 ∧ wr.ownsRow w.heap.size 50 1 (.slice pp (D P).length pc) (D P).length (U (D P)) ∧ Below w.heap.size w wr) (fun i _ _ => (intOf i).toNat)
      case atStart => exact HR.out
      case round =>
        obtain ⟨k, P, pp, pc, hk, rfl, HP, rfl, hPl, hown, hbl⟩ := hrel
        by_cases hk0 : 1 ≤ k
        · have hgt : (1 : Int) ≤ (k : Int) := by omega
          obtain ⟨k, rfl⟩ : ∃ k', k = k' + 1 := ⟨k - 1, by omega⟩
          have hHP : P * 10 * 10 ^ k = 10 ^ n := by rw [← HP.out, Nat.pow_add, Nat.mul_assoc, Nat.mul_comm 10]
          have hPl2 : (D (P * 10)).length ≤ 2401 := ten_len n _ 2401 (by omega) hHP
          have HP2 := hid hHP; clear hHP
          go_wp2_with fail
          refine (l1Times_any pp _ pc 10 P _ rfl (by omega) (by omega) (Rd.own hown)).mono ?_
          rintro r w4 ⟨p2, c2, rfl, ho4, hb4⟩
          have hbw4 := hbl.trans (hb4.mono hbl.size)
          have how4 := own_base ho4 hbl.size
          clear ho4 hb4 hown hbl
          go_wp2_with fail
          go_roundw
          case rel =>
            have R : ∃ (k1 P1 : Nat) (pp1 : Option Addr) (pc1 : Nat), k1 ≤ n ∧ Value.int .i64 ((k : Int) + 1 - 1) = .int .i64 (k1 : Int) ∧ Hid (P1 * 10 ^ k1 = 10 ^ n) ∧ Value.slice p2 (D (P * 10)).length c2 = .slice pp1 (D P1).length pc1 ∧ (D P1).length ≤ 2401 ∧ w4.ownsRow w.heap.size 50 1 (.slice pp1 (D P1).length pc1) (D P1).length (U (D P1)) ∧ Below w.heap.size w w4 :=
              ⟨k, P * 10, p2, c2, by omega, by go_num, HP2, rfl, hPl2, how4, hbw4⟩
            first | exact R | ((repeat apply Exists.intro); exact ⟨R, rfl⟩) | (simp only [Int.add_sub_cancel] at R ⊢; exact R)
          case measure => simp [intOf]
        · have hgt0 : ¬ (0 : Int) < (k : Int) := by omega
          go_wp2_with fail
          go_ret
          have hk1 : k = 0 := by omega
          subst hk1
          have hE := HP.out
          rw [Nat.pow_zero, Nat.mul_one] at hE
          rw [← hE]
          exact ⟨pp, pc, rfl, hown, hbl⟩

end Go.Proofs.Ytehplfmnipadmac
