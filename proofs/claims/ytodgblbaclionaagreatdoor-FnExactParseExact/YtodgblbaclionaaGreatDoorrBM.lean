import Derived.Test.YtodgblbaclionaaGreatDoorrLen
namespace Go.Proofs.YtodgblbaclionaaGreatDoor.M

set_option linter.unusedVariables false
set_option maxRecDepth 100000

/-- Is N / De below 2^e? -/
def lt2 (N De : Nat) (e : Int) : Prop := N * 2 ^ (-e).toNat < De * 2 ^ e.toNat

instance (N De : Nat) (e : Int) : Decidable (lt2 N De e) := by unfold lt2; infer_instance

theorem lt2_iff (N De : Nat) (e : Int) (K : Nat) (h : 0 ≤ (K : Int) + e) : lt2 N De e ↔ N * 2 ^ K < De * 2 ^ ((K : Int) + e).toNat := by
  unfold lt2
  rcases Int.le_total 0 e with he | he
  · rw [show (-e).toNat = 0 by omega, show ((K : Int) + e).toNat = e.toNat + K by omega, Nat.pow_add, ← Nat.mul_assoc, Nat.pow_zero, Nat.mul_one]
    exact (Nat.mul_lt_mul_right (Nat.pow_pos (by omega))).symm
  · rw [show e.toNat = 0 by omega]
    have e1 : K = (-e).toNat + ((K : Int) + e).toNat := by omega
    generalize ((K : Int) + e).toNat = J at *
    rw [e1, Nat.pow_add, ← Nat.mul_assoc, Nat.pow_zero, Nat.mul_one]
    exact (Nat.mul_lt_mul_right (Nat.pow_pos (by omega))).symm

theorem lt2_mono {N De : Nat} {e e' : Int} (hd : 0 < De) (h : lt2 N De e) (he : e ≤ e') : lt2 N De e' := by
  rw [lt2_iff N De e (e.natAbs + e'.natAbs) (by omega)] at h
  rw [lt2_iff N De e' (e.natAbs + e'.natAbs) (by omega)]
  refine Nat.lt_of_lt_of_le h (Nat.mul_le_mul_left _ (Nat.pow_le_pow_right (by omega) ?_))
  omega

/-- The exponent that the lengths say, put right. -/
def rE (N De : Nat) : Int := if lt2 N De ((blen N : Int) - blen De) then (blen N : Int) - blen De - 1 else (blen N : Int) - blen De

theorem rE_ok (N De : Nat) (hN : 0 < N) (hd : 0 < De) : ¬ lt2 N De (rE N De) ∧ lt2 N De (rE N De + 1) := by
  have a1 := lt_blen N
  have a2 := blen_le N hN
  have a3 := blen_pos N hN
  have b1 := lt_blen De
  have b2 := blen_le De hd
  have b3 := blen_pos De hd
  have hi : lt2 N De ((blen N : Int) - blen De + 1) := by
    rw [lt2_iff N De _ (blen De - 1) (by omega), show (((blen De - 1 : Nat) : Int) + ((blen N : Int) - blen De + 1)).toNat = blen N by omega]
    have h1 : N * 2 ^ (blen De - 1) < 2 ^ blen N * 2 ^ (blen De - 1) := (Nat.mul_lt_mul_right (Nat.pow_pos (by omega))).2 a1
    have h2 : 2 ^ (blen De - 1) * 2 ^ blen N ≤ De * 2 ^ blen N := Nat.mul_le_mul_right _ b2
    rw [Nat.mul_comm] at h2
    omega
  have lo : ¬ lt2 N De ((blen N : Int) - blen De - 1) := by
    rw [lt2_iff N De _ (blen De) (by omega), show ((blen De : Int) + ((blen N : Int) - blen De - 1)).toNat = blen N - 1 by omega]
    have h1 : De * 2 ^ (blen N - 1) ≤ 2 ^ blen De * 2 ^ (blen N - 1) := Nat.mul_le_mul_right _ (by omega)
    have h2 : 2 ^ blen De * 2 ^ (blen N - 1) ≤ 2 ^ blen De * N := Nat.mul_le_mul_left _ a2
    rw [Nat.mul_comm _ N] at h2
    omega
  unfold rE
  by_cases h : lt2 N De ((blen N : Int) - blen De)
  · rw [if_pos h]
    exact ⟨lo, by rw [show (blen N : Int) - blen De - 1 + 1 = (blen N : Int) - blen De by omega]; exact h⟩
  · rw [if_neg h]
    exact ⟨h, hi⟩

/-- The unit's exponent, the ratio in units, the quotient rounded. -/
def Fm.rQ (F : Fm) (N De : Nat) : Int := max (rE N De - F.p + 1) F.qmin

def Fm.rN (F : Fm) (N De : Nat) : Nat := N * 2 ^ (-(F.rQ N De)).toNat

def Fm.rM (F : Fm) (N De : Nat) : Nat := De * 2 ^ (F.rQ N De).toNat

def rUp (n m : Nat) : Nat := if m < 2 * (n % m) ∨ (2 * (n % m) = m ∧ n / m % 2 = 1) then 1 else 0

def Fm.rS (F : Fm) (N De : Nat) : Nat := F.rN N De / F.rM N De + rUp (F.rN N De) (F.rM N De)

/-- The Sig and the exponent behind the carry. -/
def Fm.rSig (F : Fm) (N De : Nat) : Nat := if F.rS N De = 2 ^ F.p then F.lead else F.rS N De

def Fm.rExp (F : Fm) (N De : Nat) : Int := if F.rS N De = 2 ^ F.p then F.rQ N De + 1 else F.rQ N De

/-- The parts and the flags of a rounding; N above zero. -/
def Fm.rPt (F : Fm) (n : Bool) (N De : Nat) : Pt :=
  if F.rSig N De = 0 then ⟨1, n, 0, 0⟩ else if F.rSig N De < F.lead then ⟨2, n, F.rSig N De, F.rExp N De⟩
  else if (F.emax : Int) < F.rExp N De + F.p - 1 then ⟨4, n, 0, 0⟩ else ⟨3, n, F.rSig N De, F.rExp N De⟩

def Fm.rFl (F : Fm) (N De : Nat) (tiny range : Int) : Int :=
  if F.rSig N De = 0 then tiny else if F.rSig N De < F.lead then tiny
  else if (F.emax : Int) < F.rExp N De + F.p - 1 then range else 0

theorem Fm.Ok.rS_ok {F : Fm} (h : F.Ok) (N De : Nat) (hN : 0 < N) (hd : 0 < De) :
    0 < F.rM N De ∧ F.rN N De / F.rM N De < 2 ^ F.p ∧ (F.qmin < F.rQ N De → F.lead ≤ F.rN N De / F.rM N De) := by
  have hp := h.p1
  obtain ⟨e1, e2⟩ := rE_ok N De hN hd
  have hM : 0 < F.rM N De := Nat.mul_pos hd (Nat.pow_pos (by omega))
  have hq : F.rQ N De = max (rE N De - F.p + 1) F.qmin := rfl
  refine ⟨hM, ?_, fun hlt => ?_⟩
  · rw [Nat.div_lt_iff_lt_mul hM]
    have k := lt2_mono (e' := F.rQ N De + F.p) hd e2 (by omega)
    rw [lt2_iff N De _ (-(F.rQ N De)).toNat (by omega), show (((-(F.rQ N De)).toNat : Int) + (F.rQ N De + F.p)).toNat = F.p + (F.rQ N De).toNat by omega, Nat.pow_add] at k
    show N * 2 ^ (-(F.rQ N De)).toNat < 2 ^ F.p * (De * 2 ^ (F.rQ N De).toNat)
    rw [Nat.mul_left_comm]
    exact k
  · have k : ¬ lt2 N De (F.rQ N De + F.p - 1) := by
      rw [show F.rQ N De + F.p - 1 = rE N De by omega]; exact e1
    rw [Nat.le_div_iff_mul_le hM]
    rw [lt2_iff N De _ (-(F.rQ N De)).toNat (by omega), show (((-(F.rQ N De)).toNat : Int) + (F.rQ N De + F.p - 1)).toNat = (F.p - 1) + (F.rQ N De).toNat by omega, Nat.pow_add] at k
    show 2 ^ (F.p - 1) * (De * 2 ^ (F.rQ N De).toNat) ≤ N * 2 ^ (-(F.rQ N De)).toNat
    rw [Nat.mul_left_comm]
    omega

theorem Fm.Ok.two_lead {F : Fm} (h : F.Ok) : 2 ^ F.p = 2 * F.lead := by
  have p1 := h.p1
  unfold Fm.lead
  rw [Nat.mul_comm, ← Nat.pow_succ]; congr 1; omega

theorem rUp_le (n m : Nat) : rUp n m ≤ 1 := by unfold rUp; split <;> omega

theorem Fm.Ok.rS_le {F : Fm} (h : F.Ok) (N De : Nat) (hN : 0 < N) (hd : 0 < De) : F.rS N De ≤ 2 ^ F.p := by
  have := h.rS_ok N De hN hd
  have := rUp_le (F.rN N De) (F.rM N De)
  unfold Fm.rS
  omega

theorem Fm.Ok.rSig_lt {F : Fm} (h : F.Ok) (N De : Nat) (hN : 0 < N) (hd : 0 < De) : F.rSig N De < 2 * F.lead := by
  have h1 := h.rS_le N De hN hd
  have h2 := h.two_lead
  have h3 := h.leadPos
  unfold Fm.rSig
  split <;> omega

/-- Below the leading bit the unit is the least. -/
theorem Fm.Ok.rLow {F : Fm} (h : F.Ok) (N De : Nat) (hN : 0 < N) (hd : 0 < De) (hs : F.rSig N De < F.lead) : F.rExp N De = F.qmin ∧ F.rSig N De = F.rS N De ∧ F.rS N De ≠ 2 ^ F.p := by
  have h1 := h.rS_ok N De hN hd
  have h3 := h.leadPos
  have h2 := h.two_lead
  unfold Fm.rSig at hs
  by_cases hc : F.rS N De = 2 ^ F.p
  · rw [if_pos hc] at hs; omega
  · rw [if_neg hc] at hs
    refine ⟨?_, by unfold Fm.rSig; rw [if_neg hc], hc⟩
    unfold Fm.rExp
    rw [if_neg hc]
    have hq : F.rQ N De = max (rE N De - F.p + 1) F.qmin := rfl
    have hle : F.rN N De / F.rM N De ≤ F.rS N De := by unfold Fm.rS; omega
    by_cases hlt : F.qmin < F.rQ N De
    · have := h1.2.2 hlt; omega
    · omega

theorem Fm.Ok.rPt_proper {F : Fm} (h : F.Ok) (n : Bool) (N De : Nat) (hN : 0 < N) (hd : 0 < De) : F.Proper (F.rPt n N De) := by
  have h1 := h.rSig_lt N De hN hd
  have h2 := h.rLow N De hN hd
  have h3 := h.top2
  have h4 : F.qmin ≤ F.rExp N De := by
    have hq : F.rQ N De = max (rE N De - F.p + 1) F.qmin := rfl
    unfold Fm.rExp; split <;> omega
  have h5 : F.qmin = 2 - (F.emax : Int) - (F.p : Int) := rfl
  unfold Fm.rPt
  by_cases c1 : F.rSig N De = 0
  · rw [if_pos c1]; exact .inl ⟨rfl, rfl, rfl⟩
  · rw [if_neg c1]
    by_cases c2 : F.rSig N De < F.lead
    · rw [if_pos c2]
      exact .inr (.inr (.inr (.inl ⟨rfl, by simp only; omega, c2, (h2 c2).1⟩)))
    · rw [if_neg c2]
      by_cases c3 : (F.emax : Int) < F.rExp N De + F.p - 1
      · rw [if_pos c3]; exact .inr (.inl ⟨rfl, rfl, rfl⟩)
      · rw [if_neg c3]
        exact .inr (.inr (.inr (.inr ⟨rfl, by simp only; omega, h1, by simp only; omega, by simp only; omega⟩)))

end Go.Proofs.YtodgblbaclionaaGreatDoor.M

namespace Go.Proofs.YtodgblbaclionaaGreatDoor

open Go.RowKit

set_option linter.unusedVariables false
set_option maxRecDepth 100000

/-- The places of a number of limbs: those of the highest limb and 64 for each other. -/
theorem blen_L (a : Nat) (h : 0 < a) : blen a = 64 * ((L a).length - 1) + blen ((L a).getD ((L a).length - 1) 0) := by
  have h1 := M.dig_le (B := 18446744073709551616) (by omega) a h
  have h2 := M.lt_dig (B := 18446744073709551616) (by omega) a
  have hl : (L a).length ≠ 0 := by unfold L; rw [M.dig_pos (by omega) h]; simp
  obtain ⟨m, hm⟩ : ∃ m, (L a).length = m + 1 := ⟨(L a).length - 1, by omega⟩
  have hm' : (M.dig 18446744073709551616 a).length = m + 1 := hm
  rw [hm'] at h1 h2
  rw [hm, Nat.add_sub_cancel] at *
  have e : (18446744073709551616 : Nat) ^ m = 2 ^ (64 * m) := by rw [show (18446744073709551616 : Nat) = 2 ^ 64 from rfl, ← Nat.pow_mul]
  have hg : (L a).getD m 0 = a / 18446744073709551616 ^ m := by
    have hh : (M.dig 18446744073709551616 a).getD m 0 = a / 18446744073709551616 ^ m % 18446744073709551616 := by
      have : ∀ k n, (M.dig 18446744073709551616 n).getD k 0 = n / 18446744073709551616 ^ k % 18446744073709551616 := by
        intro k
        induction k with
        | zero =>
          intro n
          by_cases hn : 0 < n
          · rw [M.dig_pos (by omega) hn]; simp
          · have : n = 0 := by omega
            subst this; simp [M.dig_zero]
        | succ k ih =>
          intro n
          by_cases hn : 0 < n
          · rw [M.dig_pos (by omega) hn, List.getD_cons_succ, ih, Nat.div_div_eq_div_mul, Nat.pow_succ, Nat.mul_comm 18446744073709551616]
          · have : n = 0 := by omega
            subst this; simp [M.dig_zero]
      exact this m a
    unfold L
    rw [hh]
    apply Nat.mod_eq_of_lt
    apply Nat.div_lt_of_lt_mul
    rw [← Nat.pow_succ]; exact h2
  rw [hg, e]
  exact blen_shift (64 * m) a (by rw [← e]; exact h1)

set_option maxHeartbeats 400000 in
theorem bitLenN_any (ao : Option Addr) (n c : Nat) (a : Nat) (w : World) (hl : (L a).length = n) (hn : n ≤ 1048576) (hr : Rd w ao (L a)) (b : Nat) (hb : b = blen a) :
    Calls Tryz.prog 113 #[.slice ao n c] w fun e w' => e = .returned (.int .i64 (b : Int)) ∧ w' = w := by
  by_cases h0 : n = 0
  · subst h0
    have ha : a = 0 := by
      rcases Nat.eq_zero_or_pos a with h | h
      · exact h
      · unfold L at hl; rw [M.dig_pos (by omega) h] at hl; simp at hl
    have hb0 : b = 0 := by rw [hb, ha, blen_zero]
    subst hb0
    clear hb ha hl hr
    go_enter Tryz.func113, Tryz.ntmps113
    go_wp2_with fail
    go_ret
    exact ⟨rfl, rfl⟩
  · obtain ⟨m, rfl⟩ : ∃ m, n = m + 1 := ⟨n - 1, by omega⟩
    have ha : 0 < a := by
      rcases Nat.eq_zero_or_pos a with h | h
      · rw [h] at hl; simp [L, M.dig_zero] at hl
      · exact h
    have hbl := blen_L a ha
    rw [hl, Nat.add_sub_cancel] at hbl
    obtain ⟨b1, o1, hao, hcl⟩ := hr (by omega)
    have hck := hcl m (by omega)
    clear hcl
    have ht := (F64_L a).get m
    obtain ⟨t, htt⟩ : ∃ t : Nat, t = (L a).getD m 0 := ⟨_, rfl⟩
    rw [← htt] at hck ht hbl
    rw [← hb] at hbl
    have hne : (((m : Int) + 1) == 0) = false := by simp; omega
    have e1 : ((m + 1 : Nat) : Int) = (m : Int) + 1 := by omega
    have hltm : (m : Int) < (m : Int) + 1 := by omega
    have hlt64 := blen_le_of t 64 (by omega)
    obtain ⟨q, hq⟩ : ∃ q, q = blen t := ⟨_, rfl⟩
    rw [← hq] at hbl hlt64
    have HBL := hid hbl; have HT := hid htt; have HQ := hid hq
    clear hbl htt hb hq
    have kL := fun v : World => len64_any t v ht q HQ.out
    have w1 : IntKind.i64.wrap ((m : Int) * 64) = (m : Int) * 64 := by rw [IntKind.wrap_i64]; omega
    have w2 : IntKind.i64.wrap ((m : Int) * 64 + (q : Int)) = (m : Int) * 64 + (q : Int) := by rw [IntKind.wrap_i64]; omega
    go_enter Tryz.func113, Tryz.ntmps113
    go_wp2_with fail
    refine (kL _).mono ?_
    rintro e w3 ⟨rfl, rfl⟩
    go_wp2_with fail
    go_ret
    exact ⟨ret_int (by have := HBL.out; omega), rfl⟩

end Go.Proofs.YtodgblbaclionaaGreatDoor

namespace Go.Proofs.YtodgblbaclionaaGreatDoor.M

set_option linter.unusedVariables false
set_option maxRecDepth 100000

theorem val_split (B : Nat) (xs : List Nat) (off n : Nat) (h : off + n ≤ xs.length) :
    val B xs = val B (xs.take off) + B ^ off * (val B (seg xs off n) + B ^ n * val B (xs.drop (off + n))) := by
  have e1 : xs.take off ++ xs.drop off = xs := List.take_append_drop off xs
  have e2 : seg xs off n ++ xs.drop (off + n) = xs.drop off := by
    unfold seg; rw [← List.drop_drop]; exact List.take_append_drop n _
  have l1 : (xs.take off).length = off := by simp; omega
  have l2 := seg_length xs off n h
  have h2 : val B (xs.drop off) = val B (seg xs off n) + B ^ n * val B (xs.drop (off + n)) := by
    rw [← e2, val_append, l2]
  rw [← h2]
  have h1 := val_append B (xs.take off) (xs.drop off)
  rw [e1, l1] at h1
  exact h1

theorem take_eq_of (xs ys : List Nat) (k : Nat) (hl : xs.length = ys.length) (h : ∀ j, j < k → xs.getD j 0 = ys.getD j 0) : xs.take k = ys.take k := by
  apply List.ext_getElem (by simp [hl])
  intro j h1 h2
  have := h j (by simp at h1; omega)
  simp at h1 h2
  simpa [List.getD_eq_getElem?_getD, show j < xs.length by omega, show j < ys.length by omega] using this

theorem drop_eq_of (xs ys : List Nat) (k : Nat) (hl : xs.length = ys.length) (h : ∀ j, k ≤ j → xs.getD j 0 = ys.getD j 0) : xs.drop k = ys.drop k := by
  apply List.ext_getElem (by simp [hl])
  intro j h1 h2
  have := h (k + j) (by omega)
  simp at h1 h2
  simpa [List.getD_eq_getElem?_getD, show k + j < xs.length by omega, show k + j < ys.length by omega] using this

theorem val_wrote {B : Nat} {zs cur : List Nat} {off n : Nat} (h : Wrote B zs off n cur) (hl : off + n ≤ zs.length) :
    val B cur + B ^ off * val B (seg zs off n) = val B zs + B ^ off * val B (seg cur off n) := by
  rw [val_split B cur off n (by rw [h.len]; exact hl), val_split B zs off n hl, take_eq_of cur zs off h.len (fun j hj => h.out j (by omega)), drop_eq_of cur zs (off + n) h.len (fun j hj => h.out j (by omega))]
  simp only [Nat.mul_add]
  omega

/-- One place of 'add f times ys': x and y are the limbs, c the carry. -/
theorem times_place (x y f c p : Nat) (hp : p = y * f) (hx : x < 18446744073709551616) (hy : y < 18446744073709551616) (hf : f < 18446744073709551616) (hc : c < 18446744073709551616) :
    ∃ l2 r1 h2 o r2 c' : Nat, l2 = (p % 18446744073709551616 + c) % 18446744073709551616 ∧ r1 = (if (l2 : Int) < (c : Int) then 1 else 0) ∧ h2 = p / 18446744073709551616 + r1 ∧ h2 < 18446744073709551616 ∧
      o = (x + l2) % 18446744073709551616 ∧ r2 = (if (o : Int) < (l2 : Int) then 1 else 0) ∧ c' = h2 + r2 ∧ c' < 18446744073709551616 ∧ o < 18446744073709551616 ∧ o + 18446744073709551616 * c' = x + p + c := by
  have hb : p ≤ 18446744073709551615 * 18446744073709551615 := by rw [hp]; exact Nat.mul_le_mul (by omega) (by omega)
  refine ⟨_, _, _, _, _, _, rfl, rfl, rfl, ?_, rfl, rfl, rfl, ?_, ?_, ?_⟩
  · split <;> omega
  · split <;> split <;> omega
  · omega
  · split <;> split <;> omega

/-- The sum grows by a place. -/
theorem times_over {V V' V0 T c c' P B x y o f : Nat} (h : V + c * P = V0 + f * T) (hv : V' + P * x = V + P * o) (hs : o + B * c' = x + y * f + c) : V' + c' * (P * B) = V0 + f * (T + P * y) := by
  have e : P * (o + B * c') = P * (x + y * f + c) := by rw [hs]
  simp only [Nat.mul_add] at e ⊢
  rw [Nat.mul_comm c' (P * B), Nat.mul_assoc]
  rw [Nat.mul_comm c P] at h
  have e2 : f * (P * y) = P * (y * f) := by rw [Nat.mul_comm f, Nat.mul_assoc]
  rw [e2]
  omega

/-- A row of a product is laid: the view holds what stood there and y times a; the carry goes into the place behind it. -/
theorem mul_row {V V1 V2 S S1 c Pk Bn a y T : Nat} (h : V = a * T) (h1 : V1 + Pk * S = V + Pk * S1) (hs : S1 + c * Bn = S + y * a) (h2 : V2 = V1 + Pk * Bn * c) : V2 = a * (T + Pk * y) := by
  have e : Pk * (S1 + c * Bn) = Pk * (S + y * a) := by rw [hs]
  simp only [Nat.mul_add] at e ⊢
  have e1 : Pk * Bn * c = Pk * (c * Bn) := by rw [Nat.mul_assoc, Nat.mul_comm Bn c]
  have e2 : a * (Pk * y) = Pk * (y * a) := by rw [Nat.mul_left_comm, Nat.mul_comm a y]
  rw [e2, ← h]
  omega

end Go.Proofs.YtodgblbaclionaaGreatDoor.M

namespace Go.Proofs.YtodgblbaclionaaGreatDoor

open Go.RowKit

set_option linter.unusedVariables false
set_option maxRecDepth 100000

theorem L_zero_iff (a : Nat) : (((L a).length : Int) == 0) = decide (a = 0) := by
  rw [Bool.eq_iff_iff]
  simp only [beq_iff_eq, decide_eq_true_eq]
  constructor
  · intro h
    have h1 : L a = [] := List.eq_nil_of_length_eq_zero (by omega)
    have h2 : V (L a) = a := V_L a
    rw [h1] at h2
    simpa [V, M.val] using h2.symm
  · intro h
    subst h
    simp [L, M.dig_zero]

theorem D_zero_eq (a : Nat) : (((D a).length : Int) == 0) = decide (a = 0) := by
  rw [Bool.eq_iff_iff]
  simp only [beq_iff_eq, decide_eq_true_eq]
  constructor
  · intro h
    have h1 : D a = [] := List.eq_nil_of_length_eq_zero (by omega)
    have h2 : X (D a) = a := X_D a
    rw [h1] at h2
    simpa [X, M.val] using h2.symm
  · intro h
    subst h
    simp [D, M.dig_zero]

theorem len_shiftK (N p A K : Nat) (hn : (L N).length ≤ A) (hp : p ≤ 64 * K) : (L (N * 2 ^ p)).length ≤ A + K := by
  have h1 := L_lt N A hn
  have h2 : 2 ^ p ≤ 18446744073709551616 ^ K := by
    rw [show (18446744073709551616 : Nat) = 2 ^ 64 by rfl, ← Nat.pow_mul]
    exact Nat.pow_le_pow_right (by omega) (by omega)
  have h3 : N * 2 ^ p < 18446744073709551616 ^ (A + K) := by
    rw [Nat.pow_add]
    exact Nat.lt_of_le_of_lt (Nat.mul_le_mul_left _ h2) (Nat.mul_lt_mul_of_pos_right h1 (Nat.pow_pos (by omega)))
  exact M.len_of_lt (B := 18446744073709551616) (by omega) _ _ h3

end Go.Proofs.YtodgblbaclionaaGreatDoor

namespace Go.Proofs.YtodgblbaclionaaGreatDoor.M

set_option linter.unusedVariables false
set_option maxRecDepth 100000

theorem kn_mul {q r u y1 y0 y C : Nat} (hy : y = y1 * C + y0) (h : q * y1 + r = u) : q * y + C * r = u * C + q * y0 := by
  rw [hy, ← h, Nat.mul_add, Nat.add_mul, Nat.mul_assoc, Nat.mul_comm C r]
  omega

/-- What holds of a guess q with its rest r: N is the number, y the divisor. -/
structure Kn (C u d y1 y0 y q r : Nat) : Prop where
  sum : q * y1 + r = u
  ge : (u * C + d) / y ≤ q
  le : q ≤ C + 1

theorem Kn.first {C u d y1 y0 y : Nat} (hC : 0 < C) (hy : y = y1 * C + y0) (hd : d < C) (hu : u < y) (h0 : y0 < C) (hn : C ≤ 2 * y1) : Kn C u d y1 y0 y (u / y1) (u % y1) := by
  have hy1 : 0 < y1 := by omega
  have hyp : 0 < y := by omega
  refine ⟨by rw [Nat.mul_comm]; exact Nat.div_add_mod u y1, ?_, ?_⟩
  · rw [Nat.le_div_iff_mul_le hy1]
    have h1 := Nat.div_mul_le_self (u * C + d) y
    generalize (u * C + d) / y = q at *
    have h2 : q * y1 * C ≤ q * y := by rw [hy, Nat.mul_add, Nat.mul_assoc]; omega
    have h3 : q * y1 * C < (u + 1) * C := by rw [Nat.add_mul]; omega
    have := Nat.lt_of_mul_lt_mul_right h3
    omega
  · have h1 := Nat.div_mul_le_self u y1
    rcases Nat.lt_or_ge (C + 1) (u / y1) with h | h
    · have h2 : (C + 2) * y1 ≤ u / y1 * y1 := Nat.mul_le_mul_right _ h
      rw [Nat.add_mul, Nat.mul_comm C y1] at h2
      omega
    · exact h

/-- The guess is right where it is not too high. -/
theorem Kn.stop {C u d y1 y0 y q r : Nat} (h : Kn C u d y1 y0 y q r) (hy : y = y1 * C + y0) (hyp : 0 < y) (ht : q * y0 ≤ C * r + d) : q = (u * C + d) / y := by
  have e := kn_mul hy h.sum
  refine Nat.le_antisymm ?_ h.ge
  rw [Nat.le_div_iff_mul_le hyp]
  omega

/-- Else one less serves too. -/
theorem Kn.down {C u d y1 y0 y q r : Nat} (h : Kn C u d y1 y0 y q r) (hy : y = y1 * C + y0) (hyp : 0 < y) (hu : u < y) (hd : d < C) (ht : C ≤ q ∨ C * r + d < q * y0) : 1 ≤ q ∧ Kn C u d y1 y0 y (q - 1) (r + y1) := by
  have e := kn_mul hy h.sum
  have hlt : (u * C + d) / y < q := by
    rcases ht with ht | ht
    · have : (u * C + d) / y < C := by
        rw [Nat.div_lt_iff_lt_mul hyp]
        have h1 : (u + 1) * C ≤ y * C := Nat.mul_le_mul_right _ hu
        rw [Nat.add_mul] at h1
        rw [Nat.mul_comm C y]; omega
      exact Nat.lt_of_lt_of_le this ht
    · rw [Nat.div_lt_iff_lt_mul hyp]; omega
  have hq1 : 1 ≤ q := Nat.lt_of_le_of_lt (Nat.zero_le _) hlt
  refine ⟨hq1, ?_, Nat.le_sub_one_of_lt hlt, by have := h.le; omega⟩
  have := h.sum
  obtain ⟨m, rfl⟩ : ∃ m, q = m + 1 := ⟨q - 1, by omega⟩
  rw [Nat.add_sub_cancel]
  rw [Nat.add_mul, Nat.one_mul] at this
  omega

/-- A rest of a limb or more: the guess is right. -/
theorem Kn.wide {C u d y1 y0 y q r : Nat} (h : Kn C u d y1 y0 y q r) (hy : y = y1 * C + y0) (hyp : 0 < y) (h0 : y0 < C) (hq : q ≤ C) (hr : C ≤ r) : q = (u * C + d) / y := by
  refine h.stop hy hyp ?_
  have h1 : q * y0 ≤ C * y0 := Nat.mul_le_mul_right _ hq
  have h2 : C * y0 ≤ C * r := Nat.mul_le_mul_left _ (by omega)
  omega

/-- The two steps make the whole quotient. -/
theorem kn_whole {C u d1 d0 y q1 u2 q0 : Nat} (hyp : 0 < y) (h1 : q1 = (u * C + d1) / y) (h2 : u2 = (u * C + d1) % y) (h0 : q0 = (u2 * C + d0) / y) :
    q1 * C + q0 = (u * (C * C) + (d1 * C + d0)) / y ∧ (u2 * C + d0) % y = (u * (C * C) + (d1 * C + d0)) % y := by
  have e1 := Nat.div_add_mod (u * C + d1) y
  rw [← h1, ← h2] at e1
  have e : u * (C * C) + (d1 * C + d0) = u2 * C + d0 + y * (q1 * C) := by
    have h3 : (y * q1 + u2) * C = (u * C + d1) * C := by rw [e1]
    rw [Nat.add_mul, Nat.add_mul, Nat.mul_assoc, Nat.mul_assoc] at h3
    omega
  constructor
  · rw [e, Nat.add_mul_div_left _ _ hyp, ← h0]; omega
  · rw [e, Nat.add_mul_mod_self_left]

end Go.Proofs.YtodgblbaclionaaGreatDoor.M

namespace Go.Proofs.YtodgblbaclionaaGreatDoor.M

set_option linter.unusedVariables false
set_option maxRecDepth 100000

theorem rE_le (N De : Nat) (h1 : blen N ≤ 83200) (h2 : blen De ≤ 83200) : -83201 ≤ rE N De ∧ rE N De ≤ 83200 := by
  unfold rE; split <;> omega

theorem Fm.Ok.rQ_le {F : Fm} (h : F.Ok) (N De : Nat) (h1 : blen N ≤ 83200) (h2 : blen De ≤ 83200) : -17000 ≤ F.rQ N De ∧ F.rQ N De ≤ 83200 ∧ F.qmin ≤ F.rQ N De ∧ -17000 ≤ F.qmin ∧ F.qmin < 0 := by
  have a := rE_le N De h1 h2
  have b := h.top2
  have p1 := h.p1
  have p2 := h.p2
  have hq : F.rQ N De = max (rE N De - F.p + 1) F.qmin := rfl
  have hm : F.qmin = 2 - (F.emax : Int) - (F.p : Int) := rfl
  omega

theorem Fm.Ok.rN_le {F : Fm} (h : F.Ok) (N De : Nat) (hN : 0 < N) (hd : 0 < De) (h1 : blen N ≤ 83200) (h2 : blen De ≤ 83200) : (F.rN N De = N ∨ F.rN N De < De * 2 ^ F.p) ∧ (F.rM N De = De ∨ F.rM N De ≤ N) := by
  obtain ⟨q1, q2, q3, q4, q5⟩ := h.rQ_le N De h1 h2
  obtain ⟨e1, e2⟩ := rE_ok N De hN hd
  have p1 := h.p1
  have hq : F.rQ N De = max (rE N De - F.p + 1) F.qmin := rfl
  have eN : F.rN N De = N * 2 ^ (-(F.rQ N De)).toNat := rfl
  have eM : F.rM N De = De * 2 ^ (F.rQ N De).toNat := rfl
  rcases (by omega : 0 ≤ F.rQ N De ∨ F.rQ N De < 0) with hc | hc
  · refine ⟨.inl ?_, .inr ?_⟩
    · rw [eN, show (-(F.rQ N De)).toNat = 0 by omega, Nat.pow_zero, Nat.mul_one]
    · have hE : F.rQ N De = rE N De - F.p + 1 := by omega
      have hz : ¬ lt2 N De (F.rQ N De) := fun hh => e1 (lt2_mono hd hh (by omega))
      unfold lt2 at hz
      rw [show (-(F.rQ N De)).toNat = 0 by omega, Nat.pow_zero, Nat.mul_one] at hz
      rw [eM]; omega
  · refine ⟨.inr ?_, .inl ?_⟩
    · have k := lt2_mono (e' := F.rQ N De + F.p) hd e2 (by omega)
      rw [lt2_iff N De _ (-(F.rQ N De)).toNat (by omega), show (((-(F.rQ N De)).toNat : Int) + (F.rQ N De + F.p)).toNat = F.p by omega] at k
      rw [eN]; exact k
    · rw [eM, show (F.rQ N De).toNat = 0 by omega, Nat.pow_zero, Nat.mul_one]

/-- The carry as the model makes it. -/
theorem Fm.Ok.rCarry {F : Fm} (h : F.Ok) (N De : Nat) (hN : 0 < N) (hd : 0 < De) : F.rSig N De = (if (F.p : Int) < (blen (F.rS N De) : Int) then F.rS N De / 2 else F.rS N De) ∧ F.rExp N De = (if (F.p : Int) < (blen (F.rS N De) : Int) then F.rQ N De + 1 else F.rQ N De) := by
  have h1 := h.rS_le N De hN hd
  have h2 := h.two_lead
  have h3 := h.leadPos
  have key : (F.p : Int) < (blen (F.rS N De) : Int) ↔ F.rS N De = 2 ^ F.p := by
    constructor
    · intro hh
      have h5 : F.rS N De ≠ 0 := by intro e; rw [e, blen_zero] at hh; omega
      have h6 := blen_le (F.rS N De) (by omega)
      have h7 : 2 ^ F.p ≤ 2 ^ (blen (F.rS N De) - 1) := Nat.pow_le_pow_right (by omega) (by omega)
      omega
    · intro hh
      have h6 := lt_blen (F.rS N De)
      rcases Nat.lt_or_ge F.p (blen (F.rS N De)) with h7 | h7
      · omega
      · have : 2 ^ blen (F.rS N De) ≤ 2 ^ F.p := Nat.pow_le_pow_right (by omega) h7
        omega
  unfold Fm.rSig Fm.rExp
  by_cases hc : F.rS N De = 2 ^ F.p
  · rw [if_pos hc, if_pos hc, if_pos (key.2 hc), if_pos (key.2 hc)]
    refine ⟨?_, rfl⟩
    rw [hc, h2]; omega
  · rw [if_neg hc, if_neg hc, if_neg (fun hh => hc (key.1 hh)), if_neg (fun hh => hc (key.1 hh))]
    exact ⟨rfl, rfl⟩

/-- The quotient rounded, by the comparison of twice the rest. -/
theorem rUp_cmp (n m : Nat) : n / m + rUp n m = if 0 < cmpI (((n % m * 2 : Nat)) : Int) (m : Int) ∨ (cmpI (((n % m * 2 : Nat)) : Int) (m : Int) = 0 ∧ n / m % 2 = 1) then n / m + 1 else n / m := by
  unfold rUp
  have e : (m < 2 * (n % m) ∨ (2 * (n % m) = m ∧ n / m % 2 = 1)) ↔ (0 < cmpI (((n % m * 2 : Nat)) : Int) (m : Int) ∨ (cmpI (((n % m * 2 : Nat)) : Int) (m : Int) = 0 ∧ n / m % 2 = 1)) := by
    have h1 : 0 < cmpI (((n % m * 2 : Nat)) : Int) (m : Int) ↔ m < 2 * (n % m) := by
      unfold cmpI; split
      · omega
      · split <;> omega
    have h2 : cmpI (((n % m * 2 : Nat)) : Int) (m : Int) = 0 ↔ 2 * (n % m) = m := by
      unfold cmpI; split
      · omega
      · split <;> omega
    rw [h1, h2]
  by_cases hh : m < 2 * (n % m) ∨ (2 * (n % m) = m ∧ n / m % 2 = 1)
  · rw [if_pos hh, if_pos (e.1 hh)]
  · rw [if_neg hh, if_neg (fun k => hh (e.2 k))]; omega

end Go.Proofs.YtodgblbaclionaaGreatDoor.M

namespace Go.Proofs.YtodgblbaclionaaGreatDoor.M

set_option linter.unusedVariables false
set_option maxRecDepth 100000

/-- At or beyond 2^(emax+1): infinite. -/
theorem Fm.Ok.far_big {F : Fm} (h : F.Ok) (N De : Nat) (hN : 0 < N) (hd : 0 < De) (hb : ¬ lt2 N De ((F.emax : Int) + 1)) (n : Bool) (tiny range : Int) :
    F.rPt n N De = ⟨4, n, 0, 0⟩ ∧ F.rFl N De tiny range = range := by
  have tp := h.top2
  have lp := h.leadPos
  have two := h.two_lead
  have hp := h.p1
  have hqm : F.qmin = 2 - (F.emax : Int) - (F.p : Int) := rfl
  obtain ⟨e1, e2⟩ := rE_ok N De hN hd
  have hE : (F.emax : Int) + 1 ≤ rE N De := by
    rcases Int.lt_or_le (rE N De) ((F.emax : Int) + 1) with c | c
    · exact absurd (lt2_mono hd e2 (by omega)) hb
    · exact c
  have hq : F.rQ N De = max (rE N De - F.p + 1) F.qmin := rfl
  obtain ⟨hM, k1, k2⟩ := h.rS_ok N De hN hd
  have k3 := k2 (by omega)
  have hs : F.lead ≤ F.rS N De := by unfold Fm.rS; omega
  have hg : F.lead ≤ F.rSig N De := by unfold Fm.rSig; split <;> omega
  have hx : F.rQ N De ≤ F.rExp N De := by unfold Fm.rExp; split <;> omega
  unfold Fm.rPt Fm.rFl
  rw [if_neg (by omega), if_neg (by omega), if_pos (by omega), if_neg (by omega), if_neg (by omega), if_pos (by omega)]
  exact ⟨rfl, rfl⟩

/-- Below half the least unit: zero. -/
theorem Fm.Ok.far_small {F : Fm} (h : F.Ok) (N De : Nat) (hN : 0 < N) (hd : 0 < De) (hb : lt2 N De (F.qmin - 1)) (n : Bool) (tiny range : Int) :
    F.rPt n N De = ⟨1, n, 0, 0⟩ ∧ F.rFl N De tiny range = tiny := by
  have hp := h.p1
  obtain ⟨e1, e2⟩ := rE_ok N De hN hd
  have hE : rE N De < F.qmin - 1 := by
    rcases Int.lt_or_le (rE N De) (F.qmin - 1) with c | c
    · exact c
    · exact absurd (lt2_mono hd hb c) e1
  have hq : F.rQ N De = F.qmin := by unfold Fm.rQ; omega
  have k : 2 * F.rN N De < F.rM N De := by
    rw [lt2_iff N De _ ((-(F.qmin)).toNat + 1) (by omega), show ((((-(F.qmin)).toNat + 1 : Nat) : Int) + (F.qmin - 1)).toNat = F.qmin.toNat by omega, Nat.pow_succ] at hb
    unfold Fm.rN Fm.rM
    rw [hq]
    rw [← Nat.mul_assoc] at hb
    omega
  have z : F.rS N De = 0 := by
    have m1 : F.rN N De % F.rM N De = F.rN N De := Nat.mod_eq_of_lt (by omega)
    have d1 : F.rN N De / F.rM N De = 0 := Nat.div_eq_of_lt (by omega)
    unfold Fm.rS rUp
    rw [m1, d1, if_neg (by omega)]
  have g : F.rSig N De = 0 := by
    have : 0 < 2 ^ F.p := Nat.pow_pos (by omega)
    unfold Fm.rSig
    rw [z, if_neg (by omega)]
  unfold Fm.rPt Fm.rFl
  rw [if_pos g, if_pos g]
  exact ⟨rfl, rfl⟩

theorem ten_two (J : Nat) : 2 ^ (33 * J) ≤ 10 ^ (10 * J) := by
  rw [Nat.pow_mul, Nat.pow_mul]
  exact Nat.pow_le_pow_left (by omega) J

theorem Fm.Ok.emax_le {F : Fm} (h : F.Ok) : F.emax ≤ 16383 := by
  have e2 := h.e2
  have e1 := h.e1
  have : 2 ^ (F.e - 1) ≤ 2 ^ 14 := Nat.pow_le_pow_right (by omega) (by omega)
  unfold Fm.emax
  omega

/-- k digits and an exponent that puts the first beyond place 5000. -/
theorem Fm.Ok.dec_big {F : Fm} (h : F.Ok) (D k : Nat) (e : Int) (hk : 0 < k) (h1 : 10 ^ (k - 1) ≤ D) (hp : 5000 < (k : Int) + e) : ¬ lt2 (D * 10 ^ e.toNat) (10 ^ (-e).toNat) ((F.emax : Int) + 1) := by
  have hx := h.emax_le
  obtain ⟨J, hJ⟩ : ∃ J : Nat, J = 500 := ⟨_, rfl⟩
  have a1 : 2 ^ (F.emax + 1) ≤ 2 ^ (33 * J) := Nat.pow_le_pow_right (by omega) (by omega)
  have a2 : 10 ^ (10 * J) ≤ 10 ^ ((k : Int) + e - 1).toNat := Nat.pow_le_pow_right (by omega) (by omega)
  have a3 := Nat.le_trans a1 (Nat.le_trans (ten_two J) a2)
  have a4 : 10 ^ (-e).toNat * 10 ^ ((k : Int) + e - 1).toNat = 10 ^ (k - 1) * 10 ^ e.toNat := by
    rw [← Nat.pow_add, ← Nat.pow_add]; congr 1; omega
  have a5 : 10 ^ (-e).toNat * 2 ^ (F.emax + 1) ≤ 10 ^ (-e).toNat * 10 ^ ((k : Int) + e - 1).toNat := Nat.mul_le_mul_left _ a3
  have a6 : 10 ^ (k - 1) * 10 ^ e.toNat ≤ D * 10 ^ e.toNat := Nat.mul_le_mul_right _ h1
  unfold lt2
  rw [show (-((F.emax : Int) + 1)).toNat = 0 by omega, show ((F.emax : Int) + 1).toNat = F.emax + 1 by omega, Nat.pow_zero, Nat.mul_one]
  omega

theorem Fm.Ok.dec_small {F : Fm} (h : F.Ok) (D k : Nat) (e : Int) (h1 : D < 10 ^ k) (hp : (k : Int) + e < -5100) : lt2 (D * 10 ^ e.toNat) (10 ^ (-e).toNat) (F.qmin - 1) := by
  have hx := h.emax_le
  have p1 := h.p1
  have p2 := h.p2
  have hqm : F.qmin = 2 - (F.emax : Int) - (F.p : Int) := rfl
  obtain ⟨J, hJ⟩ : ∃ J : Nat, J = 510 := ⟨_, rfl⟩
  have a1 : 2 ^ (1 - F.qmin).toNat ≤ 2 ^ (33 * J) := Nat.pow_le_pow_right (by omega) (by omega)
  have a2 : 10 ^ (10 * J) ≤ 10 ^ ((-e).toNat - k) := Nat.pow_le_pow_right (by omega) (by omega)
  have a3 := Nat.le_trans a1 (Nat.le_trans (ten_two J) a2)
  have a4 : 10 ^ k * 10 ^ ((-e).toNat - k) = 10 ^ (-e).toNat := by
    rw [← Nat.pow_add]; congr 1; omega
  have a5 : D * 2 ^ (1 - F.qmin).toNat < 10 ^ k * 2 ^ (1 - F.qmin).toNat := (Nat.mul_lt_mul_right (Nat.pow_pos (by omega))).2 h1
  have a6 : 10 ^ k * 2 ^ (1 - F.qmin).toNat ≤ 10 ^ k * 10 ^ ((-e).toNat - k) := Nat.mul_le_mul_left _ a3
  by_cases hq : F.qmin ≤ 1
  · unfold lt2
    rw [show (-(F.qmin - 1)).toNat = (1 - F.qmin).toNat by omega, show (F.qmin - 1).toNat = 0 by omega, show e.toNat = 0 by omega, Nat.pow_zero, Nat.mul_one, Nat.mul_one]
    omega
  · have := h.top2
    omega

/-- The exponent that the program rounds with. -/
def clampE (e : Int) (k : Nat) : Int := max (min e 5200) (-5200 - (k : Int))

theorem Fm.Ok.clamped {F : Fm} (h : F.Ok) (D k : Nat) (e : Int) (hk : 0 < k) (h1 : 10 ^ (k - 1) ≤ D) (h2 : D < 10 ^ k) (n : Bool) (tiny range : Int) :
    (5000 < (k : Int) + e → F.rPt n (D * 10 ^ (clampE e k).toNat) (10 ^ (-(clampE e k)).toNat) = ⟨4, n, 0, 0⟩ ∧ F.rFl (D * 10 ^ (clampE e k).toNat) (10 ^ (-(clampE e k)).toNat) tiny range = range) ∧
    ((k : Int) + e < -5100 → F.rPt n (D * 10 ^ (clampE e k).toNat) (10 ^ (-(clampE e k)).toNat) = ⟨1, n, 0, 0⟩ ∧ F.rFl (D * 10 ^ (clampE e k).toNat) (10 ^ (-(clampE e k)).toNat) tiny range = tiny) ∧
    (¬ 5000 < (k : Int) + e → ¬ (k : Int) + e < -5100 → clampE e k = e) := by
  have hc : clampE e k = max (min e 5200) (-5200 - (k : Int)) := rfl
  have hD : 0 < D := Nat.lt_of_lt_of_le (Nat.pow_pos (by omega)) h1
  refine ⟨fun c => ?_, fun c => ?_, fun c d => by omega⟩
  · exact h.far_big _ _ (Nat.mul_pos hD (Nat.pow_pos (by omega))) (Nat.pow_pos (by omega)) (h.dec_big D k _ hk h1 (by omega)) n tiny range
  · exact h.far_small _ _ (Nat.mul_pos hD (Nat.pow_pos (by omega))) (Nat.pow_pos (by omega)) (h.dec_small D k _ h2 (by omega)) n tiny range

end Go.Proofs.YtodgblbaclionaaGreatDoor.M

