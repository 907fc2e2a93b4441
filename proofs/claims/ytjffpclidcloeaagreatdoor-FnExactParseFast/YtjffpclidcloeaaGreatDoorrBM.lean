import Derived.Test.YtjffpclidcloeaaGreatDoorrBC
namespace Go.Proofs.YtjffpclidcloeaaGreatDoor.M
set_option linter.unusedVariables false
set_option maxRecDepth 100000
theorem val_split (B : Nat) (xs : List Nat) (off n : Nat) (h : off + n ≤ xs.length) :
 val B xs = val B (xs.take off) + B ^ off * (val B (seg xs off n) + B ^ n * val B (xs.drop (off + n))) := by
 have e1 : xs.take off ++ xs.drop off = xs := List.take_append_drop off xs
 have e2 : seg xs off n ++ xs.drop (off + n) = xs.drop off := by
  unfold seg; rw [← List.drop_drop]; exact List.take_append_drop n _
 have l1 : (xs.take off).length = off := by simp; omega
 have l2 := seg_length xs off n h
 have h2 : val B (xs.drop off) = val B (seg xs off n) + B ^ n * val B (xs.drop (off + n)) := by
  rw [← e2, val_append, l2]
 rw [← h2]
 have h1 := val_append B (xs.take off) (xs.drop off)
 rw [e1, l1] at h1
 exact h1

theorem take_eq_of (xs ys : List Nat) (k : Nat) (hl : xs.length = ys.length) (h : ∀ j, j < k → xs.getD j 0 = ys.getD j 0) : xs.take k = ys.take k := by
 apply List.ext_getElem (by simp [hl])
 intro j h1 h2
 have := h j (by simp at h1; omega)
 simp at h1 h2
 simpa [List.getD_eq_getElem?_getD, show j < xs.length by omega, show j < ys.length by omega] using this

theorem drop_eq_of (xs ys : List Nat) (k : Nat) (hl : xs.length = ys.length) (h : ∀ j, k ≤ j → xs.getD j 0 = ys.getD j 0) : xs.drop k = ys.drop k := by
 apply List.ext_getElem (by simp [hl])
 intro j h1 h2
 have := h (k + j) (by omega)
 simp at h1 h2
 simpa [List.getD_eq_getElem?_getD, show k + j < xs.length by omega, show k + j < ys.length by omega] using this

theorem val_wrote {B : Nat} {zs cur : List Nat} {off n : Nat} (h : Wrote B zs off n cur) (hl : off + n ≤ zs.length) :
 val B cur + B ^ off * val B (seg zs off n) = val B zs + B ^ off * val B (seg cur off n) := by
 rw [val_split B cur off n (by rw [h.len]; exact hl), val_split B zs off n hl, take_eq_of cur zs off h.len (fun j hj => h.out j (by omega)), drop_eq_of cur zs (off + n) h.len (fun j hj => h.out j (by omega))]
 simp only [Nat.mul_add]
 omega

theorem times_place (x y f c p : Nat) (hp : p = y * f) (hx : x < 18446744073709551616) (hy : y < 18446744073709551616) (hf : f < 18446744073709551616) (hc : c < 18446744073709551616) :
 ∃ l2 r1 h2 o r2 c' : Nat, l2 = (p % 18446744073709551616 + c) % 18446744073709551616 ∧ r1 = (if (l2 : Int) < (c : Int) then 1 else 0) ∧ h2 = p / 18446744073709551616 + r1 ∧ h2 < 18446744073709551616 ∧
   o = (x + l2) % 18446744073709551616 ∧ r2 = (if (o : Int) < (l2 : Int) then 1 else 0) ∧ c' = h2 + r2 ∧ c' < 18446744073709551616 ∧ o < 18446744073709551616 ∧ o + 18446744073709551616 * c' = x + p + c := by
 have hb : p ≤ 18446744073709551615 * 18446744073709551615 := by rw [hp]; exact Nat.mul_le_mul (by omega) (by omega)
 refine ⟨_, _, _, _, _, _, rfl, rfl, rfl, ?_, rfl, rfl, rfl, ?_, ?_, ?_⟩
 · split <;> omega
 · split <;> split <;> omega
 · omega
 · split <;> split <;> omega

theorem times_over {V V' V0 T c c' P B x y o f : Nat} (h : V + c * P = V0 + f * T) (hv : V' + P * x = V + P * o) (hs : o + B * c' = x + y * f + c) : V' + c' * (P * B) = V0 + f * (T + P * y) := by
 have e : P * (o + B * c') = P * (x + y * f + c) := by rw [hs]
 simp only [Nat.mul_add] at e ⊢
 rw [Nat.mul_comm c' (P * B), Nat.mul_assoc]
 rw [Nat.mul_comm c P] at h
 have e2 : f * (P * y) = P * (y * f) := by rw [Nat.mul_comm f, Nat.mul_assoc]
 rw [e2]
 omega

theorem mul_row {V V1 V2 S S1 c Pk Bn a y T : Nat} (h : V = a * T) (h1 : V1 + Pk * S = V + Pk * S1) (hs : S1 + c * Bn = S + y * a) (h2 : V2 = V1 + Pk * Bn * c) : V2 = a * (T + Pk * y) := by
 have e : Pk * (S1 + c * Bn) = Pk * (S + y * a) := by rw [hs]
 simp only [Nat.mul_add] at e ⊢
 have e1 : Pk * Bn * c = Pk * (c * Bn) := by rw [Nat.mul_assoc, Nat.mul_comm Bn c]
 have e2 : a * (Pk * y) = Pk * (y * a) := by rw [Nat.mul_left_comm, Nat.mul_comm a y]
 rw [e2, ← h]
 omega

end Go.Proofs.YtjffpclidcloeaaGreatDoor.M
namespace Go.Proofs.YtjffpclidcloeaaGreatDoor
open Go.RowKit
set_option linter.unusedVariables false
set_option maxRecDepth 100000
theorem L_zero_iff (a : Nat) : (((L a).length : Int) == 0) = decide (a = 0) := by
 rw [Bool.eq_iff_iff]
 simp only [beq_iff_eq, decide_eq_true_eq]
 constructor
 · intro h
   have h1 : L a = [] := List.eq_nil_of_length_eq_zero (by omega)
   have h2 : V (L a) = a := V_L a
   rw [h1] at h2
   simpa [V, M.val] using h2.symm
 · intro h
   subst h
   simp [L, M.dig_zero]

theorem D_zero_eq (a : Nat) : (((D a).length : Int) == 0) = decide (a = 0) := by
 rw [Bool.eq_iff_iff]
 simp only [beq_iff_eq, decide_eq_true_eq]
 constructor
 · intro h
   have h1 : D a = [] := List.eq_nil_of_length_eq_zero (by omega)
   have h2 : X (D a) = a := X_D a
   rw [h1] at h2
   simpa [X, M.val] using h2.symm
 · intro h
   subst h
   simp [D, M.dig_zero]

theorem D_len_bits (a j K : Nat) (h : a < 2 ^ j) (hj : j ≤ 32 * K) : (D a).length ≤ K := by
 refine M.len_of_lt (B := 4294967296) (by omega) _ _ ?_
 rw [show (4294967296 : Nat) = 2 ^ 32 by rfl, ← Nat.pow_mul]
 exact Nat.lt_of_lt_of_le h (Nat.pow_le_pow_right (by omega) hj)

theorem len_shiftK (N p A K : Nat) (hn : (L N).length ≤ A) (hp : p ≤ 64 * K) : (L (N * 2 ^ p)).length ≤ A + K := by
 have h1 := L_lt N A hn
 have h2 : 2 ^ p ≤ 18446744073709551616 ^ K := by
  rw [show (18446744073709551616 : Nat) = 2 ^ 64 by rfl, ← Nat.pow_mul]
  exact Nat.pow_le_pow_right (by omega) (by omega)
 have h3 : N * 2 ^ p < 18446744073709551616 ^ (A + K) := by
  rw [Nat.pow_add]
  exact Nat.lt_of_le_of_lt (Nat.mul_le_mul_left _ h2) (Nat.mul_lt_mul_of_pos_right h1 (Nat.pow_pos (by omega)))
 exact M.len_of_lt (B := 18446744073709551616) (by omega) _ _ h3

end Go.Proofs.YtjffpclidcloeaaGreatDoor
namespace Go.Proofs.YtjffpclidcloeaaGreatDoor.M
set_option linter.unusedVariables false
set_option maxRecDepth 100000
theorem kn_mul {q r u y1 y0 y C : Nat} (hy : y = y1 * C + y0) (h : q * y1 + r = u) : q * y + C * r = u * C + q * y0 := by
 rw [hy, ← h, Nat.mul_add, Nat.add_mul, Nat.mul_assoc, Nat.mul_comm C r]
 omega

structure Kn (C u d y1 y0 y q r : Nat) : Prop where
 sum : q * y1 + r = u
 ge : (u * C + d) / y ≤ q
 le : q ≤ C + 1

theorem Kn.first {C u d y1 y0 y : Nat} (hC : 0 < C) (hy : y = y1 * C + y0) (hd : d < C) (hu : u < y) (h0 : y0 < C) (hn : C ≤ 2 * y1) : Kn C u d y1 y0 y (u / y1) (u % y1) := by
 have hy1 : 0 < y1 := by omega
 have hyp : 0 < y := by omega
 refine ⟨by rw [Nat.mul_comm]; exact Nat.div_add_mod u y1, ?_, ?_⟩
 · rw [Nat.le_div_iff_mul_le hy1]
   have h1 := Nat.div_mul_le_self (u * C + d) y
   generalize (u * C + d) / y = q at *
   have h2 : q * y1 * C ≤ q * y := by rw [hy, Nat.mul_add, Nat.mul_assoc]; omega
   have h3 : q * y1 * C < (u + 1) * C := by rw [Nat.add_mul]; omega
   have := Nat.lt_of_mul_lt_mul_right h3
   omega
 · have h1 := Nat.div_mul_le_self u y1
   rcases Nat.lt_or_ge (C + 1) (u / y1) with h | h
   · have h2 : (C + 2) * y1 ≤ u / y1 * y1 := Nat.mul_le_mul_right _ h
     rw [Nat.add_mul, Nat.mul_comm C y1] at h2
     omega
   · exact h

theorem Kn.stop {C u d y1 y0 y q r : Nat} (h : Kn C u d y1 y0 y q r) (hy : y = y1 * C + y0) (hyp : 0 < y) (ht : q * y0 ≤ C * r + d) : q = (u * C + d) / y := by
 have e := kn_mul hy h.sum
 refine Nat.le_antisymm ?_ h.ge
 rw [Nat.le_div_iff_mul_le hyp]
 omega

theorem Kn.down {C u d y1 y0 y q r : Nat} (h : Kn C u d y1 y0 y q r) (hy : y = y1 * C + y0) (hyp : 0 < y) (hu : u < y) (hd : d < C) (ht : C ≤ q ∨ C * r + d < q * y0) : 1 ≤ q ∧ Kn C u d y1 y0 y (q - 1) (r + y1) := by
 have e := kn_mul hy h.sum
 have hlt : (u * C + d) / y < q := by
  rcases ht with ht | ht
  · have : (u * C + d) / y < C := by
     rw [Nat.div_lt_iff_lt_mul hyp]
     have h1 : (u + 1) * C ≤ y * C := Nat.mul_le_mul_right _ hu
     rw [Nat.add_mul] at h1
     rw [Nat.mul_comm C y]; omega
    exact Nat.lt_of_lt_of_le this ht
  · rw [Nat.div_lt_iff_lt_mul hyp]; omega
 have hq1 : 1 ≤ q := Nat.lt_of_le_of_lt (Nat.zero_le _) hlt
 refine ⟨hq1, ?_, Nat.le_sub_one_of_lt hlt, by have := h.le; omega⟩
 have := h.sum
 obtain ⟨m, rfl⟩ : ∃ m, q = m + 1 := ⟨q - 1, by omega⟩
 rw [Nat.add_sub_cancel]
 rw [Nat.add_mul, Nat.one_mul] at this
 omega

theorem Kn.wide {C u d y1 y0 y q r : Nat} (h : Kn C u d y1 y0 y q r) (hy : y = y1 * C + y0) (hyp : 0 < y) (h0 : y0 < C) (hq : q ≤ C) (hr : C ≤ r) : q = (u * C + d) / y := by
 refine h.stop hy hyp ?_
 have h1 : q * y0 ≤ C * y0 := Nat.mul_le_mul_right _ hq
 have h2 : C * y0 ≤ C * r := Nat.mul_le_mul_left _ (by omega)
 omega

theorem kn_whole {C u d1 d0 y q1 u2 q0 : Nat} (hyp : 0 < y) (h1 : q1 = (u * C + d1) / y) (h2 : u2 = (u * C + d1) % y) (h0 : q0 = (u2 * C + d0) / y) :
 q1 * C + q0 = (u * (C * C) + (d1 * C + d0)) / y ∧ (u2 * C + d0) % y = (u * (C * C) + (d1 * C + d0)) % y := by
 have e1 := Nat.div_add_mod (u * C + d1) y
 rw [← h1, ← h2] at e1
 have e : u * (C * C) + (d1 * C + d0) = u2 * C + d0 + y * (q1 * C) := by
  have h3 : (y * q1 + u2) * C = (u * C + d1) * C := by rw [e1]
  rw [Nat.add_mul, Nat.add_mul, Nat.mul_assoc, Nat.mul_assoc] at h3
  omega
 constructor
 · rw [e, Nat.add_mul_div_left _ _ hyp, ← h0]; omega
 · rw [e, Nat.add_mul_mod_self_left]

def lt2 (N De : Nat) (e : Int) : Prop := N * 2 ^ (-e).toNat < De * 2 ^ e.toNat

instance (N De : Nat) (e : Int) : Decidable (lt2 N De e) := by unfold lt2; infer_instance

theorem lt2_iff (N De : Nat) (e : Int) (K : Nat) (h : 0 ≤ (K : Int) + e) : lt2 N De e ↔ N * 2 ^ K < De * 2 ^ ((K : Int) + e).toNat := by
 unfold lt2
 rcases Int.le_total 0 e with he | he
 · rw [show (-e).toNat = 0 by omega, show ((K : Int) + e).toNat = e.toNat + K by omega, Nat.pow_add, ← Nat.mul_assoc, Nat.pow_zero, Nat.mul_one]
   exact (Nat.mul_lt_mul_right (Nat.pow_pos (by omega))).symm
 · rw [show e.toNat = 0 by omega]
   have e1 : K = (-e).toNat + ((K : Int) + e).toNat := by omega
   generalize ((K : Int) + e).toNat = J at *
   rw [e1, Nat.pow_add, ← Nat.mul_assoc, Nat.pow_zero, Nat.mul_one]
   exact (Nat.mul_lt_mul_right (Nat.pow_pos (by omega))).symm

theorem lt2_mono {N De : Nat} {e e' : Int} (hd : 0 < De) (h : lt2 N De e) (he : e ≤ e') : lt2 N De e' := by
 rw [lt2_iff N De e (e.natAbs + e'.natAbs) (by omega)] at h
 rw [lt2_iff N De e' (e.natAbs + e'.natAbs) (by omega)]
 refine Nat.lt_of_lt_of_le h (Nat.mul_le_mul_left _ (Nat.pow_le_pow_right (by omega) ?_))
 omega

def rE (N De : Nat) : Int := if lt2 N De ((blen N : Int) - blen De) then (blen N : Int) - blen De - 1 else (blen N : Int) - blen De

theorem rE_ok (N De : Nat) (hN : 0 < N) (hd : 0 < De) : ¬ lt2 N De (rE N De) ∧ lt2 N De (rE N De + 1) := by
 have a1 := lt_blen N
 have a2 := blen_le N hN
 have a3 := blen_pos N hN
 have b1 := lt_blen De
 have b2 := blen_le De hd
 have b3 := blen_pos De hd
 have hi : lt2 N De ((blen N : Int) - blen De + 1) := by
  rw [lt2_iff N De _ (blen De - 1) (by omega), show (((blen De - 1 : Nat) : Int) + ((blen N : Int) - blen De + 1)).toNat = blen N by omega]
  have h1 : N * 2 ^ (blen De - 1) < 2 ^ blen N * 2 ^ (blen De - 1) := (Nat.mul_lt_mul_right (Nat.pow_pos (by omega))).2 a1
  have h2 : 2 ^ (blen De - 1) * 2 ^ blen N ≤ De * 2 ^ blen N := Nat.mul_le_mul_right _ b2
  rw [Nat.mul_comm] at h2
  omega
 have lo : ¬ lt2 N De ((blen N : Int) - blen De - 1) := by
  rw [lt2_iff N De _ (blen De) (by omega), show ((blen De : Int) + ((blen N : Int) - blen De - 1)).toNat = blen N - 1 by omega]
  have h1 : De * 2 ^ (blen N - 1) ≤ 2 ^ blen De * 2 ^ (blen N - 1) := Nat.mul_le_mul_right _ (by omega)
  have h2 : 2 ^ blen De * 2 ^ (blen N - 1) ≤ 2 ^ blen De * N := Nat.mul_le_mul_left _ a2
  rw [Nat.mul_comm _ N] at h2
  omega
 unfold rE
 by_cases h : lt2 N De ((blen N : Int) - blen De)
 · rw [if_pos h]
   exact ⟨lo, by rw [show (blen N : Int) - blen De - 1 + 1 = (blen N : Int) - blen De by omega]; exact h⟩
 · rw [if_neg h]
   exact ⟨h, hi⟩

def Fm.rQ (F : Fm) (N De : Nat) : Int := max (rE N De - F.p + 1) F.qmin

def Fm.rN (F : Fm) (N De : Nat) : Nat := N * 2 ^ (-(F.rQ N De)).toNat

def Fm.rM (F : Fm) (N De : Nat) : Nat := De * 2 ^ (F.rQ N De).toNat

def rUp (n m : Nat) : Nat := if m < 2 * (n % m) ∨ (2 * (n % m) = m ∧ n / m % 2 = 1) then 1 else 0

def Fm.rS (F : Fm) (N De : Nat) : Nat := F.rN N De / F.rM N De + rUp (F.rN N De) (F.rM N De)

def Fm.rSig (F : Fm) (N De : Nat) : Nat := if F.rS N De = 2 ^ F.p then F.lead else F.rS N De

def Fm.rExp (F : Fm) (N De : Nat) : Int := if F.rS N De = 2 ^ F.p then F.rQ N De + 1 else F.rQ N De

def Fm.rPt (F : Fm) (n : Bool) (N De : Nat) : Pt :=
 if F.rSig N De = 0 then ⟨1, n, 0, 0⟩ else if F.rSig N De < F.lead then ⟨2, n, F.rSig N De, F.rExp N De⟩
 else if (F.emax : Int) < F.rExp N De + F.p - 1 then ⟨4, n, 0, 0⟩ else ⟨3, n, F.rSig N De, F.rExp N De⟩

def Fm.rFl (F : Fm) (N De : Nat) (tiny range : Int) : Int :=
 if F.rSig N De = 0 then tiny else if F.rSig N De < F.lead then tiny
 else if (F.emax : Int) < F.rExp N De + F.p - 1 then range else 0

theorem Fm.Ok.rS_ok {F : Fm} (h : F.Ok) (N De : Nat) (hN : 0 < N) (hd : 0 < De) :
 0 < F.rM N De ∧ F.rN N De / F.rM N De < 2 ^ F.p ∧ (F.qmin < F.rQ N De → F.lead ≤ F.rN N De / F.rM N De) := by
 have hp := h.p1
 obtain ⟨e1, e2⟩ := rE_ok N De hN hd
 have hM : 0 < F.rM N De := Nat.mul_pos hd (Nat.pow_pos (by omega))
 have hq : F.rQ N De = max (rE N De - F.p + 1) F.qmin := rfl
 refine ⟨hM, ?_, fun hlt => ?_⟩
 · rw [Nat.div_lt_iff_lt_mul hM]
   have k := lt2_mono (e' := F.rQ N De + F.p) hd e2 (by omega)
   rw [lt2_iff N De _ (-(F.rQ N De)).toNat (by omega), show (((-(F.rQ N De)).toNat : Int) + (F.rQ N De + F.p)).toNat = F.p + (F.rQ N De).toNat by omega, Nat.pow_add] at k
   show N * 2 ^ (-(F.rQ N De)).toNat < 2 ^ F.p * (De * 2 ^ (F.rQ N De).toNat)
   rw [Nat.mul_left_comm]
   exact k
 · have k : ¬ lt2 N De (F.rQ N De + F.p - 1) := by
    rw [show F.rQ N De + F.p - 1 = rE N De by omega]; exact e1
   rw [Nat.le_div_iff_mul_le hM]
   rw [lt2_iff N De _ (-(F.rQ N De)).toNat (by omega), show (((-(F.rQ N De)).toNat : Int) + (F.rQ N De + F.p - 1)).toNat = (F.p - 1) + (F.rQ N De).toNat by omega, Nat.pow_add] at k
   show 2 ^ (F.p - 1) * (De * 2 ^ (F.rQ N De).toNat) ≤ N * 2 ^ (-(F.rQ N De)).toNat
   rw [Nat.mul_left_comm]
   omega

theorem Fm.Ok.two_lead {F : Fm} (h : F.Ok) : 2 ^ F.p = 2 * F.lead := by
 have p1 := h.p1
 unfold Fm.lead
 rw [Nat.mul_comm, ← Nat.pow_succ]; congr 1; omega

theorem rUp_le (n m : Nat) : rUp n m ≤ 1 := by unfold rUp; split <;> omega

theorem Fm.Ok.rS_le {F : Fm} (h : F.Ok) (N De : Nat) (hN : 0 < N) (hd : 0 < De) : F.rS N De ≤ 2 ^ F.p := by
 have := h.rS_ok N De hN hd
 have := rUp_le (F.rN N De) (F.rM N De)
 unfold Fm.rS
 omega

theorem Fm.Ok.rSig_lt {F : Fm} (h : F.Ok) (N De : Nat) (hN : 0 < N) (hd : 0 < De) : F.rSig N De < 2 * F.lead := by
 have h1 := h.rS_le N De hN hd
 have h2 := h.two_lead
 have h3 := h.leadPos
 unfold Fm.rSig
 split <;> omega

theorem Fm.Ok.rLow {F : Fm} (h : F.Ok) (N De : Nat) (hN : 0 < N) (hd : 0 < De) (hs : F.rSig N De < F.lead) : F.rExp N De = F.qmin ∧ F.rSig N De = F.rS N De ∧ F.rS N De ≠ 2 ^ F.p := by
 have h1 := h.rS_ok N De hN hd
 have h3 := h.leadPos
 have h2 := h.two_lead
 unfold Fm.rSig at hs
 by_cases hc : F.rS N De = 2 ^ F.p
 · rw [if_pos hc] at hs; omega
 · rw [if_neg hc] at hs
   refine ⟨?_, by unfold Fm.rSig; rw [if_neg hc], hc⟩
   unfold Fm.rExp
   rw [if_neg hc]
   have hq : F.rQ N De = max (rE N De - F.p + 1) F.qmin := rfl
   have hle : F.rN N De / F.rM N De ≤ F.rS N De := by unfold Fm.rS; omega
   by_cases hlt : F.qmin < F.rQ N De
   · have := h1.2.2 hlt; omega
   · omega

theorem Fm.Ok.rPt_proper {F : Fm} (h : F.Ok) (n : Bool) (N De : Nat) (hN : 0 < N) (hd : 0 < De) : F.Proper (F.rPt n N De) := by
 have h1 := h.rSig_lt N De hN hd
 have h2 := h.rLow N De hN hd
 have h3 := h.top2
 have h4 : F.qmin ≤ F.rExp N De := by
  have hq : F.rQ N De = max (rE N De - F.p + 1) F.qmin := rfl
  unfold Fm.rExp; split <;> omega
 have h5 : F.qmin = 2 - (F.emax : Int) - (F.p : Int) := rfl
 unfold Fm.rPt
 by_cases c1 : F.rSig N De = 0
 · rw [if_pos c1]; exact .inl ⟨rfl, rfl, rfl⟩
 · rw [if_neg c1]
   by_cases c2 : F.rSig N De < F.lead
   · rw [if_pos c2]
     exact .inr (.inr (.inr (.inl ⟨rfl, by simp only; omega, c2, (h2 c2).1⟩)))
   · rw [if_neg c2]
     by_cases c3 : (F.emax : Int) < F.rExp N De + F.p - 1
     · rw [if_pos c3]; exact .inr (.inl ⟨rfl, rfl, rfl⟩)
     · rw [if_neg c3]
       exact .inr (.inr (.inr (.inr ⟨rfl, by simp only; omega, h1, by simp only; omega, by simp only; omega⟩)))

theorem rE_le (N De : Nat) (h1 : blen N ≤ 83200) (h2 : blen De ≤ 83200) : -83201 ≤ rE N De ∧ rE N De ≤ 83200 := by
 unfold rE; split <;> omega

theorem Fm.Ok.rQ_le {F : Fm} (h : F.Ok) (N De : Nat) (h1 : blen N ≤ 83200) (h2 : blen De ≤ 83200) : -17000 ≤ F.rQ N De ∧ F.rQ N De ≤ 83200 ∧ F.qmin ≤ F.rQ N De ∧ -17000 ≤ F.qmin ∧ F.qmin < 0 := by
 have a := rE_le N De h1 h2
 have b := h.top2
 have p1 := h.p1
 have p2 := h.p2
 have hq : F.rQ N De = max (rE N De - F.p + 1) F.qmin := rfl
 have hm : F.qmin = 2 - (F.emax : Int) - (F.p : Int) := rfl
 omega

theorem Fm.Ok.rN_le {F : Fm} (h : F.Ok) (N De : Nat) (hN : 0 < N) (hd : 0 < De) (h1 : blen N ≤ 83200) (h2 : blen De ≤ 83200) : (F.rN N De = N ∨ F.rN N De < De * 2 ^ F.p) ∧ (F.rM N De = De ∨ F.rM N De ≤ N) := by
 obtain ⟨q1, q2, q3, q4, q5⟩ := h.rQ_le N De h1 h2
 obtain ⟨e1, e2⟩ := rE_ok N De hN hd
 have p1 := h.p1
 have hq : F.rQ N De = max (rE N De - F.p + 1) F.qmin := rfl
 have eN : F.rN N De = N * 2 ^ (-(F.rQ N De)).toNat := rfl
 have eM : F.rM N De = De * 2 ^ (F.rQ N De).toNat := rfl
 rcases (by omega : 0 ≤ F.rQ N De ∨ F.rQ N De < 0) with hc | hc
 · refine ⟨.inl ?_, .inr ?_⟩
   · rw [eN, show (-(F.rQ N De)).toNat = 0 by omega, Nat.pow_zero, Nat.mul_one]
   · have hE : F.rQ N De = rE N De - F.p + 1 := by omega
     have hz : ¬ lt2 N De (F.rQ N De) := fun hh => e1 (lt2_mono hd hh (by omega))
     unfold lt2 at hz
     rw [show (-(F.rQ N De)).toNat = 0 by omega, Nat.pow_zero, Nat.mul_one] at hz
     rw [eM]; omega
 · refine ⟨.inr ?_, .inl ?_⟩
   · have k := lt2_mono (e' := F.rQ N De + F.p) hd e2 (by omega)
     rw [lt2_iff N De _ (-(F.rQ N De)).toNat (by omega), show (((-(F.rQ N De)).toNat : Int) + (F.rQ N De + F.p)).toNat = F.p by omega] at k
     rw [eN]; exact k
   · rw [eM, show (F.rQ N De).toNat = 0 by omega, Nat.pow_zero, Nat.mul_one]

theorem Fm.Ok.rCarry {F : Fm} (h : F.Ok) (N De : Nat) (hN : 0 < N) (hd : 0 < De) : F.rSig N De = (if (F.p : Int) < (blen (F.rS N De) : Int) then F.rS N De / 2 else F.rS N De) ∧ F.rExp N De = (if (F.p : Int) < (blen (F.rS N De) : Int) then F.rQ N De + 1 else F.rQ N De) := by
 have h1 := h.rS_le N De hN hd
 have h2 := h.two_lead
 have h3 := h.leadPos
 have key : (F.p : Int) < (blen (F.rS N De) : Int) ↔ F.rS N De = 2 ^ F.p := by
  constructor
  · intro hh
    have h5 : F.rS N De ≠ 0 := by intro e; rw [e, blen_zero] at hh; omega
    have h6 := blen_le (F.rS N De) (by omega)
    have h7 : 2 ^ F.p ≤ 2 ^ (blen (F.rS N De) - 1) := Nat.pow_le_pow_right (by omega) (by omega)
    omega
  · intro hh
    have h6 := lt_blen (F.rS N De)
    rcases Nat.lt_or_ge F.p (blen (F.rS N De)) with h7 | h7
    · omega
    · have : 2 ^ blen (F.rS N De) ≤ 2 ^ F.p := Nat.pow_le_pow_right (by omega) h7
      omega
 unfold Fm.rSig Fm.rExp
 by_cases hc : F.rS N De = 2 ^ F.p
 · rw [if_pos hc, if_pos hc, if_pos (key.2 hc), if_pos (key.2 hc)]
   refine ⟨?_, rfl⟩
   rw [hc, h2]; omega
 · rw [if_neg hc, if_neg hc, if_neg (fun hh => hc (key.1 hh)), if_neg (fun hh => hc (key.1 hh))]
   exact ⟨rfl, rfl⟩

theorem rUp_cmp (n m : Nat) : n / m + rUp n m = if 0 < cmpI (((n % m * 2 : Nat)) : Int) (m : Int) ∨ (cmpI (((n % m * 2 : Nat)) : Int) (m : Int) = 0 ∧ n / m % 2 = 1) then n / m + 1 else n / m := by
 unfold rUp
 have e : (m < 2 * (n % m) ∨ (2 * (n % m) = m ∧ n / m % 2 = 1)) ↔ (0 < cmpI (((n % m * 2 : Nat)) : Int) (m : Int) ∨ (cmpI (((n % m * 2 : Nat)) : Int) (m : Int) = 0 ∧ n / m % 2 = 1)) := by
  have h1 : 0 < cmpI (((n % m * 2 : Nat)) : Int) (m : Int) ↔ m < 2 * (n % m) := by
   unfold cmpI; split
   · omega
   · split <;> omega
  have h2 : cmpI (((n % m * 2 : Nat)) : Int) (m : Int) = 0 ↔ 2 * (n % m) = m := by
   unfold cmpI; split
   · omega
   · split <;> omega
  rw [h1, h2]
 by_cases hh : m < 2 * (n % m) ∨ (2 * (n % m) = m ∧ n / m % 2 = 1)
 · rw [if_pos hh, if_pos (e.1 hh)]
 · rw [if_neg hh, if_neg (fun k => hh (e.2 k))]; omega

end Go.Proofs.YtjffpclidcloeaaGreatDoor.M
