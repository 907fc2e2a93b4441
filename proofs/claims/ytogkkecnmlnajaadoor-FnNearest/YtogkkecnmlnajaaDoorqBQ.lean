import Derived.Test.YtogkkecnmlnajaaDoorqBC
namespace Go.Proofs.YtogkkecnmlnajaaDoor.M
set_option linter.unusedVariables false
set_option maxRecDepth 100000
def lt2 (N De : Nat) (e : Int) : Prop := N * 2 ^ (-e).toNat < De * 2 ^ e.toNat

instance (N De : Nat) (e : Int) : Decidable (lt2 N De e) := by unfold lt2; infer_instance

theorem lt2_iff (N De : Nat) (e : Int) (K : Nat) (h : 0 ≤ (K : Int) + e) : lt2 N De e ↔ N * 2 ^ K < De * 2 ^ ((K : Int) + e).toNat := by
 unfold lt2
 rcases Int.le_total 0 e with he | he
 · rw [show (-e).toNat = 0 by omega, show ((K : Int) + e).toNat = e.toNat + K by omega, Nat.pow_add, ← Nat.mul_assoc, Nat.pow_zero, Nat.mul_one]
   exact (Nat.mul_lt_mul_right (Nat.pow_pos (by omega))).symm
 · rw [show e.toNat = 0 by omega]
   have e1 : K = (-e).toNat + ((K : Int) + e).toNat := by omega
   generalize ((K : Int) + e).toNat = J at *
   rw [e1, Nat.pow_add, ← Nat.mul_assoc, Nat.pow_zero, Nat.mul_one]
   exact (Nat.mul_lt_mul_right (Nat.pow_pos (by omega))).symm

theorem lt2_mono {N De : Nat} {e e' : Int} (hd : 0 < De) (h : lt2 N De e) (he : e ≤ e') : lt2 N De e' := by
 rw [lt2_iff N De e (e.natAbs + e'.natAbs) (by omega)] at h
 rw [lt2_iff N De e' (e.natAbs + e'.natAbs) (by omega)]
 refine Nat.lt_of_lt_of_le h (Nat.mul_le_mul_left _ (Nat.pow_le_pow_right (by omega) ?_))
 omega

def rE (N De : Nat) : Int := if lt2 N De ((blen N : Int) - blen De) then (blen N : Int) - blen De - 1 else (blen N : Int) - blen De

theorem rE_ok (N De : Nat) (hN : 0 < N) (hd : 0 < De) : ¬ lt2 N De (rE N De) ∧ lt2 N De (rE N De + 1) := by
 have a1 := lt_blen N
 have a2 := blen_le N hN
 have a3 := blen_pos N hN
 have b1 := lt_blen De
 have b2 := blen_le De hd
 have b3 := blen_pos De hd
 have hi : lt2 N De ((blen N : Int) - blen De + 1) := by
  rw [lt2_iff N De _ (blen De - 1) (by omega), show (((blen De - 1 : Nat) : Int) + ((blen N : Int) - blen De + 1)).toNat = blen N by omega]
  have h1 : N * 2 ^ (blen De - 1) < 2 ^ blen N * 2 ^ (blen De - 1) := (Nat.mul_lt_mul_right (Nat.pow_pos (by omega))).2 a1
  have h2 : 2 ^ (blen De - 1) * 2 ^ blen N ≤ De * 2 ^ blen N := Nat.mul_le_mul_right _ b2
  rw [Nat.mul_comm] at h2
  omega
 have lo : ¬ lt2 N De ((blen N : Int) - blen De - 1) := by
  rw [lt2_iff N De _ (blen De) (by omega), show ((blen De : Int) + ((blen N : Int) - blen De - 1)).toNat = blen N - 1 by omega]
  have h1 : De * 2 ^ (blen N - 1) ≤ 2 ^ blen De * 2 ^ (blen N - 1) := Nat.mul_le_mul_right _ (by omega)
  have h2 : 2 ^ blen De * 2 ^ (blen N - 1) ≤ 2 ^ blen De * N := Nat.mul_le_mul_left _ a2
  rw [Nat.mul_comm _ N] at h2
  omega
 unfold rE
 by_cases h : lt2 N De ((blen N : Int) - blen De)
 · rw [if_pos h]
   exact ⟨lo, by rw [show (blen N : Int) - blen De - 1 + 1 = (blen N : Int) - blen De by omega]; exact h⟩
 · rw [if_neg h]
   exact ⟨h, hi⟩

def Fm.rQ (F : Fm) (N De : Nat) : Int := max (rE N De - F.p + 1) F.qmin

def Fm.rN (F : Fm) (N De : Nat) : Nat := N * 2 ^ (-(F.rQ N De)).toNat

def Fm.rM (F : Fm) (N De : Nat) : Nat := De * 2 ^ (F.rQ N De).toNat

def rUp (n m : Nat) : Nat := if m < 2 * (n % m) ∨ (2 * (n % m) = m ∧ n / m % 2 = 1) then 1 else 0

def Fm.rS (F : Fm) (N De : Nat) : Nat := F.rN N De / F.rM N De + rUp (F.rN N De) (F.rM N De)

def Fm.rSig (F : Fm) (N De : Nat) : Nat := if F.rS N De = 2 ^ F.p then F.lead else F.rS N De

def Fm.rExp (F : Fm) (N De : Nat) : Int := if F.rS N De = 2 ^ F.p then F.rQ N De + 1 else F.rQ N De

def Fm.rPt (F : Fm) (n : Bool) (N De : Nat) : Pt :=
 if F.rSig N De = 0 then ⟨1, n, 0, 0⟩ else if F.rSig N De < F.lead then ⟨2, n, F.rSig N De, F.rExp N De⟩
 else if (F.emax : Int) < F.rExp N De + F.p - 1 then ⟨4, n, 0, 0⟩ else ⟨3, n, F.rSig N De, F.rExp N De⟩

def Fm.rFl (F : Fm) (N De : Nat) (tiny range : Int) : Int :=
 if F.rSig N De = 0 then tiny else if F.rSig N De < F.lead then tiny
 else if (F.emax : Int) < F.rExp N De + F.p - 1 then range else 0

theorem Fm.Ok.rS_ok {F : Fm} (h : F.Ok) (N De : Nat) (hN : 0 < N) (hd : 0 < De) :
 0 < F.rM N De ∧ F.rN N De / F.rM N De < 2 ^ F.p ∧ (F.qmin < F.rQ N De → F.lead ≤ F.rN N De / F.rM N De) := by
 have hp := h.p1
 obtain ⟨e1, e2⟩ := rE_ok N De hN hd
 have hM : 0 < F.rM N De := Nat.mul_pos hd (Nat.pow_pos (by omega))
 have hq : F.rQ N De = max (rE N De - F.p + 1) F.qmin := rfl
 refine ⟨hM, ?_, fun hlt => ?_⟩
 · rw [Nat.div_lt_iff_lt_mul hM]
   have k := lt2_mono (e' := F.rQ N De + F.p) hd e2 (by omega)
   rw [lt2_iff N De _ (-(F.rQ N De)).toNat (by omega), show (((-(F.rQ N De)).toNat : Int) + (F.rQ N De + F.p)).toNat = F.p + (F.rQ N De).toNat by omega, Nat.pow_add] at k
   show N * 2 ^ (-(F.rQ N De)).toNat < 2 ^ F.p * (De * 2 ^ (F.rQ N De).toNat)
   rw [Nat.mul_left_comm]
   exact k
 · have k : ¬ lt2 N De (F.rQ N De + F.p - 1) := by
    rw [show F.rQ N De + F.p - 1 = rE N De by omega]; exact e1
   rw [Nat.le_div_iff_mul_le hM]
   rw [lt2_iff N De _ (-(F.rQ N De)).toNat (by omega), show (((-(F.rQ N De)).toNat : Int) + (F.rQ N De + F.p - 1)).toNat = (F.p - 1) + (F.rQ N De).toNat by omega, Nat.pow_add] at k
   show 2 ^ (F.p - 1) * (De * 2 ^ (F.rQ N De).toNat) ≤ N * 2 ^ (-(F.rQ N De)).toNat
   rw [Nat.mul_left_comm]
   omega

theorem Fm.Ok.two_lead {F : Fm} (h : F.Ok) : 2 ^ F.p = 2 * F.lead := by
 have p1 := h.p1
 unfold Fm.lead
 rw [Nat.mul_comm, ← Nat.pow_succ]; congr 1; omega

theorem rUp_le (n m : Nat) : rUp n m ≤ 1 := by unfold rUp; split <;> omega

theorem Fm.Ok.rS_le {F : Fm} (h : F.Ok) (N De : Nat) (hN : 0 < N) (hd : 0 < De) : F.rS N De ≤ 2 ^ F.p := by
 have := h.rS_ok N De hN hd
 have := rUp_le (F.rN N De) (F.rM N De)
 unfold Fm.rS
 omega

theorem Fm.Ok.rSig_lt {F : Fm} (h : F.Ok) (N De : Nat) (hN : 0 < N) (hd : 0 < De) : F.rSig N De < 2 * F.lead := by
 have h1 := h.rS_le N De hN hd
 have h2 := h.two_lead
 have h3 := h.leadPos
 unfold Fm.rSig
 split <;> omega

theorem Fm.Ok.rLow {F : Fm} (h : F.Ok) (N De : Nat) (hN : 0 < N) (hd : 0 < De) (hs : F.rSig N De < F.lead) : F.rExp N De = F.qmin ∧ F.rSig N De = F.rS N De ∧ F.rS N De ≠ 2 ^ F.p := by
 have h1 := h.rS_ok N De hN hd
 have h3 := h.leadPos
 have h2 := h.two_lead
 unfold Fm.rSig at hs
 by_cases hc : F.rS N De = 2 ^ F.p
 · rw [if_pos hc] at hs; omega
 · rw [if_neg hc] at hs
   refine ⟨?_, by unfold Fm.rSig; rw [if_neg hc], hc⟩
   unfold Fm.rExp
   rw [if_neg hc]
   have hq : F.rQ N De = max (rE N De - F.p + 1) F.qmin := rfl
   have hle : F.rN N De / F.rM N De ≤ F.rS N De := by unfold Fm.rS; omega
   by_cases hlt : F.qmin < F.rQ N De
   · have := h1.2.2 hlt; omega
   · omega

theorem Fm.Ok.rPt_proper {F : Fm} (h : F.Ok) (n : Bool) (N De : Nat) (hN : 0 < N) (hd : 0 < De) : F.Proper (F.rPt n N De) := by
 have h1 := h.rSig_lt N De hN hd
 have h2 := h.rLow N De hN hd
 have h3 := h.top2
 have h4 : F.qmin ≤ F.rExp N De := by
  have hq : F.rQ N De = max (rE N De - F.p + 1) F.qmin := rfl
  unfold Fm.rExp; split <;> omega
 have h5 : F.qmin = 2 - (F.emax : Int) - (F.p : Int) := rfl
 unfold Fm.rPt
 by_cases c1 : F.rSig N De = 0
 · rw [if_pos c1]; exact .inl ⟨rfl, rfl, rfl⟩
 · rw [if_neg c1]
   by_cases c2 : F.rSig N De < F.lead
   · rw [if_pos c2]
     exact .inr (.inr (.inr (.inl ⟨rfl, by simp only; omega, c2, (h2 c2).1⟩)))
   · rw [if_neg c2]
     by_cases c3 : (F.emax : Int) < F.rExp N De + F.p - 1
     · rw [if_pos c3]; exact .inr (.inl ⟨rfl, rfl, rfl⟩)
     · rw [if_neg c3]
       exact .inr (.inr (.inr (.inr ⟨rfl, by simp only; omega, h1, by simp only; omega, by simp only; omega⟩)))

def uN (N : Nat) (q : Int) : Nat := N * 2 ^ (-q).toNat

def uM (De : Nat) (q : Int) : Nat := De * 2 ^ q.toNat

theorem uM_pos {De : Nat} (h : 0 < De) (q : Int) : 0 < uM De q := Nat.mul_pos h (Nat.pow_pos (by omega))

theorem unit_eq (N De : Nat) (q r : Int) (J : Nat) (h : r = q + J) : uN N q * uM De r = 2 ^ J * (uN N r * uM De q) := by
  unfold uN uM
  have e : 2 ^ (-q).toNat * 2 ^ r.toNat = 2 ^ J * (2 ^ (-r).toNat * 2 ^ q.toNat) := by
    rw [← Nat.pow_add, ← Nat.pow_add, ← Nat.pow_add]
    congr 1; omega
  calc N * 2 ^ (-q).toNat * (De * 2 ^ r.toNat) = (N * De) * (2 ^ (-q).toNat * 2 ^ r.toNat) := by
        simp only [Nat.mul_assoc, Nat.mul_left_comm]
    _ = _ := by rw [e]; simp only [Nat.mul_assoc, Nat.mul_left_comm, Nat.mul_comm]

theorem unit_lt (N De : Nat) (hd : 0 < De) (q r : Int) (J : Nat) (h : r = q + J) (k : Nat) : uN N q < k * uM De q ↔ 2 ^ J * uN N r < k * uM De r := by
 have e := unit_eq N De q r J h
 have p1 := uM_pos hd q
 have p2 := uM_pos hd r
 have A : uN N q * uM De r < k * uM De q * uM De r ↔ uN N q < k * uM De q := Nat.mul_lt_mul_right p2
 have B : 2 ^ J * uN N r * uM De q < k * uM De r * uM De q ↔ 2 ^ J * uN N r < k * uM De r := Nat.mul_lt_mul_right p1
 rw [← A, ← B, e, Nat.mul_assoc (2 ^ J), Nat.mul_right_comm k]

theorem unit_le (N De : Nat) (hd : 0 < De) (q r : Int) (J : Nat) (h : r = q + J) (k : Nat) : k * uM De q ≤ uN N q ↔ k * uM De r ≤ 2 ^ J * uN N r := by
 have := unit_lt N De hd q r J h k
 omega

theorem unit_gt (N De : Nat) (hd : 0 < De) (q r : Int) (J : Nat) (h : r = q + J) (k : Nat) : k * uM De q < uN N q ↔ k * uM De r < 2 ^ J * uN N r := by
 have e := unit_eq N De q r J h
 have p1 := uM_pos hd q
 have p2 := uM_pos hd r
 have A : k * uM De q * uM De r < uN N q * uM De r ↔ k * uM De q < uN N q := Nat.mul_lt_mul_right p2
 have B : k * uM De r * uM De q < 2 ^ J * uN N r * uM De q ↔ k * uM De r < 2 ^ J * uN N r := Nat.mul_lt_mul_right p1
 rw [← A, ← B, e, Nat.mul_assoc (2 ^ J), Nat.mul_right_comm k]

theorem unit_is (N De : Nat) (hd : 0 < De) (q r : Int) (J : Nat) (h : r = q + J) (k : Nat) : k * uM De q = uN N q ↔ k * uM De r = 2 ^ J * uN N r := by
 have := unit_lt N De hd q r J h k
 have := unit_gt N De hd q r J h k
 omega

theorem Fm.Ok.rQ_is {F : Fm} (h : F.Ok) (N De : Nat) (hN : 0 < N) (hd : 0 < De) (q : Int) (hq : F.qmin ≤ q) (h1 : uN N q < 2 ^ F.p * uM De q) (h2 : q = F.qmin ∨ F.lead * uM De q ≤ uN N q) : F.rQ N De = q := by
 have two := h.two_lead
 obtain ⟨hM, k1, k2⟩ := h.rS_ok N De hN hd
 have hmin : F.qmin ≤ F.rQ N De := by unfold Fm.rQ; omega
 have k1' : uN N (F.rQ N De) < 2 ^ F.p * uM De (F.rQ N De) := (Nat.div_lt_iff_lt_mul hM).1 k1
 have k2' : F.qmin < F.rQ N De → F.lead * uM De (F.rQ N De) ≤ uN N (F.rQ N De) := fun hl => (Nat.le_div_iff_mul_le hM).1 (k2 hl)
 rcases Int.lt_trichotomy (F.rQ N De) q with c | c | c
 · exfalso
   have h3 : F.lead * uM De q ≤ uN N q := h2.resolve_left (by omega)
   obtain ⟨J, hJ⟩ : ∃ J : Nat, q = F.rQ N De + ((J + 1 : Nat) : Int) := ⟨(q - F.rQ N De - 1).toNat, by omega⟩
   rw [unit_lt N De hd _ q (J + 1) hJ] at k1'
   have : 2 ^ (J + 1) * (F.lead * uM De q) ≤ 2 ^ (J + 1) * uN N q := Nat.mul_le_mul_left _ h3
   have e : 2 ^ (J + 1) * (F.lead * uM De q) = 2 ^ J * (2 ^ F.p * uM De q) := by rw [two, Nat.pow_succ]; simp only [Nat.mul_assoc, Nat.mul_left_comm, Nat.mul_comm]
   have : 1 * (2 ^ F.p * uM De q) ≤ 2 ^ J * (2 ^ F.p * uM De q) := Nat.mul_le_mul_right _ (Nat.pow_pos (by omega))
   omega
 · exact c
 · exfalso
   have h3 := k2' (by omega)
   obtain ⟨J, hJ⟩ : ∃ J : Nat, F.rQ N De = q + ((J + 1 : Nat) : Int) := ⟨(F.rQ N De - q - 1).toNat, by omega⟩
   rw [unit_lt N De hd q _ (J + 1) hJ] at h1
   generalize uM De (F.rQ N De) = m at *
   generalize uN N (F.rQ N De) = n at *
   have : 2 ^ (J + 1) * (F.lead * m) ≤ 2 ^ (J + 1) * n := Nat.mul_le_mul_left _ h3
   have e : 2 ^ (J + 1) * (F.lead * m) = 2 ^ J * (2 ^ F.p * m) := by rw [two, Nat.pow_succ]; simp only [Nat.mul_assoc, Nat.mul_left_comm, Nat.mul_comm]
   have : 1 * (2 ^ F.p * m) ≤ 2 ^ J * (2 ^ F.p * m) := Nat.mul_le_mul_right _ (Nat.pow_pos (by omega))
   omega

theorem near_of (n m s : Nat) (hm : 0 < m) (hs : 0 < s) (h1 : (4 * s - 2) * m < 4 * n ∨ ((4 * s - 2) * m = 4 * n ∧ s % 2 = 0)) (h2 : 4 * n < (4 * s + 2) * m ∨ (4 * n = (4 * s + 2) * m ∧ s % 2 = 0)) : n / m + rUp n m = s := by
 obtain ⟨k, rfl⟩ : ∃ k, s = k + 1 := ⟨s - 1, by omega⟩
 have e1 : (4 * (k + 1) - 2) * m = 4 * (k * m) + 2 * m := by rw [show 4 * (k + 1) - 2 = 4 * k + 2 by omega, Nat.add_mul, Nat.mul_assoc]
 have e2 : (4 * (k + 1) + 2) * m = 4 * (k * m) + 6 * m := by rw [show 4 * (k + 1) + 2 = 4 * k + 6 by omega, Nat.add_mul, Nat.mul_assoc]
 rw [e1] at h1
 rw [e2] at h2
 have e3 : (k + 1) * m = k * m + m := by rw [Nat.add_mul, Nat.one_mul]
 by_cases c : (k + 1) * m ≤ n
 · have d : n / m = k + 1 := (Nat.div_eq_iff hm).2 ⟨c, by omega⟩
   have r := Nat.div_add_mod n m
   rw [d, Nat.mul_comm, e3] at r
   unfold rUp
   rw [d, if_neg]
   omega
 · have d : n / m = k := (Nat.div_eq_iff hm).2 ⟨by omega, by omega⟩
   have r := Nat.div_add_mod n m
   rw [d, Nat.mul_comm] at r
   unfold rUp
   rw [d, if_pos]
   omega

theorem near_to (n m s : Nat) (hm : 0 < m) (hs : 0 < s) (h : n / m + rUp n m = s) : ((4 * s - 2) * m < 4 * n ∨ ((4 * s - 2) * m = 4 * n ∧ s % 2 = 0)) ∧ (4 * n < (4 * s + 2) * m ∨ (4 * n = (4 * s + 2) * m ∧ s % 2 = 0)) ∧ (n / m = s ∨ n / m = s - 1) := by
 obtain ⟨k, rfl⟩ : ∃ k, s = k + 1 := ⟨s - 1, by omega⟩
 have e1 : (4 * (k + 1) - 2) * m = 4 * (k * m) + 2 * m := by rw [show 4 * (k + 1) - 2 = 4 * k + 2 by omega, Nat.add_mul, Nat.mul_assoc]
 have e2 : (4 * (k + 1) + 2) * m = 4 * (k * m) + 6 * m := by rw [show 4 * (k + 1) + 2 = 4 * k + 6 by omega, Nat.add_mul, Nat.mul_assoc]
 rw [e1, e2]
 have e3 : (k + 1) * m = k * m + m := by rw [Nat.add_mul, Nat.one_mul]
 have r := Nat.div_add_mod n m
 have rl := Nat.mod_lt n hm
 unfold rUp at h
 split at h
 next c =>
  have d : n / m = k := by omega
  rw [d] at c
  rw [d, Nat.mul_comm] at r
  omega
 next c =>
  have d : n / m = k + 1 := by omega
  rw [d] at c
  rw [d, Nat.mul_comm, e3] at r
  omega

def Fm.low4 (F : Fm) (t : Pt) : Nat := if t.s = F.lead ∧ F.qmin < t.q then 4 * t.s - 1 else 4 * t.s - 2

def Fm.within (F : Fm) (t : Pt) (n m : Nat) : Prop :=
 (F.low4 t * m < n ∨ (F.low4 t * m = n ∧ t.s % 2 = 0)) ∧ (n < (4 * t.s + 2) * m ∨ (n = (4 * t.s + 2) * m ∧ t.s % 2 = 0))

theorem Fm.within_unit (F : Fm) (t : Pt) (N De : Nat) (hd : 0 < De) : F.within t (uN N (t.q - 2)) (uM De (t.q - 2)) ↔ F.within t (4 * uN N t.q) (uM De t.q) := by
 have e : t.q = t.q - 2 + ((2 : Nat) : Int) := by omega
 have a := unit_gt N De hd (t.q - 2) t.q 2 e
 have b := unit_is N De hd (t.q - 2) t.q 2 e
 have c := unit_lt N De hd (t.q - 2) t.q 2 e
 unfold Fm.within
 rw [show (2 : Nat) ^ 2 = 4 by rfl] at a b c
 rw [a, b, c, eq_comm (a := uN N (t.q - 2)), b, eq_comm (a := 4 * uN N t.q) (b := (4 * t.s + 2) * uM De t.q)]

theorem Fm.Ok.round_iff {F : Fm} (h : F.Ok) {t : Pt} (hp : F.Proper t) (hc : t.c = 2 ∨ t.c = 3) (hn : t.n = false) (N De : Nat) (hN : 0 < N) (hd : 0 < De) :
 F.rPt false N De = t ↔ F.within t (uN N (t.q - 2)) (uM De (t.q - 2)) := by
 rw [F.within_unit t N De hd]
 have two := h.two_lead
 have lp := h.leadPos
 have half := h.half
 have tp := h.top2
 have hqm : F.qmin = 2 - (F.emax : Int) - (F.p : Int) := rfl
 have hs : 0 < t.s ∧ t.s < 2 * F.lead ∧ F.qmin ≤ t.q ∧ t.q + F.p - 1 ≤ F.emax ∧ (t.c = 2 ↔ t.s < F.lead) ∧ (t.s < F.lead → t.q = F.qmin) := by
  have := hp
  unfold Fm.Proper at this
  omega
 obtain ⟨s1, s2, q1, q2, s4, s5⟩ := hs
 obtain ⟨hM, k1, k2⟩ := h.rS_ok N De hN hd
 have hmin : F.qmin ≤ F.rQ N De := by unfold Fm.rQ; omega
 have mp := uM_pos hd t.q
 constructor
 · intro e
   have e1 : F.rSig N De = t.s ∧ F.rExp N De = t.q := by
    unfold Fm.rPt at e
    split at e
    · subst e; exact absurd hc (by simp)
    · split at e
      · subst e; exact ⟨rfl, rfl⟩
      · split at e
        · subst e; exact absurd hc (by simp)
        · subst e; exact ⟨rfl, rfl⟩
   unfold Fm.rSig Fm.rExp at e1
   by_cases cy : F.rS N De = 2 ^ F.p
   · rw [if_pos cy, if_pos cy] at e1
     obtain ⟨e1, e2⟩ := e1
     have lo : F.low4 t = 4 * t.s - 1 := by unfold Fm.low4; rw [if_pos ⟨e1.symm, by omega⟩]
     have ev : t.s % 2 = 0 := by omega
     have hu := near_to (F.rN N De) (F.rM N De) (2 ^ F.p) hM (by omega) cy
     have hr : F.rN N De / F.rM N De = 2 ^ F.p - 1 := by omega
     have g1 : (2 * 2 ^ F.p * 2 - 2) * F.rM N De ≤ 4 * F.rN N De := by
      rw [show 2 * 2 ^ F.p * 2 - 2 = 4 * 2 ^ F.p - 2 by omega]; omega
     have g2 : F.rN N De < 2 ^ F.p * F.rM N De := (Nat.div_lt_iff_lt_mul hM).1 k1
     have E : t.q = F.rQ N De + ((1 : Nat) : Int) := by omega
     have u1 := unit_eq N De (F.rQ N De) t.q 1 E
     have g3 : uN N t.q * 2 < 2 ^ F.p * uM De t.q := by
      have := (unit_lt N De hd (F.rQ N De) t.q 1 E (2 ^ F.p)).1 g2
      rw [Nat.pow_one] at this; omega
     have g4 : (2 * 2 ^ F.p - 1) * uM De t.q ≤ 2 * (uN N t.q * 2) := by
      have w1 : (2 * 2 ^ F.p - 1) * F.rM N De ≤ 2 * F.rN N De := by
       rw [show 2 * 2 ^ F.p * 2 - 2 = 2 * (2 * 2 ^ F.p - 1) by omega, Nat.mul_assoc] at g1; omega
      have w2 : (2 * 2 ^ F.p - 1) * F.rM N De * uM De t.q ≤ 2 * F.rN N De * uM De t.q := Nat.mul_le_mul_right _ w1
      have w3 : 2 * F.rN N De * uM De t.q = 2 * (uN N t.q * 2) * F.rM N De := by
       rw [Nat.mul_assoc, show F.rN N De * uM De t.q = uN N (F.rQ N De) * uM De t.q from rfl, u1]
       show 2 * (2 ^ 1 * (uN N t.q * F.rM N De)) = _
       rw [Nat.pow_one]; simp only [Nat.mul_assoc, Nat.mul_comm]
      rw [w3, Nat.mul_right_comm] at w2
      exact Nat.le_of_mul_le_mul_right w2 hM
     unfold Fm.within
     rw [lo, ← e1]
     generalize uM De t.q = m at *
     generalize uN N t.q = n at *
     rw [two] at g3 g4
     have x1 : (2 * (2 * F.lead) - 1) * m = 4 * (F.lead * m) - m := by rw [Nat.sub_mul, Nat.one_mul, Nat.mul_assoc, Nat.mul_assoc]; omega
     have x2 : (4 * F.lead - 1) * m = 4 * (F.lead * m) - m := by rw [Nat.sub_mul, Nat.one_mul, Nat.mul_assoc]
     have x3 : (4 * F.lead + 2) * m = 4 * (F.lead * m) + 2 * m := by rw [Nat.add_mul, Nat.mul_assoc]
     have x4 : 2 * F.lead * m = 2 * (F.lead * m) := Nat.mul_assoc ..
     rw [x1] at g4
     rw [x4] at g3
     rw [x2, x3]
     omega
   · rw [if_neg cy, if_neg cy] at e1
     obtain ⟨e1, e2⟩ := e1
     have hu := near_to (F.rN N De) (F.rM N De) t.s hM s1 e1
     have a1 : F.rN N De = uN N t.q := by rw [← e2]; rfl
     have a2 : F.rM N De = uM De t.q := by rw [← e2]; rfl
     rw [a1, a2] at hu k2
     obtain ⟨u1, u2, u3⟩ := hu
     refine ⟨?_, u2⟩
     unfold Fm.low4
     by_cases cl : t.s = F.lead ∧ F.qmin < t.q
     · rw [if_pos cl]
       have := k2 (by omega)
       have d : uN N t.q / uM De t.q = t.s := by omega
       have v := Nat.div_add_mod (uN N t.q) (uM De t.q)
       rw [d, Nat.mul_comm] at v
       have x2 : (4 * t.s - 1) * uM De t.q = 4 * (t.s * uM De t.q) - uM De t.q := by rw [Nat.sub_mul, Nat.one_mul, Nat.mul_assoc]
       rw [x2]
       have : uM De t.q ≤ t.s * uM De t.q := Nat.le_mul_of_pos_left _ s1
       omega
     · rw [if_neg cl]; exact u1
 · intro hw
   obtain ⟨w1, w2⟩ := hw
   have y0 : (4 * t.s - 2) * uM De t.q ≤ F.low4 t * uM De t.q := Nat.mul_le_mul_right _ (by unfold Fm.low4; split <;> omega)
   have w3 : (4 * t.s - 2) * uM De t.q < 4 * uN N t.q ∨ ((4 * t.s - 2) * uM De t.q = 4 * uN N t.q ∧ t.s % 2 = 0) := by omega
   have y1 : (4 * t.s + 2) * uM De t.q = 4 * (t.s * uM De t.q) + 2 * uM De t.q := by rw [Nat.add_mul, Nat.mul_assoc]
   have y2 : (4 * t.s - 2) * uM De t.q = 4 * (t.s * uM De t.q) - 2 * uM De t.q := by rw [Nat.sub_mul, Nat.mul_assoc]
   have b1 : uN N t.q < 2 ^ F.p * uM De t.q := by
    have : (t.s + 1) * uM De t.q ≤ 2 ^ F.p * uM De t.q := Nat.mul_le_mul_right _ (by omega)
    rw [Nat.add_mul, Nat.one_mul] at this
    rw [y1] at w2
    omega
   by_cases b2 : t.q = F.qmin ∨ F.lead * uM De t.q ≤ uN N t.q
   · have eQ := h.rQ_is N De hN hd t.q q1 b1 b2
     have eS : F.rS N De = t.s := by
      unfold Fm.rS Fm.rN Fm.rM
      rw [eQ]
      exact near_of _ _ _ mp s1 w3 w2
     have eG : F.rSig N De = t.s := by unfold Fm.rSig; rw [eS, if_neg (by omega)]
     have eX : F.rExp N De = t.q := by unfold Fm.rExp; rw [eS, if_neg (by omega), eQ]
     unfold Fm.rPt
     rw [eG, eX, if_neg (by omega)]
     split
     · exact Pt.ext' (by have := hp; unfold Fm.Proper at this; show (2 : Int) = t.c; omega) hn.symm rfl rfl
     · rw [if_neg (by omega)]
       exact Pt.ext' (by have := hp; unfold Fm.Proper at this; show (3 : Int) = t.c; omega) hn.symm rfl rfl
   · have b3 : F.qmin < t.q ∧ uN N t.q < F.lead * uM De t.q := by omega
     have c1 : t.s = F.lead := by
      have z1 : F.lead ≤ t.s := by omega
      rcases Nat.lt_or_ge F.lead t.s with z | z
      · exfalso
        have : (F.lead + 1) * uM De t.q ≤ t.s * uM De t.q := Nat.mul_le_mul_right _ z
        rw [Nat.add_mul, Nat.one_mul] at this
        rw [y2] at w3
        omega
      · omega
     have lo : F.low4 t = 4 * F.lead - 1 := by unfold Fm.low4; rw [if_pos ⟨c1, b3.1⟩, c1]
     rw [lo, show (4 * F.lead - 1) * uM De t.q = 4 * (F.lead * uM De t.q) - uM De t.q by rw [Nat.sub_mul, Nat.one_mul, Nat.mul_assoc]] at w1
     have E : t.q = t.q - 1 + ((1 : Nat) : Int) := by omega
     have d1 : uN N (t.q - 1) < 2 ^ F.p * uM De (t.q - 1) := by
      rw [unit_lt N De hd (t.q - 1) t.q 1 E, two, Nat.pow_one, Nat.mul_assoc]; omega
     have d2 : F.lead * uM De (t.q - 1) ≤ uN N (t.q - 1) := by
      rw [unit_le N De hd (t.q - 1) t.q 1 E, Nat.pow_one]
      have : uM De t.q ≤ F.lead * uM De t.q := Nat.le_mul_of_pos_left _ lp
      omega
     have eQ := h.rQ_is N De hN hd (t.q - 1) (by omega) d1 (.inr d2)
     have eS : F.rS N De = 2 ^ F.p := by
      unfold Fm.rS Fm.rN Fm.rM
      rw [eQ]
      refine near_of (uN N (t.q - 1)) (uM De (t.q - 1)) (2 ^ F.p) (uM_pos hd (t.q - 1)) (by omega) ?_ ?_
      · have : (4 * 2 ^ F.p - 2) * uM De (t.q - 1) ≤ 4 * uN N (t.q - 1) := by
         have k : (2 * 2 ^ F.p - 1) * uM De (t.q - 1) ≤ 2 * uN N (t.q - 1) := by
          have u := unit_eq N De (t.q - 1) t.q 1 E
          have : (2 * 2 ^ F.p - 1) * uM De (t.q - 1) * uM De t.q ≤ 2 * uN N (t.q - 1) * uM De t.q := by
           rw [Nat.mul_assoc 2, u, two, Nat.mul_right_comm]
           have x1 : (2 * (2 * F.lead) - 1) * uM De t.q = 4 * (F.lead * uM De t.q) - uM De t.q := by rw [Nat.sub_mul, Nat.one_mul, Nat.mul_assoc, Nat.mul_assoc]; omega
           rw [x1, show 2 * (2 ^ 1 * (uN N t.q * uM De (t.q - 1))) = 4 * uN N t.q * uM De (t.q - 1) by rw [Nat.pow_one, ← Nat.mul_assoc, ← Nat.mul_assoc]]
           exact Nat.mul_le_mul_right _ (by omega)
          exact Nat.le_of_mul_le_mul_right this mp
         rw [show 4 * 2 ^ F.p - 2 = 2 * (2 * 2 ^ F.p - 1) by omega, Nat.mul_assoc]; omega
        omega
      · left
        rw [Nat.add_mul, Nat.mul_assoc]
        have := uM_pos hd (t.q - 1)
        omega
     have eG : F.rSig N De = t.s := by unfold Fm.rSig; rw [if_pos eS, c1]
     have eX : F.rExp N De = t.q := by unfold Fm.rExp; rw [if_pos eS, eQ]; omega
     unfold Fm.rPt
     rw [eG, eX, if_neg (by omega), if_neg (by omega), if_neg (by omega)]
     exact Pt.ext' (by have := hp; unfold Fm.Proper at this; show (3 : Int) = t.c; omega) hn.symm rfl rfl

def Fm.vN (F : Fm) (t : Pt) : Nat := if t.c = 4 then 2 ^ (F.emax + 1) else t.s * 2 ^ t.q.toNat

def Fm.vD (F : Fm) (t : Pt) : Nat := if t.c = 4 then 1 else 2 ^ (-t.q).toNat

theorem Fm.vD_pos (F : Fm) (t : Pt) : 0 < F.vD t := by
 unfold Fm.vD
 split
 · omega
 · exact Nat.pow_pos (by omega)

def Fm.Units (F : Fm) (t : Pt) (z : Int) (U : Nat) : Prop := F.vN t * 2 ^ (-z).toNat = U * 2 ^ z.toNat * F.vD t

theorem Fm.units_fin (F : Fm) (t : Pt) (hc : t.c ≠ 4) (z : Int) (J : Nat) (hz : t.q = z + J) : F.Units t z (t.s * 2 ^ J) := by
 unfold Fm.Units Fm.vN Fm.vD
 rw [if_neg hc, if_neg hc, Nat.mul_assoc, ← Nat.pow_add, Nat.mul_assoc, Nat.mul_assoc, ← Nat.pow_add, ← Nat.pow_add]
 congr 2
 omega

theorem Fm.units_inf (F : Fm) (t : Pt) (hc : t.c = 4) (z : Int) (J : Nat) (hz : (F.emax : Int) + 1 = z + J) : F.Units t z (2 ^ J) := by
 unfold Fm.Units Fm.vN Fm.vD
 rw [if_pos hc, if_pos hc, ← Nat.pow_add, ← Nat.pow_add, Nat.mul_one]
 congr 1
 omega

theorem Fm.units_zero (F : Fm) (t : Pt) (hc : t.c ≠ 4) (hs : t.s = 0) (z : Int) : F.Units t z 0 := by
 unfold Fm.Units Fm.vN
 rw [if_neg hc, hs]; simp

def dist (x y : Nat) : Nat := if x ≤ y then y - x else x - y

theorem dist_mul (k x y : Nat) : dist (k * x) (k * y) = k * dist x y := by
 unfold dist
 rcases Nat.eq_zero_or_pos k with rfl | hk
 · simp
 by_cases h : x ≤ y
 · rw [if_pos h, if_pos (Nat.mul_le_mul_left k h), Nat.mul_sub]
 · rw [if_neg h, if_neg (fun hh => h (Nat.le_of_mul_le_mul_left hh hk)), Nat.mul_sub]

theorem dist_units {a b U u1 u2 : Nat} (h : a * u2 = U * u1 * b) (N De : Nat) : u2 * dist (a * De) (b * N) = b * dist (U * (De * u1)) (N * u2) := by
  rw [← dist_mul, ← dist_mul]
  congr 1
  · calc u2 * (a * De) = a * u2 * De := by rw [Nat.mul_comm u2, Nat.mul_right_comm]
      _ = b * (U * (De * u1)) := by rw [h, Nat.mul_comm b, Nat.mul_right_comm, Nat.mul_assoc U, Nat.mul_comm u1]
  · rw [Nat.mul_comm u2, Nat.mul_assoc]

theorem near_iff {a b c d U V u1 u2 : Nat} (h1 : a * u2 = U * u1 * b) (h2 : c * u2 = V * u1 * d) (hu : 0 < u2) (hb : 0 < b) (hd : 0 < d) (N De : Nat) :
 (dist (a * De) (b * N) * d < dist (c * De) (d * N) * b ↔ dist (U * (De * u1)) (N * u2) < dist (V * (De * u1)) (N * u2)) ∧
 (dist (a * De) (b * N) * d = dist (c * De) (d * N) * b ↔ dist (U * (De * u1)) (N * u2) = dist (V * (De * u1)) (N * u2)) := by
 have e1 := dist_units h1 N De
 have e2 := dist_units h2 N De
 have f1 : u2 * (dist (a * De) (b * N) * d) = b * d * dist (U * (De * u1)) (N * u2) := by rw [← Nat.mul_assoc, e1, Nat.mul_right_comm]
 have f2 : u2 * (dist (c * De) (d * N) * b) = b * d * dist (V * (De * u1)) (N * u2) := by rw [← Nat.mul_assoc, e2, Nat.mul_right_comm, Nat.mul_comm d b]
 have p : 0 < b * d := Nat.mul_pos hb hd
 constructor
 · rw [← Nat.mul_lt_mul_left hu, f1, f2, Nat.mul_lt_mul_left p]
 · rw [← Nat.mul_right_inj (Nat.ne_of_gt hu), f1, f2, Nat.mul_right_inj (Nat.ne_of_gt p)]

def Nearer (F : Fm) (t t' : Pt) (N De : Nat) (E : Prop) : Prop :=
 ¬ dist (F.vN t' * De) (F.vD t' * N) * F.vD t < dist (F.vN t * De) (F.vD t * N) * F.vD t' ∧ (dist (F.vN t * De) (F.vD t * N) * F.vD t' = dist (F.vN t' * De) (F.vD t' * N) * F.vD t → E)

theorem nearer_of {F : Fm} {t t' : Pt} {N De : Nat} {E : Prop} (z : Int) (U V : Nat) (h1 : F.Units t z U) (h2 : F.Units t' z V)
 (h : dist (U * uM De z) (uN N z) ≤ dist (V * uM De z) (uN N z) ∧ (dist (U * uM De z) (uN N z) = dist (V * uM De z) (uN N z) → E)) : Nearer F t t' N De E := by
 have p : 0 < 2 ^ (-z).toNat := Nat.pow_pos (by omega)
 have k := near_iff h1 h2 p (F.vD_pos t) (F.vD_pos t') N De
 have k' := near_iff h2 h1 p (F.vD_pos t') (F.vD_pos t) N De
 unfold uM uN at h
 refine ⟨fun hh => ?_, fun hh => h.2 (k.2.1 hh)⟩
 have := k'.1.1 hh
 omega

theorem Fm.Ok.near_fin {F : Fm} (h : F.Ok) {t : Pt} (hp : F.Proper t) (hc : t.c = 2 ∨ t.c = 3) (hn : t.n = false) (N De : Nat) (hN : 0 < N) (hd : 0 < De) (hr : F.rPt false N De = t) (t' : Pt)
 (ht : (t'.c = (F.grow t).c ∧ t'.s = (F.grow t).s ∧ t'.q = (F.grow t).q) ∨ (t'.c = (F.shrink t).c ∧ t'.s = (F.shrink t).s ∧ t'.q = (F.shrink t).q)) : Nearer F t t' N De (t.s % 2 = 0) := by
 have hw := (h.round_iff hp hc hn N De hN hd).1 hr
 have two := h.two_lead
 have lp := h.leadPos
 have half := h.half
 have tp := h.top2
 have hqm : F.qmin = 2 - (F.emax : Int) - (F.p : Int) := rfl
 have hs : 0 < t.s ∧ t.s < 2 * F.lead ∧ F.qmin ≤ t.q ∧ t.q + F.p - 1 ≤ F.emax ∧ (t.c = 2 ↔ t.s < F.lead) ∧ (t.s < F.lead → t.q = F.qmin) := by
  have := hp
  unfold Fm.Proper at this
  omega
 obtain ⟨s1, s2, q1, q2, s4, s5⟩ := hs
 have u0 : F.Units t (t.q - 2) (4 * t.s) := by
  have := F.units_fin t (by omega) (t.q - 2) 2 (by omega)
  rwa [show t.s * 2 ^ 2 = 4 * t.s by omega] at this
 unfold Fm.within Fm.low4 at hw
 rcases ht with ⟨c1, c2, c3⟩ | ⟨c1, c2, c3⟩
 · have u1 : F.Units t' (t.q - 2) (4 * t.s + 4) := by
    unfold Fm.grow at c1 c2 c3
    by_cases e : t.s + 1 = 2 * F.lead
    · simp only [if_pos e] at c1 c2 c3
      by_cases o : t.q + 1 + F.p - 1 > F.emax
      · rw [if_pos o] at c1
        have := F.units_inf t' c1 (t.q - 2) (F.p + 2) (by omega)
        rwa [show 2 ^ (F.p + 2) = 4 * t.s + 4 by rw [Nat.pow_add, two]; omega] at this
      · rw [if_neg o, if_neg (by omega)] at c1 c2 c3
        simp only at c1 c2 c3
        have := F.units_fin t' (by omega) (t.q - 2) 3 (by omega)
        rwa [show t'.s * 2 ^ 3 = 4 * t.s + 4 by omega] at this
    · simp only [if_neg e] at c1 c2 c3
      rw [if_neg (by omega)] at c1 c2 c3
      have a : t'.c ≠ 4 ∧ t'.s = t.s + 1 ∧ t'.q = t.q := by
       by_cases g : t.s + 1 < F.lead
       · rw [if_pos g] at c1 c2 c3; exact ⟨by rw [c1]; simp, c2, c3⟩
       · rw [if_neg g] at c1 c2 c3; exact ⟨by rw [c1]; simp, c2, c3⟩
      have := F.units_fin t' a.1 (t.q - 2) 2 (by omega)
      rwa [show t'.s * 2 ^ 2 = 4 * t.s + 4 by omega] at this
   refine nearer_of (t.q - 2) _ _ u0 u1 ?_
   have hm := uM_pos hd (t.q - 2)
   generalize uM De (t.q - 2) = m at *
   generalize uN N (t.q - 2) = n at *
   have e1 : (4 * t.s + 4) * m = 4 * (t.s * m) + 4 * m := by rw [Nat.add_mul, Nat.mul_assoc]
   have e2 : (4 * t.s + 2) * m = 4 * (t.s * m) + 2 * m := by rw [Nat.add_mul, Nat.mul_assoc]
   have e3 : 4 * t.s * m = 4 * (t.s * m) := Nat.mul_assoc _ _ _
   rw [e2] at hw
   rw [e1, e3]
   unfold dist
   split <;> split <;> omega
 · have u1 : ∃ V, F.Units t' (t.q - 2) V ∧ ((V = 4 * t.s - 4) ∨ (V = 4 * t.s - 2 ∧ t.s = F.lead ∧ F.qmin < t.q)) := by
    unfold Fm.shrink at c1 c2 c3
    by_cases e : t.s - 1 < F.lead ∧ t.q > F.qmin
    · simp only [if_pos e] at c1 c2 c3
      rw [if_neg (by omega), if_neg (by omega), if_neg (by omega)] at c1 c2 c3
      simp only at c1 c2 c3
      have := F.units_fin t' (by omega) (t.q - 2) 1 (by omega)
      refine ⟨_, this, .inr ⟨by omega, by omega, e.2⟩⟩
    · simp only [if_neg e] at c1 c2 c3
      by_cases z : t.s - 1 = 0
      · rw [if_pos z] at c1 c2 c3
        simp only at c1 c2 c3
        exact ⟨0, F.units_zero t' (by omega) c2 _, .inl (by omega)⟩
      · rw [if_neg z, if_neg (by omega)] at c1 c2 c3
        have a : t'.c ≠ 4 ∧ t'.s = t.s - 1 ∧ t'.q = t.q := by
         by_cases g : t.s - 1 < F.lead
         · rw [if_pos g] at c1 c2 c3; exact ⟨by rw [c1]; simp, c2, c3⟩
         · rw [if_neg g] at c1 c2 c3; exact ⟨by rw [c1]; simp, c2, c3⟩
        have := F.units_fin t' a.1 (t.q - 2) 2 (by omega)
        exact ⟨_, this, .inl (by omega)⟩
   obtain ⟨V, u1, hV⟩ := u1
   refine nearer_of (t.q - 2) _ _ u0 u1 ?_
   have hm := uM_pos hd (t.q - 2)
   generalize uM De (t.q - 2) = m at *
   generalize uN N (t.q - 2) = n at *
   have e3 : 4 * t.s * m = 4 * (t.s * m) := Nat.mul_assoc _ _ _
   rcases hV with rfl | ⟨rfl, hl, hq⟩
   · have e1 : (4 * t.s - 4) * m = 4 * (t.s * m) - 4 * m := by rw [Nat.sub_mul, Nat.mul_assoc]
     have e2 : (4 * t.s - 2) * m = 4 * (t.s * m) - 2 * m := by rw [Nat.sub_mul, Nat.mul_assoc]
     have e4 : (4 * t.s - 1) * m = 4 * (t.s * m) - m := by rw [Nat.sub_mul, Nat.mul_assoc, Nat.one_mul]
     have e5 : m ≤ t.s * m := Nat.le_mul_of_pos_left m s1
     have hw1 : 4 * (t.s * m) - 2 * m < n ∨ (4 * (t.s * m) - 2 * m = n ∧ t.s % 2 = 0) := by
      have := hw.1
      split at this
      · rw [e4] at this
        omega
      · rwa [e2] at this
     rw [e1, e3]
     unfold dist
     split <;> split <;> omega
   · have hw1 := hw.1
     rw [if_pos ⟨hl, hq⟩] at hw1
     have e2 : (4 * t.s - 2) * m = 4 * (t.s * m) - 2 * m := by rw [Nat.sub_mul, Nat.mul_assoc]
     have e4 : (4 * t.s - 1) * m = 4 * (t.s * m) - m := by rw [Nat.sub_mul, Nat.mul_assoc, Nat.one_mul]
     have e5 : m ≤ t.s * m := Nat.le_mul_of_pos_left m s1
     rw [e4] at hw1
     rw [e2, e3]
     unfold dist
     split <;> split <;> omega

theorem Fm.Ok.near_zero {F : Fm} (h : F.Ok) (N De : Nat) (hd : 0 < De) (hr : N = 0 ∨ 0 < N ∧ F.rSig N De = 0) (t t' : Pt) (hc : t.c ≠ 4) (hs : t.s = 0) (c1 : t'.c ≠ 4) (c2 : t'.s = 1) (c3 : t'.q = F.qmin) : Nearer F t t' N De True := by
 have u1 : F.Units t' F.qmin 1 := by
  have := F.units_fin t' c1 F.qmin 0 (by omega)
  rwa [c2] at this
 refine nearer_of F.qmin 0 1 (F.units_zero t hc hs _) u1 ⟨?_, fun _ => trivial⟩
 have two := h.two_lead
 have lp := h.leadPos
 have hn : 2 * uN N F.qmin ≤ uM De F.qmin := by
  rcases hr with rfl | ⟨hN, h0⟩
  · unfold uN; simp
  · have hS : F.rS N De = 0 := by
     unfold Fm.rSig at h0
     split at h0
     · omega
     · exact h0
    obtain ⟨k1, k2, k3⟩ := h.rS_ok N De hN hd
    have hq : F.rQ N De = F.qmin := by
     refine Classical.byContradiction fun hq => ?_
     have : F.qmin ≤ F.rQ N De := by unfold Fm.rQ; omega
     have := k3 (by omega)
     unfold Fm.rS at hS
     omega
    unfold Fm.rS Fm.rN Fm.rM at hS
    unfold Fm.rM at k1
    rw [hq] at hS k1
    obtain ⟨e1, e2⟩ := Nat.add_eq_zero_iff.1 hS
    have e3 : N * 2 ^ (-F.qmin).toNat < De * 2 ^ F.qmin.toNat := by
     rcases Nat.div_eq_zero_iff.1 e1 with hh | hh
     · omega
     · exact hh
    unfold rUp at e2
    rw [Nat.mod_eq_of_lt e3] at e2
    unfold uN uM
    split at e2
    · omega
    · omega
 rw [Nat.zero_mul, Nat.one_mul]
 unfold dist
 split <;> split <;> omega

theorem Fm.Ok.near_inf {F : Fm} (h : F.Ok) (N De : Nat) (hN : 0 < N) (hd : 0 < De) (h1 : ¬ F.rSig N De < F.lead) (h2 : (F.emax : Int) < F.rExp N De + F.p - 1) (t t' : Pt) (hc : t.c = 4) (c1 : t'.c ≠ 4) (c2 : t'.s = 2 * F.lead - 1) (c3 : t'.q = (F.emax : Int) - F.p + 1) : Nearer F t t' N De True := by
 have two := h.two_lead
 have lp := h.leadPos
 have p1 := h.p1
 have tp := h.top2
 have hqm : F.qmin = 2 - (F.emax : Int) - (F.p : Int) := rfl
 obtain ⟨z, hz⟩ : ∃ z : Int, z = (F.emax : Int) - F.p + 1 := ⟨_, rfl⟩
 have u0 : F.Units t z (2 * F.lead) := by
  have := F.units_inf t hc z F.p (by omega)
  rwa [two] at this
 have u1 : F.Units t' z (2 * F.lead - 1) := by
  have := F.units_fin t' c1 z 0 (by omega)
  rwa [c2, Nat.pow_zero, Nat.mul_one] at this
 refine nearer_of z _ _ u0 u1 ⟨?_, fun _ => trivial⟩
 have key : (4 * F.lead - 1) * uM De z ≤ 2 * uN N z := by
  obtain ⟨k1, k2, k3⟩ := h.rS_ok N De hN hd
  have up := rUp_le (F.rN N De) (F.rM N De)
  have hS : F.rS N De = F.rN N De / F.rM N De + rUp (F.rN N De) (F.rM N De) := rfl
  by_cases e : F.rS N De = 2 ^ F.p
  · have hq : F.rExp N De = F.rQ N De + 1 := by unfold Fm.rExp; rw [if_pos e]
    have near := (near_to (F.rN N De) (F.rM N De) (2 ^ F.p) k1 (by omega) (by rw [← hS]; exact e)).1
    have near2 : (4 * F.lead - 1) * F.rM N De ≤ 2 * F.rN N De := by
     rw [two] at near
     have e1 : (4 * (2 * F.lead) - 2) * F.rM N De = 2 * ((4 * F.lead - 1) * F.rM N De) := by rw [← Nat.mul_assoc 2, show 2 * (4 * F.lead - 1) = 4 * (2 * F.lead) - 2 by omega]
     omega
    obtain ⟨J, hJ⟩ := Int.eq_ofNat_of_zero_le (show 0 ≤ F.rQ N De - z by omega)
    have := (unit_le (2 * N) De hd z (F.rQ N De) J (by omega) (4 * F.lead - 1)).2 ?_
    · unfold uN at this ⊢
      rwa [Nat.mul_assoc] at this
    · unfold uN uM
      unfold Fm.rN Fm.rM at near2
      have q : 0 < 2 ^ J := Nat.pow_pos (by omega)
      rw [Nat.mul_assoc 2 N]
      exact Nat.le_trans near2 (Nat.le_mul_of_pos_left _ q)
  · have hq : F.rExp N De = F.rQ N De := by unfold Fm.rExp; rw [if_neg e]
    have l1 := k3 (by omega)
    have l2 : F.lead * F.rM N De ≤ F.rN N De := (Nat.le_div_iff_mul_le k1).1 l1
    obtain ⟨J, hJ⟩ := Int.eq_ofNat_of_zero_le (show 0 ≤ F.rQ N De - z - 1 by omega)
    have := (unit_le N De hd z (F.rQ N De) (J + 1) (by omega) (2 * F.lead)).2 ?_
    · have e1 : (4 * F.lead - 1) * uM De z = 2 * (2 * F.lead * uM De z) - uM De z := by rw [Nat.sub_mul, Nat.one_mul, ← Nat.mul_assoc, ← Nat.mul_assoc]
      omega
    · have q : 0 < 2 ^ J := Nat.pow_pos (by omega)
      have e2 : 2 ^ (J + 1) * uN N (F.rQ N De) = 2 * (2 ^ J * uN N (F.rQ N De)) := by rw [Nat.pow_succ, Nat.mul_comm (2 ^ J) 2, Nat.mul_assoc]
      have e3 : uN N (F.rQ N De) ≤ 2 ^ J * uN N (F.rQ N De) := Nat.le_mul_of_pos_left _ q
      have e4 : 2 * F.lead * uM De (F.rQ N De) = 2 * (F.lead * F.rM N De) := by rw [Nat.mul_assoc]; rfl
      have e5 : uN N (F.rQ N De) = F.rN N De := rfl
      rw [e2, e4]
      omega
 have e1 : (2 * F.lead - 1) * uM De z = 2 * (F.lead * uM De z) - uM De z := by rw [Nat.sub_mul, Nat.one_mul, Nat.mul_assoc]
 have e2 : (4 * F.lead - 1) * uM De z = 4 * (F.lead * uM De z) - uM De z := by rw [Nat.sub_mul, Nat.one_mul, Nat.mul_assoc]
 have e3 : 2 * F.lead * uM De z = 2 * (F.lead * uM De z) := Nat.mul_assoc _ _ _
 have e4 : uM De z ≤ F.lead * uM De z := Nat.le_mul_of_pos_left _ lp
 rw [e2] at key
 rw [e1, e3]
 unfold dist
 split <;> split <;> omega

theorem Fm.Ok.word_par {F : Fm} (h : F.Ok) (n : Bool) (fld sg : Nat) (hs : 0 < fld → F.lead ≤ sg) : F.word n fld sg % 2 = sg % 2 := by
 have p1 := h.p1
 have e0 : 2 ^ F.fb % 2 = 0 := by
  have : 2 ^ F.fb = 2 ^ (F.fb - 1) * 2 := by rw [← Nat.pow_succ]; congr 1; unfold Fm.fb; split <;> omega
  omega
 have e1 : F.lead % 2 = 0 := by have := h.half; omega
 have e2 : 2 ^ (F.wd - 1) % 2 = 0 := by
  have : 2 ^ (F.wd - 1) = 2 ^ (F.wd - 2) * 2 := by rw [← Nat.pow_succ]; congr 1; unfold Fm.wd Fm.fb; have := h.e1; split <;> omega
  omega
 have e3 : fld * 2 ^ F.fb % 2 = 0 := by rw [Nat.mul_mod, e0]; simp
 unfold Fm.word
 by_cases hx : F.x = false ∧ 0 < fld
 · rw [if_pos hx]
   have := hs hx.2
   cases n <;> simp <;> omega
 · rw [if_neg hx]
   cases n <;> simp <;> omega

theorem rE_le (N De : Nat) (h1 : blen N ≤ 83200) (h2 : blen De ≤ 83200) : -83201 ≤ rE N De ∧ rE N De ≤ 83200 := by
 unfold rE; split <;> omega

theorem Fm.Ok.rQ_le {F : Fm} (h : F.Ok) (N De : Nat) (h1 : blen N ≤ 83200) (h2 : blen De ≤ 83200) : -17000 ≤ F.rQ N De ∧ F.rQ N De ≤ 83200 ∧ F.qmin ≤ F.rQ N De ∧ -17000 ≤ F.qmin ∧ F.qmin < 0 := by
 have a := rE_le N De h1 h2
 have b := h.top2
 have p1 := h.p1
 have p2 := h.p2
 have hq : F.rQ N De = max (rE N De - F.p + 1) F.qmin := rfl
 have hm : F.qmin = 2 - (F.emax : Int) - (F.p : Int) := rfl
 omega

theorem Fm.Ok.rN_le {F : Fm} (h : F.Ok) (N De : Nat) (hN : 0 < N) (hd : 0 < De) (h1 : blen N ≤ 83200) (h2 : blen De ≤ 83200) : (F.rN N De = N ∨ F.rN N De < De * 2 ^ F.p) ∧ (F.rM N De = De ∨ F.rM N De ≤ N) := by
 obtain ⟨q1, q2, q3, q4, q5⟩ := h.rQ_le N De h1 h2
 obtain ⟨e1, e2⟩ := rE_ok N De hN hd
 have p1 := h.p1
 have hq : F.rQ N De = max (rE N De - F.p + 1) F.qmin := rfl
 have eN : F.rN N De = N * 2 ^ (-(F.rQ N De)).toNat := rfl
 have eM : F.rM N De = De * 2 ^ (F.rQ N De).toNat := rfl
 rcases (by omega : 0 ≤ F.rQ N De ∨ F.rQ N De < 0) with hc | hc
 · refine ⟨.inl ?_, .inr ?_⟩
   · rw [eN, show (-(F.rQ N De)).toNat = 0 by omega, Nat.pow_zero, Nat.mul_one]
   · have hE : F.rQ N De = rE N De - F.p + 1 := by omega
     have hz : ¬ lt2 N De (F.rQ N De) := fun hh => e1 (lt2_mono hd hh (by omega))
     unfold lt2 at hz
     rw [show (-(F.rQ N De)).toNat = 0 by omega, Nat.pow_zero, Nat.mul_one] at hz
     rw [eM]; omega
 · refine ⟨.inr ?_, .inl ?_⟩
   · have k := lt2_mono (e' := F.rQ N De + F.p) hd e2 (by omega)
     rw [lt2_iff N De _ (-(F.rQ N De)).toNat (by omega), show (((-(F.rQ N De)).toNat : Int) + (F.rQ N De + F.p)).toNat = F.p by omega] at k
     rw [eN]; exact k
   · rw [eM, show (F.rQ N De).toNat = 0 by omega, Nat.pow_zero, Nat.mul_one]

theorem Fm.Ok.rCarry {F : Fm} (h : F.Ok) (N De : Nat) (hN : 0 < N) (hd : 0 < De) : F.rSig N De = (if (F.p : Int) < (blen (F.rS N De) : Int) then F.rS N De / 2 else F.rS N De) ∧ F.rExp N De = (if (F.p : Int) < (blen (F.rS N De) : Int) then F.rQ N De + 1 else F.rQ N De) := by
 have h1 := h.rS_le N De hN hd
 have h2 := h.two_lead
 have h3 := h.leadPos
 have key : (F.p : Int) < (blen (F.rS N De) : Int) ↔ F.rS N De = 2 ^ F.p := by
  constructor
  · intro hh
    have h5 : F.rS N De ≠ 0 := by intro e; rw [e, blen_zero] at hh; omega
    have h6 := blen_le (F.rS N De) (by omega)
    have h7 : 2 ^ F.p ≤ 2 ^ (blen (F.rS N De) - 1) := Nat.pow_le_pow_right (by omega) (by omega)
    omega
  · intro hh
    have h6 := lt_blen (F.rS N De)
    rcases Nat.lt_or_ge F.p (blen (F.rS N De)) with h7 | h7
    · omega
    · have : 2 ^ blen (F.rS N De) ≤ 2 ^ F.p := Nat.pow_le_pow_right (by omega) h7
      omega
 unfold Fm.rSig Fm.rExp
 by_cases hc : F.rS N De = 2 ^ F.p
 · rw [if_pos hc, if_pos hc, if_pos (key.2 hc), if_pos (key.2 hc)]
   refine ⟨?_, rfl⟩
   rw [hc, h2]; omega
 · rw [if_neg hc, if_neg hc, if_neg (fun hh => hc (key.1 hh)), if_neg (fun hh => hc (key.1 hh))]
   exact ⟨rfl, rfl⟩

theorem rUp_cmp (n m : Nat) : n / m + rUp n m = if 0 < cmpI (((n % m * 2 : Nat)) : Int) (m : Int) ∨ (cmpI (((n % m * 2 : Nat)) : Int) (m : Int) = 0 ∧ n / m % 2 = 1) then n / m + 1 else n / m := by
 unfold rUp
 have e : (m < 2 * (n % m) ∨ (2 * (n % m) = m ∧ n / m % 2 = 1)) ↔ (0 < cmpI (((n % m * 2 : Nat)) : Int) (m : Int) ∨ (cmpI (((n % m * 2 : Nat)) : Int) (m : Int) = 0 ∧ n / m % 2 = 1)) := by
  have h1 : 0 < cmpI (((n % m * 2 : Nat)) : Int) (m : Int) ↔ m < 2 * (n % m) := by
   unfold cmpI; split
   · omega
   · split <;> omega
  have h2 : cmpI (((n % m * 2 : Nat)) : Int) (m : Int) = 0 ↔ 2 * (n % m) = m := by
   unfold cmpI; split
   · omega
   · split <;> omega
  rw [h1, h2]
 by_cases hh : m < 2 * (n % m) ∨ (2 * (n % m) = m ∧ n / m % 2 = 1)
 · rw [if_pos hh, if_pos (e.1 hh)]
 · rw [if_neg hh, if_neg (fun k => hh (e.2 k))]; omega

end Go.Proofs.YtogkkecnmlnajaaDoor.M
