import Derived.Test.YtdfljbpcjkbflaaGreatDoorrHAM
set_option maxHeartbeats 4000000
set_option maxRecDepth 100000
namespace Go.Proofs.YtdfljbpcjkbflaaGreatDoor.M
set_option linter.unusedVariables false
set_option maxRecDepth 100000
def uN (N : Nat) (q : Int) : Nat := N * 2 ^ (-q).toNat

def uM (De : Nat) (q : Int) : Nat := De * 2 ^ q.toNat

theorem jX {De : Nat} (h : 0 < De) (q : Int) : 0 < uM De q := Nat.mul_pos h (Nat.pow_pos (by omega))

theorem nM (N De : Nat) (q r : Int) (J : Nat) (h : r = q + J) : uN N q * uM De r = 2 ^ J * (uN N r * uM De q) := by
  unfold uN uM
  have e : 2 ^ (-q).toNat * 2 ^ r.toNat = 2 ^ J * (2 ^ (-r).toNat * 2 ^ q.toNat) := by
    rw [← Nat.pow_add, ← Nat.pow_add, ← Nat.pow_add]
    congr 1; omega
  calc N * 2 ^ (-q).toNat * (De * 2 ^ r.toNat) = (N * De) * (2 ^ (-q).toNat * 2 ^ r.toNat) := by
        simp only [Nat.mul_assoc, Nat.mul_left_comm]
    _ = _ := by rw [e]; simp only [Nat.mul_assoc, Nat.mul_left_comm, Nat.mul_comm]

theorem gX (N De : Nat) (hd : 0 < De) (q r : Int) (J : Nat) (h : r = q + J) (k : Nat) : uN N q < k * uM De q ↔ 2 ^ J * uN N r < k * uM De r := by
 have e := nM N De q r J h
 have p1 := jX hd q
 have p2 := jX hd r
 have A : uN N q * uM De r < k * uM De q * uM De r ↔ uN N q < k * uM De q := Nat.mul_lt_mul_right p2
 have B : 2 ^ J * uN N r * uM De q < k * uM De r * uM De q ↔ 2 ^ J * uN N r < k * uM De r := Nat.mul_lt_mul_right p1
 rw [← A, ← B, e, Nat.mul_assoc (2 ^ J), Nat.mul_right_comm k]

theorem FX (N De : Nat) (hd : 0 < De) (q r : Int) (J : Nat) (h : r = q + J) (k : Nat) : k * uM De q ≤ uN N q ↔ k * uM De r ≤ 2 ^ J * uN N r := by
 have := gX N De hd q r J h k
 omega

theorem xZ (N De : Nat) (hd : 0 < De) (q r : Int) (J : Nat) (h : r = q + J) (k : Nat) : k * uM De q < uN N q ↔ k * uM De r < 2 ^ J * uN N r := by
 have e := nM N De q r J h
 have p1 := jX hd q
 have p2 := jX hd r
 have A : k * uM De q * uM De r < uN N q * uM De r ↔ k * uM De q < uN N q := Nat.mul_lt_mul_right p2
 have B : k * uM De r * uM De q < 2 ^ J * uN N r * uM De q ↔ k * uM De r < 2 ^ J * uN N r := Nat.mul_lt_mul_right p1
 rw [← A, ← B, e, Nat.mul_assoc (2 ^ J), Nat.mul_right_comm k]

theorem GV (N De : Nat) (hd : 0 < De) (q r : Int) (J : Nat) (h : r = q + J) (k : Nat) : k * uM De q = uN N q ↔ k * uM De r = 2 ^ J * uN N r := by
 have := gX N De hd q r J h k
 have := xZ N De hd q r J h k
 omega

theorem Fm.Ok.rQ_is {F : Fm} (h : F.Ok) (N De : Nat) (hN : 0 < N) (hd : 0 < De) (q : Int) (hq : F.qmin ≤ q) (h1 : uN N q < 2 ^ F.p * uM De q) (h2 : q = F.qmin ∨ F.lead * uM De q ≤ uN N q) : F.rQ N De = q := by
 have two := h.two_lead
 obtain ⟨hM, k1, k2⟩ := h.rS_ok N De hN hd
 have hmin : F.qmin ≤ F.rQ N De := by unfold Fm.rQ; omega
 have k1' : uN N (F.rQ N De) < 2 ^ F.p * uM De (F.rQ N De) := (Nat.div_lt_iff_lt_mul hM).1 k1
 have k2' : F.qmin < F.rQ N De → F.lead * uM De (F.rQ N De) ≤ uN N (F.rQ N De) := fun hl => (Nat.le_div_iff_mul_le hM).1 (k2 hl)
 rcases Int.lt_trichotomy (F.rQ N De) q with c | c | c
 · exfalso
   have h3 : F.lead * uM De q ≤ uN N q := h2.resolve_left (by omega)
   obtain ⟨J, hJ⟩ : ∃ J : Nat, q = F.rQ N De + ((J + 1 : Nat) : Int) := ⟨(q - F.rQ N De - 1).toNat, by omega⟩
   rw [gX N De hd _ q (J + 1) hJ] at k1'
   have : 2 ^ (J + 1) * (F.lead * uM De q) ≤ 2 ^ (J + 1) * uN N q := Nat.mul_le_mul_left _ h3
   have e : 2 ^ (J + 1) * (F.lead * uM De q) = 2 ^ J * (2 ^ F.p * uM De q) := by rw [two, Nat.pow_succ]; simp only [Nat.mul_assoc, Nat.mul_left_comm, Nat.mul_comm]
   have : 1 * (2 ^ F.p * uM De q) ≤ 2 ^ J * (2 ^ F.p * uM De q) := Nat.mul_le_mul_right _ (Nat.pow_pos (by omega))
   omega
 · exact c
 · exfalso
   have h3 := k2' (by omega)
   obtain ⟨J, hJ⟩ : ∃ J : Nat, F.rQ N De = q + ((J + 1 : Nat) : Int) := ⟨(F.rQ N De - q - 1).toNat, by omega⟩
   rw [gX N De hd q _ (J + 1) hJ] at h1
   generalize uM De (F.rQ N De) = m at *
   generalize uN N (F.rQ N De) = n at *
   have : 2 ^ (J + 1) * (F.lead * m) ≤ 2 ^ (J + 1) * n := Nat.mul_le_mul_left _ h3
   have e : 2 ^ (J + 1) * (F.lead * m) = 2 ^ J * (2 ^ F.p * m) := by rw [two, Nat.pow_succ]; simp only [Nat.mul_assoc, Nat.mul_left_comm, Nat.mul_comm]
   have : 1 * (2 ^ F.p * m) ≤ 2 ^ J * (2 ^ F.p * m) := Nat.mul_le_mul_right _ (Nat.pow_pos (by omega))
   omega

theorem yZ (n m s : Nat) (hm : 0 < m) (hs : 0 < s) (h1 : (4 * s - 2) * m < 4 * n ∨ ((4 * s - 2) * m = 4 * n ∧ s % 2 = 0)) (h2 : 4 * n < (4 * s + 2) * m ∨ (4 * n = (4 * s + 2) * m ∧ s % 2 = 0)) : n / m + rUp n m = s := by
 obtain ⟨k, rfl⟩ : ∃ k, s = k + 1 := ⟨s - 1, by omega⟩
 have e1 : (4 * (k + 1) - 2) * m = 4 * (k * m) + 2 * m := by rw [show 4 * (k + 1) - 2 = 4 * k + 2 by omega, Nat.add_mul, Nat.mul_assoc]
 have e2 : (4 * (k + 1) + 2) * m = 4 * (k * m) + 6 * m := by rw [show 4 * (k + 1) + 2 = 4 * k + 6 by omega, Nat.add_mul, Nat.mul_assoc]
 rw [e1] at h1
 rw [e2] at h2
 have e3 : (k + 1) * m = k * m + m := by rw [Nat.add_mul, Nat.one_mul]
 by_cases c : (k + 1) * m ≤ n
 · have d : n / m = k + 1 := (Nat.div_eq_iff hm).2 ⟨c, by omega⟩
   have r := Nat.div_add_mod n m
   rw [d, Nat.mul_comm, e3] at r
   unfold rUp
   rw [d, if_neg]
   omega
 · have d : n / m = k := (Nat.div_eq_iff hm).2 ⟨by omega, by omega⟩
   have r := Nat.div_add_mod n m
   rw [d, Nat.mul_comm] at r
   unfold rUp
   rw [d, if_pos]
   omega

theorem yO (n m s : Nat) (hm : 0 < m) (hs : 0 < s) (h : n / m + rUp n m = s) : ((4 * s - 2) * m < 4 * n ∨ ((4 * s - 2) * m = 4 * n ∧ s % 2 = 0)) ∧ (4 * n < (4 * s + 2) * m ∨ (4 * n = (4 * s + 2) * m ∧ s % 2 = 0)) ∧ (n / m = s ∨ n / m = s - 1) := by
 obtain ⟨k, rfl⟩ : ∃ k, s = k + 1 := ⟨s - 1, by omega⟩
 have e1 : (4 * (k + 1) - 2) * m = 4 * (k * m) + 2 * m := by rw [show 4 * (k + 1) - 2 = 4 * k + 2 by omega, Nat.add_mul, Nat.mul_assoc]
 have e2 : (4 * (k + 1) + 2) * m = 4 * (k * m) + 6 * m := by rw [show 4 * (k + 1) + 2 = 4 * k + 6 by omega, Nat.add_mul, Nat.mul_assoc]
 rw [e1, e2]
 have e3 : (k + 1) * m = k * m + m := by rw [Nat.add_mul, Nat.one_mul]
 have r := Nat.div_add_mod n m
 have rl := Nat.mod_lt n hm
 unfold rUp at h
 split at h
 next c =>
  have d : n / m = k := by omega
  rw [d] at c
  rw [d, Nat.mul_comm] at r
  omega
 next c =>
  have d : n / m = k + 1 := by omega
  rw [d] at c
  rw [d, Nat.mul_comm, e3] at r
  omega

def Fm.low4 (F : Fm) (t : Pt) : Nat := if t.s = F.lead ∧ F.qmin < t.q then 4 * t.s - 1 else 4 * t.s - 2

def Fm.within (F : Fm) (t : Pt) (n m : Nat) : Prop :=
 (F.low4 t * m < n ∨ (F.low4 t * m = n ∧ t.s % 2 = 0)) ∧ (n < (4 * t.s + 2) * m ∨ (n = (4 * t.s + 2) * m ∧ t.s % 2 = 0))

theorem Fm.within_unit (F : Fm) (t : Pt) (N De : Nat) (hd : 0 < De) : F.within t (uN N (t.q - 2)) (uM De (t.q - 2)) ↔ F.within t (4 * uN N t.q) (uM De t.q) := by
 have e : t.q = t.q - 2 + ((2 : Nat) : Int) := by omega
 have a := xZ N De hd (t.q - 2) t.q 2 e
 have b := GV N De hd (t.q - 2) t.q 2 e
 have c := gX N De hd (t.q - 2) t.q 2 e
 unfold Fm.within
 rw [show (2 : Nat) ^ 2 = 4 by rfl] at a b c
 rw [a, b, c, eq_comm (a := uN N (t.q - 2)), b, eq_comm (a := 4 * uN N t.q) (b := (4 * t.s + 2) * uM De t.q)]

theorem Fm.Ok.round_iff {F : Fm} (h : F.Ok) {t : Pt} (hp : F.Proper t) (hc : t.c = 2 ∨ t.c = 3) (hn : t.n = false) (N De : Nat) (hN : 0 < N) (hd : 0 < De) :
 F.rPt false N De = t ↔ F.within t (uN N (t.q - 2)) (uM De (t.q - 2)) := by
 rw [F.within_unit t N De hd]
 have two := h.two_lead
 have lp := h.leadPos
 have half := h.half
 have tp := h.top2
 have hqm : F.qmin = 2 - (F.emax : Int) - (F.p : Int) := rfl
 have hs : 0 < t.s ∧ t.s < 2 * F.lead ∧ F.qmin ≤ t.q ∧ t.q + F.p - 1 ≤ F.emax ∧ (t.c = 2 ↔ t.s < F.lead) ∧ (t.s < F.lead → t.q = F.qmin) := by
  have := hp
  unfold Fm.Proper at this
  omega
 obtain ⟨s1, s2, q1, q2, s4, s5⟩ := hs
 obtain ⟨hM, k1, k2⟩ := h.rS_ok N De hN hd
 have hmin : F.qmin ≤ F.rQ N De := by unfold Fm.rQ; omega
 have mp := jX hd t.q
 constructor
 · intro e
   have e1 : F.rSig N De = t.s ∧ F.rExp N De = t.q := by
    unfold Fm.rPt at e
    split at e
    · subst e; exact absurd hc (by simp)
    · split at e
      · subst e; exact ⟨rfl, rfl⟩
      · split at e
        · subst e; exact absurd hc (by simp)
        · subst e; exact ⟨rfl, rfl⟩
   unfold Fm.rSig Fm.rExp at e1
   by_cases cy : F.rS N De = 2 ^ F.p
   · rw [if_pos cy, if_pos cy] at e1
     obtain ⟨e1, e2⟩ := e1
     have lo : F.low4 t = 4 * t.s - 1 := by unfold Fm.low4; rw [if_pos ⟨e1.symm, by omega⟩]
     have ev : t.s % 2 = 0 := by omega
     have hu := yO (F.rN N De) (F.rM N De) (2 ^ F.p) hM (by omega) cy
     have hr : F.rN N De / F.rM N De = 2 ^ F.p - 1 := by omega
     have g1 : (2 * 2 ^ F.p * 2 - 2) * F.rM N De ≤ 4 * F.rN N De := by
      rw [show 2 * 2 ^ F.p * 2 - 2 = 4 * 2 ^ F.p - 2 by omega]; omega
     have g2 : F.rN N De < 2 ^ F.p * F.rM N De := (Nat.div_lt_iff_lt_mul hM).1 k1
     have E : t.q = F.rQ N De + ((1 : Nat) : Int) := by omega
     have u1 := nM N De (F.rQ N De) t.q 1 E
     have g3 : uN N t.q * 2 < 2 ^ F.p * uM De t.q := by
      have := (gX N De hd (F.rQ N De) t.q 1 E (2 ^ F.p)).1 g2
      rw [Nat.pow_one] at this; omega
     have g4 : (2 * 2 ^ F.p - 1) * uM De t.q ≤ 2 * (uN N t.q * 2) := by
      have w1 : (2 * 2 ^ F.p - 1) * F.rM N De ≤ 2 * F.rN N De := by
       rw [show 2 * 2 ^ F.p * 2 - 2 = 2 * (2 * 2 ^ F.p - 1) by omega, Nat.mul_assoc] at g1; omega
      have w2 : (2 * 2 ^ F.p - 1) * F.rM N De * uM De t.q ≤ 2 * F.rN N De * uM De t.q := Nat.mul_le_mul_right _ w1
      have w3 : 2 * F.rN N De * uM De t.q = 2 * (uN N t.q * 2) * F.rM N De := by
       rw [Nat.mul_assoc, show F.rN N De * uM De t.q = uN N (F.rQ N De) * uM De t.q from rfl, u1]
       show 2 * (2 ^ 1 * (uN N t.q * F.rM N De)) = _
       rw [Nat.pow_one]; simp only [Nat.mul_assoc, Nat.mul_comm]
      rw [w3, Nat.mul_right_comm] at w2
      exact Nat.le_of_mul_le_mul_right w2 hM
     unfold Fm.within
     rw [lo, ← e1]
     generalize uM De t.q = m at *
     generalize uN N t.q = n at *
     rw [two] at g3 g4
     have x1 : (2 * (2 * F.lead) - 1) * m = 4 * (F.lead * m) - m := by rw [Nat.sub_mul, Nat.one_mul, Nat.mul_assoc, Nat.mul_assoc]; omega
     have x2 : (4 * F.lead - 1) * m = 4 * (F.lead * m) - m := by rw [Nat.sub_mul, Nat.one_mul, Nat.mul_assoc]
     have x3 : (4 * F.lead + 2) * m = 4 * (F.lead * m) + 2 * m := by rw [Nat.add_mul, Nat.mul_assoc]
     have x4 : 2 * F.lead * m = 2 * (F.lead * m) := Nat.mul_assoc ..
     rw [x1] at g4
     rw [x4] at g3
     rw [x2, x3]
     omega
   · rw [if_neg cy, if_neg cy] at e1
     obtain ⟨e1, e2⟩ := e1
     have hu := yO (F.rN N De) (F.rM N De) t.s hM s1 e1
     have a1 : F.rN N De = uN N t.q := by rw [← e2]; rfl
     have a2 : F.rM N De = uM De t.q := by rw [← e2]; rfl
     rw [a1, a2] at hu k2
     obtain ⟨u1, u2, u3⟩ := hu
     refine ⟨?_, u2⟩
     unfold Fm.low4
     by_cases cl : t.s = F.lead ∧ F.qmin < t.q
     · rw [if_pos cl]
       have := k2 (by omega)
       have d : uN N t.q / uM De t.q = t.s := by omega
       have v := Nat.div_add_mod (uN N t.q) (uM De t.q)
       rw [d, Nat.mul_comm] at v
       have x2 : (4 * t.s - 1) * uM De t.q = 4 * (t.s * uM De t.q) - uM De t.q := by rw [Nat.sub_mul, Nat.one_mul, Nat.mul_assoc]
       rw [x2]
       have : uM De t.q ≤ t.s * uM De t.q := Nat.le_mul_of_pos_left _ s1
       omega
     · rw [if_neg cl]; exact u1
 · intro hw
   obtain ⟨w1, w2⟩ := hw
   have y0 : (4 * t.s - 2) * uM De t.q ≤ F.low4 t * uM De t.q := Nat.mul_le_mul_right _ (by unfold Fm.low4; split <;> omega)
   have w3 : (4 * t.s - 2) * uM De t.q < 4 * uN N t.q ∨ ((4 * t.s - 2) * uM De t.q = 4 * uN N t.q ∧ t.s % 2 = 0) := by omega
   have y1 : (4 * t.s + 2) * uM De t.q = 4 * (t.s * uM De t.q) + 2 * uM De t.q := by rw [Nat.add_mul, Nat.mul_assoc]
   have y2 : (4 * t.s - 2) * uM De t.q = 4 * (t.s * uM De t.q) - 2 * uM De t.q := by rw [Nat.sub_mul, Nat.mul_assoc]
   have b1 : uN N t.q < 2 ^ F.p * uM De t.q := by
    have : (t.s + 1) * uM De t.q ≤ 2 ^ F.p * uM De t.q := Nat.mul_le_mul_right _ (by omega)
    rw [Nat.add_mul, Nat.one_mul] at this
    rw [y1] at w2
    omega
   by_cases b2 : t.q = F.qmin ∨ F.lead * uM De t.q ≤ uN N t.q
   · have eQ := h.rQ_is N De hN hd t.q q1 b1 b2
     have eS : F.rS N De = t.s := by
      unfold Fm.rS Fm.rN Fm.rM
      rw [eQ]
      exact yZ _ _ _ mp s1 w3 w2
     have eG : F.rSig N De = t.s := by unfold Fm.rSig; rw [eS, if_neg (by omega)]
     have eX : F.rExp N De = t.q := by unfold Fm.rExp; rw [eS, if_neg (by omega), eQ]
     unfold Fm.rPt
     rw [eG, eX, if_neg (by omega)]
     split
     · exact Pt.ext' (by have := hp; unfold Fm.Proper at this; show (2 : Int) = t.c; omega) hn.symm rfl rfl
     · rw [if_neg (by omega)]
       exact Pt.ext' (by have := hp; unfold Fm.Proper at this; show (3 : Int) = t.c; omega) hn.symm rfl rfl
   · have b3 : F.qmin < t.q ∧ uN N t.q < F.lead * uM De t.q := by omega
     have c1 : t.s = F.lead := by
      have z1 : F.lead ≤ t.s := by omega
      rcases Nat.lt_or_ge F.lead t.s with z | z
      · exfalso
        have : (F.lead + 1) * uM De t.q ≤ t.s * uM De t.q := Nat.mul_le_mul_right _ z
        rw [Nat.add_mul, Nat.one_mul] at this
        rw [y2] at w3
        omega
      · omega
     have lo : F.low4 t = 4 * F.lead - 1 := by unfold Fm.low4; rw [if_pos ⟨c1, b3.1⟩, c1]
     rw [lo, show (4 * F.lead - 1) * uM De t.q = 4 * (F.lead * uM De t.q) - uM De t.q by rw [Nat.sub_mul, Nat.one_mul, Nat.mul_assoc]] at w1
     have E : t.q = t.q - 1 + ((1 : Nat) : Int) := by omega
     have d1 : uN N (t.q - 1) < 2 ^ F.p * uM De (t.q - 1) := by
      rw [gX N De hd (t.q - 1) t.q 1 E, two, Nat.pow_one, Nat.mul_assoc]; omega
     have d2 : F.lead * uM De (t.q - 1) ≤ uN N (t.q - 1) := by
      rw [FX N De hd (t.q - 1) t.q 1 E, Nat.pow_one]
      have : uM De t.q ≤ F.lead * uM De t.q := Nat.le_mul_of_pos_left _ lp
      omega
     have eQ := h.rQ_is N De hN hd (t.q - 1) (by omega) d1 (.inr d2)
     have eS : F.rS N De = 2 ^ F.p := by
      unfold Fm.rS Fm.rN Fm.rM
      rw [eQ]
      refine yZ (uN N (t.q - 1)) (uM De (t.q - 1)) (2 ^ F.p) (jX hd (t.q - 1)) (by omega) ?_ ?_
      · have : (4 * 2 ^ F.p - 2) * uM De (t.q - 1) ≤ 4 * uN N (t.q - 1) := by
         have k : (2 * 2 ^ F.p - 1) * uM De (t.q - 1) ≤ 2 * uN N (t.q - 1) := by
          have u := nM N De (t.q - 1) t.q 1 E
          have : (2 * 2 ^ F.p - 1) * uM De (t.q - 1) * uM De t.q ≤ 2 * uN N (t.q - 1) * uM De t.q := by
           rw [Nat.mul_assoc 2, u, two, Nat.mul_right_comm]
           have x1 : (2 * (2 * F.lead) - 1) * uM De t.q = 4 * (F.lead * uM De t.q) - uM De t.q := by rw [Nat.sub_mul, Nat.one_mul, Nat.mul_assoc, Nat.mul_assoc]; omega
           rw [x1, show 2 * (2 ^ 1 * (uN N t.q * uM De (t.q - 1))) = 4 * uN N t.q * uM De (t.q - 1) by rw [Nat.pow_one, ← Nat.mul_assoc, ← Nat.mul_assoc]]
           exact Nat.mul_le_mul_right _ (by omega)
          exact Nat.le_of_mul_le_mul_right this mp
         rw [show 4 * 2 ^ F.p - 2 = 2 * (2 * 2 ^ F.p - 1) by omega, Nat.mul_assoc]; omega
        omega
      · left
        rw [Nat.add_mul, Nat.mul_assoc]
        have := jX hd (t.q - 1)
        omega
     have eG : F.rSig N De = t.s := by unfold Fm.rSig; rw [if_pos eS, c1]
     have eX : F.rExp N De = t.q := by unfold Fm.rExp; rw [if_pos eS, eQ]; omega
     unfold Fm.rPt
     rw [eG, eX, if_neg (by omega), if_neg (by omega), if_neg (by omega)]
     exact Pt.ext' (by have := hp; unfold Fm.Proper at this; show (3 : Int) = t.c; omega) hn.symm rfl rfl

theorem D3 (F : Fm) (n : Bool) (N De : Nat) : F.rPt n N De = { F.rPt false N De with n := n } := by
 unfold Fm.rPt
 repeat' split
 all_goals rfl

theorem DR : ∀ (l : List Nat), l = List.replicate (l.length - (l.dropWhile (fun c => decide (c = 48))).length) 48 ++ l.dropWhile (fun c => decide (c = 48))
 | [] => rfl
 | x :: r => by
   by_cases h : x = 48
   · subst h
     have e : (48 :: r).dropWhile (fun c => decide (c = 48)) = r.dropWhile (fun c => decide (c = 48)) := by rw [List.dropWhile_cons, if_pos (by simp)]
     rw [e]
     have hl := (List.dropWhile_suffix (l := r) (fun c => decide (c = 48))).length_le
     have : (48 :: r).length - (r.dropWhile (fun c => decide (c = 48))).length = r.length - (r.dropWhile (fun c => decide (c = 48))).length + 1 := by simp; omega
     rw [this, List.replicate_succ, List.cons_append, ← DR r]
   · rw [List.dropWhile_cons, if_neg (by simpa using h)]; simp

theorem qR (l : List Nat) : ∀ n, dec (l ++ List.replicate n 48) = dec l * 10 ^ n
 | 0 => by simp
 | n + 1 => by
   rw [List.replicate_succ', ← List.append_assoc, oK, qR l n, Nat.pow_succ, Nat.mul_assoc]; simp

theorem yY (v : Nat) (h : 1 ≤ v) : Dg (sd v) ∧ (sd v).length ≤ (txt v).length ∧ dec (sd v) * 10 ^ ((txt v).length - (sd v).length) = v := by
 have ht := sM v h
 have h48 := DR (tl v)
 have hl := EA v
 have hsd : (tl v).dropWhile (fun c => decide (c = 48)) = (sd v).reverse := by unfold sd; rw [List.reverse_reverse]
 rw [hsd, List.length_reverse] at h48
 have htx : txt v = sd v ++ List.replicate ((tl v).length - (sd v).length) 48 := by
  rw [ht]
  conv => lhs; rw [h48]
  rw [List.reverse_append, List.reverse_reverse, List.reverse_replicate]
 have hlen : (txt v).length = (tl v).length := by rw [ht, List.length_reverse]
 refine ⟨⟨fun x hx => ?_, ?_, fun x hx => ?_⟩, by omega, ?_⟩
 · have := gG v x (by rw [htx]; exact List.mem_append_left _ hx)
   omega
 · obtain ⟨l, c, e, hc⟩ := nL (v + 1) v (by omega) (by omega)
   have hne := yB v h
   cases hs : sd v with
   | nil => exact absurd hs hne
   | cons x r =>
     refine ⟨x, r, rfl, ?_⟩
     have h1 : txt v = x :: (r ++ List.replicate ((tl v).length - (sd v).length) 48) := by rw [htx, hs]; rfl
     rw [ht, e, List.reverse_append] at h1
     simp at h1
     omega
 · have h1 : (sd v).reverse.head? = some x := by rw [← List.getLast?_eq_head?_reverse]; exact hx
   rw [← hsd] at h1
   intro e
   subst e
   have := List.head?_dropWhile_not (fun c => decide (c = 48)) (tl v)
   rw [h1] at this
   simp at this
 · rw [hlen, ← qR, ← htx, sQ]

theorem Wd.pick_in {t : Wd} (h : t.Ok) (x : Int) (ho : t.ok x) : (un t.lo x < t.pick x * ud t.den x ∨ (un t.lo x = t.pick x * ud t.den x ∧ t.s % 2 = 0)) ∧ (t.pick x * ud t.den x < un t.hi x ∨ (t.pick x * ud t.den x = un t.hi x ∧ t.s % 2 = 0)) := by
 have pd := eJ h.den_pos x
 have m1 := DZ h.lo_mid x
 have m2 := DZ h.mid_hi x
 have d1 : t.T x * ud t.den x ≤ un t.mid x := Nat.div_mul_le_self _ _
 have d2 : un t.mid x < (t.T x + 1) * ud t.den x := by
  have := Nat.lt_div_mul_add (a := un t.mid x) pd
  rw [Nat.add_mul, Nat.one_mul]; exact this
 have low : fY t.lo t.mid t.den t.cl x → (un t.lo x < t.T x * ud t.den x ∨ (un t.lo x = t.T x * ud t.den x ∧ t.s % 2 = 0)) ∧ (t.T x * ud t.den x < un t.hi x ∨ (t.T x * ud t.den x = un t.hi x ∧ t.s % 2 = 0)) := fun hl => by
  refine ⟨?_, .inl (by omega)⟩
  unfold fY at hl
  by_cases c : t.cl = true
  · rw [if_pos c] at hl
    have c2 : t.s % 2 = 0 := of_decide_eq_true c
    rcases Nat.lt_or_ge (un t.lo x) (t.T x * ud t.den x) with g | g
    · exact .inl g
    · exact .inr ⟨Nat.le_antisymm hl g, c2⟩
  · rw [if_neg c] at hl; exact .inl hl
 have high : eO t.hi t.mid t.den t.cl x → (un t.lo x < (t.T x + 1) * ud t.den x ∨ (un t.lo x = (t.T x + 1) * ud t.den x ∧ t.s % 2 = 0)) ∧ ((t.T x + 1) * ud t.den x < un t.hi x ∨ ((t.T x + 1) * ud t.den x = un t.hi x ∧ t.s % 2 = 0)) := fun hl => by
  refine ⟨.inl (by omega), ?_⟩
  unfold eO at hl
  by_cases c : t.cl = true
  · rw [if_pos c] at hl
    have c2 : t.s % 2 = 0 := of_decide_eq_true c
    rcases Nat.lt_or_ge ((t.T x + 1) * ud t.den x) (un t.hi x) with g | g
    · exact .inl g
    · exact .inr ⟨Nat.le_antisymm hl g, c2⟩
  · rw [if_neg c] at hl; exact .inl hl
 unfold Wd.pick
 by_cases c1 : fY t.lo t.mid t.den t.cl x
 · rw [if_neg (not_not_intro c1)]
   by_cases c2 : eO t.hi t.mid t.den t.cl x
   · rw [if_neg (not_not_intro c2)]
     split
     · exact low c1
     · exact high c2
   · rw [if_pos c2]; exact low c1
 · rw [if_pos c1]
   rcases ho with g | g
   · exact absurd g c1
   · exact high g

theorem uU {N De P R A B : Nat} (hR : 0 < R) (hD : 0 < De) (e : N * R = De * P) : (A * R < B * P ↔ A * De < B * N) ∧ (B * P < A * R ↔ B * N < A * De) ∧ (A * R = B * P ↔ A * De = B * N) := by
 have k1 : A * R * De = A * De * R := by rw [Nat.mul_assoc, Nat.mul_comm R De, ← Nat.mul_assoc]
 have k2 : B * P * De = B * N * R := by rw [Nat.mul_assoc, Nat.mul_comm P De, ← e, ← Nat.mul_assoc]
 refine ⟨?_, ?_, ?_⟩
 · rw [← Nat.mul_lt_mul_right hD, k1, k2, Nat.mul_lt_mul_right hR]
 · rw [← Nat.mul_lt_mul_right hD, k1, k2, Nat.mul_lt_mul_right hR]
 · rw [← Nat.mul_left_inj (Nat.pos_iff_ne_zero.1 hD), k1, k2, Nat.mul_left_inj (Nat.pos_iff_ne_zero.1 hR)]

theorem A4 (d z : Nat) (x y : Int) (h : x = y + z) : d * 10 ^ x.toNat * 10 ^ (-y).toNat = 10 ^ (-x).toNat * (d * 10 ^ z * 10 ^ y.toNat) := by
 have e : x.toNat + (-y).toNat = (-x).toNat + (z + y.toNat) := by omega
 rw [Nat.mul_assoc, ← Nat.pow_add, e, Nat.pow_add, Nat.pow_add]
 simp only [Nat.mul_assoc, Nat.mul_comm]

theorem Fm.Ok.round_pick {F : Fm} (h : F.Ok) {T : Pt} (hp : F.Proper T) (hc : T.c = 2 ∨ T.c = 3) (t : Wd) (hs : t.s = T.s) (hl : t.l = F.low4 T) (hq : t.q = T.q) (ht : t.Ok) (x : Int) (ho : t.ok x) (hv : 1 ≤ t.pick x) (e : Int) (he : e = x + ((txt (t.pick x)).length : Int) - ((sd (t.pick x)).length : Int)) :
 F.rPt T.n (dec (sd (t.pick x)) * 10 ^ e.toNat) (10 ^ (-e).toNat) = T := by
 obtain ⟨g1, g2, g3⟩ := yY (t.pick x) hv
 have hd : 0 < dec (sd (t.pick x)) := by
  rcases Nat.eq_zero_or_pos (dec (sd (t.pick x))) with k | k
  · rw [k] at g3; simp at g3; omega
  · exact k
 have cr := A4 (dec (sd (t.pick x))) ((txt (t.pick x)).length - (sd (t.pick x)).length) e x (by omega)
 rw [g3] at cr
 obtain ⟨i1, i2⟩ := Wd.pick_in ht x ho
 have pR : 0 < 10 ^ (-x).toNat := Nat.pow_pos (by omega)
 have pD : 0 < 10 ^ (-e).toNat := Nat.pow_pos (by omega)
 obtain ⟨N, hN⟩ : ∃ N, dec (sd (t.pick x)) * 10 ^ e.toNat = N := ⟨_, rfl⟩
 obtain ⟨De, hDe⟩ : ∃ N, 10 ^ (-e).toNat = N := ⟨_, rfl⟩
 obtain ⟨R, hR⟩ : ∃ N, 10 ^ (-x).toNat = N := ⟨_, rfl⟩
 have pN : 0 < N := by rw [← hN]; exact Nat.mul_pos hd (Nat.pow_pos (by omega))
 rw [hN, hDe, hR] at cr
 rw [hDe] at pD
 rw [hR] at pR
 rw [hN, hDe, D3]
 have key : F.rPt false N De = { T with n := false } := by
  have hp' : F.Proper { T with n := false } := by
   unfold Fm.Proper at hp ⊢
   rcases hp with k | k | k | k | k
   · exact .inl k
   · exact .inr (.inl k)
   · exact .inr (.inr (.inl ⟨k.1, rfl, k.2.2⟩))
   · exact .inr (.inr (.inr (.inl k)))
   · exact .inr (.inr (.inr (.inr k)))
  refine (h.round_iff hp' hc rfl N De pN pD).2 ?_
  have c1 := uU (A := t.lo) (B := t.den) pR pD cr
  have c2 := uU (A := t.hi) (B := t.den) pR pD cr
  unfold un ud at i1 i2
  rw [hR] at i1 i2
  have k1 : t.pick x * (t.den * 10 ^ x.toNat) = t.den * (t.pick x * 10 ^ x.toNat) := by rw [← Nat.mul_assoc, Nat.mul_comm (t.pick x), Nat.mul_assoc]
  rw [k1] at i1 i2
  rw [c1.1, c1.2.2] at i1
  rw [c2.2.1, eq_comm, c2.2.2] at i2
  have m1 : F.low4 { T with n := false } * uM De (T.q - 2) = t.lo * De := by
   show F.low4 T * (De * 2 ^ (T.q - 2).toNat) = _
   unfold Wd.lo
   rw [hl, hq, Nat.mul_comm De, ← Nat.mul_assoc]
  have m2 : uN N (T.q - 2) = t.den * N := by
   unfold uN Wd.den
   rw [hq, Nat.mul_comm, show -(T.q - 2) = 2 - T.q by omega]
  have m3 : (4 * T.s + 2) * uM De (T.q - 2) = t.hi * De := by
   unfold uM Wd.hi
   rw [hs, hq, Nat.mul_comm De, ← Nat.mul_assoc]
  unfold Fm.within
  simp only
  rw [m1, m2, m3]
  rw [hs] at i1 i2
  exact ⟨i1, by rcases i2 with k | ⟨k, k'⟩; exact .inl k; exact .inr ⟨k.symm, k'⟩⟩
 rw [key]

end Go.Proofs.YtdfljbpcjkbflaaGreatDoor.M
namespace Go.Proofs.YtdfljbpcjkbflaaGreatDoor
open Go.RowKit
set_option linter.unusedVariables false
set_option maxRecDepth 100000
theorem IW (a : Nat) (h : 0 < a) : aC a = 64 * ((L a).length - 1) + aC ((L a).getD ((L a).length - 1) 0) := by
 have h1 := M.mG (B := 18446744073709551616) (by omega) a h
 have h2 := M.iR (B := 18446744073709551616) (by omega) a
 have hl : (L a).length ≠ 0 := by unfold L; rw [M.aS (by omega) h]; simp
 obtain ⟨m, hm⟩ : ∃ m, (L a).length = m + 1 := ⟨(L a).length - 1, by omega⟩
 have hm' : (M.dig 18446744073709551616 a).length = m + 1 := hm
 rw [hm'] at h1 h2
 rw [hm, Nat.add_sub_cancel] at *
 have e : (18446744073709551616 : Nat) ^ m = 2 ^ (64 * m) := by rw [show (18446744073709551616 : Nat) = 2 ^ 64 from rfl, ← Nat.pow_mul]
 have hg : (L a).getD m 0 = a / 18446744073709551616 ^ m := by
  have hh : (M.dig 18446744073709551616 a).getD m 0 = a / 18446744073709551616 ^ m % 18446744073709551616 := by
   have : ∀ k n, (M.dig 18446744073709551616 n).getD k 0 = n / 18446744073709551616 ^ k % 18446744073709551616 := by
    intro k
    induction k with
    | zero =>
      intro n
      by_cases hn : 0 < n
      · rw [M.aS (by omega) hn]; simp
      · have : n = 0 := by omega
        subst this; simp [M.aJ]
    | succ k ih =>
      intro n
      by_cases hn : 0 < n
      · rw [M.aS (by omega) hn, List.getD_cons_succ, ih, Nat.div_div_eq_div_mul, Nat.pow_succ, Nat.mul_comm 18446744073709551616]
      · have : n = 0 := by omega
        subst this; simp [M.aJ]
   exact this m a
  unfold L
  rw [hh]
  apply Nat.mod_eq_of_lt
  apply Nat.div_lt_of_lt_mul
  rw [← Nat.pow_succ]; exact h2
 rw [hg, e]
 exact oH (64 * m) a (by rw [← e]; exact h1)

theorem nC (ao : Option Addr) (n c : Nat) (a : Nat) (w : World) (hl : (L a).length = n) (hn : n ≤ 1048576) (hr : Rd w ao (L a)) (b : Nat) (hb : b = aC a) :
 Calls Tryz.prog 157 #[.slice ao n c] w fun e w' => e = .returned (.int .i64 (b : Int)) ∧ w' = w := by
 by_cases h0 : n = 0
 · subst h0
   have ha : a = 0 := by
    rcases Nat.eq_zero_or_pos a with h | h
    · exact h
    · unfold L at hl; rw [M.aS (by omega) h] at hl; simp at hl
   have hb0 : b = 0 := by rw [hb, ha, eP]
   subst hb0
   clear hb ha hl hr
   go_enter Tryz.func157, Tryz.ntmps157
   go_wp2_with fail
   go_ret
   exact ⟨rfl, rfl⟩
 · obtain ⟨m, rfl⟩ : ∃ m, n = m + 1 := ⟨n - 1, by omega⟩
   have ha : 0 < a := by
    rcases Nat.eq_zero_or_pos a with h | h
    · rw [h] at hl; simp [L, M.aJ] at hl
    · exact h
   have hbl := IW a ha
   rw [hl, Nat.add_sub_cancel] at hbl
   obtain ⟨b1, o1, hao, hcl⟩ := hr (by omega)
   have hck := hcl m (by omega)
   clear hcl
   have ht := (eN a).get m
   obtain ⟨t, htt⟩ : ∃ t : Nat, t = (L a).getD m 0 := ⟨_, rfl⟩
   rw [← htt] at hck ht hbl
   rw [← hb] at hbl
   have hne : (((m : Int) + 1) == 0) = false := by simp; omega
   have e1 : ((m + 1 : Nat) : Int) = (m : Int) + 1 := by omega
   have hltm : (m : Int) < (m : Int) + 1 := by omega
   have hlt64 := bW t 64 (by omega)
   obtain ⟨q, hq⟩ : ∃ q, q = aC t := ⟨_, rfl⟩
   rw [← hq] at hbl hlt64
   have HBL := hid hbl; have HT := hid htt; have HQ := hid hq
   clear hbl htt hb hq
   have kL := fun v : World => mJ t v ht q HQ.out
   have w1 : IntKind.i64.wrap ((m : Int) * 64) = (m : Int) * 64 := by rw [IntKind.wrap_i64]; omega
   have w2 : IntKind.i64.wrap ((m : Int) * 64 + (q : Int)) = (m : Int) * 64 + (q : Int) := by rw [IntKind.wrap_i64]; omega
   go_enter Tryz.func157, Tryz.ntmps157
   go_wp2_with fail
   refine (kL _).mono ?_
   rintro e w3 ⟨rfl, rfl⟩
   go_wp2_with fail
   go_ret
   exact ⟨bJ (by have := HBL.out; omega), rfl⟩

theorem xX (a : Nat) : (((L a).length : Int) == 0) = decide (a = 0) := by
 rw [Bool.eq_iff_iff]
 simp only [beq_iff_eq, decide_eq_true_eq]
 constructor
 · intro h
   have h1 : L a = [] := List.eq_nil_of_length_eq_zero (by omega)
   have h2 : V (L a) = a := V_L a
   rw [h1] at h2
   simpa [V, M.val] using h2.symm
 · intro h
   subst h
   simp [L, M.aJ]

theorem aK (a j K : Nat) (h : a < 2 ^ j) (hj : j ≤ 32 * K) : (D a).length ≤ K := by
 refine M.len_of_lt (B := 4294967296) (by omega) _ _ ?_
 rw [show (4294967296 : Nat) = 2 ^ 32 by rfl, ← Nat.pow_mul]
 exact Nat.lt_of_lt_of_le h (Nat.pow_le_pow_right (by omega) hj)

theorem fW (N p A K : Nat) (hn : (L N).length ≤ A) (hp : p ≤ 64 * K) : (L (N * 2 ^ p)).length ≤ A + K := by
 have h1 := iL N A hn
 have h2 : 2 ^ p ≤ 18446744073709551616 ^ K := by
  rw [show (18446744073709551616 : Nat) = 2 ^ 64 by rfl, ← Nat.pow_mul]
  exact Nat.pow_le_pow_right (by omega) (by omega)
 have h3 : N * 2 ^ p < 18446744073709551616 ^ (A + K) := by
  rw [Nat.pow_add]
  exact Nat.lt_of_le_of_lt (Nat.mul_le_mul_left _ h2) (Nat.mul_lt_mul_of_pos_right h1 (Nat.pow_pos (by omega)))
 exact M.len_of_lt (B := 18446744073709551616) (by omega) _ _ h3

def Rb (v : World) (g : Nat) (e0 e1 e2 e3 e4 : Int) (e5 : Bool) (a : Option Addr) (n c : Nat) (b : Option Addr) (m d : Nat) (Z : Nat) (q : Int) : Prop :=
 Cls v g #[.int .i64 e0, .int .i64 e1, .int .i64 e2, .int .i64 e3, .int .i64 e4, .bool e5, .slice a n c, .slice b m d, .int .u64 (M.hiN Z : Int), .int .u64 (M.loN Z : Int), .int .i64 q] 156

theorem Rb.below {v v' : World} {g : Nat} {e0 e1 e2 e3 e4 : Int} {e5 : Bool} {a b : Option Addr} {n c m d Z : Nat} {q : Int} (h : Rb v g e0 e1 e2 e3 e4 e5 a n c b m d Z q) (hb : Below v.heap.size v v') : Rb v' g e0 e1 e2 e3 e4 e5 a n c b m d Z q := Cls.below h hb

theorem CJ (a b : Nat) : decide (aR (a : Int) (b : Int) < 0) = decide (a < b) := by
 unfold aR
 rw [Bool.eq_iff_iff]
 simp only [decide_eq_true_eq]
 split
 · omega
 · split <;> omega

theorem DQ {w1 W v : World} {q : Nat} (h : Below w1.heap.size w1 W) (e : v = W.drewN q) : Below w1.heap.size w1 v := by
 subst e
 exact ⟨h.os, h.tape, h.output, h.size, h.block⟩

theorem jL (v : World) (q : Nat) : Below v.heap.size v (v.drewN q) := ⟨rfl, rfl, rfl, Nat.le_refl _, fun _ _ => rfl⟩

theorem BL (g : Nat) (e0 e1 e2 e3 e4 : Int) (e5 : Bool) (a b : Option Addr) (c d N De Z : Nat) (q : Int) (w : World) (hB : Rb w g e0 e1 e2 e3 e4 e5 a (L N).length c b (L De).length d Z q) (ra : Rd w a (L N)) (rb : Rd w b (L De))
 (bN bD : Nat) (hbN : bN ≤ 90000) (hbD : bD ≤ 90000) (kN : ∀ v : World, Rd v a (L N) → Calls Tryz.prog 157 #[.slice a (L N).length c] v fun e w' => e = .returned (.int .i64 (bN : Int)) ∧ w' = v)
 (kD : ∀ v : World, Rd v b (L De) → Calls Tryz.prog 157 #[.slice b (L De).length d] v fun e w' => e = .returned (.int .i64 (bD : Int)) ∧ w' = v)
 (t s1 s2 : Int) (ht : t = (bN : Int) - bD) (hs1 : max (-t) 0 = s1) (hs2 : max t 0 = s2) (X Y : Nat)
 (kX : ∀ v : World, Rd v a (L N) → Calls Tryz.prog 77 #[.slice a (L N).length c, .int .i64 s1] v fun e w' => Ret v w' e (L X))
 (kY : ∀ v : World, Rd v b (L De) → Calls Tryz.prog 77 #[.slice b (L De).length d, .int .i64 s2] v fun e w' => Ret v w' e (L Y))
 (cz : Int) (kC : ∀ (v : World) (ao bo : Option Addr) (c d : Nat), Rd v ao (L X) → Rd v bo (L Y) → Calls Tryz.prog 83 #[.slice ao (L X).length c, .slice bo (L Y).length d] v fun e w' => e = .returned (.int .i64 cz) ∧ ∃ q, w' = v.drewN q)
 (E : Int) (hE : E = if cz < 0 then t - 1 else t) :
 Calls Tryz.prog 142 #[.pointer (some ⟨g, 0, none⟩)] w fun e w' => e = .returned (.int .i64 E) ∧ Below w.heap.size w w' := by
 have w1 : IntKind.i64.wrap ((bN : Int) - (bD : Int)) = t := by rw [IntKind.wrap_i64]; omega
 have w1' : (bN : Int) - (bD : Int) = t := by omega
 have w2 : IntKind.i64.wrap (-t) = -t := by rw [IntKind.wrap_i64]; omega
 have w3 : IntKind.i64.wrap (t - 1) = t - 1 := by rw [IntKind.wrap_i64]; omega
 have w4 : IntKind.i64.wrap t = t := by rw [IntKind.wrap_i64]; omega
 have HT := hid ht; clear ht
 have hs1' : (if -t < 0 then 0 else -t) = s1 := by split <;> omega
 have hs2' : (if t < 0 then 0 else t) = s2 := by split <;> omega
 have HE := hid hE; clear hE
 have c6 := Cls.cell hB 6 rfl
 have c7 := Cls.cell hB 7 rfl
 go_enter Tryz.func142, Tryz.ntmps142
 go_upto_region 1 with fail
 go_quiet ((go_at_call 157; first | (with_reducible show Calls _ _ #[Value.slice a _ _] _ _; exact Calls.quiet_of_same (kN _ (Rd.drewN ra _))) | exact Calls.quiet_of_same (kD _ (Rd.drewN rb _))))
 replace hB := hB.below (jL _ nq)
 replace ra := ra.below (jL _ nq)
 replace rb := rb.below (jL _ nq)
 have b0 := jL w nq
 generalize w.drewN nq = v1 at *
 clear c6 c7 kN kD w1 w1'
 go_upto_region 2 with fail
 go_cut [31] (fun z wx => z = .bool (decide (cz < 0)) ∧ Below v1.heap.size v1 wx)
 case first =>
  have A0 : Below v1.heap.size v1 v1.drew := (Below.refl _ _).drew
  have KB : ∀ v, Below v1.heap.size v1 v → (fun v => v.cell? ⟨g, 6, none⟩ = some (.slice a (L N).length c) ∧ v.cell? ⟨g, 7, none⟩ = some (.slice b (L De).length d)) v := fun v hv => ⟨Cls.cell (hB.below hv) 6 rfl, Cls.cell (hB.below hv) 7 rfl⟩
  go_region_held3 (fun v => v.cell? ⟨g, 6, none⟩ = some (.slice a (L N).length c) ∧ v.cell? ⟨g, 7, none⟩ = some (.slice b (L De).length d)) (first | with_reducible exact KB _ hb3 | with_reducible exact KB _ hb2 | with_reducible exact KB _ hb1 | with_reducible exact KB _ A0)
   (first | (have hq := hb2; clear hq; go_at_call 83; refine (kC _ _ _ _ _ r1 r2).mono ?_; rintro e u3 ⟨rfl, qq, hu3⟩; have hb3 := DQ (w1 := v1) hb2 hu3; clear hu3) | (have hq := hb1; clear hq; go_at_call 77; refine (kY _ (rb.below hb1)).mono ?_; rintro e u2 ⟨x2, k2, rfl, o2, hb0⟩; have hb2 := aB (w1 := v1) hb1 hb0; have r2 := Rd.own o2; replace r1 := r1.below hb0; clear hb0 o2) | (go_at_call 77; refine (kX _ (ra.below A0)).mono ?_; rintro e u1 ⟨x1, k1, rfl, o1, hb0⟩; have hb1 := aB (w1 := v1) A0 hb0; have r1 := Rd.own o1; clear hb0 o1))
  all_goals go_wp2_with fail
  all_goals go_meet
  all_goals exact ⟨rfl, hb3⟩
 case rest =>
 obtain ⟨rfl, hbx⟩ := hcut
 replace b0 := b0.trans (hbx.mono b0.size)
 have HB0 := hid b0
 clear b0 hbx hB ra rb kX kY kC hs1 hs2 hs1' hs2'
 have h := HE.out
 by_cases hz : cz < 0
 · rw [if_pos hz] at h
   have hd : decide (cz < 0) = true := decide_eq_true hz
   have H := hid h; clear h
   go_wp2_with fail
   go_ret
   exact ⟨by rw [H.out]; rfl, HB0.out⟩
 · rw [if_neg hz] at h
   have hd : decide (cz < 0) = false := decide_eq_false hz
   have H := hid h; clear h
   go_wp2_with fail
   go_ret
   exact ⟨by rw [H.out]; rfl, HB0.out⟩

end Go.Proofs.YtdfljbpcjkbflaaGreatDoor
