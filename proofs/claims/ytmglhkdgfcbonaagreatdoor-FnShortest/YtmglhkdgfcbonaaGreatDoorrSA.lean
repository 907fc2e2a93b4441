import Derived.Test.YtmglhkdgfcbonaaGreatDoorrBS
namespace Go.Proofs.YtmglhkdgfcbonaaGreatDoor.M
set_option linter.unusedVariables false
set_option maxRecDepth 100000
theorem p643 : 10 ^ 643 ≤ 2 ^ 2136 := by decide +kernel

theorem p59 : 10 ^ 59 ≤ 2 ^ 196 := by decide +kernel

theorem p3 : 10 ^ 3 ≤ 2 ^ 10 := by decide +kernel

theorem p146 : 2 ^ 485 ≤ 10 ^ 146 := by decide +kernel

theorem p28 : 2 ^ 93 ≤ 10 ^ 28 := by decide +kernel

theorem p4 : 2 ^ 13 ≤ 10 ^ 4 := by decide +kernel

theorem powk {a b x y : Nat} (h : a ^ x ≤ b ^ y) (k : Nat) : a ^ (x * k) ≤ b ^ (y * k) := by
 rw [Nat.pow_mul, Nat.pow_mul]
 exact Nat.pow_le_pow_left h k

theorem pow_lo (m : Nat) (h : m ≤ 16600) : 10 ^ (m * 30103 / 100000 - 2) ≤ 2 ^ m := by
 obtain ⟨a, b, hm, hb⟩ : ∃ a b, m = 2136 * a + b ∧ b < 2136 := ⟨m / 2136, m % 2136, by omega, by omega⟩
 obtain ⟨c, r, hb2, hr⟩ : ∃ c r, b = 196 * c + r ∧ r < 196 := ⟨b / 196, b % 196, by omega, by omega⟩
 obtain ⟨d, t, hr2, ht⟩ : ∃ d t, r = 10 * d + t ∧ t < 10 := ⟨r / 10, r % 10, by omega, by omega⟩
 have e : m * 30103 / 100000 - 2 ≤ 643 * a + 59 * c + 3 * d := by omega
 have h1 : 10 ^ (643 * a + 59 * c + 3 * d) ≤ 2 ^ (2136 * a + 196 * c + 10 * d) := by
  rw [Nat.pow_add, Nat.pow_add, Nat.pow_add, Nat.pow_add]
  exact Nat.mul_le_mul (Nat.mul_le_mul (powk p643 a) (powk p59 c)) (powk p3 d)
 exact Nat.le_trans (Nat.pow_le_pow_right (by omega) e) (Nat.le_trans h1 (Nat.pow_le_pow_right (by omega) (by omega)))

theorem pow_up (m : Nat) (h : m ≤ 16600) : 2 ^ m ≤ 10 ^ (m * 30103 / 100000 + 2) := by
 obtain ⟨a, b, hm, hb⟩ : ∃ a b, m = 485 * a + b ∧ b < 485 := ⟨m / 485, m % 485, by omega, by omega⟩
 obtain ⟨c, r, hb2, hr⟩ : ∃ c r, b = 93 * c + r ∧ r < 93 := ⟨b / 93, b % 93, by omega, by omega⟩
 obtain ⟨d, t, hr2, ht⟩ : ∃ d t, r = 13 * d + t ∧ t < 13 := ⟨r / 13, r % 13, by omega, by omega⟩
 obtain ⟨u, hu, hut⟩ : ∃ u, 2 ^ t ≤ 10 ^ u ∧ u * 3 ≤ t + 2 := by
  refine ⟨(t + 2) / 3, ?_, by omega⟩
  have : t = 0 ∨ t = 1 ∨ t = 2 ∨ t = 3 ∨ t = 4 ∨ t = 5 ∨ t = 6 ∨ t = 7 ∨ t = 8 ∨ t = 9 ∨ t = 10 ∨ t = 11 ∨ t = 12 := by omega
  rcases this with rfl | rfl | rfl | rfl | rfl | rfl | rfl | rfl | rfl | rfl | rfl | rfl | rfl <;> decide
 have e : 146 * a + 28 * c + 4 * d + u ≤ m * 30103 / 100000 + 2 := by omega
 have h1 : 2 ^ (485 * a + 93 * c + 13 * d + t) ≤ 10 ^ (146 * a + 28 * c + 4 * d + u) := by
  rw [Nat.pow_add, Nat.pow_add, Nat.pow_add, Nat.pow_add, Nat.pow_add, Nat.pow_add]
  exact Nat.mul_le_mul (Nat.mul_le_mul (Nat.mul_le_mul (powk p146 a) (powk p28 c)) (powk p4 d)) hu
 have e2 : m = 485 * a + 93 * c + 13 * d + t := by omega
 rw [e2] at e ⊢
 exact Nat.le_trans h1 (Nat.pow_le_pow_right (by omega) e)

def un (m : Nat) (x : Int) : Nat := m * 10 ^ (-x).toNat

def ud (den : Nat) (x : Int) : Nat := den * 10 ^ x.toNat

theorem ud_pos {den : Nat} (h : 0 < den) (x : Int) : 0 < ud den x := Nat.mul_pos h (Nat.pow_pos (by omega))

theorem un_shift (m den : Nat) (x : Int) (k : Nat) : un m x * ud den (x + k) = un m (x + k) * ud den x * 10 ^ k := by
  unfold un ud
  have e : 10 ^ (-x).toNat * 10 ^ (x + k).toNat = 10 ^ (-(x + k)).toNat * 10 ^ x.toNat * 10 ^ k := by
    rw [← Nat.pow_add, ← Nat.pow_add, ← Nat.pow_add]
    congr 1
    omega
  calc m * 10 ^ (-x).toNat * (den * 10 ^ (x + k).toNat) = m * den * (10 ^ (-x).toNat * 10 ^ (x + k).toNat) := by
        rw [Nat.mul_assoc, Nat.mul_left_comm (10 ^ (-x).toNat), ← Nat.mul_assoc]
    _ = m * den * (10 ^ (-(x + k)).toNat * 10 ^ x.toNat * 10 ^ k) := by rw [e]
    _ = m * 10 ^ (-(x + k)).toNat * (den * 10 ^ x.toNat) * 10 ^ k := by
        rw [← Nat.mul_assoc, ← Nat.mul_assoc, Nat.mul_assoc m, Nat.mul_comm den, ← Nat.mul_assoc, Nat.mul_assoc _ den]

theorem un_le (m den c : Nat) (hd : 0 < den) (x : Int) (k : Nat) : un m (x + k) ≤ c * ud den (x + k) ↔ un m x ≤ c * 10 ^ k * ud den x := by
  have s := un_shift m den x k
  have p1 := ud_pos hd x
  have p2 := ud_pos hd (x + k)
  have p3 : 0 < 10 ^ k := Nat.pow_pos (by omega)
  constructor
  · intro h
    refine Nat.le_of_mul_le_mul_right (c := ud den (x + k)) ?_ p2
    rw [s]
    calc un m (x + k) * ud den x * 10 ^ k ≤ c * ud den (x + k) * ud den x * 10 ^ k := Nat.mul_le_mul_right _ (Nat.mul_le_mul_right _ h)
      _ = c * 10 ^ k * ud den x * ud den (x + k) := by
          rw [Nat.mul_assoc c, Nat.mul_comm (ud den (x + k)), ← Nat.mul_assoc, Nat.mul_right_comm, Nat.mul_right_comm c]
  · intro h
    refine Nat.le_of_mul_le_mul_right (c := ud den x * 10 ^ k) ?_ (Nat.mul_pos p1 p3)
    rw [← Nat.mul_assoc, ← s]
    calc un m x * ud den (x + k) ≤ c * 10 ^ k * ud den x * ud den (x + k) := Nat.mul_le_mul_right _ h
      _ = c * ud den (x + k) * (ud den x * 10 ^ k) := by
          rw [Nat.mul_right_comm _ (ud den x), Nat.mul_right_comm c, Nat.mul_assoc (c * ud den (x + k)), Nat.mul_comm (10 ^ k)]

theorem un_ge (m den c : Nat) (hd : 0 < den) (x : Int) (k : Nat) : c * ud den (x + k) ≤ un m (x + k) ↔ c * 10 ^ k * ud den x ≤ un m x := by
 have s := un_shift m den x k
 have p1 := ud_pos hd x
 have p2 := ud_pos hd (x + k)
 have p3 : 0 < 10 ^ k := Nat.pow_pos (by omega)
 have e : c * ud den (x + k) * (ud den x * 10 ^ k) = c * 10 ^ k * ud den x * ud den (x + k) := by ac_rfl
 constructor
 · intro h
   refine Nat.le_of_mul_le_mul_right (c := ud den (x + k)) ?_ p2
   rw [s, ← e, Nat.mul_assoc (un m (x + k))]
   exact Nat.mul_le_mul_right _ h
 · intro h
   refine Nat.le_of_mul_le_mul_right (c := ud den x * 10 ^ k) ?_ (Nat.mul_pos p1 p3)
   rw [e, ← Nat.mul_assoc, ← s]
   exact Nat.mul_le_mul_right _ h

def uT (m den : Nat) (x : Int) : Nat := un m x / ud den x

theorem uT_add (m den : Nat) (hd : 0 < den) (x : Int) (k : Nat) : uT m den (x + k) = uT m den x / 10 ^ k := by
 have p1 := ud_pos hd x
 have p2 := ud_pos hd (x + k)
 have p3 : 0 < 10 ^ k := Nat.pow_pos (by omega)
 unfold uT
 apply Nat.le_antisymm
 · rw [Nat.le_div_iff_mul_le p3, Nat.le_div_iff_mul_le p1, ← un_ge m den _ hd x k]
   exact Nat.div_mul_le_self _ _
 · rw [Nat.le_div_iff_mul_le p2, un_ge m den _ hd x k, ← Nat.le_div_iff_mul_le p1, ← Nat.le_div_iff_mul_le p3]
   exact Nat.le_refl _

def lowOK (lo m den : Nat) (cl : Bool) (x : Int) : Prop := if cl then un lo x ≤ uT m den x * ud den x else un lo x < uT m den x * ud den x

def highOK (hi m den : Nat) (cl : Bool) (x : Int) : Prop := if cl then (uT m den x + 1) * ud den x ≤ un hi x else (uT m den x + 1) * ud den x < un hi x

instance (lo m den : Nat) (cl : Bool) (x : Int) : Decidable (lowOK lo m den cl x) := by unfold lowOK; infer_instance

instance (hi m den : Nat) (cl : Bool) (x : Int) : Decidable (highOK hi m den cl x) := by unfold highOK; infer_instance

theorem lowOK_at (lo m den : Nat) (hd : 0 < den) (cl : Bool) (x : Int) (k : Nat) :
 lowOK lo m den cl (x + k) ↔ if cl then un lo x ≤ uT m den (x + k) * 10 ^ k * ud den x else un lo x < uT m den (x + k) * 10 ^ k * ud den x := by
 unfold lowOK
 cases cl
 · simp only [Bool.false_eq_true, if_false]
   have := un_ge lo den (uT m den (x + k)) hd x k
   omega
 · simp only [if_true]
   exact un_le lo den (uT m den (x + k)) hd x k

theorem highOK_at (hi m den : Nat) (hd : 0 < den) (cl : Bool) (x : Int) (k : Nat) :
 highOK hi m den cl (x + k) ↔ if cl then (uT m den (x + k) + 1) * 10 ^ k * ud den x ≤ un hi x else (uT m den (x + k) + 1) * 10 ^ k * ud den x < un hi x := by
 unfold highOK
 cases cl
 · simp only [Bool.false_eq_true, if_false]
   have := un_le hi den (uT m den (x + k) + 1) hd x k
   omega
 · simp only [if_true]
   exact un_ge hi den (uT m den (x + k) + 1) hd x k

theorem ok_mono (lo hi m den : Nat) (hd : 0 < den) (cl : Bool) (x : Int) (k : Nat) :
 (lowOK lo m den cl (x + k) → lowOK lo m den cl x) ∧ (highOK hi m den cl (x + k) → highOK hi m den cl x) := by
 have h1 : uT m den (x + k) * 10 ^ k ≤ uT m den x := by rw [uT_add m den hd]; exact Nat.div_mul_le_self _ _
 have h2 : uT m den x + 1 ≤ (uT m den (x + k) + 1) * 10 ^ k := by
  rw [uT_add m den hd, Nat.add_mul, Nat.one_mul]
  have := Nat.lt_div_mul_add (a := uT m den x) (b := 10 ^ k) (Nat.pow_pos (by omega))
  omega
 have h3 := Nat.mul_le_mul_right (ud den x) h1
 have h4 := Nat.mul_le_mul_right (ud den x) h2
 rw [lowOK_at lo m den hd, highOK_at hi m den hd]
 unfold lowOK highOK
 cases cl
 · simp only [Bool.false_eq_true, if_false]
   exact ⟨fun h => by omega, fun h => by omega⟩
 · simp only [if_true]
   exact ⟨fun h => by omega, fun h => by omega⟩

def uB (m : Int) : Int := (m * 30103).tdiv 100000 - 2

theorem uB_pos (m : Nat) : uB (m : Int) = ((m * 30103 / 100000 : Nat) : Int) - 2 := by
 unfold uB
 rw [Int.tdiv_eq_ediv_of_nonneg (by omega)]
 omega

theorem uB_neg (m : Nat) : uB (-(m : Int)) = -((m * 30103 / 100000 : Nat) : Int) - 2 := by
 unfold uB
 rw [show -(m : Int) * 30103 = -((m * 30103 : Nat) : Int) by omega, Int.neg_tdiv, Int.tdiv_eq_ediv_of_nonneg (by omega)]
 omega

theorem unit_ok (m : Int) (h1 : -16600 ≤ m) (h2 : m ≤ 16600) :
 ud (2 ^ (-m).toNat) (uB m) ≤ un (2 ^ m.toNat) (uB m) ∧ un (2 ^ m.toNat) (uB m) ≤ 10000 * ud (2 ^ (-m).toNat) (uB m) := by
 unfold un ud
 rcases Int.le_total 0 m with h | h
 · obtain ⟨k, rfl⟩ := Int.eq_ofNat_of_zero_le h
   have e0 : (-(k : Int)).toNat = 0 := by omega
   have e1 : ((k : Int)).toNat = k := by omega
   rw [e0, e1, uB_pos, Nat.pow_zero, Nat.one_mul]
   have lo := pow_lo k (by omega)
   have up := pow_up k (by omega)
   generalize k * 30103 / 100000 = f at *
   rcases Nat.lt_or_ge f 2 with hf | hf
   · have a1 : ((f : Int) - 2).toNat = 0 := by omega
     have a2 : (-((f : Int) - 2)).toNat = 2 - f := by omega
     rw [a1, a2, Nat.pow_zero]
     have p : 0 < 2 ^ k * 10 ^ (2 - f) := Nat.mul_pos (Nat.pow_pos (by omega)) (Nat.pow_pos (by omega))
     refine ⟨p, ?_⟩
     have := Nat.mul_le_mul_right (10 ^ (2 - f)) up
     rw [← Nat.pow_add, show f + 2 + (2 - f) = 4 by omega] at this
     exact this
   · have a1 : ((f : Int) - 2).toNat = f - 2 := by omega
     have a2 : (-((f : Int) - 2)).toNat = 0 := by omega
     rw [a1, a2, Nat.pow_zero, Nat.mul_one]
     refine ⟨lo, ?_⟩
     rw [show f + 2 = 4 + (f - 2) by omega, Nat.pow_add] at up
     exact up
 · obtain ⟨k, hk⟩ := Int.eq_ofNat_of_zero_le (show 0 ≤ -m by omega)
   have em : m = -(k : Int) := by omega
   subst em
   have e0 : (-(-(k : Int))).toNat = k := by omega
   have e1 : (-(k : Int)).toNat = 0 := by omega
   rw [e0, e1, uB_neg, Nat.pow_zero, Nat.one_mul]
   have lo := pow_lo k (by omega)
   have up := pow_up k (by omega)
   generalize k * 30103 / 100000 = f at *
   have a1 : (-(f : Int) - 2).toNat = 0 := by omega
   have a2 : (-(-(f : Int) - 2)).toNat = f + 2 := by omega
   rw [a1, a2, Nat.pow_zero, Nat.mul_one]
   refine ⟨up, ?_⟩
   rcases Nat.lt_or_ge f 2 with hf | hf
   · have p : 1 ≤ 2 ^ k := Nat.pow_pos (by omega)
     have : 10 ^ (f + 2) ≤ 10 ^ 4 := Nat.pow_le_pow_right (by omega) (by omega)
     omega
   · rw [show f + 2 = 4 + (f - 2) by omega, Nat.pow_add]
     exact Nat.mul_le_mul_left _ lo

structure Wd where
 s : Nat
 l : Nat
 q : Int

def Wd.mid (t : Wd) : Nat := 4 * t.s * 2 ^ (t.q - 2).toNat

def Wd.lo (t : Wd) : Nat := t.l * 2 ^ (t.q - 2).toNat

def Wd.hi (t : Wd) : Nat := (4 * t.s + 2) * 2 ^ (t.q - 2).toNat

def Wd.den (t : Wd) : Nat := 2 ^ (2 - t.q).toNat

def Wd.cl (t : Wd) : Bool := decide (t.s % 2 = 0)

structure Wd.Ok (t : Wd) : Prop where
 s1 : 1 ≤ t.s
 s2 : t.s < 2 ^ 113
 l1 : t.l < 4 * t.s
 q1 : -16598 ≤ t.q
 q2 : t.q ≤ 16600

theorem Wd.Ok.den_pos {t : Wd} (h : t.Ok) : 0 < t.den := Nat.pow_pos (by omega)

abbrev Wd.X (t : Wd) : Int := uB (t.q - 2)

abbrev Wd.T (t : Wd) (x : Int) : Nat := uT t.mid t.den x

def Wd.ok (t : Wd) (x : Int) : Prop := lowOK t.lo t.mid t.den t.cl x ∨ highOK t.hi t.mid t.den t.cl x

instance (t : Wd) (x : Int) : Decidable (t.ok x) := by unfold Wd.ok; infer_instance

theorem un_mul (c m : Nat) (x : Int) : un (c * m) x = c * un m x := by unfold un; rw [Nat.mul_assoc]

theorem Wd.Ok.unit {t : Wd} (h : t.Ok) : ud t.den t.X ≤ un (2 ^ (t.q - 2).toNat) t.X ∧ un (2 ^ (t.q - 2).toNat) t.X ≤ 10000 * ud t.den t.X := by
 have := unit_ok (t.q - 2) (by have := h.q1; omega) (by have := h.q2; omega)
 unfold Wd.den
 rwa [show (-(t.q - 2)).toNat = (2 - t.q).toNat by omega] at this

theorem Wd.Ok.first {t : Wd} (h : t.Ok) : 1 ≤ t.T t.X ∧ t.T t.X < 10 ^ 39 ∧ t.ok t.X := by
 obtain ⟨u1, u2⟩ := h.unit
 have p := ud_pos h.den_pos t.X
 have s1 := h.s1
 have s2 := h.s2
 have l1 := h.l1
 have em : un t.mid t.X = 4 * t.s * un (2 ^ (t.q - 2).toNat) t.X := un_mul _ _ _
 have el : un t.lo t.X = t.l * un (2 ^ (t.q - 2).toNat) t.X := un_mul _ _ _
 generalize hg : un (2 ^ (t.q - 2).toNat) t.X = g at *
 generalize hb : ud t.den t.X = b at *
 have m1 : 1 * b ≤ un t.mid t.X := by
  rw [em]
  exact Nat.le_trans (by omega) (Nat.mul_le_mul (show 1 ≤ 4 * t.s by omega) u1)
 refine ⟨?_, ?_, .inl ?_⟩
 · show 1 ≤ un t.mid t.X / ud t.den t.X
   rw [hb, Nat.le_div_iff_mul_le p]
   exact m1
 · show un t.mid t.X / ud t.den t.X < 10 ^ 39
   rw [hb, Nat.div_lt_iff_lt_mul p, em]
   have : 4 * t.s * g ≤ 4 * t.s * (10000 * b) := Nat.mul_le_mul_left _ u2
   have h2 : 4 * t.s * (10000 * b) = (40000 * t.s) * b := by
    rw [← Nat.mul_assoc, show 4 * t.s * 10000 = 40000 * t.s by omega]
   have h3 : (40000 * t.s) * b < 10 ^ 39 * b := Nat.mul_lt_mul_of_pos_right (by omega) p
   omega
 · have k : un t.mid t.X < (t.T t.X + 1) * b := by
    have := Nat.lt_div_mul_add (a := un t.mid t.X) (b := b) p
    show un t.mid t.X < (un t.mid t.X / ud t.den t.X + 1) * b
    rw [hb, Nat.add_mul, Nat.one_mul]
    exact this
   have k2 : un t.lo t.X < t.T t.X * b := by
    rw [Nat.add_mul, Nat.one_mul, em] at k
    rw [el]
    have : t.l * g + g ≤ 4 * t.s * g := by
     have := Nat.mul_le_mul_right g (show t.l + 1 ≤ 4 * t.s by omega)
     rwa [Nat.add_mul, Nat.one_mul] at this
    omega
   show lowOK t.lo t.mid t.den t.cl t.X
   unfold lowOK
   rw [hb]
   split
   · exact Nat.le_of_lt k2
   · exact k2

theorem tl_size : ∀ (n v : Nat), v < n → v ≠ 0 → 10 ^ ((tl v).length - 1) ≤ v ∧ v < 10 ^ (tl v).length ∧ 0 < (tl v).length
 | 0, v, h, _ => by omega
 | n + 1, v, h, h0 => by
   rw [tl_pos h0]
   by_cases h1 : v / 10 = 0
   · rw [h1, tl_zero]
     simp
     omega
   · obtain ⟨a, b, c⟩ := tl_size n (v / 10) (by omega) h1
     simp only [List.length_cons, Nat.add_sub_cancel]
     obtain ⟨k, hk⟩ : ∃ k, (tl (v / 10)).length = k + 1 := ⟨(tl (v / 10)).length - 1, by omega⟩
     rw [hk] at a b ⊢
     simp only [Nat.add_sub_cancel] at a
     refine ⟨?_, ?_, by omega⟩
     · rw [Nat.pow_succ]; omega
     · rw [Nat.pow_succ]; omega

theorem txt_size (v : Nat) (h : 1 ≤ v) : 10 ^ ((txt v).length - 1) ≤ v ∧ v < 10 ^ (txt v).length ∧ 1 ≤ (txt v).length := by
 have e : (txt v).length = (tl v).length := by unfold txt; rw [if_neg (by omega), List.length_reverse]
 rw [e]
 exact tl_size (v + 1) v (by omega) (by omega)

abbrev Wd.N (t : Wd) : Nat := (txt (t.T t.X)).length

abbrev Wd.e (t : Wd) : Int := t.X + t.N - 1

theorem Wd.Ok.N_le {t : Wd} (h : t.Ok) : 1 ≤ t.N ∧ t.N ≤ 39 := by
 obtain ⟨f1, f2, _⟩ := h.first
 exact ⟨txt_pos _, txt_len 38 _ f2⟩

theorem Wd.Ok.ten {t : Wd} (h : t.Ok) (y : Int) : un t.mid y < ud t.den y ↔ t.e < y := by
 obtain ⟨f1, f2, _⟩ := h.first
 obtain ⟨a, b, c⟩ := txt_size _ f1
 have hd := h.den_pos
 have hN : 1 ≤ t.N := c
 have pT : ∀ y, un t.mid y < ud t.den y ↔ t.T y = 0 := fun y => by
  show _ ↔ un t.mid y / ud t.den y = 0
  rw [Nat.div_eq_zero_iff]
  have := ud_pos hd y
  omega
 rw [pT]
 have e1 : t.T t.e = t.T t.X / 10 ^ (t.N - 1) := by
  have : t.e = t.X + ((t.N - 1 : Nat) : Int) := by show t.X + (t.N : Int) - 1 = _; omega
  rw [this]
  exact uT_add _ _ hd _ _
 have e2 : t.T (t.e + 1) = 0 := by
  have : t.e + 1 = t.X + (t.N : Int) := by show t.X + (t.N : Int) - 1 + 1 = _; omega
  rw [this]
  have := uT_add t.mid t.den hd t.X t.N
  show uT t.mid t.den (t.X + (t.N : Int)) = 0
  rw [this]
  exact Nat.div_eq_of_lt b
 have e3 : 1 ≤ t.T t.e := by
  rw [e1, Nat.le_div_iff_mul_le (Nat.pow_pos (by omega)), Nat.one_mul]
  exact a
 constructor
 · intro hy
   refine Classical.byContradiction fun hn => ?_
   obtain ⟨k, hk⟩ := Int.eq_ofNat_of_zero_le (show 0 ≤ t.e - y by omega)
   have q := uT_add t.mid t.den hd y k
   rw [show y + (k : Int) = t.e by omega] at q
   have hy' : uT t.mid t.den y = 0 := hy
   rw [hy', Nat.zero_div] at q
   have : t.T t.e = 0 := q
   omega
 · intro hy
   obtain ⟨k, hk⟩ := Int.eq_ofNat_of_zero_le (show 0 ≤ y - (t.e + 1) by omega)
   have q := uT_add t.mid t.den hd (t.e + 1) k
   rw [show t.e + 1 + (k : Int) = y by omega] at q
   show uT t.mid t.den y = 0
   rw [q, show uT t.mid t.den (t.e + 1) = 0 from e2, Nat.zero_div]

structure Wd.Best (t : Wd) (r : Nat) : Prop where
 lt : r < t.N
 ok : t.ok (t.X + r)
 no : ∀ z : Nat, r < z → z < t.N → ¬ t.ok (t.X + z)

theorem Wd.Ok.ok_mono {t : Wd} (h : t.Ok) (x : Int) (k : Nat) : t.ok (x + k) → t.ok x := by
 intro hk
 obtain ⟨a, b⟩ := M.ok_mono t.lo t.hi t.mid t.den h.den_pos t.cl x k
 rcases hk with hk | hk
 · exact .inl (a hk)
 · exact .inr (b hk)

theorem Wd.Ok.best {t : Wd} (h : t.Ok) (r : Nat) (h1 : r < t.N) (h2 : 0 < r → t.ok (t.X + r)) (h3 : r + 1 < t.N → ¬ t.ok (t.X + (r + 1 : Nat))) : t.Best r := by
 refine ⟨h1, ?_, ?_⟩
 · rcases Nat.eq_zero_or_pos r with e | e
   · subst e
     have := h.first.2.2
     simpa using this
   · exact h2 e
 · intro z hz hzN hk
   obtain ⟨k, rfl⟩ : ∃ k, z = r + 1 + k := ⟨z - (r + 1), by omega⟩
   refine h3 (by omega) (h.ok_mono (t.X + (r + 1 : Nat)) k ?_)
   rwa [show t.X + ((r + 1 : Nat) : Int) + (k : Int) = t.X + ((r + 1 + k : Nat) : Int) by omega]

theorem Wd.Best.try {t : Wd} {r : Nat} (b : t.Best r) (n : Nat) (h1 : 1 ≤ n) (h2 : n ≤ t.N - r) : t.ok (t.e + 1 - n) ↔ n = t.N - r := by
 have hr := b.lt
 have e : t.e + 1 - (n : Int) = t.X + ((t.N - n : Nat) : Int) := by show t.X + (t.N : Int) - 1 + 1 - n = _; omega
 rw [e]
 constructor
 · intro hk
   refine Classical.byContradiction fun hn => ?_
   exact b.no (t.N - n) (by omega) (by omega) hk
 · intro hn
   rw [hn, show t.N - (t.N - r) = r by omega]
   exact b.ok

def Wd.pick (t : Wd) (x : Int) : Nat :=
 if ¬ lowOK t.lo t.mid t.den t.cl x then t.T x + 1
 else if ¬ highOK t.hi t.mid t.den t.cl x then t.T x
 else if 2 * un t.mid x < (2 * t.T x + 1) * ud t.den x ∨ (2 * un t.mid x = (2 * t.T x + 1) * ud t.den x ∧ t.T x % 2 = 0) then t.T x
 else t.T x + 1

theorem Wd.Best.T_pos {t : Wd} (h : t.Ok) {r : Nat} (b : t.Best r) : 1 ≤ t.T (t.X + r) := by
 obtain ⟨f1, f2, _⟩ := h.first
 obtain ⟨a, _, c⟩ := txt_size _ f1
 have hr : r < (txt (t.T t.X)).length := b.lt
 have := uT_add t.mid t.den h.den_pos t.X r
 show 1 ≤ uT t.mid t.den (t.X + r)
 rw [this, Nat.le_div_iff_mul_le (Nat.pow_pos (by omega)), Nat.one_mul]
 exact Nat.le_trans (Nat.pow_le_pow_right (by omega) (by omega)) a

theorem Wd.Best.pick_pos {t : Wd} (h : t.Ok) {r : Nat} (b : t.Best r) : 1 ≤ t.pick (t.X + r) := by
 have := b.T_pos h
 unfold Wd.pick
 split
 · omega
 · split
   · exact this
   · split
     · exact this
     · omega

def Wd.vn (t : Wd) : Nat := t.s * 2 ^ t.q.toNat * 10 ^ (-t.X).toNat

def Wd.vd (t : Wd) : Nat := 2 ^ (-t.q).toNat * 10 ^ t.X.toNat

theorem Wd.vd_pos (t : Wd) : 0 < t.vd := Nat.mul_pos (Nat.pow_pos (by omega)) (Nat.pow_pos (by omega))

theorem Wd.cross (t : Wd) : t.vn * ud t.den t.X = un t.mid t.X * t.vd := by
  unfold Wd.vn Wd.vd un ud Wd.mid Wd.den
  have e : 2 ^ t.q.toNat * 2 ^ (2 - t.q).toNat = 4 * (2 ^ (t.q - 2).toNat * 2 ^ (-t.q).toNat) := by
    rw [show (4 : Nat) = 2 ^ 2 by rfl, ← Nat.pow_add, ← Nat.pow_add, ← Nat.pow_add]
    congr 1
    omega
  calc t.s * 2 ^ t.q.toNat * 10 ^ (-t.X).toNat * (2 ^ (2 - t.q).toNat * 10 ^ t.X.toNat) = t.s * (2 ^ t.q.toNat * 2 ^ (2 - t.q).toNat) * (10 ^ (-t.X).toNat * 10 ^ t.X.toNat) := by ac_rfl
    _ = t.s * (4 * (2 ^ (t.q - 2).toNat * 2 ^ (-t.q).toNat)) * (10 ^ (-t.X).toNat * 10 ^ t.X.toNat) := by rw [e]
    _ = 4 * t.s * 2 ^ (t.q - 2).toNat * 10 ^ (-t.X).toNat * (2 ^ (-t.q).toNat * 10 ^ t.X.toNat) := by ac_rfl

theorem cross_le {a b c d k : Nat} (hb : 0 < b) (hd : 0 < d) (h : a * d = c * b) : (k * b ≤ a ↔ k * d ≤ c) := by
  constructor
  · intro hk
    refine Nat.le_of_mul_le_mul_right (c := b) ?_ hb
    calc k * d * b = k * b * d := by ac_rfl
      _ ≤ a * d := Nat.mul_le_mul_right _ hk
      _ = c * b := h
  · intro hk
    refine Nat.le_of_mul_le_mul_right (c := d) ?_ hd
    calc k * b * d = k * d * b := by ac_rfl
      _ ≤ c * b := Nat.mul_le_mul_right _ hk
      _ = a * d := h.symm

theorem cross_ge {a b c d k : Nat} (hb : 0 < b) (hd : 0 < d) (h : a * d = c * b) : (a ≤ k * b ↔ c ≤ k * d) := by
  constructor
  · intro hk
    refine Nat.le_of_mul_le_mul_right (c := b) ?_ hb
    calc c * b = a * d := h.symm
      _ ≤ k * b * d := Nat.mul_le_mul_right _ hk
      _ = k * d * b := by ac_rfl
  · intro hk
    refine Nat.le_of_mul_le_mul_right (c := d) ?_ hd
    calc a * d = c * b := h
      _ ≤ k * d * b := Nat.mul_le_mul_right _ hk
      _ = k * b * d := by ac_rfl

theorem Wd.Ok.whole {t : Wd} (h : t.Ok) : t.vn / t.vd = t.T t.X := by
 have p := ud_pos h.den_pos t.X
 have v := t.vd_pos
 show _ = un t.mid t.X / ud t.den t.X
 apply Nat.le_antisymm
 · rw [Nat.le_div_iff_mul_le p, ← cross_le v p t.cross]
   exact Nat.div_mul_le_self _ _
 · rw [Nat.le_div_iff_mul_le v, cross_le v p t.cross]
   exact Nat.div_mul_le_self _ _

def Wd.least (t : Wd) : Nat := if un t.lo t.X % ud t.den t.X ≠ 0 ∨ t.cl = false then un t.lo t.X / ud t.den t.X + 1 else un t.lo t.X / ud t.den t.X

def Wd.most (t : Wd) : Nat := if un t.hi t.X % ud t.den t.X = 0 ∧ t.cl = false then un t.hi t.X / ud t.den t.X - 1 else un t.hi t.X / ud t.den t.X

theorem Wd.Ok.least_le {t : Wd} (h : t.Ok) (c : Nat) : t.least ≤ c ↔ if t.cl then un t.lo t.X ≤ c * ud t.den t.X else un t.lo t.X < c * ud t.den t.X := by
 have p := ud_pos h.den_pos t.X
 unfold Wd.least
 generalize un t.lo t.X = a
 generalize ud t.den t.X = b at *
 have dm := Nat.div_add_mod a b
 have ml := Nat.mod_lt a p
 have k1 : ∀ c, a / b < c ↔ a < c * b := fun c => Nat.div_lt_iff_lt_mul p
 cases hc : t.cl
 · simp only [or_true, if_true, Bool.false_eq_true, if_false]
   exact k1 c
 · simp only [if_true]
   by_cases hm : a % b = 0
   · simp only [hm]
     simp
     constructor
     · intro hk
       have := Nat.mul_le_mul_right b hk
       rw [Nat.mul_comm (a / b)] at this
       omega
     · intro hk
       have := Nat.div_le_div_right (c := b) hk
       rwa [Nat.mul_div_cancel _ p] at this
   · simp only [hm, ne_eq, not_false_eq_true, true_or, if_true]
     have := k1 c
     constructor
     · intro hk
       have := this.1 hk
       omega
     · intro hk
       refine this.2 ?_
       refine Nat.lt_of_le_of_ne hk fun e => hm ?_
       rw [e]
       exact Nat.mul_mod_left _ _

theorem Wd.Ok.le_most {t : Wd} (h : t.Ok) (c : Nat) (hc1 : 1 ≤ c) : c ≤ t.most ↔ if t.cl then c * ud t.den t.X ≤ un t.hi t.X else c * ud t.den t.X < un t.hi t.X := by
 have p := ud_pos h.den_pos t.X
 unfold Wd.most
 generalize un t.hi t.X = a
 generalize ud t.den t.X = b at *
 have dm := Nat.div_add_mod a b
 have ml := Nat.mod_lt a p
 have k1 : ∀ c, c ≤ a / b ↔ c * b ≤ a := fun c => Nat.le_div_iff_mul_le p
 cases hc : t.cl
 · simp only [and_true, Bool.false_eq_true, if_false]
   by_cases hm : a % b = 0
   · simp only [hm, if_true]
     have e : a = a / b * b := by rw [Nat.mul_comm]; omega
     constructor
     · intro hk
       have : c < a / b := by omega
       have := Nat.mul_lt_mul_of_pos_right this p
       omega
     · intro hk
       have : c < a / b := by
        refine Classical.byContradiction fun hn => ?_
        have := Nat.mul_le_mul_right b (show a / b ≤ c by omega)
        omega
       omega
   · simp only [hm, if_false]
     rw [k1]
     constructor
     · intro hk
       refine Nat.lt_of_le_of_ne hk fun e => hm ?_
       rw [← e]
       exact Nat.mul_mod_left _ _
     · intro hk
       omega
 · simp only [Bool.true_eq_false, and_false, if_false, if_true]
   exact k1 c

theorem Wd.Ok.low_at {t : Wd} (h : t.Ok) (z : Nat) : t.least ≤ t.T t.X / 10 ^ z * 10 ^ z ↔ lowOK t.lo t.mid t.den t.cl (t.X + z) := by
 rw [h.least_le, lowOK_at _ _ _ h.den_pos, uT_add _ _ h.den_pos]

theorem Wd.Ok.high_at {t : Wd} (h : t.Ok) (z : Nat) : t.T t.X / 10 ^ z * 10 ^ z + 10 ^ z ≤ t.most ↔ highOK t.hi t.mid t.den t.cl (t.X + z) := by
 have e : t.T t.X / 10 ^ z * 10 ^ z + 10 ^ z = (t.T t.X / 10 ^ z + 1) * 10 ^ z := by rw [Nat.add_mul, Nat.one_mul]
 rw [e, h.le_most _ (Nat.mul_pos (Nat.succ_pos _) (Nat.pow_pos (by omega))), highOK_at _ _ _ h.den_pos, uT_add _ _ h.den_pos]

theorem Wd.Ok.side {t : Wd} (h : t.Ok) (z : Nat) :
 (2 * t.vn < (2 * (t.T t.X / 10 ^ z) + 1) * 10 ^ z * t.vd ↔ 2 * un t.mid (t.X + z) < (2 * t.T (t.X + z) + 1) * ud t.den (t.X + z)) ∧
 (2 * t.vn = (2 * (t.T t.X / 10 ^ z) + 1) * 10 ^ z * t.vd ↔ 2 * un t.mid (t.X + z) = (2 * t.T (t.X + z) + 1) * ud t.den (t.X + z)) := by
 have p := ud_pos h.den_pos t.X
 have v := t.vd_pos
 have e0 : t.T (t.X + z) = t.T t.X / 10 ^ z := uT_add _ _ h.den_pos _ _
 rw [e0]
 generalize t.T t.X / 10 ^ z = d
 have c2 : 2 * t.vn * ud t.den t.X = un (2 * t.mid) t.X * t.vd := by
  rw [un_mul, Nat.mul_assoc, Nat.mul_assoc, t.cross]
 have a1 := cross_le (k := (2 * d + 1) * 10 ^ z) v p c2
 have a2 := cross_ge (k := (2 * d + 1) * 10 ^ z) v p c2
 have b1 := un_ge (2 * t.mid) t.den (2 * d + 1) h.den_pos t.X z
 have b2 := un_le (2 * t.mid) t.den (2 * d + 1) h.den_pos t.X z
 rw [un_mul] at b1 b2
 rw [un_mul] at a1 a2 b1 b2
 constructor <;> omega

theorem tl_ten (v : Nat) (h : v ≠ 0) : tl (v * 10) = 48 :: tl v := by
 rw [tl_pos (by omega), Nat.mul_mod_left, Nat.mul_div_cancel _ (by omega)]

theorem tl_tens (v : Nat) (h : v ≠ 0) : ∀ z : Nat, tl (v * 10 ^ z) = List.replicate z 48 ++ tl v
 | 0 => by simp
 | z + 1 => by
   rw [Nat.pow_succ, ← Nat.mul_assoc, tl_ten _ (by have := Nat.mul_pos (Nat.pos_of_ne_zero h) (Nat.pow_pos (n := z) (show 0 < 10 by omega)); omega), tl_tens v h z, List.replicate_succ, List.cons_append]

theorem tl_last : ∀ (n v : Nat), v < n → v ≠ 0 → ∃ l c, tl v = l ++ [c] ∧ c ≠ 48
 | 0, v, h, _ => by omega
 | n + 1, v, h, h0 => by
   rw [tl_pos h0]
   by_cases h1 : v / 10 = 0
   · rw [h1, tl_zero]
     exact ⟨[], 48 + v % 10, rfl, by omega⟩
   · obtain ⟨l, c, e, hc⟩ := tl_last n (v / 10) (by omega) h1
     exact ⟨(48 + v % 10) :: l, c, by rw [e]; rfl, hc⟩

theorem txt_tens (v : Nat) (h : 1 ≤ v) (z : Nat) : txt (v * 10 ^ z) = (tl v).reverse ++ List.replicate z 48 := by
 have p : v * 10 ^ z ≠ 0 := by have := Nat.mul_pos h (Nat.pow_pos (n := z) (show 0 < 10 by omega)); omega
 unfold txt
 rw [if_neg p, tl_tens v (by omega) z, List.reverse_append, List.reverse_replicate]

theorem txt_one (v : Nat) (h : 1 ≤ v) : txt v = (tl v).reverse := by
 have := txt_tens v h 0
 simpa using this

theorem txt_tens_len (v : Nat) (h : 1 ≤ v) (z : Nat) : (txt (v * 10 ^ z)).length = (txt v).length + z := by
 rw [txt_tens v h z, txt_one v h, List.length_append, List.length_replicate]

def sd (v : Nat) : List Nat := ((tl v).dropWhile (fun c => decide (c = 48))).reverse

theorem drop_rep (l : List Nat) : ∀ z : Nat, (List.replicate z 48 ++ l).dropWhile (fun c => decide (c = 48)) = l.dropWhile (fun c => decide (c = 48))
 | 0 => by simp
 | z + 1 => by
   rw [List.replicate_succ, List.cons_append, List.dropWhile_cons]
   simp only [decide_true, if_true]
   exact drop_rep l z

theorem drop_ne : ∀ (l : List Nat) (c : Nat), c ∈ l → c ≠ 48 → l.dropWhile (fun c => decide (c = 48)) ≠ []
 | [], c, h, _ => by simp at h
 | a :: r, c, h, hc => by
   rw [List.dropWhile_cons]
   by_cases ha : a = 48
   · simp only [ha, decide_true, if_true]
     refine drop_ne r c ?_ hc
     rcases List.mem_cons.1 h with e | e
     · omega
     · exact e
   · simp [ha]

theorem sd_ne (v : Nat) (h : 1 ≤ v) : sd v ≠ [] := by
 obtain ⟨l, c, e, hc⟩ := tl_last (v + 1) v (by omega) (by omega)
 unfold sd
 rw [e]
 intro hn
 rw [List.reverse_eq_nil_iff] at hn
 exact drop_ne (l ++ [c]) c (by simp) hc hn

theorem bare_tens (v : Nat) (h : 1 ≤ v) (z : Nat) (x : Int) : bareD (txt (v * 10 ^ z)) = sd v ∧ bareE (txt (v * 10 ^ z)) x = x + z + ((txt v).length : Int) - ((sd v).length : Int) := by
 obtain ⟨l, c, e, hc⟩ := tl_last (v + 1) v (by omega) (by omega)
 have tL : trimL (txt (v * 10 ^ z)) = txt (v * 10 ^ z) := by
  unfold trimL
  rw [txt_tens v h z, e, List.reverse_append, List.reverse_singleton, List.singleton_append, List.cons_append, List.dropWhile_cons]
  simp [hc]
 have bd : bareD (txt (v * 10 ^ z)) = sd v := by
  unfold bareD trimR
  rw [tL, txt_tens v h z, List.reverse_append, List.reverse_replicate, List.reverse_reverse, drop_rep]
  rfl
 refine ⟨bd, ?_⟩
 unfold bareE
 rw [bd, if_neg (sd_ne v h), tL, txt_tens_len v h z]
 omega

end Go.Proofs.YtmglhkdgfcbonaaGreatDoor.M
