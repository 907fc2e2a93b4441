import Derived.Shelf.RegionOpenPlain
import Derived.Test.YtfdgkleoaehjaaaGreatDoorsGBC
set_option maxHeartbeats 2000000
set_option maxRecDepth 10000
namespace Go.Proofs.YtfdgkleoaehjaaaGreatDoor.M
set_option linter.unusedVariables false
set_option maxRecDepth 100000
theorem M6 : 10 ^ 643 <= 2 ^ 2136 := by decide +kernel

theorem p59 : 10 ^ 59 <= 2 ^ 196 := by decide +kernel

theorem p3 : 10 ^ 3 <= 2 ^ 10 := by decide +kernel

theorem MP : 2 ^ 485 <= 10 ^ 146 := by decide +kernel

theorem p28 : 2 ^ 93 <= 10 ^ 28 := by decide +kernel

theorem p4 : 2 ^ 13 <= 10 ^ 4 := by decide +kernel

theorem BV {a b x y : Nat} (h : a ^ x <= b ^ y) (k : Nat) : a ^ (x * k) <= b ^ (y * k) := by
 rw [Nat.pow_mul, Nat.pow_mul];exact Nat.pow_le_pow_left h k

theorem EV (m : Nat) (h : m <= 16600) : 10 ^ (m * 30103 / 100000 - 2) <= 2 ^ m := by
 obtain ⟨a, b, hm, hb⟩ : ∃ a b, m = 2136 * a + b /\ b < 2136 := ⟨m / 2136, m % 2136, by omega, by omega⟩;obtain ⟨c, r, hb2, hr⟩ : ∃ c r, b = 196 * c + r /\ r < 196 := ⟨b / 196, b % 196, by omega, by omega⟩;obtain ⟨d, t, hr2, ht⟩ : ∃ d t, r = 10 * d + t /\ t < 10 := ⟨r / 10, r % 10, by omega, by omega⟩;have e : m * 30103 / 100000 - 2 <= 643 * a + 59 * c + 3 * d := by omega
 have h1 : 10 ^ (643 * a + 59 * c + 3 * d) <= 2 ^ (2136 * a + 196 * c + 10 * d) := by
  rw [Nat.pow_add, Nat.pow_add, Nat.pow_add, Nat.pow_add];exact Nat.mul_le_mul (Nat.mul_le_mul (BV M6 a) (BV p59 c)) (BV p3 d)
 exact Nat.le_trans (Nat.pow_le_pow_right (by omega) e) (Nat.le_trans h1 (Nat.pow_le_pow_right (by omega) (by omega)))

theorem FI (m : Nat) (h : m <= 16600) : 2 ^ m <= 10 ^ (m * 30103 / 100000 + 2) := by
 obtain ⟨a, b, hm, hb⟩ : ∃ a b, m = 485 * a + b /\ b < 485 := ⟨m / 485, m % 485, by omega, by omega⟩;obtain ⟨c, r, hb2, hr⟩ : ∃ c r, b = 93 * c + r /\ r < 93 := ⟨b / 93, b % 93, by omega, by omega⟩;obtain ⟨d, t, hr2, ht⟩ : ∃ d t, r = 13 * d + t /\ t < 13 := ⟨r / 13, r % 13, by omega, by omega⟩
 obtain ⟨u, hu, hut⟩ : ∃ u, 2 ^ t <= 10 ^ u /\ u * 3 <= t + 2 := by
  refine ⟨(t + 2) / 3, ?_, by omega⟩;have : t = 0 \/ t = 1 \/ t = 2 \/ t = 3 \/ t = 4 \/ t = 5 \/ t = 6 \/ t = 7 \/ t = 8 \/ t = 9 \/ t = 10 \/ t = 11 \/ t = 12 := by omega
  rcases this with rfl | rfl | rfl | rfl | rfl | rfl | rfl | rfl | rfl | rfl | rfl | rfl | rfl <;> decide
 have e : 146 * a + 28 * c + 4 * d + u <= m * 30103 / 100000 + 2 := by omega
 have h1 : 2 ^ (485 * a + 93 * c + 13 * d + t) <= 10 ^ (146 * a + 28 * c + 4 * d + u) := by
  rw [Nat.pow_add, Nat.pow_add, Nat.pow_add, Nat.pow_add, Nat.pow_add, Nat.pow_add];exact Nat.mul_le_mul (Nat.mul_le_mul (Nat.mul_le_mul (BV MP a) (BV p28 c)) (BV p4 d)) hu
 have e2 : m = 485 * a + 93 * c + 13 * d + t := by omega
 rw [e2] at e |-;exact Nat.le_trans h1 (Nat.pow_le_pow_right (by omega) e)

def un (m : Nat) (x : Int) : Nat := m * 10 ^ (-x).toNat

def ud (den : Nat) (x : Int) : Nat := den * 10 ^ x.toNat

theorem iZ {den : Nat} (h : 0 < den) (x : Int) : 0 < ud den x := Nat.mul_pos h (Nat.pow_pos (by omega))

theorem wH (m den : Nat) (x : Int) (k : Nat) : un m x * ud den (x + k) = un m (x + k) * ud den x * 10 ^ k := by
  unfold un ud
  have e : 10 ^ (-x).toNat * 10 ^ (x + k).toNat = 10 ^ (-(x + k)).toNat * 10 ^ x.toNat * 10 ^ k := by
    rw [<- Nat.pow_add, <- Nat.pow_add, <- Nat.pow_add]
    congr 1
    omega
  calc m * 10 ^ (-x).toNat * (den * 10 ^ (x + k).toNat) = m * den * (10 ^ (-x).toNat * 10 ^ (x + k).toNat) := by
        rw [Nat.mul_assoc, Nat.mul_left_comm (10 ^ (-x).toNat), <- Nat.mul_assoc]
    _ = m * den * (10 ^ (-(x + k)).toNat * 10 ^ x.toNat * 10 ^ k) := by rw [e]
    _ = m * 10 ^ (-(x + k)).toNat * (den * 10 ^ x.toNat) * 10 ^ k := by
        rw [<- Nat.mul_assoc, <- Nat.mul_assoc, Nat.mul_assoc m, Nat.mul_comm den, <- Nat.mul_assoc, Nat.mul_assoc _ den]

theorem M7 (m den c : Nat) (hd : 0 < den) (x : Int) (k : Nat) : un m (x + k) <= c * ud den (x + k) ↔ un m x <= c * 10 ^ k * ud den x := by
  have s := wH m den x k;have p1 := iZ hd x;have p2 := iZ hd (x + k);have p3 : 0 < 10 ^ k := Nat.pow_pos (by omega)
  constructor
  . intro h;refine Nat.le_of_mul_le_mul_right (c := ud den (x + k)) ?_ p2;rw [s]
    calc un m (x + k) * ud den x * 10 ^ k <= c * ud den (x + k) * ud den x * 10 ^ k := Nat.mul_le_mul_right _ (Nat.mul_le_mul_right _ h)
      _ = c * 10 ^ k * ud den x * ud den (x + k) := by
          rw [Nat.mul_assoc c, Nat.mul_comm (ud den (x + k)), <- Nat.mul_assoc, Nat.mul_right_comm, Nat.mul_right_comm c]
  . intro h;refine Nat.le_of_mul_le_mul_right (c := ud den x * 10 ^ k) ?_ (Nat.mul_pos p1 p3);rw [<- Nat.mul_assoc, <- s]
    calc un m x * ud den (x + k) <= c * 10 ^ k * ud den x * ud den (x + k) := Nat.mul_le_mul_right _ h
      _ = c * ud den (x + k) * (ud den x * 10 ^ k) := by
          rw [Nat.mul_right_comm _ (ud den x), Nat.mul_right_comm c, Nat.mul_assoc (c * ud den (x + k)), Nat.mul_comm (10 ^ k)]

theorem JF (m den c : Nat) (hd : 0 < den) (x : Int) (k : Nat) : c * ud den (x + k) <= un m (x + k) ↔ c * 10 ^ k * ud den x <= un m x := by
 have s := wH m den x k;have p1 := iZ hd x;have p2 := iZ hd (x + k);have p3 : 0 < 10 ^ k := Nat.pow_pos (by omega);have e : c * ud den (x + k) * (ud den x * 10 ^ k) = c * 10 ^ k * ud den x * ud den (x + k) := by ac_rfl
 constructor
 . intro h;refine Nat.le_of_mul_le_mul_right (c := ud den (x + k)) ?_ p2;rw [s, <- e, Nat.mul_assoc (un m (x + k))];exact Nat.mul_le_mul_right _ h
 . intro h;refine Nat.le_of_mul_le_mul_right (c := ud den x * 10 ^ k) ?_ (Nat.mul_pos p1 p3);rw [e, <- Nat.mul_assoc, <- s];exact Nat.mul_le_mul_right _ h

def uT (m den : Nat) (x : Int) : Nat := un m x / ud den x

theorem oL (m den : Nat) (hd : 0 < den) (x : Int) (k : Nat) : uT m den (x + k) = uT m den x / 10 ^ k := by
 have p1 := iZ hd x;have p2 := iZ hd (x + k);have p3 : 0 < 10 ^ k := Nat.pow_pos (by omega);unfold uT
 apply Nat.le_antisymm
 . rw [Nat.le_div_iff_mul_le p3, Nat.le_div_iff_mul_le p1, <- JF m den _ hd x k];exact Nat.div_mul_le_self _ _
 . rw [Nat.le_div_iff_mul_le p2, JF m den _ hd x k, <- Nat.le_div_iff_mul_le p1, <- Nat.le_div_iff_mul_le p3];exact Nat.le_refl _

def uM (lo m den : Nat) (cl : Bool) (x : Int) : Prop := if cl then un lo x <= uT m den x * ud den x else un lo x < uT m den x * ud den x

def xM (hi m den : Nat) (cl : Bool) (x : Int) : Prop := if cl then (uT m den x + 1) * ud den x <= un hi x else (uT m den x + 1) * ud den x < un hi x

instance (lo m den : Nat) (cl : Bool) (x : Int) : Decidable (uM lo m den cl x) := by unfold uM; infer_instance

instance (hi m den : Nat) (cl : Bool) (x : Int) : Decidable (xM hi m den cl x) := by unfold xM; infer_instance

def uB (m : Int) : Int := (m * 30103).tdiv 100000 - 2

theorem GL (m : Nat) : uB (m : Int) = ((m * 30103 / 100000 : Nat) : Int) - 2 := by
 unfold uB;rw [Int.tdiv_eq_ediv_of_nonneg (by omega)];omega

theorem GJ (m : Nat) : uB (-(m : Int)) = -((m * 30103 / 100000 : Nat) : Int) - 2 := by
 unfold uB;rw [show -(m : Int) * 30103 = -((m * 30103 : Nat) : Int) by omega, Int.neg_tdiv, Int.tdiv_eq_ediv_of_nonneg (by omega)];omega

theorem ID (m : Int) (h1 : -16600 <= m) (h2 : m <= 16600) :
 ud (2 ^ (-m).toNat) (uB m) <= un (2 ^ m.toNat) (uB m) /\ un (2 ^ m.toNat) (uB m) <= 10000 * ud (2 ^ (-m).toNat) (uB m) := by
 unfold un ud;rcases Int.le_total 0 m with h | h
 . obtain ⟨k, rfl⟩ := Int.eq_ofNat_of_zero_le h;have e0 : (-(k : Int)).toNat = 0 := by omega
   have e1 : ((k : Int)).toNat = k := by omega
   rw [e0, e1, GL, Nat.pow_zero, Nat.one_mul];have lo := EV k (by omega);have up := FI k (by omega);generalize k * 30103 / 100000 = f at *;rcases Nat.lt_or_ge f 2 with hf | hf
   . have a1 : ((f : Int) - 2).toNat = 0 := by omega
     have a2 : (-((f : Int) - 2)).toNat = 2 - f := by omega
     rw [a1, a2, Nat.pow_zero];have p : 0 < 2 ^ k * 10 ^ (2 - f) := Nat.mul_pos (Nat.pow_pos (by omega)) (Nat.pow_pos (by omega));refine ⟨p, ?_⟩;have := Nat.mul_le_mul_right (10 ^ (2 - f)) up;rw [<- Nat.pow_add, show f + 2 + (2 - f) = 4 by omega] at this;exact this
   . have a1 : ((f : Int) - 2).toNat = f - 2 := by omega
     have a2 : (-((f : Int) - 2)).toNat = 0 := by omega
     rw [a1, a2, Nat.pow_zero, Nat.mul_one];refine ⟨lo, ?_⟩;rw [show f + 2 = 4 + (f - 2) by omega, Nat.pow_add] at up;exact up
 . obtain ⟨k, hk⟩ := Int.eq_ofNat_of_zero_le (show 0 <= -m by omega);have em : m = -(k : Int) := by omega
   subst em;have e0 : (-(-(k : Int))).toNat = k := by omega
   have e1 : (-(k : Int)).toNat = 0 := by omega
   rw [e0, e1, GJ, Nat.pow_zero, Nat.one_mul];have lo := EV k (by omega);have up := FI k (by omega);generalize k * 30103 / 100000 = f at *;have a1 : (-(f : Int) - 2).toNat = 0 := by omega
   have a2 : (-(-(f : Int) - 2)).toNat = f + 2 := by omega
   rw [a1, a2, Nat.pow_zero, Nat.mul_one];refine ⟨up, ?_⟩;rcases Nat.lt_or_ge f 2 with hf | hf
   . have p : 1 <= 2 ^ k := Nat.pow_pos (by omega);have : 10 ^ (f + 2) <= 10 ^ 4 := Nat.pow_le_pow_right (by omega) (by omega);omega
   . rw [show f + 2 = 4 + (f - 2) by omega, Nat.pow_add];exact Nat.mul_le_mul_left _ lo

structure Wd where
 s : Nat
 l : Nat
 q : Int

def Wd.mid (t : Wd) : Nat := 4 * t.s * 2 ^ (t.q - 2).toNat

def Wd.lo (t : Wd) : Nat := t.l * 2 ^ (t.q - 2).toNat

def Wd.hi (t : Wd) : Nat := (4 * t.s + 2) * 2 ^ (t.q - 2).toNat

def Wd.den (t : Wd) : Nat := 2 ^ (2 - t.q).toNat

def Wd.cl (t : Wd) : Bool := decide (t.s % 2 = 0)

structure Wd.Ok (t : Wd) : Prop where
 s1 : 1 <= t.s
 s2 : t.s < 2 ^ 113
 l1 : t.l < 4 * t.s
 q1 : -16598 <= t.q
 q2 : t.q <= 16600

theorem Wd.Ok.den_pos {t : Wd} (h : t.Ok) : 0 < t.den := Nat.pow_pos (by omega)

abbrev Wd.X (t : Wd) : Int := uB (t.q - 2)

abbrev Wd.T (t : Wd) (x : Int) : Nat := uT t.mid t.den x

def Wd.ok (t : Wd) (x : Int) : Prop := uM t.lo t.mid t.den t.cl x \/ xM t.hi t.mid t.den t.cl x

instance (t : Wd) (x : Int) : Decidable (t.ok x) := by unfold Wd.ok; infer_instance

theorem GE (c m : Nat) (x : Int) : un (c * m) x = c * un m x := by unfold un; rw [Nat.mul_assoc]

theorem Wd.Ok.unit {t : Wd} (h : t.Ok) : ud t.den t.X <= un (2 ^ (t.q - 2).toNat) t.X /\ un (2 ^ (t.q - 2).toNat) t.X <= 10000 * ud t.den t.X := by
 have := ID (t.q - 2) (by have := h.q1; omega) (by have := h.q2; omega);unfold Wd.den
 rwa [show (-(t.q - 2)).toNat = (2 - t.q).toNat by omega] at this

theorem Wd.Ok.first {t : Wd} (h : t.Ok) : 1 <= t.T t.X /\ t.T t.X < 10 ^ 39 /\ t.ok t.X := by
 obtain ⟨u1, u2⟩ := h.unit;have p := iZ h.den_pos t.X;have s1 := h.s1;have s2 := h.s2;have l1 := h.l1;have em : un t.mid t.X = 4 * t.s * un (2 ^ (t.q - 2).toNat) t.X := GE _ _ _;have el : un t.lo t.X = t.l * un (2 ^ (t.q - 2).toNat) t.X := GE _ _ _;generalize hg : un (2 ^ (t.q - 2).toNat) t.X = g at *;generalize hb : ud t.den t.X = b at *
 have m1 : 1 * b <= un t.mid t.X := by
  rw [em];exact Nat.le_trans (by omega) (Nat.mul_le_mul (show 1 <= 4 * t.s by omega) u1)
 refine ⟨?_, ?_, .inl ?_⟩
 . show 1 <= un t.mid t.X / ud t.den t.X
   rw [hb, Nat.le_div_iff_mul_le p];exact m1
 . show un t.mid t.X / ud t.den t.X < 10 ^ 39
   rw [hb, Nat.div_lt_iff_lt_mul p, em];have : 4 * t.s * g <= 4 * t.s * (10000 * b) := Nat.mul_le_mul_left _ u2
   have h2 : 4 * t.s * (10000 * b) = (40000 * t.s) * b := by
    rw [<- Nat.mul_assoc, show 4 * t.s * 10000 = 40000 * t.s by omega]
   have h3 : (40000 * t.s) * b < 10 ^ 39 * b := Nat.mul_lt_mul_of_pos_right (by omega) p;omega
 . have k : un t.mid t.X < (t.T t.X + 1) * b := by
    have := Nat.lt_div_mul_add (a := un t.mid t.X) (b := b) p
    show un t.mid t.X < (un t.mid t.X / ud t.den t.X + 1) * b
    rw [hb, Nat.add_mul, Nat.one_mul];exact this
   have k2 : un t.lo t.X < t.T t.X * b := by
    rw [Nat.add_mul, Nat.one_mul, em] at k;rw [el]
    have : t.l * g + g <= 4 * t.s * g := by
     have := Nat.mul_le_mul_right g (show t.l + 1 <= 4 * t.s by omega)
     rwa [Nat.add_mul, Nat.one_mul] at this
    omega
   show uM t.lo t.mid t.den t.cl t.X
   unfold uM;rw [hb];split
   . exact Nat.le_of_lt k2
   . exact k2

theorem AG : ∀ (n v : Nat), v < n -> v ≠ 0 -> 10 ^ ((tl v).length - 1) <= v /\ v < 10 ^ (tl v).length /\ 0 < (tl v).length
 | 0, v, h, _ => by omega
 | n + 1, v, h, h0 => by
   rw [lL h0]
   by_cases h1 : v / 10 = 0
   . rw [h1, mQ]
     simp
     omega
   . obtain ⟨a, b, c⟩ := AG n (v / 10) (by omega) h1;simp only [List.length_cons, Nat.add_sub_cancel];obtain ⟨k, hk⟩ : ∃ k, (tl (v / 10)).length = k + 1 := ⟨(tl (v / 10)).length - 1, by omega⟩;rw [hk] at a b |-;simp only [Nat.add_sub_cancel] at a;refine ⟨?_, ?_, by omega⟩
     . rw [Nat.pow_succ]; omega
     . rw [Nat.pow_succ]; omega

theorem FQ (v : Nat) (h : 1 <= v) : 10 ^ ((txt v).length - 1) <= v /\ v < 10 ^ (txt v).length /\ 1 <= (txt v).length := by
 have e : (txt v).length = (tl v).length := by unfold txt; rw [if_neg (by omega), List.length_reverse]
 rw [e];exact AG (v + 1) v (by omega) (by omega)

abbrev Wd.N (t : Wd) : Nat := (txt (t.T t.X)).length

abbrev Wd.e (t : Wd) : Int := t.X + t.N - 1

theorem Wd.Ok.N_le {t : Wd} (h : t.Ok) : 1 <= t.N /\ t.N <= 39 := by
 obtain ⟨f1, f2, _⟩ := h.first;exact ⟨oD _, j3 38 _ f2⟩

theorem Wd.Ok.ten {t : Wd} (h : t.Ok) (y : Int) : un t.mid y < ud t.den y ↔ t.e < y := by
 obtain ⟨f1, f2, _⟩ := h.first;obtain ⟨a, b, c⟩ := FQ _ f1;have hd := h.den_pos;have hN : 1 <= t.N := c
 have pT : ∀ y, un t.mid y < ud t.den y ↔ t.T y = 0 := fun y => by
  show _ ↔ un t.mid y / ud t.den y = 0
  rw [Nat.div_eq_zero_iff];have := iZ hd y;omega
 rw [pT]
 have e1 : t.T t.e = t.T t.X / 10 ^ (t.N - 1) := by
  have : t.e = t.X + ((t.N - 1 : Nat) : Int) := by show t.X + (t.N : Int) - 1 = _; omega
  rw [this];exact oL _ _ hd _ _
 have e2 : t.T (t.e + 1) = 0 := by
  have : t.e + 1 = t.X + (t.N : Int) := by show t.X + (t.N : Int) - 1 + 1 = _; omega
  rw [this];have := oL t.mid t.den hd t.X t.N
  show uT t.mid t.den (t.X + (t.N : Int)) = 0
  rw [this];exact Nat.div_eq_of_lt b
 have e3 : 1 <= t.T t.e := by
  rw [e1, Nat.le_div_iff_mul_le (Nat.pow_pos (by omega)), Nat.one_mul];exact a
 constructor
 . intro hy
   refine Classical.byContradiction fun hn => ?_
   obtain ⟨k, hk⟩ := Int.eq_ofNat_of_zero_le (show 0 <= t.e - y by omega);have q := oL t.mid t.den hd y k;rw [show y + (k : Int) = t.e by omega] at q;have hy' : uT t.mid t.den y = 0 := hy;rw [hy', Nat.zero_div] at q;have : t.T t.e = 0 := q;omega
 . intro hy;obtain ⟨k, hk⟩ := Int.eq_ofNat_of_zero_le (show 0 <= y - (t.e + 1) by omega);have q := oL t.mid t.den hd (t.e + 1) k;rw [show t.e + 1 + (k : Int) = y by omega] at q
   show uT t.mid t.den y = 0
   rw [q, show uT t.mid t.den (t.e + 1) = 0 from e2, Nat.zero_div]

end Go.Proofs.YtfdgkleoaehjaaaGreatDoor.M
namespace Go.Proofs.YtfdgkleoaehjaaaGreatDoor
open Go.RowKit
set_option linter.unusedVariables false
set_option maxRecDepth 100000
theorem JP (m : Int) (h1 : -20000 <= m) (h2 : m <= 20000) : -7000 <= M.uB m /\ M.uB m <= 7000 := by
 rcases Int.le_total 0 m with h | h
 . obtain ⟨k, rfl⟩ := Int.eq_ofNat_of_zero_le h;rw [M.GL]; omega
 . obtain ⟨k, hk⟩ := Int.eq_ofNat_of_zero_le (show 0 <= -m by omega);have e : m = -(k : Int) := by omega
   subst e;rw [M.GJ]; omega

theorem AH {x y : Nat} : (aY (x : Int) (y : Int) < 0) = (x < y) := by
 unfold aY
 by_cases h : (x : Int) < y
 . rw [if_pos h]; simp; omega
 . rw [if_neg h]
   by_cases h2 : (y : Int) < x
   . rw [if_pos h2]; simp; omega
   . rw [if_neg h2]; simp; omega

theorem bX (a b K J : Nat) (h1 : (D a).length <= K) (h2 : (D b).length <= J) : (D (a * b)).length <= K + J := by
 refine M.len_of_lt (B := 4294967296) (by omega) _ _ ?_;rw [Nat.pow_add];exact Nat.mul_lt_mul'' (lY a K h1) (lY b J h2)

theorem BN (m den : Nat) (y : Int) (a b : Option Addr) (c d : Nat) (w : World) (h1 : -9000 <= y) (h2 : y <= 9000) (lm : (D m).length <= 20000) (ld : (D den).length <= 20000) (ra : Rd w a (D m)) (rb : Rd w b (D den)) :
 Calls Tryz.prog 140 #[.slice a (D m).length c, .slice b (D den).length d, .int .i64 y] w fun e w' => e = .returned (.bool (decide (M.un m y < M.ud den y))) /\ Below w.heap.size w w' := by
 unfold M.un M.ud
 by_cases hy : 0 <= y
 . obtain ⟨k, rfl⟩ := Int.eq_ofNat_of_zero_le hy;have e0 : (-(k : Int)).toNat = 0 := by omega
   have e1 : ((k : Int)).toNat = k := by omega
   rw [e0, e1, Nat.pow_zero, Nat.mul_one];have lt : (D (10 ^ k)).length <= 2401 := iQ 10 k (gL k (by omega));have lp := bX den (10 ^ k) 20000 2401 ld lt;obtain ⟨P, hP⟩ : ∃ P, P = den * 10 ^ k := ⟨_, rfl⟩
   have kM := fun (v : World) (x : Option Addr) (cx : Nat) hr hr2 => dK b x _ _ d cx den (10 ^ k) v rfl rfl (by omega) (by omega) hr hr2
   rw [<- hP] at kM lp |-;clear hP e0 e1;have kc := AH (x := m) (y := P);go_enter Tryz.func140, Tryz.ntmps140;go_wp2_with fail;refine (fF k _ (by omega)).mono ?_;rintro e v1 ⟨ta, tc, rfl, ot, hb⟩;go_wp2_with fail;refine (kM _ _ _ (rb.below hb) (Rd.own ot)).mono ?_;rintro e v2 ⟨pa, pc, rfl, po, hb2⟩;have b0 := hb.trans (hb2.mono hb.size);clear ot hb hb2 kM;go_wp2_with fail;refine (dL a pa _ _ c pc m P _ rfl rfl (by omega) (by omega) (ra.below b0) (Rd.own po)).mono ?_;rintro e v3 ⟨rfl, rfl⟩;have HB := hid b0; clear b0;go_wp2_with fail;go_ret;exact ⟨by simp, HB.out⟩
 . obtain ⟨k, hk⟩ := Int.eq_ofNat_of_zero_le (show 0 <= -y by omega);have ey : y = -(k : Int) := by omega
   subst ey;have hy' : ¬ (0 : Int) <= -(k : Int) := hy;have e0 : (-(-(k : Int))).toNat = k := by omega
   have e1 : (-(k : Int)).toNat = 0 := by omega
   rw [e0, e1, Nat.pow_zero, Nat.mul_one];have lt : (D (10 ^ k)).length <= 2401 := iQ 10 k (gL k (by omega));have lp := bX m (10 ^ k) 20000 2401 lm lt;obtain ⟨P, hP⟩ : ∃ P, P = m * 10 ^ k := ⟨_, rfl⟩
   have kM := fun (v : World) (x : Option Addr) (cx : Nat) hr hr2 => dK a x _ _ c cx m (10 ^ k) v rfl rfl (by omega) (by omega) hr hr2
   rw [<- hP] at kM lp |-;clear hP e0 e1 hk;have kc := AH (x := P) (y := den);have e2 : -(-(k : Int)) = (k : Int) := by omega
   go_enter Tryz.func140, Tryz.ntmps140;go_wp2_with fail;refine (fF k _ (by omega)).mono ?_;rintro e v1 ⟨ta, tc, rfl, ot, hb⟩;go_wp2_with fail;refine (kM _ _ _ (ra.below hb) (Rd.own ot)).mono ?_;rintro e v2 ⟨pa, pc, rfl, po, hb2⟩;have b0 := hb.trans (hb2.mono hb.size);clear ot hb hb2 kM;go_wp2_with fail;refine (dL pa b _ _ pc d P den _ rfl rfl (by omega) (by omega) (Rd.own po) (rb.below b0)).mono ?_;rintro e v3 ⟨rfl, rfl⟩;have HB := hid b0; clear b0;go_wp2_with fail;go_ret;exact ⟨by simp, HB.out⟩

theorem iV (N u x den : Nat) (up : Bool) (a b c d : Option Addr) (ca cb cc cd : Nat) (w : World) (lN : (D N).length <= 20000) (lu : (D u).length <= 20000) (lx : (D x).length <= 20000) (ld : (D den).length <= 20000)
 (ra : Rd w a (D N)) (rb : Rd w b (D u)) (rc : Rd w c (D x)) (rd : Rd w d (D den)) :
 Calls Tryz.prog 142 #[.slice a (D N).length ca, .slice b (D u).length cb, .bool up, .slice c (D x).length cc, .slice d (D den).length cd] w fun e w' => e = .returned (.int .i64 (aY ((N * (if up then u else den) : Nat) : Int) (x : Int))) /\ Below w.heap.size w w' := by
 cases up
 . simp only [Bool.false_eq_true, if_false];have lp := bX N den 20000 20000 lN ld;obtain ⟨P, hP⟩ : ∃ P, P = N * den := ⟨_, rfl⟩
   have kM := fun (v : World) hr hr2 => dK a d _ _ ca cd N den v rfl rfl (by omega) (by omega) hr hr2
   rw [<- hP] at kM lp |-;clear hP;go_enter Tryz.func142, Tryz.ntmps142;go_wp2_with fail;refine (kM _ ra rd).mono ?_;rintro e v1 ⟨pa, pc, rfl, po, hb⟩;go_wp2_with fail;refine (dL pa c _ _ pc cc P x _ rfl rfl (by omega) (by omega) (Rd.own po) (rc.below hb)).mono ?_;rintro e v2 ⟨rfl, rfl⟩;have HB := hid hb; clear hb;go_wp2_with fail;go_ret;exact ⟨rfl, HB.out⟩
 . simp only [if_true];have lp := bX N u 20000 20000 lN lu;obtain ⟨P, hP⟩ : ∃ P, P = N * u := ⟨_, rfl⟩
   have kM := fun (v : World) hr hr2 => dK a b _ _ ca cb N u v rfl rfl (by omega) (by omega) hr hr2
   rw [<- hP] at kM lp |-;clear hP;go_enter Tryz.func142, Tryz.ntmps142;go_wp2_with fail;refine (kM _ ra rb).mono ?_;rintro e v1 ⟨pa, pc, rfl, po, hb⟩;go_wp2_with fail;refine (dL pa c _ _ pc cc P x _ rfl rfl (by omega) (by omega) (Rd.own po) (rc.below hb)).mono ?_;rintro e v2 ⟨rfl, rfl⟩;have HB := hid hb; clear hb;go_wp2_with fail;go_ret;exact ⟨rfl, HB.out⟩

def wIn (P lo hi : Nat) (cl : Bool) : Bool := (if cl then decide (lo <= P) else decide (lo < P)) && (if cl then decide (P <= hi) else decide (P < hi))

theorem MK (x y : Nat) : aY (x : Int) (y : Int) = if x < y then -1 else if x = y then 0 else 1 := by
 unfold aY
 by_cases x1 : x < y
 . rw [if_pos (by omega), if_pos x1]
 . rw [if_neg (by omega), if_neg x1]
   by_cases x2 : x = y
   . rw [if_neg (by omega), if_pos x2]
   . rw [if_pos (by omega), if_neg x2]

theorem mL (N u lo hi den : Nat) (up cl : Bool) (a b c d e : Option Addr) (ca cb cc cd ce : Nat) (w : World) (lN : (D N).length <= 20000) (lu : (D u).length <= 20000) (ll : (D lo).length <= 20000) (lh : (D hi).length <= 20000) (ld : (D den).length <= 20000)
 (ra : Rd w a (D N)) (rb : Rd w b (D u)) (rc : Rd w c (D lo)) (rd : Rd w d (D hi)) (re : Rd w e (D den)) :
 Calls Tryz.prog 141 #[.slice a (D N).length ca, .slice b (D u).length cb, .bool up, .slice c (D lo).length cc, .slice d (D hi).length cd, .slice e (D den).length ce, .bool cl] w fun r w' => r = .returned (.bool (wIn (N * (if up then u else den)) lo hi cl)) /\ Below w.heap.size w w' := by
 have k1 := fun (v : World) h1 h2 h3 h4 => iV N u lo den up a b c e ca cb cc ce v lN lu ll ld h1 h2 h3 h4
 have k2 := fun (v : World) h1 h2 h3 h4 => iV N u hi den up a b d e ca cb cd ce v lN lu lh ld h1 h2 h3 h4
 obtain ⟨P, hP⟩ : ∃ P, P = N * (if up then u else den) := ⟨_, rfl⟩;rw [<- hP] at k1 k2 |-;clear hP;obtain ⟨R, hR⟩ : ∃ R, R = wIn P lo hi cl := ⟨_, rfl⟩;rw [<- hR];have HR := hid hR; clear hR
 have tri : ∀ y : Nat, ∃ z : Int, aY (P : Int) (y : Int) = z /\ ((z = -1 /\ P < y) \/ (z = 0 /\ P = y) \/ (z = 1 /\ y < P)) := fun y => by
  refine ⟨_, rfl, ?_⟩;rw [MK];rcases Nat.lt_trichotomy P y with x | x | x
  . rw [if_pos x]; exact .inl ⟨rfl, x⟩
  . rw [if_neg (by omega), if_pos x]; exact .inr (.inl ⟨rfl, x⟩)
  . rw [if_neg (by omega), if_neg (by omega)]; exact .inr (.inr ⟨rfl, x⟩)
 obtain ⟨z1, e1, y1⟩ := tri lo;obtain ⟨z2, e2, y2⟩ := tri hi;rw [e1] at k1;rw [e2] at k2;clear e1 e2 tri;rcases y1 with ⟨rfl, x1⟩ | ⟨rfl, x1⟩ | ⟨rfl, x1⟩
 all_goals rcases y2 with ⟨rfl, x2⟩ | ⟨rfl, x2⟩ | ⟨rfl, x2⟩
 all_goals cases cl
 all_goals (
  go_enter Tryz.func141, Tryz.ntmps141;go_wp2_with fail;refine (k1 _ ra rb rc re).mono ?_;rintro r v1 ⟨rfl, hb⟩;go_wp2_with fail;refine (k2 _ (ra.below hb) (rb.below hb) (rd.below hb) (re.below hb)).mono ?_;rintro r v2 ⟨rfl, hb2⟩;have HB := hid (hb.trans (hb2.mono hb.size));clear hb hb2 k1 k2;go_wp2_with fail;go_ret;refine ⟨?_, HB.out⟩;rw [HR.out];unfold wIn
  simp
  try omega)

theorem jR (a b K : Nat) (h1 : (D a).length <= K) (h2 : (D b).length <= K) : (D (a + b)).length <= K + 1 := by
 refine M.len_of_lt (B := 4294967296) (by omega) _ _ ?_;have x1 := lY a K h1;have x2 := lY b K h2;rw [Nat.pow_succ];omega

theorem mH (m : Nat) : 10 ^ m < 2 ^ (4 * m + 1) := by
 have := i7 10 m;rw [sS] at this;exact Nat.lt_of_le_of_lt this (Nat.pow_lt_pow_right (by omega) (by omega))

theorem M.uB_le (m : Int) (h1 : -20000 <= m) (h2 : m <= 20000) : -8000 <= (m * 30103).tdiv 100000 /\ (m * 30103).tdiv 100000 <= 8000 := by
 obtain ⟨a, b⟩ := JP m h1 h2;unfold M.uB at a b;omega

theorem FW {ops : Array Oper} {o : Oper} {a : Act} {K : Act -> World -> Prop} {Q : Exit -> Act -> World -> Prop} {E : Prop} (hgd : o.guard = none) (s x : Operand)
 (ho : o.op = .call { callee := .builtin .append, args := #[s, x], argTypes := #[22, 22] }) (w : World) (hs : a.eval s = .slice none 0 0) (ad : Addr) (m c : Nat) (ys : List Nat) (hx : a.eval x = .slice (some ad) m c) (hl : ys.length = m) (hm : 0 < m) (hm2 : m <= 1000000) (hr : RdB w (some ad) ys)
 (h : ∀ g cap w', w'.ownsRow w.heap.size 5 1 (.slice (some ⟨g, 0, none⟩) m cap) m (UB ys) -> Below w.heap.size w w' -> K (a.put o.dst (.slice (some ⟨g, 0, none⟩) m cap)) w') :
 if Region.wanted o (yielded ops a.tmps) = true then Oper.wp Tryz.prog o a w K Q else E := by
 obtain ⟨i0, hi, hz0, hz1, hz2⟩ := info_parts Tryz.infoY;refine step_append_lies w hgd s x 22 ho w.heap.size 5 i0 (.int .u8 0) 1 1 Tryz.underlying22 hi hz0 hz1 hz2 rfl (by decide) (.slice none 0 0) 0 [] hs (World.ownsRow_nil _ _ _ _) ad m c (UB ys) hx (by rw [aN, hl, Nat.mul_one]) ?_ (gQ _) hm (by unfold maxLen; omega) (by omega) (Nat.le_refl _) w.heap.size rfl ?_
 . intro j u hj
   have hjl : j < ys.length := by
    rcases Nat.lt_or_ge j ys.length with k | k
    . exact k
    . rw [List.getElem?_eq_none (by rw [aN]; exact k)] at hj; cases hj
   obtain ⟨b, off, e2, hc⟩ := hr.2 (by omega);cases e2;rw [eH ys j hjl] at hj;cases hj;rw [Addr.add_lit];exact hc j hjl
 . intro g cap w' h1 h2 _ _;rw [Nat.zero_add, List.nil_append] at h1;rw [Nat.zero_add]
   exact h g cap w' h1 ((Below.refl _ _).grown h2 (Nat.le_refl _) (fun j e => by cases e))

theorem KT {w : World} {B n c : Nat} {a : Option Addr} {bs : List Nat} (h : w.ownsRow B 5 1 (.slice a n c) n (UB bs)) (hl : bs.length = n) (hb : ∀ x ∈ bs, x < 256) : OwnV w B (.slice a bs.length c) bs := by
 subst hl;exact OwnV.of_own h hb

theorem MC {v : World} {g b o : Nat} {x y z u : Value} (h : b ≠ g) : ((((v.setCell ⟨g, 0, none⟩ x).setCell ⟨g, 1, none⟩ y).setCell ⟨g, 2, none⟩ z).setCell ⟨g, 3, none⟩ u).cell? ⟨b, o, none⟩ = v.cell? ⟨b, o, none⟩ :=
 World.cell?_of_block (w := v) (a := ⟨b, o, none⟩) ((((Below.heap_setCell _ _ _ _ h).trans (Below.heap_setCell _ _ _ _ h)).trans (Below.heap_setCell _ _ _ _ h)).trans (Below.heap_setCell _ _ _ _ h))

theorem OwnV.far4y {w : World} {lo g : Nat} {v : Value} {xs : List Nat} (h : OwnV w lo v xs) (hg : g < lo) (a b c d : Value) : OwnV ((((w.setCell ⟨g, 0, none⟩ a).setCell ⟨g, 1, none⟩ b).setCell ⟨g, 2, none⟩ c).setCell ⟨g, 3, none⟩ d) lo v xs :=
 (((h.far ⟨g, 0, none⟩ hg a).far ⟨g, 1, none⟩ hg b).far ⟨g, 2, none⟩ hg c).far ⟨g, 3, none⟩ hg d

theorem zR {w v : World} (h : Below w.heap.size w v) {g : Nat} (hg : w.heap.size <= g) (a b c d : Value) : Below w.heap.size w ((((v.setCell ⟨g, 0, none⟩ a).setCell ⟨g, 1, none⟩ b).setCell ⟨g, 2, none⟩ c).setCell ⟨g, 3, none⟩ d) :=
 (((h.setCell (p := ⟨g, 0, none⟩) hg _).setCell (p := ⟨g, 1, none⟩) hg _).setCell (p := ⟨g, 2, none⟩) hg _).setCell (p := ⟨g, 3, none⟩) hg _

end Go.Proofs.YtfdgkleoaehjaaaGreatDoor
