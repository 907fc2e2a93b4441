import Derived.Test.YtfdgkleoaehjaaaGreatDoorsGAN
import Derived.Test.YtfdgkleoaehjaaaGreatDoorsNfd
namespace Go.Proofs.YtfdgkleoaehjaaaGreatDoor.M
set_option linter.unusedVariables false
set_option maxRecDepth 100000
theorem Fm.Ok.far_big {F : Fm} (h : F.Ok) (N De : Nat) (hN : 0 < N) (hd : 0 < De) (hb : ¬ lt2 N De ((F.emax : Int) + 1)) (n : Bool) (tiny range : Int) :
 F.rPt n N De = ⟨4, n, 0, 0⟩ /\ F.rFl N De tiny range = range := by
 have tp := h.top2;have lp := h.leadPos;have two := h.two_lead;have hp := h.p1;have hqm : F.qmin = 2 - (F.emax : Int) - (F.p : Int) := rfl;obtain ⟨e1, e2⟩ := qF N De hN hd
 have hE : (F.emax : Int) + 1 <= rE N De := by
  rcases Int.lt_or_le (rE N De) ((F.emax : Int) + 1) with c | c
  . exact absurd (iG hd e2 (by omega)) hb
  . exact c
 have hq : F.rQ N De = max (rE N De - F.p + 1) F.qmin := rfl;obtain ⟨hM, k1, k2⟩ := h.rS_ok N De hN hd;have k3 := k2 (by omega);have hs : F.lead <= F.rS N De := by unfold Fm.rS; omega
 have hg : F.lead <= F.rSig N De := by unfold Fm.rSig; split <;> omega
 have hx : F.rQ N De <= F.rExp N De := by unfold Fm.rExp; split <;> omega
 unfold Fm.rPt Fm.rFl;rw [if_neg (by omega), if_neg (by omega), if_pos (by omega), if_neg (by omega), if_neg (by omega), if_pos (by omega)];exact ⟨rfl, rfl⟩

theorem Fm.Ok.far_small {F : Fm} (h : F.Ok) (N De : Nat) (hN : 0 < N) (hd : 0 < De) (hb : lt2 N De (F.qmin - 1)) (n : Bool) (tiny range : Int) :
 F.rPt n N De = ⟨1, n, 0, 0⟩ /\ F.rFl N De tiny range = tiny := by
 have hp := h.p1;obtain ⟨e1, e2⟩ := qF N De hN hd
 have hE : rE N De < F.qmin - 1 := by
  rcases Int.lt_or_le (rE N De) (F.qmin - 1) with c | c
  . exact c
  . exact absurd (iG hd hb c) e1
 have hq : F.rQ N De = F.qmin := by unfold Fm.rQ; omega
 have k : 2 * F.rN N De < F.rM N De := by
  rw [gU N De _ ((-(F.qmin)).toNat + 1) (by omega), show ((((-(F.qmin)).toNat + 1 : Nat) : Int) + (F.qmin - 1)).toNat = F.qmin.toNat by omega, Nat.pow_succ] at hb;unfold Fm.rN Fm.rM;rw [hq];rw [<- Nat.mul_assoc] at hb;omega
 have z : F.rS N De = 0 := by
  have m1 : F.rN N De % F.rM N De = F.rN N De := Nat.mod_eq_of_lt (by omega);have d1 : F.rN N De / F.rM N De = 0 := Nat.div_eq_of_lt (by omega);unfold Fm.rS rUp;rw [m1, d1, if_neg (by omega)]
 have g : F.rSig N De = 0 := by
  have : 0 < 2 ^ F.p := Nat.pow_pos (by omega);unfold Fm.rSig;rw [z, if_neg (by omega)]
 unfold Fm.rPt Fm.rFl;rw [if_pos g, if_pos g];exact ⟨rfl, rfl⟩

theorem zT (J : Nat) : 2 ^ (33 * J) <= 10 ^ (10 * J) := by
 rw [Nat.pow_mul, Nat.pow_mul];exact Nat.pow_le_pow_left (by omega) J

theorem Fm.Ok.emax_le {F : Fm} (h : F.Ok) : F.emax <= 16383 := by
 have e2 := h.e2;have e1 := h.e1;have : 2 ^ (F.e - 1) <= 2 ^ 14 := Nat.pow_le_pow_right (by omega) (by omega);unfold Fm.emax;omega

theorem Fm.Ok.dec_big {F : Fm} (h : F.Ok) (D k : Nat) (e : Int) (hk : 0 < k) (h1 : 10 ^ (k - 1) <= D) (hp : 5000 < (k : Int) + e) : ¬ lt2 (D * 10 ^ e.toNat) (10 ^ (-e).toNat) ((F.emax : Int) + 1) := by
 have hx := h.emax_le;obtain ⟨J, hJ⟩ : ∃ J : Nat, J = 500 := ⟨_, rfl⟩;have a1 : 2 ^ (F.emax + 1) <= 2 ^ (33 * J) := Nat.pow_le_pow_right (by omega) (by omega);have a2 : 10 ^ (10 * J) <= 10 ^ ((k : Int) + e - 1).toNat := Nat.pow_le_pow_right (by omega) (by omega);have a3 := Nat.le_trans a1 (Nat.le_trans (zT J) a2)
 have a4 : 10 ^ (-e).toNat * 10 ^ ((k : Int) + e - 1).toNat = 10 ^ (k - 1) * 10 ^ e.toNat := by
  rw [<- Nat.pow_add, <- Nat.pow_add]; congr 1; omega
 have a5 : 10 ^ (-e).toNat * 2 ^ (F.emax + 1) <= 10 ^ (-e).toNat * 10 ^ ((k : Int) + e - 1).toNat := Nat.mul_le_mul_left _ a3;have a6 : 10 ^ (k - 1) * 10 ^ e.toNat <= D * 10 ^ e.toNat := Nat.mul_le_mul_right _ h1;unfold lt2;rw [show (-((F.emax : Int) + 1)).toNat = 0 by omega, show ((F.emax : Int) + 1).toNat = F.emax + 1 by omega, Nat.pow_zero, Nat.mul_one];omega

theorem Fm.Ok.dec_small {F : Fm} (h : F.Ok) (D k : Nat) (e : Int) (h1 : D < 10 ^ k) (hp : (k : Int) + e < -5100) : lt2 (D * 10 ^ e.toNat) (10 ^ (-e).toNat) (F.qmin - 1) := by
 have hx := h.emax_le;have p1 := h.p1;have p2 := h.p2;have hqm : F.qmin = 2 - (F.emax : Int) - (F.p : Int) := rfl;obtain ⟨J, hJ⟩ : ∃ J : Nat, J = 510 := ⟨_, rfl⟩;have a1 : 2 ^ (1 - F.qmin).toNat <= 2 ^ (33 * J) := Nat.pow_le_pow_right (by omega) (by omega);have a2 : 10 ^ (10 * J) <= 10 ^ ((-e).toNat - k) := Nat.pow_le_pow_right (by omega) (by omega);have a3 := Nat.le_trans a1 (Nat.le_trans (zT J) a2)
 have a4 : 10 ^ k * 10 ^ ((-e).toNat - k) = 10 ^ (-e).toNat := by
  rw [<- Nat.pow_add]; congr 1; omega
 have a5 : D * 2 ^ (1 - F.qmin).toNat < 10 ^ k * 2 ^ (1 - F.qmin).toNat := (Nat.mul_lt_mul_right (Nat.pow_pos (by omega))).2 h1;have a6 : 10 ^ k * 2 ^ (1 - F.qmin).toNat <= 10 ^ k * 10 ^ ((-e).toNat - k) := Nat.mul_le_mul_left _ a3
 by_cases hq : F.qmin <= 1
 . unfold lt2;rw [show (-(F.qmin - 1)).toNat = (1 - F.qmin).toNat by omega, show (F.qmin - 1).toNat = 0 by omega, show e.toNat = 0 by omega, Nat.pow_zero, Nat.mul_one, Nat.mul_one];omega
 . have := h.top2;omega

def aL (e : Int) (k : Nat) : Int := max (min e 5200) (-5200 - (k : Int))

theorem Fm.Ok.clamped {F : Fm} (h : F.Ok) (D k : Nat) (e : Int) (hk : 0 < k) (h1 : 10 ^ (k - 1) <= D) (h2 : D < 10 ^ k) (n : Bool) (tiny range : Int) :
 (5000 < (k : Int) + e -> F.rPt n (D * 10 ^ (aL e k).toNat) (10 ^ (-(aL e k)).toNat) = ⟨4, n, 0, 0⟩ /\ F.rFl (D * 10 ^ (aL e k).toNat) (10 ^ (-(aL e k)).toNat) tiny range = range) /\
 ((k : Int) + e < -5100 -> F.rPt n (D * 10 ^ (aL e k).toNat) (10 ^ (-(aL e k)).toNat) = ⟨1, n, 0, 0⟩ /\ F.rFl (D * 10 ^ (aL e k).toNat) (10 ^ (-(aL e k)).toNat) tiny range = tiny) /\
 (¬ 5000 < (k : Int) + e -> ¬ (k : Int) + e < -5100 -> aL e k = e) := by
 have hc : aL e k = max (min e 5200) (-5200 - (k : Int)) := rfl;have hD : 0 < D := Nat.lt_of_lt_of_le (Nat.pow_pos (by omega)) h1
 refine ⟨fun c => ?_, fun c => ?_, fun c d => by omega⟩
 . exact h.far_big _ _ (Nat.mul_pos hD (Nat.pow_pos (by omega))) (Nat.pow_pos (by omega)) (h.dec_big D k _ hk h1 (by omega)) n tiny range
 . exact h.far_small _ _ (Nat.mul_pos hD (Nat.pow_pos (by omega))) (Nat.pow_pos (by omega)) (h.dec_small D k _ h2 (by omega)) n tiny range

theorem oQ {p : Nat -> Bool} : ∀ {l : List Nat} {c : Nat} {r : List Nat}, l.dropWhile p = c :: r -> p c = false
 | [], c, r, h => by simp at h
 | x :: l, c, r, h => by
   rw [List.dropWhile_cons] at h
   by_cases hx : p x = true
   . rw [if_pos hx] at h; exact oQ h
   . rw [if_neg hx] at h;injection h with h1 h2;rw [<- h1]; simpa using hx

theorem mW (l : List Nat) : bH l <+: aQ l := by
 unfold bH cL
 have := List.dropWhile_suffix (l := (aQ l).reverse) (fun c => decide (c = 48))
 rw [<- List.reverse_prefix, List.reverse_reverse] at this;exact this

theorem AX {l : List Nat} {c : Nat} {r : List Nat} (h : bH l = c :: r) : c ≠ 48 := by
 obtain ⟨t, ht⟩ := mW l;rw [h] at ht
 have := oQ (l := l) (c := c) (r := r ++ t) (p := fun c => decide (c = 48)) ht.symm
 simpa using this

theorem D8 {l : List Nat} (h : ∀ c ∈ l, 48 <= c /\ c <= 57) : Dig (bH l) := fun c hc =>
 h c ((List.dropWhile_suffix (l := l) (fun c => decide (c = 48))).subset ((mW l).subset hc))

theorem LC {c : Nat} {r : List Nat} (h : Dig (c :: r)) (hc : c ≠ 48) : 10 ^ r.length <= dec (c :: r) := by
 have h2 := h c (by simp);rw [mT];have h3 : 1 * 10 ^ r.length <= (c - 48) * 10 ^ r.length := Nat.mul_le_mul_right _ (by omega);omega

theorem mR : ∀ (l : List Nat) (x : Nat), x <= 1000000 -> iH x l <= 1000000
 | [], x, h => h
 | c :: l, x, h => by
   have : iH x (c :: l) = iH (min (x * 10 + (c - 48)) 1000000) l := rfl;rw [this];exact mR l _ (Nat.min_le_right _ _)

theorem I2 {c : List Nat × List Nat × Bool} {b : Bool} {x : Nat} (h : mK c = some (b, x)) : x <= 1000000 := by
 unfold mK at h;split at h
 . split at h
   . cases h
   . have h2 : iH 0 (signed c.2.1).1 = x := by injection h with h; injection h
     rw [<- h2]; exact mR _ _ (by omega)
 . have h2 : 0 = x := by injection h with h; injection h
   omega

structure Sound (t : List Nat) (d : Dec) : Prop where
 dig : Dig d.digits
 head : ∀ c r, d.digits = c :: r -> c ≠ 48
 exp1 : -1000000 - (t.length : Int) <= d.exp
 exp2 : d.exp <= 1000000 + (t.length : Int)

theorem FT (k : Nat) : ∀ l : List Nat, (cut k l).1.length + (cut k l).2.1.length <= l.length
 | [] => by simp [cut]
 | x :: l => by
   have := FT k l;unfold cut;split
   . simp
   . simp only [List.length_cons]; omega

theorem JL (l : List Nat) : (signed l).1.length <= l.length := by
 cases l with
 | nil => simp [signed]
 | cons x r =>
   show (if x = 43 \/ x = 45 then (r, decide (x = 45)) else (x :: r, false)).1.length <= (x :: r).length
   split <;> simp

theorem iA {t : List Nat} {d : Dec} (h : whole t = some d) : Sound t d := by
 unfold whole lK at h;have hs := JL (t.map low);rw [List.length_map] at hs;generalize (signed (t.map low)).1 = v at h hs;split at h
 . cases h
   exact ⟨fun c hc => by simp at hc, fun c r e => by simp at e, by simp only; omega, by simp only; omega⟩
 . split at h
   . cases h
     exact ⟨fun c hc => by simp at hc, fun c r e => by simp at e, by simp only; omega, by simp only; omega⟩
   . unfold uQ at h;split at h
     . cases h
     . rename_i hn
       rw [Option.map_eq_some_iff] at h;obtain ⟨⟨b, x⟩, hx, rfl⟩ := h;have hx' := I2 hx;have c1 := FT 101 v;have c2 := FT 46 (cut 101 v).1;generalize hA : (cut 46 (cut 101 v).1).1 = A at *;generalize hB : (cut 46 (cut 101 v).1).2.1 = B at *
       have hd : ∀ c ∈ A ++ B, 48 <= c /\ c <= 57 := by
        intro c hc
        have k1 : A.all dgt = true := by
         rcases Bool.eq_false_or_eq_true (A.all dgt) with q | q
         . exact q
         . exact absurd (.inl q) hn
        have k2 : B.all dgt = true := by
         rcases Bool.eq_false_or_eq_true (B.all dgt) with q | q
         . exact q
         . exact absurd (.inr (.inl q)) hn
        rw [List.all_eq_true] at k1 k2;rcases List.mem_append.1 hc with q | q
        . have := k1 c q; unfold dgt at this; simpa using this
        . have := k2 c q; unfold dgt at this; simpa using this
       have l1 := (List.dropWhile_suffix (l := A ++ B) (fun c => decide (c = 48))).length_le
       have l2 := (mW (A ++ B)).length_le;have l3 : (A ++ B).length = A.length + B.length := List.length_append;have l4 : (aQ (A ++ B)).length <= (A ++ B).length := l1
       refine ⟨D8 hd, fun c r e => AX e, ?_, ?_⟩
       . show -1000000 - (t.length : Int) <= hH (A ++ B) ((if b then -(x : Int) else x) - B.length)
         unfold hH
         split <;> cases b <;> (try simp only [Bool.false_eq_true, if_false, if_true]) <;> omega
       . show hH (A ++ B) ((if b then -(x : Int) else x) - B.length) <= 1000000 + (t.length : Int)
         unfold hH
         split <;> cases b <;> (try simp only [Bool.false_eq_true, if_false, if_true]) <;> omega

theorem Sound.size {t : List Nat} {d : Dec} (h : Sound t d) (hk : 0 < d.digits.length) : 10 ^ (d.digits.length - 1) <= dec d.digits /\ dec d.digits < 10 ^ d.digits.length := by
 refine ⟨?_, gT _ h.dig⟩
 cases e : d.digits with
 | nil => rw [e] at hk; simp at hk
 | cons c r =>
   have := h.dig;rw [e] at this;rw [List.length_cons, Nat.add_sub_cancel];exact LC this (h.head c r e)

theorem lG {t : List Nat} {d : Dec} (h : whole t = some d) : (d.kind = 1 /\ d.digits.length <= t.length) \/ (d.kind = 2 /\ d.digits = []) \/ (d.kind = 3 /\ d.neg = false /\ d.digits = []) := by
 unfold whole lK at h;have hs := JL (t.map low);rw [List.length_map] at hs;generalize (signed (t.map low)).1 = v at h hs;split at h
 . cases h;exact .inr (.inl ⟨rfl, rfl⟩)
 . split at h
   . cases h;exact .inr (.inr ⟨rfl, rfl, rfl⟩)
   . unfold uQ at h;split at h
     . cases h
     . rw [Option.map_eq_some_iff] at h;obtain ⟨⟨b, x⟩, hx, rfl⟩ := h;have c1 := FT 101 v;have c2 := FT 46 (cut 101 v).1;generalize (cut 46 (cut 101 v).1).1 = A at *;generalize (cut 46 (cut 101 v).1).2.1 = B at *
       have l1 := (List.dropWhile_suffix (l := A ++ B) (fun c => decide (c = 48))).length_le
       have l2 := (mW (A ++ B)).length_le;have l3 : (A ++ B).length = A.length + B.length := List.length_append;have l4 : (aQ (A ++ B)).length <= (A ++ B).length := l1;refine .inl ⟨rfl, ?_⟩
       show (bH (A ++ B)).length <= t.length
       omega

end Go.Proofs.YtfdgkleoaehjaaaGreatDoor.M
namespace Go.Proofs.YtfdgkleoaehjaaaGreatDoor
open Go.RowKit
set_option linter.unusedVariables false
set_option maxRecDepth 100000
def peN (d : M.Dec) : Nat := M.dec d.digits * 10 ^ (M.aL d.exp d.digits.length).toNat

def peD (d : M.Dec) : Nat := 10 ^ (-(M.aL d.exp d.digits.length)).toNat

def peY (F : M.Fm) (d : M.Dec) : Nat := if d.kind = 2 then F.pk ⟨4, d.neg, 0, 0⟩ else if d.kind = 3 then F.pk ⟨5, false, 0, 0⟩ else if d.digits.length = 0 then F.pk ⟨1, d.neg, 0, 0⟩ else rY F d.neg (peN d) (peD d)

def peF (F : M.Fm) (d : M.Dec) : Int := if d.kind = 2 then 0 else if d.kind = 3 then 0 else if d.digits.length = 0 then 0 else rF F (peN d) (peD d)

def peV (F : M.Fm) (o : M.Dec × Int × Int) : Value := if o.2.1 ≠ 0 then .agg #[.int .u64 0, .int .u64 0, .int .i64 o.2.1, .int .i64 o.2.2, .int .i64 0]
 else .agg #[.int .u64 (M.hiN (peY F o.1) : Int), .int .u64 (M.loN (peY F o.1) : Int), .int .i64 0, .int .i64 0, .int .i64 (peF F o.1)]

theorem mM (bs : List Nat) : ((aS bs).2.1 ≠ 0 /\ (aS bs).1 = ⟨0, false, [], 0⟩) \/
 ∃ d, aS bs = (d, 0, 0) /\ M.whole bs = some d /\ bs.length <= 800 := by
 unfold aS
 by_cases h8 : 800 < bs.length
 . rw [if_pos h8]; exact .inl ⟨by decide, rfl⟩
 . rw [if_neg h8];unfold M.uR
   cases hw : M.whole bs with
   | none => exact .inl ⟨by simp, rfl⟩
   | some d => exact .inr ⟨d, rfl, rfl, by omega⟩

theorem tC (a j K : Nat) (h : a < 2 ^ j) (hj : j <= 64 * K) : (L a).length <= K := by
 refine M.len_of_lt (B := 18446744073709551616) (by omega) _ _ ?_;rw [show (18446744073709551616 : Nat) = 2 ^ 64 by rfl, <- Nat.pow_mul];exact Nat.lt_of_lt_of_le h (Nat.pow_le_pow_right (by omega) hj)

theorem lZ (m : Nat) : 10 ^ m <= 2 ^ (4 * m) := by
 have := i7 10 m
 rwa [sS] at this

theorem JX {t : List Nat} {d : M.Dec} (h : M.Sound t d) (hl : d.digits.length <= 800) : (L (M.dec d.digits)).length <= 1201 /\ (L (peN d)).length <= 1201 /\ (L (peD d)).length <= 1201 /\ (M.aL d.exp d.digits.length).toNat <= 6000 /\ (-(M.aL d.exp d.digits.length)).toNat <= 6000 := by
 have hd := M.gT _ h.dig;have e1 : (M.aL d.exp d.digits.length).toNat <= 5200 := by unfold M.aL; omega
 have e2 : (-(M.aL d.exp d.digits.length)).toNat <= 6000 := by unfold M.aL; omega
 have t1 := lZ d.digits.length;have t2 := lZ (M.aL d.exp d.digits.length).toNat;have t3 := lZ (-(M.aL d.exp d.digits.length)).toNat;refine ⟨tC _ (4 * d.digits.length) _ (Nat.lt_of_lt_of_le hd t1) (by omega), tC _ (4 * (d.digits.length + (M.aL d.exp d.digits.length).toNat)) _ ?_ (by omega), tC _ (4 * (-(M.aL d.exp d.digits.length)).toNat + 1) _ ?_ (by omega), by omega, e2⟩
 . unfold peN;have q : M.dec d.digits * 10 ^ (M.aL d.exp d.digits.length).toNat < 10 ^ d.digits.length * 10 ^ (M.aL d.exp d.digits.length).toNat := Nat.mul_lt_mul_of_pos_right hd (Nat.pow_pos (by omega));rw [<- Nat.pow_add] at q;exact Nat.lt_of_lt_of_le q (lZ _)
 . unfold peD;exact Nat.lt_of_le_of_lt t3 (Nat.pow_lt_pow_right (by omega) (by omega))

theorem sD (E : Int) (h1 : E.toNat <= 6000) (h2 : (-E).toNat <= 6000) (w : World) : Calls Tryz.prog 52 #[.int .i64 E] w fun e w' => RR w w' e (10 ^ E.toNat) (10 ^ (-E).toNat) := by
 rcases Int.le_total 0 E with h | h
 . obtain ⟨m, rfl⟩ := Int.eq_ofNat_of_zero_le h;have e1 : (-(m : Int)).toNat = 0 := by omega
   have e2 : ((m : Int)).toNat = m := by omega
   rw [e1, e2, Nat.pow_zero];exact sL m w (by omega)
 . obtain ⟨m, hm⟩ := Int.eq_ofNat_of_zero_le (show 0 <= -E by omega);have e : E = -(m : Int) := by omega
   subst e;have e1 : (-(m : Int)).toNat = 0 := by omega
   have e2 : (-(-(m : Int))).toNat = m := by omega
   rw [e1, e2, Nat.pow_zero];exact sC m w (by omega)

theorem wP (F : M.Fm) (h : F.Ok) (t : List Nat) (d : M.Dec) (hs : M.Sound t d) (hk : 0 < d.digits.length) (hl : d.digits.length <= 800) (a : Option Addr) (cc lo : Nat) (w : World) (ho : OwnV w lo (.slice a d.digits.length cc) d.digits) :
 Calls Tryz.prog 18 #[.agg #[.int .i64 d.kind, .bool d.neg, .slice a d.digits.length cc, .int .i64 d.exp], dv F] w fun e w' => e = .returned (.agg #[.int .u64 (M.hiN (rY F d.neg (peN d) (peD d)) : Int), .int .u64 (M.loN (rY F d.neg (peN d) (peD d)) : Int), .int .i64 0, .int .i64 0, .int .i64 (rF F (peN d) (peD d))]) /\ Below w.heap.size w w' := by
 obtain ⟨l1, l2, l3, l4, l5⟩ := JX hs hl;have hr := ho.rd;obtain ⟨a', c', hv, q1, q2, q3, q4, q5⟩ := ho;simp only [Value.slice.injEq] at hv;obtain ⟨rfl, _, rfl⟩ := hv;obtain ⟨b, off, cur, rfl, _⟩ := q5 hk
 refine wT F d.kind d.neg _ d.digits.length cc d.exp (M.aL d.exp d.digits.length) _ _ 0 0 _ w (M.dec d.digits) (10 ^ (M.aL d.exp d.digits.length).toNat) (10 ^ (-(M.aL d.exp d.digits.length)).toNat) rfl (by omega) (by omega) ?_ ?_
  (fun v hv => mX b off d.digits.length cc d.digits v rfl hk (by omega) q1 q2 hs.dig (hr.below hv)) (fun v => sD _ l4 l5 v) (fun v a1 b1 c1 d1 r1 r2 => ?_)
 . exact Nat.le_trans (jT 10 _ (gL _ (by omega))) (by omega)
 . exact Nat.le_trans (jT 10 _ (gL _ (by omega))) (by omega)
 . have := fun (u : World) (hu : Below v.heap.size v u) => yC F h d.neg a1 b1 c1 d1 (peN d) (peD d) u (Nat.pow_pos (by omega)) l2 l3 (r1.below hu) (r2.below hu)
   exact xK F d.neg a1 b1 _ _ c1 d1 _ _ _ true v this

theorem yA (k : Nat) (hk : k < 4) (ao : Option Addr) (n c : Nat) (bs : List Nat) (w : World) (hl : bs.length = n) (hr : RdB w ao bs) (hm : Fmt w) (hF : Fol w) (hWd : Wds w) :
 Calls Tryz.prog 6 #[.int .i64 (k : Int), .slice ao n c] w fun e w' => e = .returned (peV (M.fm k) (aS bs)) /\ Below w.heap.size w w' := by
 have h := M.jA k
 have kE := fun (v : World) (hv : Fmt v) => jG k hk v hv
 have kK := fun (v : World) => GQ (M.fm k) h v
 have kS : ∀ (u : World), Below w.heap.size w u -> ∀ v : World, Below u.heap.size u v -> Calls Tryz.prog 47 #[.slice ao n c] v fun e w' => ∃ a cc, e = .returned (.agg #[.int .i64 (aS bs).1.kind, .bool (aS bs).1.neg, .slice a (aS bs).1.digits.length cc, .int .i64 (aS bs).1.exp, .int .i64 (aS bs).2.1, .int .i64 (aS bs).2.2]) /\ OwnV w' v.heap.size (.slice a (aS bs).1.digits.length cc) (aS bs).1.digits /\ Below v.heap.size v w' := fun u hu v hv => by
  have hv2 := hu.trans (hv.mono hu.size);refine (CK ao n c bs v hl (hr.below hv2) (hF.below hv2) (hWd.below hv2) _ rfl).mono ?_;rintro e w' ⟨x, rfl, hO, hb⟩;have hO' := hO;obtain ⟨a, c', hx, _⟩ := hO;subst hx;exact ⟨a, c', rfl, hO', hb⟩
 rcases mM bs with ⟨h1, h2⟩ | ⟨d, h1, h2, h3⟩
 . unfold peV;rw [if_pos h1];generalize aS bs = o at *;obtain ⟨d, cd, off⟩ := o;simp only at h1 h2 kS;subst h2
   refine dY (k : Int) ao n c w 0 false 0 0 0 0 cd off 0 (fun u hu => ?_)
   refine (yK (k : Int) ao n c u (hm.below hu) (M.fm k) kE kK 0 false 0 0 cd off (fun v lo a k => OwnV v lo (.slice a 0 k) []) (fun _ _ _ _ _ h hb => h.below hb) (fun _ _ _ _ p x h hp => h.far p hp x) (fun _ _ _ _ _ h hl => h.low hl) h1 (fun v hv => kS u hu v hv)).mono ?_
   rintro e w' ⟨rfl, hb⟩;exact ⟨none, 0, rfl, hb⟩
 . have hs := M.iA h2;unfold peV;rw [h1] at kS |-;simp only at kS;simp only [ne_eq, not_true_eq_false, if_false];unfold peY peF
   by_cases hk2 : d.kind = 2
   . rw [if_pos hk2, if_pos hk2]
     have kP := fun u : World => vR (M.fm k) h 4 d.neg 0 0 (by omega) u
     have hp : (M.fm k).Proper ⟨4, d.neg, 0, 0⟩ := by unfold M.Fm.Proper; simp
     have e := pA h ⟨4, d.neg, 0, 0⟩ hp;simp only at e;rw [e] at kP;simp only [hi0, lo0] at kP
     refine dY (k : Int) ao n c w d.kind d.neg d.digits.length d.exp _ _ 0 0 0 (fun u hu => ?_)
     refine (nM (k : Int) ao n c u (hm.below hu) (M.fm k) kE kK d.kind d.neg d.digits.length d.exp 0 0 (fun v lo a k => OwnV v lo (.slice a d.digits.length k) d.digits) (fun _ _ _ _ _ h hb => h.below hb) (fun _ _ _ _ p x h hp => h.far p hp x) (fun _ _ _ _ _ h hl => h.low hl) rfl _ _ (.inl ⟨hk2, rfl, rfl⟩) _ _ kP (fun v hv => kS u hu v hv)).mono ?_
     rintro e w' ⟨a, c', rfl, _, hb⟩;exact ⟨a, c', rfl, hb⟩
   rw [if_neg hk2, if_neg hk2]
   by_cases hk3 : d.kind = 3
   . rw [if_pos hk3, if_pos hk3]
     have kP := fun u : World => vR (M.fm k) h 5 false 0 0 (by omega) u
     have hp : (M.fm k).Proper ⟨5, false, 0, 0⟩ := by unfold M.Fm.Proper; simp
     have e := pA h ⟨5, false, 0, 0⟩ hp;simp only at e;rw [e] at kP;simp only [hi0, lo0] at kP
     refine dY (k : Int) ao n c w d.kind d.neg d.digits.length d.exp _ _ 0 0 0 (fun u hu => ?_)
     refine (nM (k : Int) ao n c u (hm.below hu) (M.fm k) kE kK d.kind d.neg d.digits.length d.exp 0 0 (fun v lo a k => OwnV v lo (.slice a d.digits.length k) d.digits) (fun _ _ _ _ _ h hb => h.below hb) (fun _ _ _ _ p x h hp => h.far p hp x) (fun _ _ _ _ _ h hl => h.low hl) rfl _ _ (.inr (.inl ⟨hk3, rfl, rfl⟩)) _ _ kP (fun v hv => kS u hu v hv)).mono ?_
     rintro e w' ⟨a, c', rfl, _, hb⟩;exact ⟨a, c', rfl, hb⟩
   rw [if_neg hk3, if_neg hk3]
   by_cases hd0 : d.digits.length = 0
   . rw [if_pos hd0, if_pos hd0]
     have kP := fun u : World => vR (M.fm k) h 1 d.neg 0 0 (by omega) u
     have hp : (M.fm k).Proper ⟨1, d.neg, 0, 0⟩ := by unfold M.Fm.Proper; simp
     have e := pA h ⟨1, d.neg, 0, 0⟩ hp;simp only at e;rw [e] at kP;simp only [hi0, lo0] at kP
     refine dY (k : Int) ao n c w d.kind d.neg d.digits.length d.exp _ _ 0 0 0 (fun u hu => ?_)
     refine (nM (k : Int) ao n c u (hm.below hu) (M.fm k) kE kK d.kind d.neg d.digits.length d.exp 0 0 (fun v lo a k => OwnV v lo (.slice a d.digits.length k) d.digits) (fun _ _ _ _ _ h hb => h.below hb) (fun _ _ _ _ p x h hp => h.far p hp x) (fun _ _ _ _ _ h hl => h.low hl) rfl _ _ (.inr (.inr ⟨hk2, hk3, hd0, rfl, rfl⟩)) _ _ kP (fun v hv => kS u hu v hv)).mono ?_
     rintro e w' ⟨a, c', rfl, _, hb⟩;exact ⟨a, c', rfl, hb⟩
   rw [if_neg hd0, if_neg hd0]
   have hl8 : d.digits.length <= 800 := by
    rcases M.lG h2 with x | x | x
    . omega
    . omega
    . omega
   refine BQ (k : Int) ao n c w hm (M.fm k) d.kind d.neg d.digits.length d.exp _ _ 0 0 _ (fun v a k => OwnV v 0 (.slice a d.digits.length k) d.digits) (fun _ _ _ _ h hb => h.below hb) (fun u hu => ?_) kE (fun v a cc ho => wP (M.fm k) h bs d hs (by omega) hl8 a cc 0 v ho)
   refine (yF (k : Int) ao n c u (hm.below hu) (M.fm k) kE kK d.kind d.neg d.digits.length d.exp 0 0 (fun v lo a k => OwnV v lo (.slice a d.digits.length k) d.digits) (fun _ _ _ _ _ h hb => h.below hb) (fun _ _ _ _ p x h hp => h.far p hp x) (fun _ _ _ _ _ h hl => h.low hl) rfl hk2 hk3 hd0 (fun v hv => kS u hu v hv)).mono ?_
   rintro e w' ⟨a, c', rfl, hO, hb⟩;exact ⟨a, c', rfl, hO.low (Nat.zero_le _), hb⟩

theorem AW (f : Int) (hf : f < 0 \/ 4 <= f) (ao : Option Addr) (n c : Nat) (w : World) :
 Calls Tryz.prog 6 #[.int .i64 f, .slice ao n c] w fun e w' => e = .returned (.agg #[.int .u64 0, .int .u64 0, .int .i64 4, .int .i64 0, .int .i64 0]) /\ Below w.heap.size w w' := by
 refine dY f ao n c w 0 false 0 0 0 0 4 0 0 (fun u hu => ?_)
 refine (AV f hf ao n c u).mono ?_;rintro e w' ⟨rfl, hb⟩;exact ⟨none, 0, rfl, hb⟩

end Go.Proofs.YtfdgkleoaehjaaaGreatDoor
