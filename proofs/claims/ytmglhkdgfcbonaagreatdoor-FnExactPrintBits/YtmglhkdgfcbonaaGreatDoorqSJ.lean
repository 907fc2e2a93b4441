import Derived.Test.YtmglhkdgfcbonaaGreatDoorqUn1
import Derived.Test.YtmglhkdgfcbonaaGreatDoorqTB
import Derived.Test.YtmglhkdgfcbonaaGreatDoorqSx6
import Derived.Test.YtmglhkdgfcbonaaGreatDoorqBnZ
import Derived.Test.YtmglhkdgfcbonaaGreatDoorqSx4
import Derived.Test.YtmglhkdgfcbonaaGreatDoorqSx5
namespace Go.Proofs.YtmglhkdgfcbonaaGreatDoor

open Go.RowKit

set_option linter.unusedVariables false
set_option maxRecDepth 100000

def wdOf (F : M.Fm) (T : M.Pt) : M.Wd := ⟨T.s, bLow F T, T.q⟩

theorem wd_ok {F : M.Fm} (h : F.Ok) {T : M.Pt} (hf : Fin F T) : (wdOf F T).Ok := by
  have p1 := h.p1
  have p2 := h.p2
  have tp := h.top2
  have hq : F.qmin = 2 - (F.emax : Int) - (F.p : Int) := rfl
  have l2 : F.lead ≤ 2 ^ 112 := Nat.pow_le_pow_right (by omega) (by omega)
  obtain ⟨s1, s2, q1, q2, q3, q4, s3, s4⟩ := hf
  refine ⟨s1, ?_, ?_, ?_, ?_⟩
  · show T.s < 2 ^ 113
    omega
  · show bLow F T < 4 * T.s
    unfold bLow; split <;> omega
  · show -16598 ≤ T.q
    omega
  · show T.q ≤ 16600
    omega

end Go.Proofs.YtmglhkdgfcbonaaGreatDoor

namespace Go.Proofs.YtmglhkdgfcbonaaGreatDoor

open Go.RowKit

set_option linter.unusedVariables false
set_option maxRecDepth 100000

theorem tenAt (X : Int) (w : World) (h1 : -19000 ≤ X) (h2 : X ≤ 19000) :
    Calls Tryz.prog 84 #[.int .i64 (-X)] w fun e w' => RR w w' e (10 ^ (-X).toNat) (10 ^ X.toNat) := by
  rcases Int.le_total 0 X with h | h
  · obtain ⟨k, rfl⟩ := Int.eq_ofNat_of_zero_le h
    have e1 : (-(k : Int)).toNat = 0 := by omega
    have e2 : ((k : Int)).toNat = k := by omega
    rw [e1, e2, Nat.pow_zero]
    exact tenPower_neg k w (by omega)
  · obtain ⟨k, hk⟩ := Int.eq_ofNat_of_zero_le (show 0 ≤ -X by omega)
    have e0 : X = -(k : Int) := by omega
    subst e0
    have e1 : (-(-(k : Int))).toNat = k := by omega
    have e2 : (-(k : Int)).toNat = 0 := by omega
    rw [e1, e2, Nat.pow_zero, show -(-(k : Int)) = (k : Int) by omega]
    exact tenPower_pos k w (by omega)

theorem twoAt (q : Int) (s : Nat) (w : World) (x y : Option Addr) (d e : Nat) (h1 : -19000 ≤ q) (h2 : q ≤ 19000) (hs : s < 2 ^ 128) (hx : Rd w x (L s)) (hy : Rd w y (L 1)) :
    Calls Tryz.prog 86 #[.agg #[.slice x (L s).length d, .slice y 1 e], .int .i64 q] w fun e w' => RR w w' e (s * 2 ^ q.toNat) (2 ^ (-q).toNat) := by
  have lO : (L 1).length = 1 := by rw [L_unit]; rfl
  have ls : (L s).length ≤ 2 := L_len_b s 128 2 hs (by omega)
  rcases Int.le_total 0 q with h | h
  · obtain ⟨k, rfl⟩ := Int.eq_ofNat_of_zero_le h
    have e1 : (-(k : Int)).toNat = 0 := by omega
    have e2 : ((k : Int)).toNat = k := by omega
    rw [e1, e2]
    have := timesTwo_pos x y d e _ _ s 1 k w rfl lO (by omega) (by omega) (by omega) hx hy
    rwa [Nat.one_mul] at this
  · obtain ⟨k, hk⟩ := Int.eq_ofNat_of_zero_le (show 0 ≤ -q by omega)
    have e0 : q = -(k : Int) := by omega
    subst e0
    have e1 : (-(-(k : Int))).toNat = k := by omega
    have e2 : (-(k : Int)).toNat = 0 := by omega
    rw [e1, e2]
    have := timesTwo_neg x y d e _ _ s 1 k w rfl lO (by omega) (by omega) (by omega) hx hy
    rwa [Nat.one_mul] at this

theorem ten_lim (m : Nat) (h : m ≤ 7100) : (L (10 ^ m)).length ≤ 450 := by
  refine L_len_b (10 ^ m) (4 * m + 1) 450 ?_ (by omega)
  have := pow_le_two 10 m
  rw [blen10] at this
  exact Nat.lt_of_le_of_lt this (Nat.pow_lt_pow_right (by omega) (by omega))

set_option maxHeartbeats 1000000 in
theorem ishort_any (f : Nat) (hf : f < 4) (X : Nat) (hX : X < 2 ^ 128) (w : World) (hm : Fmt w) (T : M.Pt) (hT : T = (M.fm f).upk X) (hc : T.c = 2 ∨ T.c = 3) (t : M.Wd) (ht : t = wdOf (M.fm f) T) (r : Nat) (b : t.Best r) :
    Calls Tryz.prog 8 #[.int .i64 (f : Int), .agg #[.int .u64 (M.hiN X : Int), .int .u64 (M.loN X : Int)]] w fun e w' => ShO w w' e (M.sd (t.pick (t.X + r))) (wdX t r) T.n 0 := by
  have h := M.fm_ok f
  have hp := h.upk_proper X
  have kU := fun v : World => unpack_any (M.fm f) h X hX v
  rw [← hT] at kU hp
  have hpr : (M.fm f).Proper T := by
    rcases hp with hp | hp
    · rw [hp] at hc; simp at hc
    · exact hp
  have hfi := fin_of h hpr hc
  have hok := wd_ok h hfi
  rw [← ht] at hok
  have kE := fun (v : World) (hv : Fmt v) => describe_ok f hf v hv
  have kK := fun v : World => dKnown (M.fm f) h v
  have kB := fun v : World => dbounds (M.fm f) h T hfi v
  have eA : bA (M.fm f) T = t.lo := by rw [ht]; rfl
  have eB : bB T = t.hi := by rw [ht]; rfl
  have eC : bC T = t.den := by rw [ht]; rfl
  have eK : decide (T.s % 2 = 0) = t.cl := by rw [ht]; rfl
  have es : T.s = t.s := by rw [ht]; rfl
  have eq' : T.q = t.q := by rw [ht]; rfl
  rw [eA, eB, eC, eK] at kB
  obtain ⟨s1, s2, q1, q2, q3, q4, s3, s4⟩ := hfi
  obtain ⟨-, -, x1, x2⟩ := hok.e_le
  have lsL : ∀ x : Nat, x < 2 ^ 128 → ∀ u : Nat, u ≤ 17000 → (L (x * 2 ^ u)).length ≤ 300 := fun x hx u hu => L_len_b _ (128 + u) 300 (mul_pow_lt hx) (by omega)
  have lt2 : ∀ u : Nat, u ≤ 17000 → (L (2 ^ u)).length ≤ 300 := fun u hu => by have := lsL 1 (by omega) u hu; rwa [Nat.one_mul] at this
  have lA : (L t.lo).length ≤ 300 := lsL t.l (by have := hok.l1; omega) _ (by omega)
  have lB : (L t.hi).length ≤ 300 := lsL (4 * t.s + 2) (by omega) _ (by omega)
  have lC : (L t.den).length ≤ 300 := lt2 _ (by omega)
  have lN2 : (L (T.s * 2 ^ T.q.toNat)).length ≤ 300 := lsL _ (by omega) _ (by omega)
  have lD2 : (L (2 ^ (-T.q).toNat)).length ≤ 300 := lt2 _ (by omega)
  have lP : (L (10 ^ (-t.X).toNat)).length ≤ 450 := ten_lim _ (by omega)
  have lQ : (L (10 ^ t.X.toNat)).length ≤ 450 := ten_lim _ (by omega)
  have pow2 : ∀ u : Nat, 0 < 2 ^ u := fun u => Nat.pow_pos (by omega)
  have pow10 : ∀ u : Nat, 0 < 10 ^ u := fun u => Nat.pow_pos (by omega)
  have pB : t.cl = false → 1 ≤ t.hi * 10 ^ (-t.X).toNat / (t.den * 10 ^ t.X.toNat) := fun _ => by
    have g1 := hok.first.1
    have g2 := M.un_lt hok.mid_hi t.X
    exact Nat.le_trans g1 (Nat.div_le_div_right (Nat.le_of_lt g2))
  have e1 : T.s * 2 ^ T.q.toNat * 10 ^ (-t.X).toNat = t.vn := by rw [es, eq']; rfl
  have e2 : 2 ^ (-T.q).toNat * 10 ^ t.X.toNat = t.vd := by rw [eq']; rfl
  have e3 : (if t.lo * 10 ^ (-t.X).toNat % (t.den * 10 ^ t.X.toNat) ≠ 0 ∨ t.cl = false then t.lo * 10 ^ (-t.X).toNat / (t.den * 10 ^ t.X.toNat) + 1 else t.lo * 10 ^ (-t.X).toNat / (t.den * 10 ^ t.X.toNat)) = t.least := rfl
  have e4 : (if t.hi * 10 ^ (-t.X).toNat % (t.den * 10 ^ t.X.toNat) = 0 ∧ t.cl = false then t.hi * 10 ^ (-t.X).toNat / (t.den * 10 ^ t.X.toNat) - 1 else t.hi * 10 ^ (-t.X).toNat / (t.den * 10 ^ t.X.toNat)) = t.most := rfl
  have kR : ∀ (v : World) (a b c : Option Addr) (ca cb cc : Nat), Rd v a (L t.lo) → Rd v b (L t.hi) → Rd v c (L t.den) → Calls Tryz.prog 47 #[.agg #[.slice a (L t.lo).length ca, .slice b (L t.hi).length cb, .slice c (L t.den).length cc, .bool t.cl, .bool true], pv T] v fun e w' => NR v w' e t := fun v a b c ca cb cc ra rb rc => by
    have := newReach_any a b c ca cb cc t.lo t.hi t.den t.cl T.n T.c T.q t.X T.s (T.s * 2 ^ T.q.toNat) (2 ^ (-T.q).toNat) (10 ^ (-t.X).toNat) (10 ^ t.X.toNat) v (by omega) (by omega) (by omega) (by omega) (by omega) (by omega) (by omega) (by omega) (by omega) (by omega) (pow2 _) (pow10 _) (pow2 _) pB (by rw [eq']) ra rb rc (fun v => tenAt t.X v (by omega) (by omega)) (fun v x y d e hx hy => twoAt T.q T.s v x y d e (by omega) (by omega) (by omega) hx hy)
    rw [e1, e2, hok.whole, e3, e4] at this
    exact this
  have lvn : (L t.vn).length ≤ 1000 := by rw [← e1]; exact Nat.le_trans (mul_len _ _ 300 450 lN2 lP) (by omega)
  have lvd : (L t.vd).length ≤ 1000 := by rw [← e2]; exact Nat.le_trans (mul_len _ _ 300 450 lD2 lQ) (by omega)
  have lT : (L (t.T t.X)).length ≤ 1000 := by rw [← hok.whole]; exact Nat.le_trans (L_len_le (Nat.div_le_self _ _)) lvn
  have l1 : (L 1).length = 1 := by rw [L_unit]; rfl
  have lle : (L t.least).length ≤ 1000 := by
    have k1 := mul_len _ _ 300 450 lA lP
    have k2 := sum_len _ 1 750 k1 (by omega)
    refine Nat.le_trans (L_len_le (b := t.lo * 10 ^ (-t.X).toNat + 1) ?_) (by omega)
    rw [← e3]
    have := Nat.div_le_self (t.lo * 10 ^ (-t.X).toNat) (t.den * 10 ^ t.X.toNat)
    split <;> omega
  have lmo : (L t.most).length ≤ 1000 := by
    have k1 := mul_len _ _ 300 450 lB lP
    refine Nat.le_trans (L_len_le (b := t.hi * 10 ^ (-t.X).toNat) ?_) (by omega)
    rw [← e4]
    have := Nat.div_le_self (t.hi * 10 ^ (-t.X).toNat) (t.den * 10 ^ t.X.toNat)
    split <;> omega
  have kS := fun (v : World) (a1 a2 a3 a4 a5 : Option Addr) (c1 c2 c3 c4 c5 : Nat) h1 h2 h3 h4 h5 => rshort_any t hok r b a1 a2 a3 a4 a5 c1 c2 c3 c4 c5 v lvn lvd lT lle lmo (by omega) (by omega) h1 h2 h3 h4 h5
  rcases hc with hc | hc
  · exact ishort_fin2 (f : Int) X T (M.fm f) t _ _ w hm hc kE kK kU kB kR kS
  · exact ishort_fin3 (f : Int) X T (M.fm f) t _ _ w hm hc kE kK kU kB kR kS

end Go.Proofs.YtmglhkdgfcbonaaGreatDoor

