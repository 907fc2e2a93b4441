import Derived.Test.YtmglhkdgfcbonaaGreatDoorrSS
import Derived.Test.YtmglhkdgfcbonaaGreatDoorrUI
import Derived.Test.YtmglhkdgfcbonaaGreatDoorrTB
import Derived.Test.YtmglhkdgfcbonaaGreatDoorrSx4
import Derived.Test.YtmglhkdgfcbonaaGreatDoorrSX
set_option maxHeartbeats 1000000
namespace Go.Proofs.YtmglhkdgfcbonaaGreatDoor.M
set_option linter.unusedVariables false
set_option maxRecDepth 100000
def Wd.In (t : Wd) (c : Nat) (y : Int) : Prop := if t.cl then un t.lo y ≤ c * ud t.den y ∧ c * ud t.den y ≤ un t.hi y else un t.lo y < c * ud t.den y ∧ c * ud t.den y < un t.hi y

theorem Wd.T_le (t : Wd) (h : t.Ok) (y : Int) : t.T y * ud t.den y ≤ un t.mid y ∧ un t.mid y < (t.T y + 1) * ud t.den y := by
 have p := ud_pos h.den_pos y
 refine ⟨Nat.div_mul_le_self _ _, ?_⟩
 have := Nat.lt_div_mul_add (a := un t.mid y) (b := ud t.den y) p
 rw [Nat.add_mul, Nat.one_mul]
 exact this

theorem Wd.ok_of_in {t : Wd} (h : t.Ok) {c : Nat} {y : Int} (hc : t.In c y) : t.ok y := by
 obtain ⟨k1, k2⟩ := t.T_le h y
 have lm := un_lt h.lo_mid y
 have mh := un_lt h.mid_hi y
 unfold Wd.In at hc
 rcases Nat.lt_or_ge (t.T y) c with g | g
 · refine .inr ?_
   have := Nat.mul_le_mul_right (ud t.den y) (show t.T y + 1 ≤ c from g)
   unfold highOK
   split
   · rename_i e; rw [if_pos e] at hc
     exact Nat.le_trans this hc.2
   · rename_i e; rw [if_neg e] at hc
     exact Nat.lt_of_le_of_lt this hc.2
 · refine .inl ?_
   have := Nat.mul_le_mul_right (ud t.den y) g
   unfold lowOK
   split
   · rename_i e; rw [if_pos e] at hc
     exact Nat.le_trans hc.1 this
   · rename_i e; rw [if_neg e] at hc
     exact Nat.lt_of_lt_of_le hc.1 this

theorem Wd.in_pick {t : Wd} (h : t.Ok) {y : Int} (hk : t.ok y) : t.In (t.pick y) y := by
 obtain ⟨k1, k2⟩ := t.T_le h y
 have lm := un_lt h.lo_mid y
 have mh := un_lt h.mid_hi y
 have hi : highOK t.hi t.mid t.den t.cl y → t.In (t.T y + 1) y := by
  intro g
  unfold highOK at g
  unfold Wd.In
  split
  · rename_i e; rw [if_pos e] at g; exact ⟨by omega, g⟩
  · rename_i e; rw [if_neg e] at g; exact ⟨by omega, g⟩
 have lo : lowOK t.lo t.mid t.den t.cl y → t.In (t.T y) y := by
  intro g
  unfold lowOK at g
  unfold Wd.In
  split
  · rename_i e; rw [if_pos e] at g; exact ⟨g, by omega⟩
  · rename_i e; rw [if_neg e] at g; exact ⟨g, by omega⟩
 unfold Wd.pick
 split
 · rename_i g
   exact hi (hk.resolve_left g)
 · rename_i g
   split
   · exact lo (Classical.not_not.1 g)
   · rename_i g2
     split
     · exact lo (Classical.not_not.1 g)
     · exact hi (Classical.not_not.1 g2)

theorem Wd.in_shift {t : Wd} (h : t.Ok) (c : Nat) (y : Int) (k : Nat) : t.In c (y + k) ↔ t.In (c * 10 ^ k) y := by
 have a1 := un_le t.lo t.den c h.den_pos y k
 have a2 := un_ge t.lo t.den c h.den_pos y k
 have b1 := un_le t.hi t.den c h.den_pos y k
 have b2 := un_ge t.hi t.den c h.den_pos y k
 unfold Wd.In
 split
 · rw [a1, b2]
 · constructor
   · intro g; exact ⟨by omega, by omega⟩
   · intro g; exact ⟨by omega, by omega⟩

theorem sd_ten (v : Nat) (h : 1 ≤ v) : sd (v * 10) = sd v := by
 unfold sd
 rw [tl_ten v (by omega)]
 simp

theorem sd_same (v : Nat) (h : v % 10 ≠ 0) : sd v = txt v := by
 have e : (tl v).dropWhile (fun c => decide (c = 48)) = tl v := by
  rw [tl_pos (by omega)]
  rw [List.dropWhile_cons, if_neg (by simp; omega)]
 unfold sd txt
 rw [e, if_neg (by omega)]

theorem sd_split (v : Nat) (h : 1 ≤ v) : ∃ n k, v = n * 10 ^ k ∧ n % 10 ≠ 0 ∧ sd v = txt n ∧ (txt v).length = (txt n).length + k := by
 induction v using Nat.strongRecOn with
 | _ v ih =>
   by_cases h0 : v % 10 = 0
   · obtain ⟨n, k, e1, e2, e3, e4⟩ := ih (v / 10) (by omega) (by omega)
     have ev : v = v / 10 * 10 := by omega
     refine ⟨n, k + 1, ?_, e2, ?_, ?_⟩
     · rw [Nat.pow_succ, ← Nat.mul_assoc, ← e1]; exact ev
     · rw [ev, sd_ten _ (by omega)]; exact e3
     · rw [ev, ← Nat.pow_one 10, txt_tens_len (v / 10) (by omega) 1, e4]; omega
   · exact ⟨v, 0, by simp, h0, sd_same v h0, by simp⟩

theorem Wd.pick_cases (t : Wd) (y : Int) : t.pick y = t.T y ∨ t.pick y = t.T y + 1 := by
 unfold Wd.pick
 split
 · exact .inr rfl
 · split
   · exact .inl rfl
   · split
     · exact .inl rfl
     · exact .inr rfl

theorem Wd.Best.T_lt {t : Wd} (h : t.Ok) {r : Nat} (b : t.Best r) : t.T (t.X + r) < 10 ^ (t.N - r) := by
 have e0 : t.T (t.X + r) = t.T t.X / 10 ^ r := uT_add _ _ h.den_pos _ _
 have := (txt_size _ h.first.1).2.1
 have hr := b.lt
 rw [e0, Nat.div_lt_iff_lt_mul (Nat.pow_pos (by omega)), ← Nat.pow_add, show t.N - r + r = t.N by omega]
 exact this

theorem Wd.Best.far {t : Wd} (h : t.Ok) {r : Nat} (b : t.Best r) {j c : Nat} (hj : r < j) (hc : t.In c (t.X + j)) : t.N ≤ j :=
 Classical.byContradiction fun hn => b.no j hj (by omega) (Wd.ok_of_in h hc)

theorem Wd.Best.none {t : Wd} (h : t.Ok) {r : Nat} (b : t.Best r) {n k : Nat} (e : t.pick (t.X + r) = n * 10 ^ k) (h10 : n % 10 ≠ 0) (hl : 1 < (txt n).length) (c : Nat) : ¬ t.In c (t.X + r + k + 1) := by
 intro hc
 have hN := b.far h (j := r + k + 1) (by omega) (c := c) (by rwa [show t.X + ((r + k + 1 : Nat) : Int) = t.X + r + k + 1 by omega])
 have n10 : 10 ≤ n := by
  refine Classical.byContradiction fun hn => ?_
  have := txt_len 0 n (by omega)
  omega
 have lt := b.T_lt h
 have lt2 : 10 ^ (t.N - r) ≤ 10 ^ (k + 1) := Nat.pow_le_pow_right (by omega) (by omega)
 rw [Nat.pow_succ] at lt2
 have := Nat.mul_le_mul_right (10 ^ k) (show 11 ≤ n by omega)
 have p : 0 < 10 ^ k := Nat.pow_pos (by omega)
 rcases t.pick_cases (t.X + r) with g | g <;> rw [g] at e <;> omega

def Wd.D (t : Wd) (c : Nat) (y : Int) : Nat := if un t.mid y ≤ c * ud t.den y then c * ud t.den y - un t.mid y else un t.mid y - c * ud t.den y

theorem Wd.Best.near {t : Wd} (h : t.Ok) {r : Nat} (b : t.Best r) {n k : Nat} (e : t.pick (t.X + r) = n * 10 ^ k) (h10 : n % 10 ≠ 0) (c : Nat) (hc : c = n - 1 ∨ c = n + 1) (hin : t.In c (t.X + r + k)) :
    t.D n (t.X + r + k) ≤ t.D c (t.X + r + k) ∧ (t.D n (t.X + r + k) = t.D c (t.X + r + k) → n % 2 = 0) := by
  have p := ud_pos h.den_pos (t.X + r + k)
  rcases Nat.eq_zero_or_pos k with rfl | hk
  · rw [Nat.pow_zero, Nat.mul_one] at e
    have ey : t.X + (r : Int) + ((0 : Nat) : Int) = t.X + r := by omega
    rw [ey] at p hin ⊢
    clear ey
    generalize t.X + (r : Int) = y at *
    obtain ⟨k1, k2⟩ := t.T_le h y
    have hpos : 1 ≤ n := by omega
    have hl : lowOK t.lo t.mid t.den t.cl y ↔ (if t.cl then un t.lo y ≤ t.T y * ud t.den y else un t.lo y < t.T y * ud t.den y) := Iff.rfl
    have hh : highOK t.hi t.mid t.den t.cl y ↔ (if t.cl then (t.T y + 1) * ud t.den y ≤ un t.hi y else (t.T y + 1) * ud t.den y < un t.hi y) := Iff.rfl
    unfold Wd.pick at e
    unfold Wd.In at hin
    unfold Wd.D
    generalize un t.mid y = m at *
    generalize ud t.den y = u at *
    generalize un t.lo y = lo at *
    generalize un t.hi y = hi at *
    generalize t.T y = T at *
    have e1 : (T + 1) * u = T * u + u := by rw [Nat.add_mul, Nat.one_mul]
    have e2 : (2 * T + 1) * u = 2 * (T * u) + u := by rw [Nat.add_mul, Nat.one_mul, Nat.mul_assoc]
    rw [e1] at k2 hh
    rw [e2] at e
    by_cases hT : n = T
    · subst hT
      rcases hc with rfl | rfl
      · have e3 : n * u = (n - 1) * u + u := by
          have : n = n - 1 + 1 := by omega
          calc n * u = (n - 1 + 1) * u := by rw [← this]
            _ = _ := by rw [Nat.add_mul, Nat.one_mul]
        generalize (n - 1) * u = a at *
        split <;> split <;> omega
      · rw [e1] at hin ⊢
        have hH : highOK t.hi t.mid t.den t.cl y := hh.2 (by split <;> rename_i g <;> simp only [g, if_true, if_false, Bool.false_eq_true] at hin <;> exact hin.2)
        by_cases hL : lowOK t.lo t.mid t.den t.cl y
        · rw [if_neg (by simpa using hL), if_neg (by simpa using hH)] at e
          by_cases hS : 2 * m < 2 * (n * u) + u ∨ 2 * m = 2 * (n * u) + u ∧ n % 2 = 0
          · split <;> split <;> omega
          · rw [if_neg hS] at e; omega
        · rw [if_pos hL] at e; omega
    · have hT2 : n = T + 1 := by
        by_cases hL : lowOK t.lo t.mid t.den t.cl y
        · rw [if_neg (by simpa using hL)] at e
          by_cases hH : highOK t.hi t.mid t.den t.cl y
          · rw [if_neg (by simpa using hH)] at e
            split at e <;> omega
          · rw [if_pos hH] at e; omega
        · rw [if_pos hL] at e; omega
      subst hT2
      rw [e1]
      rcases hc with hc | rfl
      · have hcT : T = c := by omega
        subst hcT
        have hL : lowOK t.lo t.mid t.den t.cl y := hl.2 (by split <;> rename_i g <;> simp only [g, if_true, if_false, Bool.false_eq_true] at hin <;> exact hin.1)
        rw [if_neg (by simpa using hL)] at e
        by_cases hH : highOK t.hi t.mid t.den t.cl y
        · rw [if_neg (by simpa using hH)] at e
          by_cases hS : 2 * m < 2 * (T * u) + u ∨ 2 * m = 2 * (T * u) + u ∧ T % 2 = 0
          · rw [if_pos hS] at e; omega
          · split <;> split <;> omega
        · rw [if_pos hH] at e; omega
      · have e3 : (T + 1 + 1) * u = T * u + u + u := by rw [Nat.add_mul, Nat.one_mul, e1]
        rw [e3]
        split <;> split <;> omega
  · have i1 : t.In (n * 10 ^ k) (t.X + r) := by rw [← e]; exact Wd.in_pick h b.ok
    have e10 : n * 10 ^ k = n * 10 ^ (k - 1) * 10 ^ 1 := by rw [Nat.pow_one, Nat.mul_assoc, ← Nat.pow_succ, show (k - 1).succ = k by omega]
    rw [e10, ← Wd.in_shift h] at i1
    have hN := b.far h (j := r + 1) (by omega) (c := n * 10 ^ (k - 1)) (by rwa [show t.X + ((r + 1 : Nat) : Int) = t.X + r + ((1 : Nat) : Int) by omega])
    have hr := b.lt
    have lt := b.T_lt h
    rw [show t.N - r = 1 by omega, Nat.pow_one] at lt
    have p1 : 1 ≤ n * 10 ^ (k - 1) := Nat.mul_pos (by omega) (Nat.pow_pos (by omega))
    rw [Nat.pow_one] at e10
    have hP : t.pick (t.X + r) = 10 ∧ t.T (t.X + r) = 9 := by
      rcases t.pick_cases (t.X + r) with g | g <;> rw [g] at e ⊢ <;> omega
    have hk1 : k = 1 := by
      refine Classical.byContradiction fun hn => ?_
      have : 10 ^ 2 ≤ 10 ^ k := Nat.pow_le_pow_right (by omega) (by omega)
      have := Nat.mul_le_mul (show 1 ≤ n by omega) this
      omega
    subst hk1
    have hn1 : n = 1 := by omega
    subst hn1
    obtain ⟨k1, k2⟩ := t.T_le h (t.X + r)
    rw [hP.2] at k1 k2
    have a1 := un_ge t.mid t.den 1 h.den_pos (t.X + r) 1
    have a2 := un_le (2 * t.mid) t.den 1 h.den_pos (t.X + r) 1
    rw [un_mul, un_mul] at a2
    unfold Wd.D
    generalize un t.mid (t.X + r) = m' at *
    generalize ud t.den (t.X + r) = u' at *
    generalize un t.mid (t.X + r + ((1 : Nat) : Int)) = m at *
    generalize ud t.den (t.X + r + ((1 : Nat) : Int)) = u at *
    rcases hc with rfl | rfl
    · split <;> split <;> omega
    · split <;> split <;> omega

theorem Wd.exp_le {t : Wd} (h : t.Ok) {r : Nat} (b : t.Best r) {k : Nat} (hk : k ≤ 50) : -5500 ≤ t.X + r + k ∧ t.X + r + k ≤ 5500 := by
 have q1 := h.q1
 have q2 := h.q2
 have hN := h.N_le
 have hr := b.lt
 have : -5100 ≤ t.X ∧ t.X ≤ 5100 := by
  show -5100 ≤ uB (t.q - 2) ∧ uB (t.q - 2) ≤ 5100
  rcases Int.le_total 0 (t.q - 2) with g | g
  · obtain ⟨a, ha⟩ := Int.eq_ofNat_of_zero_le g
    rw [ha, uB_pos]
    omega
  · obtain ⟨a, ha⟩ := Int.eq_ofNat_of_zero_le (show 0 ≤ -(t.q - 2) by omega)
    rw [show t.q - 2 = -(a : Int) by omega, uB_neg]
    omega
 omega

end Go.Proofs.YtmglhkdgfcbonaaGreatDoor.M
namespace Go.Proofs.YtmglhkdgfcbonaaGreatDoor
open Go.RowKit
set_option linter.unusedVariables false
set_option maxRecDepth 100000
theorem fld_c (a : Int) (n : Bool) (h l q : Int) (v : World) : Sem.run Tryz.prog (Instr.field 42 (.agg #[.int .i64 a, .bool n, .int .u64 h, .int .u64 l, .int .i64 q]) 0) v = .ok (.int .i64 a) v := by kernel_rfl

theorem fld_cl (a b c : Option Addr) (n ca m cb k cc : Nat) (x y : Bool) (v : World) : Sem.run Tryz.prog (Instr.field 48 (.agg #[.slice a n ca, .slice b m cb, .slice c k cc, .bool x, .bool y]) 3) v = .ok (.bool x) v := by kernel_rfl

theorem L_len_pos (N : Nat) (h : 1 ≤ N) : 0 < (L N).length := by
 rcases Nat.eq_zero_or_pos (L N).length with e | e
 · have e2 : L N = [] := List.length_eq_zero_iff.1 e
   have := V_L N
   rw [e2] at this
   simp [V, M.val] at this
   omega
 · exact e

def dF (md u k : Nat) : Nat := if md ≤ k * u then k * u - md else md - k * u

structure Fx (ds : List Nat) (xx : Int) (cl : Bool) (n lo hi md u lo1 hi1 u1 : Nat) : Prop where
 d0 : ds.getD 0 0 ≠ 48
 d1 : ds.getD (ds.length - 1) 0 ≠ 48
 dl : 1 ≤ ds.length ∧ ds.length ≤ 41
 xr : -5500 ≤ xx ∧ xx ≤ 5500
 n1 : 1 ≤ n
 ln : (L n).length ≤ 10 ∧ (L (n - 1)).length ≤ 10 ∧ (L (n + 1)).length ≤ 10
 ll : (L lo).length ≤ 900 ∧ (L hi).length ≤ 900 ∧ (L md).length ≤ 900 ∧ (L u).length ≤ 900
 l1 : (L lo1).length ≤ 900 ∧ (L hi1).length ≤ 900 ∧ (L u1).length ≤ 900
 lk : ∀ k, k ≤ n + 1 → (L (k * u)).length ≤ 1000 ∧ (L (dF md u k)).length ≤ 1000
 lq : (L (lo1 / u1)).length ≤ 900 ∧ (L (lo1 / u1 + 1)).length ≤ 900 ∧ (L (lo1 / u1 * u1)).length ≤ 1000 ∧ (L ((lo1 / u1 + 1) * u1)).length ≤ 1000
 up : 0 < u1
 w0 : wJ (n * u) lo hi cl = true
 w1 : 1 < ds.length → ∀ k, wJ (k * u1) lo1 hi1 cl = false
 nr : ∀ k, (k = n - 1 ∨ k = n + 1) → wJ (k * u) lo hi cl = true → ¬ cmpI (dF md u n : Int) (dF md u k : Int) = 1 ∧ (cmpI (dF md u n : Int) (dF md u k : Int) = 0 → n % 2 = 0)

def wdOf (F : M.Fm) (T : M.Pt) : M.Wd := ⟨T.s, bLow F T, T.q⟩

theorem wd_ok {F : M.Fm} (h : F.Ok) {T : M.Pt} (hf : Fin F T) : (wdOf F T).Ok := by
 have p1 := h.p1
 have p2 := h.p2
 have tp := h.top2
 have hq : F.qmin = 2 - (F.emax : Int) - (F.p : Int) := rfl
 have l2 : F.lead ≤ 2 ^ 112 := Nat.pow_le_pow_right (by omega) (by omega)
 obtain ⟨s1, s2, q1, q2, q3, q4, s3, s4⟩ := hf
 refine ⟨s1, ?_, ?_, ?_, ?_⟩
 · show T.s < 2 ^ 113
   omega
 · show bLow F T < 4 * T.s
   unfold bLow; split <;> omega
 · show -16598 ≤ T.q
   omega
 · show T.q ≤ 16600
   omega

theorem tenAt (X : Int) (w : World) (h1 : -19000 ≤ X) (h2 : X ≤ 19000) :
 Calls Tryz.prog 84 #[.int .i64 (-X)] w fun e w' => RR w w' e (10 ^ (-X).toNat) (10 ^ X.toNat) := by
 rcases Int.le_total 0 X with h | h
 · obtain ⟨k, rfl⟩ := Int.eq_ofNat_of_zero_le h
   have e1 : (-(k : Int)).toNat = 0 := by omega
   have e2 : ((k : Int)).toNat = k := by omega
   rw [e1, e2, Nat.pow_zero]
   exact tenPower_neg k w (by omega)
 · obtain ⟨k, hk⟩ := Int.eq_ofNat_of_zero_le (show 0 ≤ -X by omega)
   have e0 : X = -(k : Int) := by omega
   subst e0
   have e1 : (-(-(k : Int))).toNat = k := by omega
   have e2 : (-(k : Int)).toNat = 0 := by omega
   rw [e1, e2, Nat.pow_zero, show -(-(k : Int)) = (k : Int) by omega]
   exact tenPower_pos k w (by omega)

theorem twoAt (q : Int) (s : Nat) (w : World) (x y : Option Addr) (d e : Nat) (h1 : -19000 ≤ q) (h2 : q ≤ 19000) (hs : s < 2 ^ 128) (hx : Rd w x (L s)) (hy : Rd w y (L 1)) :
 Calls Tryz.prog 86 #[.agg #[.slice x (L s).length d, .slice y 1 e], .int .i64 q] w fun e w' => RR w w' e (s * 2 ^ q.toNat) (2 ^ (-q).toNat) := by
 have lO : (L 1).length = 1 := by rw [L_unit]; rfl
 have ls : (L s).length ≤ 2 := L_len_b s 128 2 hs (by omega)
 rcases Int.le_total 0 q with h | h
 · obtain ⟨k, rfl⟩ := Int.eq_ofNat_of_zero_le h
   have e1 : (-(k : Int)).toNat = 0 := by omega
   have e2 : ((k : Int)).toNat = k := by omega
   rw [e1, e2]
   have := timesTwo_pos x y d e _ _ s 1 k w rfl lO (by omega) (by omega) (by omega) hx hy
   rwa [Nat.one_mul] at this
 · obtain ⟨k, hk⟩ := Int.eq_ofNat_of_zero_le (show 0 ≤ -q by omega)
   have e0 : q = -(k : Int) := by omega
   subst e0
   have e1 : (-(-(k : Int))).toNat = k := by omega
   have e2 : (-(k : Int)).toNat = 0 := by omega
   rw [e1, e2]
   have := timesTwo_neg x y d e _ _ s 1 k w rfl lO (by omega) (by omega) (by omega) hx hy
   rwa [Nat.one_mul] at this

theorem ten_lim (m : Nat) (h : m ≤ 7100) : (L (10 ^ m)).length ≤ 450 := by
 refine L_len_b (10 ^ m) (4 * m + 1) 450 ?_ (by omega)
 have := pow_le_two 10 m
 rw [blen10] at this
 exact Nat.lt_of_le_of_lt this (Nat.pow_lt_pow_right (by omega) (by omega))

theorem ishort_any (f : Nat) (hf : f < 4) (X : Nat) (hX : X < 2 ^ 128) (w : World) (hm : Fmt w) (T : M.Pt) (hT : T = (M.fm f).upk X) (hc : T.c = 2 ∨ T.c = 3) (t : M.Wd) (ht : t = wdOf (M.fm f) T) (r : Nat) (b : t.Best r) :
 Calls Tryz.prog 8 #[.int .i64 (f : Int), .agg #[.int .u64 (M.hiN X : Int), .int .u64 (M.loN X : Int)]] w fun e w' => ShO w w' e (M.sd (t.pick (t.X + r))) (wdX t r) T.n 0 := by
 have h := M.fm_ok f
 have hp := h.upk_proper X
 have kU := fun v : World => unpack_any (M.fm f) h X hX v
 rw [← hT] at kU hp
 have hpr : (M.fm f).Proper T := by
  rcases hp with hp | hp
  · rw [hp] at hc; simp at hc
  · exact hp
 have hfi := fin_of h hpr hc
 have hok := wd_ok h hfi
 rw [← ht] at hok
 have kE := fun (v : World) (hv : Fmt v) => describe_ok f hf v hv
 have kK := fun v : World => dKnown (M.fm f) h v
 have kB := fun v : World => dbounds (M.fm f) h T hfi v
 have eA : bA (M.fm f) T = t.lo := by rw [ht]; rfl
 have eB : bB T = t.hi := by rw [ht]; rfl
 have eC : bC T = t.den := by rw [ht]; rfl
 have eK : decide (T.s % 2 = 0) = t.cl := by rw [ht]; rfl
 have es : T.s = t.s := by rw [ht]; rfl
 have eq' : T.q = t.q := by rw [ht]; rfl
 rw [eA, eB, eC, eK] at kB
 obtain ⟨s1, s2, q1, q2, q3, q4, s3, s4⟩ := hfi
 obtain ⟨-, -, x1, x2⟩ := hok.e_le
 have lsL : ∀ x : Nat, x < 2 ^ 128 → ∀ u : Nat, u ≤ 17000 → (L (x * 2 ^ u)).length ≤ 300 := fun x hx u hu => L_len_b _ (128 + u) 300 (mul_pow_lt hx) (by omega)
 have lt2 : ∀ u : Nat, u ≤ 17000 → (L (2 ^ u)).length ≤ 300 := fun u hu => by have := lsL 1 (by omega) u hu; rwa [Nat.one_mul] at this
 have lA : (L t.lo).length ≤ 300 := lsL t.l (by have := hok.l1; omega) _ (by omega)
 have lB : (L t.hi).length ≤ 300 := lsL (4 * t.s + 2) (by omega) _ (by omega)
 have lC : (L t.den).length ≤ 300 := lt2 _ (by omega)
 have lN2 : (L (T.s * 2 ^ T.q.toNat)).length ≤ 300 := lsL _ (by omega) _ (by omega)
 have lD2 : (L (2 ^ (-T.q).toNat)).length ≤ 300 := lt2 _ (by omega)
 have lP : (L (10 ^ (-t.X).toNat)).length ≤ 450 := ten_lim _ (by omega)
 have lQ : (L (10 ^ t.X.toNat)).length ≤ 450 := ten_lim _ (by omega)
 have pow2 : ∀ u : Nat, 0 < 2 ^ u := fun u => Nat.pow_pos (by omega)
 have pow10 : ∀ u : Nat, 0 < 10 ^ u := fun u => Nat.pow_pos (by omega)
 have pB : t.cl = false → 1 ≤ t.hi * 10 ^ (-t.X).toNat / (t.den * 10 ^ t.X.toNat) := fun _ => by
  have g1 := hok.first.1
  have g2 := M.un_lt hok.mid_hi t.X
  exact Nat.le_trans g1 (Nat.div_le_div_right (Nat.le_of_lt g2))
 have e1 : T.s * 2 ^ T.q.toNat * 10 ^ (-t.X).toNat = t.vn := by rw [es, eq']; rfl
 have e2 : 2 ^ (-T.q).toNat * 10 ^ t.X.toNat = t.vd := by rw [eq']; rfl
 have e3 : (if t.lo * 10 ^ (-t.X).toNat % (t.den * 10 ^ t.X.toNat) ≠ 0 ∨ t.cl = false then t.lo * 10 ^ (-t.X).toNat / (t.den * 10 ^ t.X.toNat) + 1 else t.lo * 10 ^ (-t.X).toNat / (t.den * 10 ^ t.X.toNat)) = t.least := rfl
 have e4 : (if t.hi * 10 ^ (-t.X).toNat % (t.den * 10 ^ t.X.toNat) = 0 ∧ t.cl = false then t.hi * 10 ^ (-t.X).toNat / (t.den * 10 ^ t.X.toNat) - 1 else t.hi * 10 ^ (-t.X).toNat / (t.den * 10 ^ t.X.toNat)) = t.most := rfl
 have kR : ∀ (v : World) (a b c : Option Addr) (ca cb cc : Nat), Rd v a (L t.lo) → Rd v b (L t.hi) → Rd v c (L t.den) → Calls Tryz.prog 47 #[.agg #[.slice a (L t.lo).length ca, .slice b (L t.hi).length cb, .slice c (L t.den).length cc, .bool t.cl, .bool true], pv T] v fun e w' => NR v w' e t := fun v a b c ca cb cc ra rb rc => by
  have := newReach_any a b c ca cb cc t.lo t.hi t.den t.cl T.n T.c T.q t.X T.s (T.s * 2 ^ T.q.toNat) (2 ^ (-T.q).toNat) (10 ^ (-t.X).toNat) (10 ^ t.X.toNat) v (by omega) (by omega) (by omega) (by omega) (by omega) (by omega) (by omega) (by omega) (by omega) (by omega) (pow2 _) (pow10 _) (pow2 _) pB (by rw [eq']) ra rb rc (fun v => tenAt t.X v (by omega) (by omega)) (fun v x y d e hx hy => twoAt T.q T.s v x y d e (by omega) (by omega) (by omega) hx hy)
  rw [e1, e2, hok.whole, e3, e4] at this
  exact this
 have lvn : (L t.vn).length ≤ 1000 := by rw [← e1]; exact Nat.le_trans (mul_len _ _ 300 450 lN2 lP) (by omega)
 have lvd : (L t.vd).length ≤ 1000 := by rw [← e2]; exact Nat.le_trans (mul_len _ _ 300 450 lD2 lQ) (by omega)
 have lT : (L (t.T t.X)).length ≤ 1000 := by rw [← hok.whole]; exact Nat.le_trans (L_len_le (Nat.div_le_self _ _)) lvn
 have l1 : (L 1).length = 1 := by rw [L_unit]; rfl
 have lle : (L t.least).length ≤ 1000 := by
  have k1 := mul_len _ _ 300 450 lA lP
  have k2 := sum_len _ 1 750 k1 (by omega)
  refine Nat.le_trans (L_len_le (b := t.lo * 10 ^ (-t.X).toNat + 1) ?_) (by omega)
  rw [← e3]
  have := Nat.div_le_self (t.lo * 10 ^ (-t.X).toNat) (t.den * 10 ^ t.X.toNat)
  split <;> omega
 have lmo : (L t.most).length ≤ 1000 := by
  have k1 := mul_len _ _ 300 450 lB lP
  refine Nat.le_trans (L_len_le (b := t.hi * 10 ^ (-t.X).toNat) ?_) (by omega)
  rw [← e4]
  have := Nat.div_le_self (t.hi * 10 ^ (-t.X).toNat) (t.den * 10 ^ t.X.toNat)
  split <;> omega
 have kS := fun (v : World) (a1 a2 a3 a4 a5 : Option Addr) (c1 c2 c3 c4 c5 : Nat) h1 h2 h3 h4 h5 => rshort_any t hok r b a1 a2 a3 a4 a5 c1 c2 c3 c4 c5 v lvn lvd lT lle lmo (by omega) (by omega) h1 h2 h3 h4 h5
 rcases hc with hc | hc
 · exact ishort_fin2 (f : Int) X T (M.fm f) t _ _ w hm hc kE kK kU kB kR kS
 · exact ishort_fin3 (f : Int) X T (M.fm f) t _ _ w hm hc kE kK kU kB kR kS

theorem wJ_in (t : M.Wd) (k : Nat) (y : Int) : wJ (k * M.ud t.den y) (M.un t.lo y) (M.un t.hi y) t.cl = true ↔ t.In k y := by
 rw [wJ_eq]
 unfold M.Wd.In
 cases t.cl <;> simp

theorem cmpI_nat (a b : Nat) : (cmpI (a : Int) (b : Int) = 1 ↔ b < a) ∧ (cmpI (a : Int) (b : Int) = 0 ↔ a = b) := by
 unfold cmpI
 split
 · refine ⟨?_, ?_⟩ <;> constructor <;> intro h <;> omega
 · split
   · refine ⟨?_, ?_⟩ <;> constructor <;> intro h <;> omega
   · refine ⟨?_, ?_⟩ <;> constructor <;> intro h <;> omega

theorem txt_ends (n : Nat) (h : n % 10 ≠ 0) : (M.txt n).getD 0 0 ≠ 48 ∧ (M.txt n).getD ((M.txt n).length - 1) 0 ≠ 48 := by
 obtain ⟨l, c, e, hc⟩ := M.tl_last (n + 1) n (by omega) (by omega)
 have e1 : M.txt n = (M.tl n).reverse := M.txt_one n (by omega)
 refine ⟨?_, ?_⟩
 · rw [e1, e, List.reverse_append]
   simpa using hc
 · rw [e1, M.tl_pos (by omega), List.reverse_cons, List.length_append, List.length_singleton, Nat.add_sub_cancel, List.getD_eq_getElem?_getD, List.getElem?_append_right (by simp)]
   simp
   omega

theorem scaled_at (f x y tc tq : Int) (tn : Bool) (s A B C Md : Nat) (cl : Bool) (w : World) (hs : s < 2 ^ 128) (hq : -17000 ≤ tq ∧ tq ≤ 17000) (hMd : Md = 4 * s * 2 ^ (tq - 2).toNat) (lA : (L A).length ≤ 600) (lB : (L B).length ≤ 600) (lC : (L C).length ≤ 600) (lM : (L Md).length ≤ 600) (lS : (L (s * 4)).length ≤ 600)
 (kB : ∀ v : World, Calls Tryz.prog 20 #[.int .i64 f, .agg #[.int .u64 x, .int .u64 y]] v fun e w' => Iv v w' e A B C cl)
 (kU : ∀ v : World, Calls Tryz.prog 18 #[.int .i64 f, .agg #[.int .u64 x, .int .u64 y]] v fun e w' => e = .returned (.agg #[.int .i64 tc, .bool tn, .int .u64 (M.hiN s : Int), .int .u64 (M.loN s : Int), .int .i64 tq]) ∧ Below v.heap.size v w') (xx : Int) (h1 : -5600 ≤ xx) (h2 : xx ≤ 5600) :
 Calls Tryz.prog 21 #[.int .i64 f, .agg #[.int .u64 x, .int .u64 y], .int .i64 xx] w fun e w' => S4 w w' e (M.un A xx) (M.un B xx) (M.un Md xx) (M.ud C xx) := by
 unfold M.un M.ud
 rcases Int.le_total 0 xx with g | g
 · obtain ⟨z, hz⟩ := Int.eq_ofNat_of_zero_le g
   rw [show (-xx).toNat = 0 by omega, show xx.toNat = z by omega, Nat.pow_zero, Nat.mul_one, Nat.mul_one, Nat.mul_one, hz]
   exact scaledP f x y tc tq tn s A B C Md cl w hs hq hMd z (by omega) lA lB lC lM lS (Nat.le_trans (ten_lim z (by omega)) (by omega)) kB kU
 · obtain ⟨z, hz⟩ := Int.eq_ofNat_of_zero_le (show 0 ≤ -xx by omega)
   rcases Nat.eq_zero_or_pos z with e | e
   · have e0 : xx = 0 := by omega
     subst e0
     have := scaledP f x y tc tq tn s A B C Md cl w hs hq hMd 0 (by omega) lA lB lC lM lS (Nat.le_trans (ten_lim 0 (by omega)) (by omega)) kB kU
     simpa using this
   · rw [show (-xx).toNat = z by omega, show xx.toNat = 0 by omega, Nat.pow_zero, Nat.mul_one, show xx = -(z : Int) by omega]
     exact scaledN f x y tc tq tn s A B C Md cl w hs hq hMd z e (by omega) lA lB lC lM lS (Nat.le_trans (ten_lim z (by omega)) (by omega)) kB kU

theorem fx_of (t : M.Wd) (h : t.Ok) (r : Nat) (b : t.Best r) (n k : Nat) (e1 : t.pick (t.X + r) = n * 10 ^ k) (e2 : n % 10 ≠ 0) (e4 : (M.txt (t.pick (t.X + r))).length = (M.txt n).length + k) (lA : (L t.lo).length ≤ 400) (lB : (L t.hi).length ≤ 400) (lC : (L t.den).length ≤ 400) (lM : (L t.mid).length ≤ 400) :
 Fx (M.txt n) (t.X + r + k) t.cl n (M.un t.lo (t.X + r + k)) (M.un t.hi (t.X + r + k)) (M.un t.mid (t.X + r + k)) (M.ud t.den (t.X + r + k)) (M.un t.lo (t.X + r + k + 1)) (M.un t.hi (t.X + r + k + 1)) (M.ud t.den (t.X + r + k + 1)) := by
 have e0 : t.T (t.X + r) = t.T t.X / 10 ^ r := M.uT_add _ _ h.den_pos _ _
 have q : t.pick (t.X + r) < 10 ^ 40 := by
  have := h.first.2.1
  have := Nat.div_le_self (t.T t.X) (10 ^ r)
  rcases t.pick_cases (t.X + r) with g | g <;> omega
 have lP := M.txt_len 39 _ q
 have lt0 := M.txt_pos n
 have xr := M.Wd.exp_le h b (k := k) (by omega)
 have hn : n < 10 ^ 40 := by
  have := Nat.mul_le_mul_left n (show 1 ≤ 10 ^ k from Nat.pow_pos (by omega))
  omega
 have n40 : ∀ a, a ≤ n + 1 → (L a).length ≤ 10 := fun a ha => L_len_b a 134 10 (by have : (10 : Nat) ^ 40 + 2 < 2 ^ 134 := by decide
                                                                                   omega) (by omega)
 have lun : ∀ (a : Nat) (y : Int), (L a).length ≤ 400 → -5600 ≤ y → (L (M.un a y)).length ≤ 850 := fun a y ha hy => Nat.le_trans (mul_len a _ 400 450 ha (ten_lim _ (by omega))) (by omega)
 have lud : ∀ (a : Nat) (y : Int), (L a).length ≤ 400 → y ≤ 5600 → (L (M.ud a y)).length ≤ 850 := fun a y ha hy => Nat.le_trans (mul_len a _ 400 450 ha (ten_lim _ (by omega))) (by omega)
 have up := M.ud_pos h.den_pos (t.X + r + k + 1)
 obtain ⟨f0, f1⟩ := txt_ends n e2
 have hin : t.In n (t.X + r + k) := by
  rw [M.Wd.in_shift h, ← e1]
  exact M.Wd.in_pick h b.ok
 have l0 := lun t.lo (t.X + r + k + 1) lA (by omega)
 have l9 := lud t.den (t.X + r + k + 1) lC (by omega)
 have lq2 : M.un t.lo (t.X + r + k + 1) / M.ud t.den (t.X + r + k + 1) * M.ud t.den (t.X + r + k + 1) ≤ M.un t.lo (t.X + r + k + 1) := Nat.div_mul_le_self _ _
 refine ⟨f0, f1, ⟨lt0, by omega⟩, xr, by omega, ⟨n40 n (by omega), n40 (n - 1) (by omega), n40 (n + 1) (by omega)⟩, ⟨Nat.le_trans (lun _ _ lA (by omega)) (by omega), Nat.le_trans (lun _ _ lB (by omega)) (by omega), Nat.le_trans (lun _ _ lM (by omega)) (by omega), Nat.le_trans (lud _ _ lC (by omega)) (by omega)⟩, ⟨by omega, Nat.le_trans (lun _ _ lB (by omega)) (by omega), by omega⟩, fun a ha => ?_, ⟨Nat.le_trans (L_len_le (Nat.div_le_self _ _)) (by omega), ?_, ?_, ?_⟩, up, (wJ_in t n _).2 hin, fun hl a => ?_, fun a ha hw => ?_⟩
 · have a1 := mul_len a (M.ud t.den (t.X + r + k)) 10 850 (n40 a ha) (lud _ _ lC (by omega))
   refine ⟨by omega, ?_⟩
   have a2 := lun t.mid (t.X + r + k) lM (by omega)
   unfold dF
   split
   · exact Nat.le_trans (L_len_le (Nat.sub_le _ _)) (by omega)
   · exact Nat.le_trans (L_len_le (Nat.sub_le _ _)) (by omega)
 · have := sum_len (M.un t.lo (t.X + r + k + 1) / M.ud t.den (t.X + r + k + 1)) 1 850 (Nat.le_trans (L_len_le (Nat.div_le_self _ _)) l0) (Nat.le_trans (n40 1 (by omega)) (by omega))
   omega
 · exact Nat.le_trans (L_len_le lq2) (by omega)
 · have := sum_len (M.un t.lo (t.X + r + k + 1)) (M.ud t.den (t.X + r + k + 1)) 850 l0 l9
   refine Nat.le_trans (L_len_le ?_) (Nat.le_trans this (by omega))
   rw [Nat.add_mul, Nat.one_mul]
   omega
 · have := b.none h e1 e2 hl a
   rw [← wJ_in] at this
   simpa using this
 · have hin2 := (wJ_in t a _).1 hw
   obtain ⟨g1, g2⟩ := b.near h e1 e2 a ha hin2
   obtain ⟨c1, c2⟩ := cmpI_nat (dF (M.un t.mid (t.X + r + k)) (M.ud t.den (t.X + r + k)) n) (dF (M.un t.mid (t.X + r + k)) (M.ud t.den (t.X + r + k)) a)
   rw [c1, c2]
   exact ⟨Nat.not_lt.2 g1, g2⟩

end Go.Proofs.YtmglhkdgfcbonaaGreatDoor
