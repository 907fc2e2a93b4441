import Derived.Deep.Cut
import Derived.Test.YtmglhkdgfcbonaaGreatDoorrBW
import Derived.Test.YtmglhkdgfcbonaaGreatDoorrBX
import Derived.Test.YtmglhkdgfcbonaaGreatDoorrSA
import Derived.Test.YtmglhkdgfcbonaaGreatDoorrBT
import Derived.Test.YtmglhkdgfcbonaaGreatDoorrGD
set_option maxHeartbeats 4000000
set_option maxRecDepth 10000
namespace Go.Proofs.YtmglhkdgfcbonaaGreatDoor
open Go.RowKit
set_option linter.unusedVariables false
set_option maxRecDepth 100000
theorem L_len_le {a b : Nat} (h : a ≤ b) : (L a).length ≤ (L b).length :=
 M.len_of_lt (B := 18446744073709551616) (by omega) _ _ (Nat.lt_of_le_of_lt h (L_lt b _ (Nat.le_refl _)))

theorem uB_ok (m : Int) (h1 : -20000 ≤ m) (h2 : m ≤ 20000) : -7000 ≤ M.uB m ∧ M.uB m ≤ 7000 := by
 rcases Int.le_total 0 m with h | h
 · obtain ⟨k, rfl⟩ := Int.eq_ofNat_of_zero_le h
   rw [M.uB_pos]; omega
 · obtain ⟨k, hk⟩ := Int.eq_ofNat_of_zero_le (show 0 ≤ -m by omega)
   have e : m = -(k : Int) := by omega
   subst e
   rw [M.uB_neg]; omega

theorem unitBelow_any (m : Int) (w : World) (h1 : -20000 ≤ m) (h2 : m ≤ 20000) : Calls Tryz.prog 83 #[.int .i64 m] w fun e w' => e = .returned (.int .i64 (M.uB m)) ∧ w' = w := by
 obtain ⟨u1, u2⟩ := uB_ok m h1 h2
 have hw : wrap64 ((m * 30103).tdiv 100000 - 2) = M.uB m := by
  have : (m * 30103).tdiv 100000 - 2 = M.uB m := rfl
  rw [this]; simp only [wrap64]; omega
 have hw2 : IntKind.i64.wrap ((m * 30103).tdiv 100000 - 2) = M.uB m := by
  have : (m * 30103).tdiv 100000 - 2 = M.uB m := rfl
  rw [this]; simp only [IntKind.wrap_i64]; omega
 go_enter Tryz.func83, Tryz.ntmps83
 go_wp2_with fail
 go_ret
 exact ⟨rfl, rfl⟩

theorem neigh_any (ex : Int) (x1 x2 x4 x5 : Value) (aw : Option Addr) (cw W z : Nat) (w : World) (hz : z ≤ 1000) (hW : (L W).length ≤ 1000) (hr : Rd w aw (L W)) :
 Calls Tryz.prog 96 #[.agg #[.int .i64 ex, x1, x2, .slice aw (L W).length cw, x4, x5], .int .i64 (z : Int)] w fun e w' => ∃ a1 c1 a2 c2, e = .returned (.tuple #[.slice a1 (L (W / 10 ^ z * 10 ^ z)).length c1, .slice a2 (L (W / 10 ^ z * 10 ^ z + 10 ^ z)).length c2]) ∧ Rd w' a1 (L (W / 10 ^ z * 10 ^ z)) ∧ Rd w' a2 (L (W / 10 ^ z * 10 ^ z + 10 ^ z)) ∧ Below w.heap.size w w' := by
 have c0 := Cls.new w #[.int .i64 ex, x1, x2, .slice aw (L W).length cw, x4, x5] 84
 have b0 : Below w.heap.size w (w.alloc (.cells #[.int .i64 ex, x1, x2, .slice aw (L W).length cw, x4, x5] 84)) := (Below.refl _ _).alloc (Nat.le_refl _) _
 have hp : 0 < 10 ^ z := Nat.pow_pos (by omega)
 have lq : (L (W / 10 ^ z)).length ≤ 1048576 := Nat.le_trans (L_len_le (Nat.div_le_self _ _)) (by omega)
 have lm : (L (W / 10 ^ z * 10 ^ z)).length ≤ 1048576 := Nat.le_trans (L_len_le (Nat.div_mul_le_self _ _)) (by omega)
 have lz : (L (10 ^ z)).length ≤ 1201 := L_pow_len 10 z (ten_ok z (by omega))
 go_enter Tryz.func96, Tryz.ntmps96
 go_wp2_with fail
 refine (natPower_any 10 z _ (by omega) (by omega) (ten_ok z (by omega))).mono ?_
 rintro e v1 ⟨ap, cp, rfl, op, hb⟩
 have rs := Rd.own op
 replace c0 := c0.below hb
 replace b0 := b0.trans (hb.mono b0.size)
 have y3 := c0.cell 3 rfl
 clear hb
 go_wp2_with fail
 refine (divMod_any aw ap _ _ cw cp W (10 ^ z) _ rfl rfl hp (by omega) (by omega) (hr.below b0) rs).mono ?_
 rintro e v2 ⟨aq, cq, ar, cr, md, rfl, _, _, oq, _, hb⟩
 have rq := oq.rd
 replace rs := rs.below hb
 replace b0 := b0.trans (hb.mono b0.size)
 clear hb oq y3
 go_wp2_with fail
 refine (mul_any aq ap _ _ cq cp (W / 10 ^ z) (10 ^ z) _ rfl rfl lq (by omega) rq rs).mono ?_
 rintro e v3 ⟨am, cm, rfl, om, hb⟩
 have rm := Rd.own om
 replace rs := rs.below hb
 replace b0 := b0.trans (hb.mono b0.size)
 clear hb om rq
 go_wp2_with fail
 refine (add_any am ap _ _ cm cp (W / 10 ^ z * 10 ^ z) (10 ^ z) _ rfl rfl lm (by omega) rm rs).mono ?_
 rintro e v4 ⟨an, cn, rfl, on, hb⟩
 have rn := Rd.own on
 replace rm := rm.below hb
 replace b0 := b0.trans (hb.mono b0.size)
 clear hb on rs
 have HB := hid b0; clear b0
 go_wp2_with fail
 exact bodyPost_ret (v := .tuple #[.slice am (L (W / 10 ^ z * 10 ^ z)).length cm, .slice an (L (W / 10 ^ z * 10 ^ z + 10 ^ z)).length cn]) (by simp [results, Tryz.results96, go_sem]) rfl ⟨am, cm, an, cn, rfl, rm, rn, HB.out⟩

def wdX (t : M.Wd) (r : Nat) : Int := t.X + r + ((M.txt (t.pick (t.X + r))).length : Int) - ((M.sd (t.pick (t.X + r))).length : Int)

namespace M

theorem Wd.Best.same {t : Wd} {r s : Nat} (a : t.Best r) (b : t.Best s) : r = s := by
 rcases Nat.lt_trichotomy r s with h | h | h
 · exact absurd b.ok (a.no s h b.lt)
 · exact h
 · exact absurd a.ok (b.no r h a.lt)

def Wd.asks (t : Wd) (z : Nat) : Bool := decide (t.least ≤ t.T t.X / 10 ^ z * 10 ^ z) || decide (t.T t.X / 10 ^ z * 10 ^ z + 10 ^ z ≤ t.most)

theorem Wd.Ok.asks_iff {t : Wd} (h : t.Ok) (z : Nat) : t.asks z = true ↔ t.ok (t.X + z) := by
 unfold Wd.asks Wd.ok
 rw [Bool.or_eq_true, decide_eq_true_iff, decide_eq_true_iff, h.low_at, h.high_at]

theorem Wd.Ok.best_of {t : Wd} (h : t.Ok) (r : Nat) (h1 : r < t.N) (h2 : 0 < r → t.asks r = true) (h3 : r + 1 < t.N → t.asks (r + 1) = false) : t.Best r :=
 h.best r h1 (fun hp => (h.asks_iff r).1 (h2 hp)) (fun hp hk => by have := (h.asks_iff (r + 1)).2 hk; rw [h3 hp] at this; cases this)

theorem un_lt {a b : Nat} (h : a < b) (x : Int) : un a x < un b x := Nat.mul_lt_mul_of_pos_right h (Nat.pow_pos (by omega))

theorem Wd.Ok.lo_mid {t : Wd} (h : t.Ok) : t.lo < t.mid := Nat.mul_lt_mul_of_pos_right h.l1 (Nat.pow_pos (by omega))

theorem Wd.Ok.mid_hi {t : Wd} (h : t.Ok) : t.mid < t.hi := Nat.mul_lt_mul_of_pos_right (by omega) (Nat.pow_pos (by omega))

theorem Wd.Ok.e_le {t : Wd} (h : t.Ok) : -7001 ≤ t.e ∧ t.e ≤ 7039 ∧ -7000 ≤ t.X ∧ t.X ≤ 7000 := by
 have hN := h.N_le
 have q1 := h.q1
 have q2 := h.q2
 have := uB_ok (t.q - 2) (by omega) (by omega)
 show -7001 ≤ t.X + (t.N : Int) - 1 ∧ t.X + (t.N : Int) - 1 ≤ 7039 ∧ -7000 ≤ t.X ∧ t.X ≤ 7000
 simp only [Wd.X]
 omega

end M

def ShO (v w' : World) (e : Ending) (ds : List Nat) (x : Int) (ng : Bool) (k : Int) : Prop :=
 ∃ ra rc, e = .returned (.agg #[.slice ra ds.length rc, .int .i64 x, .bool ng, .int .i64 k]) ∧ OwnV w' v.heap.size (.slice ra ds.length rc) ds ∧ Below v.heap.size v w'

theorem cmpI_le {x y : Nat} : (cmpI (x : Int) (y : Int) ≤ 0) = (x ≤ y) := by
 unfold cmpI
 by_cases h : (x : Int) < y
 · rw [if_pos h]; simp; omega
 · rw [if_neg h]
   by_cases h2 : (y : Int) < x
   · rw [if_pos h2]; simp; omega
   · rw [if_neg h2]; simp; omega

theorem sum_len (a b K : Nat) (h1 : (L a).length ≤ K) (h2 : (L b).length ≤ K) : (L (a + b)).length ≤ K + 1 := by
 refine M.len_of_lt (B := 18446744073709551616) (by omega) _ _ ?_
 have x1 := L_lt a K h1
 have x2 := L_lt b K h2
 rw [Nat.pow_succ]
 omega

structure Rch (v : World) (g : Nat) (ex : Int) (N De W Ls Ms : Nat) : Prop where
 box : ∃ a1 c1 a2 c2 a3 c3 a4 c4 a5 c5, Cls v g #[.int .i64 ex, .slice a1 (L N).length c1, .slice a2 (L De).length c2, .slice a3 (L W).length c3, .slice a4 (L Ls).length c4, .slice a5 (L Ms).length c5] 84 ∧ Rd v a1 (L N) ∧ Rd v a2 (L De) ∧ Rd v a3 (L W) ∧ Rd v a4 (L Ls) ∧ Rd v a5 (L Ms)

theorem Rch.below {v v' : World} {g : Nat} {ex : Int} {N De W Ls Ms : Nat} (h : Rch v g ex N De W Ls Ms) (hb : Below v.heap.size v v') : Rch v' g ex N De W Ls Ms := by
 obtain ⟨a1, c1, a2, c2, a3, c3, a4, c4, a5, c5, h0, h1, h2, h3, h4, h5⟩ := h.box
 exact ⟨⟨a1, c1, a2, c2, a3, c3, a4, c4, a5, c5, h0.below hb, h1.below hb, h2.below hb, h3.below hb, h4.below hb, h5.below hb⟩⟩

theorem clo_any (g : Nat) (ex : Int) (N De W Ls Ms z : Nat) (w : World) (h : Rch w g ex N De W Ls Ms) (hz : z ≤ 1000) (hW : (L W).length ≤ 1000) (hL : (L Ls).length ≤ 1000) (hM : (L Ms).length ≤ 1000) :
 Calls Tryz.prog 95 #[.int .i64 (z : Int), .pointer (some ⟨g, 0, none⟩)] w fun e w' => e = .returned (.bool (decide (Ls ≤ W / 10 ^ z * 10 ^ z) || decide (W / 10 ^ z * 10 ^ z + 10 ^ z ≤ Ms))) ∧ Below w.heap.size w w' := by
 obtain ⟨a1, c1, a2, c2, a3, c3, a4, c4, a5, c5, h0, h1, h2, h3, h4, h5⟩ := h.box
 have l1 : (L (W / 10 ^ z * 10 ^ z)).length ≤ 4194304 := Nat.le_trans (L_len_le (Nat.div_mul_le_self _ _)) (by omega)
 have l2 : (L (W / 10 ^ z * 10 ^ z + 10 ^ z)).length ≤ 4194304 := Nat.le_trans (sum_len _ _ 1201 (Nat.le_trans (L_len_le (Nat.div_mul_le_self _ _)) (by omega)) (L_pow_len 10 z (ten_ok z (by omega)))) (by omega)
 have kn := neigh_any ex (.slice a1 (L N).length c1) (.slice a2 (L De).length c2) (.slice a4 (L Ls).length c4) (.slice a5 (L Ms).length c5) a3 c3 W z w hz hW h3
 obtain ⟨B1, hB1⟩ : ∃ B1, B1 = W / 10 ^ z * 10 ^ z := ⟨_, rfl⟩
 obtain ⟨B2, hB2⟩ : ∃ B2, B2 = B1 + 10 ^ z := ⟨_, rfl⟩
 rw [← hB1] at kn l1 l2 ⊢
 rw [← hB2] at kn l2 ⊢
 clear hB1 hB2
 have y0 := h0.cell 0 rfl
 have y1 := h0.cell 1 rfl
 have y2 := h0.cell 2 rfl
 have y3 := h0.cell 3 rfl
 have y4 := h0.cell 4 rfl
 have y5 := h0.cell 5 rfl
 have k1 := cmpI_le (x := Ls) (y := B1)
 have k2 := cmpI_le (x := B2) (y := Ms)
 go_enter Tryz.func95, Tryz.ntmps95
 go_wp2_with fail
 refine kn.mono ?_
 rintro e v1 ⟨b1, d1, b2, d2, rfl, r1, r2, hb⟩
 replace h0 := h0.below hb
 replace h4 := h4.below hb
 replace h5 := h5.below hb
 clear y0 y1 y2 y3 y4 y5 kn
 have y4 := h0.cell 4 rfl
 have y5 := h0.cell 5 rfl
 have HB := hid hb; clear hb
 have K1 := hid k1; have K2 := hid k2; clear k1 k2
 go_wp2_with fail
 refine (compare_any a4 b1 _ _ c4 d1 Ls B1 _ rfl rfl (by omega) l1 h4 r1).mono ?_
 rintro e v2 ⟨rfl, q, rfl⟩
 by_cases hc : Ls ≤ B1
 · have k3 : cmpI (Ls : Int) (B1 : Int) ≤ 0 := by rw [K1.out]; exact hc
   go_wp2_with fail
   go_ret
   exact ⟨by simp [hc], below_drewN HB.out q⟩
 · have k3 : ¬ cmpI (Ls : Int) (B1 : Int) ≤ 0 := by rw [K1.out]; exact hc
   have bq : Below v1.heap.size v1 (v1.drewN q) := below_drewN (Below.refl _ _) q
   have y5' := (h0.below bq).cell 5 rfl
   replace HB := hid (below_drewN HB.out q)
   replace r2 := r2.below bq
   replace h5 := h5.below bq
   clear y4 y5
   generalize v1.drewN q = v3 at *
   go_wp2_with fail
   refine (compare_any b2 a5 _ _ d2 c5 B2 Ms _ rfl rfl l2 (by omega) r2 h5).mono ?_
   rintro e v4 ⟨rfl, q2, rfl⟩
   go_wp2_with fail
   go_ret
   exact ⟨by simp [hc, K2.out]; exact fun h => absurd h (by omega), below_drewN HB.out q2⟩

theorem halve {x y : Int} (h : x < y) : ∃ m : Int, m = y - (y - x) / 2 ∧ x < m ∧ m ≤ y := ⟨_, rfl, by omega, by omega⟩

theorem greatest_any (lo hi : Int) (P : Int → Bool) (g : Value) (W : World) (h1 : -1000000 ≤ lo) (h2 : lo ≤ hi) (h3 : hi ≤ 1000000)
 (hk : ∀ (x : Int) (v : World), lo ≤ x → x ≤ hi → Below W.heap.size W v → Calls Tryz.prog 95 #[.int .i64 x, g] v fun e v' => e = .returned (.bool (P x)) ∧ Below v.heap.size v v') :
 Calls Tryz.prog 93 #[.int .i64 lo, .int .i64 hi, .func (.func 95) #[] #[g]] W fun e w' => ∃ r, e = .returned (.int .i64 r) ∧ lo ≤ r ∧ r ≤ hi ∧ (lo < r → P r = true) ∧ (r < hi → P (r + 1) = false) ∧ Below W.heap.size W w' := by
 go_enter Tryz.func93, Tryz.ntmps93
 go_wp2_with fail
 go_loopw [0, 1] (fun l h wr => ∃ x y : Int, l = .int .i64 x ∧ h = .int .i64 y ∧ lo ≤ x ∧ x ≤ y ∧ y ≤ hi ∧ Hid (lo < x → P x = true) ∧ Hid (y < hi → P (y + 1) = false) ∧ Below W.heap.size W wr) (fun l h _ => (intOf h - intOf l).toNat)
 case atStart =>
  exact ⟨lo, hi, rfl, rfl, by omega, by omega, by omega, hid (fun h => by omega), hid (fun h => by omega), Below.refl _ _⟩
 case round =>
  obtain ⟨x, y, rfl, rfl, hx, hxy, hy, HX, HY, hb⟩ := hrel
  by_cases hlt : x < y
  · obtain ⟨m, hm, hm1, hm2⟩ := halve hlt
    have hk1 := hk m
    rw [hm] at hm1 hm2 hk1
    clear hm
    go_wp2_with fail
    refine (hk1 _ (by omega) (by omega) hb).mono ?_
    rintro e w2 ⟨rfl, hb2⟩
    have hb3 := keepC1 hb hb2
    cases hP : P (y - (y - x) / 2)
    · go_wp2_with fail
      go_roundw
      case rel =>
       have R : ∃ x1 y1 : Int, Value.int .i64 x = .int .i64 x1 ∧ Value.int .i64 ((y - (y - x) / 2) - 1) = .int .i64 y1 ∧ lo ≤ x1 ∧ x1 ≤ y1 ∧ y1 ≤ hi ∧ Hid (lo < x1 → P x1 = true) ∧ Hid (y1 < hi → P (y1 + 1) = false) ∧ Below W.heap.size W w2 :=
        ⟨x, (y - (y - x) / 2) - 1, rfl, rfl, by omega, by omega, by omega, HX, hid (fun _ => by rw [show (y - (y - x) / 2) - 1 + 1 = (y - (y - x) / 2) by omega]; exact hP), hb3⟩
       first | exact R | ((repeat apply Exists.intro); exact ⟨R, rfl⟩)
      case measure => simp [intOf]; omega
    · go_wp2_with fail
      go_roundw
      case rel =>
       have R : ∃ x1 y1 : Int, Value.int .i64 (y - (y - x) / 2) = .int .i64 x1 ∧ Value.int .i64 y = .int .i64 y1 ∧ lo ≤ x1 ∧ x1 ≤ y1 ∧ y1 ≤ hi ∧ Hid (lo < x1 → P x1 = true) ∧ Hid (y1 < hi → P (y1 + 1) = false) ∧ Below W.heap.size W w2 :=
        ⟨(y - (y - x) / 2), y, rfl, rfl, by omega, by omega, by omega, hid (fun _ => hP), HY, hb3⟩
       first | exact R | ((repeat apply Exists.intro); exact ⟨R, rfl⟩)
      case measure => simp [intOf]; omega
  · go_wp2_with fail
    go_ret
    have e1 : x = y := by omega
    subst e1
    exact ⟨x, rfl, hx, hy, HX.out, HY.out, hb⟩

theorem cmpI_lt {x y : Nat} : (cmpI (x : Int) (y : Int) < 0) = (x < y) := by
 unfold cmpI
 by_cases h : (x : Int) < y
 · rw [if_pos h]; simp; omega
 · rw [if_neg h]
   by_cases h2 : (y : Int) < x
   · rw [if_pos h2]; simp; omega
   · rw [if_neg h2]; simp; omega

theorem mul_len (a b K J : Nat) (h1 : (L a).length ≤ K) (h2 : (L b).length ≤ J) : (L (a * b)).length ≤ K + J := by
 refine M.len_of_lt (B := 18446744073709551616) (by omega) _ _ ?_
 rw [Nat.pow_add]
 exact Nat.mul_lt_mul'' (L_lt a K h1) (L_lt b J h2)

theorem txt_at (d z : Nat) (h : 1 ≤ d) : (M.txt (d * 10 ^ z)).length = (M.txt d).length + z ∧ (M.txt (d * 10 ^ z)).getD ((M.txt d).length - 1) 0 = 48 + d % 10 := by
 refine ⟨M.txt_tens_len d h z, ?_⟩
 rw [M.txt_tens d h z, M.txt_one d h, M.tl_pos (show d ≠ 0 by omega)]
 simp only [List.reverse_cons, List.length_append, List.length_reverse, List.length_cons, List.length_nil]
 rw [List.append_assoc, List.getD_eq_getElem?_getD, List.getElem?_append_right (by simp)]
 simp

theorem evenDigit_any (d z : Nat) (hd : 1 ≤ d) (a : Option Addr) (c : Nat) (w : World) (hz : z ≤ 1000) (hT : (M.txt d).length ≤ 20000) (hl : (L (d * 10 ^ z)).length ≤ 1000) (hr : Rd w a (L (d * 10 ^ z))) :
 Calls Tryz.prog 123 #[.slice a (L (d * 10 ^ z)).length c, .int .i64 (z : Int)] w fun e w' => e = .returned (.bool (decide (d % 2 = 0))) ∧ Below w.heap.size w w' := by
 obtain ⟨t1, t2⟩ := txt_at d z hd
 have kd := fun v : World => fun hr => digits_any (d * 10 ^ z) a _ c v rfl (by omega) hr
 go_enter Tryz.func123, Tryz.ntmps123
 go_wp2_with fail
 refine (kd _ hr).mono ?_
 rintro e v1 ⟨ra, rc, rfl, ho, hb⟩
 have rY := (OwnV.of_own ho (fun x hx => by have := M.txt_dig _ x hx; omega)).rd
 have tp := M.txt_pos d
 obtain ⟨b, off, rfl, hcell⟩ := rY.2 (by omega)
 have hc := hcell ((M.txt d).length - 1) (by omega)
 rw [t2] at hc
 obtain ⟨i, hi⟩ : ∃ i, i = (M.txt d).length - 1 := ⟨_, rfl⟩
 rw [← hi] at hc
 obtain ⟨n, hn⟩ : ∃ n, n = (M.txt d).length + z := ⟨_, rfl⟩
 rw [t1, ← hn]
 have e1 : (n : Int) - 1 - (z : Int) = (i : Int) := by omega
 have e2 : i < n := by omega
 have e3 : n ≤ 30000 := by omega
 have HB := hid hb
 have e4 : n - 1 - z = i := by omega
 have e5 : (48 + (d % 10 : Nat)) % 2 = d % 2 := by omega
 clear kd t1 t2 hcell rY ho hb hT hn hi tp
 obtain ⟨q, hq⟩ : ∃ q, q = 48 + d % 10 := ⟨_, rfl⟩
 rw [← hq] at hc e5
 have hq2 : q < 100 := by omega
 have E5 := hid e5
 clear hq e5
 go_wp2_with fail
 go_ret
 refine ⟨?_, HB.out⟩
 have e6 : ((q : Int) % 2 == 0) = decide (d % 2 = 0) := by
  have := E5.out
  rw [Bool.eq_iff_iff]
  simp
  omega
 exact congrArg (fun x => Ending.returned (Value.bool x)) e6

def nrI (N De d z Ls Ms : Nat) : Nat :=
 if ¬ Ls ≤ d * 10 ^ z then d * 10 ^ z + 10 ^ z
 else if ¬ d * 10 ^ z + 10 ^ z ≤ Ms then d * 10 ^ z
 else if 2 * N < (d * 10 ^ z + (d * 10 ^ z + 10 ^ z)) * De ∨ (2 * N = (d * 10 ^ z + (d * 10 ^ z + 10 ^ z)) * De ∧ d % 2 = 0) then d * 10 ^ z
 else d * 10 ^ z + 10 ^ z

theorem nearest_any (ex : Int) (N De W Ls Ms z : Nat) (a1 a2 a3 a4 a5 : Option Addr) (c1 c2 c3 c4 c5 : Nat) (w : World) (hz : z ≤ 1000) (hd : 1 ≤ W / 10 ^ z) (hT : (M.txt (W / 10 ^ z)).length ≤ 20000)
 (hN : (L N).length ≤ 1000) (hDe : (L De).length ≤ 1000) (hW : (L W).length ≤ 1000) (hL : (L Ls).length ≤ 1000) (hM : (L Ms).length ≤ 1000)
 (h1 : Rd w a1 (L N)) (h2 : Rd w a2 (L De)) (h3 : Rd w a3 (L W)) (h4 : Rd w a4 (L Ls)) (h5 : Rd w a5 (L Ms)) :
 Calls Tryz.prog 99 #[.agg #[.int .i64 ex, .slice a1 (L N).length c1, .slice a2 (L De).length c2, .slice a3 (L W).length c3, .slice a4 (L Ls).length c4, .slice a5 (L Ms).length c5], .int .i64 (z : Int)] w fun e w' => ∃ ra rc, e = .returned (.slice ra (L (nrI N De (W / 10 ^ z) z Ls Ms)).length rc) ∧ Rd w' ra (L (nrI N De (W / 10 ^ z) z Ls Ms)) ∧ Below w.heap.size w w' := by
 obtain ⟨d, hdd⟩ : ∃ d, d = W / 10 ^ z := ⟨_, rfl⟩
 rw [← hdd] at hd hT ⊢
 have l1 : (L (d * 10 ^ z)).length ≤ 1000 := by rw [hdd]; exact Nat.le_trans (L_len_le (Nat.div_mul_le_self _ _)) hW
 have l2 : (L (d * 10 ^ z + 10 ^ z)).length ≤ 1202 := sum_len _ _ 1201 (by omega) (L_pow_len 10 z (ten_ok z (by omega)))
 have kn := fun v : World => fun hr => neigh_any ex (.slice a1 (L N).length c1) (.slice a2 (L De).length c2) (.slice a4 (L Ls).length c4) (.slice a5 (L Ms).length c5) a3 c3 W z v hz hW hr
 have kE := fun (v : World) (a : Option Addr) (c : Nat) hr => evenDigit_any d z hd a c v hz hT l1 hr
 rw [← hdd] at kn
 unfold nrI
 obtain ⟨B1, hB1⟩ : ∃ B1, B1 = d * 10 ^ z := ⟨_, rfl⟩
 obtain ⟨B2, hB2⟩ : ∃ B2, B2 = B1 + 10 ^ z := ⟨_, rfl⟩
 rw [← hB1] at kn kE l1 l2 ⊢
 rw [← hB2] at kn l2 ⊢
 obtain ⟨R, hR⟩ : ∃ R, R = (if ¬ Ls ≤ B1 then B2 else if ¬ B2 ≤ Ms then B1 else if 2 * N < (B1 + B2) * De ∨ (2 * N = (B1 + B2) * De ∧ d % 2 = 0) then B1 else B2) := ⟨_, rfl⟩
 rw [← hR]
 have HR := hid hR
 clear hB1 hB2 hdd hR
 have b0 : Below w.heap.size w (w.alloc (.cells #[.int .i64 ex, .slice a1 (L N).length c1, .slice a2 (L De).length c2, .slice a3 (L W).length c3, .slice a4 (L Ls).length c4, .slice a5 (L Ms).length c5] 84)) := (Below.refl _ _).alloc (Nat.le_refl _) _
 have h0 := Cls.new w #[.int .i64 ex, .slice a1 (L N).length c1, .slice a2 (L De).length c2, .slice a3 (L W).length c3, .slice a4 (L Ls).length c4, .slice a5 (L Ms).length c5] 84
 have k1 := cmpI_lt (x := B1) (y := Ls)
 have k2 := cmpI_lt (x := Ms) (y := B2)
 have K1 := hid k1; have K2 := hid k2; clear k1 k2
 go_enter Tryz.func99, Tryz.ntmps99
 go_wp2_with fail
 refine (kn _ (h3.below b0)).mono ?_
 rintro e v1 ⟨b1, d1, b2, d2, rfl, r1, r2, hb⟩
 replace b0 := b0.trans (hb.mono b0.size)
 replace h0 := h0.below hb
 clear hb kn
 have y1 := h0.cell 1 rfl
 have y2 := h0.cell 2 rfl
 have y4 := h0.cell 4 rfl
 have y5 := h0.cell 5 rfl
 go_wp2_with fail
 refine (compare_any b1 a4 _ _ d1 c4 B1 Ls _ rfl rfl (by omega) (by omega) r1 (h4.below b0)).mono ?_
 rintro e v2 ⟨rfl, q, rfl⟩
 have bq : Below v1.heap.size v1 (v1.drewN q) := below_drewN (Below.refl _ _) q
 replace b0 := b0.trans (bq.mono b0.size)
 replace h0 := h0.below bq
 replace r1 := r1.below bq
 replace r2 := r2.below bq
 generalize v1.drewN q = v3 at *
 clear y1 y2 y4 y5 bq
 have y1 := h0.cell 1 rfl
 have y2 := h0.cell 2 rfl
 have y5 := h0.cell 5 rfl
 by_cases hc1 : Ls ≤ B1
 · have k3 : ¬ cmpI (B1 : Int) (Ls : Int) < 0 := by rw [K1.out]; omega
   go_wp2_with fail
   refine (compare_any a5 b2 _ _ c5 d2 Ms B2 _ rfl rfl (by omega) (by omega) (h5.below b0) r2).mono ?_
   rintro e v4 ⟨rfl, q2, rfl⟩
   have bq : Below v3.heap.size v3 (v3.drewN q2) := below_drewN (Below.refl _ _) q2
   replace b0 := b0.trans (bq.mono b0.size)
   replace h0 := h0.below bq
   replace r1 := r1.below bq
   replace r2 := r2.below bq
   generalize v3.drewN q2 = v5 at *
   clear y1 y2 y5 bq
   have y1 := h0.cell 1 rfl
   have y2 := h0.cell 2 rfl
   by_cases hc2 : B2 ≤ Ms
   · have k4 : ¬ cmpI (Ms : Int) (B2 : Int) < 0 := by rw [K2.out]; omega
     have D1 : ∀ v, Below v5.heap.size v5 v → (fun v : World => v.cell? ⟨w.heap.size, 1, none⟩ = some (.slice a1 (L N).length c1) ∧ v.cell? ⟨w.heap.size, 2, none⟩ = some (.slice a2 (L De).length c2)) v := fun v hv => ⟨(h0.below hv).cell 1 rfl, (h0.below hv).cell 2 rfl⟩
     have hdr : Below v5.heap.size v5 v5.drew := (Below.refl _ _).drew
     have g1 := h1.below b0
     have g2 := h2.below b0
     have lb : (L (B1 + B2)).length ≤ 1203 := sum_len _ _ 1202 (by omega) l2
     obtain ⟨S2, hS2⟩ : ∃ S2, S2 = N * 2 ^ 1 := ⟨_, rfl⟩
     obtain ⟨M2, hM2⟩ : ∃ M2, M2 = (B1 + B2) * De := ⟨_, rfl⟩
     have kS := fun (v : World) hr => shiftLeft_any a1 _ c1 1 N v rfl (by omega) (by omega) hr
     have kM := fun (v : World) (a : Option Addr) (c : Nat) hr hr2 => mul_any a a2 _ _ c c2 (B1 + B2) De v rfl rfl (by omega) (by omega) hr hr2
     rw [← hS2] at kS
     rw [← hM2] at kM
     have lS : (L S2).length ≤ 4194304 := by rw [hS2, Nat.pow_one, Nat.mul_two]; exact Nat.le_trans (sum_len N N 1000 hN hN) (by omega)
     have lM : (L M2).length ≤ 4194304 := by rw [hM2]; exact Nat.le_trans (mul_len (B1 + B2) De 1203 1000 lb hDe) (by omega)
     have HS := hid (show 2 * N = S2 by omega); have HM := hid hM2; clear hS2 hM2
     clear y1 y2
     go_wp2_with fail
     go_region_held3 (fun v : World => v.cell? ⟨w.heap.size, 1, none⟩ = some (.slice a1 (L N).length c1) ∧ v.cell? ⟨w.heap.size, 2, none⟩ = some (.slice a2 (L De).length c2)) (with_reducible exact D1 _ (by assumption))
      (first
        | (go_at_call 91; refine (kS _ (g1.below hdr)).mono ?_; rintro e t1 ⟨sa, sc, rfl, so, hbt'⟩; have hb1 := hdr.trans (hbt'.mono (Nat.le_refl _)); have sr := Rd.own so; clear hbt' so)
        | (go_at_call 89; refine (add_any b1 b2 _ _ d1 d2 B1 B2 _ rfl rfl (by omega) (by omega) (r1.below hb1) (r2.below hb1)).mono ?_; rintro e t2 ⟨pa, pc, rfl, po, hbt'⟩; have hb2 := hb1.trans (hbt'.mono hb1.size); replace sr := sr.below hbt'; have pr := Rd.own po; clear hbt' hb1 po)
        | (go_at_call 113; refine (kM _ _ _ pr (g2.below hb2)).mono ?_; rintro e t3 ⟨ma, mc, rfl, mo, hbt'⟩; have hb3 := hb2.trans (hbt'.mono hb2.size); replace sr := sr.below hbt'; have mr := Rd.own mo; clear hbt' hb2 mo)
        | (go_at_call 97; refine (compare_any sa ma _ _ sc mc S2 M2 _ rfl rfl lS lM sr mr).mono ?_; rintro e t4 ⟨rfl, q4, rfl⟩; have hb4 := below_drewN hb3 q4; clear hb3))
     all_goals (replace b0 := b0.trans (hb4.mono b0.size); replace r1 := r1.below hb4; replace r2 := r2.below hb4)
     generalize t3.drewN q4 = v9 at *
     have e0 : cmpI (S2 : Int) (M2 : Int) = if S2 < M2 then -1 else if S2 = M2 then 0 else 1 := by
      unfold cmpI
      by_cases x1 : S2 < M2
      · rw [if_pos (by omega), if_pos x1]
      · rw [if_neg (by omega), if_neg x1]
        by_cases x2 : S2 = M2
        · rw [if_neg (by omega), if_pos x2]
        · rw [if_pos (by omega), if_neg x2]
     rw [e0]
     have e1 := HS.out
     have e2 := HM.out
     by_cases x1 : S2 < M2
     · rw [if_pos x1]
       have e : R = B1 := by rw [HR.out, if_neg (by omega), if_neg (by omega), if_pos (.inl (by omega))]
       have HB := hid b0; clear b0 e0 e1 e2
       go_wp2_with fail
       go_ret
       rw [e]
       exact ⟨b1, d1, rfl, r1, HB.out⟩
     · rw [if_neg x1]
       by_cases x2 : S2 = M2
       · rw [if_pos x2]
         clear e0
         go_wp2_with fail
         refine (kE _ _ _ r1).mono ?_
         rintro e t5 ⟨rfl, hb5⟩
         replace b0 := b0.trans (hb5.mono b0.size)
         replace r1 := r1.below hb5
         replace r2 := r2.below hb5
         by_cases x3 : d % 2 = 0
         · have e : R = B1 := by rw [HR.out, if_neg (by omega), if_neg (by omega), if_pos (.inr ⟨by omega, x3⟩)]
           have HB := hid b0; clear b0 e1 e2
           go_wp2_with fail
           go_ret
           rw [e]
           exact ⟨b1, d1, rfl, r1, HB.out⟩
         · have e : R = B2 := by rw [HR.out, if_neg (by omega), if_neg (by omega), if_neg (by omega)]
           have HB := hid b0; clear b0 e1 e2
           go_wp2_with fail
           go_ret
           rw [e]
           exact ⟨b2, d2, rfl, r2, HB.out⟩
       · rw [if_neg x2]
         have e : R = B2 := by rw [HR.out, if_neg (by omega), if_neg (by omega), if_neg (by omega)]
         have HB := hid b0; clear b0 e0 e1 e2
         go_wp2_with fail
         go_ret
         rw [e]
         exact ⟨b2, d2, rfl, r2, HB.out⟩
   · have k4 : cmpI (Ms : Int) (B2 : Int) < 0 := by rw [K2.out]; omega
     have HB := hid b0; clear b0
     have e : R = B1 := by rw [HR.out, if_neg (by omega), if_pos (by omega)]
     go_wp2_with fail
     go_ret
     rw [e]
     exact ⟨b1, d1, rfl, r1, HB.out⟩
 · have k3 : cmpI (B1 : Int) (Ls : Int) < 0 := by rw [K1.out]; omega
   have HB := hid b0; clear b0
   have e : R = B2 := by rw [HR.out, if_pos hc1]
   go_wp2_with fail
   go_ret
   rw [e]
   exact ⟨b2, d2, rfl, r2, HB.out⟩

end Go.Proofs.YtmglhkdgfcbonaaGreatDoor
namespace Go.Proofs.YtmglhkdgfcbonaaGreatDoor.M
set_option linter.unusedVariables false
set_option maxRecDepth 100000
theorem Wd.Ok.prog_pick {t : Wd} (h : t.Ok) (z : Nat) : nrI t.vn t.vd (t.T t.X / 10 ^ z) z t.least t.most = t.pick (t.X + z) * 10 ^ z := by
 have a := h.low_at z
 have b := h.high_at z
 have c := h.side z
 have e0 : t.T (t.X + z) = t.T t.X / 10 ^ z := uT_add _ _ h.den_pos _ _
 unfold nrI Wd.pick
 rw [e0] at c ⊢
 generalize t.T t.X / 10 ^ z = d at *
 have e1 : d * 10 ^ z + (d * 10 ^ z + 10 ^ z) = (2 * d + 1) * 10 ^ z := by rw [Nat.add_mul, Nat.one_mul, Nat.mul_assoc]; omega
 have e2 : d * 10 ^ z + 10 ^ z = (d + 1) * 10 ^ z := by rw [Nat.add_mul, Nat.one_mul]
 rw [e2] at b
 rw [e1, e2]
 simp only [a, b, c.1, c.2]
 split
 · rfl
 · split
   · rfl
   · split
     · rfl
     · rfl

end Go.Proofs.YtmglhkdgfcbonaaGreatDoor.M
namespace Go.Proofs.YtmglhkdgfcbonaaGreatDoor
open Go.RowKit
set_option linter.unusedVariables false
set_option maxRecDepth 100000
theorem OwnV.grown {w w' : World} {lo : Nat} {v : Value} {xs : List Nat} {row : Option Nat} (h : OwnV w lo v xs) (hg : w.grownBy w' row) (hr : ∀ j, row = some j → j < lo) : OwnV w' lo v xs := by
 obtain ⟨a, c, e, h1, h2, h3, h4, h5⟩ := h
 refine ⟨a, c, e, h1, h2, h3, h4, fun hp => ?_⟩
 obtain ⟨b, off, cur, e1, e2, e3, e4⟩ := h5 hp
 exact ⟨b, off, cur, e1, e2, (hg.block b (Array.getElem?_eq_some_iff.1 e3).1 (fun e => by have := hr b e.symm; omega)).trans e3, e4⟩

end Go.Proofs.YtmglhkdgfcbonaaGreatDoor
