import Derived.Test.YtjffpclidcloeaaGreatDoorrBF
import Derived.Test.YtjffpclidcloeaaGreatDoorrLD
import Derived.Test.YtjffpclidcloeaaGreatDoorrBG
set_option maxHeartbeats 4000000
set_option maxRecDepth 100000
namespace Go.Proofs.YtjffpclidcloeaaGreatDoor
open Go.RowKit
set_option linter.unusedVariables false
set_option maxRecDepth 100000
theorem blen_L (a : Nat) (h : 0 < a) : blen a = 64 * ((L a).length - 1) + blen ((L a).getD ((L a).length - 1) 0) := by
 have h1 := M.dig_le (B := 18446744073709551616) (by omega) a h
 have h2 := M.lt_dig (B := 18446744073709551616) (by omega) a
 have hl : (L a).length ≠ 0 := by unfold L; rw [M.dig_pos (by omega) h]; simp
 obtain ⟨m, hm⟩ : ∃ m, (L a).length = m + 1 := ⟨(L a).length - 1, by omega⟩
 have hm' : (M.dig 18446744073709551616 a).length = m + 1 := hm
 rw [hm'] at h1 h2
 rw [hm, Nat.add_sub_cancel] at *
 have e : (18446744073709551616 : Nat) ^ m = 2 ^ (64 * m) := by rw [show (18446744073709551616 : Nat) = 2 ^ 64 from rfl, ← Nat.pow_mul]
 have hg : (L a).getD m 0 = a / 18446744073709551616 ^ m := by
  have hh : (M.dig 18446744073709551616 a).getD m 0 = a / 18446744073709551616 ^ m % 18446744073709551616 := by
   have : ∀ k n, (M.dig 18446744073709551616 n).getD k 0 = n / 18446744073709551616 ^ k % 18446744073709551616 := by
    intro k
    induction k with
    | zero =>
      intro n
      by_cases hn : 0 < n
      · rw [M.dig_pos (by omega) hn]; simp
      · have : n = 0 := by omega
        subst this; simp [M.dig_zero]
    | succ k ih =>
      intro n
      by_cases hn : 0 < n
      · rw [M.dig_pos (by omega) hn, List.getD_cons_succ, ih, Nat.div_div_eq_div_mul, Nat.pow_succ, Nat.mul_comm 18446744073709551616]
      · have : n = 0 := by omega
        subst this; simp [M.dig_zero]
   exact this m a
  unfold L
  rw [hh]
  apply Nat.mod_eq_of_lt
  apply Nat.div_lt_of_lt_mul
  rw [← Nat.pow_succ]; exact h2
 rw [hg, e]
 exact blen_shift (64 * m) a (by rw [← e]; exact h1)

theorem bitLenN_any (ao : Option Addr) (n c : Nat) (a : Nat) (w : World) (hl : (L a).length = n) (hn : n ≤ 1048576) (hr : Rd w ao (L a)) (b : Nat) (hb : b = blen a) :
 Calls Tryz.prog 142 #[.slice ao n c] w fun e w' => e = .returned (.int .i64 (b : Int)) ∧ w' = w := by
 by_cases h0 : n = 0
 · subst h0
   have ha : a = 0 := by
    rcases Nat.eq_zero_or_pos a with h | h
    · exact h
    · unfold L at hl; rw [M.dig_pos (by omega) h] at hl; simp at hl
   have hb0 : b = 0 := by rw [hb, ha, blen_zero]
   subst hb0
   clear hb ha hl hr
   go_enter Tryz.func142, Tryz.ntmps142
   go_wp2_with fail
   go_ret
   exact ⟨rfl, rfl⟩
 · obtain ⟨m, rfl⟩ : ∃ m, n = m + 1 := ⟨n - 1, by omega⟩
   have ha : 0 < a := by
    rcases Nat.eq_zero_or_pos a with h | h
    · rw [h] at hl; simp [L, M.dig_zero] at hl
    · exact h
   have hbl := blen_L a ha
   rw [hl, Nat.add_sub_cancel] at hbl
   obtain ⟨b1, o1, hao, hcl⟩ := hr (by omega)
   have hck := hcl m (by omega)
   clear hcl
   have ht := (F64_L a).get m
   obtain ⟨t, htt⟩ : ∃ t : Nat, t = (L a).getD m 0 := ⟨_, rfl⟩
   rw [← htt] at hck ht hbl
   rw [← hb] at hbl
   have hne : (((m : Int) + 1) == 0) = false := by simp; omega
   have e1 : ((m + 1 : Nat) : Int) = (m : Int) + 1 := by omega
   have hltm : (m : Int) < (m : Int) + 1 := by omega
   have hlt64 := blen_le_of t 64 (by omega)
   obtain ⟨q, hq⟩ : ∃ q, q = blen t := ⟨_, rfl⟩
   rw [← hq] at hbl hlt64
   have HBL := hid hbl; have HT := hid htt; have HQ := hid hq
   clear hbl htt hb hq
   have kL := fun v : World => len64_any t v ht q HQ.out
   have w1 : IntKind.i64.wrap ((m : Int) * 64) = (m : Int) * 64 := by rw [IntKind.wrap_i64]; omega
   have w2 : IntKind.i64.wrap ((m : Int) * 64 + (q : Int)) = (m : Int) * 64 + (q : Int) := by rw [IntKind.wrap_i64]; omega
   go_enter Tryz.func142, Tryz.ntmps142
   go_wp2_with fail
   refine (kL _).mono ?_
   rintro e w3 ⟨rfl, rfl⟩
   go_wp2_with fail
   go_ret
   exact ⟨ret_int (by have := HBL.out; omega), rfl⟩

def Rb (v : World) (g : Nat) (e0 e1 e2 e3 e4 : Int) (e5 : Bool) (a : Option Addr) (n c : Nat) (b : Option Addr) (m d : Nat) (Z : Nat) (q : Int) : Prop :=
 Cls v g #[.int .i64 e0, .int .i64 e1, .int .i64 e2, .int .i64 e3, .int .i64 e4, .bool e5, .slice a n c, .slice b m d, .int .u64 (M.hiN Z : Int), .int .u64 (M.loN Z : Int), .int .i64 q] 148

theorem Rb.below {v v' : World} {g : Nat} {e0 e1 e2 e3 e4 : Int} {e5 : Bool} {a b : Option Addr} {n c m d Z : Nat} {q : Int} (h : Rb v g e0 e1 e2 e3 e4 e5 a n c b m d Z q) (hb : Below v.heap.size v v') : Rb v' g e0 e1 e2 e3 e4 e5 a n c b m d Z q := Cls.below h hb

theorem cmpI_lt1 (a b : Nat) : decide (cmpI (a : Int) (b : Int) < 0) = decide (a < b) := by
 unfold cmpI
 rw [Bool.eq_iff_iff]
 simp only [decide_eq_true_eq]
 split
 · omega
 · split <;> omega

theorem keepDq {w1 W v : World} {q : Nat} (h : Below w1.heap.size w1 W) (e : v = W.drewN q) : Below w1.heap.size w1 v := by
 subst e
 exact ⟨h.os, h.tape, h.output, h.size, h.block⟩

theorem belDr (v : World) (q : Nat) : Below v.heap.size v (v.drewN q) := ⟨rfl, rfl, rfl, Nat.le_refl _, fun _ _ => rfl⟩

theorem iexp_key (g : Nat) (e0 e1 e2 e3 e4 : Int) (e5 : Bool) (a b : Option Addr) (c d N De Z : Nat) (q : Int) (w : World) (hB : Rb w g e0 e1 e2 e3 e4 e5 a (L N).length c b (L De).length d Z q) (ra : Rd w a (L N)) (rb : Rd w b (L De))
 (bN bD : Nat) (hbN : bN ≤ 90000) (hbD : bD ≤ 90000) (kN : ∀ v : World, Rd v a (L N) → Calls Tryz.prog 142 #[.slice a (L N).length c] v fun e w' => e = .returned (.int .i64 (bN : Int)) ∧ w' = v)
 (kD : ∀ v : World, Rd v b (L De) → Calls Tryz.prog 142 #[.slice b (L De).length d] v fun e w' => e = .returned (.int .i64 (bD : Int)) ∧ w' = v)
 (t s1 s2 : Int) (ht : t = (bN : Int) - bD) (hs1 : max (-t) 0 = s1) (hs2 : max t 0 = s2) (X Y : Nat)
 (kX : ∀ v : World, Rd v a (L N) → Calls Tryz.prog 76 #[.slice a (L N).length c, .int .i64 s1] v fun e w' => Ret v w' e (L X))
 (kY : ∀ v : World, Rd v b (L De) → Calls Tryz.prog 76 #[.slice b (L De).length d, .int .i64 s2] v fun e w' => Ret v w' e (L Y))
 (cz : Int) (kC : ∀ (v : World) (ao bo : Option Addr) (c d : Nat), Rd v ao (L X) → Rd v bo (L Y) → Calls Tryz.prog 119 #[.slice ao (L X).length c, .slice bo (L Y).length d] v fun e w' => e = .returned (.int .i64 cz) ∧ ∃ q, w' = v.drewN q)
 (E : Int) (hE : E = if cz < 0 then t - 1 else t) :
 Calls Tryz.prog 122 #[.pointer (some ⟨g, 0, none⟩)] w fun e w' => e = .returned (.int .i64 E) ∧ Below w.heap.size w w' := by
 have w1 : IntKind.i64.wrap ((bN : Int) - (bD : Int)) = t := by rw [IntKind.wrap_i64]; omega
 have w1' : (bN : Int) - (bD : Int) = t := by omega
 have w2 : IntKind.i64.wrap (-t) = -t := by rw [IntKind.wrap_i64]; omega
 have w3 : IntKind.i64.wrap (t - 1) = t - 1 := by rw [IntKind.wrap_i64]; omega
 have w4 : IntKind.i64.wrap t = t := by rw [IntKind.wrap_i64]; omega
 have HT := hid ht; clear ht
 have hs1' : (if -t < 0 then 0 else -t) = s1 := by split <;> omega
 have hs2' : (if t < 0 then 0 else t) = s2 := by split <;> omega
 have HE := hid hE; clear hE
 have c6 := Cls.cell hB 6 rfl
 have c7 := Cls.cell hB 7 rfl
 go_enter Tryz.func122, Tryz.ntmps122
 go_upto_region 1 with fail
 go_quiet ((go_at_call 142; first | (with_reducible show Calls _ _ #[Value.slice a _ _] _ _; exact Calls.quiet_of_same (kN _ (Rd.drewN ra _))) | exact Calls.quiet_of_same (kD _ (Rd.drewN rb _))))
 replace hB := hB.below (belDr _ nq)
 replace ra := ra.below (belDr _ nq)
 replace rb := rb.below (belDr _ nq)
 have b0 := belDr w nq
 generalize w.drewN nq = v1 at *
 clear c6 c7 kN kD w1 w1'
 go_upto_region 2 with fail
 go_cut [31] (fun z wx => z = .bool (decide (cz < 0)) ∧ Below v1.heap.size v1 wx)
 case first =>
  have A0 : Below v1.heap.size v1 v1.drew := (Below.refl _ _).drew
  have KB : ∀ v, Below v1.heap.size v1 v → (fun v => v.cell? ⟨g, 6, none⟩ = some (.slice a (L N).length c) ∧ v.cell? ⟨g, 7, none⟩ = some (.slice b (L De).length d)) v := fun v hv => ⟨Cls.cell (hB.below hv) 6 rfl, Cls.cell (hB.below hv) 7 rfl⟩
  go_region_held3 (fun v => v.cell? ⟨g, 6, none⟩ = some (.slice a (L N).length c) ∧ v.cell? ⟨g, 7, none⟩ = some (.slice b (L De).length d)) (first | with_reducible exact KB _ hb3 | with_reducible exact KB _ hb2 | with_reducible exact KB _ hb1 | with_reducible exact KB _ A0)
   (first | (have hq := hb2; clear hq; go_at_call 119; refine (kC _ _ _ _ _ r1 r2).mono ?_; rintro e u3 ⟨rfl, qq, hu3⟩; have hb3 := keepDq (w1 := v1) hb2 hu3; clear hu3) | (have hq := hb1; clear hq; go_at_call 76; refine (kY _ (rb.below hb1)).mono ?_; rintro e u2 ⟨x2, k2, rfl, o2, hb0⟩; have hb2 := keepC (w1 := v1) hb1 hb0; have r2 := Rd.own o2; replace r1 := r1.below hb0; clear hb0 o2) | (go_at_call 76; refine (kX _ (ra.below A0)).mono ?_; rintro e u1 ⟨x1, k1, rfl, o1, hb0⟩; have hb1 := keepC (w1 := v1) A0 hb0; have r1 := Rd.own o1; clear hb0 o1))
  all_goals go_wp2_with fail
  all_goals go_meet
  all_goals exact ⟨rfl, hb3⟩
 case rest =>
 obtain ⟨rfl, hbx⟩ := hcut
 replace b0 := b0.trans (hbx.mono b0.size)
 have HB0 := hid b0
 clear b0 hbx hB ra rb kX kY kC hs1 hs2 hs1' hs2'
 have h := HE.out
 by_cases hz : cz < 0
 · rw [if_pos hz] at h
   have hd : decide (cz < 0) = true := decide_eq_true hz
   have H := hid h; clear h
   go_wp2_with fail
   go_ret
   exact ⟨by rw [H.out]; rfl, HB0.out⟩
 · rw [if_neg hz] at h
   have hd : decide (cz < 0) = false := decide_eq_false hz
   have H := hid h; clear h
   go_wp2_with fail
   go_ret
   exact ⟨by rw [H.out]; rfl, HB0.out⟩

end Go.Proofs.YtjffpclidcloeaaGreatDoor
