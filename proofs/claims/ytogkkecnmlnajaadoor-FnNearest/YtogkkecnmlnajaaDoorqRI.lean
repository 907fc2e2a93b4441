import Derived.Test.YtogkkecnmlnajaaDoorqBW
set_option maxHeartbeats 4000000
set_option maxRecDepth 100000
namespace Go.Proofs.YtogkkecnmlnajaaDoor
open Go.RowKit
set_option linter.unusedVariables false
set_option maxRecDepth 100000
theorem blen_L (a : Nat) (h : 0 < a) : blen a = 64 * ((L a).length - 1) + blen ((L a).getD ((L a).length - 1) 0) := by
 have h1 := M.dig_le (B := 18446744073709551616) (by omega) a h
 have h2 := M.lt_dig (B := 18446744073709551616) (by omega) a
 have hl : (L a).length ≠ 0 := by unfold L; rw [M.dig_pos (by omega) h]; simp
 obtain ⟨m, hm⟩ : ∃ m, (L a).length = m + 1 := ⟨(L a).length - 1, by omega⟩
 have hm' : (M.dig 18446744073709551616 a).length = m + 1 := hm
 rw [hm'] at h1 h2
 rw [hm, Nat.add_sub_cancel] at *
 have e : (18446744073709551616 : Nat) ^ m = 2 ^ (64 * m) := by rw [show (18446744073709551616 : Nat) = 2 ^ 64 from rfl, ← Nat.pow_mul]
 have hg : (L a).getD m 0 = a / 18446744073709551616 ^ m := by
  have hh : (M.dig 18446744073709551616 a).getD m 0 = a / 18446744073709551616 ^ m % 18446744073709551616 := by
   have : ∀ k n, (M.dig 18446744073709551616 n).getD k 0 = n / 18446744073709551616 ^ k % 18446744073709551616 := by
    intro k
    induction k with
    | zero =>
      intro n
      by_cases hn : 0 < n
      · rw [M.dig_pos (by omega) hn]; simp
      · have : n = 0 := by omega
        subst this; simp [M.dig_zero]
    | succ k ih =>
      intro n
      by_cases hn : 0 < n
      · rw [M.dig_pos (by omega) hn, List.getD_cons_succ, ih, Nat.div_div_eq_div_mul, Nat.pow_succ, Nat.mul_comm 18446744073709551616]
      · have : n = 0 := by omega
        subst this; simp [M.dig_zero]
   exact this m a
  unfold L
  rw [hh]
  apply Nat.mod_eq_of_lt
  apply Nat.div_lt_of_lt_mul
  rw [← Nat.pow_succ]; exact h2
 rw [hg, e]
 exact blen_shift (64 * m) a (by rw [← e]; exact h1)

theorem bitLenN_any (ao : Option Addr) (n c : Nat) (a : Nat) (w : World) (hl : (L a).length = n) (hn : n ≤ 1048576) (hr : Rd w ao (L a)) (b : Nat) (hb : b = blen a) :
 Calls Tryd.prog 82 #[.slice ao n c] w fun e w' => e = .returned (.int .i64 (b : Int)) ∧ w' = w := by
 by_cases h0 : n = 0
 · subst h0
   have ha : a = 0 := by
    rcases Nat.eq_zero_or_pos a with h | h
    · exact h
    · unfold L at hl; rw [M.dig_pos (by omega) h] at hl; simp at hl
   have hb0 : b = 0 := by rw [hb, ha, blen_zero]
   subst hb0
   clear hb ha hl hr
   go_enter Tryd.func82, Tryd.ntmps82
   go_wp2_with fail
   go_ret
   exact ⟨rfl, rfl⟩
 · obtain ⟨m, rfl⟩ : ∃ m, n = m + 1 := ⟨n - 1, by omega⟩
   have ha : 0 < a := by
    rcases Nat.eq_zero_or_pos a with h | h
    · rw [h] at hl; simp [L, M.dig_zero] at hl
    · exact h
   have hbl := blen_L a ha
   rw [hl, Nat.add_sub_cancel] at hbl
   obtain ⟨b1, o1, hao, hcl⟩ := hr (by omega)
   have hck := hcl m (by omega)
   clear hcl
   have ht := (F64_L a).get m
   obtain ⟨t, htt⟩ : ∃ t : Nat, t = (L a).getD m 0 := ⟨_, rfl⟩
   rw [← htt] at hck ht hbl
   rw [← hb] at hbl
   have hne : (((m : Int) + 1) == 0) = false := by simp; omega
   have e1 : ((m + 1 : Nat) : Int) = (m : Int) + 1 := by omega
   have hltm : (m : Int) < (m : Int) + 1 := by omega
   have hlt64 := blen_le_of t 64 (by omega)
   obtain ⟨q, hq⟩ : ∃ q, q = blen t := ⟨_, rfl⟩
   rw [← hq] at hbl hlt64
   have HBL := hid hbl; have HT := hid htt; have HQ := hid hq
   clear hbl htt hb hq
   have kL := fun v : World => len64_any t v ht q HQ.out
   have w1 : IntKind.i64.wrap ((m : Int) * 64) = (m : Int) * 64 := by rw [IntKind.wrap_i64]; omega
   have w2 : IntKind.i64.wrap ((m : Int) * 64 + (q : Int)) = (m : Int) * 64 + (q : Int) := by rw [IntKind.wrap_i64]; omega
   go_enter Tryd.func82, Tryd.ntmps82
   go_wp2_with fail
   refine (kL _).mono ?_
   rintro e w3 ⟨rfl, rfl⟩
   go_wp2_with fail
   go_ret
   exact ⟨ret_int (by have := HBL.out; omega), rfl⟩

theorem L_zero_iff (a : Nat) : (((L a).length : Int) == 0) = decide (a = 0) := by
 rw [Bool.eq_iff_iff]
 simp only [beq_iff_eq, decide_eq_true_eq]
 constructor
 · intro h
   have h1 : L a = [] := List.eq_nil_of_length_eq_zero (by omega)
   have h2 : V (L a) = a := V_L a
   rw [h1] at h2
   simpa [V, M.val] using h2.symm
 · intro h
   subst h
   simp [L, M.dig_zero]

theorem D_zero_eq (a : Nat) : (((D a).length : Int) == 0) = decide (a = 0) := by
 rw [Bool.eq_iff_iff]
 simp only [beq_iff_eq, decide_eq_true_eq]
 constructor
 · intro h
   have h1 : D a = [] := List.eq_nil_of_length_eq_zero (by omega)
   have h2 : X (D a) = a := X_D a
   rw [h1] at h2
   simpa [X, M.val] using h2.symm
 · intro h
   subst h
   simp [D, M.dig_zero]

theorem len_shiftK (N p A K : Nat) (hn : (L N).length ≤ A) (hp : p ≤ 64 * K) : (L (N * 2 ^ p)).length ≤ A + K := by
 have h1 := L_lt N A hn
 have h2 : 2 ^ p ≤ 18446744073709551616 ^ K := by
  rw [show (18446744073709551616 : Nat) = 2 ^ 64 by rfl, ← Nat.pow_mul]
  exact Nat.pow_le_pow_right (by omega) (by omega)
 have h3 : N * 2 ^ p < 18446744073709551616 ^ (A + K) := by
  rw [Nat.pow_add]
  exact Nat.lt_of_le_of_lt (Nat.mul_le_mul_left _ h2) (Nat.mul_lt_mul_of_pos_right h1 (Nat.pow_pos (by omega)))
 exact M.len_of_lt (B := 18446744073709551616) (by omega) _ _ h3

def Rb (v : World) (g : Nat) (e0 e1 e2 e3 e4 : Int) (e5 : Bool) (a : Option Addr) (n c : Nat) (b : Option Addr) (m d : Nat) (Z : Nat) (q : Int) : Prop :=
 Cls v g #[.int .i64 e0, .int .i64 e1, .int .i64 e2, .int .i64 e3, .int .i64 e4, .bool e5, .slice a n c, .slice b m d, .int .u64 (M.hiN Z : Int), .int .u64 (M.loN Z : Int), .int .i64 q] 85

theorem Rb.below {v v' : World} {g : Nat} {e0 e1 e2 e3 e4 : Int} {e5 : Bool} {a b : Option Addr} {n c m d Z : Nat} {q : Int} (h : Rb v g e0 e1 e2 e3 e4 e5 a n c b m d Z q) (hb : Below v.heap.size v v') : Rb v' g e0 e1 e2 e3 e4 e5 a n c b m d Z q := Cls.below h hb

theorem cmpI_lt1 (a b : Nat) : decide (cmpI (a : Int) (b : Int) < 0) = decide (a < b) := by
 unfold cmpI
 rw [Bool.eq_iff_iff]
 simp only [decide_eq_true_eq]
 split
 · omega
 · split <;> omega

theorem keepDq {w1 W v : World} {q : Nat} (h : Below w1.heap.size w1 W) (e : v = W.drewN q) : Below w1.heap.size w1 v := by
 subst e
 exact ⟨h.os, h.tape, h.output, h.size, h.block⟩

theorem belDr (v : World) (q : Nat) : Below v.heap.size v (v.drewN q) := ⟨rfl, rfl, rfl, Nat.le_refl _, fun _ _ => rfl⟩

theorem iexp_key (g : Nat) (e0 e1 e2 e3 e4 : Int) (e5 : Bool) (a b : Option Addr) (c d N De Z : Nat) (q : Int) (w : World) (hB : Rb w g e0 e1 e2 e3 e4 e5 a (L N).length c b (L De).length d Z q) (ra : Rd w a (L N)) (rb : Rd w b (L De))
 (bN bD : Nat) (hbN : bN ≤ 90000) (hbD : bD ≤ 90000) (kN : ∀ v : World, Rd v a (L N) → Calls Tryd.prog 82 #[.slice a (L N).length c] v fun e w' => e = .returned (.int .i64 (bN : Int)) ∧ w' = v)
 (kD : ∀ v : World, Rd v b (L De) → Calls Tryd.prog 82 #[.slice b (L De).length d] v fun e w' => e = .returned (.int .i64 (bD : Int)) ∧ w' = v)
 (t s1 s2 : Int) (ht : t = (bN : Int) - bD) (hs1 : max (-t) 0 = s1) (hs2 : max t 0 = s2) (X Y : Nat)
 (kX : ∀ v : World, Rd v a (L N) → Calls Tryd.prog 75 #[.slice a (L N).length c, .int .i64 s1] v fun e w' => Ret v w' e (L X))
 (kY : ∀ v : World, Rd v b (L De) → Calls Tryd.prog 75 #[.slice b (L De).length d, .int .i64 s2] v fun e w' => Ret v w' e (L Y))
 (cz : Int) (kC : ∀ (v : World) (ao bo : Option Addr) (c d : Nat), Rd v ao (L X) → Rd v bo (L Y) → Calls Tryd.prog 78 #[.slice ao (L X).length c, .slice bo (L Y).length d] v fun e w' => e = .returned (.int .i64 cz) ∧ ∃ q, w' = v.drewN q)
 (E : Int) (hE : E = if cz < 0 then t - 1 else t) :
 Calls Tryd.prog 74 #[.pointer (some ⟨g, 0, none⟩)] w fun e w' => e = .returned (.int .i64 E) ∧ Below w.heap.size w w' := by
 have w1 : IntKind.i64.wrap ((bN : Int) - (bD : Int)) = t := by rw [IntKind.wrap_i64]; omega
 have w1' : (bN : Int) - (bD : Int) = t := by omega
 have w2 : IntKind.i64.wrap (-t) = -t := by rw [IntKind.wrap_i64]; omega
 have w3 : IntKind.i64.wrap (t - 1) = t - 1 := by rw [IntKind.wrap_i64]; omega
 have w4 : IntKind.i64.wrap t = t := by rw [IntKind.wrap_i64]; omega
 have HT := hid ht; clear ht
 have hs1' : (if -t < 0 then 0 else -t) = s1 := by split <;> omega
 have hs2' : (if t < 0 then 0 else t) = s2 := by split <;> omega
 have HE := hid hE; clear hE
 have c6 := Cls.cell hB 6 rfl
 have c7 := Cls.cell hB 7 rfl
 go_enter Tryd.func74, Tryd.ntmps74
 go_upto_region 1 with fail
 go_quiet ((go_at_call 82; first | (with_reducible show Calls _ _ #[Value.slice a _ _] _ _; exact Calls.quiet_of_same (kN _ (Rd.drewN ra _))) | exact Calls.quiet_of_same (kD _ (Rd.drewN rb _))))
 replace hB := hB.below (belDr _ nq)
 replace ra := ra.below (belDr _ nq)
 replace rb := rb.below (belDr _ nq)
 have b0 := belDr w nq
 generalize w.drewN nq = v1 at *
 clear c6 c7 kN kD w1 w1'
 go_upto_region 2 with fail
 go_cut [31] (fun z wx => z = .bool (decide (cz < 0)) ∧ Below v1.heap.size v1 wx)
 case first =>
  have A0 : Below v1.heap.size v1 v1.drew := (Below.refl _ _).drew
  have KB : ∀ v, Below v1.heap.size v1 v → (fun v => v.cell? ⟨g, 6, none⟩ = some (.slice a (L N).length c) ∧ v.cell? ⟨g, 7, none⟩ = some (.slice b (L De).length d)) v := fun v hv => ⟨Cls.cell (hB.below hv) 6 rfl, Cls.cell (hB.below hv) 7 rfl⟩
  go_region_held3 (fun v => v.cell? ⟨g, 6, none⟩ = some (.slice a (L N).length c) ∧ v.cell? ⟨g, 7, none⟩ = some (.slice b (L De).length d)) (first | with_reducible exact KB _ hb3 | with_reducible exact KB _ hb2 | with_reducible exact KB _ hb1 | with_reducible exact KB _ A0)
   (first | (have hq := hb2; clear hq; go_at_call 78; refine (kC _ _ _ _ _ r1 r2).mono ?_; rintro e u3 ⟨rfl, qq, hu3⟩; have hb3 := keepDq (w1 := v1) hb2 hu3; clear hu3) | (have hq := hb1; clear hq; go_at_call 75; refine (kY _ (rb.below hb1)).mono ?_; rintro e u2 ⟨x2, k2, rfl, o2, hb0⟩; have hb2 := keepC (w1 := v1) hb1 hb0; have r2 := Rd.own o2; replace r1 := r1.below hb0; clear hb0 o2) | (go_at_call 75; refine (kX _ (ra.below A0)).mono ?_; rintro e u1 ⟨x1, k1, rfl, o1, hb0⟩; have hb1 := keepC (w1 := v1) A0 hb0; have r1 := Rd.own o1; clear hb0 o1))
  all_goals go_wp2_with fail
  all_goals go_meet
  all_goals exact ⟨rfl, hb3⟩
 case rest =>
 obtain ⟨rfl, hbx⟩ := hcut
 replace b0 := b0.trans (hbx.mono b0.size)
 have HB0 := hid b0
 clear b0 hbx hB ra rb kX kY kC hs1 hs2 hs1' hs2'
 have h := HE.out
 by_cases hz : cz < 0
 · rw [if_pos hz] at h
   have hd : decide (cz < 0) = true := decide_eq_true hz
   have H := hid h; clear h
   go_wp2_with fail
   go_ret
   exact ⟨by rw [H.out]; rfl, HB0.out⟩
 · rw [if_neg hz] at h
   have hd : decide (cz < 0) = false := decide_eq_false hz
   have H := hid h; clear h
   go_wp2_with fail
   go_ret
   exact ⟨by rw [H.out]; rfl, HB0.out⟩

theorem grown_of_below {w w' : World} (h : Below w.heap.size w w') (row : Option Nat) : w.grownBy w' row := ⟨h.os, h.tape, h.output, h.size, fun k hk _ => h.block k hk⟩

theorem Rd.gb {w w' : World} {ao : Option Addr} {xs : List Nat} {g : Nat} (h : Rd w ao xs) (hs : Apart ao xs g) (hg : w.grownBy w' (some g)) : Rd w' ao xs := h.apart hg hs

theorem iscale_key (g : Nat) (e0 e1 e2 e3 e4 : Int) (e5 : Bool) (a b : Option Addr) (c d N De Z : Nat) (q : Int) (w : World) (hB : Rb w g e0 e1 e2 e3 e4 e5 a (L N).length c b (L De).length d Z q) (ra : Rd w a (L N)) (rb : Rd w b (L De)) (sa : Apart a (L N) g) (sb : Apart b (L De) g)
 (E qm Q : Int) (he0 : 0 ≤ e0) (he0' : e0 ≤ 200) (hE1 : -100000 ≤ E) (hE2 : E ≤ 100000) (hQ : max (E - e0 + 1) qm = Q) (hQ1 : -100000 ≤ Q) (hQ2 : Q ≤ 100000)
 (kE : ∀ v : World, Rb v g e0 e1 e2 e3 e4 e5 a (L N).length c b (L De).length d Z q → Rd v a (L N) → Rd v b (L De) → Calls Tryd.prog 74 #[.pointer (some ⟨g, 0, none⟩)] v fun e w' => e = .returned (.int .i64 E) ∧ Below v.heap.size v w')
 (kQ : ∀ v : World, Calls Tryd.prog 70 #[.agg #[.int .i64 e0, .int .i64 e1, .int .i64 e2, .int .i64 e3, .int .i64 e4, .bool e5]] v fun e w' => e = .returned (.int .i64 qm) ∧ Below v.heap.size v w')
 (s1 s2 : Int) (hs1 : max (-Q) 0 = s1) (hs2 : max Q 0 = s2) (X Y : Nat)
 (kX : ∀ v : World, Rd v a (L N) → Calls Tryd.prog 75 #[.slice a (L N).length c, .int .i64 s1] v fun e w' => Ret v w' e (L X))
 (kY : ∀ v : World, Rd v b (L De) → Calls Tryd.prog 75 #[.slice b (L De).length d, .int .i64 s2] v fun e w' => Ret v w' e (L Y)) :
 Calls Tryd.prog 60 #[.pointer (some ⟨g, 0, none⟩)] w fun e w' => (∃ v, e = .returned v) ∧ ∃ (a1 : Option Addr) (c1 : Nat) (a2 : Option Addr) (c2 : Nat), Rb w' g e0 e1 e2 e3 e4 e5 a1 (L X).length c1 a2 (L Y).length c2 Z Q ∧ Rd w' a1 (L X) ∧ Rd w' a2 (L Y) ∧ Apart a1 (L X) g ∧ Apart a2 (L Y) g ∧ w.grownBy w' (some g) := by
 have w1 : IntKind.i64.wrap (E - e0) = E - e0 := by rw [IntKind.wrap_i64]; omega
 have w2 : IntKind.i64.wrap (E - e0 + 1) = E - e0 + 1 := by rw [IntKind.wrap_i64]; omega
 have w3 : IntKind.i64.wrap (-Q) = -Q := by rw [IntKind.wrap_i64]; omega
 have hQ' : (if E - e0 + 1 < qm then qm else E - e0 + 1) = Q := by split <;> omega
 have hs1' : (if -Q < 0 then 0 else -Q) = s1 := by split <;> omega
 have hs2' : (if Q < 0 then 0 else Q) = s2 := by split <;> omega
 have lg : g < w.heap.size := Cls.lt hB
 go_enter Tryd.func60, Tryd.ntmps60
 go_upto_region 0 with fail
 go_cut [18] (fun x wx => x = .pointer (some ⟨g, 0, none⟩) ∧ Rb wx g e0 e1 e2 e3 e4 e5 a (L N).length c b (L De).length d Z Q ∧ w.grownBy wx (some g))
 case first =>
  have A0 : Below w.heap.size w w.drew := (Below.refl _ _).drew
  have KB : ∀ v, Below w.heap.size w v → (fun v => v.cell? ⟨g, 0, none⟩ = some (.int .i64 e0) ∧ v.cell? ⟨g, 1, none⟩ = some (.int .i64 e1) ∧ v.cell? ⟨g, 2, none⟩ = some (.int .i64 e2) ∧ v.cell? ⟨g, 3, none⟩ = some (.int .i64 e3) ∧ v.cell? ⟨g, 4, none⟩ = some (.int .i64 e4) ∧ v.cell? ⟨g, 5, none⟩ = some (.bool e5)) v := fun v hv => ⟨Cls.cell (hB.below hv) 0 rfl, Cls.cell (hB.below hv) 1 rfl, Cls.cell (hB.below hv) 2 rfl, Cls.cell (hB.below hv) 3 rfl, Cls.cell (hB.below hv) 4 rfl, Cls.cell (hB.below hv) 5 rfl⟩
  have KS : ∀ v x, Below w.heap.size w v → (fun v => v.cell? ⟨g, 0, none⟩ = some (.int .i64 e0) ∧ v.cell? ⟨g, 1, none⟩ = some (.int .i64 e1) ∧ v.cell? ⟨g, 2, none⟩ = some (.int .i64 e2) ∧ v.cell? ⟨g, 3, none⟩ = some (.int .i64 e3) ∧ v.cell? ⟨g, 4, none⟩ = some (.int .i64 e4) ∧ v.cell? ⟨g, 5, none⟩ = some (.bool e5)) (v.setCell ⟨g, 10, none⟩ x) := fun v x hv => by
   have h := Cls.set (hB.below hv) 10 x _ rfl
   exact ⟨h.cell 0 rfl, h.cell 1 rfl, h.cell 2 rfl, h.cell 3 rfl, h.cell 4 rfl, h.cell 5 rfl⟩
  go_region_held3 (fun v => v.cell? ⟨g, 0, none⟩ = some (.int .i64 e0) ∧ v.cell? ⟨g, 1, none⟩ = some (.int .i64 e1) ∧ v.cell? ⟨g, 2, none⟩ = some (.int .i64 e2) ∧ v.cell? ⟨g, 3, none⟩ = some (.int .i64 e3) ∧ v.cell? ⟨g, 4, none⟩ = some (.int .i64 e4) ∧ v.cell? ⟨g, 5, none⟩ = some (.bool e5)) (first | with_reducible exact KB _ hb2 | with_reducible exact KB _ hb1 | with_reducible exact KB _ A0 | with_reducible exact KS _ _ hb2)
   (first | (have hq := hb1; clear hq; go_at_call 70; refine (kQ _).mono ?_; rintro e u2 ⟨rfl, hb0⟩; have hb2 := keepC (w1 := w) hb1 hb0; clear hb0; have b10 := Cls.cell (hB.below hb2) 10 rfl; have f10 := Cls.frozen (hB.below hb2) 10) | (go_at_call 74; refine (kE _ (hB.below A0) (ra.below A0) (rb.below A0)).mono ?_; rintro e u1 ⟨rfl, hb0⟩; have hb1 := keepC (w1 := w) A0 hb0; clear hb0))
  all_goals go_wp2_with fail
  all_goals go_meet
  all_goals exact ⟨rfl, Cls.set (hB.below hb2) 10 _ _ rfl, grown_trans (grown_of_below hb2 _) (grown_setCell _ _ _ _)⟩
 case rest =>
 obtain ⟨rfl, hB1, hg1⟩ := hcut
 replace ra := ra.gb sa hg1
 replace rb := rb.gb sb hg1
 clear hB kE kQ
 have lg1 : g < wc.heap.size := Cls.lt hB1
 go_upto_region 1 with fail
 go_cut [32] (fun x wx => x = .pointer (some ⟨g, 0, none⟩) ∧ ∃ (a1 : Option Addr) (c1 : Nat), Rb wx g e0 e1 e2 e3 e4 e5 a1 (L X).length c1 b (L De).length d Z Q ∧ Rd wx a1 (L X) ∧ Apart a1 (L X) g ∧ wc.grownBy wx (some g))
 case first =>
  have A0 : Below wc.heap.size wc wc.drew := (Below.refl _ _).drew
  have c6 := Cls.cell (hB1.below A0) 6 rfl
  have c10 := Cls.cell (hB1.below A0) 10 rfl
  have d6 := Cls.cell hB1 6 rfl
  have d10 := Cls.cell hB1 10 rfl
  go_region_with (first | (go_at_call 75; refine (kX _ (ra.below A0)).mono ?_; rintro e u1 ⟨x1, k1, rfl, o1, hb0⟩; have hb1 := keepC (w1 := wc) A0 hb0; clear hb0; have b6 := Cls.cell (hB1.below hb1) 6 rfl; have f6 := Cls.frozen (hB1.below hb1) 6))
  all_goals go_wp2_with fail
  all_goals go_meet
  all_goals (have ap := apart_own (g := g) o1 lg1; exact ⟨rfl, x1, k1, Cls.set (hB1.below hb1) 6 _ _ rfl, (Rd.own o1).apart (grown_setCell u1 g 6 _) ap, ap, grown_trans (grown_of_below hb1 _) (grown_setCell _ _ _ _)⟩)
 case rest =>
 rename_i wd
 obtain ⟨rfl, x1, k1, hB2, rx, sx, hg2⟩ := hcut
 replace rb := rb.gb sb hg2
 have hg12 := grown_trans hg1 hg2
 clear hB1 kX ra sa hg1 hg2
 have lg2 : g < wc.heap.size := Cls.lt hB2
 go_upto_region 2 with fail
 have A0 : Below wc.heap.size wc wc.drew := (Below.refl _ _).drew
 have c7 := Cls.cell (hB2.below A0) 7 rfl
 have c10 := Cls.cell (hB2.below A0) 10 rfl
 have d7 := Cls.cell hB2 7 rfl
 have d10 := Cls.cell hB2 10 rfl
 go_region_with (first | (go_at_call 75; refine (kY _ (rb.below A0)).mono ?_; rintro e u1 ⟨x2, k2, rfl, o1, hb0⟩; have hb1 := keepC (w1 := wc) A0 hb0; clear hb0; have b7 := Cls.cell (hB2.below hb1) 7 rfl; have f7 := Cls.frozen (hB2.below hb1) 7))
 all_goals go_wp2_with fail
 all_goals go_end0
 all_goals (have ap := apart_own (g := g) o1 lg2; have gg := grown_trans (grown_of_below hb1 _) (grown_setCell u1 g 7 (.slice x2 (L Y).length k2)); exact ⟨⟨_, rfl⟩, x1, k1, x2, k2, Cls.set (hB2.below hb1) 7 _ _ rfl, rx.gb sx gg, (Rd.own o1).apart (grown_setCell u1 g 7 _) ap, sx, ap, grown_trans hg12 gg⟩)

theorem Own.away {w : World} {lo hi : Nat} {ao : Option Addr} {cap : Nat} {r : List Nat} {g : Nat} (h : Own w lo hi ao cap r) (hg : g < lo) : Apart ao r g := by
 intro hp b2 o2 e
 obtain ⟨g', e', _⟩ := own_addr h.row hp
 rw [e] at e'
 simp only [Option.some.injEq, Addr.mk.injEq] at e'
 obtain ⟨rfl, rfl, _⟩ := e'
 have := (h.place b2 (by rw [e]; rfl)).1
 omega

theorem Rb.set2 {v : World} {g : Nat} {e0 e1 e2 e3 e4 : Int} {e5 : Bool} {a b : Option Addr} {n c m d Z : Nat} {q : Int} (h : Rb v g e0 e1 e2 e3 e4 e5 a n c b m d Z q) (Y : Nat) : Rb ((v.setCell ⟨g, 8, none⟩ (.int .u64 (M.hiN Y : Int))).setCell ⟨g, 9, none⟩ (.int .u64 (M.loN Y : Int))) g e0 e1 e2 e3 e4 e5 a n c b m d Y q :=
 Cls.set (Cls.set h 8 _ _ rfl) 9 _ _ rfl

theorem grown2 (v : World) (g i j : Nat) (x y : Value) : v.grownBy ((v.setCell ⟨g, i, none⟩ x).setCell ⟨g, j, none⟩ y) (some g) := grown_trans (grown_setCell _ _ _ _) (grown_setCell _ _ _ _)

theorem inear_key (g : Nat) (e0 e1 e2 e3 e4 : Int) (e5 : Bool) (a b : Option Addr) (c d N De Z : Nat) (q : Int) (w : World) (hB : Rb w g e0 e1 e2 e3 e4 e5 a (L N).length c b (L De).length d Z q) (ra : Rd w a (L N)) (rb : Rd w b (L De)) (sa : Apart a (L N) g) (sb : Apart b (L De) g)
 (S0 R0 : Nat) (kD : ∀ v : World, Rd v a (L N) → Rd v b (L De) → Calls Tryd.prog 76 #[.slice a (L N).length c, .slice b (L De).length d] v fun e w' => RetD v w' e (L S0) (L R0))
 (kW : ∀ (v : World) (ao : Option Addr) (cc : Nat), Rd v ao (L S0) → Calls Tryd.prog 77 #[.slice ao (L S0).length cc] v fun e w' => e = .returned (.agg #[.int .u64 (M.hiN S0 : Int), .int .u64 (M.loN S0 : Int)]) ∧ Below v.heap.size v w')
 (kS : ∀ (v : World) (ao : Option Addr) (cc : Nat), Rd v ao (L R0) → Calls Tryd.prog 75 #[.slice ao (L R0).length cc, .int .i64 1] v fun e w' => Ret v w' e (L (R0 * 2)))
 (cz : Int) (kC : ∀ (v : World) (ao : Option Addr) (cc : Nat), Rd v ao (L (R0 * 2)) → Rd v b (L De) → Calls Tryd.prog 78 #[.slice ao (L (R0 * 2)).length cc, .slice b (L De).length d] v fun e w' => e = .returned (.int .i64 cz) ∧ ∃ q, w' = v.drewN q)
 (kV : ∀ v : World, Calls Tryd.prog 79 #[.agg #[.int .u64 (M.hiN S0 : Int), .int .u64 (M.loN S0 : Int)]] v fun e w' => e = .returned (.bool (decide (S0 % 2 = 0))) ∧ Below v.heap.size v w')
 (kP : ∀ v : World, Calls Tryd.prog 43 #[.agg #[.int .u64 (M.hiN S0 : Int), .int .u64 (M.loN S0 : Int)], .agg #[.int .u64 0, .int .u64 1]] v fun e w' => e = .returned (.agg #[.int .u64 (M.hiN (S0 + 1) : Int), .int .u64 (M.loN (S0 + 1) : Int)]) ∧ Below v.heap.size v w')
 (S1 : Nat) (hS1 : S1 = if 0 < cz ∨ (cz = 0 ∧ S0 % 2 = 1) then S0 + 1 else S0) :
 Calls Tryd.prog 61 #[.pointer (some ⟨g, 0, none⟩)] w fun e w' => (∃ v, e = .returned v) ∧ Rb w' g e0 e1 e2 e3 e4 e5 a (L N).length c b (L De).length d S1 q ∧ w.grownBy w' (some g) := by
 have HS1 := hid hS1; clear hS1
 have lg : g < w.heap.size := Cls.lt hB
 go_enter Tryd.func61, Tryd.ntmps61
 go_upto_region 0 with fail
 go_cut [2, 3] (fun x y wx => ∃ (a1 : Option Addr) (c1 : Nat) (a2 : Option Addr) (c2 : Nat), x = .slice a1 (L S0).length c1 ∧ y = .slice a2 (L R0).length c2 ∧ Rd wx a1 (L S0) ∧ Rd wx a2 (L R0) ∧ Apart a2 (L R0) g ∧ Below w.heap.size w wx)
 case first =>
  have A0 : Below w.heap.size w w.drew := (Below.refl _ _).drew
  have c6 := Cls.cell (hB.below A0) 6 rfl
  have c7 := Cls.cell (hB.below A0) 7 rfl
  have d6 := Cls.cell hB 6 rfl
  have d7 := Cls.cell hB 7 rfl
  go_region_with (first | (go_at_call 76; refine (kD _ (ra.below A0) (rb.below A0)).mono ?_; rintro e u1 ⟨a1, c1, a2, c2, mid, rfl, g1, g2, o1, o2, hb0⟩; have hb1 := keepC (w1 := w) A0 hb0; clear hb0))
  all_goals go_wp2_with fail
  all_goals go_meet
  all_goals exact ⟨a1, c1, a2, c2, rfl, rfl, o1.rd, o2.rd, o2.away (Nat.lt_of_lt_of_le lg g1), hb1⟩
 case rest =>
 obtain ⟨a1, c1, a2, c2, rfl, rfl, r1, r2, s2, hbx⟩ := hcut
 replace hB := hB.below hbx
 replace rb := rb.below hbx
 clear kD ra sa
 go_wp2_with fail
 refine (kW _ _ _ r1).mono ?_
 rintro e v2 ⟨rfl, hb2⟩
 replace hB := hB.below hb2
 replace rb := rb.below hb2
 replace r2 := r2.below hb2
 replace hbx := hbx.trans (hb2.mono hbx.size)
 clear kW r1 hb2
 have b8 := Cls.cell hB 8 rfl
 have b9 := Cls.cell hB 9 rfl
 have f8 := Cls.frozen hB 8
 have f9 := Cls.frozen hB 9
 go_upto_region 2 with fail
 clear b8 b9 f8 f9
 have gg := grown2 v2 g 8 9 (.int .u64 (M.hiN S0 : Int)) (.int .u64 (M.loN S0 : Int))
 replace hB := hB.set2 S0
 replace rb := rb.gb sb gg
 replace r2 := r2.gb s2 gg
 have hg := grown_trans (grown_of_below hbx (some g)) gg
 clear gg hbx
 generalize ((v2.setCell ⟨g, 8, none⟩ (.int .u64 (M.hiN S0 : Int))).setCell ⟨g, 9, none⟩ (.int .u64 (M.loN S0 : Int))) = v3 at *
 go_cut [4] (fun x wx => x = .int .i64 cz ∧ Below v3.heap.size v3 wx)
 case first =>
  have A0 : Below v3.heap.size v3 v3.drew := (Below.refl _ _).drew
  have KB : ∀ v, Below v3.heap.size v3 v → (fun v => v.cell? ⟨g, 7, none⟩ = some (.slice b (L De).length d)) v := fun v hv => Cls.cell (hB.below hv) 7 rfl
  go_region_held3 (fun v => v.cell? ⟨g, 7, none⟩ = some (.slice b (L De).length d)) (first | with_reducible exact KB _ hb2 | with_reducible exact KB _ hb1 | with_reducible exact KB _ A0)
   (first | (have hq := hb1; clear hq; go_at_call 78; refine (kC _ _ _ rt (rb.below hb1)).mono ?_; rintro e u2 ⟨rfl, qq, hu2⟩; have hb2 := keepDq (w1 := v3) hb1 hu2; clear hu2) | (go_at_call 75; refine (kS _ _ _ (r2.below A0)).mono ?_; rintro e u1 ⟨x1, k1, rfl, o1, hb0⟩; have hb1 := keepC (w1 := v3) A0 hb0; have rt := Rd.own o1; clear hb0 o1))
  all_goals go_wp2_with fail
  all_goals go_meet
  all_goals exact ⟨rfl, hb2⟩
 case rest =>
 obtain ⟨rfl, hbx⟩ := hcut
 replace hB := hB.below hbx
 replace hg := grown_trans hg (grown_of_below hbx (some g))
 clear kS kC r2 rb s2 sb hbx
 go_upto_region 3 with fail
 go_cut [42] (fun x wx => x = .bool (decide (0 < cz ∨ (cz = 0 ∧ S0 % 2 = 1))) ∧ Below wc.heap.size wc wx)
 case first =>
  by_cases hp : 0 < cz
  · have e1 : decide (0 < cz ∨ (cz = 0 ∧ S0 % 2 = 1)) = true := decide_eq_true (.inl hp)
    have E1 := hid e1; clear e1
    go_wp2_with fail
    go_meet
    case rel => exact ⟨by rw [E1.out], Below.refl _ _⟩
  · by_cases hz : cz = 0
    · have hzb : (cz == 0) = true := by simp [hz]
      have e1 : decide (0 < cz ∨ (cz = 0 ∧ S0 % 2 = 1)) = !(decide (S0 % 2 = 0)) := by
       rw [Bool.eq_iff_iff]; simp only [decide_eq_true_eq, Bool.not_eq_true', decide_eq_false_iff_not]; omega
      have HZ := hid hz; clear hz
      have E1 := hid e1; clear e1
      have b8 := Cls.cell hB 8 rfl
      have b9 := Cls.cell hB 9 rfl
      generalize hbz : decide (S0 % 2 = 0) = bz at *
      go_wp2_with (go_at_call 79; refine (kV _).mono ?_; rintro e v9 ⟨rfl, hb9⟩)
      go_meet
      case rel => exact ⟨by rw [E1.out], hb9⟩
    · have hzb : (cz == 0) = false := by simp [hz]
      have e1 : decide (0 < cz ∨ (cz = 0 ∧ S0 % 2 = 1)) = false := decide_eq_false (by omega)
      have E1 := hid e1; clear e1
      go_wp2_with fail
      go_meet
      case rel => exact ⟨by rw [E1.out], Below.refl _ _⟩
 case rest =>
 obtain ⟨rfl, hbx⟩ := hcut
 replace hB := hB.below hbx
 replace hg := grown_trans hg (grown_of_below hbx (some g))
 clear kV hbx
 have h := HS1.out
 by_cases hp : 0 < cz ∨ (cz = 0 ∧ S0 % 2 = 1)
 · rw [if_pos hp] at h
   have e1 : decide (0 < cz ∨ (cz = 0 ∧ S0 % 2 = 1)) = true := decide_eq_true hp
   rw [e1]
   have HP := hid hp; have H := hid h; clear hp h e1
   have b8 := Cls.cell hB 8 rfl
   have b9 := Cls.cell hB 9 rfl
   go_wp2_with fail
   refine (kP _).mono ?_
   rintro e v4 ⟨rfl, hb4⟩
   replace hB := hB.below hb4
   replace hg := grown_trans hg (grown_of_below hb4 (some g))
   clear b8 b9 kP hb4
   have b8 := Cls.cell hB 8 rfl
   have b9 := Cls.cell hB 9 rfl
   have f8 := Cls.frozen hB 8
   have f9 := Cls.frozen hB 9
   have HH := hid (And.intro (hB.set2 (S0 + 1)) (grown_trans hg (grown2 v4 g 8 9 (.int .u64 (M.hiN (S0 + 1) : Int)) (.int .u64 (M.loN (S0 + 1) : Int)))))
   clear hB hg
   go_wp2_with fail
   go_end0
   exact ⟨⟨_, rfl⟩, by rw [H.out]; exact HH.out.1, HH.out.2⟩
 · rw [if_neg hp] at h
   have e1 : decide (0 < cz ∨ (cz = 0 ∧ S0 % 2 = 1)) = false := decide_eq_false hp
   rw [e1]
   have HP := hid hp; have H := hid h; clear hp h e1
   have HH := hid (And.intro hB hg)
   clear hB hg
   go_wp2_with fail
   go_end0
   exact ⟨⟨_, rfl⟩, by rw [H.out]; exact HH.out.1, HH.out.2⟩

theorem icarry_key (g : Nat) (e0 e1 e2 e3 e4 : Int) (e5 : Bool) (a b : Option Addr) (n c m d S1 : Nat) (q : Int) (w : World) (hB : Rb w g e0 e1 e2 e3 e4 e5 a n c b m d S1 q)
 (B Ld : Nat) (kA : ∀ v : World, Calls Tryd.prog 73 #[.int .i64 e0] v fun e w' => e = .returned (.agg #[.int .u64 (M.hiN B : Int), .int .u64 (M.loN B : Int)]) ∧ Below v.heap.size v w') (kL : ∀ v : World, Calls Tryd.prog 68 #[.agg #[.int .i64 e0, .int .i64 e1, .int .i64 e2, .int .i64 e3, .int .i64 e4, .bool e5]] v fun e w' => e = .returned (.agg #[.int .u64 (M.hiN Ld : Int), .int .u64 (M.loN Ld : Int)]) ∧ Below v.heap.size v w')
 (hq1 : -100000 ≤ q) (hq2 : q ≤ 100001) (S : Nat) (X : Int) (hS : S = if S1 = B then Ld else S1) (hX : X = if S1 = B then q + 1 else q) :
 Calls Tryd.prog 62 #[.pointer (some ⟨g, 0, none⟩)] w fun e w' => (∃ v, e = .returned v) ∧ Rb w' g e0 e1 e2 e3 e4 e5 a n c b m d S X ∧ w.grownBy w' (some g) := by
 have HS := hid hS; have HX := hid hX; clear hS hX
 have w1 : IntKind.i64.wrap (q + 1) = q + 1 := by rw [IntKind.wrap_i64]; omega
 go_enter Tryd.func62, Tryd.ntmps62
 go_upto_region 0 with fail
 go_cut [12] (fun x wx => x = .bool (decide (S1 = B)) ∧ Below w.heap.size w wx)
 case first =>
  have A0 : Below w.heap.size w w.drew := (Below.refl _ _).drew
  have KB : ∀ v, Below w.heap.size w v → (fun v => v.cell? ⟨g, 8, none⟩ = some (.int .u64 (M.hiN S1 : Int)) ∧ v.cell? ⟨g, 9, none⟩ = some (.int .u64 (M.loN S1 : Int)) ∧ v.cell? ⟨g, 0, none⟩ = some (.int .i64 e0)) v := fun v hv => ⟨Cls.cell (hB.below hv) 8 rfl, Cls.cell (hB.below hv) 9 rfl, Cls.cell (hB.below hv) 0 rfl⟩
  by_cases heq : S1 = B
  · have E1 : Hid (decide (S1 = B) = true) := decide_eq_true heq
    subst heq
    go_region_held3 (fun v => v.cell? ⟨g, 8, none⟩ = some (.int .u64 (M.hiN S1 : Int)) ∧ v.cell? ⟨g, 9, none⟩ = some (.int .u64 (M.loN S1 : Int)) ∧ v.cell? ⟨g, 0, none⟩ = some (.int .i64 e0)) (first | with_reducible exact KB _ hb1 | with_reducible exact KB _ A0) (first | (go_at_call 73; refine (kA _).mono ?_; rintro e u1 ⟨rfl, hb0⟩; have hb1 := keepC (w1 := w) A0 hb0; clear hb0))
    all_goals go_wp2_with fail
    all_goals go_meet
    all_goals exact ⟨by rw [E1.out], hb1⟩
  · have E1 : Hid (decide (S1 = B) = false) := decide_eq_false heq
    by_cases q0 : M.hiN S1 = M.hiN B
    · have q1 : ¬ M.loN S1 = M.loN B := fun hh => heq (M.hl_eq q0 hh)
      have q2 : ((M.loN S1 : Int) == (M.loN B : Int)) = false := by simp; omega
      have q3 : ((M.hiN S1 : Int) == (M.hiN B : Int)) = true := by simp; omega
      have H0 := hid q0; have H1 := hid q1; have H2 := hid heq; clear q0 q1 heq
      go_region_held3 (fun v => v.cell? ⟨g, 8, none⟩ = some (.int .u64 (M.hiN S1 : Int)) ∧ v.cell? ⟨g, 9, none⟩ = some (.int .u64 (M.loN S1 : Int)) ∧ v.cell? ⟨g, 0, none⟩ = some (.int .i64 e0)) (first | with_reducible exact KB _ hb1 | with_reducible exact KB _ A0) (first | (go_at_call 73; refine (kA _).mono ?_; rintro e u1 ⟨rfl, hb0⟩; have hb1 := keepC (w1 := w) A0 hb0; clear hb0))
      all_goals go_wp2_with fail
      all_goals go_meet
      all_goals exact ⟨by rw [E1.out], hb1⟩
    · have q2 : ((M.hiN S1 : Int) == (M.hiN B : Int)) = false := by simp; omega
      have H0 := hid q0; have H2 := hid heq; clear q0 heq
      go_region_held3 (fun v => v.cell? ⟨g, 8, none⟩ = some (.int .u64 (M.hiN S1 : Int)) ∧ v.cell? ⟨g, 9, none⟩ = some (.int .u64 (M.loN S1 : Int)) ∧ v.cell? ⟨g, 0, none⟩ = some (.int .i64 e0)) (first | with_reducible exact KB _ hb1 | with_reducible exact KB _ A0) (first | (go_at_call 73; refine (kA _).mono ?_; rintro e u1 ⟨rfl, hb0⟩; have hb1 := keepC (w1 := w) A0 hb0; clear hb0))
      all_goals go_wp2_with fail
      all_goals go_meet
      all_goals exact ⟨by rw [E1.out], hb1⟩
 case rest =>
 obtain ⟨rfl, hbx⟩ := hcut
 replace hB := hB.below hbx
 have hg := grown_of_below hbx (some g)
 clear hbx kA
 have h1 := HS.out
 have h2 := HX.out
 by_cases heq : S1 = B
 · rw [if_pos heq] at h1 h2
   have e1 : decide (S1 = B) = true := decide_eq_true heq
   rw [e1]
   have H0 := hid heq; have H1 := hid h1; have H2 := hid h2; clear heq h1 h2 e1
   have b0 := Cls.cell hB 0 rfl
   have b1 := Cls.cell hB 1 rfl
   have b2 := Cls.cell hB 2 rfl
   have b3 := Cls.cell hB 3 rfl
   have b4 := Cls.cell hB 4 rfl
   have b5 := Cls.cell hB 5 rfl
   go_wp2_with fail
   refine (kL _).mono ?_
   rintro e v2 ⟨rfl, hb2⟩
   replace hB := hB.below hb2
   replace hg := grown_trans hg (grown_of_below hb2 (some g))
   clear hb2 b0 b1 b2 b3 b4 b5 kL
   have b8 := Cls.cell hB 8 rfl
   have b9 := Cls.cell hB 9 rfl
   have f8 := Cls.frozen hB 8
   have f9 := Cls.frozen hB 9
   go_upto_region 2 with fail
   clear b8 b9 f8 f9
   replace hB := hB.set2 Ld
   replace hg := grown_trans hg (grown2 v2 g 8 9 (.int .u64 (M.hiN Ld : Int)) (.int .u64 (M.loN Ld : Int)))
   generalize ((v2.setCell ⟨g, 8, none⟩ (.int .u64 (M.hiN Ld : Int))).setCell ⟨g, 9, none⟩ (.int .u64 (M.loN Ld : Int))) = v3 at *
   have b10 := Cls.cell hB 10 rfl
   have f10 := Cls.frozen hB 10
   have HH := hid (And.intro (Cls.set hB 10 (.int .i64 (q + 1)) _ rfl) (grown_trans hg (grown_setCell v3 g 10 (.int .i64 (q + 1)))))
   clear hB hg
   go_wp2_with fail
   go_end0
   refine ⟨⟨_, rfl⟩, ?_, HH.out.2⟩
   rw [H1.out, H2.out]
   exact HH.out.1
 · rw [if_neg heq] at h1 h2
   have e1 : decide (S1 = B) = false := decide_eq_false heq
   rw [e1]
   have H0 := hid heq; have H1 := hid h1; have H2 := hid h2; clear heq h1 h2 e1
   have HH := hid (And.intro hB hg)
   clear hB hg
   go_wp2_with fail
   go_end0
   refine ⟨⟨_, rfl⟩, ?_, HH.out.2⟩
   rw [H1.out, H2.out]
   exact HH.out.1

end Go.Proofs.YtogkkecnmlnajaaDoor
