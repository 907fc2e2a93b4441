import Derived.Test.YtdpbhbpcpnlbkaaaGG
set_option maxHeartbeats 1000000
namespace Go.Proofs.Ytdpbhbpcpnlbkaa
open Go.RowKit Go.Maps
set_option linter.unusedVariables false
set_option maxRecDepth 100000
def vf (x : Nat → Nat × Nat × (Int × Int) × Bool) : Nat → Value := fun i => if i % 5 = 0 then .int .i64 (x (i / 5)).1 else if i % 5 = 1 then .int .i64 (x (i / 5)).2.1 else if i % 5 = 2 then .int .i64 (x (i / 5)).2.2.1.1 else if i % 5 = 3 then .int .i64 (x (i / 5)).2.2.1.2 else .bool (x (i / 5)).2.2.2

theorem vf0 (x : Nat → Nat × Nat × (Int × Int) × Bool) (k : Nat) : vf x (k * 5) = .int .i64 (x k).1 := by
 simp only [vf]; rw [if_pos (show (k * 5) % 5 = 0 by omega), show (k * 5) / 5 = k by omega]

theorem vf1 (x : Nat → Nat × Nat × (Int × Int) × Bool) (k : Nat) : vf x (k * 5 + 1) = .int .i64 (x k).2.1 := by
 simp only [vf]; rw [if_neg (show ¬ (k * 5 + 1) % 5 = 0 by omega), if_pos (show (k * 5 + 1) % 5 = 1 by omega), show (k * 5 + 1) / 5 = k by omega]

theorem vf2 (x : Nat → Nat × Nat × (Int × Int) × Bool) (k : Nat) : vf x (k * 5 + 2) = .int .i64 (x k).2.2.1.1 := by
 simp only [vf]; rw [if_neg (show ¬ (k * 5 + 2) % 5 = 0 by omega), if_neg (show ¬ (k * 5 + 2) % 5 = 1 by omega), if_pos (show (k * 5 + 2) % 5 = 2 by omega), show (k * 5 + 2) / 5 = k by omega]

theorem vf3 (x : Nat → Nat × Nat × (Int × Int) × Bool) (k : Nat) : vf x (k * 5 + 3) = .int .i64 (x k).2.2.1.2 := by
 simp only [vf]; rw [if_neg (show ¬ (k * 5 + 3) % 5 = 0 by omega), if_neg (show ¬ (k * 5 + 3) % 5 = 1 by omega), if_neg (show ¬ (k * 5 + 3) % 5 = 2 by omega), if_pos (show (k * 5 + 3) % 5 = 3 by omega), show (k * 5 + 3) / 5 = k by omega]

theorem vf4 (x : Nat → Nat × Nat × (Int × Int) × Bool) (k : Nat) : vf x (k * 5 + 4) = .bool (x k).2.2.2 := by
 simp only [vf]; rw [if_neg (show ¬ (k * 5 + 4) % 5 = 0 by omega), if_neg (show ¬ (k * 5 + 4) % 5 = 1 by omega), if_neg (show ¬ (k * 5 + 4) % 5 = 2 by omega), if_neg (show ¬ (k * 5 + 4) % 5 = 3 by omega), show (k * 5 + 4) / 5 = k by omega]

theorem markIntS_any (g n c m k0 : Nat) (f : Nat → Value) (w : World) (hn : n ≤ m) (hk0 : k0 + n < 4611686018427387904) (hB : Bf w g 3 m f) :
 Calls Try.prog 18 #[.slice (some ⟨g, 0, none⟩) n c, .int .i64 (k0 : Int)] w fun e w' => e = .returned (.int .i64 ((k0 + n : Nat) : Int)) ∧ Bf w' g 3 m (fun i => if i < n then .int .i64 ((k0 + i : Nat) : Int) else f i) ∧ Tn (fun b => b = g) w w' := by
 have HB := hidQ hB
 clear hB
 go_enter Try.func18, Try.ntmps18
 go_wp2_with fail
 go_loopw [1, 5] (fun kk i wr => ∃ k : Nat, k ≤ n ∧ i = .int .i64 k ∧ kk = .int .i64 ((k0 + k : Nat) : Int) ∧ Bf wr g 3 m (fun i => if i < k then .int .i64 ((k0 + i : Nat) : Int) else f i) ∧ Tn (fun b => b = g) w wr) (fun _ i _ => n - (intOf i).toNat)
 case atStart => exact ⟨0, by omega, rfl, rfl, HB.out.congr (fun i hi => by simp), Tn.refl _ _⟩
 case round =>
  obtain ⟨k, hk, rfl, rfl, hR, ht⟩ := hrel
  have HR := hidQ hR; have HT := hidQ ht
  by_cases hlt : k < n
  · have d0 := hR.cell k (by omega)
    have df := hR.frozen k
    have f1 : IntKind.i64.wrap ((k : Int) + 1) = (k : Int) + 1 := by simp only [IntKind.wrap_i64]; omega
    obtain ⟨q, hq⟩ : ∃ q, k0 + k = q := ⟨_, rfl⟩
    have f2 : IntKind.i64.wrap ((q : Int) + 1) = (q : Int) + 1 := by simp only [IntKind.wrap_i64]; omega
    rw [hq]
    have HQ := hidQ hq
    clear hR ht hq
    go_wp2_with fail
    go_roundw
    case rel =>
     have := HQ.out
     refine ⟨k + 1, by omega, by simp, by simp; omega, (HR.out.set k _).congr ?_, HT.out.trans (Tn.set _ _ _ _ rfl)⟩
     intro i hi
     by_cases e : i = k
     · subst e; rw [upd_at, if_pos (by omega), HQ.out]
     · rw [upd_ne _ _ e]
       by_cases e2 : i < k
       · rw [if_pos e2, if_pos (by omega)]
       · rw [if_neg e2, if_neg (by omega)]
    case measure => simp [intOf]; omega
  · have hkn : k = n := by omega
    subst hkn
    clear hR ht
    go_wp2_with fail
    go_ret
    exact ⟨rfl, HR.out, HT.out⟩

theorem markIntS_nil (ao : Option Addr) (c k0 : Nat) (w : World) :
 Calls Try.prog 18 #[.slice ao 0 c, .int .i64 (k0 : Int)] w fun e w' => e = .returned (.int .i64 (k0 : Int)) ∧ w' = w := by
 go_enter Try.func18, Try.ntmps18
 go_wp2_with fail
 go_loopw [1, 5] (fun kk i wr => i = .int .i64 0 ∧ kk = .int .i64 (k0 : Int) ∧ wr = w) (fun _ _ _ => 0)
 case atStart => exact ⟨rfl, rfl, rfl⟩
 case round =>
  obtain ⟨rfl, rfl, rfl⟩ := hrel
  go_wp2_with fail
  go_ret
  exact ⟨rfl, rfl⟩

def mvf (k0 : Nat) : Nat → Value := fun i => if i % 5 = 4 then .bool (decide ((k0 + i) % 3 = 0)) else .int .i64 ((k0 + i : Nat) : Int)

theorem mvf_at (k0 j d : Nat) (hd : d < 4) : mvf k0 (j * 5 + d) = .int .i64 ((k0 + j * 5 + d : Nat) : Int) := by
 unfold mvf; rw [if_neg (by omega), Nat.add_assoc]

theorem mvf_4 (k0 j : Nat) : mvf k0 (j * 5 + 4) = .bool (decide ((k0 + j * 5 + 4) % 3 = 0)) := by
 unfold mvf; rw [if_pos (by omega), Nat.add_assoc]

theorem view_mark {wr : World} {g m k k0 q q1 q2 q3 q4 : Nat} {f : Nat → Value} {bl : Bool} (h : Bf wr g 38 m (fun i => if i < k * 5 then mvf k0 i else f i)) (hq : k0 + k * 5 = q) (h1 : q + 1 = q1) (h2 : q1 + 1 = q2) (h3 : q2 + 1 = q3) (h4 : q3 + 1 = q4) (hb : bl = decide (q4 % 3 = 0)) :
 Bf (((((wr.setCell ⟨g, k * 5, none⟩ (.int .i64 (q : Int))).setCell ⟨g, k * 5 + 1, none⟩ (.int .i64 (q1 : Int))).setCell ⟨g, k * 5 + 2, none⟩ (.int .i64 (q2 : Int))).setCell ⟨g, k * 5 + 2 + 1, none⟩ (.int .i64 (q3 : Int))).setCell ⟨g, k * 5 + 4, none⟩ (.bool bl)) g 38 m (fun i => if i < (k + 1) * 5 then mvf k0 i else f i) := by
 refine (((((h.set (k * 5) _).set (k * 5 + 1) _).set (k * 5 + 2) _).set (k * 5 + 2 + 1) _).set (k * 5 + 4) _).congr ?_
 subst hq; subst h1; subst h2; subst h3; subst h4; subst hb
 intro i hi
 by_cases e4 : i = k * 5 + 4
 · rw [e4, upd_at, if_pos (by omega), mvf_4]
 · rw [upd_ne _ _ e4]
   by_cases e3 : i = k * 5 + 2 + 1
   · rw [e3, upd_at, if_pos (by omega), show k * 5 + 2 + 1 = k * 5 + 3 from rfl, mvf_at k0 k 3 (by omega)]
   · rw [upd_ne _ _ e3]
     by_cases e2 : i = k * 5 + 2
     · rw [e2, upd_at, if_pos (by omega), mvf_at k0 k 2 (by omega)]
     · rw [upd_ne _ _ e2]
       by_cases e1 : i = k * 5 + 1
       · rw [e1, upd_at, if_pos (by omega), mvf_at k0 k 1 (by omega)]
       · rw [upd_ne _ _ e1]
         by_cases e0 : i = k * 5
         · rw [e0, upd_at, if_pos (by omega)]
           have := mvf_at k0 k 0 (by omega)
           rw [Nat.add_zero] at this; rw [this]; simp
         · rw [upd_ne _ _ e0]
           by_cases el : i < k * 5
           · rw [if_pos el, if_pos (by omega)]
           · rw [if_neg el, if_neg (by omega)]

theorem markViewS_any (g n c m k0 : Nat) (f : Nat → Value) (w : World) (hn : n * 5 ≤ m) (hk0 : k0 + n * 5 < 4611686018427387904) (hB : Bf w g 38 m f) :
 Calls Try.prog 47 #[.slice (some ⟨g, 0, none⟩) n c, .int .i64 (k0 : Int)] w fun e w' => e = .returned (.int .i64 ((k0 + n * 5 : Nat) : Int)) ∧ Bf w' g 38 m (fun i => if i < n * 5 then mvf k0 i else f i) ∧ Tn (fun b => b = g) w w' := by
 have HB := hidQ hB
 clear hB
 go_enter Try.func47, Try.ntmps47
 go_wp2_with fail
 go_loopw [1, 5] (fun kk i wr => ∃ k : Nat, k ≤ n ∧ i = .int .i64 k ∧ kk = .int .i64 ((k0 + k * 5 : Nat) : Int) ∧ Bf wr g 38 m (fun i => if i < k * 5 then mvf k0 i else f i) ∧ Tn (fun b => b = g) w wr) (fun _ i _ => n - (intOf i).toNat)
 case atStart => exact ⟨0, by omega, rfl, by simp, HB.out.congr (fun i hi => by simp), Tn.refl _ _⟩
 case round =>
  obtain ⟨k, hk, rfl, rfl, hR, ht⟩ := hrel
  have HR := hidQ hR; have HT := hidQ ht
  by_cases hlt : k < n
  · have d0 := hR.cell (k * 5) (by omega)
    have d1 := hR.cell (k * 5 + 1) (by omega)
    have d2 := hR.cell (k * 5 + 2) (by omega)
    have d3 := hR.cell (k * 5 + 3) (by omega)
    have d4 := hR.cell (k * 5 + 4) (by omega)
    have df := hR.frozen
    have f1 : IntKind.i64.wrap ((k : Int) + 1) = (k : Int) + 1 := by simp only [IntKind.wrap_i64]; omega
    obtain ⟨q, hq⟩ : ∃ q, k0 + k * 5 = q := ⟨_, rfl⟩
    obtain ⟨q1, hq1⟩ : ∃ q1, q + 1 = q1 := ⟨_, rfl⟩
    obtain ⟨q2, hq2⟩ : ∃ q2, q1 + 1 = q2 := ⟨_, rfl⟩
    obtain ⟨q3, hq3⟩ : ∃ q3, q2 + 1 = q3 := ⟨_, rfl⟩
    obtain ⟨q4, hq4⟩ : ∃ q4, q3 + 1 = q4 := ⟨_, rfl⟩
    have e1 : IntKind.i64.wrap ((q : Int) + 1) = (q1 : Int) := by simp only [IntKind.wrap_i64]; omega
    have e2 : IntKind.i64.wrap ((q1 : Int) + 1) = (q2 : Int) := by simp only [IntKind.wrap_i64]; omega
    have e3 : IntKind.i64.wrap ((q2 : Int) + 1) = (q3 : Int) := by simp only [IntKind.wrap_i64]; omega
    have e4 : IntKind.i64.wrap ((q3 : Int) + 1) = (q4 : Int) := by simp only [IntKind.wrap_i64]; omega
    have e5 : IntKind.i64.wrap ((q4 : Int) + 1) = (q4 : Int) + 1 := by simp only [IntKind.wrap_i64]; omega
    obtain ⟨rm, hrm⟩ : ∃ rm, q4 % 3 = rm := ⟨_, rfl⟩
    have e6 : (q4 : Int) % 3 = (rm : Int) := by rw [← hrm]; simp
    rw [hq]
    have HQ := hidQ (And.intro hq (And.intro hq1 (And.intro hq2 (And.intro hq3 (And.intro hq4 hrm)))))
    clear hR ht hq hq1 hq2 hq3 hq4 hrm
    by_cases hr0 : rm = 0
    · subst hr0
      go_wp2_with fail
      obtain ⟨a0, a1, a2, a3, a4, a5⟩ := HQ.out
      exact ⟨⟨k + 1, by omega, by simp, by simp; omega, view_mark HR.out a0 a1 a2 a3 a4 (by rw [a5]; rfl), (((((HT.out.trans (Tn.set _ _ _ _ rfl)).trans (Tn.set _ _ _ _ rfl)).trans (Tn.set _ _ _ _ rfl)).trans (Tn.set _ _ _ _ rfl)).trans (Tn.set _ _ _ _ rfl))⟩, by simp [intOf]; omega⟩
    · have hr0' : ¬ (rm : Int) = 0 := by omega
      have hr1 : ((rm : Int) == 0) = false := by simp only [beq_eq_false_iff_ne]; omega
      go_wp2_with fail
      obtain ⟨a0, a1, a2, a3, a4, a5⟩ := HQ.out
      exact ⟨⟨k + 1, by omega, by simp, by simp; omega, view_mark HR.out a0 a1 a2 a3 a4 (by rw [decide_eq_false (by omega)]), (((((HT.out.trans (Tn.set _ _ _ _ rfl)).trans (Tn.set _ _ _ _ rfl)).trans (Tn.set _ _ _ _ rfl)).trans (Tn.set _ _ _ _ rfl)).trans (Tn.set _ _ _ _ rfl))⟩, by simp [intOf]; omega⟩
  · have hkn : k = n := by omega
    subst hkn
    clear hR ht
    go_wp2_with fail
    go_ret
    exact ⟨rfl, HR.out, HT.out⟩

theorem markViewS_nil (ao : Option Addr) (c k0 : Nat) (w : World) :
 Calls Try.prog 47 #[.slice ao 0 c, .int .i64 (k0 : Int)] w fun e w' => e = .returned (.int .i64 (k0 : Int)) ∧ w' = w := by
 go_enter Try.func47, Try.ntmps47
 go_wp2_with fail
 go_loopw [1, 5] (fun kk i wr => i = .int .i64 0 ∧ kk = .int .i64 (k0 : Int) ∧ wr = w) (fun _ _ _ => 0)
 case atStart => exact ⟨rfl, rfl, rfl⟩
 case round =>
  obtain ⟨rfl, rfl, rfl⟩ := hrel
  go_wp2_with fail
  go_ret
  exact ⟨rfl, rfl⟩

def sumL (len : Nat → Nat) : Nat → Nat
 | 0 => 0
 | t + 1 => sumL len t + len t

theorem sumL_mono (len : Nat → Nat) {a b : Nat} (h : a ≤ b) : sumL len a ≤ sumL len b := by
 induction b with
 | zero => have : a = 0 := by omega
           subst this; exact Nat.le_refl _
 | succ b ih =>
   by_cases e : a = b + 1
   · subst e; exact Nat.le_refl _
   · have := ih (by omega)
     simp only [sumL]; omega

theorem sumL_le (len : Nat → Nat) (n M : Nat) (h : ∀ t, t < n → len t ≤ M) : sumL len n ≤ n * M := by
 induction n with
 | zero => simp [sumL]
 | succ n ih =>
   have := ih (fun t ht => h t (by omega))
   have := h n (by omega)
   simp only [sumL]; rw [Nat.add_mul]; omega

theorem markIntSS_any (ao : Option Addr) (n c k0 : Nat) (len cc ob : Nat → Nat) (f : Nat → Nat → Value) (w : World) (hn : n ≤ 1048576) (hk0 : k0 + sumL len n < 4611686018427387904) (hr : Sl w ao n (fun t => .slice (some ⟨ob t, 0, none⟩) (len t) (cc t))) (hno : ∀ b off, ao = some ⟨b, off, none⟩ → ∀ t, t < n → b ≠ ob t) (hB : ∀ t, t < n → Bf w (ob t) 3 (len t) (f t)) (hi : ∀ t t', t < n → t' < n → ob t = ob t' → t = t') :
 Calls Try.prog 46 #[.slice ao n c, .int .i64 (k0 : Int)] w fun e w' => e = .returned (.int .i64 ((k0 + sumL len n : Nat) : Int)) ∧ (∀ t, t < n → Bf w' (ob t) 3 (len t) (fun i => .int .i64 ((k0 + sumL len t + i : Nat) : Int))) ∧ Tn (fun g => ∃ t, t < n ∧ g = ob t) w w' := by
 have HR := hidQ hr; have HNO := hidQ hno; have HB := hidQ hB; have HI := hidQ hi
 clear hr hno hB hi
 go_enter Try.func46, Try.ntmps46
 go_wp2_with fail
 go_loopw [1, 5] (fun kk i wr => ∃ k : Nat, k ≤ n ∧ i = .int .i64 k ∧ kk = .int .i64 ((k0 + sumL len k : Nat) : Int) ∧ (∀ t, t < n → Bf wr (ob t) 3 (len t) (fun i => if t < k then .int .i64 ((k0 + sumL len t + i : Nat) : Int) else f t i)) ∧ Tn (fun g => ∃ t, t < n ∧ g = ob t) w wr) (fun _ i _ => n - (intOf i).toNat)
 case atStart => exact ⟨0, by omega, rfl, by simp [sumL], fun t ht => (HB.out t ht).congr (fun i hi => by simp), Tn.refl _ _⟩
 case round =>
  obtain ⟨k, hk, rfl, rfl, hR, ht⟩ := hrel
  have HRR := hidQ hR; have HT := hidQ ht
  by_cases hlt : k < n
  · obtain ⟨b, off, rfl, hl, hc⟩ := HR.out (by omega)
    have c0 := (ht.cell (off + k) hl (fun ⟨t, h1, h2⟩ => HNO.out b off rfl t h1 h2)).trans (hc k hlt)
    have f1 : IntKind.i64.wrap ((k : Int) + 1) = (k : Int) + 1 := by simp only [IntKind.wrap_i64]; omega
    have hs := sumL_mono len (show k + 1 ≤ n by omega)
    have kM := hidQ (markIntS_any (ob k) (len k) (cc k) (len k) (k0 + sumL len k) _ wr (Nat.le_refl _) (by simp only [sumL] at hs; omega) (hR k hlt))
    obtain ⟨q, hq⟩ : ∃ q, k0 + sumL len k = q := ⟨_, rfl⟩
    rw [hq] at kM ⊢
    have HQ := hidQ hq
    clear hR ht hc hs hq
    go_wp2_with fail
    refine kM.out.mono ?_
    rintro e v ⟨rfl, hv, tv⟩
    have HV := hidQ hv; have TV := hidQ tv
    clear hv tv
    go_wp2_with fail
    refine ⟨⟨k + 1, by omega, by simp, ?_, fun t ht => ?_, HT.out.trans (TV.out.mono (fun g _ e => ⟨k, hlt, e⟩))⟩, by simp [intOf]; omega⟩
    · have := HQ.out; simp only [sumL]; rw [show (q : Int) + (len k : Int) = ((k0 + (sumL len k + len k) : Nat) : Int) by omega]
    · by_cases e : t = k
      · subst e
        exact HV.out.congr (fun i hi => by rw [if_pos hi, if_pos (by omega), HQ.out])
      · refine ((HRR.out t ht).tn TV.out (fun h => e (HI.out t k ht hlt h))).congr (fun i hi => ?_)
        by_cases e2 : t < k
        · rw [if_pos e2, if_pos (by omega)]
        · rw [if_neg e2, if_neg (by omega)]
  · have hkn : k = n := by omega
    subst hkn
    clear hR ht
    go_wp2_with fail
    go_ret
    exact ⟨rfl, fun t ht => (HRR.out t ht).congr (fun i hi => by rw [if_pos ht]), HT.out⟩

end Go.Proofs.Ytdpbhbpcpnlbkaa
