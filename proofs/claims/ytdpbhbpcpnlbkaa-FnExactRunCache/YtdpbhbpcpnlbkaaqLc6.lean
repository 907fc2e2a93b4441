import Derived.Test.YtdpbhbpcpnlbkaaqLc4
namespace Go.Proofs.Ytdpbhbpcpnlbkaa
open Go.RowKit Go.Maps
set_option linter.unusedVariables false
set_option maxRecDepth 100000
def sumL (len : Nat → Nat) : Nat → Nat
 | 0 => 0
 | t + 1 => sumL len t + len t

theorem sumL_mono (len : Nat → Nat) {a b : Nat} (h : a ≤ b) : sumL len a ≤ sumL len b := by
 induction b with
 | zero => have : a = 0 := by omega
           subst this; exact Nat.le_refl _
 | succ b ih =>
   by_cases e : a = b + 1
   · subst e; exact Nat.le_refl _
   · have := ih (by omega)
     simp only [sumL]; omega

theorem sumL_le (len : Nat → Nat) (n M : Nat) (h : ∀ t, t < n → len t ≤ M) : sumL len n ≤ n * M := by
 induction n with
 | zero => simp [sumL]
 | succ n ih =>
   have := ih (fun t ht => h t (by omega))
   have := h n (by omega)
   simp only [sumL]; rw [Nat.add_mul]; omega

theorem markIntSS_any (ao : Option Addr) (n c k0 : Nat) (len cc ob : Nat → Nat) (f : Nat → Nat → Value) (w : World) (hn : n ≤ 1048576) (hk0 : k0 + sumL len n < 4611686018427387904) (hr : Sl w ao n (fun t => .slice (some ⟨ob t, 0, none⟩) (len t) (cc t))) (hno : ∀ b off, ao = some ⟨b, off, none⟩ → ∀ t, t < n → b ≠ ob t) (hB : ∀ t, t < n → Bf w (ob t) 3 (len t) (f t)) (hi : ∀ t t', t < n → t' < n → ob t = ob t' → t = t') :
 Calls Try.prog 46 #[.slice ao n c, .int .i64 (k0 : Int)] w fun e w' => e = .returned (.int .i64 ((k0 + sumL len n : Nat) : Int)) ∧ (∀ t, t < n → Bf w' (ob t) 3 (len t) (fun i => .int .i64 ((k0 + sumL len t + i : Nat) : Int))) ∧ Tn (fun g => ∃ t, t < n ∧ g = ob t) w w' := by
 have HR := hidQ hr; have HNO := hidQ hno; have HB := hidQ hB; have HI := hidQ hi
 clear hr hno hB hi
 go_enter Try.func46, Try.ntmps46
 go_wp2_with fail
 go_loopw [1, 5] (fun kk i wr => ∃ k : Nat, k ≤ n ∧ i = .int .i64 k ∧ kk = .int .i64 ((k0 + sumL len k : Nat) : Int) ∧ (∀ t, t < n → Bf wr (ob t) 3 (len t) (fun i => if t < k then .int .i64 ((k0 + sumL len t + i : Nat) : Int) else f t i)) ∧ Tn (fun g => ∃ t, t < n ∧ g = ob t) w wr) (fun _ i _ => n - (intOf i).toNat)
 case atStart => exact ⟨0, by omega, rfl, by simp [sumL], fun t ht => (HB.out t ht).congr (fun i hi => by simp), Tn.refl _ _⟩
 case round =>
  obtain ⟨k, hk, rfl, rfl, hR, ht⟩ := hrel
  have HRR := hidQ hR; have HT := hidQ ht
  by_cases hlt : k < n
  · obtain ⟨b, off, rfl, hl, hc⟩ := HR.out (by omega)
    have c0 := (ht.cell (off + k) hl (fun ⟨t, h1, h2⟩ => HNO.out b off rfl t h1 h2)).trans (hc k hlt)
    have f1 : IntKind.i64.wrap ((k : Int) + 1) = (k : Int) + 1 := by simp only [IntKind.wrap_i64]; omega
    have hs := sumL_mono len (show k + 1 ≤ n by omega)
    have kM := hidQ (markIntS_any (ob k) (len k) (cc k) (len k) (k0 + sumL len k) _ wr (Nat.le_refl _) (by simp only [sumL] at hs; omega) (hR k hlt))
    obtain ⟨q, hq⟩ : ∃ q, k0 + sumL len k = q := ⟨_, rfl⟩
    rw [hq] at kM ⊢
    have HQ := hidQ hq
    clear hR ht hc hs hq
    go_wp2_with fail
    refine kM.out.mono ?_
    rintro e v ⟨rfl, hv, tv⟩
    have HV := hidQ hv; have TV := hidQ tv
    clear hv tv
    go_wp2_with fail
    refine ⟨⟨k + 1, by omega, by simp, ?_, fun t ht => ?_, HT.out.trans (TV.out.mono (fun g _ e => ⟨k, hlt, e⟩))⟩, by simp [intOf]; omega⟩
    · have := HQ.out; simp only [sumL]; rw [show (q : Int) + (len k : Int) = ((k0 + (sumL len k + len k) : Nat) : Int) by omega]
    · by_cases e : t = k
      · subst e
        exact HV.out.congr (fun i hi => by rw [if_pos hi, if_pos (by omega), HQ.out])
      · refine ((HRR.out t ht).tn TV.out (fun h => e (HI.out t k ht hlt h))).congr (fun i hi => ?_)
        by_cases e2 : t < k
        · rw [if_pos e2, if_pos (by omega)]
        · rw [if_neg e2, if_neg (by omega)]
  · have hkn : k = n := by omega
    subst hkn
    clear hR ht
    go_wp2_with fail
    go_ret
    exact ⟨rfl, fun t ht => (HRR.out t ht).congr (fun i hi => by rw [if_pos ht]), HT.out⟩

theorem markKeySS_any (ao : Option Addr) (n c k0 : Nat) (len cc kb : Nat → Nat) (w : World) (hn : n ≤ 1048576) (hk0 : k0 + sumL len n * 2 < 4611686018427387904) (hr : Sl w ao n (fun t => .slice (some ⟨kb t, 0, none⟩) (len t) (cc t))) (hno : ∀ b off, ao = some ⟨b, off, none⟩ → ∀ t, t < n → b ≠ kb t) (hB : ∀ t, t < n → ∃ f, Bf w (kb t) 36 (len t * 2) f) (hi : ∀ t t', t < n → t' < n → kb t = kb t' → t = t') :
 Calls Try.prog 17 #[.slice ao n c, .int .i64 (k0 : Int)] w fun e w' => e = .returned (.int .i64 ((k0 + sumL len n * 2 : Nat) : Int)) ∧ Tn (fun g => ∃ t, t < n ∧ g = kb t) w w' := by
 have HR := hidQ hr; have HNO := hidQ hno; have HB := hidQ hB; have HI := hidQ hi
 clear hr hno hB hi
 go_enter Try.func17, Try.ntmps17
 go_wp2_with fail
 go_loopw [1, 5] (fun kk i wr => ∃ k : Nat, k ≤ n ∧ i = .int .i64 k ∧ kk = .int .i64 ((k0 + sumL len k * 2 : Nat) : Int) ∧ (∀ t, t < n → ∃ f, Bf wr (kb t) 36 (len t * 2) f) ∧ Tn (fun g => ∃ t, t < n ∧ g = kb t) w wr) (fun _ i _ => n - (intOf i).toNat)
 case atStart => exact ⟨0, by omega, rfl, by simp [sumL], HB.out, Tn.refl _ _⟩
 case round =>
  obtain ⟨k, hk, rfl, rfl, hR, ht⟩ := hrel
  have HRR := hidQ hR; have HT := hidQ ht
  by_cases hlt : k < n
  · obtain ⟨b, off, rfl, hl, hc⟩ := HR.out (by omega)
    have c0 := (ht.cell (off + k) hl (fun ⟨t, h1, h2⟩ => HNO.out b off rfl t h1 h2)).trans (hc k hlt)
    have f1 : IntKind.i64.wrap ((k : Int) + 1) = (k : Int) + 1 := by simp only [IntKind.wrap_i64]; omega
    have hs := sumL_mono len (show k + 1 ≤ n by omega)
    obtain ⟨f, hf⟩ := hR k hlt
    have kM := hidQ (markKeyS_any (kb k) (len k) (cc k) (len k * 2) (k0 + sumL len k * 2) _ wr (Nat.le_refl _) (by simp only [sumL] at hs; omega) hf)
    obtain ⟨q, hq⟩ : ∃ q, k0 + sumL len k * 2 = q := ⟨_, rfl⟩
    rw [hq] at kM ⊢
    have HQ := hidQ hq
    clear hR ht hc hs hf hq
    go_wp2_with fail
    refine kM.out.mono ?_
    rintro e v ⟨rfl, tv, hv⟩
    have HV := hidQ hv; have TV := hidQ tv
    clear hv tv
    go_wp2_with fail
    refine ⟨⟨k + 1, by omega, by simp, ?_, fun t ht => ?_, HT.out.trans (TV.out.mono (fun g _ e => ⟨k, hlt, e⟩))⟩, by simp [intOf]; omega⟩
    · have := HQ.out; simp only [sumL]; congr 1; omega
    · by_cases e : t = k
      · subst e; exact HV.out
      · obtain ⟨f, hf⟩ := HRR.out t ht
        exact ⟨f, hf.tn TV.out (fun h => e (HI.out t k ht hlt h))⟩
  · have hkn : k = n := by omega
    subst hkn
    clear hR ht
    go_wp2_with fail
    go_ret
    exact ⟨rfl, HT.out⟩

theorem heldIntSS_any (ao : Option Addr) (n c k0 : Nat) (len cc ob : Nat → Nat) (w : World) (hn : n ≤ 1048576) (hk0 : k0 + sumL len n < 4611686018427387904) (hr : Sl w ao n (fun t => .slice (some ⟨ob t, 0, none⟩) (len t) (cc t))) (hB : ∀ t, t < n → Sl w (some ⟨ob t, 0, none⟩) (len t) (fun i => .int .i64 ((k0 + sumL len t + i : Nat) : Int))) :
 Calls Try.prog 49 #[.slice ao n c, .int .i64 (k0 : Int)] w fun e w' => e = .returned (.int .i64 ((k0 + sumL len n : Nat) : Int)) ∧ w' = w := by
 have HR := hidQ hr; have HB := hidQ hB
 clear hr hB
 go_enter Try.func49, Try.ntmps49
 go_wp2_with fail
 go_loopw [1, 5] (fun kk i wr => ∃ k : Nat, k ≤ n ∧ i = .int .i64 k ∧ kk = .int .i64 ((k0 + sumL len k : Nat) : Int) ∧ wr = w) (fun _ i _ => n - (intOf i).toNat)
 case atStart => exact ⟨0, by omega, rfl, by simp [sumL], rfl⟩
 case round =>
  obtain ⟨k, hk, rfl, rfl, rfl⟩ := hrel
  by_cases hlt : k < n
  · obtain ⟨b, off, rfl, hl, hc⟩ := HR.out (by omega)
    have c0 := hc k hlt
    have f1 : IntKind.i64.wrap ((k : Int) + 1) = (k : Int) + 1 := by simp only [IntKind.wrap_i64]; omega
    have hs := sumL_mono len (show k + 1 ≤ n by omega)
    have kM := hidQ (heldIntS_any (some ⟨ob k, 0, none⟩) (len k) (cc k) (k0 + sumL len k) wr (by simp only [sumL] at hs; omega) (HB.out k hlt))
    have h3 : ¬ (((k0 + sumL len k + len k : Nat) : Int) < 0) := by omega
    have h3' : decide (((k0 + sumL len k + len k : Nat) : Int) < 0) = false := decide_eq_false h3
    obtain ⟨q2, hq2⟩ : ∃ q2, k0 + sumL len k + len k = q2 := ⟨_, rfl⟩
    obtain ⟨q, hq⟩ : ∃ q, k0 + sumL len k = q := ⟨_, rfl⟩
    rw [hq2] at kM h3 h3'
    rw [hq] at kM ⊢
    have HQ := hidQ (And.intro hq hq2)
    clear hc hs hq hq2
    go_wp2_with fail
    refine kM.out.mono ?_
    rintro e v ⟨rfl, rfl⟩
    go_wp2_with fail
    refine ⟨⟨k + 1, by omega, by simp, ?_, by first | rfl | trivial⟩, by simp [intOf]; omega⟩
    obtain ⟨a, b⟩ := HQ.out; simp only [sumL]; congr 1; omega
  · have hkn : k = n := by omega
    subst hkn
    go_wp2_with fail
    go_ret
    exact ⟨rfl, rfl⟩

end Go.Proofs.Ytdpbhbpcpnlbkaa
