import Derived.Test.YtehplfmnipadmaeDoorStpA
import Derived.Test.YtehplfmnipadmaeDoorBnZ
namespace Go.Proofs.YtehplfmnipadmaeDoor

open Go.RowKit

set_option linter.unusedVariables false
set_option maxRecDepth 100000

theorem cmp_lt {a b : Nat} (h : a < b) : M.cmpN a b = -1 := by unfold M.cmpN; rw [if_pos h]

theorem ord_pos {F : M.Fm} (h : F.Ok) (s t : M.Pt) (hs : s.c = 1 ∨ s.c = 4 ∨ s.c = 2 ∨ s.c = 3) (ht : t.c = 1 ∨ t.c = 4 ∨ t.c = 2 ∨ t.c = 3) (ns : s.n = false) (nt : t.n = false) (hr : F.rank s < F.rank t) : F.orderP s t = -1 := by
  unfold M.Fm.orderP
  rw [if_neg (by omega), if_neg (by simp [ns]), if_neg (by simp [nt])]
  exact cmp_lt hr

theorem ord_neg {F : M.Fm} (h : F.Ok) (s t : M.Pt) (hs : s.c = 4 ∨ s.c = 2 ∨ s.c = 3) (ht : t.c = 1 ∨ t.c = 4 ∨ t.c = 2 ∨ t.c = 3) (ns : s.n = true) (nt : t.n = true) (hr : F.rank t < F.rank s) : F.orderP s t = -1 := by
  unfold M.Fm.orderP
  rw [if_neg (by omega), if_pos ⟨ns, by omega⟩]
  by_cases h1 : t.c = 1
  · rw [if_neg (by simp [h1])]
  · rw [if_pos ⟨nt, h1⟩]; exact cmp_lt hr

structure StepFacts (F : M.Fm) (X : Nat) : Prop where
  b1 : stB (F.upk X) true = true
  b2 : stB (F.upk X) false = true
  u : stN F (F.upk X) true < 2 ^ 128
  d : stN F (F.upk X) false < 2 ^ 128
  o1 : F.orderS X (stN F (F.upk X) true) = -1
  o2 : F.orderS (stN F (F.upk X) false) X = -1
  ud : stN F (F.upk (stN F (F.upk X) true)) false = X
  udB : stB (F.upk (stN F (F.upk X) true)) false = true
  du : stN F (F.upk (stN F (F.upk X) false)) true = X
  duB : stB (F.upk (stN F (F.upk X) false)) true = true
  far : F.upk (if (F.upk X).n = true then stN F (F.upk X) false else stN F (F.upk X) true) = F.pat (F.upk X).n (F.rank (F.upk X) + 1)

theorem step_facts {F : M.Fm} (h : F.Ok) (X : Nat) (hc : (F.upk X).c = 2 ∨ (F.upk X).c = 3) : StepFacts F X := by
  have hp : F.Proper (F.upk X) := by
    rcases h.upk_proper X with e | e
    · rw [e] at hc; simp at hc
    · exact e
  obtain ⟨hpat, r1, r2⟩ := h.pat_rank _ hp hc
  have hw := h.wat_upk X hc
  have ho := fun Y : Nat => h.order X Y
  have ho2 := fun Y : Nat => h.order Y X
  generalize hT : F.upk X = T at *
  obtain ⟨f1, f2⟩ := h.upk_wat T.n (F.rank T + 1) (by omega)
  obtain ⟨g1, g2⟩ := h.upk_wat T.n (F.rank T - 1) (by omega)
  obtain ⟨cn, c1, c4, cc⟩ := h.pat_class T.n (F.rank T + 1) (by omega)
  obtain ⟨dn, d1, d4, dd⟩ := h.pat_class T.n (F.rank T - 1) (by omega)
  have rk1 := h.rank_pat T.n (F.rank T + 1) (by omega)
  have rk2 := h.rank_pat T.n (F.rank T - 1) (by omega)
  have hlt : F.rank T - 1 < F.rank T := by omega
  cases hn : T.n with
  | false =>
    rw [hn] at hpat hw f1 f2 g1 g2 cn c1 c4 cc dn d1 d4 dd rk1 rk2
    obtain ⟨s1, s2⟩ := stp_out (F := F) (t := T) (up := true) (by omega) (by omega) (by omega) (by omega) (by rw [hn]; rfl)
    obtain ⟨s3, s4⟩ := stp_in (F := F) (t := T) (up := false) (by omega) (by omega) (by omega) (by rw [hn]; rfl)
    rw [hn] at s1 s3
    obtain ⟨t1, t2⟩ := stp_in (F := F) (t := F.pat false (F.rank T + 1)) (up := false) (by omega) (by omega) (by omega) (by rw [cn]; rfl)
    rw [cn, rk1, Nat.add_sub_cancel, hw] at t1
    have t34 : stN F (F.pat false (F.rank T - 1)) true = X ∧ stB (F.pat false (F.rank T - 1)) true = true := by
      by_cases e : F.rank T - 1 = 0
      · obtain ⟨z1, z2⟩ := stp_zero (F := F) (t := F.pat false (F.rank T - 1)) (up := true) (d1.2 e)
        refine ⟨?_, z2⟩
        rw [z1, ← hw]
        show F.wat false 1 = _
        congr 1; omega
      · obtain ⟨z1, z2⟩ := stp_out (F := F) (t := F.pat false (F.rank T - 1)) (up := true) (by omega) (by omega) (by omega) (by omega) (by rw [dn]; rfl)
        refine ⟨?_, z2⟩
        rw [z1, dn, rk2, show F.rank T - 1 + 1 = F.rank T by omega, hw]
    constructor
    · rw [hT]; exact s2
    · rw [hT]; exact s4
    · rw [hT, s1]; exact f2
    · rw [hT, s3]; exact g2
    · rw [← ho, hT, s1, f1]; exact ord_pos h _ _ (by omega) cc hn cn (by rw [rk1]; omega)
    · rw [← ho2, hT, s3, g1]; exact ord_pos h _ _ dd (by omega) dn hn (by rw [rk2]; omega)
    · rw [hT, s1, f1]; exact t1
    · rw [hT, s1, f1]; exact t2
    · rw [hT, s3, g1]; exact t34.1
    · rw [hT, s3, g1]; exact t34.2
    · rw [hT, hn, s1]; simpa using f1
  | true =>
    rw [hn] at hpat hw f1 f2 g1 g2 cn c1 c4 cc dn d1 d4 dd rk1 rk2
    obtain ⟨s1, s2⟩ := stp_out (F := F) (t := T) (up := false) (by omega) (by omega) (by omega) (by omega) (by rw [hn]; rfl)
    obtain ⟨s3, s4⟩ := stp_in (F := F) (t := T) (up := true) (by omega) (by omega) (by omega) (by rw [hn]; rfl)
    rw [hn] at s1 s3
    obtain ⟨t1, t2⟩ := stp_in (F := F) (t := F.pat true (F.rank T + 1)) (up := true) (by omega) (by omega) (by omega) (by rw [cn]; rfl)
    rw [cn, rk1, Nat.add_sub_cancel, hw] at t1
    have t34 : stN F (F.pat true (F.rank T - 1)) false = X ∧ stB (F.pat true (F.rank T - 1)) false = true := by
      by_cases e : F.rank T - 1 = 0
      · obtain ⟨z1, z2⟩ := stp_zero (F := F) (t := F.pat true (F.rank T - 1)) (up := false) (d1.2 e)
        refine ⟨?_, z2⟩
        rw [z1, ← hw]
        show F.wat true 1 = _
        congr 1; omega
      · obtain ⟨z1, z2⟩ := stp_out (F := F) (t := F.pat true (F.rank T - 1)) (up := false) (by omega) (by omega) (by omega) (by omega) (by rw [dn]; rfl)
        refine ⟨?_, z2⟩
        rw [z1, dn, rk2, show F.rank T - 1 + 1 = F.rank T by omega, hw]
    constructor
    · rw [hT]; exact s4
    · rw [hT]; exact s2
    · rw [hT, s3]; exact g2
    · rw [hT, s1]; exact f2
    · rw [← ho, hT, s3, g1]; exact ord_neg h _ _ (by omega) dd hn dn (by rw [rk2]; omega)
    · rw [← ho2, hT, s1, f1]; exact ord_neg h _ _ (by omega) (by omega) cn hn (by rw [rk1]; omega)
    · rw [hT, s3, g1]; exact t34.1
    · rw [hT, s3, g1]; exact t34.2
    · rw [hT, s1, f1]; exact t1
    · rw [hT, s1, f1]; exact t2
    · rw [hT, hn, s1]; simpa using f1

theorem span_next {F : M.Fm} (h : F.Ok) (t : M.Pt) (hp : F.Proper t) (hc : t.c = 2 ∨ t.c = 3) (hc' : (F.grow t).c = 2 ∨ (F.grow t).c = 3) :
    bB t * bC (F.grow t) = bA F (F.grow t) * bC t ∧ (decide (t.s % 2 = 0) != decide ((F.grow t).s % 2 = 0)) = true := by
  have hl := h.leadPos
  have hh := h.half
  have hf := fin_of h hp hc
  have hq : F.qmin = 2 - (F.emax : Int) - (F.p : Int) := rfl
  by_cases ho : t.s + 1 = 2 * F.lead
  · have e : (F.grow t).s = F.lead ∧ (F.grow t).q = t.q + 1 := by
      unfold M.Fm.grow at hc' ⊢
      simp only [ho, if_true] at hc' ⊢
      by_cases h1 : t.q + 1 + F.p - 1 > F.emax
      · simp [h1] at hc'
      · simp only [h1, if_false]
        split <;> exact ⟨rfl, rfl⟩
    obtain ⟨e1, e2⟩ := e
    refine ⟨?_, ?_⟩
    · have e3 : bLow F (F.grow t) = 4 * F.lead - 1 := by
        unfold bLow; rw [e1, e2, if_pos ⟨rfl, by have := hf.q1; omega⟩]
      unfold bB bA bC
      rw [e3, e2]
      have e4 : 4 * t.s + 2 = 2 * (4 * F.lead - 1) := by omega
      rw [e4]
      generalize 4 * F.lead - 1 = m
      by_cases hq2 : 2 ≤ t.q
      · obtain ⟨k, hk⟩ : ∃ k : Nat, t.q = (k : Int) + 2 := ⟨(t.q - 2).toNat, by omega⟩
        rw [hk, show ((k : Int) + 2 - 2).toNat = k by omega, show (2 - ((k : Int) + 2 + 1)).toNat = 0 by omega, show ((k : Int) + 2 + 1 - 2).toNat = k + 1 by omega, show (2 - ((k : Int) + 2)).toNat = 0 by omega]
        rw [Nat.pow_succ, Nat.pow_zero, Nat.mul_one, Nat.mul_one, Nat.mul_comm 2 m, Nat.mul_assoc, Nat.mul_comm 2]
      · obtain ⟨k, hk⟩ : ∃ k : Nat, t.q = 1 - (k : Int) := ⟨(1 - t.q).toNat, by omega⟩
        rw [hk, show (1 - (k : Int) - 2).toNat = 0 by omega, show (2 - (1 - (k : Int) + 1)).toNat = k by omega, show (1 - (k : Int) + 1 - 2).toNat = 0 by omega, show (2 - (1 - (k : Int))).toNat = k + 1 by omega]
        rw [Nat.pow_succ, Nat.pow_zero, Nat.mul_one, Nat.mul_one, Nat.mul_comm 2 m, Nat.mul_assoc, Nat.mul_comm 2]
    · rw [e1]
      have a1 : t.s % 2 = 1 := by omega
      have a2 : F.lead % 2 = 0 := by omega
      rw [a1, a2]; rfl
  · have e : (F.grow t).s = t.s + 1 ∧ (F.grow t).q = t.q := by
      unfold M.Fm.grow at hc' ⊢
      simp only [ho, if_false] at hc' ⊢
      by_cases h1 : t.q + F.p - 1 > F.emax
      · simp [h1] at hc'
      · simp only [h1, if_false]
        split <;> exact ⟨rfl, rfl⟩
    obtain ⟨e1, e2⟩ := e
    have hno : ¬ (t.s + 1 = F.lead ∧ F.qmin < t.q) := by
      rintro ⟨a, b⟩
      unfold M.Fm.Proper at hp
      omega
    refine ⟨?_, ?_⟩
    · have e3 : bLow F (F.grow t) = 4 * t.s + 2 := by
        unfold bLow; rw [e1, e2, if_neg hno]; omega
      unfold bB bA bC
      rw [e3, e2]
    · rw [e1]
      rcases Nat.mod_two_eq_zero_or_one t.s with a | a
      · have b : (t.s + 1) % 2 = 1 := by omega
        rw [a, b]; rfl
      · have b : (t.s + 1) % 2 = 0 := by omega
        rw [a, b]; rfl

end Go.Proofs.YtehplfmnipadmaeDoor

