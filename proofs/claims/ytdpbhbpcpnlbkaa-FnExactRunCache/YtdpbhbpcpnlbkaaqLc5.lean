import Derived.Test.YtdpbhbpcpnlbkaaqLc4
set_option maxHeartbeats 1000000
namespace Go.Proofs.Ytdpbhbpcpnlbkaa
open Go.RowKit Go.Maps
set_option linter.unusedVariables false
set_option maxRecDepth 100000
theorem mvf_at (k0 j d : Nat) (hd : d < 4) : mvf k0 (j * 5 + d) = .int .i64 ((k0 + j * 5 + d : Nat) : Int) := by
 unfold mvf; rw [if_neg (by omega), Nat.add_assoc]

theorem mvf_4 (k0 j : Nat) : mvf k0 (j * 5 + 4) = .bool (decide ((k0 + j * 5 + 4) % 3 = 0)) := by
 unfold mvf; rw [if_pos (by omega), Nat.add_assoc]

theorem view_mark {wr : World} {g m k k0 q q1 q2 q3 q4 : Nat} {f : Nat → Value} {bl : Bool} (h : Bf wr g 38 m (fun i => if i < k * 5 then mvf k0 i else f i)) (hq : k0 + k * 5 = q) (h1 : q + 1 = q1) (h2 : q1 + 1 = q2) (h3 : q2 + 1 = q3) (h4 : q3 + 1 = q4) (hb : bl = decide (q4 % 3 = 0)) :
 Bf (((((wr.setCell ⟨g, k * 5, none⟩ (.int .i64 (q : Int))).setCell ⟨g, k * 5 + 1, none⟩ (.int .i64 (q1 : Int))).setCell ⟨g, k * 5 + 2, none⟩ (.int .i64 (q2 : Int))).setCell ⟨g, k * 5 + 2 + 1, none⟩ (.int .i64 (q3 : Int))).setCell ⟨g, k * 5 + 4, none⟩ (.bool bl)) g 38 m (fun i => if i < (k + 1) * 5 then mvf k0 i else f i) := by
 refine (((((h.set (k * 5) _).set (k * 5 + 1) _).set (k * 5 + 2) _).set (k * 5 + 2 + 1) _).set (k * 5 + 4) _).congr ?_
 subst hq; subst h1; subst h2; subst h3; subst h4; subst hb
 intro i hi
 by_cases e4 : i = k * 5 + 4
 · rw [e4, upd_at, if_pos (by omega), mvf_4]
 · rw [upd_ne _ _ e4]
   by_cases e3 : i = k * 5 + 2 + 1
   · rw [e3, upd_at, if_pos (by omega), show k * 5 + 2 + 1 = k * 5 + 3 from rfl, mvf_at k0 k 3 (by omega)]
   · rw [upd_ne _ _ e3]
     by_cases e2 : i = k * 5 + 2
     · rw [e2, upd_at, if_pos (by omega), mvf_at k0 k 2 (by omega)]
     · rw [upd_ne _ _ e2]
       by_cases e1 : i = k * 5 + 1
       · rw [e1, upd_at, if_pos (by omega), mvf_at k0 k 1 (by omega)]
       · rw [upd_ne _ _ e1]
         by_cases e0 : i = k * 5
         · rw [e0, upd_at, if_pos (by omega)]
           have := mvf_at k0 k 0 (by omega)
           rw [Nat.add_zero] at this; rw [this]; simp
         · rw [upd_ne _ _ e0]
           by_cases el : i < k * 5
           · rw [if_pos el, if_pos (by omega)]
           · rw [if_neg el, if_neg (by omega)]

theorem markViewS_any (g n c m k0 : Nat) (f : Nat → Value) (w : World) (hn : n * 5 ≤ m) (hk0 : k0 + n * 5 < 4611686018427387904) (hB : Bf w g 38 m f) :
 Calls Try.prog 47 #[.slice (some ⟨g, 0, none⟩) n c, .int .i64 (k0 : Int)] w fun e w' => e = .returned (.int .i64 ((k0 + n * 5 : Nat) : Int)) ∧ Bf w' g 38 m (fun i => if i < n * 5 then mvf k0 i else f i) ∧ Tn (fun b => b = g) w w' := by
 have HB := hidQ hB
 clear hB
 go_enter Try.func47, Try.ntmps47
 go_wp2_with fail
 go_loopw [1, 5] (fun kk i wr => ∃ k : Nat, k ≤ n ∧ i = .int .i64 k ∧ kk = .int .i64 ((k0 + k * 5 : Nat) : Int) ∧ Bf wr g 38 m (fun i => if i < k * 5 then mvf k0 i else f i) ∧ Tn (fun b => b = g) w wr) (fun _ i _ => n - (intOf i).toNat)
 case atStart => exact ⟨0, by omega, rfl, by simp, HB.out.congr (fun i hi => by simp), Tn.refl _ _⟩
 case round =>
  obtain ⟨k, hk, rfl, rfl, hR, ht⟩ := hrel
  have HR := hidQ hR; have HT := hidQ ht
  by_cases hlt : k < n
  · have d0 := hR.cell (k * 5) (by omega)
    have d1 := hR.cell (k * 5 + 1) (by omega)
    have d2 := hR.cell (k * 5 + 2) (by omega)
    have d3 := hR.cell (k * 5 + 3) (by omega)
    have d4 := hR.cell (k * 5 + 4) (by omega)
    have df := hR.frozen
    have f1 : IntKind.i64.wrap ((k : Int) + 1) = (k : Int) + 1 := by simp only [IntKind.wrap_i64]; omega
    obtain ⟨q, hq⟩ : ∃ q, k0 + k * 5 = q := ⟨_, rfl⟩
    obtain ⟨q1, hq1⟩ : ∃ q1, q + 1 = q1 := ⟨_, rfl⟩
    obtain ⟨q2, hq2⟩ : ∃ q2, q1 + 1 = q2 := ⟨_, rfl⟩
    obtain ⟨q3, hq3⟩ : ∃ q3, q2 + 1 = q3 := ⟨_, rfl⟩
    obtain ⟨q4, hq4⟩ : ∃ q4, q3 + 1 = q4 := ⟨_, rfl⟩
    have e1 : IntKind.i64.wrap ((q : Int) + 1) = (q1 : Int) := by simp only [IntKind.wrap_i64]; omega
    have e2 : IntKind.i64.wrap ((q1 : Int) + 1) = (q2 : Int) := by simp only [IntKind.wrap_i64]; omega
    have e3 : IntKind.i64.wrap ((q2 : Int) + 1) = (q3 : Int) := by simp only [IntKind.wrap_i64]; omega
    have e4 : IntKind.i64.wrap ((q3 : Int) + 1) = (q4 : Int) := by simp only [IntKind.wrap_i64]; omega
    have e5 : IntKind.i64.wrap ((q4 : Int) + 1) = (q4 : Int) + 1 := by simp only [IntKind.wrap_i64]; omega
    obtain ⟨rm, hrm⟩ : ∃ rm, q4 % 3 = rm := ⟨_, rfl⟩
    have e6 : (q4 : Int) % 3 = (rm : Int) := by rw [← hrm]; simp
    rw [hq]
    have HQ := hidQ (And.intro hq (And.intro hq1 (And.intro hq2 (And.intro hq3 (And.intro hq4 hrm)))))
    clear hR ht hq hq1 hq2 hq3 hq4 hrm
    by_cases hr0 : rm = 0
    · subst hr0
      go_wp2_with fail
      obtain ⟨a0, a1, a2, a3, a4, a5⟩ := HQ.out
      exact ⟨⟨k + 1, by omega, by simp, by simp; omega, view_mark HR.out a0 a1 a2 a3 a4 (by rw [a5]; rfl), (((((HT.out.trans (Tn.set _ _ _ _ rfl)).trans (Tn.set _ _ _ _ rfl)).trans (Tn.set _ _ _ _ rfl)).trans (Tn.set _ _ _ _ rfl)).trans (Tn.set _ _ _ _ rfl))⟩, by simp [intOf]; omega⟩
    · have hr0' : ¬ (rm : Int) = 0 := by omega
      have hr1 : ((rm : Int) == 0) = false := by simp only [beq_eq_false_iff_ne]; omega
      go_wp2_with fail
      obtain ⟨a0, a1, a2, a3, a4, a5⟩ := HQ.out
      exact ⟨⟨k + 1, by omega, by simp, by simp; omega, view_mark HR.out a0 a1 a2 a3 a4 (by rw [decide_eq_false (by omega)]), (((((HT.out.trans (Tn.set _ _ _ _ rfl)).trans (Tn.set _ _ _ _ rfl)).trans (Tn.set _ _ _ _ rfl)).trans (Tn.set _ _ _ _ rfl)).trans (Tn.set _ _ _ _ rfl))⟩, by simp [intOf]; omega⟩
  · have hkn : k = n := by omega
    subst hkn
    clear hR ht
    go_wp2_with fail
    go_ret
    exact ⟨rfl, HR.out, HT.out⟩

theorem markViewS_nil (ao : Option Addr) (c k0 : Nat) (w : World) :
 Calls Try.prog 47 #[.slice ao 0 c, .int .i64 (k0 : Int)] w fun e w' => e = .returned (.int .i64 (k0 : Int)) ∧ w' = w := by
 go_enter Try.func47, Try.ntmps47
 go_wp2_with fail
 go_loopw [1, 5] (fun kk i wr => i = .int .i64 0 ∧ kk = .int .i64 (k0 : Int) ∧ wr = w) (fun _ _ _ => 0)
 case atStart => exact ⟨rfl, rfl, rfl⟩
 case round =>
  obtain ⟨rfl, rfl, rfl⟩ := hrel
  go_wp2_with fail
  go_ret
  exact ⟨rfl, rfl⟩

theorem heldViewS_any (ao : Option Addr) (n c k0 : Nat) (w : World) (hk0 : k0 + n * 5 < 4611686018427387904) (hr : Sl w ao (n * 5) (mvf k0)) :
 Calls Try.prog 50 #[.slice ao n c, .int .i64 (k0 : Int)] w fun e w' => e = .returned (.int .i64 ((k0 + n * 5 : Nat) : Int)) ∧ w' = w := by
 have HR := hidQ hr
 clear hr
 go_enter Try.func50, Try.ntmps50
 go_wp2_with fail
 go_loopw [1, 5] (fun kk i wr => ∃ k : Nat, k ≤ n ∧ i = .int .i64 k ∧ kk = .int .i64 ((k0 + k * 5 : Nat) : Int) ∧ wr = w) (fun _ i _ => n - (intOf i).toNat)
 case atStart => exact ⟨0, by omega, rfl, by simp, rfl⟩
 case round =>
  obtain ⟨k, hk, rfl, rfl, rfl⟩ := hrel
  by_cases hlt : k < n
  · obtain ⟨g, off, rfl, hl, hc⟩ := HR.out (by omega)
    have c0 := hc (k * 5) (by omega)
    have c1 := hc (k * 5 + 1) (by omega)
    have c2 := hc (k * 5 + 2) (by omega)
    have c3 := hc (k * 5 + 3) (by omega)
    have c4 := hc (k * 5 + 4) (by omega)
    rw [show mvf k0 (k * 5) = .int .i64 ((k0 + k * 5 : Nat) : Int) from by have := mvf_at k0 k 0 (by omega); rw [Nat.add_zero] at this; rw [this]; simp] at c0
    rw [mvf_at k0 k 1 (by omega), ← Nat.add_assoc] at c1
    rw [mvf_at k0 k 2 (by omega), ← Nat.add_assoc] at c2
    rw [mvf_at k0 k 3 (by omega), ← Nat.add_assoc] at c3
    rw [mvf_4, ← Nat.add_assoc] at c4
    have f1 : IntKind.i64.wrap ((k : Int) + 1) = (k : Int) + 1 := by simp only [IntKind.wrap_i64]; omega
    obtain ⟨q, hq⟩ : ∃ q, k0 + k * 5 = q := ⟨_, rfl⟩
    rw [hq] at c0 c1 c2 c3 c4 ⊢
    obtain ⟨q1, hq1⟩ : ∃ q1, q + 1 = q1 := ⟨_, rfl⟩
    obtain ⟨q2, hq2⟩ : ∃ q2, q + 2 = q2 := ⟨_, rfl⟩
    obtain ⟨q3, hq3⟩ : ∃ q3, q + 3 = q3 := ⟨_, rfl⟩
    obtain ⟨q4, hq4⟩ : ∃ q4, q + 4 = q4 := ⟨_, rfl⟩
    rw [hq1] at c1
    rw [hq2] at c2
    rw [hq3] at c3
    rw [hq4] at c4
    have c3' : wr.cell? ⟨g, off + k * 5 + 2 + 1, none⟩ = some (.int .i64 (q3 : Int)) := c3
    have e1 : IntKind.i64.wrap ((q : Int) + 1) = (q1 : Int) := by simp only [IntKind.wrap_i64]; omega
    have e2 : IntKind.i64.wrap ((q1 : Int) + 1) = (q2 : Int) := by simp only [IntKind.wrap_i64]; omega
    have e3 : IntKind.i64.wrap ((q2 : Int) + 1) = (q3 : Int) := by simp only [IntKind.wrap_i64]; omega
    have e4 : IntKind.i64.wrap ((q3 : Int) + 1) = (q4 : Int) := by simp only [IntKind.wrap_i64]; omega
    have e5 : IntKind.i64.wrap ((q4 : Int) + 1) = (q4 : Int) + 1 := by simp only [IntKind.wrap_i64]; omega
    obtain ⟨rm, hrm⟩ : ∃ rm, q4 % 3 = rm := ⟨_, rfl⟩
    rw [hrm] at c4
    have e6 : (q4 : Int) % 3 = (rm : Int) := by rw [← hrm]; simp
    have HQ := hidQ (And.intro hq hq4)
    clear hc hq hq1 hq2 hq3 hq4 hrm
    by_cases hr0 : rm = 0
    · subst hr0
      rw [decide_eq_true rfl] at c4
      go_wp2_with fail
      go_roundw
      case rel => obtain ⟨a, b⟩ := HQ.out; exact ⟨k + 1, by omega, by simp, by simp; omega, by first | rfl | trivial⟩
      case measure => simp [intOf]; omega
    · have hr0' : ¬ (rm : Int) = 0 := by omega
      have hr1 : ((rm : Int) == 0) = false := by simp only [beq_eq_false_iff_ne]; omega
      rw [decide_eq_false hr0] at c4
      go_wp2_with fail
      go_roundw
      case rel => obtain ⟨a, b⟩ := HQ.out; exact ⟨k + 1, by omega, by simp, by simp; omega, by first | rfl | trivial⟩
      case measure => simp [intOf]; omega
  · have hkn : k = n := by omega
    subst hkn
    go_wp2_with fail
    go_ret
    exact ⟨rfl, rfl⟩

end Go.Proofs.Ytdpbhbpcpnlbkaa
