import Derived.Test.YtcilemkeljcidaaDoorRkb
import Derived.Test.YtcilemkeljcidaaDoorIo
import Derived.Test.YtcilemkeljcidaaDoorIU
import Derived.Test.YtcilemkeljcidaaDoorRk
import Derived.OpenShut
namespace Go.Proofs.YtcilemkeljcidaaDoor
open Go.RowKit
set_option linter.unusedVariables false
set_option maxRecDepth 100000

theorem rank_room {F : M.Fm} (h : F.Ok) {k s : Nat} (hk : k + 2 ≤ F.top) (hs : s < 2 * F.lead) : s < 2 ^ 120 ∧ k ≤ 40000 ∧ k * F.lead + s < 2 ^ 128 := by
  have h1 := h.leadPow
  have h2 := h.p2
  have h3 := h.e2
  have ht : F.top + 1 = 2 ^ F.e := by unfold M.Fm.top; have := Nat.pow_pos (n := F.e) (show 0 < 2 by omega); omega
  have he : 2 ^ F.e ≤ 2 ^ 15 := Nat.pow_le_pow_right (by omega) h3
  have hl : F.lead ≤ 2 ^ 112 := by unfold M.Fm.lead; exact Nat.pow_le_pow_right (by omega) (by omega)
  have hm : (k + 2) * F.lead ≤ F.top * F.lead := Nat.mul_le_mul_right _ hk
  have hm2 : F.top * F.lead ≤ F.lead * 2 ^ F.e := by rw [← ht, Nat.mul_comm]; exact Nat.mul_le_mul_left _ (by omega)
  have hm3 : (k + 2) * F.lead = k * F.lead + 2 * F.lead := by rw [Nat.add_mul]
  refine ⟨by omega, by omega, by omega⟩

theorem drank_all (F : M.Fm) (h : F.Ok) (t : M.Pt) (hp : F.Proper t) (h5 : t.c ≠ 5) (v : World) :
    Calls Tryd.prog 36 #[.agg #[.int .i64 (F.p : Int), .int .i64 (1 - (F.emax : Int)), .int .i64 (F.emax : Int), .int .i64 (F.wd : Int), .int .i64 (F.e : Int), .bool F.x], .agg #[.int .i64 t.c, .bool t.n, .int .u64 (M.hiN t.s : Int), .int .u64 (M.loN t.s : Int), .int .i64 t.q]] v fun e w' => e = .returned (.agg #[.int .u64 (M.hiN (F.rank t) : Int), .int .u64 (M.loN (F.rank t) : Int)]) ∧ Below v.heap.size v w' := by
  by_cases h1 : t.c = 1
  · have e : F.rank t = 0 := by unfold M.Fm.rank; rw [if_pos h1]
    rw [e]
    exact drank1 F h t.c t.n t.s t.q v h1
  · by_cases h4 : t.c = 4
    · have e : F.rank t = F.top * F.lead := by unfold M.Fm.rank; rw [if_neg h1, if_pos h4]
      rw [e]
      exact drank4 F h t.c t.n t.s t.q v h4
    · have e : F.rank t = (t.q - F.qmin).toNat * F.lead + t.s := by unfold M.Fm.rank; rw [if_neg h1, if_neg h4]
      have ht := h.top2
      have hlp := h.leadPos
      have hq : 0 ≤ t.q - F.qmin ∧ (t.q - F.qmin).toNat + 2 ≤ F.top ∧ t.s < 2 * F.lead := by
        rcases hp with hp | hp | hp | hp | hp
        · exact absurd hp.1 h1
        · exact absurd hp.1 h4
        · exact absurd hp.1 h5
        · obtain ⟨_, _, b, c⟩ := hp
          rw [c]
          refine ⟨by omega, ?_, by omega⟩
          have : (F.qmin - F.qmin).toNat = 0 := by omega
          omega
        · obtain ⟨_, _, b, c, d⟩ := hp
          have hqm : F.qmin = 2 - (F.emax : Int) - (F.p : Int) := rfl
          exact ⟨by omega, by omega, b⟩
      obtain ⟨r1, r2, r3⟩ := rank_room h hq.2.1 hq.2.2
      rw [e]
      exact drankF F h t.c t.n t.s t.q v h1 h4 _ (by omega) r2 r1 r3

theorem orderP_eq (F : M.Fm) (s t : M.Pt) : F.orderP s t = if (decide (s.c ≠ 0 ∧ s.c ≠ 5) && decide (t.c ≠ 0 ∧ t.c ≠ 5)) = false then 2 else if (decide (s.n = true ∧ s.c ≠ 1) && decide (t.n = true ∧ t.c ≠ 1)) = true then M.cmpN (F.rank t) (F.rank s) else if decide (s.n = true ∧ s.c ≠ 1) = true then -1 else if decide (t.n = true ∧ t.c ≠ 1) = true then 1 else M.cmpN (F.rank s) (F.rank t) := by
  unfold M.Fm.orderP
  by_cases h1 : s.c ≠ 0 ∧ s.c ≠ 5
  · by_cases h2 : t.c ≠ 0 ∧ t.c ≠ 5
    · rw [if_neg (by omega), decide_eq_true h1, decide_eq_true h2]
      by_cases h3 : s.n = true ∧ s.c ≠ 1
      · rw [if_pos h3, decide_eq_true h3]
        by_cases h4 : t.n = true ∧ t.c ≠ 1
        · rw [if_pos h4, decide_eq_true h4]; simp
        · rw [if_neg h4, decide_eq_false h4]; simp
      · rw [if_neg h3, decide_eq_false h3]
        by_cases h4 : t.n = true ∧ t.c ≠ 1
        · rw [if_pos h4, decide_eq_true h4]; simp
        · rw [if_neg h4, decide_eq_false h4]; simp
    · rw [if_pos (by omega), decide_eq_false h2]; simp
  · rw [if_pos (by omega), decide_eq_false h1]; simp

theorem proper_of {F : M.Fm} {t : M.Pt} (h : t = ⟨0, false, 0, 0⟩ ∨ F.Proper t) (hc : t.c ≠ 0) : F.Proper t := by
  rcases h with h | h
  · rw [h] at hc; exact absurd rfl hc
  · exact h

theorem iorder_any (f : Nat) (hf : f < 4) (X Y : Nat) (hX : X < 2 ^ 128) (hY : Y < 2 ^ 128) (w : World) (hm : Fmt w) :
    Calls Tryd.prog 16 #[.int .i64 (f : Int), .agg #[.int .u64 (M.hiN X : Int), .int .u64 (M.loN X : Int)], .agg #[.int .u64 (M.hiN Y : Int), .int .u64 (M.loN Y : Int)]] w fun e w' => e = .returned (.int .i64 ((M.fm f).orderS X Y)) ∧ Below w.heap.size w w' := by
  have h := M.fm_ok f
  rw [← h.order X Y]
  have pS := h.upk_proper X
  have pT := h.upk_proper Y
  exact iorder_key (f : Int) X Y ((M.fm f).upk X) ((M.fm f).upk Y) _ _ _ _ _ _ _ _ _ _ ((M.fm f).rank ((M.fm f).upk X)) ((M.fm f).rank ((M.fm f).upk Y)) _ _ _ w hm
    (fun v hv => describe_ok f hf v hv) (fun v hv => iunpack_any f hf X hX v hv) (fun v hv => iunpack_any f hf Y hY v hv)
    (fun v => pValued _ _ _ _ _ v _ rfl) (fun v => pValued _ _ _ _ _ v _ rfl) (fun v => pBelow _ _ _ _ _ v _ rfl) (fun v => pBelow _ _ _ _ _ v _ rfl)
    (fun h1 h2 v => drank_all (M.fm f) h _ (proper_of pS (of_decide_eq_true h1).1) (of_decide_eq_true h1).2 v)
    (fun h1 h2 v => drank_all (M.fm f) h _ (proper_of pT (of_decide_eq_true h2).1) (of_decide_eq_true h2).2 v)
    (fun v => wcmp _ _ v _ rfl) (fun v => wcmp _ _ v _ rfl) (orderP_eq _ _ _)

theorem iorder_no (f : Int) (hf : f < 0 ∨ 4 ≤ f) (X Y : Nat) (w : World) (hm : Fmt w) :
    Calls Tryd.prog 16 #[.int .i64 f, .agg #[.int .u64 (M.hiN X : Int), .int .u64 (M.loN X : Int)], .agg #[.int .u64 (M.hiN Y : Int), .int .u64 (M.loN Y : Int)]] w fun e w' => e = .returned (.int .i64 2) ∧ Below w.heap.size w w' := by
  have kU : ∀ (a b : Int) (v : World), Calls Tryd.prog 13 #[.int .i64 f, .agg #[.int .u64 a, .int .u64 b]] v fun e w' => e = .returned (.agg #[.int .i64 (⟨0, false, 0, 0⟩ : M.Pt).c, .bool (⟨0, false, 0, 0⟩ : M.Pt).n, .int .u64 (M.hiN (⟨0, false, 0, 0⟩ : M.Pt).s : Int), .int .u64 (M.loN (⟨0, false, 0, 0⟩ : M.Pt).s : Int), .int .i64 (⟨0, false, 0, 0⟩ : M.Pt).q]) ∧ Below v.heap.size v w' := fun a b v => by
    have := iunpack_no f hf a b v
    simpa [hi0, lo0] using this
  exact iorder_key f X Y ⟨0, false, 0, 0⟩ ⟨0, false, 0, 0⟩ _ _ _ _ _ _ false false false false 0 0 0 0 _ w hm
    (fun v hv => describeNo f v hf) (fun v hv => kU _ _ v) (fun v hv => kU _ _ v)
    (fun v => pValued _ _ _ _ _ v _ (by simp)) (fun v => pValued _ _ _ _ _ v _ (by simp)) (fun v => pBelow _ _ _ _ _ v _ (by simp)) (fun v => pBelow _ _ _ _ _ v _ (by simp))
    (fun h1 h2 v => by cases h1) (fun h1 h2 v => by cases h1)
    (fun v => wcmp _ _ v _ (by decide)) (fun v => wcmp _ _ v _ (by decide)) (by simp)

end Go.Proofs.YtcilemkeljcidaaDoor
