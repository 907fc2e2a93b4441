import Derived.Test.YtodgblbaclionaaGreatDoorrSp2
import Derived.Test.YtodgblbaclionaaGreatDoorrPk8
import Derived.Test.YtodgblbaclionaaGreatDoorrPkA
import Derived.Test.YtodgblbaclionaaGreatDoorrPk9
namespace Go.Proofs.YtodgblbaclionaaGreatDoor

open Go.RowKit

set_option linter.unusedVariables false
set_option maxRecDepth 100000

/-- What Pack answers. -/
def ansN (F : M.Fm) (t : M.Pt) : Nat := if F.Proper t then F.pk t else 0

theorem notProper0 {F : M.Fm} {c : Int} {n : Bool} {s : Nat} {q : Int} (h1 : c ≠ 1) (h2 : c ≠ 2) (h3 : c ≠ 3) (h4 : c ≠ 4) (h5 : c ≠ 5) : ¬ F.Proper ⟨c, n, s, q⟩ := by
  unfold M.Fm.Proper
  simp only
  omega

theorem blen_iff {F : M.Fm} (h : F.Ok) (s : Nat) : (F.lead ≤ s ↔ F.p ≤ blen s) ∧ (s < 2 * F.lead ↔ blen s ≤ F.p) := by
  have p1 := h.p1
  have e : 2 * F.lead = 2 ^ F.p := by
    unfold M.Fm.lead
    rw [Nat.mul_comm, ← Nat.pow_succ]; congr 1; omega
  rw [e]
  have a := lt_blen s
  refine ⟨⟨fun hh => ?_, fun hh => ?_⟩, ⟨fun hh => blen_le_of s _ hh, fun hh => Nat.lt_of_lt_of_le a (Nat.pow_le_pow_right (by omega) hh)⟩⟩
  · refine Classical.byContradiction fun hn => ?_
    have : 2 ^ blen s ≤ 2 ^ (F.p - 1) := Nat.pow_le_pow_right (by omega) (by omega)
    unfold M.Fm.lead at hh
    omega
  · have hp : 0 < s := by
      rcases Nat.eq_zero_or_pos s with rfl | hs
      · rw [blen_zero] at hh; omega
      · exact hs
    have b := blen_le s hp
    have : 2 ^ (F.p - 1) ≤ 2 ^ (blen s - 1) := Nat.pow_le_pow_right (by omega) (by omega)
    unfold M.Fm.lead
    omega

theorem spack_any (f : Nat) (hf : f < 4) (c : Int) (n : Bool) (s : Nat) (hs : s < 2 ^ 128) (q : Int) (hq1 : -9223372036854775808 ≤ q) (hq2 : q < 9223372036854775808) (w : World) :
    Calls Tryz.prog 36 #[.int .i64 (f : Int), .agg #[.int .i64 c, .bool n, .int .u64 (M.hiN s : Int), .int .u64 (M.loN s : Int), .int .i64 q]] w fun e w' => e = .returned (.tuple #[.agg #[.int .u64 (M.hiN (ansN (M.fm f) ⟨c, n, s, q⟩) : Int), .int .u64 (M.loN (ansN (M.fm f) ⟨c, n, s, q⟩) : Int)], .bool (decide ((M.fm f).Proper ⟨c, n, s, q⟩))]) ∧ Below w.heap.size w w' := by
  have kE := fun v : World => sdescribe_ok f hf v
  have kU := fun (X : Nat) (hX : X < 2 ^ 128) (v : World) => sunpack_any f hf X hX v
  have h := M.fm_ok f
  generalize M.fm f = F at *
  simp only [dv, pv] at kE kU
  have p1 := h.p1
  have p2 := h.p2
  have he0 : (F.p : Int) ≠ 0 := by omega
  have lp := h.leadPos
  have tp := h.top2
  have hw := h.width.2.2
  have hh := h.half
  have kBt : ∀ (v : World) (ao : Option Addr) (cc : Nat), Rd v ao (D s) → Calls Tryz.prog 21 #[.slice ao (D s).length cc] v fun e w' => e = .returned (.int .i64 ((blen s : Nat) : Int)) ∧ w' = v := fun v ao cc hr => l1Bits_any ao _ cc s v rfl (Nat.le_trans (D_word hs) (by omega)) hr _ rfl
  have bl := blen_iff h s
  have z0 : (D 0).length = 0 := by simp [D, M.dig_zero]
  by_cases c1 : c = 1
  · subst c1
    have a2 : F.lead ≤ 0 ↔ 0 < 0 := by omega
    have hX := Nat.lt_of_lt_of_le (h.fields n 0 0 (by omega) (by omega) a2).2.2.2 hw
    have an := pk_ans h ⟨1, n, s, q⟩ (F.word n 0 0) (by simp) (fun hp => by simp [M.Fm.pk])
    have kM := fun v : World => make_word F h n false 0 0 0 (by omega) (by omega) a2 rfl (by simp) none 0 v (Rd.nil _ _)
    rw [z0] at kM
    exact spack1 (f : Int) n s q hs (F.upk (F.word n 0 0)) (F.word n 0 0) _ _ _ _ _ _ he0 w kM kE (kU _ hX) _ _ (fun e => an.1 (pt_eq.1 e)) (fun e => an.2 (fun e' => e (pt_eq.2 e')))
  · by_cases c2 : c = 2
    · subst c2
      by_cases hb : (F.p : Int) ≤ ((blen s : Nat) : Int)
      · have hn : ¬ F.Proper ⟨2, n, s, q⟩ := by
          unfold M.Fm.Proper
          simp only
          have := bl.1.2 (by omega)
          omega
        rw [show ansN F ⟨2, n, s, q⟩ = 0 from if_neg hn, show decide (F.Proper ⟨2, n, s, q⟩) = false from decide_eq_false hn, hi0, lo0]
        exact spack2no (f : Int) n s q hs _ _ _ _ _ _ he0 w (blen s) kBt hb kE
      · have hlt : s < F.lead := by
          refine Classical.byContradiction fun hn => hb ?_
          have := bl.1.1 (by omega)
          omega
        have a2 : F.lead ≤ s ↔ 0 < 0 := by omega
        have hX := Nat.lt_of_lt_of_le (h.fields n 0 s (by omega) (by omega) a2).2.2.2 hw
        have an := pk_ans h ⟨2, n, s, q⟩ (F.word n 0 s) (by simp) (fun hp => by simp [M.Fm.pk])
        exact spack2 (f : Int) n s q hs (F.upk (F.word n 0 s)) (F.word n 0 s) _ _ _ _ _ _ he0 w (blen s) kBt hb (fun v ao cc hr => make_word F h n false 0 s s (by omega) (by omega) a2 rfl (by simp) ao cc v hr) kE (kU _ hX) _ _ (fun e => an.1 (pt_eq.1 e)) (fun e => an.2 (fun e' => e (pt_eq.2 e')))
    · by_cases c4 : c = 4
      · subst c4
        have a2 : F.lead ≤ F.lead ↔ 0 < F.top := by omega
        have hX := Nat.lt_of_lt_of_le (h.fields n F.top F.lead (by omega) (by omega) a2).2.2.2 hw
        have an := pk_ans h ⟨4, n, s, q⟩ (F.word n F.top F.lead) (by simp) (fun hp => by simp [M.Fm.pk])
        have kM := fun v : World => make_word F h n true F.top F.lead 0 (by omega) (by omega) a2 (decide_eq_true (by omega)).symm (by rw [if_pos (by omega)]; omega) none 0 v (Rd.nil _ _)
        rw [z0] at kM
        exact spack4 (f : Int) n s q hs (F.upk (F.word n F.top F.lead)) (F.word n F.top F.lead) _ _ _ _ _ _ he0 w (F.top : Int) (fun v => stop_any F h v) kM kE (kU _ hX) _ _ (fun e => an.1 (pt_eq.1 e)) (fun e => an.2 (fun e' => e (pt_eq.2 e')))
      · by_cases c5 : c = 5
        · subst c5
          have hp2 : 0 < 2 ^ (F.p - 2) := Nat.pow_pos (by omega)
          have a2 : F.lead ≤ F.lead + 2 ^ (F.p - 2) ↔ 0 < F.top := by omega
          have hX := Nat.lt_of_lt_of_le (h.fields false F.top (F.lead + 2 ^ (F.p - 2)) (by omega) (by omega) a2).2.2.2 hw
          have an := pk_ans h ⟨5, n, s, q⟩ (F.word false F.top (F.lead + 2 ^ (F.p - 2))) (by simp) (fun hp => by simp [M.Fm.pk])
          exact spack5 (f : Int) n s q hs (F.upk (F.word false F.top (F.lead + 2 ^ (F.p - 2)))) (F.word false F.top (F.lead + 2 ^ (F.p - 2))) _ _ _ _ _ _ he0 w (F.top : Int) (2 ^ (F.p - 2)) ((F.p : Int) - 2) rfl (by simp only [IntKind.wrap_i64]; omega) (fun v => stop_any F h v)
            (fun v z hz => by
              have := l2Two_any (F.p - 2) v (by omega)
              rw [show ((F.p - 2 : Nat) : Int) = z by omega] at this
              exact this)
            (fun v ao cc hr => make_word F h false true F.top (F.lead + 2 ^ (F.p - 2)) (2 ^ (F.p - 2)) (by omega) (by omega) a2 (decide_eq_true (by omega)).symm (by rw [if_pos (by omega)]; omega) ao cc v hr) kE (kU _ hX) _ _ (fun e => an.1 (pt_eq.1 e)) (fun e => an.2 (fun e' => e (pt_eq.2 e')))
        · by_cases c3 : c = 3
          · subst c3
            obtain ⟨E, hE⟩ : ∃ E, wrap64 (wrap64 (wrap64 (q + (F.emax : Int)) + (F.p : Int)) - 1) = E := ⟨_, rfl⟩
            have hE' := hE
            simp only [wrap64] at hE'
            by_cases hb : blen s = F.p
            · have kBe : ∀ (v : World) (ao : Option Addr) (cc : Nat), Rd v ao (D s) → Calls Tryz.prog 21 #[.slice ao (D s).length cc] v fun e w' => e = .returned (.int .i64 (F.p : Int)) ∧ w' = v := by rw [← hb]; exact kBt
              by_cases hlo : E < 1
              · have hn : ¬ F.Proper ⟨3, n, s, q⟩ := by
                  unfold M.Fm.Proper
                  simp only
                  omega
                rw [show ansN F ⟨3, n, s, q⟩ = 0 from if_neg hn, show decide (F.Proper ⟨3, n, s, q⟩) = false from decide_eq_false hn, hi0, lo0]
                exact spack3b (f : Int) n s q hs _ _ _ _ _ _ he0 w E hE kBe hlo kE
              · by_cases hhi : (F.top : Int) ≤ E
                · have hn : ¬ F.Proper ⟨3, n, s, q⟩ := by
                    unfold M.Fm.Proper
                    simp only
                    omega
                  rw [show ansN F ⟨3, n, s, q⟩ = 0 from if_neg hn, show decide (F.Proper ⟨3, n, s, q⟩) = false from decide_eq_false hn, hi0, lo0]
                  exact spack3c (f : Int) n s q hs _ _ _ _ _ _ he0 w E hE kBe hlo (F.top : Int) (fun v => stop_any F h v) hhi kE
                · obtain ⟨x, hx⟩ : ∃ x : Nat, (x : Int) = E := ⟨E.toNat, by omega⟩
                  subst hx
                  have hxe : (x : Int) = q + F.emax + F.p - 1 := by omega
                  have l1 := bl.1.2 (by omega)
                  have l2 := bl.2.2 (by omega)
                  have a2 : F.lead ≤ s ↔ 0 < x := by omega
                  have hX := Nat.lt_of_lt_of_le (h.fields n x s (by omega) l2 a2).2.2.2 hw
                  have an := pk_ans h ⟨3, n, s, q⟩ (F.word n x s) (by simp) (fun hp => by simp [M.Fm.pk, show (q + (F.emax : Int) + (F.p : Int) - 1).toNat = x by omega])
                  have hlow : s % 2 ^ (F.p - 1) = s - F.lead := by
                    have : F.lead = 2 ^ (F.p - 1) := rfl
                    rw [← this, Nat.mod_eq_sub_mod l1, Nat.mod_eq_of_lt (by omega)]
                  exact spack3 (f : Int) n s q hs (F.upk (F.word n x s)) (F.word n x s) _ _ _ _ _ _ he0 w (x : Int) hE kBe hlo (F.top : Int) (fun v => stop_any F h v) hhi (s - F.lead) (by simp only [IntKind.wrap_i64]; omega)
                    (fun v ao cc z hz hr => by
                      have := l2Low_any ao _ cc (F.p - 1) s v rfl (Nat.le_trans (D_word hs) (by omega)) (by omega) hr
                      rw [hlow, show ((F.p - 1 : Nat) : Int) = z by omega] at this
                      exact this)
                    (fun v ao cc hr => make_word F h n true x s (s - F.lead) (by omega) l2 a2 (decide_eq_true (by omega)).symm (by rw [if_pos (by omega)]) ao cc v hr) kE (kU _ hX) _ _ (fun e => an.1 (pt_eq.1 e)) (fun e => an.2 (fun e' => e (pt_eq.2 e')))
            · have hn : ¬ F.Proper ⟨3, n, s, q⟩ := by
                unfold M.Fm.Proper
                simp only
                omega
              rw [show ansN F ⟨3, n, s, q⟩ = 0 from if_neg hn, show decide (F.Proper ⟨3, n, s, q⟩) = false from decide_eq_false hn, hi0, lo0]
              exact spack3a (f : Int) n s q hs _ _ _ _ _ _ he0 w E hE (blen s) kBt (by omega) kE
          · have hn := notProper0 (F := F) (n := n) (s := s) (q := q) c1 c2 c3 c4 c5
            rw [show ansN F ⟨c, n, s, q⟩ = 0 from if_neg hn, show decide (F.Proper ⟨c, n, s, q⟩) = false from decide_eq_false hn, hi0, lo0]
            exact spack0 (f : Int) n s q hs c _ _ _ _ _ _ he0 w c1 c2 c3 c4 c5 kE

end Go.Proofs.YtodgblbaclionaaGreatDoor

