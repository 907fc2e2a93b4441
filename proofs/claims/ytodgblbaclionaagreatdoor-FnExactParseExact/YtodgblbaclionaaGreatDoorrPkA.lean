import Derived.Test.YtodgblbaclionaaGreatDoorrPk5
namespace Go.Proofs.YtodgblbaclionaaGreatDoor

open Go.RowKit

set_option linter.unusedVariables false
set_option maxRecDepth 100000

/-- l2Make, whatever the fields. -/
theorem make_any (F : M.Fm) (h : F.Ok) (n ld : Bool) (ex R V : Nat) (hex : ex < 40000)
    (hV : V = ex * 2 ^ F.fb + (if F.x = true ∧ ld = true then F.lead else 0) + R + (if n then 2 ^ (F.wd - 1) else 0)) (hVl : V < 2 ^ 128) (ao : Option Addr) (c : Nat) (w : World) (hr : Rd w ao (D R)) :
    Calls Tryz.prog 69 #[.agg #[.int .i64 (F.p : Int), .int .i64 (1 - (F.emax : Int)), .int .i64 (F.emax : Int), .int .i64 (F.wd : Int), .int .i64 (F.e : Int), .bool F.x], .bool n, .int .i64 (ex : Int), .bool ld, .slice ao (D R).length c] w fun e w' => e = .returned (.agg #[.int .u64 (M.hiN V : Int), .int .u64 (M.loN V : Int)]) ∧ Below w.heap.size w w' := by
  have p1 := h.p1
  have p2 := h.p2
  have w1 := wd_pos h
  have w2 := h.w
  have hf : F.fb = if F.x then F.p else F.p - 1 := rfl
  have hle : F.lead = 2 ^ (F.p - 1) := rfl
  rw [hle] at hV
  rw [hf] at hV
  generalize F.emax = em at *
  generalize F.wd = W at *
  rcases F with ⟨p, e, x⟩
  simp only at *
  clear hf hle h
  have q1 : 0 < 2 ^ (W - 1) := Nat.pow_pos (by omega)
  have q2 : 0 < 2 ^ (p - 1) := Nat.pow_pos (by omega)
  cases x
  · simp only [Bool.false_eq_true, if_false, false_and, Nat.add_zero] at hV ⊢
    cases n
    · simp only [Bool.false_eq_true, if_false, Nat.add_zero] at hV
      exact make_inp p W ex R _ _ _ ld ao _ c w (by omega) p2 w1 w2 hex (by omega) rfl hr _ rfl (by omega) V (by omega) hVl
    · simp only [if_true] at hV
      exact make_inm p W ex R _ _ _ ld ao _ c w (by omega) p2 w1 w2 hex (by omega) rfl hr _ rfl (by omega) _ rfl (by omega) V (by omega) hVl
  · cases ld
    · simp only [if_true, Bool.false_eq_true, and_false, if_false, Nat.add_zero] at hV
      cases n
      · simp only [Bool.false_eq_true, if_false, Nat.add_zero] at hV
        exact make_enp p W ex R _ _ _ ao _ c w (by omega) p2 w1 w2 hex (by omega) rfl hr _ rfl (by omega) V (by omega) hVl
      · simp only [if_true] at hV
        exact make_enm p W ex R _ _ _ ao _ c w (by omega) p2 w1 w2 hex (by omega) rfl hr _ rfl (by omega) _ rfl (by omega) V (by omega) hVl
    · simp only [if_true, and_self] at hV
      cases n
      · simp only [Bool.false_eq_true, if_false, Nat.add_zero] at hV
        exact make_elp p W ex R _ _ _ ao _ c w (by omega) p2 w1 w2 hex (by omega) rfl hr _ rfl (by omega) _ rfl (by omega) V (by omega) hVl
      · simp only [if_true] at hV
        exact make_elm p W ex R _ _ _ ao _ c w (by omega) p2 w1 w2 hex (by omega) rfl hr _ rfl (by omega) _ rfl (by omega) _ rfl (by omega) V (by omega) hVl

/-- l2Make of a Sig with its leading bit (an exponent above zero), or of one below it (exponent zero). -/
theorem make_word (F : M.Fm) (h : F.Ok) (n ld : Bool) (ex sg R : Nat) (h2 : ex ≤ F.top) (h3 : sg < 2 * F.lead) (h4 : F.lead ≤ sg ↔ 0 < ex) (hld : ld = decide (0 < ex)) (hR : R = if 0 < ex then sg - F.lead else sg) (ao : Option Addr) (c : Nat) (w : World) (hr : Rd w ao (D R)) :
    Calls Tryz.prog 69 #[.agg #[.int .i64 (F.p : Int), .int .i64 (1 - (F.emax : Int)), .int .i64 (F.emax : Int), .int .i64 (F.wd : Int), .int .i64 (F.e : Int), .bool F.x], .bool n, .int .i64 (ex : Int), .bool ld, .slice ao (D R).length c] w fun e w' => e = .returned (.agg #[.int .u64 (M.hiN (F.word n ex sg) : Int), .int .u64 (M.loN (F.word n ex sg) : Int)]) ∧ Below w.heap.size w w' := by
  have ht := h.top2
  have hl := (h.fields n ex sg h2 h3 h4).2.2.2
  have hw := h.width.2.2
  refine make_any F h n ld ex R _ (by omega) ?_ (Nat.lt_of_lt_of_le hl hw) ao c w hr
  subst hld
  subst hR
  unfold M.Fm.word
  by_cases hx : 0 < ex
  · have := h4.2 hx
    cases F.x <;> simp [hx] <;> omega
  · cases F.x <;> simp [hx]

theorem stop_any (F : M.Fm) (h : F.Ok) (w : World) :
    Calls Tryz.prog 70 #[.agg #[.int .i64 (F.p : Int), .int .i64 (1 - (F.emax : Int)), .int .i64 (F.emax : Int), .int .i64 (F.wd : Int), .int .i64 (F.e : Int), .bool F.x]] w fun e w' => e = .returned (.int .i64 (F.top : Int)) ∧ Below w.heap.size w w' := by
  have ht := h.top2
  have e1 : (F.top : Int) = 2 * (F.emax : Int) + 1 := by omega
  have f1 : wrap64 (2 * (F.emax : Int)) = 2 * (F.emax : Int) := by simp only [wrap64]; omega
  have f2 : wrap64 (2 * (F.emax : Int) + 1) = 2 * (F.emax : Int) + 1 := by simp only [wrap64]; omega
  rw [e1]
  clear ht e1
  generalize (F.emax : Int) = E at *
  go_enter Tryz.func70, Tryz.ntmps70
  go_wp2_with fail
  go_ret
  exact ⟨congrArg (fun x => Ending.returned (Value.int .i64 x)) f2, (Below.refl _ _).alloc (Nat.le_refl _) _⟩

/-- What Pack answers of parts that were put together to a word of class c and came apart as T. -/
theorem pk_ans {F : M.Fm} (h : F.Ok) (t : M.Pt) (X : Nat) (hc : t.c ≠ 0) (hX : F.Proper t → F.pk t = X) :
    (F.upk X = t → (if F.Proper t then F.pk t else 0) = X ∧ decide (F.Proper t) = true) ∧ (¬ F.upk X = t → (if F.Proper t then F.pk t else 0) = 0 ∧ decide (F.Proper t) = false) := by
  constructor
  · intro e
    have hp : F.Proper t := by
      rcases h.upk_proper X with hb | hb
      · rw [e] at hb; rw [hb] at hc; simp at hc
      · rw [e] at hb; exact hb
    exact ⟨by rw [if_pos hp]; exact hX hp, decide_eq_true hp⟩
  · intro e
    have hp : ¬ F.Proper t := fun hp => e (by rw [← hX hp]; exact (h.upk_pk t hp).1)
    exact ⟨if_neg hp, decide_eq_false hp⟩

theorem pt_eq {a : M.Pt} {c : Int} {n : Bool} {s : Nat} {q : Int} : (a.c = c ∧ a.n = n ∧ (M.hiN a.s : Int) = (M.hiN s : Int) ∧ (M.loN a.s : Int) = (M.loN s : Int) ∧ a.q = q) ↔ a = ⟨c, n, s, q⟩ := by
  constructor
  · rintro ⟨h1, h2, h3, h4, h5⟩
    refine M.Pt.ext' h1 h2 ?_ h5
    have e1 := M.hl a.s
    have e2 := M.hl s
    simp only
    omega
  · rintro rfl
    exact ⟨rfl, rfl, rfl, rfl, rfl⟩

end Go.Proofs.YtodgblbaclionaaGreatDoor

