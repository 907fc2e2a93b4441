import Derived.Test.YtcilemkeljcidaaDoorPk4
namespace Go.Proofs.YtcilemkeljcidaaDoor
open Go.RowKit
set_option linter.unusedVariables false
set_option maxRecDepth 100000

theorem uw_nat {k : Nat} (h : k < 18446744073709551616) : uw (k : Int) = k := by
  unfold uw
  rw [IntKind.wrap_u64]
  omega

theorem js_nat {F : M.Fm} (h : F.Ok) {fld sg : Nat} (hs : sg < 2 ^ 128) (hl : F.x = false ∧ 0 < fld → F.lead ≤ sg) : js F (fld : Int) sg = if F.x = false ∧ 0 < fld then sg - F.lead else sg := by
  by_cases hc : F.x = false ∧ 0 < fld
  · rw [js_yes sg ⟨hc.1, by omega⟩, if_pos hc]
    have h1 := hl hc
    have h2 := lead_lt h
    generalize F.lead = L at *
    have e : sg + (2 ^ 128 - L) = (sg - L) + 2 ^ 128 := by omega
    rw [e, Nat.add_mod_right]
    exact Nat.mod_eq_of_lt (by omega)
  · rw [js_no sg (fun hh => hc ⟨hh.1, by omega⟩), if_neg hc]

/-- Where the fields have room, join lays them side by side. -/
theorem jn_word {F : M.Fm} (h : F.Ok) (n : Bool) {fld sg : Nat} (hf : fld < 18446744073709551616) (hs : sg < 2 ^ 128) (hl : F.x = false ∧ 0 < fld → F.lead ≤ sg) (hw : F.word n fld sg < 2 ^ 128) : jn F n (fld : Int) sg = F.word n fld sg := by
  have e1 := js_nat h hs hl
  unfold jn jy
  unfold M.Fm.word at hw ⊢
  rw [uw_nat hf, e1]
  generalize (if F.x = false ∧ 0 < fld then sg - F.lead else sg) = S at *
  generalize fld * 2 ^ F.fb = A at *
  cases n
  · simp only [Bool.false_eq_true, if_false] at hw ⊢
    rw [Nat.mod_eq_of_lt (a := A) (by omega), Nat.mod_eq_of_lt (by omega)]
    omega
  · simp only [if_true] at hw ⊢
    generalize 2 ^ (F.wd - 1) = B at *
    rw [Nat.mod_eq_of_lt (a := A) (by omega), Nat.mod_eq_of_lt (a := A + S) (by omega), Nat.mod_eq_of_lt (by omega)]

/-- Of parts that a word has, pack makes that word. -/
theorem pki_pk {F : M.Fm} (h : F.Ok) (t : M.Pt) (hp : F.Proper t) : pki F t.c t.n t.s t.q = F.pk t := by
  have hw := (h.upk_pk t hp).2
  have hl := h.leadPos
  have ht := h.top2
  have hh := h.half
  have hll := lead_lt h
  have hW : 2 ^ F.wd ≤ 2 ^ 128 := Nat.pow_le_pow_right (by omega) h.w
  have hlt := Nat.lt_of_lt_of_le hw hW
  have hp2 := h.p2
  have hl2 : F.lead ≤ 2 ^ 112 := by unfold M.Fm.lead; exact Nat.pow_le_pow_right (by omega) (by omega)
  have hte : F.top < 18446744073709551616 := by omega
  clear hw hW
  unfold M.Fm.pk at hlt ⊢
  unfold pki
  by_cases h2 : t.c = 2
  · rw [if_pos h2] at hlt ⊢
    rw [if_pos h2]
    refine jn_word h t.n (fld := 0) (by omega) ?_ (fun hc => absurd hc.2 (by omega)) hlt
    rcases hp with hp | hp | hp | hp | hp <;> (have := hp.1; omega)
  · rw [if_neg h2] at hlt ⊢
    rw [if_neg h2]
    by_cases h3 : t.c = 3
    · rw [if_pos h3] at hlt ⊢
      rw [if_pos h3]
      have hq : F.lead ≤ t.s ∧ t.s < 2 * F.lead ∧ 1 ≤ t.q + F.emax + F.p - 1 ∧ t.q + F.emax + F.p - 1 < F.top := by
        rcases hp with hp | hp | hp | hp | hp
        · have := hp.1; omega
        · have := hp.1; omega
        · have := hp.1; omega
        · have := hp.1; omega
        · exact hp.2
      obtain ⟨k, hk⟩ : ∃ k : Nat, t.q + (F.emax : Int) + (F.p : Int) - 1 = (k : Int) := ⟨(t.q + F.emax + F.p - 1).toNat, by omega⟩
      rw [hk] at hlt hq ⊢
      rw [Int.toNat_natCast] at hlt ⊢
      rw [show IntKind.i64.wrap (k : Int) = (k : Int) by rw [IntKind.wrap_i64]; omega]
      exact jn_word h t.n (by omega) (by omega) (fun hc => hq.1) hlt
    · rw [if_neg h3] at hlt ⊢
      rw [if_neg h3]
      by_cases h4 : t.c = 4
      · rw [if_pos h4] at hlt ⊢
        rw [if_pos h4]
        exact jn_word h t.n hte hll (fun hc => Nat.le_refl _) hlt
      · rw [if_neg h4] at hlt ⊢
        rw [if_neg h4]
        by_cases h5 : t.c = 5
        · rw [if_pos h5] at hlt ⊢
          rw [if_pos h5]
          generalize 2 ^ (F.p - 2) = H at *
          rw [Nat.mod_eq_of_lt (a := F.lead + H) (by omega)]
          exact jn_word h false hte (by omega) (fun hc => by omega) hlt
        · rw [if_neg h5] at hlt ⊢
          rw [if_neg h5]
          exact jn_word h t.n (fld := 0) (sg := 0) (by omega) (by omega) (fun hc => absurd hc.2 (by omega)) hlt

end Go.Proofs.YtcilemkeljcidaaDoor
