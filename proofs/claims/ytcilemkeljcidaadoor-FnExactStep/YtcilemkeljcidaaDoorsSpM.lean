import Derived.Test.YtcilemkeljcidaaDoorsFmM
import Derived.Test.YtcilemkeljcidaaDoorsWdM
namespace Go.Proofs.YtcilemkeljcidaaDoor.M
set_option linter.unusedVariables false
set_option maxRecDepth 100000
def Fm.rst (F : Fm) (X : Nat) : Nat := if F.x then X % 2 ^ F.fb % F.lead else X % 2 ^ F.fb

theorem Fm.Ok.fracLt {F : Fm} (h : F.Ok) (X : Nat) : X % 2 ^ F.fb < if F.x then 2 * F.lead else F.lead := by
 rw [← h.ad]; exact Nat.mod_lt _ (Nat.pow_pos (by omega))

theorem Fm.Ok.rstLt {F : Fm} (h : F.Ok) (X : Nat) : F.rst X < F.lead := by
 have := h.fracLt X
 have hl := h.leadPos
 unfold Fm.rst
 cases hx : F.x
 · simpa [hx] using this
 · simp only [if_true]; exact Nat.mod_lt _ hl

theorem Fm.Ok.sgnW {F : Fm} (h : F.Ok) (X : Nat) : (1 < F.sgn X ↔ 2 ^ F.wd ≤ X) ∧ (X < 2 ^ F.wd → F.sgn X = X / 2 ^ (F.wd - 1) % 2) := by
 have e : F.sgn X = X / 2 ^ (F.wd - 1) := by unfold Fm.sgn; rw [Nat.div_div_eq_div_mul, h.width.2.1]
 have e2 : 2 ^ F.wd = 2 * 2 ^ (F.wd - 1) := by rw [h.width.1, h.width.2.1, Nat.mul_comm]
 have hp : 0 < 2 ^ (F.wd - 1) := Nat.pow_pos (by omega)
 rw [e, e2]
 refine ⟨?_, ?_⟩
 · rw [show (1 < X / 2 ^ (F.wd - 1)) = (2 ≤ X / 2 ^ (F.wd - 1)) from rfl, Nat.le_div_iff_mul_le hp]
 · intro hx
   have : X / 2 ^ (F.wd - 1) < 2 := Nat.div_lt_of_lt_mul (by rw [Nat.mul_comm]; exact hx)
   omega

theorem Fm.Ok.upk_rst {F : Fm} (h : F.Ok) (X : Nat) (hw : X < 2 ^ F.wd) (hx : F.x = true → (F.lead ≤ X % 2 ^ F.fb ↔ 0 < F.fld X)) :
 F.upk X = if F.fld X = F.top then (if F.rst X = 0 then ⟨4, decide (X / 2 ^ (F.wd - 1) % 2 = 1), 0, 0⟩ else ⟨5, false, 0, 0⟩)
  else if F.fld X = 0 then (if F.rst X = 0 then ⟨1, decide (X / 2 ^ (F.wd - 1) % 2 = 1), 0, 0⟩ else ⟨2, decide (X / 2 ^ (F.wd - 1) % 2 = 1), F.rst X, F.qmin⟩)
  else ⟨3, decide (X / 2 ^ (F.wd - 1) % 2 = 1), F.rst X + F.lead, (F.fld X : Int) - F.emax - F.p + 1⟩ := by
 have hl := h.leadPos
 have ht := h.top2
 obtain ⟨s1, s2⟩ := h.sgnW X
 have s3 := s2 hw
 have hfr := h.fracLt X
 have hsig : F.sig X = F.rst X + (if 0 < F.fld X then F.lead else 0) ∧ (F.lead ≤ F.sig X ↔ 0 < F.fld X) := by
  unfold Fm.sig Fm.rst
  clear s1 s2 s3 hw ht
  generalize X % 2 ^ F.fb = G at *
  generalize F.fld X = f at *
  generalize F.lead = L at *
  cases hxx : F.x
  · simp only [hxx, Bool.false_eq_true, if_false, true_and] at hfr ⊢
    by_cases h0 : 0 < f
    · simp only [h0, if_true]; exact ⟨trivial, by simp⟩
    · simp only [h0, if_false]; exact ⟨rfl, by simpa using hfr⟩
  · have hx' := hx hxx
    simp only [hxx, if_true, Bool.true_eq_false, false_and, if_false] at hfr ⊢
    refine ⟨?_, hx'⟩
    by_cases h0 : 0 < f
    · have := hx'.2 h0
      simp only [h0, if_true]
      rw [Nat.mod_eq_sub_mod this, Nat.mod_eq_of_lt (by omega)]; omega
    · have := mt hx'.1 h0
      simp only [h0, if_false]
      rw [Nat.mod_eq_of_lt (by omega), Nat.add_zero]
 have hb : ¬ F.bad X := by
  unfold Fm.bad
  rintro (hh | hh)
  · have := s1.1 hh; omega
  · exact hh hsig.2
 rw [← s3]
 unfold Fm.upk
 simp only [hb, if_false]
 by_cases h1 : F.fld X = F.top
 · simp only [h1, if_true]
   have e : F.sig X = F.rst X + F.lead := by rw [hsig.1, if_pos (by omega)]
   have e2 : (F.sig X = F.lead) = (F.rst X = 0) := by rw [e]; apply propext; omega
   simp only [e2]
 · simp only [h1, if_false]
   by_cases h2 : F.fld X = 0
   · have h3 : ¬ 0 < F.fld X := by omega
     have e : F.sig X = F.rst X := by rw [hsig.1, if_neg h3, Nat.add_zero]
     simp only [h2, if_true, e, Nat.lt_irrefl, if_false]
   · have h3 : 0 < F.fld X := by omega
     have e : F.sig X = F.rst X + F.lead := by rw [hsig.1, if_pos h3]
     simp only [h3, if_true, h2, if_false, e]

theorem Fm.Ok.upk_lead {F : Fm} (h : F.Ok) (X : Nat) (hx : F.x = true) (hb : ¬ (F.lead ≤ X % 2 ^ F.fb ↔ 0 < F.fld X)) : F.upk X = ⟨0, false, 0, 0⟩ := by
 have : F.bad X := by
  unfold Fm.bad Fm.sig
  right
  simpa [hx] using hb
 unfold Fm.upk
 simp only [this, if_true]

theorem Fm.Ok.upk_wide {F : Fm} (h : F.Ok) (X : Nat) (hb : 2 ^ F.wd ≤ X) : F.upk X = ⟨0, false, 0, 0⟩ := by
 have : F.bad X := .inl ((h.sgnW X).1.2 hb)
 unfold Fm.upk
 simp only [this, if_true]

theorem fld_step (X fb k e : Nat) (hk : k + 1 ≤ e) : (X / 2 ^ (fb + (k + 1)) % 2 ^ (e - (k + 1))) * 2 + X / 2 ^ (fb + k) % 2 = X / 2 ^ (fb + k) % 2 ^ (e - k) := by
 have e1 : X / 2 ^ (fb + (k + 1)) = X / 2 ^ (fb + k) / 2 := by rw [← Nat.add_assoc, Nat.pow_succ, Nat.div_div_eq_div_mul]
 have e2 : 2 ^ (e - k) = 2 * 2 ^ (e - (k + 1)) := by rw [← Nat.pow_succ']; congr 1; omega
 rw [e1, e2]
 generalize X / 2 ^ (fb + k) = Y
 rw [Nat.mod_mul]
 omega

end Go.Proofs.YtcilemkeljcidaaDoor.M
