import Derived.Test.YtcilemkeljcidaaDoorsMath
namespace Go.Proofs.YtcilemkeljcidaaDoor.M
set_option linter.unusedVariables false
set_option maxRecDepth 100000
structure Fm where
 p : Nat
 e : Nat
 x : Bool

def Fm.fb (F : Fm) : Nat := if F.x then F.p else F.p - 1

def Fm.wd (F : Fm) : Nat := F.fb + F.e + 1

def Fm.emax (F : Fm) : Nat := 2 ^ (F.e - 1) - 1

def Fm.qmin (F : Fm) : Int := 2 - (F.emax : Int) - (F.p : Int)

def Fm.lead (F : Fm) : Nat := 2 ^ (F.p - 1)

def Fm.top (F : Fm) : Nat := 2 ^ F.e - 1

structure Fm.Ok (F : Fm) : Prop where
 p1 : 24 ≤ F.p
 p2 : F.p ≤ 113
 e1 : 8 ≤ F.e
 e2 : F.e ≤ 15
 w : F.wd ≤ 128

structure Pt where
 c : Int
 n : Bool
 s : Nat
 q : Int

theorem Pt.ext' {a b : Pt} (h1 : a.c = b.c) (h2 : a.n = b.n) (h3 : a.s = b.s) (h4 : a.q = b.q) : a = b := by
 cases a; cases b; simp at *; exact ⟨h1, h2, h3, h4⟩

def Fm.fld (F : Fm) (X : Nat) : Nat := X / 2 ^ F.fb % 2 ^ F.e

def Fm.sgn (F : Fm) (X : Nat) : Nat := X / 2 ^ F.fb / 2 ^ F.e

def Fm.sig (F : Fm) (X : Nat) : Nat := if F.x = false ∧ 0 < F.fld X then X % 2 ^ F.fb + F.lead else X % 2 ^ F.fb

def Fm.bad (F : Fm) (X : Nat) : Prop := 1 < F.sgn X ∨ ¬ (F.lead ≤ F.sig X ↔ 0 < F.fld X)

instance (F : Fm) (X : Nat) : Decidable (F.bad X) := by unfold Fm.bad; infer_instance

def Fm.upk (F : Fm) (X : Nat) : Pt :=
 if F.bad X then ⟨0, false, 0, 0⟩
 else if F.fld X = F.top then (if F.sig X = F.lead then ⟨4, decide (F.sgn X = 1), 0, 0⟩ else ⟨5, false, 0, 0⟩)
 else if 0 < F.fld X then ⟨3, decide (F.sgn X = 1), F.sig X, (F.fld X : Int) - F.emax - F.p + 1⟩
 else if F.sig X = 0 then ⟨1, decide (F.sgn X = 1), 0, 0⟩
 else ⟨2, decide (F.sgn X = 1), F.sig X, F.qmin⟩

def Fm.word (F : Fm) (n : Bool) (fld sig : Nat) : Nat :=
 fld * 2 ^ F.fb + (if F.x = false ∧ 0 < fld then sig - F.lead else sig) + (if n then 2 ^ (F.wd - 1) else 0)

theorem Fm.Ok.leadPos {F : Fm} (h : F.Ok) : 0 < F.lead := Nat.pow_pos (by omega)

theorem Fm.Ok.ad {F : Fm} (h : F.Ok) : 2 ^ F.fb = if F.x then 2 * F.lead else F.lead := by
 unfold Fm.fb Fm.lead
 have := h.p1
 cases F.x
 · rfl
 · simp only [if_true]
   rw [show F.p = (F.p - 1) + 1 by omega, Nat.pow_succ, Nat.add_sub_cancel, Nat.mul_comm]

theorem Fm.Ok.top2 {F : Fm} (h : F.Ok) : F.top = 2 * F.emax + 1 ∧ 2 ^ F.e = F.top + 1 ∧ 127 ≤ F.emax ∧ F.emax ≤ 16383 := by
 have h1 := h.e1
 have h2 := h.e2
 have e : 2 ^ F.e = 2 * 2 ^ (F.e - 1) := by
  rw [Nat.mul_comm, ← Nat.pow_succ]; congr 1; omega
 have a : 2 ^ 7 ≤ 2 ^ (F.e - 1) := Nat.pow_le_pow_right (by omega) (by omega)
 have b : 2 ^ (F.e - 1) ≤ 2 ^ 14 := Nat.pow_le_pow_right (by omega) (by omega)
 unfold Fm.top Fm.emax
 omega

theorem Fm.Ok.width {F : Fm} (h : F.Ok) : 2 ^ F.wd = 2 ^ F.fb * 2 ^ F.e * 2 ∧ 2 ^ (F.wd - 1) = 2 ^ F.fb * 2 ^ F.e ∧ 2 ^ F.wd ≤ 2 ^ 128 := by
 refine ⟨?_, ?_, Nat.pow_le_pow_right (by omega) h.w⟩
 · unfold Fm.wd; rw [Nat.pow_succ, Nat.pow_add]
 · unfold Fm.wd; rw [Nat.add_sub_cancel, Nat.pow_add]

theorem Fm.Ok.frac {F : Fm} (h : F.Ok) (fld sig : Nat) (h3 : sig < 2 * F.lead) (h4 : F.lead ≤ sig ↔ 0 < fld) :
 (if F.x = false ∧ 0 < fld then sig - F.lead else sig) < 2 ^ F.fb := by
 rw [h.ad]
 have := h.leadPos
 rcases F with ⟨p, e, x⟩
 cases x
 · by_cases h5 : 0 < fld
   · simp [h5] at *; omega
   · simp [h5] at *; omega
 · simp; exact h3

theorem Fm.Ok.fields {F : Fm} (h : F.Ok) (n : Bool) (fld sig : Nat) (h2 : fld ≤ F.top) (h3 : sig < 2 * F.lead) (h4 : F.lead ≤ sig ↔ 0 < fld) :
 F.fld (F.word n fld sig) = fld ∧ F.sgn (F.word n fld sig) = n.toNat ∧ F.sig (F.word n fld sig) = sig ∧ F.word n fld sig < 2 ^ F.wd := by
 have hf := h.frac fld sig h3 h4
 have ht := h.top2
 have hA : 0 < 2 ^ F.fb := Nat.pow_pos (by omega)
 have hw := h.width
 obtain ⟨fr, hfr⟩ : ∃ fr, fr = (if F.x = false ∧ 0 < fld then sig - F.lead else sig) := ⟨_, rfl⟩
 rw [← hfr] at hf
 have e : F.word n fld sig = (n.toNat * 2 ^ F.e + fld) * 2 ^ F.fb + fr := by
  unfold Fm.word
  rw [← hfr, hw.2.1, Nat.add_mul]
  cases n
  · simp
  · simp [Nat.mul_comm]; omega
 have e1 : F.word n fld sig / 2 ^ F.fb = n.toNat * 2 ^ F.e + fld := by
  rw [e, Nat.mul_comm, Nat.mul_add_div hA, Nat.div_eq_of_lt hf, Nat.add_zero]
 have e2 : F.word n fld sig % 2 ^ F.fb = fr := by
  rw [e, Nat.mul_comm, Nat.mul_add_mod, Nat.mod_eq_of_lt hf]
 have e3 : F.fld (F.word n fld sig) = fld := by
  unfold Fm.fld
  rw [e1, Nat.mul_comm, Nat.mul_add_mod, Nat.mod_eq_of_lt (by omega)]
 refine ⟨e3, ?_, ?_, ?_⟩
 · unfold Fm.sgn
   rw [e1, Nat.mul_comm, Nat.mul_add_div (by omega), Nat.div_eq_of_lt (by omega), Nat.add_zero]
 · unfold Fm.sig
   rw [e3, e2, hfr]
   by_cases h5 : F.x = false ∧ 0 < fld
   · simp only [h5, and_self, if_true]; have := h4.2 h5.2; omega
   · simp only [h5, if_false]
 · rw [e, hw.1]
   have hn : n.toNat ≤ 1 := by cases n <;> simp
   have h7 : n.toNat * 2 ^ F.e ≤ 1 * 2 ^ F.e := Nat.mul_le_mul_right _ hn
   have h6 : (n.toNat * 2 ^ F.e + fld + 1) * 2 ^ F.fb ≤ (2 ^ F.e * 2) * 2 ^ F.fb := Nat.mul_le_mul_right _ (by omega)
   rw [Nat.add_mul _ 1] at h6
   have h8 : 2 ^ F.e * 2 * 2 ^ F.fb = 2 ^ F.fb * 2 ^ F.e * 2 := by rw [Nat.mul_comm (2 ^ F.e * 2), Nat.mul_assoc]
   omega

def Fm.Proper (F : Fm) (t : Pt) : Prop :=
 (t.c = 1 ∧ t.s = 0 ∧ t.q = 0) ∨ (t.c = 4 ∧ t.s = 0 ∧ t.q = 0) ∨ (t.c = 5 ∧ t.n = false ∧ t.s = 0 ∧ t.q = 0) ∨
 (t.c = 2 ∧ 0 < t.s ∧ t.s < F.lead ∧ t.q = F.qmin) ∨
 (t.c = 3 ∧ F.lead ≤ t.s ∧ t.s < 2 * F.lead ∧ 1 ≤ t.q + F.emax + F.p - 1 ∧ t.q + F.emax + F.p - 1 < F.top)

instance (F : Fm) (t : Pt) : Decidable (F.Proper t) := by unfold Fm.Proper; infer_instance

def Fm.pk (F : Fm) (t : Pt) : Nat :=
 if t.c = 2 then F.word t.n 0 t.s
 else if t.c = 3 then F.word t.n (t.q + F.emax + F.p - 1).toNat t.s
 else if t.c = 4 then F.word t.n F.top F.lead
 else if t.c = 5 then F.word false F.top (F.lead + 2 ^ (F.p - 2))
 else F.word t.n 0 0

theorem Fm.Ok.half {F : Fm} (h : F.Ok) : F.lead = 2 * 2 ^ (F.p - 2) := by
 unfold Fm.lead
 have := h.p1
 rw [Nat.mul_comm, ← Nat.pow_succ]; congr 1; omega

theorem Fm.Ok.sigLt {F : Fm} (h : F.Ok) (X : Nat) : F.sig X < 2 * F.lead := by
 have hA : X % 2 ^ F.fb < 2 ^ F.fb := Nat.mod_lt _ (Nat.pow_pos (by omega))
 rw [h.ad] at hA
 unfold Fm.sig
 rw [h.ad]
 rcases F with ⟨p, e, x⟩
 cases x
 · simp only [Bool.false_eq_true, if_false, true_and] at *
   by_cases h5 : 0 < Fm.fld ⟨p, e, false⟩ X
   · simp only [h5, if_true]; omega
   · simp only [h5, if_false]; omega
 · simpa using hA

theorem Fm.fldLe {F : Fm} (h : F.Ok) (X : Nat) : F.fld X ≤ F.top := by
 have := h.top2
 have : F.fld X < 2 ^ F.e := Nat.mod_lt _ (Nat.pow_pos (by omega))
 omega

theorem Fm.Ok.upk_proper {F : Fm} (h : F.Ok) (X : Nat) : F.upk X = ⟨0, false, 0, 0⟩ ∨ F.Proper (F.upk X) := by
 unfold Fm.upk
 by_cases hb : F.bad X
 · simp [hb]
 · right
   simp only [hb, if_false]
   have hs := h.sigLt X
   have hl := fldLe h X
   have ht := h.top2
   have hb' : ¬ 1 < F.sgn X ∧ (F.lead ≤ F.sig X ↔ 0 < F.fld X) := by
    unfold Fm.bad at hb
    exact ⟨fun h1 => hb (.inl h1), Classical.byContradiction fun h2 => hb (.inr h2)⟩
   by_cases h1 : F.fld X = F.top
   · simp only [h1, if_true]
     by_cases h2 : F.sig X = F.lead
     · simp [h2, Fm.Proper]
     · simp [h2, Fm.Proper]
   · simp only [h1, if_false]
     by_cases h2 : 0 < F.fld X
     · simp only [h2, if_true]
       right; right; right; right
       refine ⟨rfl, hb'.2.2 h2, hs, ?_, ?_⟩ <;> simp only <;> omega
     · simp only [h2, if_false]
       by_cases h3 : F.sig X = 0
       · simp [h3, Fm.Proper]
       · simp only [h3, if_false]
         right; right; right; left
         refine ⟨rfl, by simp only; omega, ?_, rfl⟩
         simp only
         have := mt hb'.2.1 h2
         omega

theorem Fm.Ok.upk_word {F : Fm} (h : F.Ok) (n : Bool) (fld sig : Nat) (h2 : fld ≤ F.top) (h3 : sig < 2 * F.lead) (h4 : F.lead ≤ sig ↔ 0 < fld) :
 F.upk (F.word n fld sig) = if fld = F.top then (if sig = F.lead then ⟨4, n, 0, 0⟩ else ⟨5, false, 0, 0⟩)
  else if 0 < fld then ⟨3, n, sig, (fld : Int) - F.emax - F.p + 1⟩ else if sig = 0 then ⟨1, n, 0, 0⟩ else ⟨2, n, sig, F.qmin⟩ := by
 obtain ⟨e1, e2, e3, _⟩ := h.fields n fld sig h2 h3 h4
 have hb : ¬ F.bad (F.word n fld sig) := by
  unfold Fm.bad
  rw [e1, e2, e3]
  have : n.toNat ≤ 1 := by cases n <;> simp
  intro hh
  rcases hh with hh | hh
  · omega
  · exact hh h4
 have hn : decide (n.toNat = 1) = n := by cases n <;> rfl
 unfold Fm.upk
 simp only [hb, if_false, e1, e2, e3, hn]

theorem Fm.Ok.upk_pk {F : Fm} (h : F.Ok) (t : Pt) (hp : F.Proper t) : F.upk (F.pk t) = t ∧ F.pk t < 2 ^ F.wd := by
 have hl := h.leadPos
 have ht := h.top2
 have hh := h.half
 have hq : 0 < 2 ^ (F.p - 2) := Nat.pow_pos (by omega)
 rcases t with ⟨c, n, s, q⟩
 simp only [Fm.Proper] at hp
 rcases hp with ⟨rfl, rfl, rfl⟩ | ⟨rfl, rfl, rfl⟩ | ⟨rfl, rfl, rfl, rfl⟩ | ⟨rfl, h1, h2, rfl⟩ | ⟨rfl, h1, h2, h3, h4⟩
 · have a1 : (0 : Nat) ≤ F.top := by omega
   have a2 : F.lead ≤ 0 ↔ 0 < 0 := by omega
   have e : F.pk ⟨1, n, 0, 0⟩ = F.word n 0 0 := by simp [Fm.pk]
   rw [e, h.upk_word n 0 0 a1 (by omega) a2]
   refine ⟨?_, (h.fields n 0 0 a1 (by omega) a2).2.2.2⟩
   have : ¬ 0 = F.top := by omega
   simp [this]
 · have a2 : F.lead ≤ F.lead ↔ 0 < F.top := by omega
   have e : F.pk ⟨4, n, 0, 0⟩ = F.word n F.top F.lead := by simp [Fm.pk]
   rw [e, h.upk_word n _ _ (by omega) (by omega) a2]
   refine ⟨?_, (h.fields n _ _ (by omega) (by omega) a2).2.2.2⟩
   simp
 · have a2 : F.lead ≤ F.lead + 2 ^ (F.p - 2) ↔ 0 < F.top := by omega
   have e : F.pk ⟨5, false, 0, 0⟩ = F.word false F.top (F.lead + 2 ^ (F.p - 2)) := by simp [Fm.pk]
   rw [e, h.upk_word false _ _ (by omega) (by omega) a2]
   refine ⟨?_, (h.fields false _ _ (by omega) (by omega) a2).2.2.2⟩
   have : ¬ F.lead + 2 ^ (F.p - 2) = F.lead := by omega
   simp only [this, if_true, if_false]
 · have a1 : (0 : Nat) ≤ F.top := by omega
   have a2 : F.lead ≤ s ↔ 0 < 0 := by omega
   have e : F.pk ⟨2, n, s, F.qmin⟩ = F.word n 0 s := by simp [Fm.pk]
   rw [e, h.upk_word n 0 s a1 (by omega) a2]
   refine ⟨?_, (h.fields n 0 s a1 (by omega) a2).2.2.2⟩
   have b1 : ¬ 0 = F.top := by omega
   have b2 : ¬ s = 0 := by omega
   simp [b1, b2]
 · obtain ⟨f, hf⟩ : ∃ f : Nat, (f : Int) = q + F.emax + F.p - 1 := ⟨(q + F.emax + F.p - 1).toNat, by omega⟩
   have e : F.pk ⟨3, n, s, q⟩ = F.word n f s := by
    have : (q + F.emax + F.p - 1).toNat = f := by omega
    simp [Fm.pk, this]
   have a2 : F.lead ≤ s ↔ 0 < f := by omega
   rw [e, h.upk_word n f s (by omega) (by omega) a2]
   refine ⟨?_, (h.fields n f s (by omega) (by omega) a2).2.2.2⟩
   have b1 : ¬ f = F.top := by omega
   have b2 : 0 < f := by omega
   have b3 : (f : Int) - F.emax - F.p + 1 = q := by omega
   simp [b1, b2, b3]

def fm : Nat → Fm
 | 0 => ⟨24, 8, false⟩
 | 1 => ⟨53, 11, false⟩
 | 2 => ⟨64, 15, true⟩
 | _ => ⟨113, 15, false⟩

theorem fm_ok (f : Nat) : (fm f).Ok := by
 match f with
 | 0 => constructor <;> simp [fm, Fm.wd, Fm.fb]
 | 1 => constructor <;> simp [fm, Fm.wd, Fm.fb]
 | 2 => constructor <;> simp [fm, Fm.wd, Fm.fb]
 | n + 3 => constructor <;> simp [fm, Fm.wd, Fm.fb]

end Go.Proofs.YtcilemkeljcidaaDoor.M
