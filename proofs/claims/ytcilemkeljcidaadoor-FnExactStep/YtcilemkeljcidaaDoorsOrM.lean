import Derived.Test.YtcilemkeljcidaaDoorsFmM
import Derived.Test.YtcilemkeljcidaaDoorsWdM
namespace Go.Proofs.YtcilemkeljcidaaDoor.M
set_option linter.unusedVariables false
set_option maxRecDepth 100000
def cmpN (a b : Nat) : Int := if a < b then -1 else if b < a then 1 else 0

theorem cmpN_congr {a b c d : Nat} (h1 : a < b ↔ c < d) (h2 : b < a ↔ d < c) : cmpN a b = cmpN c d := by
 unfold cmpN; simp [h1, h2]

def Fm.rank (F : Fm) (t : Pt) : Nat :=
 if t.c = 1 then 0 else if t.c = 4 then F.top * F.lead else (t.q - F.qmin).toNat * F.lead + t.s

def Fm.frc (F : Fm) (X : Nat) : Nat := F.sig X - (if 0 < F.fld X then F.lead else 0)

theorem Fm.Ok.notBad {F : Fm} (h : F.Ok) (X : Nat) (hb : ¬ F.bad X) : F.sgn X ≤ 1 ∧ (F.lead ≤ F.sig X ↔ 0 < F.fld X) := by
 unfold Fm.bad at hb
 exact ⟨by have : ¬ 1 < F.sgn X := fun h1 => hb (.inl h1); omega, Classical.byContradiction fun h2 => hb (.inr h2)⟩

theorem Fm.Ok.low {F : Fm} (h : F.Ok) (X : Nat) (hb : ¬ F.bad X) :
 F.frc X < F.lead ∧ F.sig X = F.frc X + (if 0 < F.fld X then F.lead else 0) ∧
 X % 2 ^ (F.wd - 1) = F.fld X * 2 ^ F.fb + F.frc X + (if F.x = true ∧ 0 < F.fld X then F.lead else 0) := by
 have hs := h.sigLt X
 obtain ⟨_, hi⟩ := h.notBad X hb
 have hl := h.leadPos
 have e : X % 2 ^ (F.wd - 1) = F.fld X * 2 ^ F.fb + X % 2 ^ F.fb := by
  rw [h.width.2.1, Nat.mod_mul]; unfold Fm.fld; rw [Nat.mul_comm, Nat.add_comm]
 have e2 : F.sig X = if F.x = false ∧ 0 < F.fld X then X % 2 ^ F.fb + F.lead else X % 2 ^ F.fb := rfl
 rw [e]
 unfold Fm.frc
 generalize F.sig X = s at *
 generalize F.fld X = f at *
 generalize X % 2 ^ F.fb = r at *
 by_cases h1 : 0 < f
 · have := hi.2 h1
   simp only [h1, if_true, and_true] at *
   refine ⟨by omega, by omega, ?_⟩
   cases hx : F.x
   · simp [hx] at *; omega
   · simp [hx] at *; omega
 · have h2 : ¬ F.lead ≤ s := mt hi.1 h1
   simp only [h1, if_false, and_false] at *
   omega

theorem lex {L K f g a b : Nat} (h1 : a < L) (h2 : b < L) (hK : L ≤ K) (hf hg : Nat) (e1 : a + hf < K) (e2 : b + hg < K) (e3 : f = g → hf = hg) :
 f * K + a + hf < g * K + b + hg ↔ f * L + a < g * L + b := by
 rcases Nat.lt_trichotomy f g with h | h | h
 · have p1 : (f + 1) * K ≤ g * K := Nat.mul_le_mul_right _ h
   have p2 : (f + 1) * L ≤ g * L := Nat.mul_le_mul_right _ h
   rw [Nat.add_mul] at p1 p2
   omega
 · subst h; have := e3 rfl; omega
 · have p1 : (g + 1) * K ≤ f * K := Nat.mul_le_mul_right _ h
   have p2 : (g + 1) * L ≤ f * L := Nat.mul_le_mul_right _ h
   rw [Nat.add_mul] at p1 p2
   omega

theorem Fm.Ok.low_lt {F : Fm} (h : F.Ok) (X Y : Nat) (hX : ¬ F.bad X) (hY : ¬ F.bad Y) :
 X % 2 ^ (F.wd - 1) < Y % 2 ^ (F.wd - 1) ↔ F.fld X * F.lead + F.frc X < F.fld Y * F.lead + F.frc Y := by
 obtain ⟨a1, _, a3⟩ := h.low X hX
 obtain ⟨b1, _, b3⟩ := h.low Y hY
 rw [a3, b3]
 have had := h.ad
 cases hx : F.x
 · simp [hx] at had ⊢
   rw [had]
 · simp [hx] at had ⊢
   rw [had]
   refine lex a1 b1 (by omega) _ _ ?_ ?_ ?_
   · split <;> omega
   · split <;> omega
   · intro e; rw [e]

theorem Fm.Ok.rank_upk {F : Fm} (h : F.Ok) (X : Nat) (hb : ¬ F.bad X) (hc : (F.upk X).c ≠ 5) :
 F.rank (F.upk X) = F.fld X * F.lead + F.frc X ∧ F.rank (F.upk X) ≤ F.top * F.lead ∧ ((F.upk X).c = 1 ↔ F.rank (F.upk X) = 0) ∧ ((F.upk X).c = 4 ↔ F.rank (F.upk X) = F.top * F.lead) ∧ (F.upk X).n = decide (F.sgn X = 1) := by
 have hl := h.leadPos
 have ht := h.top2
 have hf := fldLe h X
 obtain ⟨a1, a2, _⟩ := h.low X hb
 obtain ⟨_, hi⟩ := h.notBad X hb
 unfold Fm.upk at hc ⊢
 simp only [hb, if_false] at hc ⊢
 have htl : 0 < F.top * F.lead := Nat.mul_pos (by omega) hl
 by_cases h1 : F.fld X = F.top
 · simp only [h1, if_true] at hc ⊢
   have hp : 0 < F.top := by omega
   by_cases h2 : F.sig X = F.lead
   · simp only [h2, if_true] at hc ⊢
     rw [h1, if_pos hp] at a2
     refine ⟨?_, ?_, ?_, ?_, by simp⟩
     · simp [Fm.rank]; omega
     · simp [Fm.rank]
     · simp [Fm.rank]; omega
     · simp [Fm.rank]
   · simp only [h2, if_false] at hc
     exact absurd rfl hc
 · simp only [h1, if_false] at hc ⊢
   have hlt : (F.fld X + 1) * F.lead ≤ F.top * F.lead := Nat.mul_le_mul_right _ (by omega)
   rw [Nat.add_mul] at hlt
   by_cases h2 : 0 < F.fld X
   · simp only [h2, if_true] at hc ⊢ a2
     have e : F.rank ⟨3, decide (F.sgn X = 1), F.sig X, (F.fld X : Int) - F.emax - F.p + 1⟩ = F.fld X * F.lead + F.frc X := by
      have e1 : ((F.fld X : Int) - F.emax - F.p + 1 - F.qmin).toNat = F.fld X - 1 := by unfold Fm.qmin; omega
      simp only [Fm.rank, e1]
      simp
      have : F.fld X * F.lead = (F.fld X - 1) * F.lead + F.lead := by
       rw [Nat.sub_mul]
       have : 1 * F.lead ≤ F.fld X * F.lead := Nat.mul_le_mul_right _ h2
       omega
      omega
     have hpos : 1 * F.lead ≤ F.fld X * F.lead := Nat.mul_le_mul_right _ h2
     rw [e]
     refine ⟨rfl, by omega, ?_, ?_, by simp⟩ <;> simp <;> omega
   · have h0 : F.fld X = 0 := by omega
     simp only [h2, if_false] at hc ⊢ a2
     by_cases h3 : F.sig X = 0
     · simp only [h3, if_true] at hc ⊢
       refine ⟨?_, ?_, ?_, ?_, by simp⟩
       · simp [Fm.rank, h0]; omega
       · simp [Fm.rank]
       · simp [Fm.rank]
       · simp [Fm.rank]; omega
     · simp only [h3, if_false] at hc ⊢
       have e : F.rank ⟨2, decide (F.sgn X = 1), F.sig X, F.qmin⟩ = F.sig X := by simp [Fm.rank]
       rw [e]
       refine ⟨by rw [h0]; omega, by omega, ?_, ?_, by simp⟩ <;> simp <;> omega

def Fm.orderP (F : Fm) (s t : Pt) : Int :=
 if s.c = 0 ∨ s.c = 5 ∨ t.c = 0 ∨ t.c = 5 then 2
 else if s.n = true ∧ s.c ≠ 1 then (if t.n = true ∧ t.c ≠ 1 then cmpN (F.rank t) (F.rank s) else -1)
 else if t.n = true ∧ t.c ≠ 1 then 1 else cmpN (F.rank s) (F.rank t)

def Fm.orderS (F : Fm) (X Y : Nat) : Int :=
 if (F.upk X).c = 0 ∨ (F.upk X).c = 5 ∨ (F.upk Y).c = 0 ∨ (F.upk Y).c = 5 then 2
 else if X % 2 ^ (F.wd - 1) = 0 ∧ Y % 2 ^ (F.wd - 1) = 0 then 0
 else if (F.upk X).n = true ∧ (F.upk Y).n = false then -1
 else if (F.upk X).n = false ∧ (F.upk Y).n = true then 1
 else if (F.upk X).n = true then cmpN (Y % 2 ^ (F.wd - 1)) (X % 2 ^ (F.wd - 1)) else cmpN (X % 2 ^ (F.wd - 1)) (Y % 2 ^ (F.wd - 1))

theorem Fm.upk_bad (F : Fm) (X : Nat) (h : (F.upk X).c ≠ 0) : ¬ F.bad X := by
 intro hb; apply h; unfold Fm.upk; simp [hb]

theorem Fm.Ok.order {F : Fm} (h : F.Ok) (X Y : Nat) : F.orderP (F.upk X) (F.upk Y) = F.orderS X Y := by
 unfold Fm.orderP Fm.orderS
 by_cases hv : (F.upk X).c = 0 ∨ (F.upk X).c = 5 ∨ (F.upk Y).c = 0 ∨ (F.upk Y).c = 5
 · simp only [hv, if_true]
 · simp only [hv, if_false]
   have hx0 : (F.upk X).c ≠ 0 := fun e => hv (.inl e)
   have hx5 : (F.upk X).c ≠ 5 := fun e => hv (.inr (.inl e))
   have hy0 : (F.upk Y).c ≠ 0 := fun e => hv (.inr (.inr (.inl e)))
   have hy5 : (F.upk Y).c ≠ 5 := fun e => hv (.inr (.inr (.inr e)))
   have bx := F.upk_bad X hx0
   have bY := F.upk_bad Y hy0
   obtain ⟨rx, _, zx, _, _⟩ := h.rank_upk X bx hx5
   obtain ⟨ry, _, zy, _, _⟩ := h.rank_upk Y bY hy5
   have h1 := h.low_lt X Y bx bY
   have h2 := h.low_lt Y X bY bx
   rw [← rx, ← ry] at h1 h2
   have z0 : (0 : Nat) % 2 ^ (F.wd - 1) = 0 := Nat.zero_mod _
   have b0 : ¬ F.bad 0 := by
    unfold Fm.bad
    have hl := h.leadPos
    have f0 : F.fld 0 = 0 := by simp [Fm.fld]
    have s0 : F.sig 0 = 0 := by simp [Fm.sig, f0]
    have g0 : F.sgn 0 = 0 := by simp [Fm.sgn]
    rw [f0, s0, g0]; omega
   have hz : ∀ Z, ¬ F.bad Z → (F.upk Z).c ≠ 5 → (Z % 2 ^ (F.wd - 1) = 0 ↔ F.rank (F.upk Z) = 0) := by
    intro Z bz hz5
    obtain ⟨rz, _, _, _, _⟩ := h.rank_upk Z bz hz5
    have h3 := h.low_lt 0 Z b0 bz
    have f0 : F.fld 0 = 0 := by simp [Fm.fld]
    have s0 : F.frc 0 = 0 := by simp [Fm.frc, f0, Fm.sig]
    rw [z0, f0, s0, ← rz] at h3
    omega
   have hzx := hz X bx hx5
   have hzy := hz Y bY hy5
   have c1 : cmpN (X % 2 ^ (F.wd - 1)) (Y % 2 ^ (F.wd - 1)) = cmpN (F.rank (F.upk X)) (F.rank (F.upk Y)) := cmpN_congr h1 h2
   have c2 : cmpN (Y % 2 ^ (F.wd - 1)) (X % 2 ^ (F.wd - 1)) = cmpN (F.rank (F.upk Y)) (F.rank (F.upk X)) := cmpN_congr h2 h1
   simp only [c1, c2, hzx, hzy]
   generalize F.rank (F.upk X) = a at *
   generalize F.rank (F.upk Y) = b at *
   generalize (F.upk X).c = cx at *
   generalize (F.upk Y).c = cy at *
   clear h1 h2 c1 c2 hzx hzy rx ry
   cases (F.upk X).n <;> cases (F.upk Y).n <;> simp only [Bool.false_eq_true, true_and, false_and, and_false, and_true, if_false, if_true, ne_eq, reduceCtorEq]
   · by_cases ha : a = 0 ∧ b = 0
     · simp [ha, cmpN]
     · simp [ha]
   · by_cases hb : b = 0
     · have : cy = 1 := zy.2 hb
       simp only [this, not_true, if_false]
       by_cases ha : a = 0
       · simp [ha, hb, cmpN]
       · simp [ha, hb, cmpN]
     · have : ¬ cy = 1 := mt zy.1 hb
       simp [this, hb]
   · by_cases ha : a = 0
     · have : cx = 1 := zx.2 ha
       simp only [this, not_true, if_false]
       by_cases hb : b = 0
       · simp [ha, hb, cmpN]
       · simp [ha, hb, cmpN]
     · have : ¬ cx = 1 := mt zx.1 ha
       simp [this, ha]
   · by_cases ha : a = 0
     · have : cx = 1 := zx.2 ha
       simp only [this, not_true, if_false]
       by_cases hb : b = 0
       · have : cy = 1 := zy.2 hb
         simp [this, ha, hb, cmpN]
       · have : ¬ cy = 1 := mt zy.1 hb
         simp [this, ha, hb, cmpN]
     · have : ¬ cx = 1 := mt zx.1 ha
       by_cases hb : b = 0
       · have h9 : cy = 1 := zy.2 hb
         simp [this, h9, ha, hb, cmpN]
       · have h9 : ¬ cy = 1 := mt zy.1 hb
         simp [this, h9, ha, hb]

end Go.Proofs.YtcilemkeljcidaaDoor.M
