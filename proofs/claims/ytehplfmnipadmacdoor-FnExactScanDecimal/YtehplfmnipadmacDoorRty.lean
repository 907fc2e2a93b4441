/-
  Answers that are lists of bytes.
-/
import Derived.Test.YtehplfmnipadmacDoorByw
namespace Go.Proofs.YtehplfmnipadmacDoor
open Go.RowKit
set_option linter.unusedVariables false

/-- What is asked of an answer that is a list of bytes. -/
def RetY (w w' : World) (e : Ending) (r : List Nat) : Prop :=
  ∃ ra rc, e = .returned (.slice ra r.length rc) ∧ w'.ownsRow w.heap.size 5 1 (.slice ra r.length rc) r.length (UB r) ∧ Below w.heap.size w w'

theorem RetY.later {w0 w w' : World} {e : Ending} {r : List Nat} (h : RetY w w' e r) (hb : Below w0.heap.size w0 w) : RetY w0 w' e r := by
  obtain ⟨ra, rc, h1, h2, h3⟩ := h
  exact ⟨ra, rc, h1, ownY_base h2 hb.size, hb.trans (h3.mono hb.size)⟩

/-- What can be read of an answer that is a list of bytes. -/
def RetR (w w' : World) (e : Ending) (r : List Nat) : Prop :=
  ∃ ra rc, e = .returned (.slice ra r.length rc) ∧ RdY w' ra r ∧ r.length ≤ rc ∧ Below w.heap.size w w'

theorem RetY.toR {w w' : World} {e : Ending} {r : List Nat} (h : RetY w w' e r) : RetR w w' e r := by
  obtain ⟨ra, rc, h1, h2, h3⟩ := h
  exact ⟨ra, rc, h1, RdY.own h2, ownY_cap h2, h3⟩

theorem RetR.later {w0 w w' : World} {e : Ending} {r : List Nat} (h : RetR w w' e r) (hb : Below w0.heap.size w0 w) : RetR w0 w' e r := by
  obtain ⟨ra, rc, h1, h2, h4, h3⟩ := h
  exact ⟨ra, rc, h1, h2, h4, hb.trans (h3.mono hb.size)⟩

theorem own_place {W : World} {base e k j : Nat} {v : Value} {xs : List Value} (h : W.ownsRow base e 1 v k xs) (hj : v.ownBlock = some j) : base ≤ j := by
  rcases h.2 with ⟨rfl, _⟩ | ⟨g, cap, cur, rfl, hb, _⟩
  · simp [Value.ownBlock] at hj
  · simp only [Value.ownBlock, Option.some.injEq] at hj
    omega

end Go.Proofs.YtehplfmnipadmacDoor
