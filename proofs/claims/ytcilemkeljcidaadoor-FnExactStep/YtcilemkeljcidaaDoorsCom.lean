import Derived.Test.YtcilemkeljcidaaDoorsBase
namespace Go.Proofs.YtcilemkeljcidaaDoor
open Go.RowKit
set_option linter.unusedVariables false
set_option maxRecDepth 100000
theorem D_lt (a : Nat) (m : Nat) (h : (D a).length ≤ m) : a < 4294967296 ^ m :=
 Nat.lt_of_lt_of_le (M.lt_dig (by omega) a) (Nat.pow_le_pow_right (by omega) h)

theorem X_takeD (a k : Nat) (h : (D a).length ≤ k) : X ((D a).take k) = a := by rw [List.take_of_length_le h, X_D]

def Ret (w w' : World) (e : Ending) (r : List Nat) : Prop :=
 ∃ ao cap, e = .returned (.slice ao r.length cap) ∧ w'.ownsRow w.heap.size 27 1 (.slice ao r.length cap) r.length (U r) ∧ Below w.heap.size w w'

theorem Ret.nil {w w' : World} (h : Below w.heap.size w w') : Ret w w' (.returned (.slice none 0 0)) [] := ⟨none, 0, rfl, World.ownsRow_nil _ _ _ _, h⟩

theorem Ret.later {w0 w w' : World} {e : Ending} {r : List Nat} (h : Ret w w' e r) (hb : Below w0.heap.size w0 w) : Ret w0 w' e r := by
 obtain ⟨ao, cap, he, ho, hb'⟩ := h
 exact ⟨ao, cap, he, own_base ho hb.size, hb.trans (hb'.mono hb.size)⟩

theorem M.len_of_lt {B : Nat} (hB : 1 < B) (a K : Nat) (h : a < B ^ K) : (M.dig B a).length ≤ K := by
 rcases Nat.lt_or_ge K (M.dig B a).length with h1 | h1
 · have h8 : 0 < a := by
    rcases Nat.eq_zero_or_pos a with e | e
    · rw [e] at h1; simp [M.dig_zero] at h1
    · exact e
   have h9 := M.dig_le hB _ h8
   have h10 : B ^ K ≤ B ^ ((M.dig B a).length - 1) := Nat.pow_le_pow_right (by omega) (by omega)
   omega
 · exact h1

end Go.Proofs.YtcilemkeljcidaaDoor
