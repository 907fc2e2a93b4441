/-
  Plain mathematics of products, place by place.
-/
import Derived.Test.YtcilemkeljcidaaDoorSeg
namespace Go.Proofs.YtcilemkeljcidaaDoor.M
set_option linter.unusedVariables false
set_option maxRecDepth 100000

theorem val_split (B : Nat) (xs : List Nat) (off n : Nat) (h : off + n ≤ xs.length) :
    val B xs = val B (xs.take off) + B ^ off * (val B (seg xs off n) + B ^ n * val B (xs.drop (off + n))) := by
  have e1 : xs.take off ++ xs.drop off = xs := List.take_append_drop off xs
  have e2 : seg xs off n ++ xs.drop (off + n) = xs.drop off := by
    unfold seg; rw [← List.drop_drop]; exact List.take_append_drop n _
  have l1 : (xs.take off).length = off := by simp; omega
  have l2 := seg_length xs off n h
  have h2 : val B (xs.drop off) = val B (seg xs off n) + B ^ n * val B (xs.drop (off + n)) := by
    rw [← e2, val_append, l2]
  rw [← h2]
  have h1 := val_append B (xs.take off) (xs.drop off)
  rw [e1, l1] at h1
  exact h1

theorem take_eq_of (xs ys : List Nat) (k : Nat) (hl : xs.length = ys.length) (h : ∀ j, j < k → xs.getD j 0 = ys.getD j 0) : xs.take k = ys.take k := by
  apply List.ext_getElem (by simp [hl])
  intro j h1 h2
  have := h j (by simp at h1; omega)
  simp at h1 h2
  simpa [List.getD_eq_getElem?_getD, show j < xs.length by omega, show j < ys.length by omega] using this

theorem drop_eq_of (xs ys : List Nat) (k : Nat) (hl : xs.length = ys.length) (h : ∀ j, k ≤ j → xs.getD j 0 = ys.getD j 0) : xs.drop k = ys.drop k := by
  apply List.ext_getElem (by simp [hl])
  intro j h1 h2
  have := h (k + j) (by omega)
  simp at h1 h2
  simpa [List.getD_eq_getElem?_getD, show k + j < xs.length by omega, show k + j < ys.length by omega] using this

theorem val_wrote {B : Nat} {zs cur : List Nat} {off n : Nat} (h : Wrote B zs off n cur) (hl : off + n ≤ zs.length) :
    val B cur + B ^ off * val B (seg zs off n) = val B zs + B ^ off * val B (seg cur off n) := by
  rw [val_split B cur off n (by rw [h.len]; exact hl), val_split B zs off n hl, take_eq_of cur zs off h.len (fun j hj => h.out j (by omega)), drop_eq_of cur zs (off + n) h.len (fun j hj => h.out j (by omega))]
  simp only [Nat.mul_add]
  omega

/-- One place of 'add f times ys': x and y are the limbs, c the carry. -/
theorem times_place (x y f c p : Nat) (hp : p = y * f) (hx : x < 18446744073709551616) (hy : y < 18446744073709551616) (hf : f < 18446744073709551616) (hc : c < 18446744073709551616) :
    ∃ l2 r1 h2 o r2 c' : Nat, l2 = (p % 18446744073709551616 + c) % 18446744073709551616 ∧ r1 = (if (l2 : Int) < (c : Int) then 1 else 0) ∧ h2 = p / 18446744073709551616 + r1 ∧ h2 < 18446744073709551616 ∧
      o = (x + l2) % 18446744073709551616 ∧ r2 = (if (o : Int) < (l2 : Int) then 1 else 0) ∧ c' = h2 + r2 ∧ c' < 18446744073709551616 ∧ o < 18446744073709551616 ∧ o + 18446744073709551616 * c' = x + p + c := by
  have hb : p ≤ 18446744073709551615 * 18446744073709551615 := by rw [hp]; exact Nat.mul_le_mul (by omega) (by omega)
  refine ⟨_, _, _, _, _, _, rfl, rfl, rfl, ?_, rfl, rfl, rfl, ?_, ?_, ?_⟩
  · split <;> omega
  · split <;> split <;> omega
  · omega
  · split <;> split <;> omega

/-- The sum grows by a place. -/
theorem times_over {V V' V0 T c c' P B x y o f : Nat} (h : V + c * P = V0 + f * T) (hv : V' + P * x = V + P * o) (hs : o + B * c' = x + y * f + c) : V' + c' * (P * B) = V0 + f * (T + P * y) := by
  have e : P * (o + B * c') = P * (x + y * f + c) := by rw [hs]
  simp only [Nat.mul_add] at e ⊢
  rw [Nat.mul_comm c' (P * B), Nat.mul_assoc]
  rw [Nat.mul_comm c P] at h
  have e2 : f * (P * y) = P * (y * f) := by rw [Nat.mul_comm f, Nat.mul_assoc]
  rw [e2]
  omega

/-- A row of a product is laid: the view holds what stood there and y times a; the carry goes into the place behind it. -/
theorem mul_row {V V1 V2 S S1 c Pk Bn a y T : Nat} (h : V = a * T) (h1 : V1 + Pk * S = V + Pk * S1) (hs : S1 + c * Bn = S + y * a) (h2 : V2 = V1 + Pk * Bn * c) : V2 = a * (T + Pk * y) := by
  have e : Pk * (S1 + c * Bn) = Pk * (S + y * a) := by rw [hs]
  simp only [Nat.mul_add] at e ⊢
  have e1 : Pk * Bn * c = Pk * (c * Bn) := by rw [Nat.mul_assoc, Nat.mul_comm Bn c]
  have e2 : a * (Pk * y) = Pk * (y * a) := by rw [Nat.mul_left_comm, Nat.mul_comm a y]
  rw [e2, ← h]
  omega

end Go.Proofs.YtcilemkeljcidaaDoor.M
