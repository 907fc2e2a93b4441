/-
  Plain mathematics of a view into a list of limbs.
-/
import Derived.Test.YtcilemkeljcidaaDoorMath
namespace Go.Proofs.YtcilemkeljcidaaDoor.M
set_option linter.unusedVariables false
set_option maxRecDepth 100000

/-- n places of a list, from 'off' on. -/
def seg (xs : List Nat) (off n : Nat) : List Nat := (xs.drop off).take n

theorem seg_length (xs : List Nat) (off n : Nat) (h : off + n ≤ xs.length) : (seg xs off n).length = n := by simp [seg]; omega
theorem seg_get (xs : List Nat) (off n k : Nat) (hk : k < n) : (seg xs off n).getD k 0 = xs.getD (off + k) 0 := by
  simp [seg, List.getD_eq_getElem?_getD, hk]
theorem seg_all (xs : List Nat) (n : Nat) (h : xs.length = n) : seg xs 0 n = xs := by simp [seg, ← h]
theorem seg_lt {B : Nat} {xs : List Nat} (h : ∀ x ∈ xs, x < B) (off n : Nat) : ∀ x ∈ seg xs off n, x < B := fun x hx => h x (List.mem_of_mem_drop (List.mem_of_mem_take hx))

theorem val_set (B : Nat) (k : Nat) : ∀ (xs : List Nat) (x : Nat), k < xs.length → val B (xs.set k x) + B ^ k * xs.getD k 0 = val B xs + B ^ k * x := by
  induction k with
  | zero =>
    intro xs x h
    cases xs with
    | nil => simp at h
    | cons y r => simp [val]; omega
  | succ k ih =>
    intro xs x h
    cases xs with
    | nil => simp at h
    | cons y r =>
      have := ih r x (by simpa using h)
      simp only [List.set_cons_succ, val, List.getD_cons_succ, Nat.pow_succ]
      have e : B * (val B (r.set k x) + B ^ k * r.getD k 0) = B * (val B r + B ^ k * x) := by rw [this]
      simp only [Nat.mul_add] at e
      rw [Nat.mul_comm (B ^ k) B, Nat.mul_assoc, Nat.mul_assoc]
      omega

theorem seg_set (xs : List Nat) (off n k x : Nat) (hk : k < n) : seg (xs.set (off + k) x) off n = (seg xs off n).set k x := by
  unfold seg
  rw [List.drop_set, if_neg (by omega), List.take_set, Nat.add_sub_cancel_left]

theorem val_seg_set (B : Nat) (xs : List Nat) (off n k x : Nat) (hk : k < n) (hl : off + n ≤ xs.length) :
    val B (seg (xs.set (off + k) x) off n) + B ^ k * xs.getD (off + k) 0 = val B (seg xs off n) + B ^ k * x := by
  rw [seg_set xs off n k x hk]
  have := val_set B k (seg xs off n) x (by rw [seg_length xs off n hl]; exact hk)
  rwa [seg_get xs off n k hk] at this

theorem getD_set_ne (xs : List Nat) (i j x : Nat) (h : i ≠ j) : (xs.set i x).getD j 0 = xs.getD j 0 := by
  simp [List.getD_eq_getElem?_getD, h]
theorem getD_set_eq (xs : List Nat) (i x : Nat) (h : i < xs.length) : (xs.set i x).getD i 0 = x := by
  simp [List.getD_eq_getElem?_getD, h]

/-- What a function that writes into a view leaves: the length, the limbs' size, all that lies outside. -/
structure Wrote (B : Nat) (zs : List Nat) (off n : Nat) (cur : List Nat) : Prop where
  len : cur.length = zs.length
  lt : ∀ x ∈ cur, x < B
  out : ∀ j, (j < off ∨ off + n ≤ j) → cur.getD j 0 = zs.getD j 0

theorem Wrote.refl {B : Nat} {zs : List Nat} (h : ∀ x ∈ zs, x < B) (off n : Nat) : Wrote B zs off n zs := ⟨rfl, h, fun _ _ => rfl⟩
theorem Wrote.set {B : Nat} {zs cur : List Nat} {off n : Nat} (h : Wrote B zs off n cur) (k x : Nat) (hk : k < n) (hx : x < B) : Wrote B zs off n (cur.set (off + k) x) := by
  refine ⟨by rw [List.length_set]; exact h.len, fun y hy => ?_, fun j hj => ?_⟩
  · rcases List.mem_or_eq_of_mem_set hy with hy | rfl
    · exact h.lt y hy
    · exact hx
  · rw [getD_set_ne _ _ _ _ (by omega)]; exact h.out j hj

/-- One place of a sum that is written over its first part. -/
theorem add_over {V V' V0 T c c' P B x y o : Nat} (h : V + c * P = V0 + T) (hv : V' + P * x = V + P * o) (hs : o + B * c' = x + y + c) : V' + c' * (P * B) = V0 + (T + P * y) := by
  have e : P * (o + B * c') = P * (x + y + c) := by rw [hs]
  simp only [Nat.mul_add] at e
  rw [Nat.mul_comm c' (P * B), Nat.mul_assoc]
  rw [Nat.mul_comm c P] at h
  omega

end Go.Proofs.YtcilemkeljcidaaDoor.M
