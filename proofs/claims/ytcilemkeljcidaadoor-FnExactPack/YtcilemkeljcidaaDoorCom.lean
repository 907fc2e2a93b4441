import Derived.Test.YtcilemkeljcidaaDoorW4
namespace Go.Proofs.YtcilemkeljcidaaDoor
open Go.RowKit
set_option linter.unusedVariables false
set_option maxRecDepth 100000

theorem L_len (xs : List Nat) (hx : F64 xs) : (L (V xs)).length ≤ xs.length := M.length_dig_le (by omega) xs hx
theorem L_take (xs : List Nat) (hx : F64 xs) : xs.take (L (V xs)).length = L (V xs) := by
  have key : ∀ (k : Nat), k ≤ xs.length → (∀ j, k ≤ j → j < xs.length → xs.getD j 0 = 0) → xs.take (L (V xs)).length = L (V xs) := by
    intro k
    induction k with
    | zero =>
      intro h hz
      have := M.take_dig (B := 18446744073709551616) (by omega) xs hx 0 h hz (Or.inl rfl)
      unfold L V; rw [← this]; simp
    | succ k ih =>
      intro h hz
      by_cases h0 : xs.getD k 0 = 0
      · exact ih (by omega) (fun j h1 h2 => by
          by_cases e : j = k
          · subst e; exact h0
          · exact hz j (by omega) h2)
      · have := M.take_dig (B := 18446744073709551616) (by omega) xs hx (k + 1) h hz (Or.inr h0)
        unfold L V; rw [← this]; simp [h]
  exact key xs.length (Nat.le_refl _) (fun j h1 h2 => by omega)

theorem Rd.trim {w : World} {ao : Option Addr} {xs : List Nat} (h : Rd w ao xs) (hx : F64 xs) : Rd w ao (L (V xs)) := by
  have := h.take (L (V xs)).length
  rwa [L_take xs hx] at this

theorem two_cells (w : World) (t : TypeId) (ao bo : Option Addr) (n m c d : Nat) : ∀ i, i < 2 → ∃ ao' cap, (w.alloc (.cells #[.slice ao n c, .slice bo m d] t)).cell? ⟨w.heap.size, i, none⟩ = some (.slice ao' ([n, m].getD i 0) cap) := by
  intro i hi
  match i, hi with
  | 0, _ => exact ⟨ao, c, by simp⟩
  | 1, _ => exact ⟨bo, d, by simp⟩

theorem D_lt (a : Nat) (m : Nat) (h : (D a).length ≤ m) : a < 4294967296 ^ m :=
  Nat.lt_of_lt_of_le (M.lt_dig (by omega) a) (Nat.pow_le_pow_right (by omega) h)

theorem X_takeD (a k : Nat) (h : (D a).length ≤ k) : X ((D a).take k) = a := by rw [List.take_of_length_le h, X_D]

/-- A new list of limbs is handed back; nothing old has turned. -/
def Ret (w w' : World) (e : Ending) (r : List Nat) : Prop :=
  ∃ ao cap, e = .returned (.slice ao r.length cap) ∧ w'.ownsRow w.heap.size 27 1 (.slice ao r.length cap) r.length (U r) ∧ Below w.heap.size w w'

theorem Ret.nil {w w' : World} (h : Below w.heap.size w w') : Ret w w' (.returned (.slice none 0 0)) [] := ⟨none, 0, rfl, World.ownsRow_nil _ _ _ _, h⟩

theorem Ret.later {w0 w w' : World} {e : Ending} {r : List Nat} (h : Ret w w' e r) (hb : Below w0.heap.size w0 w) : Ret w0 w' e r := by
  obtain ⟨ao, cap, he, ho, hb'⟩ := h
  exact ⟨ao, cap, he, own_base ho hb.size, hb.trans (hb'.mono hb.size)⟩

theorem Blk.ownPre {w : World} {base g n c : Nat} {zs : List Nat} (h : Blk w g zs) (hb : base ≤ g) (hn : n ≤ zs.length) (hc : zs.length = c) (hm : c ≤ maxLen) : w.ownsRow base 27 1 (.slice (some ⟨g, 0, none⟩) n c) n (U (zs.take n)) := by
  subst hc
  refine ⟨by rw [U_length]; simp; omega, .inr ⟨g, zs.length, (U zs).toArray, rfl, hb, h, hn, hm, by simp [U], ?_⟩⟩
  simp [U, List.map_take]

theorem D_len (xs : List Nat) (hx : F64 xs) : (D (V xs)).length ≤ 2 * xs.length := by
  have := M.length_dig_le (B := 4294967296) (by omega) (M.halves xs) (M.halves_lt xs hx)
  rw [M.val_halves, M.halves_length] at this
  exact this

theorem M.len_of_lt {B : Nat} (hB : 1 < B) (a K : Nat) (h : a < B ^ K) : (M.dig B a).length ≤ K := by
  rcases Nat.lt_or_ge K (M.dig B a).length with h1 | h1
  · have h8 : 0 < a := by
      rcases Nat.eq_zero_or_pos a with e | e
      · rw [e] at h1; simp [M.dig_zero] at h1
      · exact e
    have h9 := M.dig_le hB _ h8
    have h10 : B ^ K ≤ B ^ ((M.dig B a).length - 1) := Nat.pow_le_pow_right (by omega) (by omega)
    omega
  · exact h1

theorem M.len_add {B : Nat} (hB : 1 < B) (a b K : Nat) (ha : (M.dig B a).length ≤ K) (hb : (M.dig B b).length ≤ K) : (M.dig B (a + b)).length ≤ K + 1 := by
  refine M.len_of_lt hB _ _ ?_
  have h1 := Nat.lt_of_lt_of_le (M.lt_dig hB a) (Nat.pow_le_pow_right (by omega) ha)
  have h2 := Nat.lt_of_lt_of_le (M.lt_dig hB b) (Nat.pow_le_pow_right (by omega) hb)
  rw [Nat.pow_succ]
  have h3 : B ^ K * 2 ≤ B ^ K * B := Nat.mul_le_mul_left _ hB
  omega

theorem L_lt (a : Nat) (m : Nat) (h : (L a).length ≤ m) : a < 18446744073709551616 ^ m :=
  Nat.lt_of_lt_of_le (M.lt_dig (by omega) a) (Nat.pow_le_pow_right (by omega) h)

end Go.Proofs.YtcilemkeljcidaaDoor
