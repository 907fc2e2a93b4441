import Derived.Lib.BitFns
import Derived.Test.YtcilemkeljcidaaDoorsCom
namespace Go.Proofs.YtcilemkeljcidaaDoor
open Go.RowKit
set_option linter.unusedVariables false
set_option maxRecDepth 100000
def blen (n : Nat) : Nat := (M.dig 2 n).length

theorem lt_blen (n : Nat) : n < 2 ^ blen n := M.lt_dig (by omega) n

theorem blen_le (n : Nat) (h : 0 < n) : 2 ^ (blen n - 1) ≤ n := M.dig_le (by omega) n h

theorem blen_zero : blen 0 = 0 := by simp [blen, M.dig_zero]

theorem blen_pos (n : Nat) (h : 0 < n) : 0 < blen n := by
 unfold blen; rw [M.dig_pos (by omega) h]; simp

theorem blen_half (n : Nat) (h : 0 < n) : blen n = 1 + blen (n / 2) := by
 unfold blen; rw [M.dig_pos (by omega) h]; simp; omega

theorem blen_unique (n k : Nat) (h1 : 2 ^ (k - 1) ≤ n) (h2 : n < 2 ^ k) (hk : 0 < k) : blen n = k := by
 have hn : 0 < n := Nat.lt_of_lt_of_le (Nat.pow_pos (by omega)) h1
 have h3 := lt_blen n
 have h4 := blen_le n hn
 have h5 := blen_pos n hn
 rcases Nat.lt_trichotomy (blen n) k with h | h | h
 · have : 2 ^ blen n ≤ 2 ^ (k - 1) := Nat.pow_le_pow_right (by omega) (by omega)
   omega
 · exact h
 · have : 2 ^ k ≤ 2 ^ (blen n - 1) := Nat.pow_le_pow_right (by omega) (by omega)
   omega

theorem blen_shift (k n : Nat) (h : 2 ^ k ≤ n) : blen n = k + blen (n / 2 ^ k) := by
 have hq : 0 < n / 2 ^ k := Nat.div_pos h (Nat.pow_pos (by omega))
 have h1 := lt_blen (n / 2 ^ k)
 have h2 := blen_le (n / 2 ^ k) hq
 have h3 := blen_pos _ hq
 refine blen_unique n _ ?_ ?_ (by omega)
 · rw [show k + blen (n / 2 ^ k) - 1 = (blen (n / 2 ^ k) - 1) + k by omega, Nat.pow_add]
   exact Nat.le_trans (Nat.mul_le_mul_right _ h2) (Nat.div_mul_le_self n _)
 · rw [Nat.pow_add]
   exact (Nat.div_lt_iff_lt_mul (Nat.pow_pos (by omega))).1 h1 |> fun h => by rwa [Nat.mul_comm] at h

theorem blen_le_of (n k : Nat) (h : n < 2 ^ k) : blen n ≤ k := M.len_of_lt (by omega) n k h

theorem blen_D (a : Nat) (h : 0 < a) : blen a = 32 * ((D a).length - 1) + blen ((D a).getD ((D a).length - 1) 0) := by
 have h1 := M.dig_le (B := 4294967296) (by omega) a h
 have h2 := M.lt_dig (B := 4294967296) (by omega) a
 have hl : (D a).length ≠ 0 := by unfold D; rw [M.dig_pos (by omega) h]; simp
 obtain ⟨m, hm⟩ : ∃ m, (D a).length = m + 1 := ⟨(D a).length - 1, by omega⟩
 have hm' : (M.dig 4294967296 a).length = m + 1 := hm
 rw [hm'] at h1 h2
 rw [hm, Nat.add_sub_cancel] at *
 have e : (4294967296 : Nat) ^ m = 2 ^ (32 * m) := by rw [show (4294967296 : Nat) = 2 ^ 32 from rfl, ← Nat.pow_mul]
 have hg : (D a).getD m 0 = a / 4294967296 ^ m := by
  have hh : (M.dig 4294967296 a).getD m 0 = a / 4294967296 ^ m % 4294967296 := by
   have : ∀ k n, (M.dig 4294967296 n).getD k 0 = n / 4294967296 ^ k % 4294967296 := by
    intro k
    induction k with
    | zero =>
      intro n
      by_cases hn : 0 < n
      · rw [M.dig_pos (by omega) hn]; simp
      · have : n = 0 := by omega
        subst this; simp [M.dig_zero]
    | succ k ih =>
      intro n
      by_cases hn : 0 < n
      · rw [M.dig_pos (by omega) hn, List.getD_cons_succ, ih, Nat.div_div_eq_div_mul, Nat.pow_succ, Nat.mul_comm 4294967296]
      · have : n = 0 := by omega
        subst this; simp [M.dig_zero]
   exact this m a
  unfold D
  rw [hh]
  apply Nat.mod_eq_of_lt
  apply Nat.div_lt_of_lt_mul
  rw [← Nat.pow_succ]; exact h2
 rw [hg, e]
 exact blen_shift (32 * m) a (by rw [← e]; exact h1)

end Go.Proofs.YtcilemkeljcidaaDoor
