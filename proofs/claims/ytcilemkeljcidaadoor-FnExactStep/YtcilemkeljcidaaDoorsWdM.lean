import Derived.WalkKit
namespace Go.Proofs.YtcilemkeljcidaaDoor.M
set_option linter.unusedVariables false
set_option maxRecDepth 100000
def hiN (X : Nat) : Nat := X / 18446744073709551616

def loN (X : Nat) : Nat := X % 18446744073709551616

theorem hl (X : Nat) : X = hiN X * 18446744073709551616 + loN X := by unfold hiN loN; omega

theorem loLt (X : Nat) : loN X < 18446744073709551616 := by unfold loN; omega

theorem hiLt {X : Nat} (h : X < 2 ^ 128) : hiN X < 18446744073709551616 := by unfold hiN; omega

theorem hiOf (h l : Nat) (hl : l < 18446744073709551616) : hiN (h * 18446744073709551616 + l) = h := by unfold hiN; omega

theorem loOf (h l : Nat) (hl : l < 18446744073709551616) : loN (h * 18446744073709551616 + l) = l := by unfold loN; omega

theorem hl_eq {X Y : Nat} (h1 : hiN X = hiN Y) (h2 : loN X = loN Y) : X = Y := by rw [hl X, hl Y, h1, h2]

theorem hi_small {X : Nat} (h : X < 18446744073709551616) : hiN X = 0 := by unfold hiN; omega

theorem lo_small {X : Nat} (h : X < 18446744073709551616) : loN X = X := by unfold loN; omega

theorem shl_small (X n : Nat) (h : X < 2 ^ 128) (hn : n < 64) :
 hiN (X * 2 ^ n % 2 ^ 128) = (hiN X * 2 ^ n) % 18446744073709551616 + loN X / 2 ^ (64 - n) ∧ loN (X * 2 ^ n % 2 ^ 128) = loN X * 2 ^ n % 18446744073709551616 ∧
 loN X / 2 ^ (64 - n) < 2 ^ n ∧ ∃ k, (hiN X * 2 ^ n) % 18446744073709551616 = k * 2 ^ n := by
 have hp : 0 < 2 ^ n := Nat.pow_pos (by omega)
 have hq : 0 < 2 ^ (64 - n) := Nat.pow_pos (by omega)
 have hB : 2 ^ (64 - n) * 2 ^ n = 18446744073709551616 := by rw [← Nat.pow_add, show 64 - n + n = 64 by omega]
 have hX := hl X
 have h1 := loLt X
 have h2 := hiLt h
 generalize hiN X = a at *
 generalize loN X = b at *
 generalize 2 ^ n = P at *
 generalize 2 ^ (64 - n) = Q at *
 have e1 : b * P / 18446744073709551616 = b / Q := by rw [← hB, Nat.mul_div_mul_right _ _ hp]
 have c3 : b / Q < P := by apply Nat.div_lt_of_lt_mul; rw [hB]; exact h1
 have e2 : X * P = a * P * 18446744073709551616 + b * P := by
  rw [hX, Nat.add_mul, Nat.mul_right_comm]
 have e3 : X * P / 18446744073709551616 = a * P + b / Q := by
  rw [e2, Nat.add_comm, Nat.add_mul_div_right _ _ (by omega), e1, Nat.add_comm]
 have e4 : a * P % 18446744073709551616 = (a % Q) * P := by rw [← hB, Nat.mul_mod_mul_right]
 have c4 : (a % Q) * P + P ≤ 18446744073709551616 := by
  rw [← hB]
  have : a % Q + 1 ≤ Q := Nat.mod_lt _ hq
  have := Nat.mul_le_mul_right P this
  rw [Nat.add_mul] at this
  omega
 refine ⟨?_, ?_, c3, a % Q, e4⟩
 · unfold hiN
   rw [show (2 : Nat) ^ 128 = 18446744073709551616 * 18446744073709551616 from rfl, Nat.mod_mul_right_div_self, e3, Nat.add_mod, e4]
   have h5 : b / Q % 18446744073709551616 = b / Q := Nat.mod_eq_of_lt (by have := Nat.div_le_self b Q; omega)
   rw [h5, Nat.mod_eq_of_lt (by omega)]
 · unfold loN
   rw [show (2 : Nat) ^ 128 = 18446744073709551616 * 18446744073709551616 from rfl, Nat.mod_mul_right_mod, e2, Nat.mul_add_mod_self_right]

theorem shl_great (X n : Nat) (h : X < 2 ^ 128) (hn : 64 ≤ n) (hm : n < 128) :
 hiN (X * 2 ^ n % 2 ^ 128) = loN X * 2 ^ (n - 64) % 18446744073709551616 ∧ loN (X * 2 ^ n % 2 ^ 128) = 0 := by
 have hX := hl X
 have hB : 2 ^ n = 2 ^ (n - 64) * 18446744073709551616 := by
  rw [show (18446744073709551616 : Nat) = 2 ^ 64 from rfl, ← Nat.pow_add]; congr 1; omega
 rw [hB]
 generalize hiN X = a at *
 generalize loN X = b at *
 generalize 2 ^ (n - 64) = P at *
 have e : X * (P * 18446744073709551616) % 2 ^ 128 = (b * P % 18446744073709551616) * 18446744073709551616 := by
  rw [← Nat.mul_assoc, show (2 : Nat) ^ 128 = 18446744073709551616 * 18446744073709551616 from rfl, Nat.mul_mod_mul_right, hX, Nat.add_mul, Nat.mul_right_comm, Nat.mul_add_mod_self_right]
 rw [e]
 unfold hiN loN
 omega

theorem shr_small (X n : Nat) (h : X < 2 ^ 128) (hn : n < 64) :
 hiN (X / 2 ^ n) = hiN X / 2 ^ n ∧ loN (X / 2 ^ n) = loN X / 2 ^ n + hiN X * 2 ^ (64 - n) % 18446744073709551616 ∧
 loN X / 2 ^ n < 2 ^ (64 - n) ∧ ∃ k, hiN X * 2 ^ (64 - n) % 18446744073709551616 = k * 2 ^ (64 - n) := by
 have hp : 0 < 2 ^ n := Nat.pow_pos (by omega)
 have hq : 0 < 2 ^ (64 - n) := Nat.pow_pos (by omega)
 have hB : 2 ^ (64 - n) * 2 ^ n = 18446744073709551616 := by rw [← Nat.pow_add, show 64 - n + n = 64 by omega]
 have hX := hl X
 have h1 := loLt X
 have h2 := hiLt h
 have e0 : hiN (X / 2 ^ n) = hiN X / 2 ^ n := by
  unfold hiN; rw [Nat.div_div_eq_div_mul, Nat.div_div_eq_div_mul, Nat.mul_comm]
 refine ⟨e0, ?_⟩
 unfold loN at h1 ⊢
 generalize hiN X = a at *
 change _ = a * 18446744073709551616 + X % 18446744073709551616 at hX
 generalize X % 18446744073709551616 = b at *
 generalize 2 ^ n = P at *
 generalize 2 ^ (64 - n) = Q at *
 have e1 : X / P = a * Q + b / P := by
  rw [hX, ← hB, ← Nat.mul_assoc, Nat.add_comm, Nat.add_mul_div_right _ _ hp, Nat.add_comm]
 have c3 : b / P < Q := by apply Nat.div_lt_of_lt_mul; rw [Nat.mul_comm, hB]; exact h1
 have e4 : a * Q % 18446744073709551616 = (a % P) * Q := by rw [← hB, Nat.mul_comm Q P, Nat.mul_mod_mul_right]
 have c4 : (a % P) * Q + Q ≤ 18446744073709551616 := by
  rw [← hB, Nat.mul_comm Q P]
  have : a % P + 1 ≤ P := Nat.mod_lt _ hp
  have := Nat.mul_le_mul_right Q this
  rw [Nat.add_mul] at this
  omega
 refine ⟨?_, c3, a % P, e4⟩
 rw [e1, Nat.add_mod, e4]
 have h5 : b / P % 18446744073709551616 = b / P := Nat.mod_eq_of_lt (by have := Nat.div_le_self b P; omega)
 rw [h5, Nat.mod_eq_of_lt (by omega), Nat.add_comm]

theorem shr_great (X n : Nat) (h : X < 2 ^ 128) (hn : 64 ≤ n) (hm : n < 128) :
 hiN (X / 2 ^ n) = 0 ∧ loN (X / 2 ^ n) = hiN X / 2 ^ (n - 64) := by
 have h2 := hiLt h
 have hB : 2 ^ n = 18446744073709551616 * 2 ^ (n - 64) := by
  rw [show (18446744073709551616 : Nat) = 2 ^ 64 from rfl, ← Nat.pow_add]; congr 1; omega
 have e : X / 2 ^ n = hiN X / 2 ^ (n - 64) := by unfold hiN; rw [hB, Nat.div_div_eq_div_mul]
 have h3 : hiN X / 2 ^ (n - 64) ≤ hiN X := Nat.div_le_self _ _
 rw [e, hi_small (by omega), lo_small (by omega)]
 exact ⟨rfl, rfl⟩

theorem plus_hl (X Y : Nat) (hX : X < 2 ^ 128) (hY : Y < 2 ^ 128) :
 loN ((X + Y) % 2 ^ 128) = (loN X + loN Y) % 18446744073709551616 ∧
 hiN ((X + Y) % 2 ^ 128) = (hiN X + hiN Y + (if (loN X + loN Y) % 18446744073709551616 < loN Y then 1 else 0)) % 18446744073709551616 := by
 have a := hl X
 have b := hl Y
 have a1 := loLt X
 have b1 := loLt Y
 have a2 := hiLt hX
 have b2 := hiLt hY
 generalize hiN X = xh at *
 generalize loN X = xl at *
 generalize hiN Y = yh at *
 generalize loN Y = yl at *
 unfold hiN loN
 by_cases h : (xl + yl) % 18446744073709551616 < yl
 · simp only [h, if_true]; omega
 · simp only [h, if_false]; omega

theorem minus_hl (X Y : Nat) (hX : X < 2 ^ 128) (hY : Y < 2 ^ 128) :
 loN ((X + (2 ^ 128 - Y)) % 2 ^ 128) = (loN X + 18446744073709551616 - loN Y) % 18446744073709551616 ∧
 hiN ((X + (2 ^ 128 - Y)) % 2 ^ 128) = (hiN X + 36893488147419103232 - hiN Y - (if loN X < loN Y then 1 else 0)) % 18446744073709551616 := by
 have a := hl X
 have b := hl Y
 have a1 := loLt X
 have b1 := loLt Y
 have a2 := hiLt hX
 have b2 := hiLt hY
 generalize hiN X = xh at *
 generalize loN X = xl at *
 generalize hiN Y = yh at *
 generalize loN Y = yl at *
 unfold hiN loN
 by_cases h : xl < yl
 · simp only [h, if_true]; omega
 · simp only [h, if_false]; omega

end Go.Proofs.YtcilemkeljcidaaDoor.M
