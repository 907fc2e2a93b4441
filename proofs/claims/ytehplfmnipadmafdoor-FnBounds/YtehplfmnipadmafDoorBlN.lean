import Derived.Test.YtehplfmnipadmafDoorLen
namespace Go.Proofs.YtehplfmnipadmafDoor

open Go.RowKit

set_option linter.unusedVariables false
set_option maxRecDepth 100000

/-- The places of a number of limbs: those of the highest limb and 64 for each other. -/
theorem blen_L (a : Nat) (h : 0 < a) : blen a = 64 * ((L a).length - 1) + blen ((L a).getD ((L a).length - 1) 0) := by
  have h1 := M.dig_le (B := 18446744073709551616) (by omega) a h
  have h2 := M.lt_dig (B := 18446744073709551616) (by omega) a
  have hl : (L a).length ≠ 0 := by unfold L; rw [M.dig_pos (by omega) h]; simp
  obtain ⟨m, hm⟩ : ∃ m, (L a).length = m + 1 := ⟨(L a).length - 1, by omega⟩
  have hm' : (M.dig 18446744073709551616 a).length = m + 1 := hm
  rw [hm'] at h1 h2
  rw [hm, Nat.add_sub_cancel] at *
  have e : (18446744073709551616 : Nat) ^ m = 2 ^ (64 * m) := by rw [show (18446744073709551616 : Nat) = 2 ^ 64 from rfl, ← Nat.pow_mul]
  have hg : (L a).getD m 0 = a / 18446744073709551616 ^ m := by
    have hh : (M.dig 18446744073709551616 a).getD m 0 = a / 18446744073709551616 ^ m % 18446744073709551616 := by
      have : ∀ k n, (M.dig 18446744073709551616 n).getD k 0 = n / 18446744073709551616 ^ k % 18446744073709551616 := by
        intro k
        induction k with
        | zero =>
          intro n
          by_cases hn : 0 < n
          · rw [M.dig_pos (by omega) hn]; simp
          · have : n = 0 := by omega
            subst this; simp [M.dig_zero]
        | succ k ih =>
          intro n
          by_cases hn : 0 < n
          · rw [M.dig_pos (by omega) hn, List.getD_cons_succ, ih, Nat.div_div_eq_div_mul, Nat.pow_succ, Nat.mul_comm 18446744073709551616]
          · have : n = 0 := by omega
            subst this; simp [M.dig_zero]
      exact this m a
    unfold L
    rw [hh]
    apply Nat.mod_eq_of_lt
    apply Nat.div_lt_of_lt_mul
    rw [← Nat.pow_succ]; exact h2
  rw [hg, e]
  exact blen_shift (64 * m) a (by rw [← e]; exact h1)

set_option maxHeartbeats 400000 in
theorem bitLenN_any (ao : Option Addr) (n c : Nat) (a : Nat) (w : World) (hl : (L a).length = n) (hn : n ≤ 1048576) (hr : Rd w ao (L a)) (b : Nat) (hb : b = blen a) :
    Calls Tryd.prog 90 #[.slice ao n c] w fun e w' => e = .returned (.int .i64 (b : Int)) ∧ w' = w := by
  by_cases h0 : n = 0
  · subst h0
    have ha : a = 0 := by
      rcases Nat.eq_zero_or_pos a with h | h
      · exact h
      · unfold L at hl; rw [M.dig_pos (by omega) h] at hl; simp at hl
    have hb0 : b = 0 := by rw [hb, ha, blen_zero]
    subst hb0
    clear hb ha hl hr
    go_enter Tryd.func90, Tryd.ntmps90
    go_wp2_with fail
    go_ret
    exact ⟨rfl, rfl⟩
  · obtain ⟨m, rfl⟩ : ∃ m, n = m + 1 := ⟨n - 1, by omega⟩
    have ha : 0 < a := by
      rcases Nat.eq_zero_or_pos a with h | h
      · rw [h] at hl; simp [L, M.dig_zero] at hl
      · exact h
    have hbl := blen_L a ha
    rw [hl, Nat.add_sub_cancel] at hbl
    obtain ⟨b1, o1, hao, hcl⟩ := hr (by omega)
    have hck := hcl m (by omega)
    clear hcl
    have ht := (F64_L a).get m
    obtain ⟨t, htt⟩ : ∃ t : Nat, t = (L a).getD m 0 := ⟨_, rfl⟩
    rw [← htt] at hck ht hbl
    rw [← hb] at hbl
    have hne : (((m : Int) + 1) == 0) = false := by simp; omega
    have e1 : ((m + 1 : Nat) : Int) = (m : Int) + 1 := by omega
    have hltm : (m : Int) < (m : Int) + 1 := by omega
    have hlt64 := blen_le_of t 64 (by omega)
    obtain ⟨q, hq⟩ : ∃ q, q = blen t := ⟨_, rfl⟩
    rw [← hq] at hbl hlt64
    have HBL := hid hbl; have HT := hid htt; have HQ := hid hq
    clear hbl htt hb hq
    have kL := fun v : World => len64_any t v ht q HQ.out
    have w1 : IntKind.i64.wrap ((m : Int) * 64) = (m : Int) * 64 := by rw [IntKind.wrap_i64]; omega
    have w2 : IntKind.i64.wrap ((m : Int) * 64 + (q : Int)) = (m : Int) * 64 + (q : Int) := by rw [IntKind.wrap_i64]; omega
    go_enter Tryd.func90, Tryd.ntmps90
    go_wp2_with fail
    refine (kL _).mono ?_
    rintro e w3 ⟨rfl, rfl⟩
    go_wp2_with fail
    go_ret
    exact ⟨ret_int (by have := HBL.out; omega), rfl⟩

end Go.Proofs.YtehplfmnipadmafDoor

