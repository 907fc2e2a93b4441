import Derived.Test.YtchfkmompciooaaTb3
import Derived.OpenShut
namespace Go.Proofs.Ytchfkmompciooaa
open Go.RowKit
set_option linter.unusedVariables false

/-- The number of the highest bit of ten to the k, as the document says it. -/
def tb (k : Int) : Int := if 5200 < k ∨ k < -5200 then 0 else if 0 ≤ k then (blen (10 ^ k.toNat) : Int) - 1 else -(blen (10 ^ (-k).toNat) : Int)

theorem tb_out {k : Int} (h : 5200 < k ∨ k < -5200) : tb k = 0 := by unfold tb; rw [if_pos h]
theorem tb_pos (m : Nat) (h : m ≤ 5200) : tb (m : Int) = (blen (10 ^ m) : Int) - 1 := by
  unfold tb; rw [if_neg (by omega), if_pos (by omega), Int.toNat_natCast]
theorem tb_neg (m : Nat) (h : m ≤ 5200) (h0 : 0 < m) : tb (-(m : Int)) = -(blen (10 ^ m) : Int) := by
  unfold tb; rw [if_neg (by omega), if_neg (by omega), show (- -(m : Int)).toNat = m by omega]

theorem blen_tenK (m K : Nat) (h : 4 * m < K) : blen (10 ^ m) ≤ K :=
  blen_le_of _ _ (Nat.lt_of_le_of_lt (pow16 m) (Nat.pow_lt_pow_right (by omega) h))
theorem blen_ten (m : Nat) (h : m ≤ 5200) : blen (10 ^ m) ≤ 20801 := blen_tenK m _ (by omega)

set_option maxHeartbeats 1000000 in
theorem specTenBits_any (k : Int) (w : World) :
    Calls Try.prog 15 #[.int .i64 k] w fun e w' => e = .returned (.int .i64 (tb k)) ∧ Below w.heap.size w w' := by
  by_cases hk : 5200 < k ∨ k < -5200
  · rw [tb_out hk]
    by_cases h1 : 5200 < k
    · go_enter Try.func15, Try.ntmps15
      go_wp2_with fail
      go_ret
      exact ⟨rfl, Below.refl _ _⟩
    · have h2 : k < -5200 := by omega
      go_enter Try.func15, Try.ntmps15
      go_wp2_with fail
      go_ret
      exact ⟨rfl, Below.refl _ _⟩
  · by_cases h0 : 0 ≤ k
    · obtain ⟨m, rfl⟩ : ∃ m : Nat, k = m := ⟨k.toNat, by omega⟩
      have hm : m ≤ 5200 := by omega
      rw [tb_pos m hm]
      have g1 : ¬ (5200 : Int) < (m : Int) := by omega
      have g2 : ¬ (m : Int) < -5200 := by omega
      have hbl := blen_ten m hm
      have hD : (D (10 ^ m)).length ≤ 2401 := ten_len m _ 2401 (k := 0) (by omega) (by simp)
      obtain ⟨b, hb⟩ : ∃ b : Nat, b = blen (10 ^ m) := ⟨_, rfl⟩
      rw [← hb] at hbl ⊢
      have HB := hid hb; clear hb hk
      go_enter Try.func15, Try.ntmps15
      go_wp2_with fail
      refine (l1Ten_any m _ (by omega)).mono ?_
      rintro e v1 ⟨a1, c1, rfl, ho1, hb1⟩
      go_wp2_with fail
      refine (l1Bits_any a1 _ c1 (10 ^ m) _ rfl (by omega) (Rd.own ho1) b HB.out).mono ?_
      rintro e v2 ⟨rfl, rfl⟩
      go_wp2_with fail
      go_ret
      exact ⟨rfl, hb1⟩
    · obtain ⟨m, rfl⟩ : ∃ m : Nat, k = -(m : Int) := ⟨(-k).toNat, by omega⟩
      have hm : m ≤ 5200 := by omega
      rw [tb_neg m hm (by omega)]
      have g1 : ¬ (5200 : Int) < -(m : Int) := by omega
      have g2 : ¬ -(m : Int) < -5200 := by omega
      have hbl := blen_ten m hm
      have hD : (D (10 ^ m)).length ≤ 2401 := ten_len m _ 2401 (k := 0) (by omega) (by simp)
      obtain ⟨b, hb⟩ : ∃ b : Nat, b = blen (10 ^ m) := ⟨_, rfl⟩
      rw [← hb] at hbl ⊢
      have HB := hid hb; clear hb hk
      go_enter Try.func15, Try.ntmps15
      go_wp2_with fail
      try rw [show - -(m : Int) = (m : Int) by omega]
      refine (l1Ten_any m _ (by omega)).mono ?_
      rintro e v1 ⟨a1, c1, rfl, ho1, hb1⟩
      go_wp2_with fail
      refine (l1Bits_any a1 _ c1 (10 ^ m) _ rfl (by omega) (Rd.own ho1) b HB.out).mono ?_
      rintro e v2 ⟨rfl, rfl⟩
      go_wp2_with fail
      go_ret
      exact ⟨rfl, hb1⟩

set_option maxHeartbeats 1000000 in
theorem within_any (k : Int) (w : World) :
    Calls Try.prog 35 #[.int .i64 k] w fun e w' => e = .returned (.bool (decide (-5200 ≤ k ∧ k ≤ 5200))) ∧ w' = w := by
  by_cases h1 : -5200 ≤ k
  · by_cases h2 : k ≤ 5200
    · rw [decide_eq_true ⟨h1, h2⟩]
      go_enter Try.func35, Try.ntmps35
      go_wp2_with fail
      go_ret
      exact ⟨rfl, rfl⟩
    · rw [decide_eq_false (by omega)]
      go_enter Try.func35, Try.ntmps35
      go_wp2_with fail
      go_ret
      exact ⟨rfl, rfl⟩
  · rw [decide_eq_false (by omega)]
    go_enter Try.func35, Try.ntmps35
    go_wp2_with fail
    go_ret
    exact ⟨rfl, rfl⟩

set_option maxHeartbeats 1000000 in
theorem implTenBits_any (k : Int) (w : World) :
    Calls Try.prog 16 #[.int .i64 k] w fun e w' => e = .returned (.int .i64 (tb k)) ∧ Below w.heap.size w w' := by
  by_cases hk : 5200 < k ∨ k < -5200
  · rw [tb_out hk]
    have hd : decide (-5200 ≤ k ∧ k ≤ 5200) = false := decide_eq_false (by omega)
    go_enter Try.func16, Try.ntmps16
    go_wp2_with fail
    refine (within_any k _).mono ?_
    rw [hd]
    rintro e v1 ⟨rfl, rfl⟩
    go_wp2_with fail
    go_ret
    exact ⟨rfl, Below.refl _ _⟩
  · have hd : decide (-5200 ≤ k ∧ k ≤ 5200) = true := decide_eq_true (by omega)
    by_cases h0 : 0 ≤ k
    · obtain ⟨m, rfl⟩ : ∃ m : Nat, k = m := ⟨k.toNat, by omega⟩
      have hm : m ≤ 5200 := by omega
      rw [tb_pos m hm]
      clear hk
      go_enter Try.func16, Try.ntmps16
      go_wp2_with fail
      refine (within_any _ _).mono ?_
      rw [hd]
      rintro e v1 ⟨rfl, rfl⟩
      go_wp2_with fail
      refine (tenPower_pos m _ (by omega)).mono ?_
      rintro e v2 ⟨a, c, b, d, rfl, ra, rb, hb2⟩
      go_wp2_with fail
      refine (highest_pos a b c d _ _ m _ hm rfl rfl ra rb).mono ?_
      rintro e v3 ⟨rfl, hb3⟩
      go_wp2_with fail
      go_ret
      exact ⟨rfl, keepC1 hb2 hb3⟩
    · obtain ⟨m, rfl⟩ : ∃ m : Nat, k = -(m : Int) := ⟨(-k).toNat, by omega⟩
      have hm : m ≤ 5200 := by omega
      have h1 : 0 < m := by omega
      rw [tb_neg m hm h1]
      clear hk
      go_enter Try.func16, Try.ntmps16
      go_wp2_with fail
      refine (within_any _ _).mono ?_
      rw [hd]
      rintro e v1 ⟨rfl, rfl⟩
      go_wp2_with fail
      refine (tenPower_neg m _ (by omega)).mono ?_
      rintro e v2 ⟨a, c, b, d, rfl, ra, rb, hb2⟩
      go_wp2_with fail
      refine (highest_neg a b c d _ _ m _ h1 hm rfl rfl ra rb).mono ?_
      rintro e v3 ⟨rfl, hb3⟩
      go_wp2_with fail
      go_ret
      exact ⟨rfl, keepC1 hb2 hb3⟩

set_option maxHeartbeats 1000000 in
theorem lawTenBits (k : Int) (w : World) (w0 : (Lit.int .i64 k).wf = true) :
    Calls Try.prog 5 #[.int .i64 k] w fun e w' => e = .returned (.bool true) ∧ Below w.heap.size w w' := by
  have k1 := fun v : World => specTenBits_any k v
  have k2 := fun v : World => implTenBits_any k v
  generalize tb k = r at k1 k2
  go_enter Try.func5, Try.ntmps5
  go_wp2_with fail
  refine (k1 _).mono ?_
  rintro e v1 ⟨rfl, hb1⟩
  go_wp2_with fail
  refine (k2 _).mono ?_
  rintro e v2 ⟨rfl, hb2⟩
  have hne : (r != r) = false := by simp
  go_wp2_with fail
  go_ret
  exact ⟨rfl, keepC1 hb1 hb2⟩

end Go.Proofs.Ytchfkmompciooaa
