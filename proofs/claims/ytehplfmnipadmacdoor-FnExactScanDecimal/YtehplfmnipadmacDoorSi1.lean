/-
  impl: the small parts of the scan: smallLetter, sortOf, (*scanner).take.
-/
import Derived.Test.YtehplfmnipadmacDoorApb
import Derived.Test.YtehplfmnipadmacDoorCls
namespace Go.Proofs.YtehplfmnipadmacDoor
open Go.RowKit
set_option linter.unusedVariables false

theorem smallLetter_any (c : Nat) (hc : c ≤ 2147483647) (w : World) (x : Int) (hx : x = (M.low c : Int)) :
    Calls Tryd.prog 29 #[.int .i32 (c : Int)] w fun e w' => e = .returned (.int .i32 x) ∧ w' = w := by
  have HX := hid hx; clear hx
  unfold M.low at HX
  by_cases h1 : 65 ≤ c
  · have h1' : (65 : Int) ≤ (c : Int) := by omega
    by_cases h2 : c ≤ 90
    · have h2' : (c : Int) ≤ 90 := by omega
      rw [if_pos ⟨h1, h2⟩] at HX
      go_enter Tryd.func29, Tryd.ntmps29
      go_wp2_with fail
      go_ret
      exact ⟨ret_int (by rw [HX.out]; omega), rfl⟩
    · have h2' : ¬ (c : Int) ≤ 90 := by omega
      rw [if_neg (by omega)] at HX
      go_enter Tryd.func29, Tryd.ntmps29
      go_wp2_with fail
      go_ret
      exact ⟨ret_int (by rw [HX.out]), rfl⟩
  · have h1' : ¬ (65 : Int) ≤ (c : Int) := by omega
    rw [if_neg (by omega)] at HX
    go_enter Tryd.func29, Tryd.ntmps29
    go_wp2_with fail
    go_ret
    exact ⟨ret_int (by rw [HX.out]), rfl⟩

theorem low_le (c : Nat) (hc : c ≤ 2147483647) : M.low c ≤ 2147483647 := by unfold M.low; split <;> omega

set_option maxHeartbeats 1000000 in
theorem sortOf_any (c : Nat) (hc : c ≤ 2147483647) (w : World) (x : Int) (hx : x = (M.sortOf c : Int)) :
    Calls Tryd.prog 24 #[.int .i32 (c : Int)] w fun e w' => e = .returned (.int .i64 x) ∧ w' = w := by
  have HX := hid hx; clear hx
  have k1 := smallLetter_any c hc w _ rfl
  have hl := low_le c hc
  unfold M.sortOf at HX
  generalize M.low c = y at *
  by_cases h1 : 48 ≤ y ∧ y ≤ 57
  · have h1' : (48 : Int) ≤ (y : Int) := by omega
    have h2' : (y : Int) ≤ 57 := by omega
    rw [if_pos h1] at HX
    go_enter Tryd.func24, Tryd.ntmps24
    go_wp2_with fail
    refine k1.mono ?_
    rintro e w1 ⟨rfl, rfl⟩
    go_wp2_with fail
    go_ret
    exact ⟨ret_int (by rw [HX.out]; rfl), rfl⟩
  · rw [if_neg h1] at HX
    have h1' : (decide ((48 : Int) ≤ (y : Int)) && decide ((y : Int) ≤ 57)) = false := by simp; omega
    by_cases h2 : y = 43 ∨ y = 45
    · rw [if_pos h2] at HX
      rcases h2 with rfl | rfl <;>
      · go_enter Tryd.func24, Tryd.ntmps24
        go_wp2_with fail
        refine k1.mono ?_
        rintro e w1 ⟨rfl, rfl⟩
        go_wp2_with fail
        go_ret
        exact ⟨ret_int (by rw [HX.out]; rfl), rfl⟩
    · rw [if_neg h2] at HX
      by_cases h3 : y = 46
      · rw [if_pos h3] at HX
        subst h3
        go_enter Tryd.func24, Tryd.ntmps24
        go_wp2_with fail
        refine k1.mono ?_
        rintro e w1 ⟨rfl, rfl⟩
        go_wp2_with fail
        go_ret
        exact ⟨ret_int (by rw [HX.out]; rfl), rfl⟩
      · rw [if_neg h3] at HX
        by_cases h4 : y = 101
        · rw [if_pos h4] at HX
          subst h4
          go_enter Tryd.func24, Tryd.ntmps24
          go_wp2_with fail
          refine k1.mono ?_
          rintro e w1 ⟨rfl, rfl⟩
          go_wp2_with fail
          go_ret
          exact ⟨ret_int (by rw [HX.out]; rfl), rfl⟩
        · rw [if_neg h4] at HX
          by_cases h5 : y = 105 ∨ y = 110
          · rw [if_pos h5] at HX
            rcases h5 with rfl | rfl <;>
            · go_enter Tryd.func24, Tryd.ntmps24
              go_wp2_with fail
              refine k1.mono ?_
              rintro e w1 ⟨rfl, rfl⟩
              go_wp2_with fail
              go_ret
              exact ⟨ret_int (by rw [HX.out]; rfl), rfl⟩
          · rw [if_neg h5] at HX
            have a1 : ((y : Int) == 43) = false := by rw [beq_eq_false_iff_ne]; omega
            have a2 : ((y : Int) == 45) = false := by rw [beq_eq_false_iff_ne]; omega
            have a3 : ((y : Int) == 46) = false := by rw [beq_eq_false_iff_ne]; omega
            have a4 : ((y : Int) == 101) = false := by rw [beq_eq_false_iff_ne]; omega
            have a5 : ((y : Int) == 105) = false := by rw [beq_eq_false_iff_ne]; omega
            have a6 : ((y : Int) == 110) = false := by rw [beq_eq_false_iff_ne]; omega
            by_cases h6 : 48 ≤ y
            · have h6' : (48 : Int) ≤ (y : Int) := by omega
              have h7' : ¬ (y : Int) ≤ 57 := by omega
              clear h1'
              go_enter Tryd.func24, Tryd.ntmps24
              go_wp2_with fail
              refine k1.mono ?_
              rintro e w1 ⟨rfl, rfl⟩
              go_wp2_with fail
              go_ret
              exact ⟨ret_int (by rw [HX.out]; rfl), rfl⟩
            · have h6' : ¬ (48 : Int) ≤ (y : Int) := by omega
              clear h1'
              go_enter Tryd.func24, Tryd.ntmps24
              go_wp2_with fail
              refine k1.mono ?_
              rintro e w1 ⟨rfl, rfl⟩
              go_wp2_with fail
              go_ret
              exact ⟨ret_int (by rw [HX.out]; rfl), rfl⟩
end Go.Proofs.YtehplfmnipadmacDoor
