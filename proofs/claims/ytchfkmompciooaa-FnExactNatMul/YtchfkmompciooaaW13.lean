import Derived.Test.YtchfkmompciooaaW13a
import Derived.Test.YtchfkmompciooaaW12
namespace Go.Proofs.Ytchfkmompciooaa
open Go.RowKit
set_option linter.unusedVariables false

set_option maxHeartbeats 1000000 in
theorem specNatMul_any (ao bo : Option Addr) (n m c d : Nat) (xs ys : List Nat) (w : World) (hl : xs.length = n) (hm : ys.length = m) (hn : n ≤ 1048576) (hn2 : m ≤ 1048576) (hx : F64 xs) (hy : F64 ys) (hr : Rd w ao xs) (hr2 : Rd w bo ys) :
    Calls Try.prog 25 #[.slice ao n c, .slice bo m d] w fun e w' => Ret w w' e (mulDoc xs ys) := by
  by_cases h1 : n ≤ 1200
  · by_cases h2 : m ≤ 1200
    · have hdoc : mulDoc xs ys = L (V xs * V ys) := by unfold mulDoc; rw [if_pos (by omega)]
      rw [hdoc]
      have d1 : decide (n ≤ 1200) = true := by simpa using h1
      have d2 : decide (m ≤ 1200) = true := by simpa using h2
      go_enter Try.func25, Try.ntmps25
      go_wp2_with fail
      refine (l1Fits_any ao n c _ (by omega)).mono ?_
      rintro e w1 ⟨rfl, rfl⟩
      rw [d1]
      go_wp2_with fail
      refine (l1Fits_any bo m d _ (by omega)).mono ?_
      rintro e w2 ⟨rfl, rfl⟩
      rw [d2]
      go_wp2_with fail
      refine (l1In_any ao n c xs _ hl (by omega) hx hr).mono ?_
      rintro e w3 ⟨ao1, cap1, rfl, ho1, hb1⟩
      go_wp2_with fail
      refine (l1In_any bo m d ys _ hm (by omega) hy (hr2.below hb1)).mono ?_
      rintro e w4 ⟨ao2, cap2, rfl, ho2, hb2⟩
      go_wp2_with fail
      have hs1 := D_len xs hx
      have hs2 := D_len ys hy
      refine (l1Mul_any ao1 ao2 _ _ cap1 cap2 (V xs) (V ys) _ rfl rfl (by omega) (by omega) ((Rd.own ho1).below hb2) (Rd.own ho2)).mono ?_
      rintro e w5 ⟨ao3, cap3, rfl, ho3, hb3⟩
      have b3 := (hb1.trans (hb2.mono hb1.size)).trans (hb3.mono (Nat.le_trans hb1.size hb2.size))
      go_wp2_with fail
      have hs3 : (D (V xs * V ys)).length ≤ 2400 + 2400 := M.len_mul (by omega) (V xs) (V ys) 2400 2400 (show (D (V xs)).length ≤ 2400 by omega) (show (D (V ys)).length ≤ 2400 by omega)
      refine (l1Out_any ao3 _ cap3 (V xs * V ys) _ rfl (by omega) (Rd.own ho3)).mono ?_
      rintro e w6 ⟨ao4, cap4, rfl, ho4, hb4⟩
      go_wp2_with fail
      go_ret
      exact ⟨ao4, cap4, rfl, own_base ho4 b3.size, b3.trans (hb4.mono b3.size)⟩
    · have hdoc : mulDoc xs ys = [] := by unfold mulDoc; rw [if_neg (by omega)]
      rw [hdoc]
      have d1 : decide (n ≤ 1200) = true := by simpa using h1
      have d2 : decide (m ≤ 1200) = false := by simpa using h2
      go_enter Try.func25, Try.ntmps25
      go_wp2_with fail
      refine (l1Fits_any ao n c _ (by omega)).mono ?_
      rintro e w1 ⟨rfl, rfl⟩
      rw [d1]
      go_wp2_with fail
      refine (l1Fits_any bo m d _ (by omega)).mono ?_
      rintro e w2 ⟨rfl, rfl⟩
      rw [d2]
      go_wp2_with fail
      go_ret
      exact Ret.nil (Below.refl _ _)
  · have hdoc : mulDoc xs ys = [] := by unfold mulDoc; rw [if_neg (by omega)]
    rw [hdoc]
    have d1 : decide (n ≤ 1200) = false := by simpa using h1
    go_enter Try.func25, Try.ntmps25
    go_wp2_with fail
    refine (l1Fits_any ao n c _ (by omega)).mono ?_
    rintro e w1 ⟨rfl, rfl⟩
    rw [d1]
    go_wp2_with fail
    go_ret
    exact Ret.nil (Below.refl _ _)

end Go.Proofs.Ytchfkmompciooaa
