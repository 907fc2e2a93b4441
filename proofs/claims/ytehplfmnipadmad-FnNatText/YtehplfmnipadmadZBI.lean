import Derived.Test.YtehplfmnipadmadW11
import Derived.Test.YtehplfmnipadmadW12
namespace Go.Proofs.Ytehplfmnipadmad
open Go.RowKit
set_option linter.unusedVariables false
set_option maxRecDepth 100000

theorem M.len_mul {B : Nat} (hB : 1 < B) (a b K K' : Nat) (ha : (M.dig B a).length ≤ K) (hb : (M.dig B b).length ≤ K') : (M.dig B (a * b)).length ≤ K + K' := by
  refine M.len_of_lt hB _ _ ?_
  have h1 := Nat.lt_of_lt_of_le (M.lt_dig hB a) (Nat.pow_le_pow_right (by omega) ha)
  have h2 := Nat.lt_of_lt_of_le (M.lt_dig hB b) (Nat.pow_le_pow_right (by omega) hb)
  rw [Nat.pow_add]
  exact Nat.mul_lt_mul'' h1 h2

/-- What NatMul is to answer. -/
def mulDoc (xs ys : List Nat) : List Nat := if xs.length ≤ 1200 ∧ ys.length ≤ 1200 then L (V xs * V ys) else []

theorem mulDoc_len (xs ys : List Nat) (hx : F64 xs) (hy : F64 ys) : (mulDoc xs ys).length ≤ 2400 := by
  unfold mulDoc
  split
  · next h =>
    have h1 := L_len xs hx
    have h2 := L_len ys hy
    have := M.len_mul (B := 18446744073709551616) (by omega) (V xs) (V ys) 1200 1200 (show (L (V xs)).length ≤ 1200 by omega) (show (L (V ys)).length ≤ 1200 by omega)
    exact this
  · simp

set_option maxHeartbeats 1000000 in
theorem implNatMul_any (ao bo : Option Addr) (n m c d : Nat) (xs ys : List Nat) (w : World) (hl : xs.length = n) (hm : ys.length = m) (hc : n ≤ c) (hd : m ≤ d) (hn : n ≤ 1048576) (hn2 : m ≤ 1048576) (hx : F64 xs) (hy : F64 ys) (hr : Rd w ao xs) (hr2 : Rd w bo ys) :
    Calls Try.prog 19 #[.slice ao n c, .slice bo m d] w fun e w' => Ret w w' e (mulDoc xs ys) := by
  by_cases h1 : n ≤ 1200 ∧ m ≤ 1200
  · have hdoc : mulDoc xs ys = L (V xs * V ys) := by unfold mulDoc; rw [if_pos (by omega)]
    rw [hdoc]
    have hall : true = [n, m].all (fun x => decide (x ≤ 1200)) := by simp [h1]
    have hall' := hid hall; clear hall
    go_enter Try.func19, Try.ntmps19
    go_wp2_with fail
    refine (short_any _ 2 [n, m] true _ rfl (by omega) (by simp; omega) hall'.out (two_cells _ _ _ _ _ _ _ _)).mono ?_
    rintro e w1 ⟨rfl, hw1⟩
    have hb1 : Below w.heap.size w w1 := by rw [hw1]; exact (Below.refl _ _).alloc (Nat.le_refl _) _
    clear hw1
    go_wp2_with fail
    refine (trim_any ao n c xs _ hl hc (by omega) hx (hr.below hb1)).mono ?_
    rintro e w2 ⟨rfl, rfl⟩
    go_wp2_with fail
    refine (trim_any bo m d ys _ hm hd (by omega) hy (hr2.below hb1)).mono ?_
    rintro e w3 ⟨rfl, rfl⟩
    go_wp2_with fail
    have s1 := L_len xs hx
    have s2 := L_len ys hy
    refine (mul_any ao bo _ _ c d (V xs) (V ys) _ rfl rfl (by omega) (by omega) ((hr.below hb1).trim hx) ((hr2.below hb1).trim hy)).mono ?_
    rintro e w4 hret
    obtain ⟨ao', cap', rfl, ho, hb⟩ := hret.later hb1
    go_wp2_with fail
    go_ret
    exact ⟨ao', cap', rfl, ho, hb⟩
  · have hdoc : mulDoc xs ys = [] := by unfold mulDoc; rw [if_neg (by omega)]
    rw [hdoc]
    have hall : false = [n, m].all (fun x => decide (x ≤ 1200)) := by simp; omega
    have hall' := hid hall; clear hall
    go_enter Try.func19, Try.ntmps19
    go_wp2_with fail
    refine (short_any _ 2 [n, m] false _ rfl (by omega) (by simp; omega) hall'.out (two_cells _ _ _ _ _ _ _ _)).mono ?_
    rintro e w1 ⟨rfl, hw1⟩
    have hb1 : Below w.heap.size w w1 := by rw [hw1]; exact (Below.refl _ _).alloc (Nat.le_refl _) _
    clear hw1
    go_wp2_with fail
    go_ret
    exact Ret.nil hb1

end Go.Proofs.Ytehplfmnipadmad

namespace Go.Proofs.Ytehplfmnipadmad
open Go.RowKit
set_option linter.unusedVariables false
set_option maxRecDepth 100000

set_option maxHeartbeats 1000000 in
theorem specNatMul_any (ao bo : Option Addr) (n m c d : Nat) (xs ys : List Nat) (w : World) (hl : xs.length = n) (hm : ys.length = m) (hn : n ≤ 1048576) (hn2 : m ≤ 1048576) (hx : F64 xs) (hy : F64 ys) (hr : Rd w ao xs) (hr2 : Rd w bo ys) :
    Calls Try.prog 14 #[.slice ao n c, .slice bo m d] w fun e w' => Ret w w' e (mulDoc xs ys) := by
  by_cases h1 : n ≤ 1200
  · by_cases h2 : m ≤ 1200
    · have hdoc : mulDoc xs ys = L (V xs * V ys) := by unfold mulDoc; rw [if_pos (by omega)]
      rw [hdoc]
      have d1 : decide (n ≤ 1200) = true := by simpa using h1
      have d2 : decide (m ≤ 1200) = true := by simpa using h2
      go_enter Try.func14, Try.ntmps14
      go_wp2_with fail
      refine (l1Fits_any ao n c _ (by omega)).mono ?_
      rintro e w1 ⟨rfl, rfl⟩
      rw [d1]
      go_wp2_with fail
      refine (l1Fits_any bo m d _ (by omega)).mono ?_
      rintro e w2 ⟨rfl, rfl⟩
      rw [d2]
      go_wp2_with fail
      refine (l1In_any ao n c xs _ hl (by omega) hx hr).mono ?_
      rintro e w3 ⟨ao1, cap1, rfl, ho1, hb1⟩
      go_wp2_with fail
      refine (l1In_any bo m d ys _ hm (by omega) hy (hr2.below hb1)).mono ?_
      rintro e w4 ⟨ao2, cap2, rfl, ho2, hb2⟩
      go_wp2_with fail
      have hs1 := D_len xs hx
      have hs2 := D_len ys hy
      refine (l1Mul_any ao1 ao2 _ _ cap1 cap2 (V xs) (V ys) _ rfl rfl (by omega) (by omega) ((Rd.own ho1).below hb2) (Rd.own ho2)).mono ?_
      rintro e w5 ⟨ao3, cap3, rfl, ho3, hb3⟩
      have b3 := (hb1.trans (hb2.mono hb1.size)).trans (hb3.mono (Nat.le_trans hb1.size hb2.size))
      go_wp2_with fail
      have hs3 : (D (V xs * V ys)).length ≤ 2400 + 2400 := M.len_mul (by omega) (V xs) (V ys) 2400 2400 (show (D (V xs)).length ≤ 2400 by omega) (show (D (V ys)).length ≤ 2400 by omega)
      refine (l1Out_any ao3 _ cap3 (V xs * V ys) _ rfl (by omega) (Rd.own ho3)).mono ?_
      rintro e w6 ⟨ao4, cap4, rfl, ho4, hb4⟩
      go_wp2_with fail
      go_ret
      exact ⟨ao4, cap4, rfl, own_base ho4 b3.size, b3.trans (hb4.mono b3.size)⟩
    · have hdoc : mulDoc xs ys = [] := by unfold mulDoc; rw [if_neg (by omega)]
      rw [hdoc]
      have d1 : decide (n ≤ 1200) = true := by simpa using h1
      have d2 : decide (m ≤ 1200) = false := by simpa using h2
      go_enter Try.func14, Try.ntmps14
      go_wp2_with fail
      refine (l1Fits_any ao n c _ (by omega)).mono ?_
      rintro e w1 ⟨rfl, rfl⟩
      rw [d1]
      go_wp2_with fail
      refine (l1Fits_any bo m d _ (by omega)).mono ?_
      rintro e w2 ⟨rfl, rfl⟩
      rw [d2]
      go_wp2_with fail
      go_ret
      exact Ret.nil (Below.refl _ _)
  · have hdoc : mulDoc xs ys = [] := by unfold mulDoc; rw [if_neg (by omega)]
    rw [hdoc]
    have d1 : decide (n ≤ 1200) = false := by simpa using h1
    go_enter Try.func14, Try.ntmps14
    go_wp2_with fail
    refine (l1Fits_any ao n c _ (by omega)).mono ?_
    rintro e w1 ⟨rfl, rfl⟩
    rw [d1]
    go_wp2_with fail
    go_ret
    exact Ret.nil (Below.refl _ _)

end Go.Proofs.Ytehplfmnipadmad
