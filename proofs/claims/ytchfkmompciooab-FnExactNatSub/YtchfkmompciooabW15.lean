import Derived.Test.YtchfkmompciooabW14
import Derived.Test.YtchfkmompciooabW15a
namespace Go.Proofs.Ytchfkmompciooab
open Go.RowKit
set_option linter.unusedVariables false

/-- What NatSub is to answer. -/
def subOk (xs ys : List Nat) : Bool := decide (xs.length ≤ 1200) && decide (ys.length ≤ 1200) && decide (V ys ≤ V xs)
def subDoc (xs ys : List Nat) : List Nat := if subOk xs ys then L (V xs - V ys) else []

theorem subDoc_len (xs ys : List Nat) (hx : F64 xs) (hy : F64 ys) : (subDoc xs ys).length ≤ 2400 := by
  unfold subDoc
  split
  · next h =>
    simp [subOk] at h
    have h1 := L_len xs hx
    have h2 : V xs - V ys < 18446744073709551616 ^ 1200 := Nat.lt_of_le_of_lt (Nat.sub_le _ _) (L_lt (V xs) 1200 (by omega))
    have := M.len_of_lt (B := 18446744073709551616) (by omega) _ _ h2
    exact Nat.le_trans this (by omega)
  · simp

set_option maxHeartbeats 1000000 in
theorem implNatSub_any (ao bo : Option Addr) (n m c d : Nat) (xs ys : List Nat) (w : World) (hl : xs.length = n) (hm : ys.length = m) (hc : n ≤ c) (hd : m ≤ d) (hn : n ≤ 1048576) (hn2 : m ≤ 1048576) (hx : F64 xs) (hy : F64 ys) (hr : Rd w ao xs) (hr2 : Rd w bo ys) :
    Calls Try.prog 14 #[.slice ao n c, .slice bo m d] w fun e w' => RetB w w' e (subDoc xs ys) (subOk xs ys) := by
  by_cases h1 : n ≤ 1200 ∧ m ≤ 1200
  · have hall : true = [n, m].all (fun x => decide (x ≤ 1200)) := by simp [h1]
    have hall' := hid hall; clear hall
    have s1 := L_len xs hx
    have s2 := L_len ys hy
    by_cases hba : V ys ≤ V xs
    · have hok : subOk xs ys = true := by simp [subOk]; omega
      have hdoc : subDoc xs ys = L (V xs - V ys) := by unfold subDoc; rw [hok]; rfl
      rw [hdoc, hok]
      have hcmp := cmpI_nonneg hba
      go_enter Try.func14, Try.ntmps14
      go_wp2_with fail
      refine (short_any _ 2 [n, m] true _ rfl (by omega) (by simp; omega) hall'.out (two_cells _ _ _ _ _ _ _ _)).mono ?_
      rintro e w1 ⟨rfl, hw1⟩
      have hb1 : Below w.heap.size w w1 := by rw [hw1]; exact (Below.refl _ _).alloc (Nat.le_refl _) _
      clear hw1
      go_wp2_with fail
      refine (trim_any ao n c xs _ hl hc (by omega) hx (hr.below hb1)).mono ?_
      rintro e w2 ⟨rfl, rfl⟩
      go_wp2_with fail
      refine (trim_any bo m d ys _ hm hd (by omega) hy (hr2.below hb1)).mono ?_
      rintro e w3 ⟨rfl, rfl⟩
      go_wp2_with fail
      refine (compare_any ao bo _ _ c d (V xs) (V ys) _ rfl rfl (by omega) (by omega) ((hr.below hb1).trim hx) ((hr2.below hb1).trim hy)).mono ?_
      rintro e w4 ⟨rfl, q4, rfl⟩
      have hb4 := below_drewN hb1 q4
      generalize w3.drewN q4 = w4 at hb4 ⊢
      go_wp2_with fail
      refine (sub_any ao bo _ _ c d (V xs) (V ys) _ rfl rfl hba (by omega) ((hr.below hb4).trim hx) ((hr2.below hb4).trim hy)).mono ?_
      rintro e w5 hret
      obtain ⟨ao', cap', rfl, ho, hb⟩ := hret.later hb4
      go_wp2_with fail
      go_ret2
      exact ⟨ao', cap', rfl, ho, hb⟩
    · have hok : subOk xs ys = false := by simp [subOk]; omega
      have hdoc : subDoc xs ys = [] := by unfold subDoc; rw [hok]; rfl
      rw [hdoc, hok]
      have hcmp := cmpI_neg (show V xs < V ys by omega)
      go_enter Try.func14, Try.ntmps14
      go_wp2_with fail
      refine (short_any _ 2 [n, m] true _ rfl (by omega) (by simp; omega) hall'.out (two_cells _ _ _ _ _ _ _ _)).mono ?_
      rintro e w1 ⟨rfl, hw1⟩
      have hb1 : Below w.heap.size w w1 := by rw [hw1]; exact (Below.refl _ _).alloc (Nat.le_refl _) _
      clear hw1
      go_wp2_with fail
      refine (trim_any ao n c xs _ hl hc (by omega) hx (hr.below hb1)).mono ?_
      rintro e w2 ⟨rfl, rfl⟩
      go_wp2_with fail
      refine (trim_any bo m d ys _ hm hd (by omega) hy (hr2.below hb1)).mono ?_
      rintro e w3 ⟨rfl, rfl⟩
      go_wp2_with fail
      refine (compare_any ao bo _ _ c d (V xs) (V ys) _ rfl rfl (by omega) (by omega) ((hr.below hb1).trim hx) ((hr2.below hb1).trim hy)).mono ?_
      rintro e w4 ⟨rfl, q4, rfl⟩
      have hb4 := below_drewN hb1 q4
      generalize w3.drewN q4 = w4 at hb4 ⊢
      go_wp2_with fail
      go_ret2
      exact RetB.nil hb4
  · have hok : subOk xs ys = false := by simp [subOk]; omega
    have hdoc : subDoc xs ys = [] := by unfold subDoc; rw [hok]; rfl
    rw [hdoc, hok]
    have hall : false = [n, m].all (fun x => decide (x ≤ 1200)) := by simp; omega
    have hall' := hid hall; clear hall
    go_enter Try.func14, Try.ntmps14
    go_wp2_with fail
    refine (short_any _ 2 [n, m] false _ rfl (by omega) (by simp; omega) hall'.out (two_cells _ _ _ _ _ _ _ _)).mono ?_
    rintro e w1 ⟨rfl, hw1⟩
    have hb1 : Below w.heap.size w w1 := by rw [hw1]; exact (Below.refl _ _).alloc (Nat.le_refl _) _
    clear hw1
    go_wp2_with fail
    go_ret2
    exact RetB.nil hb1

set_option maxHeartbeats 2000000 in
theorem specNatSub_any (ao bo : Option Addr) (n m c d : Nat) (xs ys : List Nat) (w : World) (hl : xs.length = n) (hm : ys.length = m) (hn : n ≤ 1048576) (hn2 : m ≤ 1048576) (hx : F64 xs) (hy : F64 ys) (hr : Rd w ao xs) (hr2 : Rd w bo ys) :
    Calls Try.prog 13 #[.slice ao n c, .slice bo m d] w fun e w' => RetB w w' e (subDoc xs ys) (subOk xs ys) := by
  have hs1 := D_len xs hx
  have hs2 := D_len ys hy
  by_cases h1 : n ≤ 1200
  · have d1 : decide (n ≤ 1200) = true := by simpa using h1
    by_cases h2 : m ≤ 1200
    · have d2 : decide (m ≤ 1200) = true := by simpa using h2
      by_cases hba : V ys ≤ V xs
      · have hok : subOk xs ys = true := by simp [subOk]; omega
        have hdoc : subDoc xs ys = L (V xs - V ys) := by unfold subDoc; rw [hok]; rfl
        rw [hdoc, hok]
        have hcmp := cmpI_nonneg hba
        go_enter Try.func13, Try.ntmps13
        go_wp2_with fail
        refine (l1Fits_any ao n c _ (by omega)).mono ?_
        rintro e w1 ⟨rfl, rfl⟩
        rw [d1]
        go_wp2_with fail
        refine (l1Fits_any bo m d _ (by omega)).mono ?_
        rintro e w2 ⟨rfl, rfl⟩
        rw [d2]
        go_wp2_with fail
        refine (l1In_any ao n c xs _ hl (by omega) hx hr).mono ?_
        rintro e w3 ⟨ao1, cap1, rfl, ho1, hb1⟩
        go_wp2_with fail
        refine (l1In_any bo m d ys _ hm (by omega) hy (hr2.below hb1)).mono ?_
        rintro e w4 ⟨ao2, cap2, rfl, ho2, hb2⟩
        have b2 := hb1.trans (hb2.mono hb1.size)
        go_wp2_with fail
        refine (l1Cmp_any ao1 ao2 _ _ cap1 cap2 (V xs) (V ys) _ rfl rfl (by omega) (by omega) ((Rd.own ho1).below hb2) (Rd.own ho2)).mono ?_
        rintro e w5 ⟨rfl, rfl⟩
        clear ho1 ho2 hb1 hb2
        go_wp2_with fail
        refine (l1In_any ao n c xs _ hl (by omega) hx (hr.below b2)).mono ?_
        rintro e w6 ⟨ao3, cap3, rfl, ho3, hb3⟩
        have b3 := b2.trans (hb3.mono b2.size)
        go_wp2_with fail
        refine (l1In_any bo m d ys _ hm (by omega) hy (hr2.below b3)).mono ?_
        rintro e w7 ⟨ao4, cap4, rfl, ho4, hb4⟩
        have b4 := b3.trans (hb4.mono b3.size)
        go_wp2_with fail
        refine (l1Sub_any ao3 ao4 _ _ cap3 cap4 (V xs) (V ys) _ rfl rfl hba (by omega) ((Rd.own ho3).below hb4) (Rd.own ho4)).mono ?_
        rintro e w8 ⟨ao5, cap5, rfl, ho5, hb5⟩
        have b5 := b4.trans (hb5.mono b4.size)
        have hs3 : (D (V xs - V ys)).length ≤ 2400 := M.len_of_lt (B := 4294967296) (by omega) _ _ (Nat.lt_of_le_of_lt (Nat.sub_le _ _) (D_lt (V xs) 2400 (by omega)))
        go_wp2_with fail
        refine (l1Out_any ao5 _ cap5 (V xs - V ys) _ rfl (by omega) (Rd.own ho5)).mono ?_
        rintro e w9 ⟨ao6, cap6, rfl, ho6, hb6⟩
        go_wp2_with fail
        go_ret2
        exact ⟨ao6, cap6, rfl, own_base ho6 b5.size, b5.trans (hb6.mono b5.size)⟩
      · have hok : subOk xs ys = false := by simp [subOk]; omega
        have hdoc : subDoc xs ys = [] := by unfold subDoc; rw [hok]; rfl
        rw [hdoc, hok]
        have hcmp := cmpI_neg (show V xs < V ys by omega)
        go_enter Try.func13, Try.ntmps13
        go_wp2_with fail
        refine (l1Fits_any ao n c _ (by omega)).mono ?_
        rintro e w1 ⟨rfl, rfl⟩
        rw [d1]
        go_wp2_with fail
        refine (l1Fits_any bo m d _ (by omega)).mono ?_
        rintro e w2 ⟨rfl, rfl⟩
        rw [d2]
        go_wp2_with fail
        refine (l1In_any ao n c xs _ hl (by omega) hx hr).mono ?_
        rintro e w3 ⟨ao1, cap1, rfl, ho1, hb1⟩
        go_wp2_with fail
        refine (l1In_any bo m d ys _ hm (by omega) hy (hr2.below hb1)).mono ?_
        rintro e w4 ⟨ao2, cap2, rfl, ho2, hb2⟩
        have b2 := hb1.trans (hb2.mono hb1.size)
        go_wp2_with fail
        refine (l1Cmp_any ao1 ao2 _ _ cap1 cap2 (V xs) (V ys) _ rfl rfl (by omega) (by omega) ((Rd.own ho1).below hb2) (Rd.own ho2)).mono ?_
        rintro e w5 ⟨rfl, rfl⟩
        go_wp2_with fail
        go_ret2
        exact RetB.nil b2
    · have d2 : decide (m ≤ 1200) = false := by simpa using h2
      have hok : subOk xs ys = false := by simp [subOk]; omega
      have hdoc : subDoc xs ys = [] := by unfold subDoc; rw [hok]; rfl
      rw [hdoc, hok]
      go_enter Try.func13, Try.ntmps13
      go_wp2_with fail
      refine (l1Fits_any ao n c _ (by omega)).mono ?_
      rintro e w1 ⟨rfl, rfl⟩
      rw [d1]
      go_wp2_with fail
      refine (l1Fits_any bo m d _ (by omega)).mono ?_
      rintro e w2 ⟨rfl, rfl⟩
      rw [d2]
      go_wp2_with fail
      go_ret2
      exact RetB.nil (Below.refl _ _)
  · have d1 : decide (n ≤ 1200) = false := by simpa using h1
    have hok : subOk xs ys = false := by simp [subOk]; omega
    have hdoc : subDoc xs ys = [] := by unfold subDoc; rw [hok]; rfl
    rw [hdoc, hok]
    go_enter Try.func13, Try.ntmps13
    go_wp2_with fail
    refine (l1Fits_any ao n c _ (by omega)).mono ?_
    rintro e w1 ⟨rfl, rfl⟩
    rw [d1]
    go_wp2_with fail
    go_ret2
    exact RetB.nil (Below.refl _ _)

end Go.Proofs.Ytchfkmompciooab
