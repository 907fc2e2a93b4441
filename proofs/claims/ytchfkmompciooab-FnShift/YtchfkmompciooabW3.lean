import Derived.Test.YtchfkmompciooabW2
namespace Go.Proofs.Ytchfkmompciooab
open Go.RowKit
set_option linter.unusedVariables false

theorem cmpI_nat_lt {a b : Nat} (h : a < b) : cmpI (a : Int) (b : Int) = -1 := by unfold cmpI; rw [if_pos (by omega)]
theorem cmpI_nat_gt {a b : Nat} (h : b < a) : cmpI (a : Int) (b : Int) = 1 := by unfold cmpI; rw [if_neg (by omega), if_pos (by omega)]
theorem cmpI_nat_eq {a b : Nat} (h : a = b) : cmpI (a : Int) (b : Int) = 0 := by unfold cmpI; rw [if_neg (by omega), if_neg (by omega)]

theorem cmp_len (a b : Nat) (h : (L a).length ≠ (L b).length) : cmpI ((L a).length : Int) ((L b).length : Int) = cmpI (a : Int) (b : Int) := by
  rcases Nat.lt_or_gt_of_ne h with h | h
  · rw [cmpI_nat_lt h, cmpI_nat_lt (M.lt_of_length (by omega) h)]
  · rw [cmpI_nat_gt h, cmpI_nat_gt (M.lt_of_length (by omega) h)]

theorem getD_big (xs : List Nat) (j : Nat) (h : xs.length ≤ j) : xs.getD j 0 = 0 := by
  rw [List.getD_eq_getElem?_getD, List.getElem?_eq_none (by omega)]; rfl

theorem cmp_at {B : Nat} (hB : 1 < B) (a b k : Nat) (x y : Nat) (hx : x = (M.dig B a).getD k 0) (hy : y = (M.dig B b).getD k 0) (hne : x ≠ y) (he : ∀ j, k < j → (M.dig B a).getD j 0 = (M.dig B b).getD j 0) :
    cmpI (x : Int) (y : Int) = cmpI (a : Int) (b : Int) := by
  rcases Nat.lt_or_gt_of_ne hne with h | h
  · have := M.val_lt_top hB k (M.dig B a) (M.dig B b) (M.dig_lt hB a) (by omega) he
    rw [M.val_dig hB, M.val_dig hB] at this
    rw [cmpI_nat_lt h, cmpI_nat_lt this]
  · have := M.val_lt_top hB k (M.dig B b) (M.dig B a) (M.dig_lt hB b) (by omega) (fun j hj => (he j hj).symm)
    rw [M.val_dig hB, M.val_dig hB] at this
    rw [cmpI_nat_gt h, cmpI_nat_gt this]

theorem cmp_all {B : Nat} (hB : 1 < B) (a b : Nat) (he : ∀ j, (M.dig B a).getD j 0 = (M.dig B b).getD j 0) : cmpI (a : Int) (b : Int) = 0 := by
  have := M.val_ext B _ _ he
  rw [M.val_dig hB, M.val_dig hB] at this
  exact cmpI_nat_eq this

set_option maxHeartbeats 1000000 in
theorem compare_any (ao bo : Option Addr) (n m c d : Nat) (a b : Nat) (w : World) (hl : (L a).length = n) (hm : (L b).length = m) (hn : n ≤ 4194304) (hn2 : m ≤ 4194304) (hr : Rd w ao (L a)) (hr2 : Rd w bo (L b)) :
    Calls Try.prog 32 #[.slice ao n c, .slice bo m d] w fun e w' => e = .returned (.int .i64 (cmpI a b)) ∧ ∃ q, w' = w.drewN q := by
  by_cases hnm : n = m
  · subst hnm
    have hb : ((n : Int) != (n : Int)) = false := by simp
    have HM := hid hm; clear hm
    go_enter Try.func32, Try.ntmps32
    go_wp2
    go_loopw [5] (fun i wr => ∃ k : Nat, k ≤ n ∧ i = .int .i64 ((k : Int) - 1) ∧ (∀ j, k ≤ j → (L a).getD j 0 = (L b).getD j 0) ∧ ∃ q, wr = w.drewN q) (fun i _ => (intOf i + 1).toNat)
    case atStart => exact ⟨n, Nat.le_refl _, rfl, fun j h => by rw [getD_big _ _ (by omega), getD_big _ _ (by have := HM.out; omega)], 0, rfl⟩
    case round =>
      obtain ⟨k, hk, rfl, he, hq⟩ := hrel
      have HE := hid he; clear he
      have HQ := hid hq; clear hq
      have hr' : Rd wr ao (L a) := by obtain ⟨q, rfl⟩ := HQ.out; exact hr
      have hr2' : Rd wr bo (L b) := by obtain ⟨q, rfl⟩ := HQ.out; exact hr2
      by_cases hlt : 0 < k
      · obtain ⟨b1, off, hao, hc⟩ := hr' (by omega)
        have hck := hc (k - 1) (by omega)
        have HC := hid hc; clear hc
        obtain ⟨x, hxx⟩ : ∃ x : Nat, x = (L a).getD (k - 1) 0 := ⟨_, rfl⟩
        rw [← hxx] at hck
        have HX := hid hxx; clear hxx
        obtain ⟨b2, off2, hao2, hc2⟩ := hr2' (by have := HM.out; omega)
        have hck2 := hc2 (k - 1) (by have := HM.out; omega)
        have HC2 := hid hc2; clear hc2
        obtain ⟨y, hyy⟩ : ∃ y : Nat, y = (L b).getD (k - 1) 0 := ⟨_, rfl⟩
        rw [← hyy] at hck2
        have HY := hid hyy; clear hyy
        obtain ⟨k, rfl⟩ : ∃ k', k = k' + 1 := ⟨k - 1, by omega⟩
        simp only [Nat.add_sub_cancel] at hck hck2
        have e1 : (((k + 1 : Nat) : Int) - 1) = (k : Int) := by omega
        rw [e1]
        have hlt' : (k : Int) < (n : Int) := by omega
        by_cases hxy : x = y
        · have hne : ((x : Int) != (y : Int)) = false := by simp [hxy]
          have HXY := hid hxy; clear hxy
          go_wp2
          go_quiet (fail)
          go_wp2
          go_roundw
          case rel =>
            refine ⟨k, by omega, by go_num, fun j hj => ?_, by obtain ⟨q, rfl⟩ := HQ.out; exact ⟨_, World.drewN_drewN _ _ _⟩⟩
            by_cases e : j = k
            · subst e; exact HX.out.symm.trans (HXY.out.trans HY.out)
            · exact HE.out j (by omega)
          case measure => simp [intOf]
        · have hne : ((x : Int) != (y : Int)) = true := by simp; omega
          have HXY := hid hxy; clear hxy
          go_wp2
          go_quiet (fail)
          go_wp2
          generalize hwy : wr.drewN nq = wy
          have hq' : ∃ q, wy = w.drewN q := by obtain ⟨q, rfl⟩ := HQ.out; exact ⟨_, by rw [← hwy]; exact World.drewN_drewN _ _ _⟩
          have hcy : wy.cell? ⟨b1, off + k, none⟩ = some (.int .u64 (x : Int)) := by rw [← hwy]; exact hck
          have hcy2 : wy.cell? ⟨b2, off2 + k, none⟩ = some (.int .u64 (y : Int)) := by rw [← hwy]; exact hck2
          have HQ' := hid hq'; clear hq' hwy hck hck2
          go_quiet ((go_at_call 52; exact Calls.quiet_of_same (cmpU_any _ _ _)))
          go_wp2
          go_ret
          refine ⟨?_, by obtain ⟨q, rfl⟩ := HQ'.out; exact ⟨_, World.drewN_drewN _ _ _⟩⟩
          exact ret_int (cmp_at (by omega) a b k x y HX.out HY.out HXY.out (fun j hj => HE.out j (by omega)))
      · have : k = 0 := by omega
        subst this
        go_wp2
        go_ret
        exact ⟨ret_int (cmp_all (by omega) a b (fun j => HE.out j (by omega))).symm, HQ.out⟩
  · have hb : ((n : Int) != (m : Int)) = true := by simp; omega
    go_enter Try.func32, Try.ntmps32
    go_wp2_with (go_at_call 51; refine (cmpInt_any _ _ _).mono ?_; rintro e w' ⟨rfl, rfl⟩)
    go_ret
    refine ⟨ret_int ?_, 0, rfl⟩
    rw [← hl, ← hm]
    exact cmp_len a b (by omega)

end Go.Proofs.Ytchfkmompciooab
