import Derived.Test.YtchfkmompciooabW2
namespace Go.Proofs.Ytchfkmompciooab
open Go.RowKit
set_option linter.unusedVariables false

set_option maxHeartbeats 400000 in
theorem same_any (ao bo : Option Addr) (n m c d : Nat) (xs ys : List Nat) (w : World) (hl : xs.length = n) (hm : ys.length = m) (hn : n ≤ 4194304) (hn2 : m ≤ 4194304) (hr : Rd w ao xs) (hr2 : Rd w bo ys) :
    Calls Try.prog 18 #[.slice ao n c, .slice bo m d] w fun e w' => e = .returned (.bool (decide (xs = ys))) ∧ ∃ q, w' = w.drewN q := by
  by_cases hnm : n = m
  · subst hnm
    have hb : ((n : Int) != (n : Int)) = false := by simp
    go_enter Try.func18, Try.ntmps18
    go_wp2
    go_loopw [13] (fun i wr => ∃ k : Nat, k ≤ n ∧ i = .int .i64 k ∧ (∀ j, j < k → xs.getD j 0 = ys.getD j 0) ∧ ∃ q, wr = w.drewN q) (fun i _ => n - (intOf i).toNat)
    case atStart => exact ⟨0, Nat.zero_le _, rfl, fun j h => by omega, 0, rfl⟩
    case round =>
      obtain ⟨k, hk, rfl, he, q, rfl⟩ := hrel
      have HE := hid he; clear he
      by_cases hlt : k < n
      · obtain ⟨b, off, hao, hc⟩ := hr (by omega)
        have hck := hc k (by omega)
        have HC := hid hc; clear hc
        obtain ⟨x, hxx⟩ : ∃ x : Int, x = ((xs.getD k 0 : Nat) : Int) := ⟨_, rfl⟩
        rw [← hxx] at hck
        have HX := hid hxx; clear hxx
        obtain ⟨b2, off2, hao2, hc2⟩ := hr2 (by omega)
        have hck2 := hc2 k (by omega)
        have HC2 := hid hc2; clear hc2
        obtain ⟨y, hyy⟩ : ∃ y : Int, y = ((ys.getD k 0 : Nat) : Int) := ⟨_, rfl⟩
        rw [← hyy] at hck2
        have HY := hid hyy; clear hyy
        have hlt' : (k : Int) < (n : Int) := by omega
        by_cases hxy : x = y
        · have hne : (x != y) = false := by simp [hxy]
          have HXY := hid hxy; clear hxy
          go_wp2
          go_quiet (fail)
          go_wp2
          go_roundw
          case rel =>
            refine ⟨k + 1, by omega, by go_num, fun j hj => ?_, _, rfl⟩
            by_cases e : j = k
            · subst e; have h1 := HX.out; have h2 := HY.out; have h3 := HXY.out; omega
            · exact HE.out j (by omega)
          case measure => simp [intOf]; omega
        · have hne : (x != y) = true := by simp [hxy]
          have HXY := hid hxy; clear hxy
          go_wp2
          go_quiet (fail)
          go_wp2
          go_ret
          refine ⟨?_, _, World.drewN_drewN _ _ _⟩
          have : decide (xs = ys) = false := by
            simp only [decide_eq_false_iff_not]
            intro e; subst e; exact HXY.out (HX.out.trans HY.out.symm)
          rw [this]; rfl
      · go_wp2
        go_ret
        refine ⟨?_, _, rfl⟩
        have : decide (xs = ys) = true := by
          simp only [decide_eq_true_eq]
          apply List.ext_getElem (by omega)
          intro j h1 h2
          have := HE.out j (by omega)
          simpa [List.getD_eq_getElem?_getD, h1, h2] using this
        rw [this]; rfl
  · have hb : ((n : Int) != (m : Int)) = true := by simp; omega
    go_enter Try.func18, Try.ntmps18
    go_wp2
    go_ret
    have : decide (xs = ys) = false := by
      simp only [decide_eq_false_iff_not]
      intro e; subst e; omega
    exact ⟨by rw [this]; rfl, 0, rfl⟩

end Go.Proofs.Ytchfkmompciooab
