import Derived.Test.YtehplfmnipadmabTxt4
import Derived.Test.YtehplfmnipadmabW15a
namespace Go.Proofs.Ytehplfmnipadmab
open Go.RowKit
set_option linter.unusedVariables false

set_option maxHeartbeats 1000000 in
theorem specNatFromText_any (ao : Option Addr) (n c : Nat) (bs : List Nat) (w : World) (hl : bs.length = n) (hn : n ≤ 1048576) (hr : RdB w ao bs) :
    Calls Try.prog 26 #[.slice ao n c] w fun e w' => RetB w w' e (ftDoc bs) (ftOk bs) := by
  by_cases h0 : n = 0
  · have hok : ftOk bs = false := by simp [ftOk, hl, h0]
    have hdoc : ftDoc bs = [] := by unfold ftDoc; rw [hok]; rfl
    rw [hok, hdoc]
    subst h0
    go_enter Try.func26, Try.ntmps26
    go_wp2_with fail
    go_ret2
    exact RetB.nil (Below.refl _ _)
  · have h0' : ((n : Int) == 0) = false := by simp; omega
    by_cases h2 : 20000 < n
    · have h2' : (20000 : Int) < (n : Int) := by omega
      have hok : ftOk bs = false := by simp [ftOk, hl]; omega
      have hdoc : ftDoc bs = [] := by unfold ftDoc; rw [hok]; rfl
      rw [hok, hdoc]
      go_enter Try.func26, Try.ntmps26
      go_wp2_with fail
      go_ret2
      exact RetB.nil (Below.refl _ _)
    · have h2' : ¬ (20000 : Int) < (n : Int) := by omega
      have hfal : bs.all isDig = false → ftOk bs = false ∧ ftDoc bs = [] := by
        intro h
        have hok : ftOk bs = false := by simp [ftOk, h]
        exact ⟨hok, by unfold ftDoc; rw [hok]; rfl⟩
      have htru : bs.all isDig = true → ftOk bs = true ∧ ftDoc bs = L (M.dec bs) := by
        intro h
        have hok : ftOk bs = true := by simp only [ftOk, h, Bool.and_true, Bool.and_eq_true, decide_eq_true_eq]; omega
        exact ⟨hok, by unfold ftDoc; rw [hok]; rfl⟩
      obtain ⟨ok, eok⟩ : ∃ x, x = ftOk bs := ⟨_, rfl⟩
      obtain ⟨doc, edoc⟩ : ∃ x, x = ftDoc bs := ⟨_, rfl⟩
      rw [← eok, ← edoc] at hfal htru
      rw [← eok, ← edoc]
      have HF := hid hfal; have HT := hid htru
      clear hfal htru eok edoc
      go_enter Try.func26, Try.ntmps26
      go_wp2_with fail
      go_loopw [16] (fun i wr => ∃ k : Nat, k ≤ n ∧ i = .int .i64 k ∧ (∀ j, j < k → 48 ≤ bs.getD j 0 ∧ bs.getD j 0 ≤ 57) ∧ wr = w) (fun i _ => n - (intOf i).toNat)
      case atStart => exact ⟨0, by omega, rfl, fun j hj => by omega, rfl⟩
      case round =>
        obtain ⟨k, hk, rfl, hd, hwr⟩ := hrel
        subst hwr
        by_cases hlt : k < n
        · have hlt' : (k : Int) < (n : Int) := by omega
          obtain ⟨b2, o2, hbo, hc2⟩ := hr.2 (by omega)
          have hck := hc2 k (by omega)
          clear hc2
          obtain ⟨cv, ecv⟩ : ∃ x, x = bs.getD k 0 := ⟨_, rfl⟩
          rw [← ecv] at hck
          have ECV := hid ecv; clear ecv
          have HD := hid hd; clear hd
          by_cases h1 : cv < 48
          · have h1' : (cv : Int) < 48 := by omega
            have HBF := hid (HF.out (not_all bs k (by omega) (by rw [← ECV.out]; omega)))
            go_wp2_with fail
            go_ret2
            rw [HBF.out.1, HBF.out.2]
            exact RetB.nil (Below.refl _ _)
          · have h1' : ¬ (cv : Int) < 48 := by omega
            by_cases h3 : 57 < cv
            · have h3' : (57 : Int) < (cv : Int) := by omega
              have HBF := hid (HF.out (not_all bs k (by omega) (by rw [← ECV.out]; omega)))
              go_wp2_with fail
              go_ret2
              rw [HBF.out.1, HBF.out.2]
              exact RetB.nil (Below.refl _ _)
            · have h3' : ¬ (57 : Int) < (cv : Int) := by omega
              go_wp2_with fail
              go_roundw
              case rel =>
                have hd2 : ∀ j, j < k + 1 → 48 ≤ bs.getD j 0 ∧ bs.getD j 0 ≤ 57 := by
                  intro j hj
                  by_cases e : j = k
                  · rw [e, ← ECV.out]; omega
                  · exact HD.out j (by omega)
                first | exact ⟨k + 1, by omega, by go_num, hd2, by first | rfl | trivial⟩ | ((repeat apply Exists.intro); exact ⟨⟨k + 1, by omega, by go_num, hd2, by first | rfl | trivial⟩, by first | rfl | rw [hbo]⟩)
              case measure => simp [intOf]; omega
        · have e : k = n := by omega
          have hbt : bs.all isDig = true := by
            rw [List.all_eq_true]
            intro c hc
            obtain ⟨i, hi, rfl⟩ := List.getElem_of_mem hc
            have := hd i (by omega)
            rw [List.getD_eq_getElem?_getD, List.getElem?_eq_getElem hi] at this
            simpa [isDig] using this
          have hlt' : ¬ (k : Int) < (n : Int) := by omega
          have HBT := hid (HT.out hbt)
          have hdig := all_dig hbt
          have hdl := dec_len bs hdig
          clear hbt hd
          go_wp2_with fail
          refine (l1Digits_any ao n c bs _ hl (by omega) hdig hr).mono ?_
          rintro e v1 ⟨a1, c1, rfl, o1, b1⟩
          go_wp2_with fail
          refine (l1Out_any a1 _ c1 (M.dec bs) _ rfl (by omega) (Rd.own o1)).mono ?_
          rintro e v2 ⟨a2, c2, rfl, o2, b2⟩
          go_wp2_with fail
          go_ret2
          rw [HBT.out.1, HBT.out.2]
          exact ⟨a2, c2, rfl, own_base o2 b1.size, b1.trans (b2.mono b1.size)⟩

end Go.Proofs.Ytehplfmnipadmab
