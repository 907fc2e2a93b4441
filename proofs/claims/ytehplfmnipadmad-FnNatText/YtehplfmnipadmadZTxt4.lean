import Derived.Test.YtehplfmnipadmadZTxt3
namespace Go.Proofs.Ytehplfmnipadmad
open Go.RowKit
set_option linter.unusedVariables false
set_option maxRecDepth 100000

/-- What NatFromText is to answer. -/
def isDig (c : Nat) : Bool := decide (48 ≤ c) && decide (c ≤ 57)
def ftOk (bs : List Nat) : Bool := decide (1 ≤ bs.length) && decide (bs.length ≤ 20000) && bs.all isDig
def ftDoc (bs : List Nat) : List Nat := if ftOk bs then L (M.dec bs) else []

theorem all_dig {bs : List Nat} (h : bs.all isDig = true) : M.Dig bs := by
  intro c hc
  have := List.all_eq_true.1 h c hc
  simpa [isDig] using this

theorem not_all (bs : List Nat) (k : Nat) (hk : k < bs.length) (h : ¬ (48 ≤ bs.getD k 0 ∧ bs.getD k 0 ≤ 57)) : bs.all isDig = false := by
  rw [List.all_eq_false]
  refine ⟨bs.getD k 0, ?_, ?_⟩
  · rw [List.getD_eq_getElem?_getD, List.getElem?_eq_getElem hk]; exact List.getElem_mem hk
  · generalize bs.getD k 0 = x at h
    simp [isDig]; omega

set_option maxHeartbeats 1000000 in
theorem allDigits_any (ao : Option Addr) (n c : Nat) (bs : List Nat) (w : World) (hl : bs.length = n) (hn : n ≤ 20000) (hr : RdB w ao bs) (b : Bool) (hb : b = bs.all isDig) :
    Calls Try.prog 38 #[.slice ao n c] w fun e w' => e = .returned (.bool b) ∧ w' = w := by
  have HB := hid hb; clear hb
  go_enter Try.func38, Try.ntmps38
  go_wp2_with fail
  go_loopw [7] (fun i wr => ∃ k : Nat, k ≤ n ∧ i = .int .i64 k ∧ (∀ j, j < k → 48 ≤ bs.getD j 0 ∧ bs.getD j 0 ≤ 57) ∧ wr = w) (fun i _ => n - (intOf i).toNat)
  case atStart => exact ⟨0, by omega, rfl, fun j hj => by omega, rfl⟩
  case round =>
    obtain ⟨k, hk, rfl, hd, hwr⟩ := hrel
    subst hwr
    by_cases hlt : k < n
    · have hlt' : (k : Int) < (n : Int) := by omega
      obtain ⟨b2, o2, hbo, hc2⟩ := hr.2 (by omega)
      have hck := hc2 k (by omega)
      clear hc2
      obtain ⟨cv, ecv⟩ : ∃ x, x = bs.getD k 0 := ⟨_, rfl⟩
      rw [← ecv] at hck
      have ECV := hid ecv; clear ecv
      have HD := hid hd; clear hd
      by_cases h1 : cv < 48
      · have h1' : (cv : Int) < 48 := by omega
        have hbf : b = false := by rw [HB.out]; exact not_all bs k (by omega) (by rw [← ECV.out]; omega)
        have HBF := hid hbf; clear hbf
        go_wp2_with fail
        go_ret
        exact ⟨by rw [HBF.out]; rfl, rfl⟩
      · have h1' : ¬ (cv : Int) < 48 := by omega
        by_cases h2 : 57 < cv
        · have h2' : (57 : Int) < (cv : Int) := by omega
          have hbf : b = false := by rw [HB.out]; exact not_all bs k (by omega) (by rw [← ECV.out]; omega)
          have HBF := hid hbf; clear hbf
          go_wp2_with fail
          go_ret
          exact ⟨by rw [HBF.out]; rfl, rfl⟩
        · have h2' : ¬ (57 : Int) < (cv : Int) := by omega
          go_wp2_with fail
          go_roundw
          case rel =>
            have hd2 : ∀ j, j < k + 1 → 48 ≤ bs.getD j 0 ∧ bs.getD j 0 ≤ 57 := by
              intro j hj
              by_cases e : j = k
              · rw [e, ← ECV.out]; omega
              · exact HD.out j (by omega)
            first | exact ⟨k + 1, by omega, by go_num, hd2, by first | rfl | trivial⟩ | ((repeat apply Exists.intro); exact ⟨⟨k + 1, by omega, by go_num, hd2, by first | rfl | trivial⟩, by first | rfl | rw [hbo]⟩)
          case measure => simp [intOf]; omega
    · have e : k = n := by omega
      have hbt : b = true := by
        rw [HB.out, List.all_eq_true]
        intro c hc
        obtain ⟨i, hi, rfl⟩ := List.getElem_of_mem hc
        have := hd i (by omega)
        rw [List.getD_eq_getElem?_getD, List.getElem?_eq_getElem hi] at this
        simpa [isDig] using this
      have hlt' : ¬ (k : Int) < (n : Int) := by omega
      have HBT := hid hbt; clear hbt hd
      go_wp2_with fail
      go_ret
      exact ⟨by rw [HBT.out]; rfl, rfl⟩

end Go.Proofs.Ytehplfmnipadmad
