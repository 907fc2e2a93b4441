import Derived.Test.YtehplfmnipadmaeDoorUnA
import Derived.Test.YtehplfmnipadmaeDoorW1
import Derived.Test.YtehplfmnipadmaeDoorCom
import Derived.Test.YtehplfmnipadmaeDoorSp1
import Derived.Deep.RegionHeld3
namespace Go.Proofs.YtehplfmnipadmaeDoor
open Go.RowKit
set_option linter.unusedVariables false
set_option maxRecDepth 100000

set_option maxRecDepth 100000 in
set_option maxHeartbeats 1000000 in
theorem number_any (X : Nat) (hX : X < 2 ^ 128) (w : World) :
    Calls Tryd.prog 76 #[.agg #[.int .u64 (M.hiN X : Int), .int .u64 (M.loN X : Int)]] w fun e w' => ∃ ao c, e = .returned (.slice ao (L X).length c) ∧ Rd w' ao (L X) ∧ (L X).length ≤ c ∧ Below w.heap.size w w' := by
  go_enter Tryd.func76, Tryd.ntmps76
  go_wp2_with fail
  have hv : V [M.loN X, M.hiN X] = X := by rw [V2]; exact (M.hl X).symm
  have hf : F64 [M.loN X, M.hiN X] := by intro y hy; simp at hy; have := M.loLt X; have := M.hiLt hX; omega
  have b0 : Below w.heap.size w ((w.alloc (.cells #[.int .u64 (M.hiN X : Int), .int .u64 (M.loN X : Int)] 25)).alloc (.cells #[.int .u64 (M.loN X : Int), .int .u64 (M.hiN X : Int)] 22)) := ((Below.refl _ _).alloc (Nat.le_refl _) _).alloc (by simp) _
  have hr : Rd ((w.alloc (.cells #[.int .u64 (M.hiN X : Int), .int .u64 (M.loN X : Int)] 25)).alloc (.cells #[.int .u64 (M.loN X : Int), .int .u64 (M.hiN X : Int)] 22)) (some ⟨w.heap.size + 1, 0, none⟩) [M.loN X, M.hiN X] := by
    intro _
    refine ⟨w.heap.size + 1, 0, rfl, fun i hi => ?_⟩
    have : i = 0 ∨ i = 1 := by simp at hi; omega
    rcases this with rfl | rfl <;> simp [go_sem]
  refine (trim_any _ 2 2 [M.loN X, M.hiN X] _ rfl (Nat.le_refl _) (by omega) hf hr).mono ?_
  rw [hv]
  rintro e v1 ⟨rfl, rfl⟩
  have hq := hr.trim hf
  rw [hv] at hq
  have hl : (L X).length ≤ 2 := by rw [← hv]; exact L_len _ hf
  have HQ := hid hq
  have HL := hid hl
  clear hq hr hl hf hv
  go_wp2_with fail
  go_ret
  exact ⟨_, _, rfl, HQ.out, HL.out, b0⟩

theorem and_one (z : Int) (h0 : 0 ≤ z) (h1 : z < 18446744073709551616) : bits .and .u64 z 1 = z % 2 := by go_bits2

set_option maxRecDepth 100000 in
set_option maxHeartbeats 1000000 in
theorem even_any (X : Nat) (w : World) :
    Calls Tryd.prog 78 #[.agg #[.int .u64 (M.hiN X : Int), .int .u64 (M.loN X : Int)]] w fun e w' => e = .returned (.bool (decide (X % 2 = 0))) ∧ Below w.heap.size w w' := by
  go_enter Tryd.func78, Tryd.ntmps78
  have hb : (bits BinOp.and IntKind.u64 (M.loN X : Int) 1 == 0) = decide (X % 2 = 0) := by
    have e : bits BinOp.and IntKind.u64 (M.loN X : Int) 1 = ((M.loN X % 2 : Nat) : Int) := by
      have := M.loLt X
      rw [and_one _ (by omega) (by omega)]; omega
    rw [e]
    have : M.loN X % 2 = X % 2 := by unfold M.loN; omega
    rw [this]
    by_cases h : X % 2 = 0
    · simp [h]
    · have h2 : X % 2 = 1 := by omega
      simp [h2]
  go_wp2_with fail
  go_ret
  exact ⟨by rw [← hb]; rfl, (Below.refl _ _).alloc (Nat.le_refl _) _⟩

end Go.Proofs.YtehplfmnipadmaeDoor
