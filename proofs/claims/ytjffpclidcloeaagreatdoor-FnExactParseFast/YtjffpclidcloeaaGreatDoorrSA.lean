import Derived.Test.YtjffpclidcloeaaGreatDoorrBY
import Derived.Test.YtjffpclidcloeaaGreatDoorrBF
set_option maxHeartbeats 1000000
set_option maxRecDepth 100000
namespace Go.Proofs.YtjffpclidcloeaaGreatDoor
open Go.RowKit
set_option linter.unusedVariables false
set_option maxRecDepth 100000
def Sw (w w' : World) (e : Ending) (xs ys : List Nat) (q : Int) (ok : Bool) : Prop :=
 ∃ (a : Option Addr) (ca : Nat) (b : Option Addr) (cb m1 : Nat), e = .returned (.agg #[.slice a xs.length ca, .slice b ys.length cb, .int .i64 q, .bool ok]) ∧ w.heap.size ≤ m1 ∧ m1 ≤ w'.heap.size ∧ Own w' w.heap.size m1 a ca xs ∧ Own w' m1 w'.heap.size b cb ys ∧ Below w.heap.size w w'

theorem V2n (l h : Nat) : V [l, h] = h * 18446744073709551616 + l := by simp [V, M.val]; omega

theorem l2Of_n (X : Nat) (hX : X < 2 ^ 128) (w : World) :
 Calls Tryz.prog 36 #[.agg #[.int .u64 (M.hiN X : Int), .int .u64 (M.loN X : Int)]] w fun e w' => Ret w w' e (D X) := by
 have hv : V [M.loN X, M.hiN X] = X := by rw [V2n]; exact (M.hl X).symm
 have hf : F64 [M.loN X, M.hiN X] := by intro y hy; simp at hy; have := M.loLt X; have := M.hiLt hX; omega
 generalize M.hiN X = h at *
 generalize M.loN X = l at *
 have HV := hid hv; clear hv
 obtain ⟨w1, hw1⟩ : ∃ w1, w1 = w.alloc (.cells #[.int .u64 (h : Int), .int .u64 (l : Int)] 25) := ⟨_, rfl⟩
 have hB := blk_lit w1 [l, h]
 have b0 : Below w.heap.size w w1 := by rw [hw1]; exact (Below.refl _ _).alloc (Nat.le_refl _) _
 have hb : Below w1.heap.size w1 (w1.alloc (.cells (U [l, h]).toArray 23)) := (Below.refl _ _).alloc (Nat.le_refl _) _
 have hU : (U [l, h]).toArray = #[Value.int .u64 (l : Int), Value.int .u64 (h : Int)] := rfl
 rw [hU] at hB hb
 have hsz : w1.heap.size = w.heap.size + 1 := by rw [hw1]; simp
 rw [hw1] at hB hb b0
 rw [hw1] at hsz
 rw [hsz] at hB
 clear hU hw1
 go_enter Tryz.func36, Tryz.ntmps36
 go_wp2_with fail
 refine (l1In_any _ 2 2 [l, h] _ rfl (by omega) hf hB.rd0).mono ?_
 rw [HV.out]
 rintro e w2 ⟨ao', cap', rfl, ho, hb'⟩
 go_wp2_with fail
 go_ret
 have b1 := b0.trans (hb.mono b0.size)
 exact ⟨ao', cap', rfl, own_base ho b1.size, b1.trans (hb'.mono b1.size)⟩

theorem number_n (X : Nat) (hX : X < 2 ^ 128) (w : World) :
 Calls Tryz.prog 73 #[.agg #[.int .u64 (M.hiN X : Int), .int .u64 (M.loN X : Int)]] w fun e w' => ∃ ao c, e = .returned (.slice ao (L X).length c) ∧ Rd w' ao (L X) ∧ (L X).length ≤ c ∧ Below w.heap.size w w' := by
 go_enter Tryz.func73, Tryz.ntmps73
 go_wp2_with fail
 have hv : V [M.loN X, M.hiN X] = X := by rw [V2n]; exact (M.hl X).symm
 have hf : F64 [M.loN X, M.hiN X] := by intro y hy; simp at hy; have := M.loLt X; have := M.hiLt hX; omega
 have b0 : Below w.heap.size w ((w.alloc (.cells #[.int .u64 (M.hiN X : Int), .int .u64 (M.loN X : Int)] 25)).alloc (.cells #[.int .u64 (M.loN X : Int), .int .u64 (M.hiN X : Int)] 23)) := ((Below.refl _ _).alloc (Nat.le_refl _) _).alloc (by simp) _
 have hr : Rd ((w.alloc (.cells #[.int .u64 (M.hiN X : Int), .int .u64 (M.loN X : Int)] 25)).alloc (.cells #[.int .u64 (M.loN X : Int), .int .u64 (M.hiN X : Int)] 23)) (some ⟨w.heap.size + 1, 0, none⟩) [M.loN X, M.hiN X] := by
  intro _
  refine ⟨w.heap.size + 1, 0, rfl, fun i hi => ?_⟩
  have : i = 0 ∨ i = 1 := by simp at hi; omega
  rcases this with rfl | rfl <;> simp [go_sem]
 refine (trim_any _ 2 2 [M.loN X, M.hiN X] _ rfl (Nat.le_refl _) (by omega) hf hr).mono ?_
 rw [hv]
 rintro e v1 ⟨rfl, rfl⟩
 have hq := hr.trim hf
 rw [hv] at hq
 have hl : (L X).length ≤ 2 := by rw [← hv]; exact L_len _ hf
 have HQ := hid hq
 have HL := hid hl
 clear hq hr hl hf hv
 go_wp2_with fail
 go_ret
 exact ⟨_, _, rfl, HQ.out, HL.out, b0⟩

end Go.Proofs.YtjffpclidcloeaaGreatDoor
