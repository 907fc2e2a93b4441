import Derived.Test.YtehplfmnipadmabBitM
import Derived.Test.YtehplfmnipadmabW4
namespace Go.Proofs.Ytehplfmnipadmab
open Go.RowKit
set_option linter.unusedVariables false

theorem blk_lit (w : World) (xs : List Nat) : Blk (w.alloc (.cells (U xs).toArray 39)) w.heap.size xs := heap_alloc_new w _

set_option maxHeartbeats 400000 in
theorem l1Of_any (x : Nat) (w : World) (h : x < 18446744073709551616) :
    Calls Try.prog 63 #[.int .u64 (x : Int)] w fun e w' => Ret w w' e (D x) := by
  have hlow : bits BinOp.and IntKind.u64 (x : Int) 4294967295 = ((x % 4294967296 : Nat) : Int) := by
    rw [and_low32 _ (by omega) (by omega)]; omega
  have hhi : (x : Int) / 4294967296 = ((x / 4294967296 : Nat) : Int) := by omega
  have hB := blk_lit w [x % 4294967296, x / 4294967296]
  have hb : Below w.heap.size w (w.alloc (.cells (U [x % 4294967296, x / 4294967296]).toArray 39)) := (Below.refl _ _).alloc (Nat.le_refl _) _
  have hU : (U [x % 4294967296, x / 4294967296]).toArray = #[Value.int .u64 ((x % 4294967296 : Nat) : Int), Value.int .u64 ((x / 4294967296 : Nat) : Int)] := rfl
  rw [hU] at hB hb
  have hv : M.val 4294967296 [x % 4294967296, x / 4294967296] = x := by simp [M.val]; omega
  have hf : F32 [x % 4294967296, x / 4294967296] := by intro y hy; simp at hy; omega
  obtain ⟨lo, elo⟩ : ∃ lo : Nat, lo = x % 4294967296 := ⟨_, rfl⟩
  obtain ⟨hi, ehi⟩ : ∃ hi : Nat, hi = x / 4294967296 := ⟨_, rfl⟩
  rw [← elo, ← ehi] at hB hb hv hf
  rw [← elo] at hlow
  rw [← ehi] at hhi
  have HV := hid hv
  clear hv hU elo ehi
  go_enter Try.func63, Try.ntmps63
  go_wp2_with fail
  refine (l1Trim_any 4294967296 (by omega) _ 2 2 [lo, hi] _ rfl (by omega) (by omega) hf hB.rd0).mono ?_
  rw [HV.out]
  rintro e w1 ⟨ao', cap', rfl, ho, hb'⟩
  go_wp2_with fail
  go_ret
  exact ⟨ao', cap', rfl, own_base ho hb.size, hb.trans (hb'.mono hb.size)⟩

end Go.Proofs.Ytehplfmnipadmab
