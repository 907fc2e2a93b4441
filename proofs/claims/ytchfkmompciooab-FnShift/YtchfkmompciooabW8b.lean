import Derived.Test.YtchfkmompciooabW6
import Derived.Test.YtchfkmompciooabSeg
import Derived.Test.YtchfkmompciooabW8a
namespace Go.Proofs.Ytchfkmompciooab
open Go.RowKit
set_option linter.unusedVariables false

set_option maxHeartbeats 400000 in
theorem clone_any (ao : Option Addr) (n cap s : Nat) (xs : List Nat) (w : World) (hl : xs.length = n) (hn : n ≤ 2097152) (hs : s ≤ 2097152) (hr : Rd w ao xs) :
    Calls Try.prog 49 #[.slice ao n cap, .int .i64 (s : Int)] w fun e w' => e = .returned (.slice (some ⟨w.heap.size, 0, none⟩) (n + s) (n + s)) ∧ Blk w' w.heap.size (xs ++ List.replicate s 0) ∧ Below w.heap.size w w' := by
  obtain ⟨i0, hi, hz0, hz1, hz2⟩ := info_parts Try.infoU
  have hmk := fun (wx : World) => run_make (P := Try.prog) wx 41 34 i0 (.int .u64 0) Try.underlying41 hi hz0 .i64 .i64 ((n + s : Nat) : Int) ((n + s : Nat) : Int) (by omega) (Int.le_refl _) (by rw [hz2]; omega) (by omega)
  have es : ((n + s : Nat) : Int) = (n : Int) + (s : Int) := by omega
  rw [es] at hmk
  have et : ((n : Int) + (s : Int)).toNat = n + s := by omega
  rw [et] at hmk
  have hb1 : Below w.heap.size w (w.alloc (.cells (madeCells #[Value.int .u64 0] (n + s)) 34)) := (Below.refl _ _).alloc (Nat.le_refl _) _
  have hbk := blk_made w (n + s)
  obtain ⟨w2, hcp, hg2, hgr2⟩ := copy_pre 41 Try.underlying41 _ w.heap.size (n + s) (n + s) _ hbk ao xs n cap hl (hr.below hb1) (by omega) (by simp [U])
  clear es et
  go_enter Try.func49, Try.ntmps49
  go_wp2
  go_ret
  refine ⟨rfl, ?_, hb1.trans ((Below.refl _ _).grown hgr2 (by simp) (fun _ h => by cases h; exact Nat.le_refl _))⟩
  have e : U xs ++ (U (List.replicate (n + s) 0)).drop n = U (xs ++ List.replicate s 0) := by simp [U]
  rw [e] at hg2
  exact hg2

end Go.Proofs.Ytchfkmompciooab
