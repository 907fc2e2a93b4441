import Derived.Test.YtodgblbaclionaaGreatDoorqPkB
import Derived.Test.YtodgblbaclionaaGreatDoorqWr0
import Derived.Test.YtodgblbaclionaaGreatDoorqWr1
import Derived.Test.YtodgblbaclionaaGreatDoorqWr2
import Derived.Test.YtodgblbaclionaaGreatDoorqWr3
import Derived.Test.YtodgblbaclionaaGreatDoorqWrN
namespace Go.Proofs.YtodgblbaclionaaGreatDoor

open Go.RowKit

set_option linter.unusedVariables false
set_option maxRecDepth 100000

theorem ans_lt {F : M.Fm} (h : F.Ok) (t : M.Pt) : ansN F t < 2 ^ 128 := by
  unfold ansN
  by_cases hp : F.Proper t
  · rw [if_pos hp]
    exact Nat.lt_of_lt_of_le (h.upk_pk t hp).2 h.width.2.2
  · rw [if_neg hp]; exact Nat.pow_pos (by omega)

theorem packS (f : Nat) (hf : f < 4) (z : Int) (hz : z = (f : Int)) (cl : Int) (ng : Bool) (s : Nat) (q : Int) (u : World) (hs : s < 2 ^ 128) (hq1 : -1000000 ≤ q) (hq2 : q ≤ 1000000) :
    Calls Tryz.prog 36 #[.int .i64 z, .agg #[.int .i64 cl, .bool ng, .int .u64 (M.hiN s : Int), .int .u64 (M.loN s : Int), .int .i64 q]] u fun e u' => ∃ (Y : Nat) (ok : Bool), Y < 2 ^ 128 ∧ e = .returned (.tuple #[.agg #[.int .u64 (M.hiN Y : Int), .int .u64 (M.loN Y : Int)], .bool ok]) ∧ Below u.heap.size u u' := by
  subst hz
  refine (spack_any f hf cl ng s hs q (by omega) (by omega) u).mono ?_
  rintro e u' ⟨rfl, hb⟩
  exact ⟨_, _, ans_lt (M.fm_ok f) _, rfl, hb⟩

theorem word_any (f : Int) {w0 v : World} {ao : Option Addr} {n c : Nat} {bs : List Nat} (hl : bs.length = n) (hn : n ≤ 1048576) (hb : RdB w0 ao bs) (h : Rs w0 v ao n c) :
    Calls Tryz.prog 15 #[.pointer (some ⟨w0.heap.size, 0, none⟩), .int .i64 f] v fun e v' => ∃ X : Nat, X < 2 ^ 128 ∧ e = .returned (.agg #[.int .u64 (M.hiN X : Int), .int .u64 (M.loN X : Int)]) ∧ Rs w0 v' ao n c := by
  by_cases hf : f < 0 ∨ 4 ≤ f
  · exact word_N f hf hl hn hb h (fun cl ng s q u => packS 1 (by omega) 1 rfl cl ng s q u)
  · rcases (show f = 0 ∨ f = 1 ∨ f = 2 ∨ f = 3 by omega) with rfl | rfl | rfl | rfl
    · exact word_0 hl hn hb h (fun cl ng s q u => packS 0 (by omega) 0 rfl cl ng s q u)
    · exact word_1 hl hn hb h (fun cl ng s q u => packS 1 (by omega) 1 rfl cl ng s q u)
    · exact word_2 hl hn hb h (fun cl ng s q u => packS 2 (by omega) 2 rfl cl ng s q u)
    · exact word_3 hl hn hb h (fun cl ng s q u => packS 3 (by omega) 3 rfl cl ng s q u)

set_option maxHeartbeats 2000000 in
set_option maxRecDepth 100000 in
theorem drawU_any (ao : Option Addr) (n c : Nat) (bs : List Nat) (w : World) (hl : bs.length = n) (hn : n ≤ 1048576) (hb : RdB w ao bs) :
    Calls Tryz.prog 5 #[.slice ao n c] w fun e w' => ∃ (f : Int) (X : Nat), X < 2 ^ 128 ∧ e = .returned (.tuple #[.int .i64 f, .agg #[.int .u64 (M.hiN X : Int), .int .u64 (M.loN X : Int)]]) ∧ Below w.heap.size w w' := by
  go_enter Tryz.func5, Tryz.ntmps5
  go_wp2_with fail
  have bw : Below w.heap.size w (w.alloc (.cells #[.int .u64 0, .int .u64 0] 25)) := (Below.refl _ _).alloc (Nat.le_refl _) _
  have R1 : Cls (w.alloc (.cells #[.int .u64 0, .int .u64 0] 25)) w.heap.size #[.int .u64 0, .int .u64 0] 25 := Cls.new _ _ _
  have hz1 : (w.alloc (.cells #[.int .u64 0, .int .u64 0] 25)).heap.size = w.heap.size + 1 := by simp
  have hb1 := hb.below bw
  have e1 : w.heap.size + 1 = (w.alloc (.cells #[.int .u64 0, .int .u64 0] 25)).heap.size := hz1.symm
  rw [e1]
  generalize w.alloc (.cells #[.int .u64 0, .int .u64 0] 25) = w1 at bw R1 hz1 hb1 ⊢
  clear e1 hz1
  have s0 : Rs w1 (w1.alloc (.cells #[.slice ao n c, .int .i64 0] 43)) ao n c := ⟨0, by omega, heap_alloc_new w1 _, (Below.refl _ _).alloc (Nat.le_refl _) _⟩
  generalize w1.alloc (.cells #[.slice ao n c, .int .i64 0] 43) = w2 at s0 ⊢
  refine (format_any hl hn hb1 s0).mono ?_
  rintro e w3 ⟨f, _, _, rfl, s3⟩
  go_wp2_with fail
  refine (word_any f hl hn hb1 s3).mono ?_
  rintro e w4 ⟨X, hX, rfl, s4⟩
  have R4 := R1.below s4.below
  have y0 := R4.cell 0 (x := .int .u64 0) rfl
  have y1 := R4.cell 1 (x := .int .u64 0) rfl
  have y2 := R4.frozen 0
  have y3 := R4.frozen 1
  have bw4 : Below w.heap.size w w4 := bw.trans (s4.below.mono bw.size)
  clear s0 s3 R1
  go_wp2_with fail
  have R9 : Cls ((w4.setCell ⟨w.heap.size, 0, none⟩ (.int .u64 (M.hiN X : Int))).setCell ⟨w.heap.size, 1, none⟩ (.int .u64 (M.loN X : Int))) w.heap.size #[.int .u64 (M.hiN X : Int), .int .u64 (M.loN X : Int)] 25 := (R4.set 0 _ _ rfl).set 1 _ _ rfl
  have H9 : Below w.heap.size w ((w4.setCell ⟨w.heap.size, 0, none⟩ (.int .u64 (M.hiN X : Int))).setCell ⟨w.heap.size, 1, none⟩ (.int .u64 (M.loN X : Int))) := (bw4.setCell (p := ⟨w.heap.size, 0, none⟩) (Nat.le_refl _) _).setCell (p := ⟨w.heap.size, 1, none⟩) (Nat.le_refl _) _
  generalize (w4.setCell ⟨w.heap.size, 0, none⟩ (.int .u64 (M.hiN X : Int))).setCell ⟨w.heap.size, 1, none⟩ (.int .u64 (M.loN X : Int)) = w9 at R9 H9 ⊢
  have z0 := R9.cell 0 (x := .int .u64 (M.hiN X : Int)) rfl
  have z1 := R9.cell 1 (x := .int .u64 (M.loN X : Int)) rfl
  exact bodyPost_ret (v := .tuple #[.int .i64 f, .agg #[.int .u64 (M.hiN X : Int), .int .u64 (M.loN X : Int)]]) (by simp [results, Tryz.results5, go_sem, z0, z1]) rfl ⟨f, X, hX, rfl, H9⟩

end Go.Proofs.YtodgblbaclionaaGreatDoor

