import Derived.Shelf.SlGeneric
import Derived.Shelf.SlicesE.Delete
import Derived.Shelf.SlicesE.Clone
import Derived.Ground.SlgnProg
import Derived.Lib.OwnBridge
import Derived.Deep.LoopGhost
import Derived.Shelf.SlicesQ.IndexFunc
import Derived.Ground.SlgfProg
import Derived.Laws.MakeOwn
import Derived.Test.YtdpbhbpcpnlbkaaaGC
namespace Go.Proofs
open Go.Shelf Go.RowKit Go.Lib
shelf_lay_g SlLaysH0.n8 Slgf 8 at Try 53 as Try.l53

end Go.Proofs
namespace Go.Proofs.Ytdpbhbpcpnlbkaa
open Go.RowKit Go.Maps
set_option linter.unusedVariables false
set_option maxRecDepth 100000
theorem infoI : (Try.prog.info? 3).map (fun i => (i.zero, i.size, i.bytes)) = some (some (.int .i64 0), 1, 8) := by kernel_rfl

theorem newSeeker_any (cb n c : Nat) (ao : Option Addr) (hn : n ≤ 1000) (w : World) :
 Calls Try.prog 28 #[.pointer (some ⟨cb, 0, none⟩), .slice ao n c] w fun e w' => e = .returned (.pointer (some ⟨w.heap.size + 1, 0, none⟩)) ∧ w' = (w.alloc (.cells (madeCells #[.int .i64 0] n) 3)).alloc (.cells #[.pointer (some ⟨cb, 0, none⟩), .slice ao n c, .slice (some ⟨w.heap.size, 0, none⟩) n n, .int .i64 0, .pointer none, .int .i64 0] 116) := by
 obtain ⟨i0, hi, hz0, hz1, hz2⟩ := info_parts infoI
 have hmk := fun (wx : World) => run_make (P := Try.prog) wx 26 3 i0 (.int .i64 0) Try.underlying26 hi hz0 .i64 .i64 ((n : Nat) : Int) ((n : Nat) : Int) (by omega) (Int.le_refl _) (by rw [hz2]; omega) (by omega)
 simp only [Int.toNat_natCast] at hmk
 go_enter Try.func28, Try.ntmps28
 go_wp2_with fail
 go_ret
 exact ⟨rfl, rfl⟩

theorem newBook_any (w : World) :
 Calls Try.prog 55 #[] w fun e w' => e = .returned (.agg #[.map (some (w.heap.size + 1)), .slice none 0 0]) ∧ w' = (w.alloc (.cells #[.map (some (w.heap.size + 1)), .slice none 0 0] 104)).alloc (.map #[] 0) := by
 have hmk := fun v : World => run_makeMap (P := Try.prog) 102 v
 go_enter Try.func55, Try.ntmps55
 go_wp2_with fail
 exact bodyPost_ret (v := .agg #[.map (some (w.heap.size + 1)), .slice none 0 0]) (by simp [results, Try.results55, go_sem]) rfl ⟨rfl, rfl⟩

theorem bad_any (k m : Int) (w : World) :
 Calls Try.prog 54 #[.agg #[.int .i64 k, .int .i64 m]] w fun e w' => e = .returned (.bool (!decide (keyOk k m))) ∧ Below w.heap.size w w' := by
 have b0 : Below w.heap.size w (w.alloc (.cells #[.int .i64 k, .int .i64 m] 36)) := (Below.refl _ _).alloc (Nat.le_refl _) _
 have kG := fun v : World => ikey_any k m v
 generalize decide (keyOk k m) = b at *
 go_enter Try.func54, Try.ntmps54
 go_wp2_with fail
 refine (kG _).mono ?_
 rintro e v ⟨rfl, hb⟩
 go_wp2_with fail
 go_ret
 exact ⟨rfl, b0.trans (hb.mono b0.size)⟩

def encK (x : Int × Int) : List Value := [.int .i64 x.1, .int .i64 x.2]

def RdK (w : World) (ao : Option Addr) (ks : List (Int × Int)) : Prop := 0 < ks.length → ∃ b off, ao = some ⟨b, off, none⟩ ∧ b < w.heap.size ∧ ∀ j, j < ks.length → w.cell? ⟨b, off + j * 2, none⟩ = some (.int .i64 ks[j]!.1) ∧ w.cell? ⟨b, off + j * 2 + 1, none⟩ = some (.int .i64 ks[j]!.2)

theorem contains_some (b off n c : Nat) (ks : List (Int × Int)) (w : World) (hn : ks.length = n) (hn2 : n ≤ 1048576) (hb : b < w.heap.size) (hc : ∀ j, j < ks.length → w.cell? ⟨b, off + j * 2, none⟩ = some (.int .i64 ks[j]!.1) ∧ w.cell? ⟨b, off + j * 2 + 1, none⟩ = some (.int .i64 ks[j]!.2)) :
 Calls Try.prog 53 #[.slice (some ⟨b, off, none⟩) n c, .func (.func 54) #[] #[]] w fun e w' => e = .returned (.bool (ks.any fun x => !decide (keyOk x.1 x.2))) ∧ Below w.heap.size w w' := by
 have eg : ∀ args w, (callFunc 54 args).run Try.prog w = .ok (.enter 54 args) w := enters_of Try.func54 (by kernel_rfl) rfl
 have h := AnyQ.slices_ContainsFunc Try.l53 2 (by intro w; kernel_rfl) (by intro w; kernel_rfl) encK (fun _ => rfl) (fun x => !decide (keyOk x.1 x.2)) 54 #[] eg b off n c ks w
  (fun W x hb => (bad_any x.1 x.2 W).mono (fun e w' h => ⟨h.1, hb.trans (h.2.mono hb.size)⟩)) (by omega) (by omega) hb (fun j hj i v hi => by
    have h1 := hc j hj
    generalize ks[j]! = y at hi h1
    match i, hi with
    | 0, hi => simp [encK] at hi; rw [← hi]; exact h1.1
    | 1, hi => simp [encK] at hi; rw [← hi]; exact h1.2
    | i + 2, hi => simp [encK] at hi)
 refine Calls.mono h ?_
 rintro e w' ⟨rfl, hb⟩
 rw [List.take_of_length_le (by omega)]
 exact ⟨rfl, hb⟩

end Go.Proofs.Ytdpbhbpcpnlbkaa
