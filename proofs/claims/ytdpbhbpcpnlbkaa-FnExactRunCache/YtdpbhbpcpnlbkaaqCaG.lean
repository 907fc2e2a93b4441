import Derived.Deep.RegionHeld3
import Derived.Shelf.SlGeneric
import Derived.Shelf.SlicesE.Delete
import Derived.Shelf.SlicesE.Clone
import Derived.Ground.SlgnProg
import Derived.Lib.OwnBridge
import Derived.Test.YtdpbhbpcpnlbkaaqGB
import Derived.Test.YtdpbhbpcpnlbkaaqCa3
namespace Go.Proofs
open Go.Shelf Go.RowKit Go.Lib
shelf_lay_g SlLaysE.n45 Slgn 45 at Try 58 as Try.l58

shelf_lay_g SlLaysE0.n41 Slgn 41 at Try 56 as Try.l56

end Go.Proofs
namespace Go.Proofs.Ytdpbhbpcpnlbkaa
open Go.RowKit Go.Maps
set_option linter.unusedVariables false
set_option maxRecDepth 100000
def encT : Option Nat → Value
 | none => .nilIface
 | some g => .iface 66 (.pointer (some ⟨g, 0, none⟩))

theorem encT_one : ∀ o, (encT o).oneCell' = true := fun o => by cases o <;> rfl

theorem zeroT (w : World) : (zeroValue 120).run Try.prog w = .ok (encT none) w := by kernel_rfl

theorem infoT : (Try.prog.info? 120).map (fun i => (i.zero, i.size, i.bytes)) = some (some .nilIface, 1, 16) := by kernel_rfl

def Liv (w : World) (base : Nat) (v : Value) (ts : List (Option Nat)) : Prop := w.ownsRow base 120 1 v ts.length (ts.map encT)

theorem clone_some (b off n c : Nat) (ts : List (Option Nat)) (w : World) (hn : ts.length = n) (hm : n ≤ 100000) (hc : ∀ j u, (ts.map encT)[j]? = some u → w.cell? ⟨b, off + j, none⟩ = some u) :
 Calls Try.prog 56 #[.slice (some ⟨b, off, none⟩) n c] w fun e w' => ∃ v', e = .returned v' ∧ Liv w' w.heap.size v' ts ∧ Below w.heap.size w w' := by
 obtain ⟨i0, hi, hz0, hz1, hz2⟩ := info_parts infoT
 have h := AnyE.slices_Clone Try.l56 i0 .nilIface 1 16 hi hz0 hz1 hz2 rfl (by decide) (by intro w; kernel_rfl) b off n c (ts.map encT) w (by simp [hn]) (by unfold maxLen; omega) (by omega) hc (fun u hu => by obtain ⟨o, _, rfl⟩ := List.mem_map.1 hu; exact encT_one o)
 refine Calls.mono h ?_
 rintro e w' ⟨v', rfl, ho, -, hb⟩
 exact ⟨v', rfl, by unfold Liv; rw [hn]; exact ho, hb⟩

theorem delete_some (base g cap i : Nat) (ts : List (Option Nat)) (w : World) (h : Liv w base (.slice (some ⟨g, 0, none⟩) ts.length cap) ts) (hi : i < ts.length) :
 Calls Try.prog 58 #[.slice (some ⟨g, 0, none⟩) ts.length cap, .int .i64 i, .int .i64 ((i : Int) + 1)] w fun e w' => e = .returned (.slice (some ⟨g, 0, none⟩) (ts.length - 1) cap) ∧ Liv w' base (.slice (some ⟨g, 0, none⟩) (ts.length - 1) cap) (ts.eraseIdx i) ∧ Tn (fun k => k = g) w w' := by
 obtain ⟨i0, hi0, hz0, hz1, hz2⟩ := info_parts infoT
 obtain ⟨g', cap', e0, hb, hlt, hnc, hcm, -, hH⟩ := Go.Lib.holds_of_ownsRow (α := Option Nat) (enc := encT) h (by simp)
 simp at e0
 obtain ⟨rfl, rfl⟩ := e0
 have hd := AnyE.slices_Delete Try.l58 encT encT_one none zeroT i0 hi0 hz1 g 0 cap i (i + 1) ts.toArray w hH (by simpa using hnc) (by unfold maxLen at hcm; exact hcm) (by omega) (by simp; omega)
 simp only [List.size_toArray] at hd
 refine Calls.mono hd ?_
 rintro e w' ⟨rfl, q, rfl⟩
 have e1 : ts.length - (i + 1 - i) = ts.length - 1 := by omega
 rw [e1]
 have e2 : i + 1 - i = 1 := by omega
 rw [e2]
 refine ⟨rfl, ?_, ?_⟩
 · have := Go.Lib.ownsRow_putRow (q := q) (k := ts.length - 1) (ys := ts.take i ++ ts.drop (i + 1) ++ List.replicate 1 none) h (by simp; omega) (by omega)
   unfold Liv
   have e3 : (ts.take i ++ ts.drop (i + 1) ++ List.replicate 1 (none : Option Nat)).take (ts.length - 1) = ts.eraseIdx i := by
    rw [List.eraseIdx_eq_take_drop_succ, List.take_append_of_le_length (by simp; omega), List.take_of_length_le (by simp; omega)]
   rw [e3] at this
   rw [List.length_eraseIdx_of_lt hi]
   simpa using this
 · refine ⟨rfl, rfl, rfl, by simp [Sort.putRow, Sort.mapBlock, Sort.ahead], fun k hk hn => ?_⟩
   simp [Sort.putRow, Sort.mapBlock, Sort.ahead, Array.getElem?_modify, Ne.symm hn]

end Go.Proofs.Ytdpbhbpcpnlbkaa
