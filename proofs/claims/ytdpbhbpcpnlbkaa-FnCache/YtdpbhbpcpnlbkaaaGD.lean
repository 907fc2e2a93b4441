import Derived.Shelf.SlicesQ.IndexFunc
import Derived.Ground.SlgfProg
import Derived.Laws.MakeOwn
import Derived.Test.YtdpbhbpcpnlbkaaaGQ
namespace Go.Proofs.Ytdpbhbpcpnlbkaa
open Go.RowKit Go.Maps
set_option linter.unusedVariables false
set_option maxRecDepth 100000
theorem infoSh : (Try.prog.info? 113).map (fun i => (i.zero, i.size, i.bytes)) = some (some (.agg #[.slice none 0 0, .int .i64 0]), 2, 32) := by kernel_rfl

theorem infoSl : (Try.prog.info? 131).map (fun i => (i.zero, i.size, i.bytes)) = some (some (.agg #[.int .i64 0, .bool false, .int .i64 0]), 3, 24) := by kernel_rfl

def fnc (N S mb hb : Nat) : Nat → Value := fun i => (#[.int .i64 0, .int .i64 0, .int .i64 0, .int .i64 0, .int .i64 0, .int .i64 (N : Int), .int .i64 (S : Int), .map (some mb), .slice none 0 0, .slice (some ⟨hb, 0, none⟩) N N] : Array Value).getD i default

def NC (w : World) (N S : Nat) (p : Value) (v : World) : Prop :=
 ∃ cb mb hb, p = .pointer (some ⟨cb, 0, none⟩) ∧ w.heap.size < cb ∧ w.heap.size < mb ∧ w.heap.size < hb ∧ Bf v cb 110 10 (fnc N S mb hb) ∧ v.heap[mb]? = some (.map #[] 0) ∧ v.heap[hb]? = some (.cells (madeCells #[.slice none 0 0, .int .i64 0] (N * 2)) 113 (0, 0)) ∧ Below w.heap.size w v ∧ v.cell? ⟨w.heap.size, 1, none⟩ = some (.int .i64 (S : Int))

theorem nc_a (w v : World) (N S x y : Nat) (o0 : Obj) (hb : Below w.heap.size w v) (hs : w.heap.size < v.heap.size) (hc : v.cell? ⟨w.heap.size, 1, none⟩ = some (.int .i64 (S : Int))) (hx : v.heap.size + 1 = x) (hy : v.heap.size + 2 = y) (z : Nat) (hz : v.heap.size + 3 = z) :
 NC w N S (.pointer (some ⟨z, 0, none⟩)) ((((v.alloc o0).alloc (.map #[] 0)).alloc (.cells (madeCells #[.slice none 0 0, .int .i64 0] (N * 2)) 113)).alloc (.cells #[.int .i64 0, .int .i64 0, .int .i64 0, .int .i64 0, .int .i64 0, .int .i64 (N : Int), .int .i64 (S : Int), .map (some x), .slice none 0 0, .slice (some ⟨y, 0, none⟩) N N] 110)) := by
 subst hx; subst hy; subst hz
 have s1 : (v.alloc o0).heap.size = v.heap.size + 1 := by simp
 have s2 : ((v.alloc o0).alloc (.map #[] 0)).heap.size = v.heap.size + 2 := by simp
 have s3 : (((v.alloc o0).alloc (.map #[] 0)).alloc (.cells (madeCells #[.slice none 0 0, .int .i64 0] (N * 2)) 113)).heap.size = v.heap.size + 3 := by simp
 refine ⟨v.heap.size + 3, v.heap.size + 1, v.heap.size + 2, rfl, by omega, by omega, by omega, ?_, ?_, ?_, ?_, ?_⟩
 · have := Bf.of_new (((v.alloc o0).alloc (.map #[] 0)).alloc (.cells (madeCells #[.slice none 0 0, .int .i64 0] (N * 2)) 113)) #[.int .i64 0, .int .i64 0, .int .i64 0, .int .i64 0, .int .i64 0, .int .i64 (N : Int), .int .i64 (S : Int), .map (some (v.heap.size + 1)), .slice none 0 0, .slice (some ⟨v.heap.size + 2, 0, none⟩) N N] 110
   rw [s3] at this; exact this
 · rw [Below.heap_alloc _ _ _ (by omega), Below.heap_alloc _ _ _ (by omega), ← s1]; exact heap_alloc_new _ _
 · rw [Below.heap_alloc _ _ _ (by omega), ← s2]; exact heap_alloc_new _ _
 · exact (((hb.alloc (by omega) _).alloc (by omega) _).alloc (by omega) _).alloc (by omega) _
 · have bb := ((((Below.refl v.heap.size v).alloc (Nat.le_refl _) o0).alloc (by omega) (.map #[] 0)).alloc (by omega) (.cells (madeCells #[.slice none 0 0, .int .i64 0] (N * 2)) 113)).alloc (by omega) (.cells #[.int .i64 0, .int .i64 0, .int .i64 0, .int .i64 0, .int .i64 0, .int .i64 (N : Int), .int .i64 (S : Int), .map (some (v.heap.size + 1)), .slice none 0 0, .slice (some ⟨v.heap.size + 2, 0, none⟩) N N] 110)
   exact (bb.cell (p := ⟨w.heap.size, 1, none⟩) hs).trans hc

theorem nc_b (w v : World) (N S x y : Nat) (o0 : Obj) (hb : Below w.heap.size w v) (hs : w.heap.size < v.heap.size) (hc : v.cell? ⟨w.heap.size, 1, none⟩ = some (.int .i64 (S : Int))) (hx : v.heap.size + 2 = x) (hy : v.heap.size = y) (z : Nat) (hz : v.heap.size + 3 = z) :
 NC w N S (.pointer (some ⟨z, 0, none⟩)) ((((v.alloc (.cells (madeCells #[.slice none 0 0, .int .i64 0] (N * 2)) 113)).alloc o0).alloc (.map #[] 0)).alloc (.cells #[.int .i64 0, .int .i64 0, .int .i64 0, .int .i64 0, .int .i64 0, .int .i64 (N : Int), .int .i64 (S : Int), .map (some x), .slice none 0 0, .slice (some ⟨y, 0, none⟩) N N] 110)) := by
 subst hx; subst hy; subst hz
 have s1 : (v.alloc (.cells (madeCells #[.slice none 0 0, .int .i64 0] (N * 2)) 113)).heap.size = v.heap.size + 1 := by simp
 have s2 : ((v.alloc (.cells (madeCells #[.slice none 0 0, .int .i64 0] (N * 2)) 113)).alloc o0).heap.size = v.heap.size + 2 := by simp
 have s3 : (((v.alloc (.cells (madeCells #[.slice none 0 0, .int .i64 0] (N * 2)) 113)).alloc o0).alloc (.map #[] 0)).heap.size = v.heap.size + 3 := by simp
 refine ⟨v.heap.size + 3, v.heap.size + 2, v.heap.size, rfl, by omega, by omega, by omega, ?_, ?_, ?_, ?_, ?_⟩
 · have := Bf.of_new (((v.alloc (.cells (madeCells #[.slice none 0 0, .int .i64 0] (N * 2)) 113)).alloc o0).alloc (.map #[] 0)) #[.int .i64 0, .int .i64 0, .int .i64 0, .int .i64 0, .int .i64 0, .int .i64 (N : Int), .int .i64 (S : Int), .map (some (v.heap.size + 2)), .slice none 0 0, .slice (some ⟨v.heap.size, 0, none⟩) N N] 110
   rw [s3] at this; exact this
 · rw [Below.heap_alloc _ _ _ (by omega), ← s2]; exact heap_alloc_new _ _
 · rw [Below.heap_alloc _ _ _ (by omega), Below.heap_alloc _ _ _ (by omega), Below.heap_alloc _ _ _ (by omega)]; exact heap_alloc_new _ _
 · exact (((hb.alloc (by omega) _).alloc (by omega) _).alloc (by omega) _).alloc (by omega) _
 · have bb := ((((Below.refl v.heap.size v).alloc (Nat.le_refl _) (.cells (madeCells #[.slice none 0 0, .int .i64 0] (N * 2)) 113)).alloc (by omega) o0).alloc (by omega) (.map #[] 0)).alloc (by omega) (.cells #[.int .i64 0, .int .i64 0, .int .i64 0, .int .i64 0, .int .i64 0, .int .i64 (N : Int), .int .i64 (S : Int), .map (some (v.heap.size + 2)), .slice none 0 0, .slice (some ⟨v.heap.size, 0, none⟩) N N] 110)
   exact (bb.cell (p := ⟨w.heap.size, 1, none⟩) hs).trans hc

theorem NC.drew {w v : World} {N S : Nat} {p : Value} (h : NC w N S p v) : NC w N S p v.drew := by
 obtain ⟨cb, mb, hb, e, l1, l2, l3, hC, hM, hH, bx, cx⟩ := h
 exact ⟨cb, mb, hb, e, l1, l2, l3, hC.qt (Qt.drew _), hM, hH, bx.drew, cx⟩

def fsh (S : Nat) (sb : Nat → Nat) (k : Nat) : Nat → Value := fun i => if i % 2 = 0 then (if i / 2 < k then .slice (some ⟨sb (i / 2), 0, none⟩) S S else .slice none 0 0) else .int .i64 0

def fsl : Nat → Value := fun i => if i % 3 = 1 then .bool false else .int .i64 0

def NK (w : World) (N S cb mb hb k : Nat) (v : World) : Prop :=
 ∃ sb : Nat → Nat, w.heap.size < cb ∧ w.heap.size < mb ∧ w.heap.size < hb ∧ Bf v cb 110 10 (fnc N S mb hb) ∧ v.heap[mb]? = some (.map #[] 0) ∧ Bf v hb 113 (N * 2) (fsh S sb k) ∧ (∀ i, i < k → Bf v (sb i) 131 (S * 3) fsl ∧ w.heap.size < sb i) ∧ (∀ i j, i < k → j < k → sb i = sb j → i = j) ∧ Below w.heap.size w v ∧ v.cell? ⟨w.heap.size, 1, none⟩ = some (.int .i64 (S : Int))

theorem made2 (S N : Nat) (sb : Nat → Nat) (i : Nat) (hi : i < N * 2) : (madeCells #[.slice none 0 0, .int .i64 0] (N * 2))[i]? = some (fsh S sb 0 i) := by
 have h2 : i % 2 = 0 ∨ i % 2 = 1 := by omega
 simp only [madeCells, fsh]
 rw [Array.getElem?_map, Array.getElem?_eq_getElem (by simpa using hi)]
 rcases h2 with h | h <;> simp [h]

theorem nk_zero {w v : World} {N S : Nat} {p : Value} (h : NC w N S p v) : ∃ cb mb hb, p = .pointer (some ⟨cb, 0, none⟩) ∧ NK w N S cb mb hb 0 v := by
 obtain ⟨cb, mb, hb, e, l1, l2, l3, hC, hM, hH, bx, cx⟩ := h
 exact ⟨cb, mb, hb, e, fun _ => 0, l1, l2, l3, hC, hM, ⟨_, hH, size_madeCells _ _, fun i hi => made2 S N _ i hi⟩, fun i hi => by omega, fun i j hi => by omega, bx, cx⟩

end Go.Proofs.Ytdpbhbpcpnlbkaa
