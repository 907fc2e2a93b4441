import Derived.Test.YtehplfmnipadmadLb
import Derived.Test.YtehplfmnipadmadByt
namespace Go.Proofs.Ytehplfmnipadmad
open Go.RowKit
set_option linter.unusedVariables false
set_option maxRecDepth 100000

theorem Try.infoY : (Try.prog.info? 5).map (fun i => (i.zero, i.size, i.bytes)) = some (some (.int .u8 0), 1, 1) := by kernel_rfl

/-- Limbs as cells. -/
def UB (xs : List Nat) : List Value := xs.map fun x : Nat => Value.int .u8 (x : Int)

theorem UB_length (xs : List Nat) : (UB xs).length = xs.length := by simp [UB]

theorem UB_append (xs ys : List Nat) : UB (xs ++ ys) = UB xs ++ UB ys := by simp [UB]

theorem UB_get (xs : List Nat) (i : Nat) (h : i < xs.length) : (UB xs)[i]? = some (.int .u8 ((xs.getD i 0 : Nat) : Int)) := by
  simp [UB, List.getD_eq_getElem?_getD, List.getElem?_eq_getElem h]

theorem UB_one (xs : List Nat) : ∀ u ∈ UB xs, u.oneCell' = true := by
  intro u hu; obtain ⟨_, _, rfl⟩ := List.mem_map.1 hu; rfl

/-- The slice at 'ao' reads 'xs'. -/
def RdY (w : World) (ao : Option Addr) (xs : List Nat) : Prop :=
  0 < xs.length → ∃ b off, ao = some ⟨b, off, none⟩ ∧ ∀ i, i < xs.length → w.cell? ⟨b, off + i, none⟩ = some (.int .u8 ((xs.getD i 0 : Nat) : Int))

theorem RdY.nil (w : World) (ao : Option Addr) : RdY w ao [] := fun h => by simp at h

theorem RdY.below {w w' : World} {ao : Option Addr} {xs : List Nat} (h : RdY w ao xs) (hb : Below w.heap.size w w') : RdY w' ao xs := by
  intro hp
  obtain ⟨b, off, e, hc⟩ := h hp
  refine ⟨b, off, e, fun i hi => ?_⟩
  exact (hb.cell (p := ⟨b, off + i, none⟩) (World.block_lt_of_cell? w _ (hc i hi))).trans (hc i hi)

theorem RdY.take {w : World} {ao : Option Addr} {xs : List Nat} (h : RdY w ao xs) (n : Nat) : RdY w ao (xs.take n) := by
  intro hp
  have hl : (xs.take n).length ≤ xs.length := by simp; omega
  obtain ⟨b, off, e, hc⟩ := h (by omega)
  refine ⟨b, off, e, fun i hi => ?_⟩
  rw [hc i (by omega)]
  have : i < n := by simp at hi; omega
  simp [List.getD_eq_getElem?_getD, this]

/-- From what the call owns to what can be read. -/
theorem RdY.own {w : World} {base n cap : Nat} {ao : Option Addr} {xs : List Nat} (h : w.ownsRow base 5 1 (.slice ao n cap) n (UB xs)) : RdY w ao xs := by
  intro hp
  have hl := h.1
  rw [UB_length] at hl
  rcases h.2 with ⟨he, h0⟩ | ⟨g, cap', cur, he, _, hg, _, _, _, ht⟩
  · omega
  · simp only [Value.slice.injEq] at he
    obtain ⟨rfl, _, rfl⟩ := he
    refine ⟨g, 0, rfl, fun i hi => ?_⟩
    have := h.cellAt i (by omega)
    rw [Nat.zero_add, this, UB_get xs i hi]

theorem ownY_cap {w : World} {base n cap : Nat} {ao : Option Addr} {xs : List Value} (h : w.ownsRow base 5 1 (.slice ao n cap) n xs) : n ≤ cap := by
  rcases h.2 with ⟨he, h0⟩ | ⟨g, cap', cur, he, _, hg, hc, _⟩
  · simp at he; omega
  · simp only [Value.slice.injEq] at he
    obtain ⟨_, _, rfl⟩ := he
    exact hc

theorem ownY_len {w : World} {base n cap : Nat} {ao : Option Addr} {xs : List Nat} (h : w.ownsRow base 5 1 (.slice ao n cap) n (UB xs)) : xs.length = n := by
  have := h.1; rw [UB_length] at this; omega

/-- What is owned is of the shape of a slice. -/
theorem ownY_shape {w : World} {base n : Nat} {v : Value} {xs : List Value} (h : w.ownsRow base 5 1 v n xs) : ∃ ao cap, v = .slice ao n cap := by
  rcases h.2 with ⟨rfl, rfl⟩ | ⟨g, cap', cur, rfl, _⟩
  · exact ⟨none, 0, rfl⟩
  · exact ⟨_, _, rfl⟩

theorem ownY_base {w : World} {base base' n : Nat} {v : Value} {xs : List Value} (h : w.ownsRow base 5 1 v n xs) (hb : base' ≤ base) : w.ownsRow base' 5 1 v n xs := by
  refine ⟨h.1, ?_⟩
  rcases h.2 with h' | ⟨g, cap', cur, e, hg, r⟩
  · exact .inl h'
  · exact .inr ⟨g, cap', cur, e, by omega, r⟩

/-- What is owned stays owned where nothing old has turned. -/
theorem ownY_below {w w' : World} {base n : Nat} {v : Value} {xs : List Value} (h : w.ownsRow base 5 1 v n xs) (hb : Below w.heap.size w w') : w'.ownsRow base 5 1 v n xs := by
  refine ⟨h.1, ?_⟩
  rcases h.2 with h' | ⟨g, cap', cur, e, hg, hh, r⟩
  · exact .inl h'
  · exact .inr ⟨g, cap', cur, e, hg, by rw [hb.block g (Array.getElem?_eq_some_iff.1 hh).1]; exact hh, r⟩

/-- The whole block behind a row of just its capacity. -/
theorem ownY_block {w : World} {base g n : Nat} {xs : List Value} (h : w.ownsRow base 5 1 (.slice (some ⟨g, 0, none⟩) n n) n xs) : w.heap[g]? = some (.cells xs.toArray 5 (0, 0)) := by
  rcases h.2 with ⟨he, h0⟩ | ⟨g', cap', cur, he, _, hg, _, _, hs, ht⟩
  · simp at he
  · simp only [Value.slice.injEq, Option.some.injEq, Addr.mk.injEq] at he
    obtain ⟨⟨rfl, _⟩, _, rfl⟩ := he
    rw [hg, ← ht, List.take_of_length_le (by rw [Array.length_toList]; omega)]

theorem ownY_of_block {w : World} {base g n : Nat} {xs : List Value} (h : w.heap[g]? = some (.cells xs.toArray 5 (0, 0))) (hb : base ≤ g) (hn : xs.length = n) (hm : n ≤ maxLen) : w.ownsRow base 5 1 (.slice (some ⟨g, 0, none⟩) n n) n xs :=
  ⟨by omega, .inr ⟨g, n, xs.toArray, rfl, hb, h, Nat.le_refl _, hm, by simp [hn], by simp [← hn]⟩⟩

theorem made_UB (k : Nat) : (madeCells #[Value.int .u8 0] k).toList = UB (List.replicate k 0) := by
  rw [toList_madeCells_one]; simp [UB]

/-- Block g is a row of just the limbs 'zs', of the call's own make. -/
def BlkY (w : World) (g : Nat) (zs : List Nat) : Prop := w.heap[g]? = some (.cells (UB zs).toArray 5 (0, 0))

theorem BlkY.lt {w : World} {g : Nat} {zs : List Nat} (h : BlkY w g zs) : g < w.heap.size := (Array.getElem?_eq_some_iff.1 h).1

theorem BlkY.cell {w : World} {g : Nat} {zs : List Nat} (h : BlkY w g zs) (i : Nat) (hi : i < zs.length) : w.cell? ⟨g, i, none⟩ = some (.int .u8 ((zs.getD i 0 : Nat) : Int)) := by
  rw [cell_of_row w g i _ _ (0, 0) h, List.getElem?_toArray, UB_get zs i hi]

theorem BlkY.frozen {w : World} {g : Nat} {zs : List Nat} (h : BlkY w g zs) (i : Nat) : w.frozen? ⟨g, i, none⟩ = false := frozen_of_row w g i _ _ h

theorem UB_set (zs : List Nat) (i x : Nat) : UB (zs.set i x) = (UB zs).set i (.int .u8 (x : Int)) := by simp [UB, List.map_set]

theorem BlkY.set {w : World} {g : Nat} {zs : List Nat} (h : BlkY w g zs) (i : Nat) (x : Nat) (v : Int) (hv : v = (x : Int)) : BlkY (w.setCell ⟨g, i, none⟩ (.int .u8 v)) g (zs.set i x) := by
  subst hv
  unfold BlkY
  rw [heap_setCell_same w g i _ _ _ h, UB_set]
  simp

theorem BlkY.set_other {w : World} {g : Nat} {zs : List Nat} (h : BlkY w g zs) (a : Addr) (ha : a.block ≠ g) (v : Value) : BlkY (w.setCell a v) g zs := by
  unfold BlkY
  rw [Below.heap_setCell _ _ _ _ (fun e => ha e.symm)]; exact h

theorem BlkY.below {w w' : World} {B g : Nat} {zs : List Nat} (h : BlkY w g zs) (hb : Below B w w') (hg : g < B) : BlkY w' g zs := (hb.block g hg).trans h

theorem BlkY.keep {w w' : World} {g : Nat} {zs : List Nat} (h : BlkY w g zs) (hb : Below w.heap.size w w') : BlkY w' g zs := (hb.block g h.lt).trans h

theorem BlkY.grown {w w' : World} {g : Nat} {zs : List Nat} {row : Option Nat} (h : BlkY w g zs) (hb : w.grownBy w' row) (hr : some g ≠ row) : BlkY w' g zs := (hb.block g h.lt hr).trans h

theorem BlkY.drewN {w : World} {g : Nat} {zs : List Nat} (h : BlkY w g zs) (q : Nat) : BlkY (w.drewN q) g zs := by
  unfold BlkY; rw [World.heap_drewN]; exact h

theorem BlkY.rd {w : World} {g : Nat} {zs : List Nat} (h : BlkY w g zs) (off n : Nat) (hn : off + n ≤ zs.length) : RdY w (some ⟨g, off, none⟩) ((zs.drop off).take n) := by
  intro hp
  refine ⟨g, off, rfl, fun i hi => ?_⟩
  have hi' : i < n := by simp at hi; omega
  rw [h.cell (off + i) (by omega)]
  simp [List.getD_eq_getElem?_getD, hi']

theorem BlkY.rd0 {w : World} {g : Nat} {zs : List Nat} (h : BlkY w g zs) : RdY w (some ⟨g, 0, none⟩) zs := by
  have := h.rd 0 zs.length (by omega)
  simpa using this

theorem BlkY.own {w : World} {base g n : Nat} {zs : List Nat} (h : BlkY w g zs) (hb : base ≤ g) (hn : zs.length = n) (hm : n ≤ maxLen) : w.ownsRow base 5 1 (.slice (some ⟨g, 0, none⟩) n n) n (UB zs) :=
  ownY_of_block h hb (by rw [UB_length, hn]) hm

theorem blkY_made (w : World) (n : Nat) : BlkY (w.alloc (.cells (madeCells #[Value.int .u8 0] n) 5)) w.heap.size (List.replicate n 0) := by
  unfold BlkY
  rw [heap_alloc_new w _, ← made_UB]

theorem ownY_addr {w : World} {base n cap : Nat} {ao : Option Addr} {xs : List Value} (h : w.ownsRow base 5 1 (.slice ao n cap) n xs) (hn : 0 < n) : ∃ g, ao = some ⟨g, 0, none⟩ ∧ base ≤ g := by
  rcases h.2 with ⟨he, h0⟩ | ⟨g, cap', cur, he, hb, _⟩
  · omega
  · simp only [Value.slice.injEq] at he
    exact ⟨g, he.1, hb⟩

theorem UB_setI (zs : List Nat) (i x : Nat) (v : Int) (hv : v = (x : Int)) : (UB zs).set i (.int .u8 v) = UB (zs.set i x) := by subst hv; exact (UB_set zs i x).symm

/-- k, k + 1, .. as bytes: n of them. -/
def marksB (k n : Nat) : List Nat := (List.range' k n).map (fun x => x % 256)

theorem marksB_step (xs : List Nat) (k0 n i : Nat) (hl : xs.length = n) (hi : i < n) : (marksB k0 i ++ xs.drop i).set i ((k0 + i) % 256) = marksB k0 (i + 1) ++ xs.drop (i + 1) := by
  have hlen : (marksB k0 i).length = i := by simp [marksB]
  rw [List.set_append_right _ _ (by omega), hlen, Nat.sub_self, List.drop_eq_getElem_cons (by omega), List.set_cons_zero]
  unfold marksB
  rw [List.range'_concat]
  simp

/-- A list that the call owns, in a block of which it is known where it lies. -/
structure OwnY (w : World) (lo hi : Nat) (ao : Option Addr) (cap : Nat) (r : List Nat) : Prop where
  row : w.ownsRow 0 5 1 (.slice ao r.length cap) r.length (UB r)
  place : ∀ k, (Value.slice ao r.length cap).ownBlock = some k → lo ≤ k ∧ k < hi

theorem OwnY.of {w : World} {base : Nat} {ao : Option Addr} {cap : Nat} {r : List Nat} (h : w.ownsRow base 5 1 (.slice ao r.length cap) r.length (UB r)) : OwnY w base w.heap.size ao cap r :=
  ⟨ownY_base h (Nat.zero_le _), fun k hk => h.lt k hk⟩

theorem OwnY.rd {w : World} {lo hi : Nat} {ao : Option Addr} {cap : Nat} {r : List Nat} (h : OwnY w lo hi ao cap r) : RdY w ao r := RdY.own h.row

theorem OwnY.keep {w w' : World} {lo hi : Nat} {ao : Option Addr} {cap : Nat} {r : List Nat} (h : OwnY w lo hi ao cap r) (hb : Below w.heap.size w w') : OwnY w' lo hi ao cap r := ⟨ownY_below h.row hb, h.place⟩

theorem OwnY.drewN {w : World} {lo hi : Nat} {ao : Option Addr} {cap : Nat} {r : List Nat} (h : OwnY w lo hi ao cap r) (q : Nat) : OwnY (w.drewN q) lo hi ao cap r := h.keep (below_drewN (Below.refl _ _) q)

theorem OwnY.grown {w w' : World} {lo hi : Nat} {ao : Option Addr} {cap : Nat} {r : List Nat} {row : Option Nat} (h : OwnY w lo hi ao cap r) (hg : w.grownBy w' row) (hne : ∀ k, lo ≤ k → k < hi → row ≠ some k) : OwnY w' lo hi ao cap r := by
  refine ⟨h.row.kept hg ?_, h.place⟩
  cases hv : (Value.slice ao r.length cap).ownBlock with
  | none => exact .inl rfl
  | some k => right; intro e; have := h.place k hv; exact hne k this.1 this.2 e.symm

theorem BlkY.toOwn {w : World} {g : Nat} {zs : List Nat} (h : BlkY w g zs) (hm : zs.length ≤ 4194304) : OwnY w g (g + 1) (some ⟨g, 0, none⟩) zs.length zs :=
  ⟨h.own (Nat.zero_le _) rfl (by unfold maxLen; omega), fun k hk => by simp [Value.ownBlock] at hk; omega⟩

theorem OwnY.row_ge {w : World} {lo hi : Nat} {ao : Option Addr} {cap : Nat} {r : List Nat} (h : OwnY w lo hi ao cap r) {B : Nat} (hB : B ≤ lo) : ∀ k, (Value.slice ao r.length cap).ownBlock = some k → B ≤ k := fun k hk => by have := (h.place k hk).1; omega

theorem RdB.y {w : World} {ao : Option Addr} {bs : List Nat} (h : RdB w ao bs) : RdY w ao bs := h.2

theorem RdB.of {w : World} {ao : Option Addr} {bs : List Nat} (h : RdY w ao bs) (hb : ∀ x ∈ bs, x < 256) : RdB w ao bs := ⟨hb, h⟩

end Go.Proofs.Ytehplfmnipadmad
