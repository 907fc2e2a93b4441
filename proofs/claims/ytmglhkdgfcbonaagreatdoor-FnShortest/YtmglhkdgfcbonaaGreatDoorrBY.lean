import Derived.Test.YtmglhkdgfcbonaaGreatDoorrBC
namespace Go.Proofs.YtmglhkdgfcbonaaGreatDoor
open Go.RowKit
set_option linter.unusedVariables false
set_option maxRecDepth 100000
structure Own (w : World) (lo hi : Nat) (ao : Option Addr) (cap : Nat) (r : List Nat) : Prop where
 row : w.ownsRow 0 22 1 (.slice ao r.length cap) r.length (U r)
 place : ∀ k, (Value.slice ao r.length cap).ownBlock = some k → lo ≤ k ∧ k < hi

theorem Own.of {w : World} {base : Nat} {ao : Option Addr} {cap : Nat} {r : List Nat} (h : w.ownsRow base 22 1 (.slice ao r.length cap) r.length (U r)) : Own w base w.heap.size ao cap r :=
 ⟨own_base h (Nat.zero_le _), fun k hk => h.lt k hk⟩

theorem Own.rd {w : World} {lo hi : Nat} {ao : Option Addr} {cap : Nat} {r : List Nat} (h : Own w lo hi ao cap r) : Rd w ao r := Rd.own h.row

theorem Own.keep {w w' : World} {lo hi : Nat} {ao : Option Addr} {cap : Nat} {r : List Nat} (h : Own w lo hi ao cap r) (hb : Below w.heap.size w w') : Own w' lo hi ao cap r := ⟨own_below h.row hb, h.place⟩

theorem Own.drewN {w : World} {lo hi : Nat} {ao : Option Addr} {cap : Nat} {r : List Nat} (h : Own w lo hi ao cap r) (q : Nat) : Own (w.drewN q) lo hi ao cap r := h.keep (below_drewN (Below.refl _ _) q)

theorem Own.grown {w w' : World} {lo hi : Nat} {ao : Option Addr} {cap : Nat} {r : List Nat} {row : Option Nat} (h : Own w lo hi ao cap r) (hg : w.grownBy w' row) (hne : ∀ k, lo ≤ k → k < hi → row ≠ some k) : Own w' lo hi ao cap r := by
 refine ⟨h.row.kept hg ?_, h.place⟩
 cases hv : (Value.slice ao r.length cap).ownBlock with
 | none => exact .inl rfl
 | some k => right; intro e; have := h.place k hv; exact hne k this.1 this.2 e.symm

theorem Blk.toOwn {w : World} {g : Nat} {zs : List Nat} (h : Blk w g zs) (hm : zs.length ≤ 4194304) : Own w g (g + 1) (some ⟨g, 0, none⟩) zs.length zs :=
 ⟨h.own (Nat.zero_le _) rfl (by unfold maxLen; omega), fun k hk => by simp [Value.ownBlock] at hk; omega⟩

theorem Own.mark {w' : World} {base : Nat} {lo hi : Nat} {ao : Option Addr} {cap : Nat} {r : List Nat} {w : World} (h : Own w lo hi ao cap r) (k0 : Nat) (ho : w'.ownsRow 0 22 1 (.slice ao r.length cap) r.length (U (marks k0 r.length))) : Rd w' ao (marks k0 r.length) := Rd.own ho

def rdB (bs : List Nat) (i : Nat) : Nat := bs.getD i 0

def adv (bs : List Nat) (i : Nat) : Nat := if i < bs.length then i + 1 else i

def RdB (w : World) (ao : Option Addr) (bs : List Nat) : Prop :=
 (∀ x ∈ bs, x < 256) ∧ (0 < bs.length → ∃ b off, ao = some ⟨b, off, none⟩ ∧ ∀ i, i < bs.length → w.cell? ⟨b, off + i, none⟩ = some (.int .u8 ((bs.getD i 0 : Nat) : Int)))

theorem RdB.below {w w' : World} {ao : Option Addr} {xs : List Nat} (h : RdB w ao xs) (hb : Below w.heap.size w w') : RdB w' ao xs := by
 refine ⟨h.1, fun hp => ?_⟩
 obtain ⟨b, off, e, hc⟩ := h.2 hp
 refine ⟨b, off, e, fun i hi => ?_⟩
 exact (hb.cell (p := ⟨b, off + i, none⟩) (World.block_lt_of_cell? w _ (hc i hi))).trans (hc i hi)

theorem rdB_lt {w : World} {ao : Option Addr} {bs : List Nat} (h : RdB w ao bs) (i : Nat) : rdB bs i < 256 := M.getD_lt (by omega) h.1 i

theorem RdB.grown {w w' : World} {ao : Option Addr} {bs : List Nat} {g : Nat} (h : RdB w ao bs) (hg : w.grownBy w' (some g)) (hsep : 0 < bs.length → ∀ b2 o2, ao = some ⟨b2, o2, none⟩ → b2 ≠ g) : RdB w' ao bs := by
 refine ⟨h.1, fun hp => ?_⟩
 obtain ⟨b, off, e, hc⟩ := h.2 hp
 exact ⟨b, off, e, fun i hi => hg.cell (hc i hi) (by simpa using hsep hp b off e)⟩

def InB (w : World) (a : Option Addr) (len cap : Nat) (bs : List Nat) : Prop := bs.length = len ∧ len ≤ cap ∧ RdB w a bs

theorem Tryz.infoY : (Tryz.prog.info? 5).map (fun i => (i.zero, i.size, i.bytes)) = some (some (.int .u8 0), 1, 1) := by kernel_rfl

def UB (xs : List Nat) : List Value := xs.map fun x : Nat => Value.int .u8 (x : Int)

theorem UB_length (xs : List Nat) : (UB xs).length = xs.length := by simp [UB]

theorem UB_append (xs ys : List Nat) : UB (xs ++ ys) = UB xs ++ UB ys := by simp [UB]

theorem UB_get (xs : List Nat) (i : Nat) (h : i < xs.length) : (UB xs)[i]? = some (.int .u8 ((xs.getD i 0 : Nat) : Int)) := by
 simp [UB, List.getD_eq_getElem?_getD, List.getElem?_eq_getElem h]

theorem UB_one (xs : List Nat) : ∀ u ∈ UB xs, u.oneCell' = true := by
 intro u hu; obtain ⟨_, _, rfl⟩ := List.mem_map.1 hu; rfl

def RdY (w : World) (ao : Option Addr) (xs : List Nat) : Prop :=
 0 < xs.length → ∃ b off, ao = some ⟨b, off, none⟩ ∧ ∀ i, i < xs.length → w.cell? ⟨b, off + i, none⟩ = some (.int .u8 ((xs.getD i 0 : Nat) : Int))

theorem RdY.nil (w : World) (ao : Option Addr) : RdY w ao [] := fun h => by simp at h

theorem RdY.below {w w' : World} {ao : Option Addr} {xs : List Nat} (h : RdY w ao xs) (hb : Below w.heap.size w w') : RdY w' ao xs := by
 intro hp
 obtain ⟨b, off, e, hc⟩ := h hp
 refine ⟨b, off, e, fun i hi => ?_⟩
 exact (hb.cell (p := ⟨b, off + i, none⟩) (World.block_lt_of_cell? w _ (hc i hi))).trans (hc i hi)

theorem RdY.take {w : World} {ao : Option Addr} {xs : List Nat} (h : RdY w ao xs) (n : Nat) : RdY w ao (xs.take n) := by
 intro hp
 have hl : (xs.take n).length ≤ xs.length := by simp; omega
 obtain ⟨b, off, e, hc⟩ := h (by omega)
 refine ⟨b, off, e, fun i hi => ?_⟩
 rw [hc i (by omega)]
 have : i < n := by simp at hi; omega
 simp [List.getD_eq_getElem?_getD, this]

theorem RdY.own {w : World} {base n cap : Nat} {ao : Option Addr} {xs : List Nat} (h : w.ownsRow base 5 1 (.slice ao n cap) n (UB xs)) : RdY w ao xs := by
 intro hp
 have hl := h.1
 rw [UB_length] at hl
 rcases h.2 with ⟨he, h0⟩ | ⟨g, cap', cur, he, _, hg, _, _, _, ht⟩
 · omega
 · simp only [Value.slice.injEq] at he
   obtain ⟨rfl, _, rfl⟩ := he
   refine ⟨g, 0, rfl, fun i hi => ?_⟩
   have := h.cellAt i (by omega)
   rw [Nat.zero_add, this, UB_get xs i hi]

theorem ownY_cap {w : World} {base n cap : Nat} {ao : Option Addr} {xs : List Value} (h : w.ownsRow base 5 1 (.slice ao n cap) n xs) : n ≤ cap := by
 rcases h.2 with ⟨he, h0⟩ | ⟨g, cap', cur, he, _, hg, hc, _⟩
 · simp at he; omega
 · simp only [Value.slice.injEq] at he
   obtain ⟨_, _, rfl⟩ := he
   exact hc

theorem ownY_len {w : World} {base n cap : Nat} {ao : Option Addr} {xs : List Nat} (h : w.ownsRow base 5 1 (.slice ao n cap) n (UB xs)) : xs.length = n := by
 have := h.1; rw [UB_length] at this; omega

theorem ownY_base {w : World} {base base' n : Nat} {v : Value} {xs : List Value} (h : w.ownsRow base 5 1 v n xs) (hb : base' ≤ base) : w.ownsRow base' 5 1 v n xs := by
 refine ⟨h.1, ?_⟩
 rcases h.2 with h' | ⟨g, cap', cur, e, hg, r⟩
 · exact .inl h'
 · exact .inr ⟨g, cap', cur, e, by omega, r⟩

theorem ownY_below {w w' : World} {base n : Nat} {v : Value} {xs : List Value} (h : w.ownsRow base 5 1 v n xs) (hb : Below w.heap.size w w') : w'.ownsRow base 5 1 v n xs := by
 refine ⟨h.1, ?_⟩
 rcases h.2 with h' | ⟨g, cap', cur, e, hg, hh, r⟩
 · exact .inl h'
 · exact .inr ⟨g, cap', cur, e, hg, by rw [hb.block g (Array.getElem?_eq_some_iff.1 hh).1]; exact hh, r⟩

theorem ownY_of_block {w : World} {base g n : Nat} {xs : List Value} (h : w.heap[g]? = some (.cells xs.toArray 5 (0, 0))) (hb : base ≤ g) (hn : xs.length = n) (hm : n ≤ maxLen) : w.ownsRow base 5 1 (.slice (some ⟨g, 0, none⟩) n n) n xs :=
 ⟨by omega, .inr ⟨g, n, xs.toArray, rfl, hb, h, Nat.le_refl _, hm, by simp [hn], by simp [← hn]⟩⟩

def BlkY (w : World) (g : Nat) (zs : List Nat) : Prop := w.heap[g]? = some (.cells (UB zs).toArray 5 (0, 0))

theorem BlkY.lt {w : World} {g : Nat} {zs : List Nat} (h : BlkY w g zs) : g < w.heap.size := (Array.getElem?_eq_some_iff.1 h).1

theorem BlkY.cell {w : World} {g : Nat} {zs : List Nat} (h : BlkY w g zs) (i : Nat) (hi : i < zs.length) : w.cell? ⟨g, i, none⟩ = some (.int .u8 ((zs.getD i 0 : Nat) : Int)) := by
 rw [cell_of_row w g i _ _ (0, 0) h, List.getElem?_toArray, UB_get zs i hi]

theorem BlkY.frozen {w : World} {g : Nat} {zs : List Nat} (h : BlkY w g zs) (i : Nat) : w.frozen? ⟨g, i, none⟩ = false := frozen_of_row w g i _ _ h

theorem UB_set (zs : List Nat) (i x : Nat) : UB (zs.set i x) = (UB zs).set i (.int .u8 (x : Int)) := by simp [UB, List.map_set]

theorem BlkY.set {w : World} {g : Nat} {zs : List Nat} (h : BlkY w g zs) (i : Nat) (x : Nat) (v : Int) (hv : v = (x : Int)) : BlkY (w.setCell ⟨g, i, none⟩ (.int .u8 v)) g (zs.set i x) := by
 subst hv
 unfold BlkY
 rw [heap_setCell_same w g i _ _ _ h, UB_set]
 simp

theorem BlkY.set_other {w : World} {g : Nat} {zs : List Nat} (h : BlkY w g zs) (a : Addr) (ha : a.block ≠ g) (v : Value) : BlkY (w.setCell a v) g zs := by
 unfold BlkY
 rw [Below.heap_setCell _ _ _ _ (fun e => ha e.symm)]; exact h

theorem BlkY.below {w w' : World} {B g : Nat} {zs : List Nat} (h : BlkY w g zs) (hb : Below B w w') (hg : g < B) : BlkY w' g zs := (hb.block g hg).trans h

theorem BlkY.keep {w w' : World} {g : Nat} {zs : List Nat} (h : BlkY w g zs) (hb : Below w.heap.size w w') : BlkY w' g zs := (hb.block g h.lt).trans h

theorem BlkY.grown {w w' : World} {g : Nat} {zs : List Nat} {row : Option Nat} (h : BlkY w g zs) (hb : w.grownBy w' row) (hr : some g ≠ row) : BlkY w' g zs := (hb.block g h.lt hr).trans h

theorem BlkY.drewN {w : World} {g : Nat} {zs : List Nat} (h : BlkY w g zs) (q : Nat) : BlkY (w.drewN q) g zs := by
 unfold BlkY; rw [World.heap_drewN]; exact h

theorem BlkY.rd {w : World} {g : Nat} {zs : List Nat} (h : BlkY w g zs) (off n : Nat) (hn : off + n ≤ zs.length) : RdY w (some ⟨g, off, none⟩) ((zs.drop off).take n) := by
 intro hp
 refine ⟨g, off, rfl, fun i hi => ?_⟩
 have hi' : i < n := by simp at hi; omega
 rw [h.cell (off + i) (by omega)]
 simp [List.getD_eq_getElem?_getD, hi']

theorem BlkY.rd0 {w : World} {g : Nat} {zs : List Nat} (h : BlkY w g zs) : RdY w (some ⟨g, 0, none⟩) zs := by
 have := h.rd 0 zs.length (by omega)
 simpa using this

theorem BlkY.own {w : World} {base g n : Nat} {zs : List Nat} (h : BlkY w g zs) (hb : base ≤ g) (hn : zs.length = n) (hm : n ≤ maxLen) : w.ownsRow base 5 1 (.slice (some ⟨g, 0, none⟩) n n) n (UB zs) :=
 ownY_of_block h hb (by rw [UB_length, hn]) hm

theorem ownY_addr {w : World} {base n cap : Nat} {ao : Option Addr} {xs : List Value} (h : w.ownsRow base 5 1 (.slice ao n cap) n xs) (hn : 0 < n) : ∃ g, ao = some ⟨g, 0, none⟩ ∧ base ≤ g := by
 rcases h.2 with ⟨he, h0⟩ | ⟨g, cap', cur, he, hb, _⟩
 · omega
 · simp only [Value.slice.injEq] at he
   exact ⟨g, he.1, hb⟩

theorem UB_setI (zs : List Nat) (i x : Nat) (v : Int) (hv : v = (x : Int)) : (UB zs).set i (.int .u8 v) = UB (zs.set i x) := by subst hv; exact (UB_set zs i x).symm

structure OwnY (w : World) (lo hi : Nat) (ao : Option Addr) (cap : Nat) (r : List Nat) : Prop where
 row : w.ownsRow 0 5 1 (.slice ao r.length cap) r.length (UB r)
 place : ∀ k, (Value.slice ao r.length cap).ownBlock = some k → lo ≤ k ∧ k < hi

theorem OwnY.of {w : World} {base : Nat} {ao : Option Addr} {cap : Nat} {r : List Nat} (h : w.ownsRow base 5 1 (.slice ao r.length cap) r.length (UB r)) : OwnY w base w.heap.size ao cap r :=
 ⟨ownY_base h (Nat.zero_le _), fun k hk => h.lt k hk⟩

theorem OwnY.rd {w : World} {lo hi : Nat} {ao : Option Addr} {cap : Nat} {r : List Nat} (h : OwnY w lo hi ao cap r) : RdY w ao r := RdY.own h.row

theorem OwnY.keep {w w' : World} {lo hi : Nat} {ao : Option Addr} {cap : Nat} {r : List Nat} (h : OwnY w lo hi ao cap r) (hb : Below w.heap.size w w') : OwnY w' lo hi ao cap r := ⟨ownY_below h.row hb, h.place⟩

theorem OwnY.drewN {w : World} {lo hi : Nat} {ao : Option Addr} {cap : Nat} {r : List Nat} (h : OwnY w lo hi ao cap r) (q : Nat) : OwnY (w.drewN q) lo hi ao cap r := h.keep (below_drewN (Below.refl _ _) q)

theorem OwnY.grown {w w' : World} {lo hi : Nat} {ao : Option Addr} {cap : Nat} {r : List Nat} {row : Option Nat} (h : OwnY w lo hi ao cap r) (hg : w.grownBy w' row) (hne : ∀ k, lo ≤ k → k < hi → row ≠ some k) : OwnY w' lo hi ao cap r := by
 refine ⟨h.row.kept hg ?_, h.place⟩
 cases hv : (Value.slice ao r.length cap).ownBlock with
 | none => exact .inl rfl
 | some k => right; intro e; have := h.place k hv; exact hne k this.1 this.2 e.symm

theorem BlkY.toOwn {w : World} {g : Nat} {zs : List Nat} (h : BlkY w g zs) (hm : zs.length ≤ 4194304) : OwnY w g (g + 1) (some ⟨g, 0, none⟩) zs.length zs :=
 ⟨h.own (Nat.zero_le _) rfl (by unfold maxLen; omega), fun k hk => by simp [Value.ownBlock] at hk; omega⟩

theorem RdB.y {w : World} {ao : Option Addr} {bs : List Nat} (h : RdB w ao bs) : RdY w ao bs := h.2

theorem RdB.of {w : World} {ao : Option Addr} {bs : List Nat} (h : RdY w ao bs) (hb : ∀ x ∈ bs, x < 256) : RdB w ao bs := ⟨hb, h⟩

def RetY (w w' : World) (e : Ending) (r : List Nat) : Prop :=
 ∃ ra rc, e = .returned (.slice ra r.length rc) ∧ w'.ownsRow w.heap.size 5 1 (.slice ra r.length rc) r.length (UB r) ∧ Below w.heap.size w w'

theorem RetY.later {w0 w w' : World} {e : Ending} {r : List Nat} (h : RetY w w' e r) (hb : Below w0.heap.size w0 w) : RetY w0 w' e r := by
 obtain ⟨ra, rc, h1, h2, h3⟩ := h
 exact ⟨ra, rc, h1, ownY_base h2 hb.size, hb.trans (h3.mono hb.size)⟩

def RetR (w w' : World) (e : Ending) (r : List Nat) : Prop :=
 ∃ ra rc, e = .returned (.slice ra r.length rc) ∧ RdY w' ra r ∧ r.length ≤ rc ∧ Below w.heap.size w w'

theorem RetR.later {w0 w w' : World} {e : Ending} {r : List Nat} (h : RetR w w' e r) (hb : Below w0.heap.size w0 w) : RetR w0 w' e r := by
 obtain ⟨ra, rc, h1, h2, h4, h3⟩ := h
 exact ⟨ra, rc, h1, h2, h4, hb.trans (h3.mono hb.size)⟩

end Go.Proofs.YtmglhkdgfcbonaaGreatDoor
