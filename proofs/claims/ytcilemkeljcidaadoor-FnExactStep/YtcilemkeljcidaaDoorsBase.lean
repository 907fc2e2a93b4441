import Derived.Test.YtcilemkeljcidaaDoorRows
import Derived.WalkSpells
import Derived.WalkLawsBesides
import Derived.Laws.CopyOwn
import Derived.Deep.QuietTactic
import Derived.BigQuiet
import Derived.Test.YtcilemkeljcidaaDoorsMath
namespace Go.Proofs.YtcilemkeljcidaaDoor
open Go.RowKit
set_option linter.unusedVariables false
set_option maxRecDepth 100000
theorem Tryd.infoU : (Tryd.prog.info? 27).map (fun i => (i.zero, i.size, i.bytes)) = some (some (.int .u64 0), 1, 8) := by kernel_rfl

def U (xs : List Nat) : List Value := xs.map fun x : Nat => Value.int .u64 (x : Int)

theorem U_length (xs : List Nat) : (U xs).length = xs.length := by simp [U]

theorem U_append (xs ys : List Nat) : U (xs ++ ys) = U xs ++ U ys := by simp [U]

theorem U_get (xs : List Nat) (i : Nat) (h : i < xs.length) : (U xs)[i]? = some (.int .u64 ((xs.getD i 0 : Nat) : Int)) := by
 simp [U, List.getD_eq_getElem?_getD, List.getElem?_eq_getElem h]

theorem U_one (xs : List Nat) : ∀ u ∈ U xs, u.oneCell' = true := by
 intro u hu; obtain ⟨_, _, rfl⟩ := List.mem_map.1 hu; rfl

def Rd (w : World) (ao : Option Addr) (xs : List Nat) : Prop :=
 0 < xs.length → ∃ b off, ao = some ⟨b, off, none⟩ ∧ ∀ i, i < xs.length → w.cell? ⟨b, off + i, none⟩ = some (.int .u64 ((xs.getD i 0 : Nat) : Int))

theorem Rd.nil (w : World) (ao : Option Addr) : Rd w ao [] := fun h => by simp at h

theorem Rd.below {w w' : World} {ao : Option Addr} {xs : List Nat} (h : Rd w ao xs) (hb : Below w.heap.size w w') : Rd w' ao xs := by
 intro hp
 obtain ⟨b, off, e, hc⟩ := h hp
 refine ⟨b, off, e, fun i hi => ?_⟩
 exact (hb.cell (p := ⟨b, off + i, none⟩) (World.block_lt_of_cell? w _ (hc i hi))).trans (hc i hi)

theorem Rd.take {w : World} {ao : Option Addr} {xs : List Nat} (h : Rd w ao xs) (n : Nat) : Rd w ao (xs.take n) := by
 intro hp
 have hl : (xs.take n).length ≤ xs.length := by simp; omega
 obtain ⟨b, off, e, hc⟩ := h (by omega)
 refine ⟨b, off, e, fun i hi => ?_⟩
 rw [hc i (by omega)]
 have : i < n := by simp at hi; omega
 simp [List.getD_eq_getElem?_getD, this]

theorem Rd.own {w : World} {base n cap : Nat} {ao : Option Addr} {xs : List Nat} (h : w.ownsRow base 27 1 (.slice ao n cap) n (U xs)) : Rd w ao xs := by
 intro hp
 have hl := h.1
 rw [U_length] at hl
 rcases h.2 with ⟨he, h0⟩ | ⟨g, cap', cur, he, _, hg, _, _, _, ht⟩
 · omega
 · simp only [Value.slice.injEq] at he
   obtain ⟨rfl, _, rfl⟩ := he
   refine ⟨g, 0, rfl, fun i hi => ?_⟩
   have := h.cellAt i (by omega)
   rw [Nat.zero_add, this, U_get xs i hi]

theorem own_cap {w : World} {base n cap : Nat} {ao : Option Addr} {xs : List Value} (h : w.ownsRow base 27 1 (.slice ao n cap) n xs) : n ≤ cap := by
 rcases h.2 with ⟨he, h0⟩ | ⟨g, cap', cur, he, _, hg, hc, _⟩
 · simp at he; omega
 · simp only [Value.slice.injEq] at he
   obtain ⟨_, _, rfl⟩ := he
   exact hc

theorem own_shape {w : World} {base n : Nat} {v : Value} {xs : List Value} (h : w.ownsRow base 27 1 v n xs) : ∃ ao cap, v = .slice ao n cap := by
 rcases h.2 with ⟨rfl, rfl⟩ | ⟨g, cap', cur, rfl, _⟩
 · exact ⟨none, 0, rfl⟩
 · exact ⟨_, _, rfl⟩

theorem own_base {w : World} {base base' n : Nat} {v : Value} {xs : List Value} (h : w.ownsRow base 27 1 v n xs) (hb : base' ≤ base) : w.ownsRow base' 27 1 v n xs := by
 refine ⟨h.1, ?_⟩
 rcases h.2 with h' | ⟨g, cap', cur, e, hg, r⟩
 · exact .inl h'
 · exact .inr ⟨g, cap', cur, e, by omega, r⟩

theorem own_block {w : World} {base g n : Nat} {xs : List Value} (h : w.ownsRow base 27 1 (.slice (some ⟨g, 0, none⟩) n n) n xs) : w.heap[g]? = some (.cells xs.toArray 27 (0, 0)) := by
 rcases h.2 with ⟨he, h0⟩ | ⟨g', cap', cur, he, _, hg, _, _, hs, ht⟩
 · simp at he
 · simp only [Value.slice.injEq, Option.some.injEq, Addr.mk.injEq] at he
   obtain ⟨⟨rfl, _⟩, _, rfl⟩ := he
   rw [hg, ← ht, List.take_of_length_le (by rw [Array.length_toList]; omega)]

theorem own_of_block {w : World} {base g n : Nat} {xs : List Value} (h : w.heap[g]? = some (.cells xs.toArray 27 (0, 0))) (hb : base ≤ g) (hn : xs.length = n) (hm : n ≤ maxLen) : w.ownsRow base 27 1 (.slice (some ⟨g, 0, none⟩) n n) n xs :=
 ⟨by omega, .inr ⟨g, n, xs.toArray, rfl, hb, h, Nat.le_refl _, hm, by simp [hn], by simp [← hn]⟩⟩

theorem made_U (k : Nat) : (madeCells #[Value.int .u64 0] k).toList = U (List.replicate k 0) := by
 rw [toList_madeCells_one]; simp [U]

theorem Rd.cellAdd {w : World} {ao : Option Addr} {xs : List Nat} {b off : Nat} (hc : ∀ i, i < xs.length → w.cell? ⟨b, off + i, none⟩ = some (.int .u64 ((xs.getD i 0 : Nat) : Int))) :
 ∀ j v, (U xs)[j]? = some v → w.cell? ((⟨b, off, none⟩ : Addr).add j) = some v := by
 intro j v hv
 have hj : j < xs.length := by have := (List.getElem?_eq_some_iff.1 hv).1; rwa [U_length] at this
 rw [Addr.add_lit, hc j hj, ← U_get xs j hj, hv]

theorem copy_pre (dT : TypeId) (hu : Tryd.prog.underlying dT = some (.slice 27)) (w1 : World) (g dn dc : Nat) (zs : List Value) (hg : w1.heap[g]? = some (.cells zs.toArray 27 (0, 0)))
 (ao : Option Addr) (ys : List Nat) (sn sc : Nat) (hy : ys.length = sn) (hr : Rd w1 ao ys) (h1 : sn ≤ dn) (h2 : sn ≤ zs.length) :
 ∃ w2, (Builtin.copy_ #[dT, dT] 3 #[.slice (some ⟨g, 0, none⟩) dn dc, .slice ao sn sc]).run Tryd.prog w1 = .ok (.int .i64 (sn : Int)) w2 ∧
   w2.heap[g]? = some (.cells (U ys ++ zs.drop sn).toArray 27 (0, 0)) ∧ w1.grownBy w2 (some g) := by
 have hs : (Tryd.prog.info? 27).map (·.size) = some 1 := by
  obtain ⟨i0, hi, hz0, hz1, hz2⟩ := info_parts Tryd.infoU
  rw [hi]; simp [hz1]
 by_cases h0 : sn = 0
 · subst h0
   have : ys = [] := List.eq_nil_of_length_eq_zero hy
   subst this
   refine ⟨w1, run_copy_none w1 dT dT 3 27 _ ao dn dc 0 sc hu hs (by simp), ?_, World.grownBy.refl _ _⟩
   simpa [U] using hg
 · obtain ⟨b, off, rfl, hc⟩ := hr (by omega)
   have hl : (U ys).length = sn := by rw [U_length, hy]
   have e := run_copy_row (P := Tryd.prog) w1 dT dT 3 27 g 0 dn dc ⟨b, off, none⟩ sn sc zs.toArray 27 (U ys) hu hs hg (by rw [hl]; show sn = min sn dn; omega) (Rd.cellAdd (ao := none) hc) (by simp [hl]; omega) (U_one ys)
   rw [hl] at e
   refine ⟨_, e, ?_, ?_⟩
   · rw [setRow_heap w1 g _ _ _ _ hg]; simp
   · exact ⟨rfl, rfl, rfl, by simp, fun k _ hk => setRow_other w1 g k _ (fun e => hk (by simp [e]))⟩

def Blk (w : World) (g : Nat) (zs : List Nat) : Prop := w.heap[g]? = some (.cells (U zs).toArray 27 (0, 0))

theorem Blk.lt {w : World} {g : Nat} {zs : List Nat} (h : Blk w g zs) : g < w.heap.size := (Array.getElem?_eq_some_iff.1 h).1

theorem Blk.cell {w : World} {g : Nat} {zs : List Nat} (h : Blk w g zs) (i : Nat) (hi : i < zs.length) : w.cell? ⟨g, i, none⟩ = some (.int .u64 ((zs.getD i 0 : Nat) : Int)) := by
 rw [cell_of_row w g i _ _ (0, 0) h, List.getElem?_toArray, U_get zs i hi]

theorem Blk.frozen {w : World} {g : Nat} {zs : List Nat} (h : Blk w g zs) (i : Nat) : w.frozen? ⟨g, i, none⟩ = false := frozen_of_row w g i _ _ h

theorem U_set (zs : List Nat) (i x : Nat) : U (zs.set i x) = (U zs).set i (.int .u64 (x : Int)) := by simp [U, List.map_set]

theorem Blk.set {w : World} {g : Nat} {zs : List Nat} (h : Blk w g zs) (i : Nat) (x : Nat) (v : Int) (hv : v = (x : Int)) : Blk (w.setCell ⟨g, i, none⟩ (.int .u64 v)) g (zs.set i x) := by
 subst hv
 unfold Blk
 rw [heap_setCell_same w g i _ _ _ h, U_set]
 simp

theorem Blk.below {w w' : World} {B g : Nat} {zs : List Nat} (h : Blk w g zs) (hb : Below B w w') (hg : g < B) : Blk w' g zs := (hb.block g hg).trans h

theorem Blk.grown {w w' : World} {g : Nat} {zs : List Nat} {row : Option Nat} (h : Blk w g zs) (hb : w.grownBy w' row) (hr : some g ≠ row) : Blk w' g zs := (hb.block g h.lt hr).trans h

theorem Blk.drewN {w : World} {g : Nat} {zs : List Nat} (h : Blk w g zs) (q : Nat) : Blk (w.drewN q) g zs := by
 unfold Blk; rw [World.heap_drewN]; exact h

theorem Blk.rd {w : World} {g : Nat} {zs : List Nat} (h : Blk w g zs) (off n : Nat) (hn : off + n ≤ zs.length) : Rd w (some ⟨g, off, none⟩) ((zs.drop off).take n) := by
 intro hp
 refine ⟨g, off, rfl, fun i hi => ?_⟩
 have hi' : i < n := by simp at hi; omega
 rw [h.cell (off + i) (by omega)]
 simp [List.getD_eq_getElem?_getD, hi']

theorem Blk.rd0 {w : World} {g : Nat} {zs : List Nat} (h : Blk w g zs) : Rd w (some ⟨g, 0, none⟩) zs := by
 have := h.rd 0 zs.length (by omega)
 simpa using this

theorem Blk.own {w : World} {base g n : Nat} {zs : List Nat} (h : Blk w g zs) (hb : base ≤ g) (hn : zs.length = n) (hm : n ≤ maxLen) : w.ownsRow base 27 1 (.slice (some ⟨g, 0, none⟩) n n) n (U zs) :=
 own_of_block h hb (by rw [U_length, hn]) hm

theorem blk_made (w : World) (n : Nat) : Blk (w.alloc (.cells (madeCells #[Value.int .u64 0] n) 27)) w.heap.size (List.replicate n 0) := by
 unfold Blk
 rw [heap_alloc_new w _, ← made_U]

theorem or_nat (x y i : Nat) (hx : x < 2 ^ i) : x ||| y * 2 ^ i = x + y * 2 ^ i := by
 rw [Nat.or_comm, ← Nat.shiftLeft_eq, ← Nat.shiftLeft_add_eq_or_of_lt hx, Nat.add_comm]

theorem or_pair (x y : Nat) (hx : x < 4294967296) (hy : y < 4294967296) : bits BinOp.or IntKind.u64 (x : Int) ((y : Int) * 4294967296) = ((x + y * 4294967296 : Nat) : Int) := by
 have e : (y : Int) * 4294967296 = ((y * 4294967296 : Nat) : Int) := by omega
 have h := or_nat x y 32 (by omega)
 rw [show (2 : Nat) ^ 32 = 4294967296 from rfl] at h
 rw [e, u64_or_nat x (y * 4294967296) (by omega) (by omega), h]

theorem grown_below {w w1 : World} {row : Option Nat} (h : w.grownBy w1 row) (hr : ∀ k, row = some k → w.heap.size ≤ k) : Below w.heap.size w w1 := (Below.refl _ w).grown h (Nat.le_refl _) hr

def L (n : Nat) : List Nat := M.dig 18446744073709551616 n

def V (xs : List Nat) : Nat := M.val 18446744073709551616 xs

def D (n : Nat) : List Nat := M.dig 4294967296 n

def X (xs : List Nat) : Nat := M.val 4294967296 xs

def F64 (xs : List Nat) : Prop := ∀ x ∈ xs, x < 18446744073709551616

def F32 (xs : List Nat) : Prop := ∀ x ∈ xs, x < 4294967296

theorem X_D (n : Nat) : X (D n) = n := M.val_dig (by omega) n

theorem F32_D (n : Nat) : F32 (D n) := M.dig_lt (by omega) n

theorem F64.get {xs : List Nat} (h : F64 xs) (i : Nat) : xs.getD i 0 < 18446744073709551616 := M.getD_lt (by omega) h i

theorem F32.get {xs : List Nat} (h : F32 xs) (i : Nat) : xs.getD i 0 < 4294967296 := M.getD_lt (by omega) h i

theorem hid {p : Prop} (h : p) : Hid p := h

theorem ret_int {k : IntKind} {a b : Int} (h : a = b) : Ending.returned (.int k a) = .returned (.int k b) := by rw [h]

end Go.Proofs.YtcilemkeljcidaaDoor
