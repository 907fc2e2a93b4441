import Derived.Test.YtjffpclidcloeaaGreatDoorrBC
set_option maxHeartbeats 400000
namespace Go.Proofs.YtjffpclidcloeaaGreatDoor
open Go.RowKit
set_option linter.unusedVariables false
set_option maxRecDepth 100000
structure Own (w : World) (lo hi : Nat) (ao : Option Addr) (cap : Nat) (r : List Nat) : Prop where
 row : w.ownsRow 0 23 1 (.slice ao r.length cap) r.length (U r)
 place : ∀ k, (Value.slice ao r.length cap).ownBlock = some k → lo ≤ k ∧ k < hi

theorem Own.of {w : World} {base : Nat} {ao : Option Addr} {cap : Nat} {r : List Nat} (h : w.ownsRow base 23 1 (.slice ao r.length cap) r.length (U r)) : Own w base w.heap.size ao cap r :=
 ⟨own_base h (Nat.zero_le _), fun k hk => h.lt k hk⟩

theorem Own.rd {w : World} {lo hi : Nat} {ao : Option Addr} {cap : Nat} {r : List Nat} (h : Own w lo hi ao cap r) : Rd w ao r := Rd.own h.row

theorem Own.keep {w w' : World} {lo hi : Nat} {ao : Option Addr} {cap : Nat} {r : List Nat} (h : Own w lo hi ao cap r) (hb : Below w.heap.size w w') : Own w' lo hi ao cap r := ⟨own_below h.row hb, h.place⟩

theorem Own.drewN {w : World} {lo hi : Nat} {ao : Option Addr} {cap : Nat} {r : List Nat} (h : Own w lo hi ao cap r) (q : Nat) : Own (w.drewN q) lo hi ao cap r := h.keep (below_drewN (Below.refl _ _) q)

theorem Own.grown {w w' : World} {lo hi : Nat} {ao : Option Addr} {cap : Nat} {r : List Nat} {row : Option Nat} (h : Own w lo hi ao cap r) (hg : w.grownBy w' row) (hne : ∀ k, lo ≤ k → k < hi → row ≠ some k) : Own w' lo hi ao cap r := by
 refine ⟨h.row.kept hg ?_, h.place⟩
 cases hv : (Value.slice ao r.length cap).ownBlock with
 | none => exact .inl rfl
 | some k => right; intro e; have := h.place k hv; exact hne k this.1 this.2 e.symm

theorem Blk.toOwn {w : World} {g : Nat} {zs : List Nat} (h : Blk w g zs) (hm : zs.length ≤ 4194304) : Own w g (g + 1) (some ⟨g, 0, none⟩) zs.length zs :=
 ⟨h.own (Nat.zero_le _) rfl (by unfold maxLen; omega), fun k hk => by simp [Value.ownBlock] at hk; omega⟩

theorem Own.mark {w' : World} {base : Nat} {lo hi : Nat} {ao : Option Addr} {cap : Nat} {r : List Nat} {w : World} (h : Own w lo hi ao cap r) (k0 : Nat) (ho : w'.ownsRow 0 23 1 (.slice ao r.length cap) r.length (U (marks k0 r.length))) : Rd w' ao (marks k0 r.length) := Rd.own ho

def rdB (bs : List Nat) (i : Nat) : Nat := bs.getD i 0

def RdB (w : World) (ao : Option Addr) (bs : List Nat) : Prop :=
 (∀ x ∈ bs, x < 256) ∧ (0 < bs.length → ∃ b off, ao = some ⟨b, off, none⟩ ∧ ∀ i, i < bs.length → w.cell? ⟨b, off + i, none⟩ = some (.int .u8 ((bs.getD i 0 : Nat) : Int)))

theorem RdB.below {w w' : World} {ao : Option Addr} {xs : List Nat} (h : RdB w ao xs) (hb : Below w.heap.size w w') : RdB w' ao xs := by
 refine ⟨h.1, fun hp => ?_⟩
 obtain ⟨b, off, e, hc⟩ := h.2 hp
 refine ⟨b, off, e, fun i hi => ?_⟩
 exact (hb.cell (p := ⟨b, off + i, none⟩) (World.block_lt_of_cell? w _ (hc i hi))).trans (hc i hi)

theorem RdB.grown {w w' : World} {ao : Option Addr} {bs : List Nat} {g : Nat} (h : RdB w ao bs) (hg : w.grownBy w' (some g)) (hsep : 0 < bs.length → ∀ b2 o2, ao = some ⟨b2, o2, none⟩ → b2 ≠ g) : RdB w' ao bs := by
 refine ⟨h.1, fun hp => ?_⟩
 obtain ⟨b, off, e, hc⟩ := h.2 hp
 exact ⟨b, off, e, fun i hi => hg.cell (hc i hi) (by simpa using hsep hp b off e)⟩

def InB (w : World) (a : Option Addr) (len cap : Nat) (bs : List Nat) : Prop := bs.length = len ∧ len ≤ cap ∧ RdB w a bs

theorem Tryz.infoY : (Tryz.prog.info? 5).map (fun i => (i.zero, i.size, i.bytes)) = some (some (.int .u8 0), 1, 1) := by kernel_rfl

def UB (xs : List Nat) : List Value := xs.map fun x : Nat => Value.int .u8 (x : Int)

theorem UB_length (xs : List Nat) : (UB xs).length = xs.length := by simp [UB]

theorem UB_append (xs ys : List Nat) : UB (xs ++ ys) = UB xs ++ UB ys := by simp [UB]

theorem UB_get (xs : List Nat) (i : Nat) (h : i < xs.length) : (UB xs)[i]? = some (.int .u8 ((xs.getD i 0 : Nat) : Int)) := by
 simp [UB, List.getD_eq_getElem?_getD, List.getElem?_eq_getElem h]

theorem UB_one (xs : List Nat) : ∀ u ∈ UB xs, u.oneCell' = true := by
 intro u hu; obtain ⟨_, _, rfl⟩ := List.mem_map.1 hu; rfl

def RdY (w : World) (ao : Option Addr) (xs : List Nat) : Prop :=
 0 < xs.length → ∃ b off, ao = some ⟨b, off, none⟩ ∧ ∀ i, i < xs.length → w.cell? ⟨b, off + i, none⟩ = some (.int .u8 ((xs.getD i 0 : Nat) : Int))

theorem RdY.nil (w : World) (ao : Option Addr) : RdY w ao [] := fun h => by simp at h

theorem RdY.below {w w' : World} {ao : Option Addr} {xs : List Nat} (h : RdY w ao xs) (hb : Below w.heap.size w w') : RdY w' ao xs := by
 intro hp
 obtain ⟨b, off, e, hc⟩ := h hp
 refine ⟨b, off, e, fun i hi => ?_⟩
 exact (hb.cell (p := ⟨b, off + i, none⟩) (World.block_lt_of_cell? w _ (hc i hi))).trans (hc i hi)

theorem RdY.take {w : World} {ao : Option Addr} {xs : List Nat} (h : RdY w ao xs) (n : Nat) : RdY w ao (xs.take n) := by
 intro hp
 have hl : (xs.take n).length ≤ xs.length := by simp; omega
 obtain ⟨b, off, e, hc⟩ := h (by omega)
 refine ⟨b, off, e, fun i hi => ?_⟩
 rw [hc i (by omega)]
 have : i < n := by simp at hi; omega
 simp [List.getD_eq_getElem?_getD, this]

theorem RdY.own {w : World} {base n cap : Nat} {ao : Option Addr} {xs : List Nat} (h : w.ownsRow base 5 1 (.slice ao n cap) n (UB xs)) : RdY w ao xs := by
 intro hp
 have hl := h.1
 rw [UB_length] at hl
 rcases h.2 with ⟨he, h0⟩ | ⟨g, cap', cur, he, _, hg, _, _, _, ht⟩
 · omega
 · simp only [Value.slice.injEq] at he
   obtain ⟨rfl, _, rfl⟩ := he
   refine ⟨g, 0, rfl, fun i hi => ?_⟩
   have := h.cellAt i (by omega)
   rw [Nat.zero_add, this, UB_get xs i hi]

theorem ownY_cap {w : World} {base n cap : Nat} {ao : Option Addr} {xs : List Value} (h : w.ownsRow base 5 1 (.slice ao n cap) n xs) : n ≤ cap := by
 rcases h.2 with ⟨he, h0⟩ | ⟨g, cap', cur, he, _, hg, hc, _⟩
 · simp at he; omega
 · simp only [Value.slice.injEq] at he
   obtain ⟨_, _, rfl⟩ := he
   exact hc

theorem ownY_len {w : World} {base n cap : Nat} {ao : Option Addr} {xs : List Nat} (h : w.ownsRow base 5 1 (.slice ao n cap) n (UB xs)) : xs.length = n := by
 have := h.1; rw [UB_length] at this; omega

theorem ownY_shape {w : World} {base n : Nat} {v : Value} {xs : List Value} (h : w.ownsRow base 5 1 v n xs) : ∃ ao cap, v = .slice ao n cap := by
 rcases h.2 with ⟨rfl, rfl⟩ | ⟨g, cap', cur, rfl, _⟩
 · exact ⟨none, 0, rfl⟩
 · exact ⟨_, _, rfl⟩

theorem ownY_base {w : World} {base base' n : Nat} {v : Value} {xs : List Value} (h : w.ownsRow base 5 1 v n xs) (hb : base' ≤ base) : w.ownsRow base' 5 1 v n xs := by
 refine ⟨h.1, ?_⟩
 rcases h.2 with h' | ⟨g, cap', cur, e, hg, r⟩
 · exact .inl h'
 · exact .inr ⟨g, cap', cur, e, by omega, r⟩

theorem ownY_below {w w' : World} {base n : Nat} {v : Value} {xs : List Value} (h : w.ownsRow base 5 1 v n xs) (hb : Below w.heap.size w w') : w'.ownsRow base 5 1 v n xs := by
 refine ⟨h.1, ?_⟩
 rcases h.2 with h' | ⟨g, cap', cur, e, hg, hh, r⟩
 · exact .inl h'
 · exact .inr ⟨g, cap', cur, e, hg, by rw [hb.block g (Array.getElem?_eq_some_iff.1 hh).1]; exact hh, r⟩

theorem ownY_of_block {w : World} {base g n : Nat} {xs : List Value} (h : w.heap[g]? = some (.cells xs.toArray 5 (0, 0))) (hb : base ≤ g) (hn : xs.length = n) (hm : n ≤ maxLen) : w.ownsRow base 5 1 (.slice (some ⟨g, 0, none⟩) n n) n xs :=
 ⟨by omega, .inr ⟨g, n, xs.toArray, rfl, hb, h, Nat.le_refl _, hm, by simp [hn], by simp [← hn]⟩⟩

theorem made_UB (k : Nat) : (madeCells #[Value.int .u8 0] k).toList = UB (List.replicate k 0) := by
 rw [toList_madeCells_one]; simp [UB]

def BlkY (w : World) (g : Nat) (zs : List Nat) : Prop := w.heap[g]? = some (.cells (UB zs).toArray 5 (0, 0))

theorem BlkY.lt {w : World} {g : Nat} {zs : List Nat} (h : BlkY w g zs) : g < w.heap.size := (Array.getElem?_eq_some_iff.1 h).1

theorem BlkY.cell {w : World} {g : Nat} {zs : List Nat} (h : BlkY w g zs) (i : Nat) (hi : i < zs.length) : w.cell? ⟨g, i, none⟩ = some (.int .u8 ((zs.getD i 0 : Nat) : Int)) := by
 rw [cell_of_row w g i _ _ (0, 0) h, List.getElem?_toArray, UB_get zs i hi]

theorem BlkY.frozen {w : World} {g : Nat} {zs : List Nat} (h : BlkY w g zs) (i : Nat) : w.frozen? ⟨g, i, none⟩ = false := frozen_of_row w g i _ _ h

theorem UB_set (zs : List Nat) (i x : Nat) : UB (zs.set i x) = (UB zs).set i (.int .u8 (x : Int)) := by simp [UB, List.map_set]

theorem BlkY.set {w : World} {g : Nat} {zs : List Nat} (h : BlkY w g zs) (i : Nat) (x : Nat) (v : Int) (hv : v = (x : Int)) : BlkY (w.setCell ⟨g, i, none⟩ (.int .u8 v)) g (zs.set i x) := by
 subst hv
 unfold BlkY
 rw [heap_setCell_same w g i _ _ _ h, UB_set]
 simp

theorem BlkY.set_other {w : World} {g : Nat} {zs : List Nat} (h : BlkY w g zs) (a : Addr) (ha : a.block ≠ g) (v : Value) : BlkY (w.setCell a v) g zs := by
 unfold BlkY
 rw [Below.heap_setCell _ _ _ _ (fun e => ha e.symm)]; exact h

theorem BlkY.below {w w' : World} {B g : Nat} {zs : List Nat} (h : BlkY w g zs) (hb : Below B w w') (hg : g < B) : BlkY w' g zs := (hb.block g hg).trans h

theorem BlkY.keep {w w' : World} {g : Nat} {zs : List Nat} (h : BlkY w g zs) (hb : Below w.heap.size w w') : BlkY w' g zs := (hb.block g h.lt).trans h

theorem BlkY.grown {w w' : World} {g : Nat} {zs : List Nat} {row : Option Nat} (h : BlkY w g zs) (hb : w.grownBy w' row) (hr : some g ≠ row) : BlkY w' g zs := (hb.block g h.lt hr).trans h

theorem BlkY.drewN {w : World} {g : Nat} {zs : List Nat} (h : BlkY w g zs) (q : Nat) : BlkY (w.drewN q) g zs := by
 unfold BlkY; rw [World.heap_drewN]; exact h

theorem BlkY.rd {w : World} {g : Nat} {zs : List Nat} (h : BlkY w g zs) (off n : Nat) (hn : off + n ≤ zs.length) : RdY w (some ⟨g, off, none⟩) ((zs.drop off).take n) := by
 intro hp
 refine ⟨g, off, rfl, fun i hi => ?_⟩
 have hi' : i < n := by simp at hi; omega
 rw [h.cell (off + i) (by omega)]
 simp [List.getD_eq_getElem?_getD, hi']

theorem BlkY.rd0 {w : World} {g : Nat} {zs : List Nat} (h : BlkY w g zs) : RdY w (some ⟨g, 0, none⟩) zs := by
 have := h.rd 0 zs.length (by omega)
 simpa using this

theorem BlkY.own {w : World} {base g n : Nat} {zs : List Nat} (h : BlkY w g zs) (hb : base ≤ g) (hn : zs.length = n) (hm : n ≤ maxLen) : w.ownsRow base 5 1 (.slice (some ⟨g, 0, none⟩) n n) n (UB zs) :=
 ownY_of_block h hb (by rw [UB_length, hn]) hm

theorem blkY_made (w : World) (n : Nat) : BlkY (w.alloc (.cells (madeCells #[Value.int .u8 0] n) 5)) w.heap.size (List.replicate n 0) := by
 unfold BlkY
 rw [heap_alloc_new w _, ← made_UB]

theorem toB_any (ao : Option Addr) (n cap : Nat) (xs : List Nat) (w : World) (hl : xs.length = n) (hn : n ≤ 4194304) (hr : RdY w ao xs) :
 Calls Tryz.prog 5 #[.slice ao n cap] w fun e w' => e = .returned (.slice (some ⟨w.heap.size, 0, none⟩) n n) ∧ BlkY w' w.heap.size xs ∧ Below w.heap.size w w' := by
 obtain ⟨i0, hi, hz0, hz1, hz2⟩ := info_parts Tryz.infoY
 go_enter Tryz.func5, Tryz.ntmps5
 have hmk := fun (wx : World) => run_make (P := Tryz.prog) wx 22 5 i0 (.int .u8 0) Tryz.underlying22 hi hz0 .i64 .i64 n n (by omega) (Int.le_refl _) (by rw [hz2]; omega) (by omega)
 go_wp2
 go_loopw [4] (fun i wr => ∃ k : Nat, k ≤ n ∧ i = .int .i64 k ∧ BlkY wr w.heap.size (xs.take k ++ List.replicate (n - k) 0) ∧ wr.heap.size = w.heap.size + 1 ∧ Below w.heap.size w wr) (fun i _ => n - (intOf i).toNat)
 case atStart =>
  refine ⟨0, Nat.zero_le _, rfl, ?_, by simp, (Below.refl _ _).alloc (Nat.le_refl _) _⟩
  simpa using blkY_made w n
 case round =>
  obtain ⟨k, hk, rfl, hB, hsz, hbl⟩ := hrel
  clear hmk
  by_cases hlt : k < n
  · obtain ⟨b, off, hao, hc⟩ := hr (by omega)
    have hck := (hr.below hbl) (by omega)
    obtain ⟨b', off', hao', hc'⟩ := hck
    rw [hao] at hao'
    simp only [Option.some.injEq, Addr.mk.injEq, and_true] at hao'
    obtain ⟨rfl, rfl⟩ := hao'
    have hck := hc' k (by omega)
    have hcd := hB.cell k (by rw [fill_len xs n k hl (by omega)]; exact hlt)
    rw [fill_get xs n k hl hlt] at hcd
    have hfr := hB.frozen k
    clear hc hc'
    obtain ⟨x, hxx⟩ : ∃ x : Int, x = ((xs.getD k 0 : Nat) : Int) := ⟨_, rfl⟩
    rw [← hxx] at hck
    have HX := hid hxx; clear hxx
    have hlt' : (k : Int) < (n : Int) := by omega
    have HB := hid hB; clear hB
    have HS := hid hsz; clear hsz
    go_wp2
    go_roundw
    case rel =>
     refine ⟨k + 1, by omega, by go_num, ?_, by simp [World.setCell, HS.out], hbl.setCell (Nat.le_refl _) _⟩
     have := HB.out.set k (xs.getD k 0) x HX.out
     rwa [fill_step xs n k hl hlt] at this
    case measure => simp [intOf]; omega
  · have HB := hid hB; clear hB
    have HS := hid hsz; clear hsz
    go_wp2
    go_ret
    have e : k = n := by omega
    have := HB.out
    rw [e, Nat.sub_self, List.take_of_length_le (by omega)] at this
    exact ⟨rfl, by simpa using this, hbl⟩

theorem eqB_any (ao bo : Option Addr) (n m c d : Nat) (xs ys : List Nat) (w : World) (hl : xs.length = n) (hm : ys.length = m) (hn : n ≤ 4194304) (hn2 : m ≤ 4194304) (hr : RdY w ao xs) (hr2 : RdY w bo ys) :
 Calls Tryz.prog 8 #[.slice ao n c, .slice bo m d] w fun e w' => e = .returned (.bool (decide (xs = ys))) ∧ ∃ q, w' = w.drewN q := by
 by_cases hnm : n = m
 · subst hnm
   have hb : ((n : Int) != (n : Int)) = false := by simp
   go_enter Tryz.func8, Tryz.ntmps8
   go_wp2
   go_loopw [5] (fun i wr => ∃ k : Nat, k ≤ n ∧ i = .int .i64 k ∧ (∀ j, j < k → xs.getD j 0 = ys.getD j 0) ∧ ∃ q, wr = w.drewN q) (fun i _ => n - (intOf i).toNat)
   case atStart => exact ⟨0, Nat.zero_le _, rfl, fun j h => by omega, 0, rfl⟩
   case round =>
    obtain ⟨k, hk, rfl, he, q, rfl⟩ := hrel
    have HE := hid he; clear he
    by_cases hlt : k < n
    · obtain ⟨b, off, hao, hc⟩ := hr (by omega)
      have hck := hc k (by omega)
      have HC := hid hc; clear hc
      obtain ⟨x, hxx⟩ : ∃ x : Int, x = ((xs.getD k 0 : Nat) : Int) := ⟨_, rfl⟩
      rw [← hxx] at hck
      have HX := hid hxx; clear hxx
      obtain ⟨b2, off2, hao2, hc2⟩ := hr2 (by omega)
      have hck2 := hc2 k (by omega)
      have HC2 := hid hc2; clear hc2
      obtain ⟨y, hyy⟩ : ∃ y : Int, y = ((ys.getD k 0 : Nat) : Int) := ⟨_, rfl⟩
      rw [← hyy] at hck2
      have HY := hid hyy; clear hyy
      have hlt' : (k : Int) < (n : Int) := by omega
      by_cases hxy : x = y
      · have hne : (x != y) = false := by simp [hxy]
        have HXY := hid hxy; clear hxy
        go_wp2
        go_quiet (fail)
        go_wp2
        go_roundw
        case rel =>
         refine ⟨k + 1, by omega, by go_num, fun j hj => ?_, _, rfl⟩
         by_cases e : j = k
         · subst e; have h1 := HX.out; have h2 := HY.out; have h3 := HXY.out; omega
         · exact HE.out j (by omega)
        case measure => simp [intOf]; omega
      · have hne : (x != y) = true := by simp [hxy]
        have HXY := hid hxy; clear hxy
        go_wp2
        go_quiet (fail)
        go_wp2
        go_ret
        refine ⟨?_, _, World.drewN_drewN _ _ _⟩
        have : decide (xs = ys) = false := by
         simp only [decide_eq_false_iff_not]
         intro e; subst e; exact HXY.out (HX.out.trans HY.out.symm)
        rw [this]; rfl
    · go_wp2
      go_ret
      refine ⟨?_, _, rfl⟩
      have : decide (xs = ys) = true := by
       simp only [decide_eq_true_eq]
       apply List.ext_getElem (by omega)
       intro j h1 h2
       have := HE.out j (by omega)
       simpa [List.getD_eq_getElem?_getD, h1, h2] using this
      rw [this]; rfl
 · have hb : ((n : Int) != (m : Int)) = true := by simp; omega
   go_enter Tryz.func8, Tryz.ntmps8
   go_wp2
   go_ret
   have : decide (xs = ys) = false := by
    simp only [decide_eq_false_iff_not]
    intro e; subst e; omega
   exact ⟨by rw [this]; rfl, 0, rfl⟩

theorem ownY_addr {w : World} {base n cap : Nat} {ao : Option Addr} {xs : List Value} (h : w.ownsRow base 5 1 (.slice ao n cap) n xs) (hn : 0 < n) : ∃ g, ao = some ⟨g, 0, none⟩ ∧ base ≤ g := by
 rcases h.2 with ⟨he, h0⟩ | ⟨g, cap', cur, he, hb, _⟩
 · omega
 · simp only [Value.slice.injEq] at he
   exact ⟨g, he.1, hb⟩

structure OwnY (w : World) (lo hi : Nat) (ao : Option Addr) (cap : Nat) (r : List Nat) : Prop where
 row : w.ownsRow 0 5 1 (.slice ao r.length cap) r.length (UB r)
 place : ∀ k, (Value.slice ao r.length cap).ownBlock = some k → lo ≤ k ∧ k < hi

theorem OwnY.of {w : World} {base : Nat} {ao : Option Addr} {cap : Nat} {r : List Nat} (h : w.ownsRow base 5 1 (.slice ao r.length cap) r.length (UB r)) : OwnY w base w.heap.size ao cap r :=
 ⟨ownY_base h (Nat.zero_le _), fun k hk => h.lt k hk⟩

theorem OwnY.rd {w : World} {lo hi : Nat} {ao : Option Addr} {cap : Nat} {r : List Nat} (h : OwnY w lo hi ao cap r) : RdY w ao r := RdY.own h.row

theorem OwnY.keep {w w' : World} {lo hi : Nat} {ao : Option Addr} {cap : Nat} {r : List Nat} (h : OwnY w lo hi ao cap r) (hb : Below w.heap.size w w') : OwnY w' lo hi ao cap r := ⟨ownY_below h.row hb, h.place⟩

theorem OwnY.drewN {w : World} {lo hi : Nat} {ao : Option Addr} {cap : Nat} {r : List Nat} (h : OwnY w lo hi ao cap r) (q : Nat) : OwnY (w.drewN q) lo hi ao cap r := h.keep (below_drewN (Below.refl _ _) q)

theorem OwnY.grown {w w' : World} {lo hi : Nat} {ao : Option Addr} {cap : Nat} {r : List Nat} {row : Option Nat} (h : OwnY w lo hi ao cap r) (hg : w.grownBy w' row) (hne : ∀ k, lo ≤ k → k < hi → row ≠ some k) : OwnY w' lo hi ao cap r := by
 refine ⟨h.row.kept hg ?_, h.place⟩
 cases hv : (Value.slice ao r.length cap).ownBlock with
 | none => exact .inl rfl
 | some k => right; intro e; have := h.place k hv; exact hne k this.1 this.2 e.symm

theorem BlkY.toOwn {w : World} {g : Nat} {zs : List Nat} (h : BlkY w g zs) (hm : zs.length ≤ 4194304) : OwnY w g (g + 1) (some ⟨g, 0, none⟩) zs.length zs :=
 ⟨h.own (Nat.zero_le _) rfl (by unfold maxLen; omega), fun k hk => by simp [Value.ownBlock] at hk; omega⟩

theorem RdB.y {w : World} {ao : Option Addr} {bs : List Nat} (h : RdB w ao bs) : RdY w ao bs := h.2

theorem RdB.of {w : World} {ao : Option Addr} {bs : List Nat} (h : RdY w ao bs) (hb : ∀ x ∈ bs, x < 256) : RdB w ao bs := ⟨hb, h⟩

def RetY (w w' : World) (e : Ending) (r : List Nat) : Prop :=
 ∃ ra rc, e = .returned (.slice ra r.length rc) ∧ w'.ownsRow w.heap.size 5 1 (.slice ra r.length rc) r.length (UB r) ∧ Below w.heap.size w w'

theorem RetY.later {w0 w w' : World} {e : Ending} {r : List Nat} (h : RetY w w' e r) (hb : Below w0.heap.size w0 w) : RetY w0 w' e r := by
 obtain ⟨ra, rc, h1, h2, h3⟩ := h
 exact ⟨ra, rc, h1, ownY_base h2 hb.size, hb.trans (h3.mono hb.size)⟩

def RetR (w w' : World) (e : Ending) (r : List Nat) : Prop :=
 ∃ ra rc, e = .returned (.slice ra r.length rc) ∧ RdY w' ra r ∧ r.length ≤ rc ∧ Below w.heap.size w w'

theorem RetR.later {w0 w w' : World} {e : Ending} {r : List Nat} (h : RetR w w' e r) (hb : Below w0.heap.size w0 w) : RetR w0 w' e r := by
 obtain ⟨ra, rc, h1, h2, h4, h3⟩ := h
 exact ⟨ra, rc, h1, h2, h4, hb.trans (h3.mono hb.size)⟩

theorem own_place {W : World} {base e k j : Nat} {v : Value} {xs : List Value} (h : W.ownsRow base e 1 v k xs) (hj : v.ownBlock = some j) : base ≤ j := by
 rcases h.2 with ⟨rfl, _⟩ | ⟨g, cap, cur, rfl, hb, _⟩
 · simp [Value.ownBlock] at hj
 · simp only [Value.ownBlock, Option.some.injEq] at hj
   omega

end Go.Proofs.YtjffpclidcloeaaGreatDoor
