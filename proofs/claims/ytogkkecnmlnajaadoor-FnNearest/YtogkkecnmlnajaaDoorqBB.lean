import Derived.Test.YtogkkecnmlnajaaDoorRows
import Derived.WalkSpells
import Derived.WalkLawsBesides
import Derived.Laws.CopyOwn
import Derived.Deep.QuietTactic
import Derived.BigQuiet
import Derived.Test.YtogkkecnmlnajaaDoorqBA
set_option maxHeartbeats 1000000
namespace Go.Proofs.YtogkkecnmlnajaaDoor
open Go.RowKit
set_option linter.unusedVariables false
set_option maxRecDepth 100000
theorem Tryd.infoU : (Tryd.prog.info? 26).map (fun i => (i.zero, i.size, i.bytes)) = some (some (.int .u64 0), 1, 8) := by kernel_rfl

def U (xs : List Nat) : List Value := xs.map fun x : Nat => Value.int .u64 (x : Int)

theorem U_length (xs : List Nat) : (U xs).length = xs.length := by simp [U]

theorem U_append (xs ys : List Nat) : U (xs ++ ys) = U xs ++ U ys := by simp [U]

theorem U_get (xs : List Nat) (i : Nat) (h : i < xs.length) : (U xs)[i]? = some (.int .u64 ((xs.getD i 0 : Nat) : Int)) := by
 simp [U, List.getD_eq_getElem?_getD, List.getElem?_eq_getElem h]

theorem U_one (xs : List Nat) : ∀ u ∈ U xs, u.oneCell' = true := by
 intro u hu; obtain ⟨_, _, rfl⟩ := List.mem_map.1 hu; rfl

def Rd (w : World) (ao : Option Addr) (xs : List Nat) : Prop :=
 0 < xs.length → ∃ b off, ao = some ⟨b, off, none⟩ ∧ ∀ i, i < xs.length → w.cell? ⟨b, off + i, none⟩ = some (.int .u64 ((xs.getD i 0 : Nat) : Int))

theorem Rd.nil (w : World) (ao : Option Addr) : Rd w ao [] := fun h => by simp at h

theorem Rd.below {w w' : World} {ao : Option Addr} {xs : List Nat} (h : Rd w ao xs) (hb : Below w.heap.size w w') : Rd w' ao xs := by
 intro hp
 obtain ⟨b, off, e, hc⟩ := h hp
 refine ⟨b, off, e, fun i hi => ?_⟩
 exact (hb.cell (p := ⟨b, off + i, none⟩) (World.block_lt_of_cell? w _ (hc i hi))).trans (hc i hi)

theorem Rd.take {w : World} {ao : Option Addr} {xs : List Nat} (h : Rd w ao xs) (n : Nat) : Rd w ao (xs.take n) := by
 intro hp
 have hl : (xs.take n).length ≤ xs.length := by simp; omega
 obtain ⟨b, off, e, hc⟩ := h (by omega)
 refine ⟨b, off, e, fun i hi => ?_⟩
 rw [hc i (by omega)]
 have : i < n := by simp at hi; omega
 simp [List.getD_eq_getElem?_getD, this]

theorem Rd.own {w : World} {base n cap : Nat} {ao : Option Addr} {xs : List Nat} (h : w.ownsRow base 26 1 (.slice ao n cap) n (U xs)) : Rd w ao xs := by
 intro hp
 have hl := h.1
 rw [U_length] at hl
 rcases h.2 with ⟨he, h0⟩ | ⟨g, cap', cur, he, _, hg, _, _, _, ht⟩
 · omega
 · simp only [Value.slice.injEq] at he
   obtain ⟨rfl, _, rfl⟩ := he
   refine ⟨g, 0, rfl, fun i hi => ?_⟩
   have := h.cellAt i (by omega)
   rw [Nat.zero_add, this, U_get xs i hi]

theorem own_cap {w : World} {base n cap : Nat} {ao : Option Addr} {xs : List Value} (h : w.ownsRow base 26 1 (.slice ao n cap) n xs) : n ≤ cap := by
 rcases h.2 with ⟨he, h0⟩ | ⟨g, cap', cur, he, _, hg, hc, _⟩
 · simp at he; omega
 · simp only [Value.slice.injEq] at he
   obtain ⟨_, _, rfl⟩ := he
   exact hc

theorem own_shape {w : World} {base n : Nat} {v : Value} {xs : List Value} (h : w.ownsRow base 26 1 v n xs) : ∃ ao cap, v = .slice ao n cap := by
 rcases h.2 with ⟨rfl, rfl⟩ | ⟨g, cap', cur, rfl, _⟩
 · exact ⟨none, 0, rfl⟩
 · exact ⟨_, _, rfl⟩

theorem own_base {w : World} {base base' n : Nat} {v : Value} {xs : List Value} (h : w.ownsRow base 26 1 v n xs) (hb : base' ≤ base) : w.ownsRow base' 26 1 v n xs := by
 refine ⟨h.1, ?_⟩
 rcases h.2 with h' | ⟨g, cap', cur, e, hg, r⟩
 · exact .inl h'
 · exact .inr ⟨g, cap', cur, e, by omega, r⟩

theorem own_below {w w' : World} {base n : Nat} {v : Value} {xs : List Value} (h : w.ownsRow base 26 1 v n xs) (hb : Below w.heap.size w w') : w'.ownsRow base 26 1 v n xs := by
 refine ⟨h.1, ?_⟩
 rcases h.2 with h' | ⟨g, cap', cur, e, hg, hh, r⟩
 · exact .inl h'
 · exact .inr ⟨g, cap', cur, e, hg, by rw [hb.block g (Array.getElem?_eq_some_iff.1 hh).1]; exact hh, r⟩

theorem own_block {w : World} {base g n : Nat} {xs : List Value} (h : w.ownsRow base 26 1 (.slice (some ⟨g, 0, none⟩) n n) n xs) : w.heap[g]? = some (.cells xs.toArray 26 (0, 0)) := by
 rcases h.2 with ⟨he, h0⟩ | ⟨g', cap', cur, he, _, hg, _, _, hs, ht⟩
 · simp at he
 · simp only [Value.slice.injEq, Option.some.injEq, Addr.mk.injEq] at he
   obtain ⟨⟨rfl, _⟩, _, rfl⟩ := he
   rw [hg, ← ht, List.take_of_length_le (by rw [Array.length_toList]; omega)]

theorem own_of_block {w : World} {base g n : Nat} {xs : List Value} (h : w.heap[g]? = some (.cells xs.toArray 26 (0, 0))) (hb : base ≤ g) (hn : xs.length = n) (hm : n ≤ maxLen) : w.ownsRow base 26 1 (.slice (some ⟨g, 0, none⟩) n n) n xs :=
 ⟨by omega, .inr ⟨g, n, xs.toArray, rfl, hb, h, Nat.le_refl _, hm, by simp [hn], by simp [← hn]⟩⟩

theorem made_U (k : Nat) : (madeCells #[Value.int .u64 0] k).toList = U (List.replicate k 0) := by
 rw [toList_madeCells_one]; simp [U]

theorem Rd.cellAdd {w : World} {ao : Option Addr} {xs : List Nat} {b off : Nat} (hc : ∀ i, i < xs.length → w.cell? ⟨b, off + i, none⟩ = some (.int .u64 ((xs.getD i 0 : Nat) : Int))) :
 ∀ j v, (U xs)[j]? = some v → w.cell? ((⟨b, off, none⟩ : Addr).add j) = some v := by
 intro j v hv
 have hj : j < xs.length := by have := (List.getElem?_eq_some_iff.1 hv).1; rwa [U_length] at this
 rw [Addr.add_lit, hc j hj, ← U_get xs j hj, hv]

theorem copy_pre (dT : TypeId) (hu : Tryd.prog.underlying dT = some (.slice 26)) (w1 : World) (g dn dc : Nat) (zs : List Value) (hg : w1.heap[g]? = some (.cells zs.toArray 26 (0, 0)))
 (ao : Option Addr) (ys : List Nat) (sn sc : Nat) (hy : ys.length = sn) (hr : Rd w1 ao ys) (h1 : sn ≤ dn) (h2 : sn ≤ zs.length) :
 ∃ w2, (Builtin.copy_ #[dT, dT] 3 #[.slice (some ⟨g, 0, none⟩) dn dc, .slice ao sn sc]).run Tryd.prog w1 = .ok (.int .i64 (sn : Int)) w2 ∧
   w2.heap[g]? = some (.cells (U ys ++ zs.drop sn).toArray 26 (0, 0)) ∧ w1.grownBy w2 (some g) := by
 have hs : (Tryd.prog.info? 26).map (·.size) = some 1 := by
  obtain ⟨i0, hi, hz0, hz1, hz2⟩ := info_parts Tryd.infoU
  rw [hi]; simp [hz1]
 by_cases h0 : sn = 0
 · subst h0
   have : ys = [] := List.eq_nil_of_length_eq_zero hy
   subst this
   refine ⟨w1, run_copy_none w1 dT dT 3 26 _ ao dn dc 0 sc hu hs (by simp), ?_, World.grownBy.refl _ _⟩
   simpa [U] using hg
 · obtain ⟨b, off, rfl, hc⟩ := hr (by omega)
   have hl : (U ys).length = sn := by rw [U_length, hy]
   have e := run_copy_row (P := Tryd.prog) w1 dT dT 3 26 g 0 dn dc ⟨b, off, none⟩ sn sc zs.toArray 26 (U ys) hu hs hg (by rw [hl]; show sn = min sn dn; omega) (Rd.cellAdd (ao := none) hc) (by simp [hl]; omega) (U_one ys)
   rw [hl] at e
   refine ⟨_, e, ?_, ?_⟩
   · rw [setRow_heap w1 g _ _ _ _ hg]; simp
   · exact ⟨rfl, rfl, rfl, by simp, fun k _ hk => setRow_other w1 g k _ (fun e => hk (by simp [e]))⟩

def Blk (w : World) (g : Nat) (zs : List Nat) : Prop := w.heap[g]? = some (.cells (U zs).toArray 26 (0, 0))

theorem Blk.lt {w : World} {g : Nat} {zs : List Nat} (h : Blk w g zs) : g < w.heap.size := (Array.getElem?_eq_some_iff.1 h).1

theorem Blk.cell {w : World} {g : Nat} {zs : List Nat} (h : Blk w g zs) (i : Nat) (hi : i < zs.length) : w.cell? ⟨g, i, none⟩ = some (.int .u64 ((zs.getD i 0 : Nat) : Int)) := by
 rw [cell_of_row w g i _ _ (0, 0) h, List.getElem?_toArray, U_get zs i hi]

theorem Blk.frozen {w : World} {g : Nat} {zs : List Nat} (h : Blk w g zs) (i : Nat) : w.frozen? ⟨g, i, none⟩ = false := frozen_of_row w g i _ _ h

theorem U_set (zs : List Nat) (i x : Nat) : U (zs.set i x) = (U zs).set i (.int .u64 (x : Int)) := by simp [U, List.map_set]

theorem Blk.set {w : World} {g : Nat} {zs : List Nat} (h : Blk w g zs) (i : Nat) (x : Nat) (v : Int) (hv : v = (x : Int)) : Blk (w.setCell ⟨g, i, none⟩ (.int .u64 v)) g (zs.set i x) := by
 subst hv
 unfold Blk
 rw [heap_setCell_same w g i _ _ _ h, U_set]
 simp

theorem Blk.set_other {w : World} {g : Nat} {zs : List Nat} (h : Blk w g zs) (a : Addr) (ha : a.block ≠ g) (v : Value) : Blk (w.setCell a v) g zs := by
 unfold Blk
 rw [Below.heap_setCell _ _ _ _ (fun e => ha e.symm)]; exact h

theorem Blk.below {w w' : World} {B g : Nat} {zs : List Nat} (h : Blk w g zs) (hb : Below B w w') (hg : g < B) : Blk w' g zs := (hb.block g hg).trans h

theorem Blk.keep {w w' : World} {g : Nat} {zs : List Nat} (h : Blk w g zs) (hb : Below w.heap.size w w') : Blk w' g zs := (hb.block g h.lt).trans h

theorem Blk.grown {w w' : World} {g : Nat} {zs : List Nat} {row : Option Nat} (h : Blk w g zs) (hb : w.grownBy w' row) (hr : some g ≠ row) : Blk w' g zs := (hb.block g h.lt hr).trans h

theorem Blk.drewN {w : World} {g : Nat} {zs : List Nat} (h : Blk w g zs) (q : Nat) : Blk (w.drewN q) g zs := by
 unfold Blk; rw [World.heap_drewN]; exact h

theorem Blk.rd {w : World} {g : Nat} {zs : List Nat} (h : Blk w g zs) (off n : Nat) (hn : off + n ≤ zs.length) : Rd w (some ⟨g, off, none⟩) ((zs.drop off).take n) := by
 intro hp
 refine ⟨g, off, rfl, fun i hi => ?_⟩
 have hi' : i < n := by simp at hi; omega
 rw [h.cell (off + i) (by omega)]
 simp [List.getD_eq_getElem?_getD, hi']

theorem Blk.rd0 {w : World} {g : Nat} {zs : List Nat} (h : Blk w g zs) : Rd w (some ⟨g, 0, none⟩) zs := by
 have := h.rd 0 zs.length (by omega)
 simpa using this

theorem Blk.own {w : World} {base g n : Nat} {zs : List Nat} (h : Blk w g zs) (hb : base ≤ g) (hn : zs.length = n) (hm : n ≤ maxLen) : w.ownsRow base 26 1 (.slice (some ⟨g, 0, none⟩) n n) n (U zs) :=
 own_of_block h hb (by rw [U_length, hn]) hm

theorem blk_made (w : World) (n : Nat) : Blk (w.alloc (.cells (madeCells #[Value.int .u64 0] n) 26)) w.heap.size (List.replicate n 0) := by
 unfold Blk
 rw [heap_alloc_new w _, ← made_U]

theorem or_nat (x y i : Nat) (hx : x < 2 ^ i) : x ||| y * 2 ^ i = x + y * 2 ^ i := by
 rw [Nat.or_comm, ← Nat.shiftLeft_eq, ← Nat.shiftLeft_add_eq_or_of_lt hx, Nat.add_comm]

theorem or_pair (x y : Nat) (hx : x < 4294967296) (hy : y < 4294967296) : bits BinOp.or IntKind.u64 (x : Int) ((y : Int) * 4294967296) = ((x + y * 4294967296 : Nat) : Int) := by
 have e : (y : Int) * 4294967296 = ((y * 4294967296 : Nat) : Int) := by omega
 have h := or_nat x y 32 (by omega)
 rw [show (2 : Nat) ^ 32 = 4294967296 from rfl] at h
 rw [e, u64_or_nat x (y * 4294967296) (by omega) (by omega), h]

theorem grown_below {w w1 : World} {row : Option Nat} (h : w.grownBy w1 row) (hr : ∀ k, row = some k → w.heap.size ≤ k) : Below w.heap.size w w1 := (Below.refl _ w).grown h (Nat.le_refl _) hr

def L (n : Nat) : List Nat := M.dig 18446744073709551616 n

def V (xs : List Nat) : Nat := M.val 18446744073709551616 xs

def D (n : Nat) : List Nat := M.dig 4294967296 n

def X (xs : List Nat) : Nat := M.val 4294967296 xs

def F64 (xs : List Nat) : Prop := ∀ x ∈ xs, x < 18446744073709551616

def F32 (xs : List Nat) : Prop := ∀ x ∈ xs, x < 4294967296

theorem V_L (n : Nat) : V (L n) = n := M.val_dig (by omega) n

theorem X_D (n : Nat) : X (D n) = n := M.val_dig (by omega) n

theorem F64_L (n : Nat) : F64 (L n) := M.dig_lt (by omega) n

theorem F32_D (n : Nat) : F32 (D n) := M.dig_lt (by omega) n

theorem F64.get {xs : List Nat} (h : F64 xs) (i : Nat) : xs.getD i 0 < 18446744073709551616 := M.getD_lt (by omega) h i

theorem F32.get {xs : List Nat} (h : F32 xs) (i : Nat) : xs.getD i 0 < 4294967296 := M.getD_lt (by omega) h i

theorem hid {p : Prop} (h : p) : Hid p := h

theorem ret_int {k : IntKind} {a b : Int} (h : a = b) : Ending.returned (.int k a) = .returned (.int k b) := by rw [h]

theorem trim_len {B : Nat} (hB : 1 < B) {xs : List Nat} (h : ∀ x ∈ xs, x < B) {n k : Nat} (hk : k ≤ n) (hl : xs.length = n)
 (hz : ∀ j, k ≤ j → j < n → xs.getD j 0 = 0) (h0 : k = 0 ∨ xs.getD (k - 1) 0 ≠ 0) : (M.dig B (M.val B xs)).length = k := by
 rw [← M.take_dig hB xs h k (by omega) (fun j h1 h2 => hz j h1 (by omega)) h0]
 simp; omega

theorem trim_any (ao : Option Addr) (n cap : Nat) (xs : List Nat) (w : World) (hl : xs.length = n) (hcap : n ≤ cap) (hn : n ≤ 4194304) (hx : F64 xs) (hr : Rd w ao xs) :
 Calls Tryd.prog 31 #[.slice ao n cap] w fun e w' => e = .returned (.slice ao (L (V xs)).length cap) ∧ w' = w := by
 go_enter Tryd.func31, Tryd.ntmps31
 go_wp2
 go_loop [3] (fun i => ∃ k : Nat, k ≤ n ∧ i = .int .i64 k ∧ ∀ j, k ≤ j → j < n → xs.getD j 0 = 0) (fun i => (intOf i).toNat)
 case atStart => exact ⟨n, Nat.le_refl _, rfl, fun j h1 h2 => by omega⟩
 case round =>
  obtain ⟨k, hk, rfl, hz⟩ := hrel
  have HZ := hid hz; clear hz
  by_cases h0 : 0 < k
  · obtain ⟨b, off, hao, hc⟩ := hr (by omega)
    have hck := hc (k - 1) (by omega)
    have HC := hid hc; clear hc
    obtain ⟨x, hxx⟩ : ∃ x : Int, x = ((xs.getD (k - 1) 0 : Nat) : Int) := ⟨_, rfl⟩
    rw [← hxx] at hck
    have HX := hid hxx; clear hxx
    by_cases hx0 : x = 0
    · have hxb : (x == 0) = true := by simp [hx0]
      have HX0 := hid hx0; clear hx0
      go_wp2
      go_round
      case rel =>
       refine ⟨k - 1, by omega, by go_num, ?_⟩
       intro j h1 h2
       by_cases e : j = k - 1
       · have := HX.out; rw [HX0.out] at this; subst e; omega
       · exact HZ.out j (by omega) h2
      case measure => simp [intOf]; omega
    · have hxb : (x == 0) = false := by simp [hx0]
      have HX0 := hid hx0; clear hx0
      go_wp2
      go_ret
      have hlen : (L (V xs)).length = _ := trim_len (B := 18446744073709551616) (by omega) hx hk hl HZ.out (Or.inr (by have := HX.out; have := HX0.out; omega))
      exact ⟨by rw [hlen]; rfl, rfl⟩
  · have hk0 : k = 0 := by omega
    subst hk0
    go_wp2
    go_ret
    have hlen : (L (V xs)).length = _ := trim_len (B := 18446744073709551616) (by omega) hx hk hl HZ.out (Or.inl rfl)
    exact ⟨by rw [hlen]; rfl, rfl⟩

theorem l1Trim_any (B : Nat) (hB : 1 < B) (ao : Option Addr) (n cap : Nat) (xs : List Nat) (w : World) (hl : xs.length = n) (hcap : n ≤ cap) (hn : n ≤ 4194304) (hx : ∀ x ∈ xs, x < B) (hr : Rd w ao xs) :
 Calls Tryd.prog 54 #[.slice ao n cap] w fun e w' => ∃ ao' cap', e = .returned (.slice ao' (M.dig B (M.val B xs)).length cap') ∧ w'.ownsRow w.heap.size 26 1 (.slice ao' (M.dig B (M.val B xs)).length cap') (M.dig B (M.val B xs)).length (U (M.dig B (M.val B xs))) ∧ Below w.heap.size w w' := by
 obtain ⟨i0, hi, hz0, hz1, hz2⟩ := info_parts Tryd.infoU
 go_enter Tryd.func54, Tryd.ntmps54
 go_wp2
 go_loop [3] (fun i => ∃ k : Nat, k ≤ n ∧ i = .int .i64 k ∧ ∀ j, k ≤ j → j < n → xs.getD j 0 = 0) (fun i => (intOf i).toNat)
 case atStart => exact ⟨n, Nat.le_refl _, rfl, fun j h1 h2 => by omega⟩
 case round =>
  obtain ⟨k, hk, rfl, hz⟩ := hrel
  have HZ := hid hz; clear hz
  by_cases h0 : 0 < k
  · obtain ⟨b, off, hao, hc⟩ := hr (by omega)
    have hck := hc (k - 1) (by omega)
    have HC := hid hc; clear hc
    obtain ⟨x, hxx⟩ : ∃ x : Int, x = ((xs.getD (k - 1) 0 : Nat) : Int) := ⟨_, rfl⟩
    rw [← hxx] at hck
    have HX := hid hxx; clear hxx
    by_cases hx0 : x = 0
    · have hxb : (x == 0) = true := by simp [hx0]
      have HX0 := hid hx0; clear hx0
      go_wp2
      go_round
      case rel =>
       refine ⟨k - 1, by omega, by go_num, ?_⟩
       intro j h1 h2
       by_cases e : j = k - 1
       · have := HX.out; rw [HX0.out] at this; subst e; omega
       · exact HZ.out j (by omega) h2
      case measure => simp [intOf]; omega
    · have hxb : (x == 0) = false := by simp [hx0]
      have HX0 := hid hx0; clear hx0
      have hlen : xs.take k = M.dig B (M.val B xs) := M.take_dig hB xs hx k (by omega) (fun j h1 h2 => HZ.out j h1 (by omega)) (Or.inr (by have := HX.out; have := HX0.out; omega))
      have HL := hid hlen; clear hlen
      go_wp2_with (at_make; refine wpList_make_full _ rfl _ _ 23 rfl w.heap.size 26 i0 (.int .u64 0) 1 Tryd.underlying23 hi hz0 hz1 _ _ _ _ k rfl rfl rfl rfl (by rw [hz2]; omega) (by unfold maxLen; omega) (Nat.le_refl _) ?_)
      intro w1 hown hgrow
      rw [made_U] at hown
      have hb1 := grown_below hgrow (fun _ h => by cases h)
      have hrd : Rd w1 (some ⟨b, off, none⟩) (xs.take k) := by rw [← hao]; exact (hr.take k).below hb1
      obtain ⟨w2, hcp, hg2, hgr2⟩ := copy_pre 23 Tryd.underlying23 w1 w.heap.size k k _ (own_block hown) _ (xs.take k) k cap (by simp; omega) hrd (Nat.le_refl _) (by simp [U])
      go_wp2
      go_ret
      have e := HL.out
      have el : (M.dig B (M.val B xs)).length = k := by rw [← e]; simp; omega
      rw [el, ← e]
      refine ⟨_, _, rfl, own_of_block (by simpa [U] using hg2) (Nat.le_refl _) (by simp [U]; omega) (by unfold maxLen; omega), ?_⟩
      exact hb1.trans ((Below.refl _ _).grown hgr2 hgrow.size (fun _ h => by cases h; exact Nat.le_refl _))
  · have hk0 : k = 0 := by omega
    subst hk0
    have hlen : xs.take 0 = M.dig B (M.val B xs) := M.take_dig hB xs hx 0 (by omega) (fun j h1 h2 => HZ.out j h1 (by omega)) (Or.inl rfl)
    have HL := hid hlen; clear hlen
    go_wp2_with (at_make; refine wpList_make_full _ rfl _ _ 23 rfl w.heap.size 26 i0 (.int .u64 0) 1 Tryd.underlying23 hi hz0 hz1 _ _ _ _ 0 rfl rfl rfl rfl (by omega) (by unfold maxLen; omega) (Nat.le_refl _) ?_)
    intro w1 hown hgrow
    rw [made_U] at hown
    have hb1 := grown_below hgrow (fun _ h => by cases h)
    obtain ⟨w2, hcp, hg2, hgr2⟩ := copy_pre 23 Tryd.underlying23 w1 w.heap.size 0 0 _ (own_block hown) ao [] 0 cap rfl (Rd.nil _ _) (Nat.le_refl _) (by simp [U])
    go_wp2
    go_ret
    have e := HL.out
    rw [← e]
    refine ⟨_, _, rfl, own_of_block (by simpa [U] using hg2) (Nat.le_refl _) (by simp [U]) (by simp [maxLen]), ?_⟩
    exact hb1.trans ((Below.refl _ _).grown hgr2 hgrow.size (fun _ h => by cases h; exact Nat.le_refl _))

theorem l1At_in (ao : Option Addr) (n cap k : Nat) (xs : List Nat) (w : World) (hl : xs.length = n) (hk : k < n) (hn : n ≤ 4194304) (hr : Rd w ao xs) :
 Calls Tryd.prog 53 #[.slice ao n cap, .int .i64 (k : Int)] w fun e w' => e = .returned (.int .u64 ((xs.getD k 0 : Nat) : Int)) ∧ w' = w := by
 obtain ⟨b, off, hao, hc⟩ := hr (by omega)
 have hck := hc k (by omega)
 clear hc
 obtain ⟨x, hxx⟩ : ∃ x : Int, x = ((xs.getD k 0 : Nat) : Int) := ⟨_, rfl⟩
 rw [← hxx] at hck ⊢
 clear hxx
 go_enter Tryd.func53, Tryd.ntmps53
 go_wp2
 go_ret
 exact ⟨rfl, rfl⟩

theorem l1At_out (ao : Option Addr) (n cap k : Nat) (w : World) (hk : n ≤ k) (hk2 : k ≤ 4194304) :
 Calls Tryd.prog 53 #[.slice ao n cap, .int .i64 (k : Int)] w fun e w' => e = .returned (.int .u64 0) ∧ w' = w := by
 have h : ¬ (k : Int) < (n : Int) := by omega
 go_enter Tryd.func53, Tryd.ntmps53
 go_wp2
 go_ret
 exact ⟨rfl, rfl⟩

theorem l1At_any (ao : Option Addr) (n cap k : Nat) (xs : List Nat) (w : World) (hl : xs.length = n) (hk : k ≤ 4194304) (hn : n ≤ 4194304) (hr : Rd w ao xs) (x : Nat) (hx : x = xs.getD k 0) :
 Calls Tryd.prog 53 #[.slice ao n cap, .int .i64 (k : Int)] w fun e w' => e = .returned (.int .u64 (x : Int)) ∧ w' = w := by
 subst hx
 by_cases h : k < n
 · exact l1At_in ao n cap k xs w hl h hn hr
 · have : xs.getD k 0 = 0 := by rw [List.getD_eq_getElem?_getD, List.getElem?_eq_none (by omega)]; rfl
   rw [this]
   exact l1At_out ao n cap k w (by omega) hk

theorem l1Fits_any (ao : Option Addr) (n cap : Nat) (w : World) (hn : n ≤ 4194304) :
 Calls Tryd.prog 26 #[.slice ao n cap] w fun e w' => e = .returned (.bool (decide (n ≤ 1200))) ∧ w' = w := by
 by_cases h : n ≤ 1200
 · have h' : decide (n ≤ 1200) = true := by simpa using h
   rw [h']
   have h2 : decide ((n : Int) ≤ 1200) = true := by simp; omega
   go_enter Tryd.func26, Tryd.ntmps26
   go_wp2
   go_ret
   exact ⟨rfl, rfl⟩
 · have h' : decide (n ≤ 1200) = false := by simpa using h
   rw [h']
   have h2 : decide ((n : Int) ≤ 1200) = false := by simp; omega
   go_enter Tryd.func26, Tryd.ntmps26
   go_wp2
   go_ret
   exact ⟨rfl, rfl⟩

def cmpI (a b : Int) : Int := if a < b then -1 else if b < a then 1 else 0

theorem cmpInt_any (a b : Int) (w : World) : Calls Tryd.prog 88 #[.int .i64 a, .int .i64 b] w fun e w' => e = .returned (.int .i64 (cmpI a b)) ∧ w' = w := by
 have e1 : (a != a) = false := by simp
 have e2 : (b != b) = false := by simp
 by_cases h1 : a < b
 · have : cmpI a b = -1 := by simp [cmpI, h1]
   rw [this]
   go_enter Tryd.func88, Tryd.ntmps88
   go_wp2
   go_ret
   exact ⟨rfl, rfl⟩
 · by_cases h2 : b < a
   · have : cmpI a b = 1 := by simp [cmpI, h1, h2]
     rw [this]
     go_enter Tryd.func88, Tryd.ntmps88
     go_wp2
     go_ret
     exact ⟨rfl, rfl⟩
   · have : cmpI a b = 0 := by simp [cmpI, h1, h2]
     rw [this]
     go_enter Tryd.func88, Tryd.ntmps88
     go_wp2
     go_ret
     exact ⟨rfl, rfl⟩

theorem cmpU_any (a b : Int) (w : World) : Calls Tryd.prog 81 #[.int .u64 a, .int .u64 b] w fun e w' => e = .returned (.int .i64 (cmpI a b)) ∧ w' = w := by
 have e1 : (a != a) = false := by simp
 have e2 : (b != b) = false := by simp
 by_cases h1 : a < b
 · have : cmpI a b = -1 := by simp [cmpI, h1]
   rw [this]
   go_enter Tryd.func81, Tryd.ntmps81
   go_wp2
   go_ret
   exact ⟨rfl, rfl⟩
 · by_cases h2 : b < a
   · have : cmpI a b = 1 := by simp [cmpI, h1, h2]
     rw [this]
     go_enter Tryd.func81, Tryd.ntmps81
     go_wp2
     go_ret
     exact ⟨rfl, rfl⟩
   · have : cmpI a b = 0 := by simp [cmpI, h1, h2]
     rw [this]
     go_enter Tryd.func81, Tryd.ntmps81
     go_wp2
     go_ret
     exact ⟨rfl, rfl⟩

theorem cmpI_nat_lt {a b : Nat} (h : a < b) : cmpI (a : Int) (b : Int) = -1 := by unfold cmpI; rw [if_pos (by omega)]

theorem cmpI_nat_gt {a b : Nat} (h : b < a) : cmpI (a : Int) (b : Int) = 1 := by unfold cmpI; rw [if_neg (by omega), if_pos (by omega)]

theorem cmpI_nat_eq {a b : Nat} (h : a = b) : cmpI (a : Int) (b : Int) = 0 := by unfold cmpI; rw [if_neg (by omega), if_neg (by omega)]

theorem cmp_len (a b : Nat) (h : (L a).length ≠ (L b).length) : cmpI ((L a).length : Int) ((L b).length : Int) = cmpI (a : Int) (b : Int) := by
 rcases Nat.lt_or_gt_of_ne h with h | h
 · rw [cmpI_nat_lt h, cmpI_nat_lt (M.lt_of_length (by omega) h)]
 · rw [cmpI_nat_gt h, cmpI_nat_gt (M.lt_of_length (by omega) h)]

theorem getD_big (xs : List Nat) (j : Nat) (h : xs.length ≤ j) : xs.getD j 0 = 0 := by
 rw [List.getD_eq_getElem?_getD, List.getElem?_eq_none (by omega)]; rfl

theorem cmp_at {B : Nat} (hB : 1 < B) (a b k : Nat) (x y : Nat) (hx : x = (M.dig B a).getD k 0) (hy : y = (M.dig B b).getD k 0) (hne : x ≠ y) (he : ∀ j, k < j → (M.dig B a).getD j 0 = (M.dig B b).getD j 0) :
 cmpI (x : Int) (y : Int) = cmpI (a : Int) (b : Int) := by
 rcases Nat.lt_or_gt_of_ne hne with h | h
 · have := M.val_lt_top hB k (M.dig B a) (M.dig B b) (M.dig_lt hB a) (by omega) he
   rw [M.val_dig hB, M.val_dig hB] at this
   rw [cmpI_nat_lt h, cmpI_nat_lt this]
 · have := M.val_lt_top hB k (M.dig B b) (M.dig B a) (M.dig_lt hB b) (by omega) (fun j hj => (he j hj).symm)
   rw [M.val_dig hB, M.val_dig hB] at this
   rw [cmpI_nat_gt h, cmpI_nat_gt this]

theorem cmp_all {B : Nat} (hB : 1 < B) (a b : Nat) (he : ∀ j, (M.dig B a).getD j 0 = (M.dig B b).getD j 0) : cmpI (a : Int) (b : Int) = 0 := by
 have := M.val_ext B _ _ he
 rw [M.val_dig hB, M.val_dig hB] at this
 exact cmpI_nat_eq this

theorem compare_any (ao bo : Option Addr) (n m c d : Nat) (a b : Nat) (w : World) (hl : (L a).length = n) (hm : (L b).length = m) (hn : n ≤ 4194304) (hn2 : m ≤ 4194304) (hr : Rd w ao (L a)) (hr2 : Rd w bo (L b)) :
 Calls Tryd.prog 78 #[.slice ao n c, .slice bo m d] w fun e w' => e = .returned (.int .i64 (cmpI a b)) ∧ ∃ q, w' = w.drewN q := by
 by_cases hnm : n = m
 · subst hnm
   have hb : ((n : Int) != (n : Int)) = false := by simp
   have HM := hid hm; clear hm
   go_enter Tryd.func78, Tryd.ntmps78
   go_wp2
   go_loopw [5] (fun i wr => ∃ k : Nat, k ≤ n ∧ i = .int .i64 ((k : Int) - 1) ∧ (∀ j, k ≤ j → (L a).getD j 0 = (L b).getD j 0) ∧ ∃ q, wr = w.drewN q) (fun i _ => (intOf i + 1).toNat)
   case atStart => exact ⟨n, Nat.le_refl _, rfl, fun j h => by rw [getD_big _ _ (by omega), getD_big _ _ (by have := HM.out; omega)], 0, rfl⟩
   case round =>
    obtain ⟨k, hk, rfl, he, hq⟩ := hrel
    have HE := hid he; clear he
    have HQ := hid hq; clear hq
    have hr' : Rd wr ao (L a) := by obtain ⟨q, rfl⟩ := HQ.out; exact hr
    have hr2' : Rd wr bo (L b) := by obtain ⟨q, rfl⟩ := HQ.out; exact hr2
    by_cases hlt : 0 < k
    · obtain ⟨b1, off, hao, hc⟩ := hr' (by omega)
      have hck := hc (k - 1) (by omega)
      have HC := hid hc; clear hc
      obtain ⟨x, hxx⟩ : ∃ x : Nat, x = (L a).getD (k - 1) 0 := ⟨_, rfl⟩
      rw [← hxx] at hck
      have HX := hid hxx; clear hxx
      obtain ⟨b2, off2, hao2, hc2⟩ := hr2' (by have := HM.out; omega)
      have hck2 := hc2 (k - 1) (by have := HM.out; omega)
      have HC2 := hid hc2; clear hc2
      obtain ⟨y, hyy⟩ : ∃ y : Nat, y = (L b).getD (k - 1) 0 := ⟨_, rfl⟩
      rw [← hyy] at hck2
      have HY := hid hyy; clear hyy
      obtain ⟨k, rfl⟩ : ∃ k', k = k' + 1 := ⟨k - 1, by omega⟩
      simp only [Nat.add_sub_cancel] at hck hck2
      have e1 : (((k + 1 : Nat) : Int) - 1) = (k : Int) := by omega
      rw [e1]
      have hlt' : (k : Int) < (n : Int) := by omega
      by_cases hxy : x = y
      · have hne : ((x : Int) != (y : Int)) = false := by simp [hxy]
        have HXY := hid hxy; clear hxy
        go_wp2
        go_quiet (fail)
        go_wp2
        go_roundw
        case rel =>
         refine ⟨k, by omega, by go_num, fun j hj => ?_, by obtain ⟨q, rfl⟩ := HQ.out; exact ⟨_, World.drewN_drewN _ _ _⟩⟩
         by_cases e : j = k
         · subst e; exact HX.out.symm.trans (HXY.out.trans HY.out)
         · exact HE.out j (by omega)
        case measure => simp [intOf]
      · have hne : ((x : Int) != (y : Int)) = true := by simp; omega
        have HXY := hid hxy; clear hxy
        go_wp2
        go_quiet (fail)
        go_wp2
        generalize hwy : wr.drewN nq = wy
        have hq' : ∃ q, wy = w.drewN q := by obtain ⟨q, rfl⟩ := HQ.out; exact ⟨_, by rw [← hwy]; exact World.drewN_drewN _ _ _⟩
        have hcy : wy.cell? ⟨b1, off + k, none⟩ = some (.int .u64 (x : Int)) := by rw [← hwy]; exact hck
        have hcy2 : wy.cell? ⟨b2, off2 + k, none⟩ = some (.int .u64 (y : Int)) := by rw [← hwy]; exact hck2
        have HQ' := hid hq'; clear hq' hwy hck hck2
        go_quiet ((go_at_call 81; exact Calls.quiet_of_same (cmpU_any _ _ _)))
        go_wp2
        go_ret
        refine ⟨?_, by obtain ⟨q, rfl⟩ := HQ'.out; exact ⟨_, World.drewN_drewN _ _ _⟩⟩
        exact ret_int (cmp_at (by omega) a b k x y HX.out HY.out HXY.out (fun j hj => HE.out j (by omega)))
    · have : k = 0 := by omega
      subst this
      go_wp2
      go_ret
      exact ⟨ret_int (cmp_all (by omega) a b (fun j => HE.out j (by omega))).symm, HQ.out⟩
 · have hb : ((n : Int) != (m : Int)) = true := by simp; omega
   go_enter Tryd.func78, Tryd.ntmps78
   go_wp2_with (go_at_call 88; refine (cmpInt_any _ _ _).mono ?_; rintro e w' ⟨rfl, rfl⟩)
   go_ret
   refine ⟨ret_int ?_, 0, rfl⟩
   rw [← hl, ← hm]
   exact cmp_len a b (by omega)

theorem l1Cmp_any (ao bo : Option Addr) (n m c d : Nat) (a b : Nat) (w : World) (hl : (D a).length = n) (hm : (D b).length = m) (hn : n ≤ 4194304) (hn2 : m ≤ 4194304) (hr : Rd w ao (D a)) (hr2 : Rd w bo (D b)) :
 Calls Tryd.prog 44 #[.slice ao n c, .slice bo m d] w fun e w' => e = .returned (.int .i64 (cmpI a b)) ∧ w' = w := by
 obtain ⟨mx, hmx⟩ : ∃ mx : Nat, n ≤ mx ∧ m ≤ mx ∧ mx ≤ 4194304 ∧ (mx = n ∨ mx = m) := ⟨max n m, by omega⟩
 have hh : (n < m ∧ mx = m) ∨ (¬ n < m ∧ mx = n) := by omega
 rcases hh with ⟨hnm, rfl⟩ | ⟨hnm, rfl⟩
 all_goals
  go_enter Tryd.func44, Tryd.ntmps44
  go_wp2_with fail
  go_loop [6] (fun i => ∃ k : Nat, k ≤ mx ∧ i = .int .i64 ((k : Int) - 1) ∧ (∀ j, k ≤ j → (D a).getD j 0 = (D b).getD j 0)) (fun i => (intOf i + 1).toNat)
  case atStart => exact ⟨mx, Nat.le_refl _, rfl, fun j h => by rw [getD_big _ _ (by omega), getD_big _ _ (by omega)]⟩
  case round =>
   obtain ⟨k, hk, rfl, he⟩ := hrel
   have HE := hid he; clear he
   by_cases hlt : 0 < k
   · obtain ⟨k, rfl⟩ : ∃ k', k = k' + 1 := ⟨k - 1, by omega⟩
     have e1 : (((k + 1 : Nat) : Int) - 1) = (k : Int) := by omega
     rw [e1]
     obtain ⟨x, hxx⟩ : ∃ x : Nat, x = (D a).getD k 0 := ⟨_, rfl⟩
     obtain ⟨y, hyy⟩ : ∃ y : Nat, y = (D b).getD k 0 := ⟨_, rfl⟩
     have HX := hid hxx; clear hxx
     have HY := hid hyy; clear hyy
     go_wp2_with fail
     refine (l1At_any ao _ c k (D a) _ hl (by omega) (by omega) hr x HX.out).mono ?_
     rintro e w1 ⟨rfl, rfl⟩
     go_wp2_with fail
     refine (l1At_any bo _ d k (D b) _ hm (by omega) (by omega) hr2 y HY.out).mono ?_
     rintro e w2 ⟨rfl, rfl⟩
     by_cases h1 : x < y
     · go_wp2_with fail
       go_ret
       have := cmp_at (B := 4294967296) (by omega) a b k x y HX.out HY.out (by omega) (fun j hj => HE.out j (by omega))
       exact ⟨ret_int (by rw [← this, cmpI_nat_lt h1]), rfl⟩
     · go_wp2_with fail
       refine (l1At_any ao _ c k (D a) _ hl (by omega) (by omega) hr x HX.out).mono ?_
       rintro e w1 ⟨rfl, rfl⟩
       go_wp2_with fail
       refine (l1At_any bo _ d k (D b) _ hm (by omega) (by omega) hr2 y HY.out).mono ?_
       rintro e w2 ⟨rfl, rfl⟩
       by_cases h2 : y < x
       · go_wp2_with fail
         go_ret
         have := cmp_at (B := 4294967296) (by omega) a b k x y HX.out HY.out (by omega) (fun j hj => HE.out j (by omega))
         exact ⟨ret_int (by rw [← this, cmpI_nat_gt h2]), rfl⟩
       · go_wp2_with fail
         go_round
         case rel =>
          refine ⟨k, by omega, by go_num, fun j hj => ?_⟩
          by_cases e : j = k
          · subst e; rw [← HX.out, ← HY.out]; omega
          · exact HE.out j (by omega)
         case measure => simp [intOf]
   · have : k = 0 := by omega
     subst this
     go_wp2_with fail
     go_ret
     exact ⟨ret_int (cmp_all (by omega) a b (fun j => HE.out j (by omega))).symm, rfl⟩

theorem short_any (g n : Nat) (ns : List Nat) (r : Bool) (w : World) (hn : n = ns.length) (hlen : n ≤ 4) (hns : ∀ x ∈ ns, x ≤ 4194304) (hrr : r = ns.all (fun x => decide (x ≤ 1200))) (hc : ∀ i, i < n → ∃ ao cap, w.cell? ⟨g, i, none⟩ = some (.slice ao (ns.getD i 0) cap)) :
 Calls Tryd.prog 33 #[.slice (some ⟨g, 0, none⟩) n n] w fun e w' => e = .returned (.bool r) ∧ w' = w := by
 subst hrr
 have HN := hid hn; clear hn
 go_enter Tryd.func33, Tryd.ntmps33
 go_wp2
 go_loop [7] (fun i => ∃ k : Nat, k ≤ n ∧ i = .int .i64 k ∧ ∀ j, j < k → ns.getD j 0 ≤ 1200) (fun i => n - (intOf i).toNat)
 case atStart => exact ⟨0, Nat.zero_le _, rfl, fun j h => by omega⟩
 case round =>
  obtain ⟨k, hk, rfl, hz⟩ := hrel
  have HZ := hid hz; clear hz
  by_cases h0 : k < n
  · obtain ⟨ao, cap, hck⟩ := hc k h0
    have HC := hid hc; clear hc
    obtain ⟨x, hxx⟩ : ∃ x : Nat, x = ns.getD k 0 := ⟨_, rfl⟩
    rw [← hxx] at hck
    have HX := hid hxx; clear hxx
    by_cases hx : x ≤ 1200
    · go_wp2
      go_round
      case rel =>
       refine ⟨k + 1, by omega, by go_num, fun j hj => ?_⟩
       by_cases e : j = k
       · subst e; rw [← HX.out]; exact hx
       · exact HZ.out j (by omega)
      case measure => simp [intOf]; omega
    · go_wp2
      go_ret
      refine ⟨?_, rfl⟩
      have : ns.all (fun x => decide (x ≤ 1200)) = false := by
       rw [List.all_eq_false]
       refine ⟨ns[k]'(by have := HN.out; omega), List.getElem_mem _, ?_⟩
       have e := HX.out
       rw [List.getD_eq_getElem?_getD, List.getElem?_eq_getElem (by have := HN.out; omega)] at e
       simp at e
       simp; omega
      rw [this]; rfl
  · go_wp2
    go_ret
    refine ⟨?_, rfl⟩
    have : ns.all (fun x => decide (x ≤ 1200)) = true := by
     rw [List.all_eq_true]
     intro x hx
     obtain ⟨j, hj, rfl⟩ := List.getElem_of_mem hx
     have e := HZ.out j (by have := HN.out; omega)
     rw [List.getD_eq_getElem?_getD, List.getElem?_eq_getElem hj] at e
     simpa using e
    rw [this]; rfl

theorem l1In_any (ao : Option Addr) (n cap : Nat) (xs : List Nat) (w : World) (hl : xs.length = n) (hn : n ≤ 1048576) (hx : F64 xs) (hr : Rd w ao xs) :
 Calls Tryd.prog 27 #[.slice ao n cap] w fun e w' => ∃ ao' cap', e = .returned (.slice ao' (D (V xs)).length cap') ∧ w'.ownsRow w.heap.size 26 1 (.slice ao' (D (V xs)).length cap') (D (V xs)).length (U (D (V xs))) ∧ Below w.heap.size w w' := by
 obtain ⟨i0, hi, hz0, hz1, hz2⟩ := info_parts Tryd.infoU
 go_enter Tryd.func27, Tryd.ntmps27
 go_wp2
 go_loopw [3, 8] (fun v i wr => ∃ k : Nat, k ≤ n ∧ i = .int .i64 k ∧ wr.ownsRow w.heap.size 26 1 v (2 * k) (U (M.halves (xs.take k))) ∧ Below w.heap.size w wr) (fun _ i _ => n - (intOf i).toNat)
 case atStart => exact ⟨0, Nat.zero_le _, rfl, World.ownsRow_nil _ _ _ _, Below.refl _ _⟩
 case round =>
  obtain ⟨k, hk, rfl, hown, hbl⟩ := hrel
  by_cases hlt : k < n
  · obtain ⟨b, off, hao, hc⟩ := (hr.below hbl) (by omega)
    have hck := hc k (by omega)
    clear hc
    have hx1 := hx.get k
    obtain ⟨x, hxx⟩ : ∃ x : Nat, x = xs.getD k 0 := ⟨_, rfl⟩
    rw [← hxx] at hck hx1
    have HX := hid hxx; clear hxx
    have hlow : bits BinOp.and IntKind.u64 (x : Int) 4294967295 = ((x % 4294967296 : Nat) : Int) := by
     rw [and_low32 _ (by omega) (by omega)]; omega
    have hhi : (x : Int) / 4294967296 = ((x / 4294967296 : Nat) : Int) := by omega
    have HHI := hid hhi; clear hhi
    go_wp2_with (at_builtin; refine wpList_append_own _ rfl _ _ 23 rfl w.heap.size 26 i0 (.int .u64 0) 1 8 Tryd.underlying23 hi hz0 hz1 hz2 rfl (by decide) _ _ _ rfl (hown.alloc _) ⟨wr.heap.size, 0, none⟩ 2 2 (U [x % 4294967296, x / 4294967296]) rfl rfl ?c1 ?c2 ?c3 ?c4 ?c5 ?_)
    case c1 =>
     intro j u hj
     match j, hj with
     | 0, hj => simp [U] at hj; subst hj; simp [Addr.add]
     | 1, hj => simp [U] at hj; subst hj; simp [Addr.add]
    case c2 => exact U_one _
    case c3 => unfold maxLen; omega
    case c4 => omega
    case c5 => have := hbl.size; simp; omega
    intro v' w1 hown' hgrow hnn
    clear hnn
    have hb1 : Below w.heap.size w w1 := (hbl.alloc hbl.size _).grown hgrow (by have := hbl.size; simp; omega) (fun k' hk' => (hown.lt k' hk').1)
    clear hown hgrow hck hlow
    go_wp2
    go_roundw
    case rel =>
     have R : ∃ k1 : Nat, k1 ≤ n ∧ Value.int .i64 ((k : Int) + 1) = .int .i64 (k1 : Int) ∧ w1.ownsRow w.heap.size 26 1 v' (2 * k1) (U (M.halves (xs.take k1))) ∧ Below w.heap.size w w1 := by
      refine ⟨k + 1, by omega, by go_num, ?_, hb1⟩
      rw [M.take_succ xs k (by omega), M.halves_append, U_append, ← HX.out]
      exact hown'
     first | exact R | ((repeat apply Exists.intro); exact ⟨R, by rw [hao]⟩)
    case measure => simp [intOf]; omega
  · have e : k = n := by omega
    subst e
    rw [List.take_of_length_le (by omega)] at hown
    have hv := own_shape hown
    obtain ⟨ao1, cap1, hv⟩ := hv
    rw [hv]
    rw [hv] at hown
    go_wp2_with fail
    have hrd := Rd.own hown
    refine (l1Trim_any 4294967296 (by omega) ao1 _ cap1 (M.halves xs) _ (by rw [M.halves_length]; omega) (own_cap hown) (by omega) (M.halves_lt xs hx) hrd).mono ?_
    rw [M.val_halves]
    rintro e w1 ⟨ao', cap', rfl, ho, hb⟩
    go_wp2_with fail
    go_ret
    exact ⟨ao', cap', rfl, own_base ho hbl.size, hbl.trans (hb.mono hbl.size)⟩

theorem own_addr {w : World} {base n cap : Nat} {ao : Option Addr} {xs : List Value} (h : w.ownsRow base 26 1 (.slice ao n cap) n xs) (hn : 0 < n) : ∃ g, ao = some ⟨g, 0, none⟩ ∧ base ≤ g := by
 rcases h.2 with ⟨he, h0⟩ | ⟨g, cap', cur, he, hb, _⟩
 · omega
 · simp only [Value.slice.injEq] at he
   exact ⟨g, he.1, hb⟩

theorem l1Out_any (ao : Option Addr) (n cap : Nat) (a : Nat) (w : World) (hl : (D a).length = n) (hn : n ≤ 4194304) (hr : Rd w ao (D a)) :
 Calls Tryd.prog 24 #[.slice ao n cap] w fun e w' => ∃ ao' cap', e = .returned (.slice ao' (L a).length cap') ∧ w'.ownsRow w.heap.size 26 1 (.slice ao' (L a).length cap') (L a).length (U (L a)) ∧ Below w.heap.size w w' := by
 obtain ⟨i0, hi, hz0, hz1, hz2⟩ := info_parts Tryd.infoU
 have hx := F32_D a
 go_enter Tryd.func24, Tryd.ntmps24
 go_wp2
 go_loopw [3, 4] (fun v i wr => ∃ k : Nat, 2 * k ≤ n + 1 ∧ i = .int .i64 (2 * k) ∧ wr.ownsRow w.heap.size 26 1 v k (U (M.pk 4294967296 (D a) k)) ∧ Below w.heap.size w wr) (fun _ i _ => n + 2 - (intOf i).toNat)
 case atStart => exact ⟨0, by omega, rfl, World.ownsRow_nil _ _ _ _, Below.refl _ _⟩
 case round =>
  obtain ⟨k, hk, rfl, hown, hbl⟩ := hrel
  by_cases hlt : 2 * k < n
  · obtain ⟨b, off, hao, hc⟩ := (hr.below hbl) (by omega)
    have hck := hc (2 * k) (by omega)
    have hx1 := hx.get (2 * k)
    obtain ⟨x, hxx⟩ : ∃ x : Nat, x = (D a).getD (2 * k) 0 := ⟨_, rfl⟩
    rw [← hxx] at hck hx1
    have HX := hid hxx; clear hxx
    have hx2 := hx.get (2 * k + 1)
    obtain ⟨y, hyy⟩ : ∃ y : Nat, y = (D a).getD (2 * k + 1) 0 := ⟨_, rfl⟩
    by_cases hlt2 : 2 * k + 1 < n
    · have hck2 := hc (2 * k + 1) (by omega)
      rw [← hyy] at hck2 hx2
      have HY := hid hyy; clear hyy
      clear hc
      have hor := or_pair x y hx1 hx2
      go_wp2_with (at_builtin; refine wpList_append_own _ rfl _ _ 23 rfl w.heap.size 26 i0 (.int .u64 0) 1 8 Tryd.underlying23 hi hz0 hz1 hz2 rfl (by decide) _ _ _ rfl (hown.alloc _) ⟨wr.heap.size, 0, none⟩ 1 1 (U [x + y * 4294967296]) rfl rfl ?c1 ?c2 ?c3 ?c4 ?c5 ?_)
      case c1 =>
       intro j u hj
       match j, hj with
       | 0, hj => simp [U] at hj; subst hj; simp [Addr.add]
      case c2 => exact U_one _
      case c3 => unfold maxLen; omega
      case c4 => omega
      case c5 => have := hbl.size; simp; omega
      intro v' w1 hown' hgrow hnn
      clear hnn
      have hb1 : Below w.heap.size w w1 := (hbl.alloc hbl.size _).grown hgrow (by have := hbl.size; simp; omega) (fun k' hk' => (hown.lt k' hk').1)
      clear hown hgrow
      go_wp2
      go_roundw
      case rel =>
       have R : ∃ k1 : Nat, 2 * k1 ≤ n + 1 ∧ Value.int .i64 (2 * (k : Int) + 2) = .int .i64 (2 * (k1 : Int)) ∧ w1.ownsRow w.heap.size 26 1 v' k1 (U (M.pk 4294967296 (D a) k1)) ∧ Below w.heap.size w w1 := by
        refine ⟨k + 1, by omega, by go_num, ?_, hb1⟩
        rw [M.pk_succ, U_append, ← HX.out, ← HY.out]
        exact hown'
       first | exact R | ((repeat apply Exists.intro); exact ⟨R, by rw [hao]⟩)
      case measure => simp [intOf]; omega
    · have hy0 : y = 0 := by rw [hyy, getD_big _ _ (by omega)]
      have HY := hid hyy; clear hyy hx2
      clear hc
      have HY0 := hid hy0; clear hy0
      go_wp2_with (at_builtin; refine wpList_append_own _ rfl _ _ 23 rfl w.heap.size 26 i0 (.int .u64 0) 1 8 Tryd.underlying23 hi hz0 hz1 hz2 rfl (by decide) _ _ _ rfl (hown.alloc _) ⟨wr.heap.size, 0, none⟩ 1 1 (U [x]) rfl rfl ?c1 ?c2 ?c3 ?c4 ?c5 ?_)
      case c1 =>
       intro j u hj
       match j, hj with
       | 0, hj => simp [U] at hj; subst hj; simp [Addr.add]
      case c2 => exact U_one _
      case c3 => unfold maxLen; omega
      case c4 => omega
      case c5 => have := hbl.size; simp; omega
      intro v' w1 hown' hgrow hnn
      clear hnn
      have hb1 : Below w.heap.size w w1 := (hbl.alloc hbl.size _).grown hgrow (by have := hbl.size; simp; omega) (fun k' hk' => (hown.lt k' hk').1)
      clear hown hgrow
      go_wp2
      go_roundw
      case rel =>
       have R : ∃ k1 : Nat, 2 * k1 ≤ n + 1 ∧ Value.int .i64 (2 * (k : Int) + 2) = .int .i64 (2 * (k1 : Int)) ∧ w1.ownsRow w.heap.size 26 1 v' k1 (U (M.pk 4294967296 (D a) k1)) ∧ Below w.heap.size w w1 := by
        refine ⟨k + 1, by omega, by go_num, ?_, hb1⟩
        rw [M.pk_succ, U_append, ← HX.out, ← HY.out, HY0.out]
        exact hown'
       first | exact R | ((repeat apply Exists.intro); exact ⟨R, by rw [hao]⟩)
      case measure => simp [intOf]; omega
  · have e : k = (n + 1) / 2 := by omega
    have hfin : M.pk 4294967296 (D a) k = L a := by
     rw [e, ← hl]; exact M.pk_dig (C := 4294967296) (by omega) a
    rw [hfin] at hown
    have hlen := hown.1
    rw [U_length, Nat.mul_one] at hlen
    have hv := own_shape hown
    obtain ⟨ao1, cap1, hv⟩ := hv
    rw [hv] at hown
    have HO := hid hown; clear hown
    have HV := hid hv; clear hv
    have HLen := hid hlen; clear hlen
    have HF := hid hfin; clear hfin
    go_wp2
    go_ret
    rw [HLen.out]
    exact ⟨ao1, cap1, by rw [← HV.out]; rfl, HO.out, hbl⟩

end Go.Proofs.YtogkkecnmlnajaaDoor
