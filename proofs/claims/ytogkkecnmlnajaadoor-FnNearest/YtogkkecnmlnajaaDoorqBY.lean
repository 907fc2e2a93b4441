import Derived.Test.YtogkkecnmlnajaaDoorqBC
set_option maxHeartbeats 8000000
set_option maxRecDepth 100000
namespace Go.Proofs.YtogkkecnmlnajaaDoor
open Go.RowKit
set_option linter.unusedVariables false
set_option maxRecDepth 100000
def rdB (bs : List Nat) (i : Nat) : Nat := bs.getD i 0

def adv (bs : List Nat) (i : Nat) : Nat := if i < bs.length then i + 1 else i

def RdB (w : World) (ao : Option Addr) (bs : List Nat) : Prop :=
 (∀ x ∈ bs, x < 256) ∧ (0 < bs.length → ∃ b off, ao = some ⟨b, off, none⟩ ∧ ∀ i, i < bs.length → w.cell? ⟨b, off + i, none⟩ = some (.int .u8 ((bs.getD i 0 : Nat) : Int)))

theorem RdB.below {w w' : World} {ao : Option Addr} {xs : List Nat} (h : RdB w ao xs) (hb : Below w.heap.size w w') : RdB w' ao xs := by
 refine ⟨h.1, fun hp => ?_⟩
 obtain ⟨b, off, e, hc⟩ := h.2 hp
 refine ⟨b, off, e, fun i hi => ?_⟩
 exact (hb.cell (p := ⟨b, off + i, none⟩) (World.block_lt_of_cell? w _ (hc i hi))).trans (hc i hi)

theorem rdB_lt {w : World} {ao : Option Addr} {bs : List Nat} (h : RdB w ao bs) (i : Nat) : rdB bs i < 256 := M.getD_lt (by omega) h.1 i

theorem RdB.grown {w w' : World} {ao : Option Addr} {bs : List Nat} {g : Nat} (h : RdB w ao bs) (hg : w.grownBy w' (some g)) (hsep : 0 < bs.length → ∀ b2 o2, ao = some ⟨b2, o2, none⟩ → b2 ≠ g) : RdB w' ao bs := by
 refine ⟨h.1, fun hp => ?_⟩
 obtain ⟨b, off, e, hc⟩ := h.2 hp
 exact ⟨b, off, e, fun i hi => hg.cell (hc i hi) (by simpa using hsep hp b off e)⟩

def InB (w : World) (a : Option Addr) (len cap : Nat) (bs : List Nat) : Prop := bs.length = len ∧ len ≤ cap ∧ RdB w a bs

def IsRdr (w : World) (g : Nat) (ao : Option Addr) (n c i : Nat) : Prop := w.heap[g]? = some (.cells #[.slice ao n c, .int .i64 (i : Int)] 45 (0, 0))

theorem IsRdr.lt {w : World} {g : Nat} {ao : Option Addr} {n c i : Nat} (h : IsRdr w g ao n c i) : g < w.heap.size := (Array.getElem?_eq_some_iff.1 h).1

theorem IsRdr.c0 {w : World} {g : Nat} {ao : Option Addr} {n c i : Nat} (h : IsRdr w g ao n c i) : w.cell? ⟨g, 0, none⟩ = some (.slice ao n c) := by
 rw [cell_of_row w g 0 _ _ (0, 0) h]; rfl

theorem IsRdr.c1 {w : World} {g : Nat} {ao : Option Addr} {n c i : Nat} (h : IsRdr w g ao n c i) : w.cell? ⟨g, 1, none⟩ = some (.int .i64 (i : Int)) := by
 rw [cell_of_row w g 1 _ _ (0, 0) h]; rfl

theorem IsRdr.f1 {w : World} {g : Nat} {ao : Option Addr} {n c i : Nat} (h : IsRdr w g ao n c i) : w.frozen? ⟨g, 1, none⟩ = false := frozen_of_row w g 1 _ _ h

theorem IsRdr.set {w : World} {g : Nat} {ao : Option Addr} {n c i : Nat} (h : IsRdr w g ao n c i) (j : Nat) (v : Int) (hv : v = (j : Int)) : IsRdr (w.setCell ⟨g, 1, none⟩ (.int .i64 v)) g ao n c j := by
 subst hv
 unfold IsRdr
 rw [heap_setCell_same w g 1 _ _ _ h]
 rfl

theorem IsRdr.drewN {w : World} {g : Nat} {ao : Option Addr} {n c i : Nat} (h : IsRdr w g ao n c i) (q : Nat) : IsRdr (w.drewN q) g ao n c i := h

theorem IsRdr.keep {w w' : World} {g : Nat} {ao : Option Addr} {n c i : Nat} (h : IsRdr w g ao n c i) (hb : Below w.heap.size w w') : IsRdr w' g ao n c i := (hb.block g h.lt).trans h

theorem IsRdr.grown {w w' : World} {g : Nat} {ao : Option Addr} {n c i : Nat} {row : Option Nat} (h : IsRdr w g ao n c i) (hb : w.grownBy w' row) (hr : some g ≠ row) : IsRdr w' g ao n c i := (hb.block g h.lt hr).trans h

theorem next_any (g : Nat) (ao : Option Addr) (n c i : Nat) (bs : List Nat) (w : World) (hl : bs.length = n) (hn : n ≤ 1048576) (hi : i ≤ n) (hR : IsRdr w g ao n c i) (hb : RdB w ao bs) (x : Nat) (hx : x = rdB bs i) :
 Calls Tryd.prog 14 #[.pointer (some ⟨g, 0, none⟩)] w fun e w' => e = .returned (.int .i64 (x : Int)) ∧ IsRdr w' g ao n c (adv bs i) ∧ w.grownBy w' (some g) := by
 have h0 := hR.c0
 have h1 := hR.c1
 have hf := hR.f1
 by_cases hlt : i < n
 · have ha : adv bs i = i + 1 := by unfold adv; rw [if_pos (by omega)]
   rw [ha]
   obtain ⟨b, off, hao, hcl⟩ := hb.2 (by omega)
   have hck := hcl i (by omega)
   rw [show bs.getD i 0 = x from hx.symm] at hck
   have hx1 : x < 256 := by rw [hx]; exact rdB_lt hb i
   clear hcl
   have HX := hid hx; clear hx ha
   have hge : ¬ (n : Int) ≤ (i : Int) := by omega
   have hlt' : (i : Int) < (n : Int) := by omega
   have HR := hid hR; clear hR
   go_enter Tryd.func14, Tryd.ntmps14
   go_wp2
   go_quiet (fail)
   go_wp2
   generalize hwy : w.drewN nq = wy
   have hR1 : IsRdr wy g ao n c i := by rw [← hwy]; exact HR.out
   have h0' := hR1.c0
   have h1' := hR1.c1
   have hck' : wy.cell? ⟨b, off + i, none⟩ = some (.int .u8 (x : Int)) := by rw [← hwy]; exact hck
   have hgy : w.grownBy wy (some g) := by rw [← hwy]; exact grown_drewN _ _ _
   have HR1 := hid hR1
   have HGY := hid hgy
   clear hwy h0 h1 hck hR1 hgy hf HR
   go_quiet (fail)
   generalize hwz : wy.drewN nq = wz
   have hR2 : IsRdr wz g ao n c i := by rw [← hwz]; exact HR1.out
   have h1'' := hR2.c1
   have hf'' := hR2.f1
   have hgz : w.grownBy wz (some g) := by rw [← hwz]; exact grown_trans HGY.out (grown_drewN _ _ _)
   have HR2 := hid hR2
   have HGZ := hid hgz
   clear hwz h0' h1' hck' hR2 hgz
   go_wp2
   go_ret
   exact ⟨rfl, HR2.out.set (i + 1) _ (by omega), grown_trans HGZ.out (grown_setCell _ _ _ _)⟩
 · have ha : adv bs i = i := by unfold adv; rw [if_neg (by omega)]
   have hx0 : x = 0 := by rw [hx]; unfold rdB; exact getD_big _ _ (by omega)
   rw [ha]
   subst hx0
   clear hx ha
   have hge : (n : Int) ≤ (i : Int) := by omega
   have HR := hid hR; clear hR
   go_enter Tryd.func14, Tryd.ntmps14
   go_wp2
   go_quiet (fail)
   go_wp2
   go_ret
   exact ⟨rfl, HR.out.drewN _, grown_drewN _ _ _⟩

def wideK (bs : List Nat) (i : Nat) : Nat → Nat × Nat
 | 0 => (0, i)
 | k + 1 => ((wideK bs i k).1 * 256 + rdB bs (wideK bs i k).2, adv bs (wideK bs i k).2)

theorem wideK_le (bs : List Nat) (i n : Nat) (hl : bs.length = n) (hi : i ≤ n) (k : Nat) : (wideK bs i k).2 ≤ n := by
 induction k with
 | zero => exact hi
 | succ k ih => simp only [wideK, adv]; split <;> omega

theorem wideK_lt (bs : List Nat) (i : Nat) (hb : ∀ x ∈ bs, x < 256) (k : Nat) : (wideK bs i k).1 < 256 ^ k := by
 induction k with
 | zero => simp [wideK]
 | succ k ih =>
   simp only [wideK, Nat.pow_succ]
   have : rdB bs (wideK bs i k).2 < 256 := M.getD_lt (by omega) hb _
   omega

theorem wide_any (g : Nat) (ao : Option Addr) (n c i : Nat) (bs : List Nat) (w : World) (hl : bs.length = n) (hn : n ≤ 1048576) (hi : i ≤ n) (hR : IsRdr w g ao n c i) (hb : RdB w ao bs) (hsep : 0 < bs.length → ∀ b2 o2, ao = some ⟨b2, o2, none⟩ → b2 ≠ g) (x j : Nat) (hx : x = (wideK bs i 8).1) (hj : j = (wideK bs i 8).2) :
 Calls Tryd.prog 52 #[.pointer (some ⟨g, 0, none⟩)] w fun e w' => e = .returned (.int .u64 (x : Int)) ∧ IsRdr w' g ao n c j ∧ w.grownBy w' (some g) := by
 have HX := hid hx; have HJ := hid hj
 clear hx hj
 go_enter Tryd.func52, Tryd.ntmps52
 go_wp2
 go_loopw [3, 4] (fun v q wr => ∃ k : Nat, k ≤ 8 ∧ q = .int .i64 k ∧ v = .int .u64 ((wideK bs i k).1 : Int) ∧ IsRdr wr g ao n c (wideK bs i k).2 ∧ w.grownBy wr (some g)) (fun _ q _ => 8 - (intOf q).toNat)
 case atStart => exact ⟨0, by omega, rfl, rfl, hR, World.grownBy.refl _ _⟩
 case round =>
  obtain ⟨k, hk, rfl, rfl, hRk, hg⟩ := hrel
  by_cases hlt : k < 8
  · have hlt' : (k : Int) < 8 := by omega
    have hle := wideK_le bs i n hl hi k
    have hxl := wideK_lt bs i hb.1 k
    have hp : 256 ^ k ≤ 256 ^ 7 := Nat.pow_le_pow_right (by omega) (by omega)
    obtain ⟨y, ey⟩ : ∃ y : Nat, y = (wideK bs i k).1 := ⟨_, rfl⟩
    obtain ⟨p, ep⟩ : ∃ p : Nat, p = (wideK bs i k).2 := ⟨_, rfl⟩
    rw [← ey] at hxl ⊢
    rw [← ep] at hRk hle
    obtain ⟨z, ez⟩ : ∃ z : Nat, z = rdB bs p := ⟨_, rfl⟩
    have hzb : z < 256 := by rw [ez]; exact rdB_lt hb p
    have hyb : y < 72057594037927936 := by omega
    have hor : bits BinOp.or IntKind.u64 ((y : Int) * 256) (z : Int) = ((y * 256 + z : Nat) : Int) := by
     have h1 := or_nat z y 8 (by omega)
     have e : (y : Int) * 256 = ((y * 256 : Nat) : Int) := by omega
     rw [e, u64_or_nat _ _ (by omega) (by omega), Nat.or_comm]
     rw [show (2 : Nat) ^ 8 = 256 from rfl] at h1
     rw [h1, Nat.add_comm]
    obtain ⟨t, et⟩ : ∃ t : Nat, t = y * 256 + z := ⟨_, rfl⟩
    rw [← et] at hor
    have EY := hid ey; have EP := hid ep; have EZ := hid ez; have ET := hid et
    clear ey ep ez et hxl hp
    go_wp2_with fail
    refine (next_any g ao n c p bs _ hl hn hle hRk (hb.grown hg hsep) z EZ.out).mono ?_
    rintro e w1 ⟨rfl, hR1, hg1⟩
    have hgw := grown_trans hg hg1
    clear hRk hg hg1
    have HR1 := hid hR1; have HG := hid hgw
    clear hR1 hgw
    go_wp2_with fail
    go_roundw
    case rel =>
     have R : ∃ k1 : Nat, k1 ≤ 8 ∧ Value.int .i64 ((k : Int) + 1) = .int .i64 k1 ∧ Value.int .u64 (t : Int) = .int .u64 ((wideK bs i k1).1 : Int) ∧ IsRdr w1 g ao n c (wideK bs i k1).2 ∧ w.grownBy w1 (some g) := by
      refine ⟨k + 1, by omega, by go_num, ?_, ?_, HG.out⟩
      · rw [ET.out, EZ.out]; simp only [wideK]; rw [← EY.out, ← EP.out]
      · simp only [wideK]; rw [← EP.out]; exact HR1.out
     first | exact R | ((repeat apply Exists.intro); exact ⟨R, rfl⟩)
    case measure => simp [intOf]; omega
  · have e : k = 8 := by omega
    subst e
    have hlt' : ¬ ((8 : Nat) : Int) < 8 := by omega
    rw [← HX.out]
    rw [← HJ.out] at hRk
    have HR := hid hRk; have HG := hid hg
    clear hRk hg
    go_wp2_with fail
    go_ret
    exact ⟨rfl, HR.out, HG.out⟩

def limb1 (bs : List Nat) (i : Nat) : Nat × Nat :=
 if rdB bs i % 6 = 0 then (0, adv bs i) else if rdB bs i % 6 = 1 then (18446744073709551615, adv bs i) else if rdB bs i % 6 = 2 then (rdB bs i, adv bs i)
 else if rdB bs i % 6 = 3 then (2 ^ (rdB bs (adv bs i) % 64), adv bs (adv bs i)) else wideK bs (adv bs i) 8

theorem limb1_0 (bs : List Nat) (i x : Nat) (hx : x = rdB bs i) (h : x % 6 = 0) : (limb1 bs i).1 = 0 ∧ (limb1 bs i).2 = adv bs i := by
 unfold limb1; rw [← hx, if_pos h]; exact ⟨rfl, rfl⟩

theorem limb1_1 (bs : List Nat) (i x : Nat) (hx : x = rdB bs i) (h : x % 6 = 1) : (limb1 bs i).1 = 18446744073709551615 ∧ (limb1 bs i).2 = adv bs i := by
 unfold limb1; rw [← hx, if_neg (by omega), if_pos h]; exact ⟨rfl, rfl⟩

theorem limb1_2 (bs : List Nat) (i x : Nat) (hx : x = rdB bs i) (h : x % 6 = 2) : (limb1 bs i).1 = x ∧ (limb1 bs i).2 = adv bs i := by
 unfold limb1; rw [← hx, if_neg (by omega), if_neg (by omega), if_pos h]; exact ⟨rfl, rfl⟩

theorem limb1_3 (bs : List Nat) (i x : Nat) (hx : x = rdB bs i) (h : x % 6 = 3) : (limb1 bs i).1 = 2 ^ (rdB bs (adv bs i) % 64) ∧ (limb1 bs i).2 = adv bs (adv bs i) := by
 unfold limb1; rw [← hx, if_neg (by omega), if_neg (by omega), if_neg (by omega), if_pos h]; exact ⟨rfl, rfl⟩

theorem limb1_4 (bs : List Nat) (i x : Nat) (hx : x = rdB bs i) (h : 3 < x % 6) : (limb1 bs i).1 = (wideK bs (adv bs i) 8).1 ∧ (limb1 bs i).2 = (wideK bs (adv bs i) 8).2 := by
 unfold limb1; rw [← hx, if_neg (by omega), if_neg (by omega), if_neg (by omega), if_neg (by omega)]; exact ⟨rfl, rfl⟩

theorem adv_le (bs : List Nat) (i n : Nat) (hl : bs.length = n) (hi : i ≤ n) : adv bs i ≤ n := by unfold adv; split <;> omega

theorem limb1_le (bs : List Nat) (i n : Nat) (hl : bs.length = n) (hi : i ≤ n) : (limb1 bs i).2 ≤ n := by
 have h1 := adv_le bs i n hl hi
 have h2 := adv_le bs (adv bs i) n hl h1
 have h3 := wideK_le bs (adv bs i) n hl h1 8
 unfold limb1
 split
 · exact h1
 · split
   · exact h1
   · split
     · exact h1
     · split
       · exact h2
       · exact h3

theorem limb1_lt (bs : List Nat) (i : Nat) (hb : ∀ x ∈ bs, x < 256) : (limb1 bs i).1 < 18446744073709551616 := by
 have h1 : rdB bs i < 256 := M.getD_lt (by omega) hb _
 have h2 := wideK_lt bs (adv bs i) hb 8
 have h3 : 2 ^ (rdB bs (adv bs i) % 64) < 2 ^ 64 := Nat.pow_lt_pow_right (by omega) (by omega)
 unfold limb1
 split
 · exact Nat.zero_lt_succ _
 · split
   · show 18446744073709551615 < 18446744073709551616; omega
   · split
     · show rdB bs i < 18446744073709551616; omega
     · split
       · show 2 ^ (rdB bs (adv bs i) % 64) < 18446744073709551616; omega
       · omega

def limbsK (bs : List Nat) (i : Nat) : Nat → List Nat × Nat
 | 0 => ([], i)
 | k + 1 => ((limbsK bs i k).1 ++ [(limb1 bs (limbsK bs i k).2).1], (limb1 bs (limbsK bs i k).2).2)

theorem limbsK_le (bs : List Nat) (i n : Nat) (hl : bs.length = n) (hi : i ≤ n) (k : Nat) : (limbsK bs i k).2 ≤ n := by
 induction k with
 | zero => exact hi
 | succ k ih => exact limb1_le bs _ n hl ih

theorem limbsK_len (bs : List Nat) (i : Nat) (k : Nat) : (limbsK bs i k).1.length = k := by
 induction k with
 | zero => rfl
 | succ k ih => simp [limbsK, ih]

theorem limbsK_F (bs : List Nat) (i : Nat) (hb : ∀ x ∈ bs, x < 256) (k : Nat) : F64 (limbsK bs i k).1 := by
 induction k with
 | zero => intro x hx; simp [limbsK] at hx
 | succ k ih =>
   intro x hx
   simp only [limbsK] at hx
   rcases List.mem_append.1 hx with hx | hx
   · exact ih x hx
   · simp at hx; rw [hx]; exact limb1_lt bs _ hb

def fillK (bs : List Nat) : Nat → List Nat × Nat → List Nat × Nat
 | 0, s => s
 | f + 1, s => if s.1.length < 1200 + rdB bs s.2 % 2 then fillK bs f (s.1 ++ [s.1.length], adv bs s.2) else (s.1, adv bs s.2)

theorem fillK_facts (bs : List Nat) (n : Nat) (hl : bs.length = n) (f : Nat) : ∀ s : List Nat × Nat, s.2 ≤ n → F64 s.1 → s.1.length ≤ 1201 → (fillK bs f s).2 ≤ n ∧ F64 (fillK bs f s).1 ∧ (fillK bs f s).1.length ≤ 1201 := by
 induction f with
 | zero => intro s h1 h2 h3; exact ⟨h1, h2, h3⟩
 | succ f ih =>
   intro s h1 h2 h3
   simp only [fillK]
   split
   · next h =>
     refine ih _ (adv_le bs _ n hl h1) ?_ (by simp; omega)
     intro x hx
     rcases List.mem_append.1 hx with hx | hx
     · exact h2 x hx
     · simp at hx; omega
   · exact ⟨adv_le bs _ n hl h1, h2, h3⟩

def limbsN (k : Nat) : Nat := if 240 ≤ k then 8 + k % 16 * 3 else k % 7

def limbsAll (bs : List Nat) (i : Nat) : List Nat × Nat :=
 if rdB bs i = 255 then fillK bs 1300 (limbsK bs (adv bs i) (limbsN (rdB bs i))) else limbsK bs (adv bs i) (limbsN (rdB bs i))

theorem limbsN_le (k : Nat) : limbsN k ≤ 53 := by unfold limbsN; split <;> omega

theorem limbsAll_facts (bs : List Nat) (i n : Nat) (hl : bs.length = n) (hi : i ≤ n) (hb : ∀ x ∈ bs, x < 256) : (limbsAll bs i).2 ≤ n ∧ F64 (limbsAll bs i).1 ∧ (limbsAll bs i).1.length ≤ 1201 := by
 have h1 := adv_le bs i n hl hi
 have h2 := limbsK_le bs (adv bs i) n hl h1 (limbsN (rdB bs i))
 have h3 := limbsK_F bs (adv bs i) hb (limbsN (rdB bs i))
 have h4 := limbsK_len bs (adv bs i) (limbsN (rdB bs i))
 have h5 := limbsN_le (rdB bs i)
 unfold limbsAll
 split
 · exact fillK_facts bs n hl 1300 _ h2 h3 (by omega)
 · exact ⟨h2, h3, by omega⟩

theorem grown_own {w wr w1 : World} {o : Obj} {g : Nat} {row : Option Nat} (h : w.grownBy wr (some g)) (h1 : (wr.alloc o).grownBy w1 row) (hr : ∀ k, row = some k → w.heap.size ≤ k) : w.grownBy w1 (some g) := by
 refine ⟨h1.os.trans h.os, h1.tape.trans h.tape, h1.output.trans h.output, Nat.le_trans h.size (Nat.le_trans (by simp) h1.size), fun k hk hne => ?_⟩
 have h2 := h1.block k (by have := h.size; simp; omega) (fun e => by have := hr k e.symm; omega)
 rw [h2, Below.heap_alloc wr o k (by have := h.size; omega)]
 exact h.block k hk hne

theorem isRdr_own {w wr w1 : World} {o : Obj} {g : Nat} {row : Option Nat} {ao : Option Addr} {n c i : Nat} (h : IsRdr wr g ao n c i) (h1 : (wr.alloc o).grownBy w1 row) (hr : ∀ k, row = some k → w.heap.size ≤ k) (hg : g < w.heap.size) : IsRdr w1 g ao n c i := by
 have hlt := h.lt
 unfold IsRdr
 rw [h1.block g (by simp; omega) (fun e => by have := hr g e.symm; omega), Below.heap_alloc wr o g hlt]
 exact h

theorem own_grown {wr w1 : World} {base g n : Nat} {v : Value} {xs : List Value} (h : wr.ownsRow base 26 1 v n xs) (hg : wr.grownBy w1 (some g)) (hb : g < base) : w1.ownsRow base 26 1 v n xs := by
 refine h.kept hg ?_
 cases hv : v.ownBlock with
 | none => exact .inl rfl
 | some k => right; intro e; cases e; have := h.lt _ hv; omega

def lenOf : Value → Nat
 | .slice _ n _ => n
 | _ => 0

theorem limbs_any (g : Nat) (ao : Option Addr) (n c i0' : Nat) (bs : List Nat) (w : World) (hl : bs.length = n) (hn : n ≤ 1048576) (hi' : i0' ≤ n) (hR : IsRdr w g ao n c i0') (hb : RdB w ao bs) (hsep : 0 < bs.length → ∀ b2 o2, ao = some ⟨b2, o2, none⟩ → b2 ≠ g) :
 Calls Tryd.prog 17 #[.pointer (some ⟨g, 0, none⟩)] w fun e w' => ∃ ro rc, e = .returned (.slice ro (limbsAll bs i0').1.length rc) ∧ w'.ownsRow w.heap.size 26 1 (.slice ro (limbsAll bs i0').1.length rc) (limbsAll bs i0').1.length (U (limbsAll bs i0').1) ∧ IsRdr w' g ao n c (limbsAll bs i0').2 ∧ w.grownBy w' (some g) := by
 obtain ⟨i0, hi0, hz0, hz1, hz2⟩ := info_parts Tryd.infoU
 have hgw := hR.lt
 obtain ⟨K, eK⟩ : ∃ K : Nat, K = rdB bs i0' := ⟨_, rfl⟩
 have hKb : K < 256 := by rw [eK]; exact rdB_lt hb _
 obtain ⟨N, eN⟩ : ∃ N : Nat, N = limbsN K := ⟨_, rfl⟩
 have hNb : N ≤ 53 := by rw [eN]; exact limbsN_le K
 obtain ⟨i, ei⟩ : ∃ i : Nat, i = adv bs i0' := ⟨_, rfl⟩
 have hile : i ≤ n := by rw [ei]; exact adv_le bs _ n hl hi'
 have hcase : (240 ≤ K ∧ N = 8 + K % 16 * 3 ∧ decide ((240 : Int) ≤ (K : Int)) = true) ∨ (¬ 240 ≤ K ∧ N = K % 7 ∧ decide ((240 : Int) ≤ (K : Int)) = false) := by
  rw [eN]
  unfold limbsN
  split
  · left; exact ⟨by assumption, rfl, by simp; omega⟩
  · right; exact ⟨by assumption, rfl, by simp; omega⟩
 have hall : limbsAll bs i0' = if K = 255 then fillK bs 1300 (limbsK bs i N) else limbsK bs i N := by
  unfold limbsAll; rw [← eK, ← ei, ← eN]
 have HK := hid eK; have HN := hid eN; have HI := hid ei; have HA := hid hall
 clear eK eN ei hall
 have fin : ∀ (wr : World) (v : Value), wr.ownsRow w.heap.size 26 1 v (limbsAll bs i0').1.length (U (limbsAll bs i0').1) → ∃ ro rc, v = .slice ro (limbsAll bs i0').1.length rc := fun wr v h => own_shape h
 rcases hcase with ⟨h240, hNe, hd⟩ | ⟨h240, hNe, hd⟩
 all_goals
  go_enter Tryd.func17, Tryd.ntmps17
  go_wp2_with fail
  refine (next_any g ao n c i0' bs _ hl hn hi' hR hb K HK.out).mono ?_
  rw [← HI.out]
  rintro e w0 ⟨rfl, hR0, hg0⟩
  have hN1 : (8 : Int) + (K : Int) % 16 * 3 = ((8 + K % 16 * 3 : Nat) : Int) := by omega
  have hN2 : (K : Int) % 7 = ((K % 7 : Nat) : Int) := by omega
  have HN1 := hid hN1; have HN2 := hid hN2
  clear hN1 hN2
  have HNe := hid hNe; clear hNe
  clear hR
  have HR0 := hid hR0; have HG0 := hid hg0
  clear hR0 hg0
  go_wp2_with fail
  go_loopw [4, 5, 6] (fun cn v c6 wr => ∃ k : Nat, k ≤ N ∧ cn = .int .i64 ((N : Int) - (k : Int)) ∧ wr.ownsRow w.heap.size 26 1 v k (U (limbsK bs i k).1) ∧ IsRdr wr g ao n c (limbsK bs i k).2 ∧ w.grownBy wr (some g)) (fun cn _ _ _ => (intOf cn).toNat)
  case atStart => exact ⟨0, by omega, congrArg (Value.int .i64) (by have := HNe.out; omega), World.ownsRow_nil _ _ _ _, HR0.out, HG0.out⟩
  case round =>
   clear HR0 HG0
   obtain ⟨k, hk, rfl, hown, hRk, hg⟩ := hrel
   by_cases hlt : k < N
   · have hlt' : (0 : Int) < (N : Int) - (k : Int) := by omega
     have hle := limbsK_le bs i n hl hile k
     obtain ⟨p, ep⟩ : ∃ p : Nat, p = (limbsK bs i k).2 := ⟨_, rfl⟩
     rw [← ep] at hRk hle
     obtain ⟨x, ex⟩ : ∃ x : Nat, x = rdB bs p := ⟨_, rfl⟩
     have hxb : x < 256 := by rw [ex]; exact rdB_lt hb p
     have EP := hid ep; have EX := hid ex
     clear ep ex
     go_wp2_with fail
     refine (next_any g ao n c p bs _ hl hn hle hRk (hb.grown hg hsep) x EX.out).mono ?_
     rintro e w1 ⟨rfl, hR1, hg1'⟩
     have hown := own_grown hown hg1' hgw
     have hg1 := grown_trans hg hg1'
     clear hRk hg hg1'
     rcases (show x % 6 = 0 ∨ x % 6 = 1 ∨ x % 6 = 2 ∨ x % 6 = 3 ∨ 3 < x % 6 from by omega) with h6 | h6 | h6 | h6 | h6
     · have e0 : ((x : Int) % 6 == 0) = true := by simp; omega
       go_wp2_with (at_builtin; refine wpList_append_own _ rfl _ _ 23 rfl w.heap.size 26 i0 (.int .u64 0) 1 8 Tryd.underlying23 hi0 hz0 hz1 hz2 rfl (by decide) _ _ _ rfl (hown.alloc _) ⟨w1.heap.size, 0, none⟩ 1 1 (U [0]) rfl rfl ?c1 ?c2 ?c3 ?c4 ?c5 ?_)
       case c1 =>
        intro j u hj
        match j, hj with
        | 0, hj => simp [U] at hj; subst hj; simp [Addr.add]
       case c2 => exact U_one _
       case c3 => unfold maxLen; omega
       case c4 => omega
       case c5 => have := hg1.size; simp; omega
       intro v' w9 hown' hgrow hnn
       clear hnn
       have hg9 : w.grownBy w9 (some g) := grown_own hg1 hgrow (fun k' hk' => (hown.lt k' hk').1)
       have hR9 : IsRdr w9 g ao n c (adv bs p) := isRdr_own hR1 hgrow (fun k' hk' => (hown.lt k' hk').1) hgw
       clear hown hgrow
       have HO9 := hid hown'; have HG9 := hid hg9; have HR9 := hid hR9
       clear hown' hg9 hR9
       go_wp2_with fail
       go_roundw
       case rel =>
        have R : ∃ k1 : Nat, k1 ≤ N ∧ Value.int .i64 ((N : Int) - (k : Int) - 1) = .int .i64 ((N : Int) - (k1 : Int)) ∧ w9.ownsRow w.heap.size 26 1 v' k1 (U (limbsK bs i k1).1) ∧ IsRdr w9 g ao n c (limbsK bs i k1).2 ∧ w.grownBy w9 (some g) := by
         refine ⟨k + 1, by omega, by go_num, ?_, ?_, HG9.out⟩
         · simp only [limbsK]; rw [U_append, ← EP.out, show (limb1 bs p).1 = 0 from (limb1_0 bs p x EX.out h6).1]; exact HO9.out
         · simp only [limbsK]; rw [← EP.out, show (limb1 bs p).2 = adv bs p from (limb1_0 bs p x EX.out h6).2]; exact HR9.out
        first | exact R | ((repeat apply Exists.intro); exact ⟨R, rfl⟩)
       case measure => simp [intOf]; omega
     · have e0 : ((x : Int) % 6 == 0) = false := by simp; omega
       have e1 : ((x : Int) % 6 == 1) = true := by simp; omega
       go_wp2_with (at_builtin; refine wpList_append_own _ rfl _ _ 23 rfl w.heap.size 26 i0 (.int .u64 0) 1 8 Tryd.underlying23 hi0 hz0 hz1 hz2 rfl (by decide) _ _ _ rfl (hown.alloc _) ⟨w1.heap.size, 0, none⟩ 1 1 (U [18446744073709551615]) rfl rfl ?c1 ?c2 ?c3 ?c4 ?c5 ?_)
       case c1 =>
        intro j u hj
        match j, hj with
        | 0, hj => simp [U] at hj; subst hj; simp [Addr.add]
       case c2 => exact U_one _
       case c3 => unfold maxLen; omega
       case c4 => omega
       case c5 => have := hg1.size; simp; omega
       intro v' w9 hown' hgrow hnn
       clear hnn
       have hg9 : w.grownBy w9 (some g) := grown_own hg1 hgrow (fun k' hk' => (hown.lt k' hk').1)
       have hR9 : IsRdr w9 g ao n c (adv bs p) := isRdr_own hR1 hgrow (fun k' hk' => (hown.lt k' hk').1) hgw
       clear hown hgrow
       have HO9 := hid hown'; have HG9 := hid hg9; have HR9 := hid hR9
       clear hown' hg9 hR9
       go_wp2_with fail
       go_roundw
       case rel =>
        have R : ∃ k1 : Nat, k1 ≤ N ∧ Value.int .i64 ((N : Int) - (k : Int) - 1) = .int .i64 ((N : Int) - (k1 : Int)) ∧ w9.ownsRow w.heap.size 26 1 v' k1 (U (limbsK bs i k1).1) ∧ IsRdr w9 g ao n c (limbsK bs i k1).2 ∧ w.grownBy w9 (some g) := by
         refine ⟨k + 1, by omega, by go_num, ?_, ?_, HG9.out⟩
         · simp only [limbsK]; rw [U_append, ← EP.out, show (limb1 bs p).1 = 18446744073709551615 from (limb1_1 bs p x EX.out h6).1]; exact HO9.out
         · simp only [limbsK]; rw [← EP.out, show (limb1 bs p).2 = adv bs p from (limb1_1 bs p x EX.out h6).2]; exact HR9.out
        first | exact R | ((repeat apply Exists.intro); exact ⟨R, rfl⟩)
       case measure => simp [intOf]; omega
     · have e0 : ((x : Int) % 6 == 0) = false := by simp; omega
       have e1 : ((x : Int) % 6 == 1) = false := by simp; omega
       have e2 : ((x : Int) % 6 == 2) = true := by simp; omega
       go_wp2_with (at_builtin; refine wpList_append_own _ rfl _ _ 23 rfl w.heap.size 26 i0 (.int .u64 0) 1 8 Tryd.underlying23 hi0 hz0 hz1 hz2 rfl (by decide) _ _ _ rfl (hown.alloc _) ⟨w1.heap.size, 0, none⟩ 1 1 (U [x]) rfl rfl ?c1 ?c2 ?c3 ?c4 ?c5 ?_)
       case c1 =>
        intro j u hj
        match j, hj with
        | 0, hj => simp [U] at hj; subst hj; simp [Addr.add]
       case c2 => exact U_one _
       case c3 => unfold maxLen; omega
       case c4 => omega
       case c5 => have := hg1.size; simp; omega
       intro v' w9 hown' hgrow hnn
       clear hnn
       have hg9 : w.grownBy w9 (some g) := grown_own hg1 hgrow (fun k' hk' => (hown.lt k' hk').1)
       have hR9 : IsRdr w9 g ao n c (adv bs p) := isRdr_own hR1 hgrow (fun k' hk' => (hown.lt k' hk').1) hgw
       clear hown hgrow
       have HO9 := hid hown'; have HG9 := hid hg9; have HR9 := hid hR9
       clear hown' hg9 hR9
       go_wp2_with fail
       go_roundw
       case rel =>
        have R : ∃ k1 : Nat, k1 ≤ N ∧ Value.int .i64 ((N : Int) - (k : Int) - 1) = .int .i64 ((N : Int) - (k1 : Int)) ∧ w9.ownsRow w.heap.size 26 1 v' k1 (U (limbsK bs i k1).1) ∧ IsRdr w9 g ao n c (limbsK bs i k1).2 ∧ w.grownBy w9 (some g) := by
         refine ⟨k + 1, by omega, by go_num, ?_, ?_, HG9.out⟩
         · simp only [limbsK]; rw [U_append, ← EP.out, show (limb1 bs p).1 = x from (limb1_2 bs p x EX.out h6).1]; exact HO9.out
         · simp only [limbsK]; rw [← EP.out, show (limb1 bs p).2 = adv bs p from (limb1_2 bs p x EX.out h6).2]; exact HR9.out
        first | exact R | ((repeat apply Exists.intro); exact ⟨R, rfl⟩)
       case measure => simp [intOf]; omega
     · have e0 : ((x : Int) % 6 == 0) = false := by simp; omega
       have e1 : ((x : Int) % 6 == 1) = false := by simp; omega
       have e2 : ((x : Int) % 6 == 2) = false := by simp; omega
       have e3 : ((x : Int) % 6 == 3) = true := by simp; omega
       have hle1 := adv_le bs p n hl hle
       obtain ⟨y, ey⟩ : ∃ y : Nat, y = rdB bs (adv bs p) := ⟨_, rfl⟩
       have hyb : y < 256 := by rw [ey]; exact rdB_lt hb _
       obtain ⟨s, es⟩ : ∃ s : Nat, s = y % 64 := ⟨_, rfl⟩
       have hsI : (y : Int) % 64 = (s : Int) := by omega
       have hsb : s < 64 := by omega
       obtain ⟨t, et⟩ : ∃ t : Nat, t = 2 ^ s := ⟨_, rfl⟩
       have hwt : IntKind.u64.wrap ((2 : Int) ^ s) = (t : Int) := by
        have h1 : 2 ^ s < 2 ^ 64 := Nat.pow_lt_pow_right (by omega) hsb
        have h2 : ((2 : Int) ^ s) = ((2 ^ s : Nat) : Int) := by simp
        rw [h2, wrapU, Nat.mod_eq_of_lt (by omega), et]
       have EY := hid ey; have ES := hid es; have ET := hid et
       clear ey es et
       go_wp2_with fail
       refine (next_any g ao n c (adv bs p) bs _ hl hn hle1 hR1 (hb.grown hg1 hsep) y EY.out).mono ?_
       rintro e w2 ⟨rfl, hR2, hg2⟩
       have hown := own_grown hown hg2 hgw
       have hg2w := grown_trans hg1 hg2
       clear hR1 hg1 hg2
       go_wp2_with (at_builtin; refine wpList_append_own _ rfl _ _ 23 rfl w.heap.size 26 i0 (.int .u64 0) 1 8 Tryd.underlying23 hi0 hz0 hz1 hz2 rfl (by decide) _ _ _ rfl (hown.alloc _) ⟨w2.heap.size, 0, none⟩ 1 1 (U [t]) rfl rfl ?c1 ?c2 ?c3 ?c4 ?c5 ?_)
       case c1 =>
        intro j u hj
        match j, hj with
        | 0, hj => simp [U] at hj; subst hj; simp [Addr.add]
       case c2 => exact U_one _
       case c3 => unfold maxLen; omega
       case c4 => omega
       case c5 => have := hg2w.size; simp; omega
       intro v' w9 hown' hgrow hnn
       clear hnn
       have hg9 : w.grownBy w9 (some g) := grown_own hg2w hgrow (fun k' hk' => (hown.lt k' hk').1)
       have hR9 : IsRdr w9 g ao n c (adv bs (adv bs p)) := isRdr_own hR2 hgrow (fun k' hk' => (hown.lt k' hk').1) hgw
       clear hown hgrow
       have HO9 := hid hown'; have HG9 := hid hg9; have HR9 := hid hR9
       clear hown' hg9 hR9
       go_wp2_with fail
       go_roundw
       case rel =>
        have R : ∃ k1 : Nat, k1 ≤ N ∧ Value.int .i64 ((N : Int) - (k : Int) - 1) = .int .i64 ((N : Int) - (k1 : Int)) ∧ w9.ownsRow w.heap.size 26 1 v' k1 (U (limbsK bs i k1).1) ∧ IsRdr w9 g ao n c (limbsK bs i k1).2 ∧ w.grownBy w9 (some g) := by
         refine ⟨k + 1, by omega, by go_num, ?_, ?_, HG9.out⟩
         · simp only [limbsK]; rw [U_append, ← EP.out, show (limb1 bs p).1 = t from by rw [(limb1_3 bs p x EX.out h6).1, ET.out, ES.out, EY.out]]; exact HO9.out
         · simp only [limbsK]; rw [← EP.out, show (limb1 bs p).2 = adv bs (adv bs p) from (limb1_3 bs p x EX.out h6).2]; exact HR9.out
        first | exact R | ((repeat apply Exists.intro); exact ⟨R, rfl⟩)
       case measure => simp [intOf]; omega
     · have e0 : ((x : Int) % 6 == 0) = false := by simp; omega
       have e1 : ((x : Int) % 6 == 1) = false := by simp; omega
       have e2 : ((x : Int) % 6 == 2) = false := by simp; omega
       have e3 : ((x : Int) % 6 == 3) = false := by simp; omega
       have hle1 := adv_le bs p n hl hle
       obtain ⟨y, ey⟩ : ∃ y : Nat, y = (wideK bs (adv bs p) 8).1 := ⟨_, rfl⟩
       obtain ⟨q, eq⟩ : ∃ q : Nat, q = (wideK bs (adv bs p) 8).2 := ⟨_, rfl⟩
       have EY := hid ey; have EQ := hid eq
       clear ey eq
       go_wp2_with fail
       refine (wide_any g ao n c (adv bs p) bs _ hl hn hle1 hR1 (hb.grown hg1 hsep) hsep y q EY.out EQ.out).mono ?_
       rintro e w2 ⟨rfl, hR2, hg2⟩
       have hown := own_grown hown hg2 hgw
       have hg2w := grown_trans hg1 hg2
       clear hR1 hg1 hg2
       go_wp2_with (at_builtin; refine wpList_append_own _ rfl _ _ 23 rfl w.heap.size 26 i0 (.int .u64 0) 1 8 Tryd.underlying23 hi0 hz0 hz1 hz2 rfl (by decide) _ _ _ rfl (hown.alloc _) ⟨w2.heap.size, 0, none⟩ 1 1 (U [y]) rfl rfl ?c1 ?c2 ?c3 ?c4 ?c5 ?_)
       case c1 =>
        intro j u hj
        match j, hj with
        | 0, hj => simp [U] at hj; subst hj; simp [Addr.add]
       case c2 => exact U_one _
       case c3 => unfold maxLen; omega
       case c4 => omega
       case c5 => have := hg2w.size; simp; omega
       intro v' w9 hown' hgrow hnn
       clear hnn
       have hg9 : w.grownBy w9 (some g) := grown_own hg2w hgrow (fun k' hk' => (hown.lt k' hk').1)
       have hR9 : IsRdr w9 g ao n c q := isRdr_own hR2 hgrow (fun k' hk' => (hown.lt k' hk').1) hgw
       clear hown hgrow
       have HO9 := hid hown'; have HG9 := hid hg9; have HR9 := hid hR9
       clear hown' hg9 hR9
       go_wp2_with fail
       go_roundw
       case rel =>
        have R : ∃ k1 : Nat, k1 ≤ N ∧ Value.int .i64 ((N : Int) - (k : Int) - 1) = .int .i64 ((N : Int) - (k1 : Int)) ∧ w9.ownsRow w.heap.size 26 1 v' k1 (U (limbsK bs i k1).1) ∧ IsRdr w9 g ao n c (limbsK bs i k1).2 ∧ w.grownBy w9 (some g) := by
         refine ⟨k + 1, by omega, by go_num, ?_, ?_, HG9.out⟩
         · simp only [limbsK]; rw [U_append, ← EP.out, show (limb1 bs p).1 = y from by rw [(limb1_4 bs p x EX.out h6).1, EY.out]]; exact HO9.out
         · simp only [limbsK]; rw [← EP.out, show (limb1 bs p).2 = q from by rw [(limb1_4 bs p x EX.out h6).2, EQ.out]]; exact HR9.out
        first | exact R | ((repeat apply Exists.intro); exact ⟨R, rfl⟩)
       case measure => simp [intOf]; omega
   · have ek : k = N := by omega
     subst ek
     have hlt' : ¬ (0 : Int) < (k : Int) - (k : Int) := by omega
     obtain ⟨wo, hwo⟩ : ∃ wo : World, wo = wr := ⟨_, rfl⟩
     rw [← hwo] at hown hRk hg ⊢
     clear hwo
     have hlk := limbsK_len bs i k
     have hlek := limbsK_le bs i n hl hile k
     by_cases h255 : K = 255
     · have ht : ((K : Int) == 255) = true := by simp; omega
       have hA := HA.out
       rw [if_pos h255] at hA
       have HA2 := hid hA
       clear hA h255
       have HO := hid hown; have HRk := hid hRk; have HG := hid hg
       clear hown hRk hg
       go_wp2_with fail
       go_loopw [5] (fun v wr => ∃ (f : Nat) (s : List Nat × Nat), 1202 ≤ s.1.length + f ∧ s.1.length ≤ 1201 ∧ s.2 ≤ n ∧ fillK bs f s = limbsAll bs i0' ∧ wr.ownsRow w.heap.size 26 1 v s.1.length (U s.1) ∧ IsRdr wr g ao n c s.2 ∧ w.grownBy wr (some g)) (fun v _ => 1300 - lenOf v)
       case atStart =>
        refine ⟨1300, limbsK bs i k, by omega, by omega, hlek, HA2.out.symm, ?_, HRk.out, HG.out⟩
        rw [hlk]; exact HO.out
       case round =>
        clear HO HRk HG
        obtain ⟨f, s, hsf, hs2, hsn, hfl, hown, hRk, hg⟩ := hrel
        obtain ⟨f, rfl⟩ : ∃ f', f = f' + 1 := ⟨f - 1, by omega⟩
        obtain ⟨so, sc, hv⟩ := own_shape hown
        rw [hv]
        rw [hv] at hown
        clear hv
        obtain ⟨x, ex⟩ : ∃ x : Nat, x = rdB bs s.2 := ⟨_, rfl⟩
        have hxb : x < 256 := by rw [ex]; exact rdB_lt hb _
        simp only [fillK] at hfl
        rw [← ex] at hfl
        have EX := hid ex; have HFL := hid hfl
        clear ex hfl
        obtain ⟨m, em⟩ : ∃ m : Nat, m = s.1.length := ⟨_, rfl⟩
        rw [← em] at hsf hs2 hown ⊢
        have EM := hid em; clear em
        go_wp2_with fail
        refine (next_any g ao n c s.2 bs _ hl hn hsn hRk (hb.grown hg hsep) x EX.out).mono ?_
        rintro e w1 ⟨rfl, hR1, hg1'⟩
        have hown := own_grown hown hg1' hgw
        have hg1 := grown_trans hg hg1'
        clear hRk hg hg1'
        by_cases hlt2 : m < 1200 + x % 2
        · have hlt3 : (m : Int) < 1200 + (x : Int) % 2 := by omega
          go_wp2_with (at_builtin; refine wpList_append_own _ rfl _ _ 23 rfl w.heap.size 26 i0 (.int .u64 0) 1 8 Tryd.underlying23 hi0 hz0 hz1 hz2 rfl (by decide) _ _ _ rfl (hown.alloc _) ⟨w1.heap.size, 0, none⟩ 1 1 (U [m]) rfl rfl ?c1 ?c2 ?c3 ?c4 ?c5 ?_)
          case c1 =>
           intro j u hj
           match j, hj with
           | 0, hj => simp [U] at hj; subst hj; simp [Addr.add]
          case c2 => exact U_one _
          case c3 => unfold maxLen; omega
          case c4 => omega
          case c5 => have := hg1.size; simp; omega
          intro v' w9 hown' hgrow hnn
          clear hnn
          have hg9 : w.grownBy w9 (some g) := grown_own hg1 hgrow (fun k' hk' => (hown.lt k' hk').1)
          have hR9 : IsRdr w9 g ao n c (adv bs s.2) := isRdr_own hR1 hgrow (fun k' hk' => (hown.lt k' hk').1) hgw
          clear hown hgrow
          have HO9 := hid hown'; have HG9 := hid hg9; have HR9 := hid hR9
          clear hown' hg9 hR9
          obtain ⟨vo, vc, hv9⟩ := own_shape HO9.out
          have HV9 := hid hv9; clear hv9
          go_wp2_with fail
          go_roundw
          case rel =>
           have R : ∃ (f1 : Nat) (s1 : List Nat × Nat), 1202 ≤ s1.1.length + f1 ∧ s1.1.length ≤ 1201 ∧ s1.2 ≤ n ∧ fillK bs f1 s1 = limbsAll bs i0' ∧ w9.ownsRow w.heap.size 26 1 v' s1.1.length (U s1.1) ∧ IsRdr w9 g ao n c s1.2 ∧ w.grownBy w9 (some g) := by
            refine ⟨f, (s.1 ++ [s.1.length], adv bs s.2), by have := EM.out; simp; omega, by have := EM.out; simp; omega, adv_le bs _ n hl hsn, ?_, ?_, HR9.out, HG9.out⟩
            · have h1 := HFL.out
              rw [if_pos (by rw [← EM.out]; exact hlt2)] at h1
              exact h1
            · show w9.ownsRow w.heap.size 26 1 v' (s.1 ++ [s.1.length]).length (U (s.1 ++ [s.1.length]))
              rw [U_append, List.length_append, ← EM.out]; exact HO9.out
           first | exact R | ((repeat apply Exists.intro); exact ⟨R, rfl⟩)
          case measure => rw [HV9.out]; simp [lenOf]; omega
        · have hlt3 : ¬ (m : Int) < 1200 + (x : Int) % 2 := by omega
          have hres : limbsAll bs i0' = (s.1, adv bs s.2) := by
           have h1 := HFL.out
           rw [if_neg (by rw [← EM.out]; exact hlt2)] at h1
           exact h1.symm
          have HRES := hid hres; clear hres
          have HO := hid hown; have HR1 := hid hR1; have HG1 := hid hg1
          clear hown hR1 hg1
          go_wp2_with fail
          go_ret
          rw [HRES.out, ← EM.out]
          exact ⟨so, sc, rfl, HO.out, HR1.out, HG1.out⟩
     · have ht : ((K : Int) == 255) = false := by simp; omega
       have hA := HA.out
       rw [if_neg h255] at hA
       have HA2 := hid hA
       clear hA h255
       obtain ⟨so, sc, hv⟩ := own_shape hown
       rw [hv]
       rw [hv] at hown
       clear hv
       have HO := hid hown; have HRk := hid hRk; have HG := hid hg
       clear hown hRk hg
       go_wp2_with fail
       go_ret
       rw [HA2.out, hlk]
       exact ⟨so, sc, rfl, HO.out, HRk.out, HG.out⟩

end Go.Proofs.YtogkkecnmlnajaaDoor
