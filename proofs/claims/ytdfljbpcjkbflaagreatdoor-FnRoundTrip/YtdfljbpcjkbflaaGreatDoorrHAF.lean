import Derived.Test.YtdfljbpcjkbflaaGreatDoorrHAD
set_option maxHeartbeats 1000000
namespace Go.Proofs.YtdfljbpcjkbflaaGreatDoor
open Go.RowKit
set_option linter.unusedVariables false
set_option maxRecDepth 100000
def rdB (bs : List Nat) (i : Nat) : Nat := bs.getD i 0

def adv (bs : List Nat) (i : Nat) : Nat := if i < bs.length then i + 1 else i

def RdB (w : World) (ao : Option Addr) (bs : List Nat) : Prop :=
 (∀ x ∈ bs, x < 256) ∧ (0 < bs.length → ∃ b off, ao = some ⟨b, off, none⟩ ∧ ∀ i, i < bs.length → w.cell? ⟨b, off + i, none⟩ = some (.int .u8 ((bs.getD i 0 : Nat) : Int)))

theorem RdB.below {w w' : World} {ao : Option Addr} {xs : List Nat} (h : RdB w ao xs) (hb : Below w.heap.size w w') : RdB w' ao xs := by
 refine ⟨h.1, fun hp => ?_⟩
 obtain ⟨b, off, e, hc⟩ := h.2 hp
 refine ⟨b, off, e, fun i hi => ?_⟩
 exact (hb.cell (p := ⟨b, off + i, none⟩) (World.block_lt_of_cell? w _ (hc i hi))).trans (hc i hi)

theorem wS {w : World} {ao : Option Addr} {bs : List Nat} (h : RdB w ao bs) (i : Nat) : rdB bs i < 256 := M.bK (by omega) h.1 i

theorem RdB.grown {w w' : World} {ao : Option Addr} {bs : List Nat} {g : Nat} (h : RdB w ao bs) (hg : w.grownBy w' (some g)) (hsep : 0 < bs.length → ∀ b2 o2, ao = some ⟨b2, o2, none⟩ → b2 ≠ g) : RdB w' ao bs := by
 refine ⟨h.1, fun hp => ?_⟩
 obtain ⟨b, off, e, hc⟩ := h.2 hp
 exact ⟨b, off, e, fun i hi => hg.cell (hc i hi) (by simpa using hsep hp b off e)⟩

def InB (w : World) (a : Option Addr) (len cap : Nat) (bs : List Nat) : Prop := bs.length = len ∧ len ≤ cap ∧ RdB w a bs

def Cls (v : World) (g : Nat) (xs : Array Value) (t : TypeId) : Prop := v.heap[g]? = some (.cells xs t (0, 0))

theorem Cls.lt {v : World} {g : Nat} {xs : Array Value} {t : TypeId} (h : Cls v g xs t) : g < v.heap.size := (Array.getElem?_eq_some_iff.1 h).1

theorem Cls.new (v : World) (xs : Array Value) (t : TypeId) : Cls (v.alloc (.cells xs t)) v.heap.size xs t := heap_alloc_new v _

theorem Cls.cell {v : World} {g : Nat} {xs : Array Value} {t : TypeId} (h : Cls v g xs t) (i : Nat) {x : Value} (hx : xs[i]? = some x) : v.cell? ⟨g, i, none⟩ = some x := by
 rw [cell_of_row v g i _ _ (0, 0) h, hx]

theorem Cls.frozen {v : World} {g : Nat} {xs : Array Value} {t : TypeId} (h : Cls v g xs t) (i : Nat) : v.frozen? ⟨g, i, none⟩ = false := frozen_of_row v g i _ _ h

theorem Cls.below {v v' : World} {g : Nat} {xs : Array Value} {t : TypeId} (h : Cls v g xs t) (hb : Below v.heap.size v v') : Cls v' g xs t := (hb.block g h.lt).trans h

theorem Cls.grown {v v' : World} {g : Nat} {xs : Array Value} {t : TypeId} {row : Option Nat} (h : Cls v g xs t) (hg : v.grownBy v' row) (hr : some g ≠ row) : Cls v' g xs t := (hg.block g h.lt hr).trans h

theorem Cls.set {v : World} {g : Nat} {xs : Array Value} {t : TypeId} (h : Cls v g xs t) (i : Nat) (x : Value) (ys : Array Value) (hy : xs.setIfInBounds i x = ys) : Cls (v.setCell ⟨g, i, none⟩ x) g ys t := by
 subst hy
 unfold Cls
 rw [heap_setCell_same v g i _ _ _ h]

theorem Cls.far {v : World} {g : Nat} {xs : Array Value} {t : TypeId} (h : Cls v g xs t) (a : Addr) (ha : a.block ≠ g) (x : Value) : Cls (v.setCell a x) g xs t := by
 unfold Cls
 rw [Below.heap_setCell _ _ _ _ (fun e => ha e.symm)]; exact h

def IsRdr (w : World) (g : Nat) (ao : Option Addr) (n c i : Nat) : Prop := w.heap[g]? = some (.cells #[.slice ao n c, .int .i64 (i : Int)] 65 (0, 0))

theorem IsRdr.lt {w : World} {g : Nat} {ao : Option Addr} {n c i : Nat} (h : IsRdr w g ao n c i) : g < w.heap.size := (Array.getElem?_eq_some_iff.1 h).1

theorem IsRdr.c0 {w : World} {g : Nat} {ao : Option Addr} {n c i : Nat} (h : IsRdr w g ao n c i) : w.cell? ⟨g, 0, none⟩ = some (.slice ao n c) := by
 rw [cell_of_row w g 0 _ _ (0, 0) h]; rfl

theorem IsRdr.c1 {w : World} {g : Nat} {ao : Option Addr} {n c i : Nat} (h : IsRdr w g ao n c i) : w.cell? ⟨g, 1, none⟩ = some (.int .i64 (i : Int)) := by
 rw [cell_of_row w g 1 _ _ (0, 0) h]; rfl

theorem IsRdr.f1 {w : World} {g : Nat} {ao : Option Addr} {n c i : Nat} (h : IsRdr w g ao n c i) : w.frozen? ⟨g, 1, none⟩ = false := frozen_of_row w g 1 _ _ h

theorem IsRdr.set {w : World} {g : Nat} {ao : Option Addr} {n c i : Nat} (h : IsRdr w g ao n c i) (j : Nat) (v : Int) (hv : v = (j : Int)) : IsRdr (w.setCell ⟨g, 1, none⟩ (.int .i64 v)) g ao n c j := by
 subst hv
 unfold IsRdr
 rw [heap_setCell_same w g 1 _ _ _ h]
 rfl

theorem IsRdr.drewN {w : World} {g : Nat} {ao : Option Addr} {n c i : Nat} (h : IsRdr w g ao n c i) (q : Nat) : IsRdr (w.drewN q) g ao n c i := h

theorem tV (g : Nat) (ao : Option Addr) (n c i : Nat) (bs : List Nat) (w : World) (hl : bs.length = n) (hn : n ≤ 1048576) (hi : i ≤ n) (hR : IsRdr w g ao n c i) (hb : RdB w ao bs) (x : Nat) (hx : x = rdB bs i) :
 Calls Tryz.prog 60 #[.pointer (some ⟨g, 0, none⟩)] w fun e w' => e = .returned (.int .i64 (x : Int)) ∧ IsRdr w' g ao n c (adv bs i) ∧ w.grownBy w' (some g) := by
 have h0 := hR.c0
 have h1 := hR.c1
 have hf := hR.f1
 by_cases hlt : i < n
 · have ha : adv bs i = i + 1 := by unfold adv; rw [if_pos (by omega)]
   rw [ha]
   obtain ⟨b, off, hao, hcl⟩ := hb.2 (by omega)
   have hck := hcl i (by omega)
   rw [show bs.getD i 0 = x from hx.symm] at hck
   have hx1 : x < 256 := by rw [hx]; exact wS hb i
   clear hcl
   have HX := hid hx; clear hx ha
   have hge : ¬ (n : Int) ≤ (i : Int) := by omega
   have hlt' : (i : Int) < (n : Int) := by omega
   have HR := hid hR; clear hR
   go_enter Tryz.func60, Tryz.ntmps60
   go_wp2
   go_quiet (fail)
   go_wp2
   generalize hwy : w.drewN nq = wy
   have hR1 : IsRdr wy g ao n c i := by rw [← hwy]; exact HR.out
   have h0' := hR1.c0
   have h1' := hR1.c1
   have hck' : wy.cell? ⟨b, off + i, none⟩ = some (.int .u8 (x : Int)) := by rw [← hwy]; exact hck
   have hgy : w.grownBy wy (some g) := by rw [← hwy]; exact bM _ _ _
   have HR1 := hid hR1
   have HGY := hid hgy
   clear hwy h0 h1 hck hR1 hgy hf HR
   go_quiet (fail)
   generalize hwz : wy.drewN nq = wz
   have hR2 : IsRdr wz g ao n c i := by rw [← hwz]; exact HR1.out
   have h1'' := hR2.c1
   have hf'' := hR2.f1
   have hgz : w.grownBy wz (some g) := by rw [← hwz]; exact aA HGY.out (bM _ _ _)
   have HR2 := hid hR2
   have HGZ := hid hgz
   clear hwz h0' h1' hck' hR2 hgz
   go_wp2
   go_ret
   exact ⟨rfl, HR2.out.set (i + 1) _ (by omega), aA HGZ.out (aE _ _ _ _)⟩
 · have ha : adv bs i = i := by unfold adv; rw [if_neg (by omega)]
   have hx0 : x = 0 := by rw [hx]; unfold rdB; exact gL _ _ (by omega)
   rw [ha]
   subst hx0
   clear hx ha
   have hge : (n : Int) ≤ (i : Int) := by omega
   have HR := hid hR; clear hR
   go_enter Tryz.func60, Tryz.ntmps60
   go_wp2
   go_quiet (fail)
   go_wp2
   go_ret
   exact ⟨rfl, HR.out.drewN _, bM _ _ _⟩

def eF (bs : List Nat) (i : Nat) : Nat → Nat × Nat
 | 0 => (0, i)
 | k + 1 => ((eF bs i k).1 * 256 + rdB bs (eF bs i k).2, adv bs (eF bs i k).2)

theorem uG (bs : List Nat) (i n : Nat) (hl : bs.length = n) (hi : i ≤ n) (k : Nat) : (eF bs i k).2 ≤ n := by
 induction k with
 | zero => exact hi
 | succ k ih => simp only [eF, adv]; split <;> omega

theorem tF (bs : List Nat) (i : Nat) (hb : ∀ x ∈ bs, x < 256) (k : Nat) : (eF bs i k).1 < 256 ^ k := by
 induction k with
 | zero => simp [eF]
 | succ k ih =>
   simp only [eF, Nat.pow_succ]
   have : rdB bs (eF bs i k).2 < 256 := M.bK (by omega) hb _
   omega

theorem DG (g : Nat) (ao : Option Addr) (n c i : Nat) (bs : List Nat) (w : World) (hl : bs.length = n) (hn : n ≤ 1048576) (hi : i ≤ n) (hR : IsRdr w g ao n c i) (hb : RdB w ao bs) (hsep : 0 < bs.length → ∀ b2 o2, ao = some ⟨b2, o2, none⟩ → b2 ≠ g) (x j : Nat) (hx : x = (eF bs i 8).1) (hj : j = (eF bs i 8).2) :
 Calls Tryz.prog 61 #[.pointer (some ⟨g, 0, none⟩)] w fun e w' => e = .returned (.int .u64 (x : Int)) ∧ IsRdr w' g ao n c j ∧ w.grownBy w' (some g) := by
 have HX := hid hx; have HJ := hid hj
 clear hx hj
 go_enter Tryz.func61, Tryz.ntmps61
 go_wp2
 go_loopw [3, 4] (fun v q wr => ∃ k : Nat, k ≤ 8 ∧ q = .int .i64 k ∧ v = .int .u64 ((eF bs i k).1 : Int) ∧ IsRdr wr g ao n c (eF bs i k).2 ∧ w.grownBy wr (some g)) (fun _ q _ => 8 - (intOf q).toNat)
 case atStart => exact ⟨0, by omega, rfl, rfl, hR, World.grownBy.refl _ _⟩
 case round =>
  obtain ⟨k, hk, rfl, rfl, hRk, hg⟩ := hrel
  by_cases hlt : k < 8
  · have hlt' : (k : Int) < 8 := by omega
    have hle := uG bs i n hl hi k
    have hxl := tF bs i hb.1 k
    have hp : 256 ^ k ≤ 256 ^ 7 := Nat.pow_le_pow_right (by omega) (by omega)
    obtain ⟨y, ey⟩ : ∃ y : Nat, y = (eF bs i k).1 := ⟨_, rfl⟩
    obtain ⟨p, ep⟩ : ∃ p : Nat, p = (eF bs i k).2 := ⟨_, rfl⟩
    rw [← ey] at hxl ⊢
    rw [← ep] at hRk hle
    obtain ⟨z, ez⟩ : ∃ z : Nat, z = rdB bs p := ⟨_, rfl⟩
    have hzb : z < 256 := by rw [ez]; exact wS hb p
    have hyb : y < 72057594037927936 := by omega
    have hor : bits BinOp.or IntKind.u64 ((y : Int) * 256) (z : Int) = ((y * 256 + z : Nat) : Int) := by
     have h1 := iG z y 8 (by omega)
     have e : (y : Int) * 256 = ((y * 256 : Nat) : Int) := by omega
     rw [e, u64_or_nat _ _ (by omega) (by omega), Nat.or_comm]
     rw [show (2 : Nat) ^ 8 = 256 from rfl] at h1
     rw [h1, Nat.add_comm]
    obtain ⟨t, et⟩ : ∃ t : Nat, t = y * 256 + z := ⟨_, rfl⟩
    rw [← et] at hor
    have EY := hid ey; have EP := hid ep; have EZ := hid ez; have ET := hid et
    clear ey ep ez et hxl hp
    go_wp2_with fail
    refine (tV g ao n c p bs _ hl hn hle hRk (hb.grown hg hsep) z EZ.out).mono ?_
    rintro e w1 ⟨rfl, hR1, hg1⟩
    have hgw := aA hg hg1
    clear hRk hg hg1
    have HR1 := hid hR1; have HG := hid hgw
    clear hR1 hgw
    go_wp2_with fail
    go_roundw
    case rel =>
     have R : ∃ k1 : Nat, k1 ≤ 8 ∧ Value.int .i64 ((k : Int) + 1) = .int .i64 k1 ∧ Value.int .u64 (t : Int) = .int .u64 ((eF bs i k1).1 : Int) ∧ IsRdr w1 g ao n c (eF bs i k1).2 ∧ w.grownBy w1 (some g) := by
      refine ⟨k + 1, by omega, by go_num, ?_, ?_, HG.out⟩
      · rw [ET.out, EZ.out]; simp only [eF]; rw [← EY.out, ← EP.out]
      · simp only [eF]; rw [← EP.out]; exact HR1.out
     first | exact R | ((repeat apply Exists.intro); exact ⟨R, rfl⟩)
    case measure => simp [intOf]; omega
  · have e : k = 8 := by omega
    subst e
    have hlt' : ¬ ((8 : Nat) : Int) < 8 := by omega
    rw [← HX.out]
    rw [← HJ.out] at hRk
    have HR := hid hRk; have HG := hid hg
    clear hRk hg
    go_wp2_with fail
    go_ret
    exact ⟨rfl, HR.out, HG.out⟩

def Rs (w0 v : World) (ao : Option Addr) (n c : Nat) : Prop := ∃ i, i ≤ n ∧ IsRdr v w0.heap.size ao n c i ∧ Below w0.heap.size w0 v

theorem Rs.keep {w0 v v' : World} {ao : Option Addr} {n c : Nat} (h : Rs w0 v ao n c) (hb : Below v.heap.size v v') : Rs w0 v' ao n c := by
 obtain ⟨i, h1, h2, h3⟩ := h
 exact ⟨i, h1, (hb.block _ h2.lt).trans h2, h3.trans (hb.mono h3.size)⟩

theorem Rs.alloc {w0 v : World} {ao : Option Addr} {n c : Nat} (h : Rs w0 v ao n c) (o : Obj) : Rs w0 (v.alloc o) ao n c := h.keep ((Below.refl _ _).alloc (Nat.le_refl _) _)

theorem Rs.below {w0 v : World} {ao : Option Addr} {n c : Nat} (h : Rs w0 v ao n c) : Below w0.heap.size w0 v := by
 obtain ⟨i, h1, h2, h3⟩ := h; exact h3

theorem Rs.set {w0 v : World} {ao : Option Addr} {n c : Nat} (h : Rs w0 v ao n c) (b i : Nat) (x : Value) (hb : w0.heap.size < b) : Rs w0 (v.setCell ⟨b, i, none⟩ x) ao n c := by
 obtain ⟨j, h1, h2, h3⟩ := h
 refine ⟨j, h1, ?_, h3.setCell (p := ⟨b, i, none⟩) (by simp only; omega) _⟩
 unfold IsRdr
 rw [Below.heap_setCell _ _ _ _ (by simp only; omega)]; exact h2

theorem K7 {w : World} {ao : Option Addr} {bs : List Nat} (h : RdB w ao bs) : 0 < bs.length → ∀ b2 o2, ao = some ⟨b2, o2, none⟩ → b2 ≠ w.heap.size := by
 intro hp b2 o2 e
 obtain ⟨b3, o3, e3, hc⟩ := h.2 hp
 rw [e] at e3
 simp only [Option.some.injEq, Addr.mk.injEq] at e3
 have := World.block_lt_of_cell? w _ (hc 0 hp)
 simp at this
 omega

def Sx (g : Nat) (v v' : World) : Prop := v.heap.size ≤ v'.heap.size ∧ ∀ k, k < v.heap.size → k ≠ g → v'.heap[k]? = v.heap[k]?

theorem Sx.of {g : Nat} {v v' : World} (h : Below v.heap.size v v') : Sx g v v' := ⟨h.size, fun k hk _ => h.block k hk⟩

theorem Sx.grown {g : Nat} {v v' : World} (h : v.grownBy v' (some g)) : Sx g v v' := ⟨h.size, fun k hk hn => h.block k hk (by intro e; injection e with e; exact hn e)⟩

theorem Sx.cls {g b : Nat} {v v' : World} {xs : Array Value} {t : TypeId} (h : Sx g v v') (hc : Cls v b xs t) (hb : b ≠ g) : Cls v' b xs t := (h.2 b hc.lt hb).trans hc

theorem GC (bs : List Nat) (i n : Nat) (hl : bs.length = n) (hi : i ≤ n) : adv bs i ≤ n := by unfold adv; split <;> omega

theorem jQ {w0 v : World} {ao : Option Addr} {n c : Nat} {bs : List Nat} (hl : bs.length = n) (hn : n ≤ 1048576) (hb : RdB w0 ao bs) (h : Rs w0 v ao n c) :
 Calls Tryz.prog 60 #[.pointer (some ⟨w0.heap.size, 0, none⟩)] v fun e v' => ∃ x : Nat, x < 256 ∧ e = .returned (.int .i64 (x : Int)) ∧ Rs w0 v' ao n c ∧ Sx w0.heap.size v v' := by
 obtain ⟨i, h1, h2, h3⟩ := h
 refine (tV w0.heap.size ao n c i bs v hl hn h1 h2 (hb.below h3) _ rfl).mono ?_
 rintro e v' ⟨rfl, hR, hg⟩
 exact ⟨_, wS hb i, rfl, ⟨_, GC bs i n hl h1, hR, h3.grown hg h3.size (fun _ e => by cases e; exact Nat.le_refl _)⟩, Sx.grown hg⟩

theorem mX {w0 v : World} {ao : Option Addr} {n c : Nat} {bs : List Nat} (hl : bs.length = n) (hn : n ≤ 1048576) (hb : RdB w0 ao bs) (h : Rs w0 v ao n c) :
 Calls Tryz.prog 61 #[.pointer (some ⟨w0.heap.size, 0, none⟩)] v fun e v' => ∃ x : Nat, x < 18446744073709551616 ∧ e = .returned (.int .u64 (x : Int)) ∧ Rs w0 v' ao n c ∧ Sx w0.heap.size v v' := by
 obtain ⟨i, h1, h2, h3⟩ := h
 refine (DG w0.heap.size ao n c i bs v hl hn h1 h2 (hb.below h3) (K7 hb) _ _ rfl rfl).mono ?_
 rintro e v' ⟨rfl, hR, hg⟩
 have hlt := tF bs i hb.1 8
 exact ⟨_, by simpa using hlt, rfl, ⟨_, uG bs i n hl h1 8, hR, h3.grown hg h3.size (fun _ e => by cases e; exact Nat.le_refl _)⟩, Sx.grown hg⟩

theorem vO {w0 v : World} {ao : Option Addr} {n c : Nat} {bs : List Nat} (hl : bs.length = n) (hn : n ≤ 1048576) (hb : RdB w0 ao bs) (h : Rs w0 v ao n c) :
 Calls Tryz.prog 29 #[.pointer (some ⟨w0.heap.size, 0, none⟩)] v fun e v' => ∃ f : Int, -4 ≤ f ∧ f ≤ 3 ∧ e = .returned (.int .i64 f) ∧ Rs w0 v' ao n c := by
 go_enter Tryz.func29, Tryz.ntmps29
 go_wp2_with fail
 refine (jQ hl hn hb h).mono ?_
 rintro e v1 ⟨x, hx, rfl, h1, _⟩
 by_cases h8 : 248 ≤ x
 · have h8' : (248 : Int) ≤ (x : Int) := by omega
   go_wp2_with fail
   go_ret
   exact ⟨_, by omega, by omega, rfl, h1⟩
 · have h8' : ¬ (248 : Int) ≤ (x : Int) := by omega
   have e4 : (x : Int).tmod 4 = ((x % 4 : Nat) : Int) := by rw [Int.tmod_eq_emod_of_nonneg (by omega)]; omega
   go_wp2_with fail
   go_ret
   exact ⟨_, by omega, by omega, rfl, h1⟩

structure Bx (w0 v : World) (ao : Option Addr) (n c bR bD bP : Nat) (ds ps : Array Value) : Prop where
 rs : Rs w0 v ao n c
 r : Cls v bR #[.int .u64 0, .int .u64 0] 25
 d : Cls v bD ds 51
 p : Cls v bP ps 35
 s0 : w0.heap.size < bR
 s1 : bR < bD
 s2 : bD < bP

theorem Bx.sx {w0 v v' : World} {ao : Option Addr} {n c bR bD bP : Nat} {ds ps : Array Value} (h : Bx w0 v ao n c bR bD bP ds ps) (hx : Sx w0.heap.size v v') (hr : Rs w0 v' ao n c) : Bx w0 v' ao n c bR bD bP ds ps :=
 ⟨hr, hx.cls h.r (by have := h.s0; omega), hx.cls h.d (by have := h.s0; have := h.s1; omega), hx.cls h.p (by have := h.s0; have := h.s1; have := h.s2; omega), h.s0, h.s1, h.s2⟩

theorem Bx.keep {w0 v v' : World} {ao : Option Addr} {n c bR bD bP : Nat} {ds ps : Array Value} (h : Bx w0 v ao n c bR bD bP ds ps) (hb : Below v.heap.size v v') : Bx w0 v' ao n c bR bD bP ds ps :=
 h.sx (Sx.of hb) (h.rs.keep hb)

theorem Bx.alloc {w0 v : World} {ao : Option Addr} {n c bR bD bP : Nat} {ds ps : Array Value} (h : Bx w0 v ao n c bR bD bP ds ps) (o : Obj) : Bx w0 (v.alloc o) ao n c bR bD bP ds ps := h.keep ((Below.refl _ _).alloc (Nat.le_refl _) _)

theorem Bx.drew {w0 v : World} {ao : Option Addr} {n c bR bD bP : Nat} {ds ps : Array Value} (h : Bx w0 v ao n c bR bD bP ds ps) : Bx w0 v.drew ao n c bR bD bP ds ps := h.keep (Below.refl _ _).drew

theorem Bx.setP {w0 v : World} {ao : Option Addr} {n c bR bD bP : Nat} {ds ps : Array Value} (h : Bx w0 v ao n c bR bD bP ds ps) (i : Nat) (x : Value) (qs : Array Value) (hq : ps.setIfInBounds i x = qs) : Bx w0 (v.setCell ⟨bP, i, none⟩ x) ao n c bR bD bP ds qs :=
 ⟨h.rs.set bP i x (by have := h.s0; have := h.s1; have := h.s2; omega), h.r.far _ (by have := h.s1; have := h.s2; simp only; omega) _, h.d.far _ (by have := h.s2; simp only; omega) _, h.p.set i x qs hq, h.s0, h.s1, h.s2⟩

theorem Rd.sx {g : Nat} {v v' : World} {a : Option Addr} {xs : List Nat} (h : Rd v a xs) (hx : Sx g v v') (hg : ∀ b o, 0 < xs.length → a = some ⟨b, o, none⟩ → b ≠ g) : Rd v' a xs := by
 intro hp
 obtain ⟨b, o, e, hc⟩ := h hp
 refine ⟨b, o, e, fun i hi => ?_⟩
 have hb := hx.2 b (World.block_lt_of_cell? v _ (hc i hi)) (hg b o hp e)
 exact (World.cell?_of_block hb).trans (hc i hi)

structure Nw (w0 v : World) (a : Option Addr) (m c A : Nat) : Prop where
 len : (D A).length = m
 rd : Rd v a (D A)
 far : ∀ b o, 0 < (D A).length → a = some ⟨b, o, none⟩ → b ≠ w0.heap.size

theorem Nw.of {w0 v v' : World} {a : Option Addr} {c A : Nat} (h : v'.ownsRow v.heap.size 23 1 (.slice a (D A).length c) (D A).length (U (D A))) (hw : w0.heap.size < v.heap.size) : Nw w0 v' a (D A).length c A :=
 ⟨rfl, Rd.own h, fun b o hp e => by
   rcases h.2 with ⟨he, h0⟩ | ⟨g, cap', cur, he, hb, _⟩
   · omega
   · simp only [Value.slice.injEq] at he
     rw [e] at he
     simp only [Option.some.injEq, Addr.mk.injEq] at he
     omega⟩

theorem Nw.sx {w0 v v' : World} {a : Option Addr} {m c A : Nat} (h : Nw w0 v a m c A) (hx : Sx w0.heap.size v v') : Nw w0 v' a m c A := ⟨h.len, h.rd.sx hx h.far, h.far⟩

theorem Nw.keep {w0 v v' : World} {a : Option Addr} {m c A : Nat} (h : Nw w0 v a m c A) (hb : Below v.heap.size v v') : Nw w0 v' a m c A := h.sx (Sx.of hb)

theorem Nw.drew {w0 v : World} {a : Option Addr} {m c A : Nat} (h : Nw w0 v a m c A) : Nw w0 v.drew a m c A := h.keep (Below.refl _ _).drew

theorem Rs.lt {w0 v : World} {ao : Option Addr} {n c : Nat} (h : Rs w0 v ao n c) : w0.heap.size < v.heap.size := by
 obtain ⟨i, _, hi, _⟩ := h; exact hi.lt

theorem tT {A : Nat} (h : A < 2 ^ 130) : (D A).length ≤ 6 := fA A (by omega)

theorem inS {w0 : World} (x y : Nat) (u : World) (hx : x < 18446744073709551616) (hy : y < 18446744073709551616) (hw : w0.heap.size < u.heap.size) :
 Calls Tryz.prog 55 #[.slice (some ⟨u.heap.size, 0, none⟩) 2 2] (u.alloc (.cells #[.int .u64 (x : Int), .int .u64 (y : Int)] 23)) fun e u' => ∃ A a m c, A < 2 ^ 128 ∧ e = .returned (.slice a m c) ∧ Nw w0 u' a m c A ∧ Below u.heap.size u u' := by
 have hB : Blk (u.alloc (.cells #[.int .u64 (x : Int), .int .u64 (y : Int)] 23)) u.heap.size [x, y] := heap_alloc_new u _
 have hs : u.heap.size ≤ (u.alloc (.cells #[.int .u64 (x : Int), .int .u64 (y : Int)] 23)).heap.size := by simp
 refine (uV (some ⟨u.heap.size, 0, none⟩) 2 2 [x, y] _ rfl (by omega) (by intro z hz; simp at hz; omega) hB.rd0).mono ?_
 rintro e u' ⟨a, c, rfl, ho, hb⟩
 refine ⟨V [x, y], a, _, c, ?_, rfl, Nw.of ho (by omega), ((Below.refl _ u).alloc (Nat.le_refl _) _).trans (hb.mono hs)⟩
 simp [V, M.val]; omega

theorem IQ {w0 : World} (A : Nat) (E : Int) (a : Option Addr) (m c : Nat) (u : World) (hA : A < 2 ^ 128) (hE1 : 0 ≤ E) (hE2 : E ≤ 1000) (hr : Nw w0 u a m c A) (hw : w0.heap.size < u.heap.size) :
 Calls Tryz.prog 57 #[.slice a m c, .int .i64 E] u fun e u' => ∃ B a' m' c', B < 2 ^ 128 ∧ e = .returned (.slice a' m' c') ∧ Nw w0 u' a' m' c' B ∧ Below u.heap.size u u' := by
 obtain ⟨s, rfl⟩ := Int.eq_ofNat_of_zero_le hE1
 have hl := hr.len
 have h6 := tT (A := A) (by omega)
 refine (gH a m c s A u hl (by omega) (by omega) hr.rd).mono ?_
 rintro e u' ⟨a', c', rfl, ho, hb⟩
 exact ⟨_, a', _, c', Nat.lt_of_le_of_lt (Nat.div_le_self _ _) hA, rfl, Nw.of ho hw, hb⟩

theorem J7 {w0 : World} (A s : Nat) (E : Int) (hE : E = (s : Int)) (a : Option Addr) (m c : Nat) (u : World) (hA : A < 2 ^ 128) (hs : s ≤ 128) (hr : Nw w0 u a m c A) (hw : w0.heap.size < u.heap.size) :
 Calls Tryz.prog 22 #[.slice a m c, .int .i64 E] u fun e u' => ∃ B a' m' c', B < 2 ^ s ∧ e = .returned (.slice a' m' c') ∧ Nw w0 u' a' m' c' B ∧ Below u.heap.size u u' := by
 subst hE
 have hl := hr.len
 have h6 := tT (A := A) (by omega)
 refine (jI a m c s A u hl (by omega) hs hr.rd).mono ?_
 rintro e u' ⟨a', c', rfl, ho, hb⟩
 exact ⟨_, a', _, c', Nat.mod_lt _ (Nat.pow_pos (by omega)), rfl, Nw.of ho hw, hb⟩

theorem JT {w0 : World} (s : Nat) (E : Int) (hE : E = (s : Int)) (u : World) (hs : s ≤ 128) (hw : w0.heap.size < u.heap.size) :
 Calls Tryz.prog 26 #[.int .i64 E] u fun e u' => ∃ a' m' c', e = .returned (.slice a' m' c') ∧ Nw w0 u' a' m' c' (2 ^ s) ∧ Below u.heap.size u u' := by
 subst hE
 refine (jD s u hs).mono ?_
 rintro e u' ⟨a', c', rfl, ho, hb⟩
 exact ⟨a', _, c', rfl, Nw.of ho hw, hb⟩

theorem ofS {w0 : World} (E : Int) (u : World) (hE1 : 0 ≤ E) (hE2 : E ≤ 1000) (hw : w0.heap.size < u.heap.size) :
 Calls Tryz.prog 44 #[.int .u64 E] u fun e u' => ∃ (B : Nat) (a' : Option Addr) (m' c' : Nat), (B : Int) = E ∧ e = .returned (.slice a' m' c') ∧ Nw w0 u' a' m' c' B ∧ Below u.heap.size u u' := by
 obtain ⟨s, rfl⟩ := Int.eq_ofNat_of_zero_le hE1
 refine (dA s u (by omega)).mono ?_
 rintro e u' ⟨a', c', rfl, ho, hb⟩
 exact ⟨s, a', _, c', rfl, rfl, Nw.of ho hw, hb⟩

theorem J4 {w0 : World} (A B : Nat) (a b : Option Addr) (m k c d : Nat) (u : World) (hA : A < 2 ^ 129) (hB : B < 2 ^ 129) (hr : Nw w0 u a m c A) (hr2 : Nw w0 u b k d B) (hw : w0.heap.size < u.heap.size) :
 Calls Tryz.prog 25 #[.slice a m c, .slice b k d] u fun e u' => ∃ a' m' c', e = .returned (.slice a' m' c') ∧ Nw w0 u' a' m' c' (A + B) ∧ Below u.heap.size u u' := by
 have hl := hr.len
 have hl2 := hr2.len
 have h6 := tT (A := A) (by omega)
 have h7 := tT (A := B) (by omega)
 refine (dO a b m k c d A B u hl hl2 (by omega) (by omega) hr.rd hr2.rd).mono ?_
 rintro e u' ⟨a', c', rfl, ho, hb⟩
 exact ⟨a', _, c', rfl, Nw.of ho hw, hb⟩

theorem LJ {w0 : World} (A B : Nat) (a b : Option Addr) (m k c d : Nat) (u : World) (hA : A < 2 ^ 129) (hB : B ≤ A) (hr : Nw w0 u a m c A) (hr2 : Nw w0 u b k d B) (hw : w0.heap.size < u.heap.size) :
 Calls Tryz.prog 56 #[.slice a m c, .slice b k d] u fun e u' => ∃ a' m' c', e = .returned (.slice a' m' c') ∧ Nw w0 u' a' m' c' (A - B) ∧ Below u.heap.size u u' := by
 have hl := hr.len
 have hl2 := hr2.len
 have h6 := tT (A := A) (by omega)
 refine (gP a b m k c d A B u hl hl2 hB (by omega) hr.rd hr2.rd).mono ?_
 rintro e u' ⟨a', c', rfl, ho, hb⟩
 exact ⟨a', _, c', rfl, Nw.of ho hw, hb⟩

theorem EH {w0 : World} (A : Nat) (a : Option Addr) (m c : Nat) (u : World) (hA : A < 2 ^ 128) (hr : Nw w0 u a m c A) :
 Calls Tryz.prog 24 #[.slice a m c] u fun e u' => e = .returned (.agg #[.int .u64 (M.hiN A : Int), .int .u64 (M.loN A : Int)]) ∧ Below u.heap.size u u' := hH a m c A u hr.len hA hr.rd

theorem GY (x y : Nat) (hx : x < 18446744073709551616) (hy : y < 18446744073709551616) : ∃ Y, Y < 2 ^ 128 ∧ M.hiN Y = x ∧ M.loN Y = y :=
 ⟨x * 18446744073709551616 + y, by omega, by unfold M.hiN; omega, by unfold M.loN; omega⟩

theorem al0 (v : World) (o : Obj) : Below v.heap.size v (v.alloc o) := (Below.refl _ _).alloc (Nat.le_refl _) _

end Go.Proofs.YtdfljbpcjkbflaaGreatDoor
