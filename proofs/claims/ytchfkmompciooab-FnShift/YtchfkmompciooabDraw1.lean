/-
  What the model's reader draws: plain functions, and the walks of 'next' and 'wide'.
-/
import Derived.Test.YtchfkmompciooabCom
import Derived.Test.YtchfkmompciooabW6
import Derived.Test.YtchfkmompciooabW8a
import Derived.Test.YtchfkmompciooabByt
namespace Go.Proofs.Ytchfkmompciooab
open Go.RowKit
set_option linter.unusedVariables false

/-- The reader in block g: the bytes, the place. -/
def IsRdr (w : World) (g : Nat) (ao : Option Addr) (n c i : Nat) : Prop := w.heap[g]? = some (.cells #[.slice ao n c, .int .i64 (i : Int)] 49 (0, 0))

theorem IsRdr.lt {w : World} {g : Nat} {ao : Option Addr} {n c i : Nat} (h : IsRdr w g ao n c i) : g < w.heap.size := (Array.getElem?_eq_some_iff.1 h).1
theorem IsRdr.c0 {w : World} {g : Nat} {ao : Option Addr} {n c i : Nat} (h : IsRdr w g ao n c i) : w.cell? ⟨g, 0, none⟩ = some (.slice ao n c) := by
  rw [cell_of_row w g 0 _ _ (0, 0) h]; rfl
theorem IsRdr.c1 {w : World} {g : Nat} {ao : Option Addr} {n c i : Nat} (h : IsRdr w g ao n c i) : w.cell? ⟨g, 1, none⟩ = some (.int .i64 (i : Int)) := by
  rw [cell_of_row w g 1 _ _ (0, 0) h]; rfl
theorem IsRdr.f1 {w : World} {g : Nat} {ao : Option Addr} {n c i : Nat} (h : IsRdr w g ao n c i) : w.frozen? ⟨g, 1, none⟩ = false := frozen_of_row w g 1 _ _ h
theorem IsRdr.set {w : World} {g : Nat} {ao : Option Addr} {n c i : Nat} (h : IsRdr w g ao n c i) (j : Nat) (v : Int) (hv : v = (j : Int)) : IsRdr (w.setCell ⟨g, 1, none⟩ (.int .i64 v)) g ao n c j := by
  subst hv
  unfold IsRdr
  rw [heap_setCell_same w g 1 _ _ _ h]
  rfl
theorem IsRdr.drewN {w : World} {g : Nat} {ao : Option Addr} {n c i : Nat} (h : IsRdr w g ao n c i) (q : Nat) : IsRdr (w.drewN q) g ao n c i := h
theorem IsRdr.keep {w w' : World} {g : Nat} {ao : Option Addr} {n c i : Nat} (h : IsRdr w g ao n c i) (hb : Below w.heap.size w w') : IsRdr w' g ao n c i := (hb.block g h.lt).trans h
theorem IsRdr.grown {w w' : World} {g : Nat} {ao : Option Addr} {n c i : Nat} {row : Option Nat} (h : IsRdr w g ao n c i) (hb : w.grownBy w' row) (hr : some g ≠ row) : IsRdr w' g ao n c i := (hb.block g h.lt hr).trans h

set_option maxHeartbeats 400000 in
theorem next_any (g : Nat) (ao : Option Addr) (n c i : Nat) (bs : List Nat) (w : World) (hl : bs.length = n) (hn : n ≤ 1048576) (hi : i ≤ n) (hR : IsRdr w g ao n c i) (hb : RdB w ao bs) (x : Nat) (hx : x = rdB bs i) :
    Calls Try.prog 39 #[.pointer (some ⟨g, 0, none⟩)] w fun e w' => e = .returned (.int .i64 (x : Int)) ∧ IsRdr w' g ao n c (adv bs i) ∧ w.grownBy w' (some g) := by
  have h0 := hR.c0
  have h1 := hR.c1
  have hf := hR.f1
  by_cases hlt : i < n
  · have ha : adv bs i = i + 1 := by unfold adv; rw [if_pos (by omega)]
    rw [ha]
    obtain ⟨b, off, hao, hcl⟩ := hb.2 (by omega)
    have hck := hcl i (by omega)
    rw [show bs.getD i 0 = x from hx.symm] at hck
    have hx1 : x < 256 := by rw [hx]; exact rdB_lt hb i
    clear hcl
    have HX := hid hx; clear hx ha
    have hge : ¬ (n : Int) ≤ (i : Int) := by omega
    have hlt' : (i : Int) < (n : Int) := by omega
    have HR := hid hR; clear hR
    go_enter Try.func39, Try.ntmps39
    go_wp2
    go_quiet (fail)
    go_wp2
    generalize hwy : w.drewN nq = wy
    have hR1 : IsRdr wy g ao n c i := by rw [← hwy]; exact HR.out
    have h0' := hR1.c0
    have h1' := hR1.c1
    have hck' : wy.cell? ⟨b, off + i, none⟩ = some (.int .u8 (x : Int)) := by rw [← hwy]; exact hck
    have hgy : w.grownBy wy (some g) := by rw [← hwy]; exact grown_drewN _ _ _
    have HR1 := hid hR1
    have HGY := hid hgy
    clear hwy h0 h1 hck hR1 hgy hf HR
    go_quiet (fail)
    generalize hwz : wy.drewN nq = wz
    have hR2 : IsRdr wz g ao n c i := by rw [← hwz]; exact HR1.out
    have h1'' := hR2.c1
    have hf'' := hR2.f1
    have hgz : w.grownBy wz (some g) := by rw [← hwz]; exact grown_trans HGY.out (grown_drewN _ _ _)
    have HR2 := hid hR2
    have HGZ := hid hgz
    clear hwz h0' h1' hck' hR2 hgz
    go_wp2
    go_ret
    exact ⟨rfl, HR2.out.set (i + 1) _ (by omega), grown_trans HGZ.out (grown_setCell _ _ _ _)⟩
  · have ha : adv bs i = i := by unfold adv; rw [if_neg (by omega)]
    have hx0 : x = 0 := by rw [hx]; unfold rdB; exact getD_big _ _ (by omega)
    rw [ha]
    subst hx0
    clear hx ha
    have hge : (n : Int) ≤ (i : Int) := by omega
    have HR := hid hR; clear hR
    go_enter Try.func39, Try.ntmps39
    go_wp2
    go_quiet (fail)
    go_wp2
    go_ret
    exact ⟨rfl, HR.out.drewN _, grown_drewN _ _ _⟩

/-- What 'wide' reads in k bytes: the number so far, the place. -/
def wideK (bs : List Nat) (i : Nat) : Nat → Nat × Nat
  | 0 => (0, i)
  | k + 1 => ((wideK bs i k).1 * 256 + rdB bs (wideK bs i k).2, adv bs (wideK bs i k).2)

theorem wideK_le (bs : List Nat) (i n : Nat) (hl : bs.length = n) (hi : i ≤ n) (k : Nat) : (wideK bs i k).2 ≤ n := by
  induction k with
  | zero => exact hi
  | succ k ih => simp only [wideK, adv]; split <;> omega

theorem wideK_lt (bs : List Nat) (i : Nat) (hb : ∀ x ∈ bs, x < 256) (k : Nat) : (wideK bs i k).1 < 256 ^ k := by
  induction k with
  | zero => simp [wideK]
  | succ k ih =>
    simp only [wideK, Nat.pow_succ]
    have : rdB bs (wideK bs i k).2 < 256 := M.getD_lt (by omega) hb _
    omega

set_option maxHeartbeats 400000 in
theorem wide_any (g : Nat) (ao : Option Addr) (n c i : Nat) (bs : List Nat) (w : World) (hl : bs.length = n) (hn : n ≤ 1048576) (hi : i ≤ n) (hR : IsRdr w g ao n c i) (hb : RdB w ao bs) (hsep : 0 < bs.length → ∀ b2 o2, ao = some ⟨b2, o2, none⟩ → b2 ≠ g) (x j : Nat) (hx : x = (wideK bs i 8).1) (hj : j = (wideK bs i 8).2) :
    Calls Try.prog 40 #[.pointer (some ⟨g, 0, none⟩)] w fun e w' => e = .returned (.int .u64 (x : Int)) ∧ IsRdr w' g ao n c j ∧ w.grownBy w' (some g) := by
  have HX := hid hx; have HJ := hid hj
  clear hx hj
  go_enter Try.func40, Try.ntmps40
  go_wp2
  go_loopw [3, 4] (fun v q wr => ∃ k : Nat, k ≤ 8 ∧ q = .int .i64 k ∧ v = .int .u64 ((wideK bs i k).1 : Int) ∧ IsRdr wr g ao n c (wideK bs i k).2 ∧ w.grownBy wr (some g)) (fun _ q _ => 8 - (intOf q).toNat)
  case atStart => exact ⟨0, by omega, rfl, rfl, hR, World.grownBy.refl _ _⟩
  case round =>
    obtain ⟨k, hk, rfl, rfl, hRk, hg⟩ := hrel
    by_cases hlt : k < 8
    · have hlt' : (k : Int) < 8 := by omega
      have hle := wideK_le bs i n hl hi k
      have hxl := wideK_lt bs i hb.1 k
      have hp : 256 ^ k ≤ 256 ^ 7 := Nat.pow_le_pow_right (by omega) (by omega)
      obtain ⟨y, ey⟩ : ∃ y : Nat, y = (wideK bs i k).1 := ⟨_, rfl⟩
      obtain ⟨p, ep⟩ : ∃ p : Nat, p = (wideK bs i k).2 := ⟨_, rfl⟩
      rw [← ey] at hxl ⊢
      rw [← ep] at hRk hle
      obtain ⟨z, ez⟩ : ∃ z : Nat, z = rdB bs p := ⟨_, rfl⟩
      have hzb : z < 256 := by rw [ez]; exact rdB_lt hb p
      have hyb : y < 72057594037927936 := by omega
      have hor : bits BinOp.or IntKind.u64 ((y : Int) * 256) (z : Int) = ((y * 256 + z : Nat) : Int) := by
        have h1 := or_nat z y 8 (by omega)
        have e : (y : Int) * 256 = ((y * 256 : Nat) : Int) := by omega
        rw [e, u64_or_nat _ _ (by omega) (by omega), Nat.or_comm]
        rw [show (2 : Nat) ^ 8 = 256 from rfl] at h1
        rw [h1, Nat.add_comm]
      obtain ⟨t, et⟩ : ∃ t : Nat, t = y * 256 + z := ⟨_, rfl⟩
      rw [← et] at hor
      have EY := hid ey; have EP := hid ep; have EZ := hid ez; have ET := hid et
      clear ey ep ez et hxl hp
      go_wp2_with fail
      refine (next_any g ao n c p bs _ hl hn hle hRk (hb.grown hg hsep) z EZ.out).mono ?_
      rintro e w1 ⟨rfl, hR1, hg1⟩
      have hgw := grown_trans hg hg1
      clear hRk hg hg1
      have HR1 := hid hR1; have HG := hid hgw
      clear hR1 hgw
      go_wp2_with fail
      go_roundw
      case rel =>
        have R : ∃ k1 : Nat, k1 ≤ 8 ∧ Value.int .i64 ((k : Int) + 1) = .int .i64 k1 ∧ Value.int .u64 (t : Int) = .int .u64 ((wideK bs i k1).1 : Int) ∧ IsRdr w1 g ao n c (wideK bs i k1).2 ∧ w.grownBy w1 (some g) := by
          refine ⟨k + 1, by omega, by go_num, ?_, ?_, HG.out⟩
          · rw [ET.out, EZ.out]; simp only [wideK]; rw [← EY.out, ← EP.out]
          · simp only [wideK]; rw [← EP.out]; exact HR1.out
        first | exact R | ((repeat apply Exists.intro); exact ⟨R, rfl⟩)
      case measure => simp [intOf]; omega
    · have e : k = 8 := by omega
      subst e
      have hlt' : ¬ ((8 : Nat) : Int) < 8 := by omega
      rw [← HX.out]
      rw [← HJ.out] at hRk
      have HR := hid hRk; have HG := hid hg
      clear hRk hg
      go_wp2_with fail
      go_ret
      exact ⟨rfl, HR.out, HG.out⟩

end Go.Proofs.Ytchfkmompciooab
