import Derived.Test.YtehplfmnipadmaeZBY
import Derived.Test.YtehplfmnipadmaeCom
import Derived.Test.YtehplfmnipadmaeW8a
import Derived.Test.YtehplfmnipadmaeW6
import Derived.Test.YtehplfmnipadmaeW11
import Derived.Test.YtehplfmnipadmaeW12
import Derived.Test.YtehplfmnipadmaeW17
import Derived.Test.YtehplfmnipadmaeW8
import Derived.Test.YtehplfmnipadmaeCls
import Derived.Deep.CutBlock
import Derived.Deep.DeepCutAuto
import Derived.Deep.RegionHeld3
import Derived.OpenShut
namespace Go.Proofs.Ytehplfmnipadmae
open Go.RowKit
set_option linter.unusedVariables false
set_option maxRecDepth 100000

theorem pw_ten (n : Nat) : 10 ^ (3 * n) ≤ 2 ^ (10 * n) := by
  rw [Nat.pow_mul, Nat.pow_mul]
  exact Nat.pow_le_pow_left (by omega) n

theorem pw_blen (m : Nat) (hm : m ≤ 5200) : blen (10 ^ m) ≤ 17341 := by
  obtain ⟨n, hn⟩ : ∃ n : Nat, n = 1734 := ⟨_, rfl⟩
  have h2 : 10 ^ m ≤ 2 ^ (10 * n) := Nat.le_trans (Nat.pow_le_pow_right (by omega) (by omega)) (pw_ten n)
  have h3 : 10 ^ m < 2 ^ (10 * n + 1) := by
    rw [Nat.pow_succ]
    have : 0 < 2 ^ (10 * n) := Nat.pow_pos (by omega)
    omega
  have := blen_le_of _ _ h3
  omega

theorem tE_bound (k W : Int) (h : -5200 ≤ k ∧ k ≤ 5200 ∧ 1 ≤ W ∧ W ≤ 128) : -20000 ≤ tExp k W ∧ tExp k W ≤ 20000 := by
  unfold tExp
  rcases Int.lt_or_le k 0 with h0 | h0
  · obtain ⟨m, rfl⟩ : ∃ m : Nat, k = -(m : Int) := ⟨(-k).toNat, by omega⟩
    rw [tb_neg m (by omega) (by omega)]
    have := pw_blen m (by omega)
    omega
  · obtain ⟨m, rfl⟩ : ∃ m : Nat, k = (m : Int) := ⟨k.toNat, by omega⟩
    rw [tb_pos m (by omega)]
    have := pw_blen m (by omega)
    omega

theorem tY_gt (k W : Int) : 0 < tY k W := Nat.mul_pos (tDen_gt k) (Nat.pow_pos (by omega))

/-- The top bits are just as many as asked. -/
theorem top_bits (k W : Int) (h : -5200 ≤ k ∧ k ≤ 5200 ∧ 1 ≤ W ∧ W ≤ 128) : 2 ^ (W - 1).toNat ≤ tX k W / tY k W ∧ tX k W / tY k W < 2 ^ W.toNat := by
  have hY := tY_gt k W
  rw [Nat.le_div_iff_mul_le hY, Nat.div_lt_iff_lt_mul hY]
  unfold tX tY
  obtain ⟨v, rfl⟩ : ∃ v : Nat, W = (v : Int) := ⟨W.toNat, by omega⟩
  have ev : ((v : Int) - 1).toNat = v - 1 := by omega
  have ev2 : ((v : Int)).toNat = v := by omega
  rw [ev, ev2]
  rcases Int.lt_or_le k 0 with h0 | h0
  · obtain ⟨m, rfl⟩ : ∃ m : Nat, k = -(m : Int) := ⟨(-k).toNat, by omega⟩
    have hm : 0 < m := by omega
    have hb := blen_pos (10 ^ m) (Nat.pow_pos (by omega))
    have h1 := blen_le (10 ^ m) (Nat.pow_pos (by omega))
    have h1' := lt_blen (10 ^ m)
    have h2 := two_ne_ten (blen (10 ^ m) - 1) m hm
    rw [tNum_neg, tDen_neg]
    unfold tExp
    rw [tb_neg m (by omega) hm]
    generalize blen (10 ^ m) = b at *
    have e1 : (-(-(b : Int) - (v : Int) + 1)).toNat = (b - 1) + v := by omega
    have e2 : (-(b : Int) - (v : Int) + 1).toNat = 0 := by omega
    rw [e1, e2, Nat.one_mul, Nat.pow_zero, Nat.mul_one]
    constructor
    · rw [show b - 1 + v = (v - 1) + b by omega, Nat.pow_add]
      exact Nat.mul_le_mul_left _ (Nat.le_of_lt h1')
    · rw [Nat.pow_add, Nat.mul_comm]
      exact Nat.mul_lt_mul_of_pos_left (by omega) (Nat.pow_pos (by omega))
  · obtain ⟨m, rfl⟩ : ∃ m : Nat, k = (m : Int) := ⟨k.toNat, by omega⟩
    have hb := blen_pos (10 ^ m) (Nat.pow_pos (by omega))
    have h1 := lt_blen (10 ^ m)
    have h1' := blen_le (10 ^ m) (Nat.pow_pos (by omega))
    rw [tNum_pos, tDen_pos]
    unfold tExp
    rw [tb_pos m (by omega)]
    generalize blen (10 ^ m) = b at *
    obtain ⟨p, hp⟩ : ∃ p : Nat, p = (-((b : Int) - 1 - (v : Int) + 1)).toNat := ⟨_, rfl⟩
    obtain ⟨q, hq⟩ : ∃ q : Nat, q = ((b : Int) - 1 - (v : Int) + 1).toNat := ⟨_, rfl⟩
    rw [← hp, ← hq, Nat.one_mul]
    have e1 : b + p = v + q := by omega
    constructor
    · rw [← Nat.pow_add, show v - 1 + q = (b - 1) + p by omega, Nat.pow_add]
      exact Nat.mul_le_mul_right _ h1'
    · rw [← Nat.pow_add, ← e1, Nat.pow_add]
      exact Nat.mul_lt_mul_of_pos_right h1 (Nat.pow_pos (by omega))

/-- The quotient against the number: not above it, equal where nothing is left, the next one above it. -/
theorem pw_le (X Y : Nat) : X / Y * Y ≤ X := Nat.div_mul_le_self X Y
theorem pw_eq (X Y : Nat) : X / Y * Y = X ↔ X % Y = 0 := by
  have h := Nat.div_add_mod X Y
  rw [Nat.mul_comm] at h
  constructor <;> intro q <;> omega
theorem pw_gt (X Y : Nat) (h : 0 < Y) : X < (X / Y + 1) * Y := by
  have := Nat.lt_div_mul_add (a := X) h
  rw [Nat.add_mul, Nat.one_mul]
  exact this

end Go.Proofs.Ytehplfmnipadmae

namespace Go.Proofs.Ytehplfmnipadmae
open Go.RowKit
set_option linter.unusedVariables false
set_option maxRecDepth 100000

/-- The byte at place i, 0 behind the end; the place behind it. -/
def rdB (bs : List Nat) (i : Nat) : Nat := bs.getD i 0
def adv (bs : List Nat) (i : Nat) : Nat := if i < bs.length then i + 1 else i

/-- The bytes of an argument can be read. -/
def RdB (w : World) (ao : Option Addr) (bs : List Nat) : Prop :=
  (∀ x ∈ bs, x < 256) ∧ (0 < bs.length → ∃ b off, ao = some ⟨b, off, none⟩ ∧ ∀ i, i < bs.length → w.cell? ⟨b, off + i, none⟩ = some (.int .u8 ((bs.getD i 0 : Nat) : Int)))

theorem RdB.below {w w' : World} {ao : Option Addr} {xs : List Nat} (h : RdB w ao xs) (hb : Below w.heap.size w w') : RdB w' ao xs := by
  refine ⟨h.1, fun hp => ?_⟩
  obtain ⟨b, off, e, hc⟩ := h.2 hp
  refine ⟨b, off, e, fun i hi => ?_⟩
  exact (hb.cell (p := ⟨b, off + i, none⟩) (World.block_lt_of_cell? w _ (hc i hi))).trans (hc i hi)

theorem rdB_lt {w : World} {ao : Option Addr} {bs : List Nat} (h : RdB w ao bs) (i : Nat) : rdB bs i < 256 := M.getD_lt (by omega) h.1 i

theorem RdB.grown {w w' : World} {ao : Option Addr} {bs : List Nat} {g : Nat} (h : RdB w ao bs) (hg : w.grownBy w' (some g)) (hsep : 0 < bs.length → ∀ b2 o2, ao = some ⟨b2, o2, none⟩ → b2 ≠ g) : RdB w' ao bs := by
  refine ⟨h.1, fun hp => ?_⟩
  obtain ⟨b, off, e, hc⟩ := h.2 hp
  exact ⟨b, off, e, fun i hi => hg.cell (hc i hi) (by simpa using hsep hp b off e)⟩

/-- An argument of bytes. -/
def InB (w : World) (a : Option Addr) (len cap : Nat) (bs : List Nat) : Prop := bs.length = len ∧ len ≤ cap ∧ RdB w a bs

end Go.Proofs.Ytehplfmnipadmae

namespace Go.Proofs.Ytehplfmnipadmae
open Go.RowKit
set_option linter.unusedVariables false
set_option maxRecDepth 100000

/-- The reader in block g: the bytes, the place. -/
def IsRdr (w : World) (g : Nat) (ao : Option Addr) (n c i : Nat) : Prop := w.heap[g]? = some (.cells #[.slice ao n c, .int .i64 (i : Int)] 49 (0, 0))

theorem IsRdr.lt {w : World} {g : Nat} {ao : Option Addr} {n c i : Nat} (h : IsRdr w g ao n c i) : g < w.heap.size := (Array.getElem?_eq_some_iff.1 h).1
theorem IsRdr.c0 {w : World} {g : Nat} {ao : Option Addr} {n c i : Nat} (h : IsRdr w g ao n c i) : w.cell? ⟨g, 0, none⟩ = some (.slice ao n c) := by
  rw [cell_of_row w g 0 _ _ (0, 0) h]; rfl
theorem IsRdr.c1 {w : World} {g : Nat} {ao : Option Addr} {n c i : Nat} (h : IsRdr w g ao n c i) : w.cell? ⟨g, 1, none⟩ = some (.int .i64 (i : Int)) := by
  rw [cell_of_row w g 1 _ _ (0, 0) h]; rfl
theorem IsRdr.f1 {w : World} {g : Nat} {ao : Option Addr} {n c i : Nat} (h : IsRdr w g ao n c i) : w.frozen? ⟨g, 1, none⟩ = false := frozen_of_row w g 1 _ _ h
theorem IsRdr.set {w : World} {g : Nat} {ao : Option Addr} {n c i : Nat} (h : IsRdr w g ao n c i) (j : Nat) (v : Int) (hv : v = (j : Int)) : IsRdr (w.setCell ⟨g, 1, none⟩ (.int .i64 v)) g ao n c j := by
  subst hv
  unfold IsRdr
  rw [heap_setCell_same w g 1 _ _ _ h]
  rfl
theorem IsRdr.drewN {w : World} {g : Nat} {ao : Option Addr} {n c i : Nat} (h : IsRdr w g ao n c i) (q : Nat) : IsRdr (w.drewN q) g ao n c i := h
theorem IsRdr.keep {w w' : World} {g : Nat} {ao : Option Addr} {n c i : Nat} (h : IsRdr w g ao n c i) (hb : Below w.heap.size w w') : IsRdr w' g ao n c i := (hb.block g h.lt).trans h
theorem IsRdr.grown {w w' : World} {g : Nat} {ao : Option Addr} {n c i : Nat} {row : Option Nat} (h : IsRdr w g ao n c i) (hb : w.grownBy w' row) (hr : some g ≠ row) : IsRdr w' g ao n c i := (hb.block g h.lt hr).trans h

set_option maxHeartbeats 400000 in
theorem next_any (g : Nat) (ao : Option Addr) (n c i : Nat) (bs : List Nat) (w : World) (hl : bs.length = n) (hn : n ≤ 1048576) (hi : i ≤ n) (hR : IsRdr w g ao n c i) (hb : RdB w ao bs) (x : Nat) (hx : x = rdB bs i) :
    Calls Try.prog 53 #[.pointer (some ⟨g, 0, none⟩)] w fun e w' => e = .returned (.int .i64 (x : Int)) ∧ IsRdr w' g ao n c (adv bs i) ∧ w.grownBy w' (some g) := by
  have h0 := hR.c0
  have h1 := hR.c1
  have hf := hR.f1
  by_cases hlt : i < n
  · have ha : adv bs i = i + 1 := by unfold adv; rw [if_pos (by omega)]
    rw [ha]
    obtain ⟨b, off, hao, hcl⟩ := hb.2 (by omega)
    have hck := hcl i (by omega)
    rw [show bs.getD i 0 = x from hx.symm] at hck
    have hx1 : x < 256 := by rw [hx]; exact rdB_lt hb i
    clear hcl
    have HX := hid hx; clear hx ha
    have hge : ¬ (n : Int) ≤ (i : Int) := by omega
    have hlt' : (i : Int) < (n : Int) := by omega
    have HR := hid hR; clear hR
    go_enter Try.func53, Try.ntmps53
    go_wp2
    go_quiet (fail)
    go_wp2
    generalize hwy : w.drewN nq = wy
    have hR1 : IsRdr wy g ao n c i := by rw [← hwy]; exact HR.out
    have h0' := hR1.c0
    have h1' := hR1.c1
    have hck' : wy.cell? ⟨b, off + i, none⟩ = some (.int .u8 (x : Int)) := by rw [← hwy]; exact hck
    have hgy : w.grownBy wy (some g) := by rw [← hwy]; exact grown_drewN _ _ _
    have HR1 := hid hR1
    have HGY := hid hgy
    clear hwy h0 h1 hck hR1 hgy hf HR
    go_quiet (fail)
    generalize hwz : wy.drewN nq = wz
    have hR2 : IsRdr wz g ao n c i := by rw [← hwz]; exact HR1.out
    have h1'' := hR2.c1
    have hf'' := hR2.f1
    have hgz : w.grownBy wz (some g) := by rw [← hwz]; exact grown_trans HGY.out (grown_drewN _ _ _)
    have HR2 := hid hR2
    have HGZ := hid hgz
    clear hwz h0' h1' hck' hR2 hgz
    go_wp2
    go_ret
    exact ⟨rfl, HR2.out.set (i + 1) _ (by omega), grown_trans HGZ.out (grown_setCell _ _ _ _)⟩
  · have ha : adv bs i = i := by unfold adv; rw [if_neg (by omega)]
    have hx0 : x = 0 := by rw [hx]; unfold rdB; exact getD_big _ _ (by omega)
    rw [ha]
    subst hx0
    clear hx ha
    have hge : (n : Int) ≤ (i : Int) := by omega
    have HR := hid hR; clear hR
    go_enter Try.func53, Try.ntmps53
    go_wp2
    go_quiet (fail)
    go_wp2
    go_ret
    exact ⟨rfl, HR.out.drewN _, grown_drewN _ _ _⟩

/-- What 'wide' reads in k bytes: the number so far, the place. -/
def wideK (bs : List Nat) (i : Nat) : Nat → Nat × Nat
  | 0 => (0, i)
  | k + 1 => ((wideK bs i k).1 * 256 + rdB bs (wideK bs i k).2, adv bs (wideK bs i k).2)

theorem wideK_le (bs : List Nat) (i n : Nat) (hl : bs.length = n) (hi : i ≤ n) (k : Nat) : (wideK bs i k).2 ≤ n := by
  induction k with
  | zero => exact hi
  | succ k ih => simp only [wideK, adv]; split <;> omega

theorem wideK_lt (bs : List Nat) (i : Nat) (hb : ∀ x ∈ bs, x < 256) (k : Nat) : (wideK bs i k).1 < 256 ^ k := by
  induction k with
  | zero => simp [wideK]
  | succ k ih =>
    simp only [wideK, Nat.pow_succ]
    have : rdB bs (wideK bs i k).2 < 256 := M.getD_lt (by omega) hb _
    omega

end Go.Proofs.Ytehplfmnipadmae

namespace Go.Proofs.Ytehplfmnipadmae
open Go.RowKit
set_option linter.unusedVariables false
set_option maxRecDepth 100000

/-- One limb as 'limbs' draws it, and the place behind it. -/
def limb1 (bs : List Nat) (i : Nat) : Nat × Nat :=
  if rdB bs i % 6 = 0 then (0, adv bs i) else if rdB bs i % 6 = 1 then (18446744073709551615, adv bs i) else if rdB bs i % 6 = 2 then (rdB bs i, adv bs i)
  else if rdB bs i % 6 = 3 then (2 ^ (rdB bs (adv bs i) % 64), adv bs (adv bs i)) else wideK bs (adv bs i) 8

theorem limb1_0 (bs : List Nat) (i x : Nat) (hx : x = rdB bs i) (h : x % 6 = 0) : (limb1 bs i).1 = 0 ∧ (limb1 bs i).2 = adv bs i := by
  unfold limb1; rw [← hx, if_pos h]; exact ⟨rfl, rfl⟩
theorem limb1_1 (bs : List Nat) (i x : Nat) (hx : x = rdB bs i) (h : x % 6 = 1) : (limb1 bs i).1 = 18446744073709551615 ∧ (limb1 bs i).2 = adv bs i := by
  unfold limb1; rw [← hx, if_neg (by omega), if_pos h]; exact ⟨rfl, rfl⟩
theorem limb1_2 (bs : List Nat) (i x : Nat) (hx : x = rdB bs i) (h : x % 6 = 2) : (limb1 bs i).1 = x ∧ (limb1 bs i).2 = adv bs i := by
  unfold limb1; rw [← hx, if_neg (by omega), if_neg (by omega), if_pos h]; exact ⟨rfl, rfl⟩
theorem limb1_3 (bs : List Nat) (i x : Nat) (hx : x = rdB bs i) (h : x % 6 = 3) : (limb1 bs i).1 = 2 ^ (rdB bs (adv bs i) % 64) ∧ (limb1 bs i).2 = adv bs (adv bs i) := by
  unfold limb1; rw [← hx, if_neg (by omega), if_neg (by omega), if_neg (by omega), if_pos h]; exact ⟨rfl, rfl⟩
theorem limb1_4 (bs : List Nat) (i x : Nat) (hx : x = rdB bs i) (h : 3 < x % 6) : (limb1 bs i).1 = (wideK bs (adv bs i) 8).1 ∧ (limb1 bs i).2 = (wideK bs (adv bs i) 8).2 := by
  unfold limb1; rw [← hx, if_neg (by omega), if_neg (by omega), if_neg (by omega), if_neg (by omega)]; exact ⟨rfl, rfl⟩

theorem adv_le (bs : List Nat) (i n : Nat) (hl : bs.length = n) (hi : i ≤ n) : adv bs i ≤ n := by unfold adv; split <;> omega
theorem limb1_le (bs : List Nat) (i n : Nat) (hl : bs.length = n) (hi : i ≤ n) : (limb1 bs i).2 ≤ n := by
  have h1 := adv_le bs i n hl hi
  have h2 := adv_le bs (adv bs i) n hl h1
  have h3 := wideK_le bs (adv bs i) n hl h1 8
  unfold limb1
  split
  · exact h1
  · split
    · exact h1
    · split
      · exact h1
      · split
        · exact h2
        · exact h3
theorem limb1_lt (bs : List Nat) (i : Nat) (hb : ∀ x ∈ bs, x < 256) : (limb1 bs i).1 < 18446744073709551616 := by
  have h1 : rdB bs i < 256 := M.getD_lt (by omega) hb _
  have h2 := wideK_lt bs (adv bs i) hb 8
  have h3 : 2 ^ (rdB bs (adv bs i) % 64) < 2 ^ 64 := Nat.pow_lt_pow_right (by omega) (by omega)
  unfold limb1
  split
  · exact Nat.zero_lt_succ _
  · split
    · show 18446744073709551615 < 18446744073709551616; omega
    · split
      · show rdB bs i < 18446744073709551616; omega
      · split
        · show 2 ^ (rdB bs (adv bs i) % 64) < 18446744073709551616; omega
        · omega

/-- The first k limbs, and the place behind them. -/
def limbsK (bs : List Nat) (i : Nat) : Nat → List Nat × Nat
  | 0 => ([], i)
  | k + 1 => ((limbsK bs i k).1 ++ [(limb1 bs (limbsK bs i k).2).1], (limb1 bs (limbsK bs i k).2).2)

theorem limbsK_le (bs : List Nat) (i n : Nat) (hl : bs.length = n) (hi : i ≤ n) (k : Nat) : (limbsK bs i k).2 ≤ n := by
  induction k with
  | zero => exact hi
  | succ k ih => exact limb1_le bs _ n hl ih
theorem limbsK_len (bs : List Nat) (i : Nat) (k : Nat) : (limbsK bs i k).1.length = k := by
  induction k with
  | zero => rfl
  | succ k ih => simp [limbsK, ih]
theorem limbsK_F (bs : List Nat) (i : Nat) (hb : ∀ x ∈ bs, x < 256) (k : Nat) : F64 (limbsK bs i k).1 := by
  induction k with
  | zero => intro x hx; simp [limbsK] at hx
  | succ k ih =>
    intro x hx
    simp only [limbsK] at hx
    rcases List.mem_append.1 hx with hx | hx
    · exact ih x hx
    · simp at hx; rw [hx]; exact limb1_lt bs _ hb

/-- The long list: up to MaxLimbs, or one beyond. -/
def fillK (bs : List Nat) : Nat → List Nat × Nat → List Nat × Nat
  | 0, s => s
  | f + 1, s => if s.1.length < 1200 + rdB bs s.2 % 2 then fillK bs f (s.1 ++ [s.1.length], adv bs s.2) else (s.1, adv bs s.2)

theorem fillK_facts (bs : List Nat) (n : Nat) (hl : bs.length = n) (f : Nat) : ∀ s : List Nat × Nat, s.2 ≤ n → F64 s.1 → s.1.length ≤ 1201 → (fillK bs f s).2 ≤ n ∧ F64 (fillK bs f s).1 ∧ (fillK bs f s).1.length ≤ 1201 := by
  induction f with
  | zero => intro s h1 h2 h3; exact ⟨h1, h2, h3⟩
  | succ f ih =>
    intro s h1 h2 h3
    simp only [fillK]
    split
    · next h =>
      refine ih _ (adv_le bs _ n hl h1) ?_ (by simp; omega)
      intro x hx
      rcases List.mem_append.1 hx with hx | hx
      · exact h2 x hx
      · simp at hx; omega
    · exact ⟨adv_le bs _ n hl h1, h2, h3⟩

/-- How many limbs are drawn at first. -/
def limbsN (k : Nat) : Nat := if 240 ≤ k then 8 + k % 16 * 3 else k % 7

/-- What 'limbs' draws, and the place behind it. -/
def limbsAll (bs : List Nat) (i : Nat) : List Nat × Nat :=
  if rdB bs i = 255 then fillK bs 1300 (limbsK bs (adv bs i) (limbsN (rdB bs i))) else limbsK bs (adv bs i) (limbsN (rdB bs i))

theorem limbsN_le (k : Nat) : limbsN k ≤ 53 := by unfold limbsN; split <;> omega

theorem limbsAll_facts (bs : List Nat) (i n : Nat) (hl : bs.length = n) (hi : i ≤ n) (hb : ∀ x ∈ bs, x < 256) : (limbsAll bs i).2 ≤ n ∧ F64 (limbsAll bs i).1 ∧ (limbsAll bs i).1.length ≤ 1201 := by
  have h1 := adv_le bs i n hl hi
  have h2 := limbsK_le bs (adv bs i) n hl h1 (limbsN (rdB bs i))
  have h3 := limbsK_F bs (adv bs i) hb (limbsN (rdB bs i))
  have h4 := limbsK_len bs (adv bs i) (limbsN (rdB bs i))
  have h5 := limbsN_le (rdB bs i)
  unfold limbsAll
  split
  · exact fillK_facts bs n hl 1300 _ h2 h3 (by omega)
  · exact ⟨h2, h3, by omega⟩

theorem grown_own {w wr w1 : World} {o : Obj} {g : Nat} {row : Option Nat} (h : w.grownBy wr (some g)) (h1 : (wr.alloc o).grownBy w1 row) (hr : ∀ k, row = some k → w.heap.size ≤ k) : w.grownBy w1 (some g) := by
  refine ⟨h1.os.trans h.os, h1.tape.trans h.tape, h1.output.trans h.output, Nat.le_trans h.size (Nat.le_trans (by simp) h1.size), fun k hk hne => ?_⟩
  have h2 := h1.block k (by have := h.size; simp; omega) (fun e => by have := hr k e.symm; omega)
  rw [h2, Below.heap_alloc wr o k (by have := h.size; omega)]
  exact h.block k hk hne

theorem isRdr_own {w wr w1 : World} {o : Obj} {g : Nat} {row : Option Nat} {ao : Option Addr} {n c i : Nat} (h : IsRdr wr g ao n c i) (h1 : (wr.alloc o).grownBy w1 row) (hr : ∀ k, row = some k → w.heap.size ≤ k) (hg : g < w.heap.size) : IsRdr w1 g ao n c i := by
  have hlt := h.lt
  unfold IsRdr
  rw [h1.block g (by simp; omega) (fun e => by have := hr g e.symm; omega), Below.heap_alloc wr o g hlt]
  exact h

theorem own_grown {wr w1 : World} {base g n : Nat} {v : Value} {xs : List Value} (h : wr.ownsRow base 25 1 v n xs) (hg : wr.grownBy w1 (some g)) (hb : g < base) : w1.ownsRow base 25 1 v n xs := by
  refine h.kept hg ?_
  cases hv : v.ownBlock with
  | none => exact .inl rfl
  | some k => right; intro e; cases e; have := h.lt _ hv; omega

set_option maxHeartbeats 4000000 in
theorem limbsLoop_any (N : Nat) : True := trivial

end Go.Proofs.Ytehplfmnipadmae

namespace Go.Proofs.Ytehplfmnipadmae
open Go.RowKit
set_option linter.unusedVariables false
set_option maxRecDepth 100000

/-- A slice's length. -/
def lenOf : Value → Nat
  | .slice _ n _ => n
  | _ => 0

end Go.Proofs.Ytehplfmnipadmae

namespace Go.Proofs.Ytehplfmnipadmae
open Go.RowKit
set_option linter.unusedVariables false
set_option maxRecDepth 100000

theorem rdr_new (w : World) (ao : Option Addr) (n c : Nat) : IsRdr (w.alloc (.cells #[.slice ao n c, .int .i64 0] 49)) w.heap.size ao n c 0 := heap_alloc_new w _

theorem rdr_sep {w : World} {ao : Option Addr} {bs : List Nat} (h : RdB w ao bs) : 0 < bs.length → ∀ b2 o2, ao = some ⟨b2, o2, none⟩ → b2 ≠ w.heap.size := by
  intro hp b2 o2 e
  obtain ⟨b3, o3, e3, hc⟩ := h.2 hp
  rw [e] at e3
  simp only [Option.some.injEq, Addr.mk.injEq] at e3
  have := World.block_lt_of_cell? w _ (hc 0 hp)
  simp at this
  omega

theorem below_rdr {w0 w w1 : World} (hb : Below w0.heap.size w0 w) (hg : w.grownBy w1 (some w0.heap.size)) : Below w0.heap.size w0 w1 :=
  hb.grown hg hb.size (fun _ h => by cases h; exact Nat.le_refl _)

/-- What DrawNatShift hands back: the list that 'limbs' draws, and some number. -/
def ShDraw (w w' : World) (e : Ending) (bs : List Nat) : Prop :=
  ∃ ro rc, ∃ z : Int, e = .returned (.tuple #[.slice ro (limbsAll bs 0).1.length rc, .int .i64 z]) ∧ -80001 ≤ z ∧ z ≤ 80001 ∧ w'.ownsRow (w.heap.size + 1) 25 1 (.slice ro (limbsAll bs 0).1.length rc) (limbsAll bs 0).1.length (U (limbsAll bs 0).1) ∧ Below w.heap.size w w'

end Go.Proofs.Ytehplfmnipadmae

namespace Go.Proofs.Ytehplfmnipadmae
open Go.RowKit
set_option linter.unusedVariables false
set_option maxRecDepth 100000

theorem isRdr_al {w : World} {g : Nat} {ao : Option Addr} {n c i : Nat} (h : IsRdr w g ao n c i) (o : Obj) : IsRdr (w.alloc o) g ao n c i := by
  unfold IsRdr
  rw [Below.heap_alloc w o g h.lt]; exact h

theorem grown_al {w v : World} {r : Option Nat} (h : w.grownBy v r) (o : Obj) : w.grownBy (v.alloc o) r :=
  ⟨h.os, h.tape, h.output, by have := h.size; simp; omega, fun k hk hr => (Below.heap_alloc v o k (Nat.lt_of_lt_of_le hk h.size)).trans (h.block k hk hr)⟩

set_option maxHeartbeats 2000000 in
set_option maxRecDepth 100000 in
theorem power_draw (g : Nat) (ao : Option Addr) (n c i : Nat) (bs : List Nat) (w : World) (hl : bs.length = n) (hn : n ≤ 1048576) (hi : i ≤ n) (hR : IsRdr w g ao n c i) (hb : RdB w ao bs) (hsep : 0 < bs.length → ∀ b2 o2, ao = some ⟨b2, o2, none⟩ → b2 ≠ g) :
    Calls Try.prog 21 #[.pointer (some ⟨g, 0, none⟩)] w fun e w' => ∃ (z : Int) (i' : Nat), e = .returned (.int .i64 z) ∧ i' ≤ n ∧ IsRdr w' g ao n c i' ∧ w.grownBy w' (some g) := by
  obtain ⟨k, ek⟩ : ∃ k : Nat, k = rdB bs i := ⟨_, rfl⟩
  have hkb : k < 256 := by rw [ek]; exact rdB_lt hb i
  have EK := hid ek; clear ek
  go_enter Try.func21, Try.ntmps21
  go_wp2_with fail
  refine (next_any g ao n c i bs _ hl hn hi hR hb k EK.out).mono ?_
  rintro e w1 ⟨rfl, hR1, hg1⟩
  have hp1 := adv_le bs i n hl hi
  generalize adv bs i = p1 at hR1 hp1
  have hb1 := hb.grown hg1 hsep
  obtain ⟨m, hm⟩ : ∃ m : Nat, m = k % 8 := ⟨_, rfl⟩
  have hmI : (k : Int) % 8 = (m : Int) := by omega
  have hm8 : m < 8 := by omega
  clear hm
  rcases (show m = 0 ∨ m = 1 ∨ m = 2 ∨ m = 3 ∨ m = 4 ∨ m = 5 ∨ m = 6 ∨ m = 7 by omega) with rfl | rfl | rfl | rfl | rfl | rfl | rfl | rfl
  · go_wp2_with fail
    go_ret
    exact ⟨_, p1, rfl, hp1, hR1, hg1⟩
  · go_wp2_with fail
    obtain ⟨y2, ey2⟩ : ∃ y : Nat, y = rdB bs p1 := ⟨_, rfl⟩
    have yb2 : y2 < 256 := by rw [ey2]; exact rdB_lt hb p1
    have EY2 := hid ey2; clear ey2
    refine (next_any g ao n c p1 bs _ hl hn hp1 hR1 hb1 y2 EY2.out).mono ?_
    rintro e w2 ⟨rfl, hR2, hg2'⟩
    have hg2 := grown_trans hg1 hg2'
    have hp2 := adv_le bs p1 n hl hp1
    generalize adv bs p1 = p2 at hR2 hp2
    have hb2 := hb.grown hg2 hsep
    clear hg1 hg2' hR1 hb1
    go_wp2_with fail
    go_ret
    exact ⟨_, p2, rfl, hp2, hR2, hg2⟩
  · go_wp2_with fail
    obtain ⟨y2, ey2⟩ : ∃ y : Nat, y = rdB bs p1 := ⟨_, rfl⟩
    have yb2 : y2 < 256 := by rw [ey2]; exact rdB_lt hb p1
    have EY2 := hid ey2; clear ey2
    refine (next_any g ao n c p1 bs _ hl hn hp1 hR1 hb1 y2 EY2.out).mono ?_
    rintro e w2 ⟨rfl, hR2, hg2'⟩
    have hg2 := grown_trans hg1 hg2'
    have hp2 := adv_le bs p1 n hl hp1
    generalize adv bs p1 = p2 at hR2 hp2
    have hb2 := hb.grown hg2 hsep
    clear hg1 hg2' hR1 hb1
    go_wp2_with fail
    obtain ⟨y3, ey3⟩ : ∃ y : Nat, y = rdB bs p2 := ⟨_, rfl⟩
    have yb3 : y3 < 256 := by rw [ey3]; exact rdB_lt hb p2
    have EY3 := hid ey3; clear ey3
    refine (next_any g ao n c p2 bs _ hl hn hp2 hR2 hb2 y3 EY3.out).mono ?_
    rintro e w3 ⟨rfl, hR3, hg3'⟩
    have hg3 := grown_trans hg2 hg3'
    have hp3 := adv_le bs p2 n hl hp2
    generalize adv bs p2 = p3 at hR3 hp3
    have hb3 := hb.grown hg3 hsep
    clear hg2 hg3' hR2 hb2
    go_wp2_with fail
    go_ret
    exact ⟨_, p3, rfl, hp3, hR3, hg3⟩
  · go_wp2_with fail
    obtain ⟨y2, ey2⟩ : ∃ y : Nat, y = rdB bs p1 := ⟨_, rfl⟩
    have yb2 : y2 < 256 := by rw [ey2]; exact rdB_lt hb p1
    have EY2 := hid ey2; clear ey2
    refine (next_any g ao n c p1 bs _ hl hn hp1 hR1 hb1 y2 EY2.out).mono ?_
    rintro e w2 ⟨rfl, hR2, hg2'⟩
    have hg2 := grown_trans hg1 hg2'
    have hp2 := adv_le bs p1 n hl hp1
    generalize adv bs p1 = p2 at hR2 hp2
    have hb2 := hb.grown hg2 hsep
    clear hg1 hg2' hR1 hb1
    by_cases h128 : 128 ≤ k
    · have h128' : (128 : Int) ≤ (k : Int) := by omega
      go_wp2_with fail
      go_ret
      exact ⟨_, p2, rfl, hp2, hR2, hg2⟩
    · have h128' : ¬ (128 : Int) ≤ (k : Int) := by omega
      go_wp2_with fail
      go_ret
      exact ⟨_, p2, rfl, hp2, hR2, hg2⟩
  all_goals
    go_wp2_with fail
    go_ret
    exact ⟨_, p1, rfl, hp1, hR1, hg1⟩

set_option maxHeartbeats 2000000 in
set_option maxRecDepth 100000 in
theorem width_draw (g : Nat) (ao : Option Addr) (n c i : Nat) (bs : List Nat) (w : World) (hl : bs.length = n) (hn : n ≤ 1048576) (hi : i ≤ n) (hR : IsRdr w g ao n c i) (hb : RdB w ao bs) (hsep : 0 < bs.length → ∀ b2 o2, ao = some ⟨b2, o2, none⟩ → b2 ≠ g) :
    Calls Try.prog 22 #[.pointer (some ⟨g, 0, none⟩)] w fun e w' => ∃ (z : Int) (i' : Nat), e = .returned (.int .i64 z) ∧ i' ≤ n ∧ IsRdr w' g ao n c i' ∧ w.grownBy w' (some g) := by
  obtain ⟨k, ek⟩ : ∃ k : Nat, k = rdB bs i := ⟨_, rfl⟩
  have hkb : k < 256 := by rw [ek]; exact rdB_lt hb i
  have EK := hid ek; clear ek
  go_enter Try.func22, Try.ntmps22
  go_wp2_with fail
  refine (next_any g ao n c i bs _ hl hn hi hR hb k EK.out).mono ?_
  rintro e w1 ⟨rfl, hR1, hg1⟩
  have hp1 := adv_le bs i n hl hi
  generalize adv bs i = p1 at hR1 hp1
  have hb1 := hb.grown hg1 hsep
  by_cases h240 : 240 ≤ k
  · have h240' : (240 : Int) ≤ (k : Int) := by omega
    obtain ⟨m, hm⟩ : ∃ m : Nat, m = k % 8 := ⟨_, rfl⟩
    have hmI : (k : Int) % 8 = (m : Int) := by omega
    have hm8 : m < 8 := by omega
    clear hm
    rcases (show m = 0 ∨ m = 1 ∨ m = 2 ∨ m = 3 ∨ m = 4 ∨ m = 5 ∨ m = 6 ∨ m = 7 by omega) with rfl | rfl | rfl | rfl | rfl | rfl | rfl | rfl
    all_goals
      go_wp2_with fail
      go_ret
      exact ⟨_, p1, rfl, hp1, isRdr_al hR1 _, grown_al hg1 _⟩
  · have h240' : ¬ (240 : Int) ≤ (k : Int) := by omega
    by_cases h3 : k % 3 = 0
    · have h3' : (k : Int) % 3 = 0 := by omega
      go_wp2_with fail
      go_ret
      exact ⟨_, p1, rfl, hp1, hR1, hg1⟩
    · have h3' : ¬ (k : Int) % 3 = 0 := by omega
      have h3b : ((k : Int) % 3 == 0) = false := by simp [h3']
      go_wp2_with fail
      go_ret
      exact ⟨_, p1, rfl, hp1, hR1, hg1⟩

set_option maxHeartbeats 2000000 in
set_option maxRecDepth 100000 in
theorem drawTP_any (ao : Option Addr) (n c : Nat) (bs : List Nat) (w : World) (hl : bs.length = n) (hn : n ≤ 1048576) (hb : RdB w ao bs) :
    Calls Try.prog 5 #[.slice ao n c] w fun e w' => ∃ k W : Int, e = .returned (.tuple #[.int .i64 k, .int .i64 W]) ∧ Below w.heap.size w w' := by
  have hR0 := rdr_new w ao n c
  have hsep := rdr_sep hb
  have hb0 : Below w.heap.size w (w.alloc (.cells #[.slice ao n c, .int .i64 0] 49)) := (Below.refl _ _).alloc (Nat.le_refl _) _
  have hrb0 := hb.below hb0
  have HB0 := hid hb0; clear hb0
  go_enter Try.func5, Try.ntmps5
  go_wp2_with fail
  generalize hW0 : w.alloc (.cells #[.slice ao n c, .int .i64 0] 49) = W0 at hR0 hrb0 HB0 ⊢
  refine (power_draw w.heap.size ao n c 0 bs _ hl hn (by omega) hR0 hrb0 hsep).mono ?_
  rintro e w1 ⟨z, p1, rfl, hp1, hR1, hg1⟩
  have hb1 := below_rdr HB0.out hg1
  have hrb1 := hb.below hb1
  clear hW0 hR0 hrb0 hg1 HB0
  go_wp2_with fail
  refine (width_draw w.heap.size ao n c p1 bs _ hl hn hp1 hR1 hrb1 hsep).mono ?_
  rintro e w2 ⟨y, p2, rfl, hp2, hR2, hg2⟩
  have hb2 := below_rdr hb1 hg2
  have HB := hid hb2
  clear hR1 hrb1 hg2 hb1 hb2 hR2
  go_wp2_with fail
  go_ret2
  exact ⟨z, y, rfl, HB.out⟩

end Go.Proofs.Ytehplfmnipadmae

namespace Go.Proofs.Ytehplfmnipadmae
open Go.RowKit
set_option linter.unusedVariables false
set_option maxRecDepth 100000

/-- What NatCmp is to say. -/
def cmpDoc (xs ys : List Nat) : Int := if xs.length ≤ 1200 ∧ ys.length ≤ 1200 then cmpI (V xs : Nat) (V ys : Nat) else 2

set_option maxHeartbeats 1000000 in
theorem specNatCmp_any (ao bo : Option Addr) (n m c d : Nat) (xs ys : List Nat) (w : World) (hl : xs.length = n) (hm : ys.length = m) (hn : n ≤ 1048576) (hn2 : m ≤ 1048576) (hx : F64 xs) (hy : F64 ys) (hr : Rd w ao xs) (hr2 : Rd w bo ys) :
    Calls Try.prog 8 #[.slice ao n c, .slice bo m d] w fun e w' => e = .returned (.int .i64 (cmpDoc xs ys)) ∧ Below w.heap.size w w' := by
  have e1 : n ≤ 1200 → decide (n ≤ 1200) = true := by simp
  by_cases h1 : n ≤ 1200
  · by_cases h2 : m ≤ 1200
    · have hdoc : cmpDoc xs ys = cmpI (V xs : Nat) (V ys : Nat) := by unfold cmpDoc; rw [if_pos (by omega)]
      rw [hdoc]
      have d1 : decide (n ≤ 1200) = true := by simpa using h1
      have d2 : decide (m ≤ 1200) = true := by simpa using h2
      go_enter Try.func8, Try.ntmps8
      go_wp2_with fail
      refine (l1Fits_any ao n c _ (by omega)).mono ?_
      rintro e w1 ⟨rfl, rfl⟩
      rw [d1]
      go_wp2_with fail
      refine (l1Fits_any bo m d _ (by omega)).mono ?_
      rintro e w2 ⟨rfl, rfl⟩
      rw [d2]
      go_wp2_with fail
      refine (l1In_any ao n c xs _ hl (by omega) hx hr).mono ?_
      rintro e w3 ⟨ao1, cap1, rfl, ho1, hb1⟩
      go_wp2_with fail
      refine (l1In_any bo m d ys _ hm (by omega) hy (hr2.below hb1)).mono ?_
      rintro e w4 ⟨ao2, cap2, rfl, ho2, hb2⟩
      go_wp2_with fail
      have hs1 : (D (V xs)).length ≤ 4194304 := by
        have := M.length_dig_le (B := 4294967296) (by omega) (M.halves xs) (M.halves_lt xs hx)
        rw [M.val_halves, M.halves_length] at this
        unfold D V; omega
      have hs2 : (D (V ys)).length ≤ 4194304 := by
        have := M.length_dig_le (B := 4294967296) (by omega) (M.halves ys) (M.halves_lt ys hy)
        rw [M.val_halves, M.halves_length] at this
        unfold D V; omega
      refine (l1Cmp_any ao1 ao2 _ _ cap1 cap2 (V xs) (V ys) _ rfl rfl hs1 hs2 ((Rd.own ho1).below hb2) (Rd.own ho2)).mono ?_
      rintro e w5 ⟨rfl, rfl⟩
      go_wp2_with fail
      go_ret
      exact ⟨rfl, hb1.trans (hb2.mono hb1.size)⟩
    · have hdoc : cmpDoc xs ys = 2 := by unfold cmpDoc; rw [if_neg (by omega)]
      rw [hdoc]
      have d1 : decide (n ≤ 1200) = true := by simpa using h1
      have d2 : decide (m ≤ 1200) = false := by simpa using h2
      go_enter Try.func8, Try.ntmps8
      go_wp2_with fail
      refine (l1Fits_any ao n c _ (by omega)).mono ?_
      rintro e w1 ⟨rfl, rfl⟩
      rw [d1]
      go_wp2_with fail
      refine (l1Fits_any bo m d _ (by omega)).mono ?_
      rintro e w2 ⟨rfl, rfl⟩
      rw [d2]
      go_wp2_with fail
      go_ret
      exact ⟨rfl, Below.refl _ _⟩
  · have hdoc : cmpDoc xs ys = 2 := by unfold cmpDoc; rw [if_neg (by omega)]
    rw [hdoc]
    have d1 : decide (n ≤ 1200) = false := by simpa using h1
    go_enter Try.func8, Try.ntmps8
    go_wp2_with fail
    refine (l1Fits_any ao n c _ (by omega)).mono ?_
    rintro e w1 ⟨rfl, rfl⟩
    rw [d1]
    go_wp2_with fail
    go_ret
    exact ⟨rfl, Below.refl _ _⟩

set_option maxHeartbeats 1000000 in
theorem implNatCmp_any (ao bo : Option Addr) (n m c d : Nat) (xs ys : List Nat) (w : World) (hl : xs.length = n) (hm : ys.length = m) (hc : n ≤ c) (hd : m ≤ d) (hn : n ≤ 1048576) (hn2 : m ≤ 1048576) (hx : F64 xs) (hy : F64 ys) (hr : Rd w ao xs) (hr2 : Rd w bo ys) :
    Calls Try.prog 14 #[.slice ao n c, .slice bo m d] w fun e w' => e = .returned (.int .i64 (cmpDoc xs ys)) ∧ Below w.heap.size w w' := by
  by_cases h1 : n ≤ 1200 ∧ m ≤ 1200
  · have hdoc : cmpDoc xs ys = cmpI (V xs : Nat) (V ys : Nat) := by unfold cmpDoc; rw [if_pos (by omega)]
    rw [hdoc]
    have hall : true = [n, m].all (fun x => decide (x ≤ 1200)) := by simp [h1]
    have hall' := hid hall; clear hall
    go_enter Try.func14, Try.ntmps14
    go_wp2_with fail
    refine (short_any _ 2 [n, m] true _ rfl (by omega) (by simp; omega) hall'.out (two_cells _ _ _ _ _ _ _ _)).mono ?_
    rintro e w1 ⟨rfl, hw1⟩
    have hb1 : Below w.heap.size w w1 := by rw [hw1]; exact (Below.refl _ _).alloc (Nat.le_refl _) _
    clear hw1
    go_wp2_with fail
    refine (trim_any ao n c xs _ hl hc (by omega) hx (hr.below hb1)).mono ?_
    rintro e w2 ⟨rfl, rfl⟩
    go_wp2_with fail
    refine (trim_any bo m d ys _ hm hd (by omega) hy (hr2.below hb1)).mono ?_
    rintro e w3 ⟨rfl, rfl⟩
    go_wp2_with fail
    have s1 := L_len xs hx
    have s2 := L_len ys hy
    refine (compare_any ao bo _ _ c d (V xs) (V ys) _ rfl rfl (by omega) (by omega) ((hr.below hb1).trim hx) ((hr2.below hb1).trim hy)).mono ?_
    rintro e w4 ⟨rfl, q, rfl⟩
    go_wp2_with fail
    go_ret
    exact ⟨rfl, below_drewN hb1 _⟩
  · have hdoc : cmpDoc xs ys = 2 := by unfold cmpDoc; rw [if_neg (by omega)]
    rw [hdoc]
    have hall : false = [n, m].all (fun x => decide (x ≤ 1200)) := by simp; omega
    have hall' := hid hall; clear hall
    go_enter Try.func14, Try.ntmps14
    go_wp2_with fail
    refine (short_any _ 2 [n, m] false _ rfl (by omega) (by simp; omega) hall'.out (two_cells _ _ _ _ _ _ _ _)).mono ?_
    rintro e w1 ⟨rfl, hw1⟩
    have hb1 : Below w.heap.size w w1 := by rw [hw1]; exact (Below.refl _ _).alloc (Nat.le_refl _) _
    clear hw1
    go_wp2_with fail
    go_ret
    exact ⟨rfl, hb1⟩

end Go.Proofs.Ytehplfmnipadmae

namespace Go.Proofs.Ytehplfmnipadmae
open Go.RowKit
set_option linter.unusedVariables false
set_option maxRecDepth 100000

theorem M.len_mul {B : Nat} (hB : 1 < B) (a b K K' : Nat) (ha : (M.dig B a).length ≤ K) (hb : (M.dig B b).length ≤ K') : (M.dig B (a * b)).length ≤ K + K' := by
  refine M.len_of_lt hB _ _ ?_
  have h1 := Nat.lt_of_lt_of_le (M.lt_dig hB a) (Nat.pow_le_pow_right (by omega) ha)
  have h2 := Nat.lt_of_lt_of_le (M.lt_dig hB b) (Nat.pow_le_pow_right (by omega) hb)
  rw [Nat.pow_add]
  exact Nat.mul_lt_mul'' h1 h2

/-- What NatMul is to answer. -/
def mulDoc (xs ys : List Nat) : List Nat := if xs.length ≤ 1200 ∧ ys.length ≤ 1200 then L (V xs * V ys) else []

theorem mulDoc_len (xs ys : List Nat) (hx : F64 xs) (hy : F64 ys) : (mulDoc xs ys).length ≤ 2400 := by
  unfold mulDoc
  split
  · next h =>
    have h1 := L_len xs hx
    have h2 := L_len ys hy
    have := M.len_mul (B := 18446744073709551616) (by omega) (V xs) (V ys) 1200 1200 (show (L (V xs)).length ≤ 1200 by omega) (show (L (V ys)).length ≤ 1200 by omega)
    exact this
  · simp

set_option maxHeartbeats 1000000 in
theorem implNatMul_any (ao bo : Option Addr) (n m c d : Nat) (xs ys : List Nat) (w : World) (hl : xs.length = n) (hm : ys.length = m) (hc : n ≤ c) (hd : m ≤ d) (hn : n ≤ 1048576) (hn2 : m ≤ 1048576) (hx : F64 xs) (hy : F64 ys) (hr : Rd w ao xs) (hr2 : Rd w bo ys) :
    Calls Try.prog 12 #[.slice ao n c, .slice bo m d] w fun e w' => Ret w w' e (mulDoc xs ys) := by
  by_cases h1 : n ≤ 1200 ∧ m ≤ 1200
  · have hdoc : mulDoc xs ys = L (V xs * V ys) := by unfold mulDoc; rw [if_pos (by omega)]
    rw [hdoc]
    have hall : true = [n, m].all (fun x => decide (x ≤ 1200)) := by simp [h1]
    have hall' := hid hall; clear hall
    go_enter Try.func12, Try.ntmps12
    go_wp2_with fail
    refine (short_any _ 2 [n, m] true _ rfl (by omega) (by simp; omega) hall'.out (two_cells _ _ _ _ _ _ _ _)).mono ?_
    rintro e w1 ⟨rfl, hw1⟩
    have hb1 : Below w.heap.size w w1 := by rw [hw1]; exact (Below.refl _ _).alloc (Nat.le_refl _) _
    clear hw1
    go_wp2_with fail
    refine (trim_any ao n c xs _ hl hc (by omega) hx (hr.below hb1)).mono ?_
    rintro e w2 ⟨rfl, rfl⟩
    go_wp2_with fail
    refine (trim_any bo m d ys _ hm hd (by omega) hy (hr2.below hb1)).mono ?_
    rintro e w3 ⟨rfl, rfl⟩
    go_wp2_with fail
    have s1 := L_len xs hx
    have s2 := L_len ys hy
    refine (mul_any ao bo _ _ c d (V xs) (V ys) _ rfl rfl (by omega) (by omega) ((hr.below hb1).trim hx) ((hr2.below hb1).trim hy)).mono ?_
    rintro e w4 hret
    obtain ⟨ao', cap', rfl, ho, hb⟩ := hret.later hb1
    go_wp2_with fail
    go_ret
    exact ⟨ao', cap', rfl, ho, hb⟩
  · have hdoc : mulDoc xs ys = [] := by unfold mulDoc; rw [if_neg (by omega)]
    rw [hdoc]
    have hall : false = [n, m].all (fun x => decide (x ≤ 1200)) := by simp; omega
    have hall' := hid hall; clear hall
    go_enter Try.func12, Try.ntmps12
    go_wp2_with fail
    refine (short_any _ 2 [n, m] false _ rfl (by omega) (by simp; omega) hall'.out (two_cells _ _ _ _ _ _ _ _)).mono ?_
    rintro e w1 ⟨rfl, hw1⟩
    have hb1 : Below w.heap.size w w1 := by rw [hw1]; exact (Below.refl _ _).alloc (Nat.le_refl _) _
    clear hw1
    go_wp2_with fail
    go_ret
    exact Ret.nil hb1

end Go.Proofs.Ytehplfmnipadmae

namespace Go.Proofs.Ytehplfmnipadmae
open Go.RowKit
set_option linter.unusedVariables false
set_option maxRecDepth 100000

end Go.Proofs.Ytehplfmnipadmae

namespace Go.Proofs.Ytehplfmnipadmae
open Go.RowKit
set_option linter.unusedVariables false
set_option maxRecDepth 100000

/-- What NatShift is to answer. -/
def shOk (xs : List Nat) (z : Int) : Prop := xs.length ≤ 1200 ∧ -80000 ≤ z ∧ z ≤ 80000
def shVal (a : Nat) (z : Int) : Nat := if 0 ≤ z then a * 2 ^ z.toNat else a / 2 ^ (-z).toNat
def shDoc (xs : List Nat) (z : Int) : List Nat := if xs.length ≤ 1200 ∧ -80000 ≤ z ∧ z ≤ 80000 then L (shVal (V xs) z) else []

theorem shVal_left (a s : Nat) : shVal a (s : Int) = a * 2 ^ s := by unfold shVal; rw [if_pos (by omega)]; simp
theorem shVal_right (a s : Nat) (h : 0 < s) : shVal a (-(s : Int)) = a / 2 ^ s := by unfold shVal; rw [if_neg (by omega)]; simp

theorem len_shl64 (a s K : Nat) (h : (L a).length ≤ K) : (L (a * 2 ^ s)).length ≤ K + (s / 64 + 1) := by
  refine M.len_of_lt (by omega) _ _ ?_
  have h1 := L_lt a K h
  have h2 : 2 ^ s ≤ 18446744073709551616 ^ (s / 64 + 1) := by
    rw [show (18446744073709551616 : Nat) = 2 ^ 64 from rfl, ← Nat.pow_mul]
    exact Nat.pow_le_pow_right (by omega) (by omega)
  rw [Nat.pow_add]
  exact Nat.lt_of_lt_of_le (Nat.mul_lt_mul_of_pos_right h1 (Nat.pow_pos (by omega))) (Nat.mul_le_mul_left _ h2)

theorem len_shl32 (a s K : Nat) (h : (D a).length ≤ K) : (D (a * 2 ^ s)).length ≤ K + (s / 32 + 1) := by
  refine M.len_of_lt (by omega) _ _ ?_
  have h1 := D_lt a K h
  have h2 : 2 ^ s ≤ 4294967296 ^ (s / 32 + 1) := by
    rw [show (4294967296 : Nat) = 2 ^ 32 from rfl, ← Nat.pow_mul]
    exact Nat.pow_le_pow_right (by omega) (by omega)
  rw [Nat.pow_add]
  exact Nat.lt_of_lt_of_le (Nat.mul_lt_mul_of_pos_right h1 (Nat.pow_pos (by omega))) (Nat.mul_le_mul_left _ h2)

theorem len_shr {B : Nat} (hB : 1 < B) (a s K : Nat) (h : (M.dig B a).length ≤ K) : (M.dig B (a / 2 ^ s)).length ≤ K :=
  M.len_of_lt hB _ _ (Nat.lt_of_le_of_lt (Nat.div_le_self _ _) (Nat.lt_of_lt_of_le (M.lt_dig hB a) (Nat.pow_le_pow_right (by omega) h)))

theorem shDoc_len (xs : List Nat) (z : Int) (hx : F64 xs) : (shDoc xs z).length ≤ 3000 := by
  unfold shDoc
  split
  · next h =>
    have h1 := L_len xs hx
    by_cases hz : 0 ≤ z
    · obtain ⟨s, rfl⟩ := Int.eq_ofNat_of_zero_le hz
      rw [shVal_left]
      have := len_shl64 (V xs) s 1200 (by omega)
      omega
    · obtain ⟨s, hs⟩ := Int.eq_ofNat_of_zero_le (show 0 ≤ -z by omega)
      have e : z = -(s : Int) := by omega
      subst e
      rw [shVal_right _ _ (by omega)]
      have := len_shr (B := 18446744073709551616) (by omega) (V xs) s 1200 (show (L (V xs)).length ≤ 1200 by omega)
      exact Nat.le_trans this (by omega)
  · simp

theorem one_cell (w : World) (t : TypeId) (ao : Option Addr) (n c : Nat) : ∀ i, i < 1 → ∃ ao' cap, (w.alloc (.cells #[.slice ao n c] t)).cell? ⟨w.heap.size, i, none⟩ = some (.slice ao' ([n].getD i 0) cap) := by
  intro i hi
  match i, hi with
  | 0, _ => exact ⟨ao, c, by simp⟩

set_option maxHeartbeats 1000000 in
theorem implNatShift_any (ao : Option Addr) (n c : Nat) (xs : List Nat) (z : Int) (w : World) (hl : xs.length = n) (hc : n ≤ c) (hn : n ≤ 1048576) (hx : F64 xs) (hr : Rd w ao xs) :
    Calls Try.prog 13 #[.slice ao n c, .int .i64 z] w fun e w' => Ret w w' e (shDoc xs z) := by
  have s1 := L_len xs hx
  by_cases h1 : n ≤ 1200
  · have hall : true = [n].all (fun x => decide (x ≤ 1200)) := by simp [h1]
    have hall' := hid hall; clear hall
    by_cases h2 : -80000 ≤ z ∧ z ≤ 80000
    · have hdoc : shDoc xs z = L (shVal (V xs) z) := by unfold shDoc; rw [if_pos (by omega)]
      rw [hdoc]
      by_cases hz : 0 ≤ z
      · obtain ⟨s, rfl⟩ := Int.eq_ofNat_of_zero_le hz
        rw [shVal_left]
        have hz1 : ¬ (80000 : Int) < (s : Int) := by omega
        have hz2 : ¬ (s : Int) < -80000 := by omega
        have hz3 : ¬ (s : Int) < 0 := by omega
        go_enter Try.func13, Try.ntmps13
        go_wp2_with fail
        refine (short_any _ 1 [n] true _ rfl (by omega) (by simp; omega) hall'.out (one_cell _ _ _ _ _)).mono ?_
        rintro e w1 ⟨rfl, hw1⟩
        have hb1 : Below w.heap.size w w1 := by rw [hw1]; exact (Below.refl _ _).alloc (Nat.le_refl _) _
        clear hw1
        go_wp2_with fail
        refine (trim_any ao n c xs _ hl hc (by omega) hx (hr.below hb1)).mono ?_
        rintro e w2 ⟨rfl, rfl⟩
        go_wp2_with fail
        refine (shiftLeft_any ao _ c s (V xs) _ rfl (by omega) (by omega) ((hr.below hb1).trim hx)).mono ?_
        rintro e w4 hret
        obtain ⟨ao', cap', rfl, ho, hb⟩ := hret.later hb1
        go_wp2_with fail
        go_ret
        exact ⟨ao', cap', rfl, ho, hb⟩
      · obtain ⟨s, hs⟩ := Int.eq_ofNat_of_zero_le (show 0 ≤ -z by omega)
        have e : z = -(s : Int) := by omega
        subst e
        rw [shVal_right _ _ (by omega)]
        have hz1 : ¬ (80000 : Int) < -(s : Int) := by omega
        have hz2 : ¬ -(s : Int) < -80000 := by omega
        have hz3 : -(s : Int) < 0 := by omega
        clear hs
        go_enter Try.func13, Try.ntmps13
        go_wp2_with fail
        refine (short_any _ 1 [n] true _ rfl (by omega) (by simp; omega) hall'.out (one_cell _ _ _ _ _)).mono ?_
        rintro e w1 ⟨rfl, hw1⟩
        have hb1 : Below w.heap.size w w1 := by rw [hw1]; exact (Below.refl _ _).alloc (Nat.le_refl _) _
        clear hw1
        go_wp2_with fail
        refine (trim_any ao n c xs _ hl hc (by omega) hx (hr.below hb1)).mono ?_
        rintro e w2 ⟨rfl, rfl⟩
        go_wp2_with fail
        refine (shiftRight_any ao _ c s (V xs) _ rfl (by omega) (by omega) (by omega) ((hr.below hb1).trim hx)).mono ?_
        rintro e w4 hret
        obtain ⟨ao', cap', rfl, ho, hb⟩ := hret.later hb1
        go_wp2_with fail
        go_ret
        exact ⟨ao', cap', rfl, ho, hb⟩
    · have hdoc : shDoc xs z = [] := by unfold shDoc; rw [if_neg (by omega)]
      rw [hdoc]
      by_cases h3 : 80000 < z
      · go_enter Try.func13, Try.ntmps13
        go_wp2_with fail
        refine (short_any _ 1 [n] true _ rfl (by omega) (by simp; omega) hall'.out (one_cell _ _ _ _ _)).mono ?_
        rintro e w1 ⟨rfl, hw1⟩
        have hb1 : Below w.heap.size w w1 := by rw [hw1]; exact (Below.refl _ _).alloc (Nat.le_refl _) _
        clear hw1
        go_wp2_with fail
        go_ret
        exact Ret.nil hb1
      · have h4 : z < -80000 := by omega
        go_enter Try.func13, Try.ntmps13
        go_wp2_with fail
        refine (short_any _ 1 [n] true _ rfl (by omega) (by simp; omega) hall'.out (one_cell _ _ _ _ _)).mono ?_
        rintro e w1 ⟨rfl, hw1⟩
        have hb1 : Below w.heap.size w w1 := by rw [hw1]; exact (Below.refl _ _).alloc (Nat.le_refl _) _
        clear hw1
        go_wp2_with fail
        go_ret
        exact Ret.nil hb1
  · have hdoc : shDoc xs z = [] := by unfold shDoc; rw [if_neg (by omega)]
    rw [hdoc]
    have hall : false = [n].all (fun x => decide (x ≤ 1200)) := by simp; omega
    have hall' := hid hall; clear hall
    go_enter Try.func13, Try.ntmps13
    go_wp2_with fail
    refine (short_any _ 1 [n] false _ rfl (by omega) (by simp; omega) hall'.out (one_cell _ _ _ _ _)).mono ?_
    rintro e w1 ⟨rfl, hw1⟩
    have hb1 : Below w.heap.size w w1 := by rw [hw1]; exact (Below.refl _ _).alloc (Nat.le_refl _) _
    clear hw1
    go_wp2_with fail
    go_ret
    exact Ret.nil hb1

set_option maxHeartbeats 1000000 in
theorem specNatShift_any (ao : Option Addr) (n c : Nat) (xs : List Nat) (z : Int) (w : World) (hl : xs.length = n) (hn : n ≤ 1048576) (hx : F64 xs) (hr : Rd w ao xs) :
    Calls Try.prog 9 #[.slice ao n c, .int .i64 z] w fun e w' => Ret w w' e (shDoc xs z) := by
  have s1 := D_len xs hx
  by_cases h1 : n ≤ 1200
  · have d1 : decide (n ≤ 1200) = true := by simpa using h1
    by_cases h2 : -80000 ≤ z ∧ z ≤ 80000
    · have hdoc : shDoc xs z = L (shVal (V xs) z) := by unfold shDoc; rw [if_pos (by omega)]
      rw [hdoc]
      by_cases hz : 0 ≤ z
      · obtain ⟨s, rfl⟩ := Int.eq_ofNat_of_zero_le hz
        rw [shVal_left]
        have hz1 : ¬ (80000 : Int) < (s : Int) := by omega
        have hz2 : ¬ (s : Int) < -80000 := by omega
        have hz3 : (0 : Int) ≤ (s : Int) := by omega
        go_enter Try.func9, Try.ntmps9
        go_wp2_with fail
        refine (l1Fits_any ao n c _ (by omega)).mono ?_
        rintro e w1 ⟨rfl, rfl⟩
        rw [d1]
        go_wp2_with fail
        refine (l1In_any ao n c xs _ hl (by omega) hx hr).mono ?_
        rintro e w3 ⟨ao1, cap1, rfl, ho1, hb1⟩
        go_wp2_with fail
        refine (l1Left_any ao1 _ cap1 s (V xs) _ rfl (by omega) (by omega) (Rd.own ho1)).mono ?_
        rintro e w5 ⟨ao3, cap3, rfl, ho3, hb3⟩
        have b3 := hb1.trans (hb3.mono hb1.size)
        have hs3 := len_shl32 (V xs) s 2400 (by omega)
        go_wp2_with fail
        refine (l1Out_any ao3 _ cap3 (V xs * 2 ^ s) _ rfl (by omega) (Rd.own ho3)).mono ?_
        rintro e w6 ⟨ao4, cap4, rfl, ho4, hb4⟩
        go_wp2_with fail
        go_ret
        exact ⟨ao4, cap4, rfl, own_base ho4 b3.size, b3.trans (hb4.mono b3.size)⟩
      · obtain ⟨s, hs⟩ := Int.eq_ofNat_of_zero_le (show 0 ≤ -z by omega)
        have e : z = -(s : Int) := by omega
        subst e
        rw [shVal_right _ _ (by omega)]
        have hz1 : ¬ (80000 : Int) < -(s : Int) := by omega
        have hz2 : ¬ -(s : Int) < -80000 := by omega
        have hz3 : ¬ (0 : Int) ≤ -(s : Int) := by omega
        clear hs
        go_enter Try.func9, Try.ntmps9
        go_wp2_with fail
        refine (l1Fits_any ao n c _ (by omega)).mono ?_
        rintro e w1 ⟨rfl, rfl⟩
        rw [d1]
        go_wp2_with fail
        refine (l1In_any ao n c xs _ hl (by omega) hx hr).mono ?_
        rintro e w3 ⟨ao1, cap1, rfl, ho1, hb1⟩
        go_wp2_with fail
        refine (l1Right_any ao1 _ cap1 s (V xs) _ rfl (by omega) (by omega) (Rd.own ho1)).mono ?_
        rintro e w5 ⟨ao3, cap3, rfl, ho3, hb3⟩
        have b3 := hb1.trans (hb3.mono hb1.size)
        have hs3 : (D (V xs / 2 ^ s)).length ≤ 2400 := len_shr (by omega) (V xs) s 2400 (show (D (V xs)).length ≤ 2400 by omega)
        go_wp2_with fail
        refine (l1Out_any ao3 _ cap3 (V xs / 2 ^ s) _ rfl (by omega) (Rd.own ho3)).mono ?_
        rintro e w6 ⟨ao4, cap4, rfl, ho4, hb4⟩
        go_wp2_with fail
        go_ret
        exact ⟨ao4, cap4, rfl, own_base ho4 b3.size, b3.trans (hb4.mono b3.size)⟩
    · have hdoc : shDoc xs z = [] := by unfold shDoc; rw [if_neg (by omega)]
      rw [hdoc]
      by_cases h3 : 80000 < z
      · go_enter Try.func9, Try.ntmps9
        go_wp2_with fail
        refine (l1Fits_any ao n c _ (by omega)).mono ?_
        rintro e w1 ⟨rfl, rfl⟩
        rw [d1]
        go_wp2_with fail
        go_ret
        exact Ret.nil (Below.refl _ _)
      · have h4 : z < -80000 := by omega
        go_enter Try.func9, Try.ntmps9
        go_wp2_with fail
        refine (l1Fits_any ao n c _ (by omega)).mono ?_
        rintro e w1 ⟨rfl, rfl⟩
        rw [d1]
        go_wp2_with fail
        go_ret
        exact Ret.nil (Below.refl _ _)
  · have d1 : decide (n ≤ 1200) = false := by simpa using h1
    have hdoc : shDoc xs z = [] := by unfold shDoc; rw [if_neg (by omega)]
    rw [hdoc]
    go_enter Try.func9, Try.ntmps9
    go_wp2_with fail
    refine (l1Fits_any ao n c _ (by omega)).mono ?_
    rintro e w1 ⟨rfl, rfl⟩
    rw [d1]
    go_wp2_with fail
    go_ret
    exact Ret.nil (Below.refl _ _)

end Go.Proofs.Ytehplfmnipadmae

namespace Go.Proofs.Ytehplfmnipadmae
open Go.RowKit
set_option linter.unusedVariables false
set_option maxRecDepth 100000

set_option maxHeartbeats 1000000 in
theorem l1Add_any (ao bo : Option Addr) (n m c d : Nat) (a b : Nat) (w : World) (hl : (D a).length = n) (hm : (D b).length = m) (hn : n ≤ 2097152) (hn2 : m ≤ 2097152) (hr : Rd w ao (D a)) (hr2 : Rd w bo (D b)) :
    Calls Try.prog 47 #[.slice ao n c, .slice bo m d] w fun e w' => ∃ ao' cap', e = .returned (.slice ao' (D (a + b)).length cap') ∧ w'.ownsRow w.heap.size 25 1 (.slice ao' (D (a + b)).length cap') (D (a + b)).length (U (D (a + b))) ∧ Below w.heap.size w w' := by
  obtain ⟨i0, hi, hz0, hz1, hz2⟩ := info_parts Try.infoU
  have fa := F32_D a
  have fb := F32_D b
  obtain ⟨mx, hmx⟩ : ∃ mx : Nat, n ≤ mx ∧ m ≤ mx ∧ mx ≤ 2097152 ∧ (mx = n ∨ mx = m) := ⟨max n m, by omega⟩
  have hh : (n < m ∧ mx = m) ∨ (¬ n < m ∧ mx = n) := by omega
  rcases hh with ⟨hnm, rfl⟩ | ⟨hnm, rfl⟩
  all_goals
    go_enter Try.func47, Try.ntmps47
    go_wp2_with fail
    go_loopw [6, 7, 8] (fun v cy i wr => ∃ (k : Nat) (os : List Nat) (cc : Nat), k ≤ mx + 1 ∧ i = .int .i64 k ∧ cy = .int .u64 cc ∧ cc ≤ 1 ∧ wr.ownsRow w.heap.size 25 1 v k (U os) ∧ F32 os ∧ os.length = k ∧ X os + cc * 4294967296 ^ k = X ((D a).take k) + X ((D b).take k) ∧ Below w.heap.size w wr) (fun _ _ i _ => mx + 2 - (intOf i).toNat)
    case atStart => exact ⟨0, [], 0, by omega, rfl, rfl, by omega, World.ownsRow_nil _ _ _ _, fun x hx => by simp at hx, rfl, by simp [X, M.val], Below.refl _ _⟩
    case round =>
      obtain ⟨k, os, cc, hk, rfl, rfl, hcc, hown, hf, hlen, hv, hbl⟩ := hrel
      have HV := hid hv; clear hv
      have HLen := hid hlen; clear hlen
      by_cases hlt : k ≤ mx
      · obtain ⟨x, hxx⟩ : ∃ x : Nat, x = (D a).getD k 0 := ⟨_, rfl⟩
        obtain ⟨y, hyy⟩ : ∃ y : Nat, y = (D b).getD k 0 := ⟨_, rfl⟩
        have hx1 := fa.get k
        have hy1 := fb.get k
        rw [← hxx] at hx1
        rw [← hyy] at hy1
        have HX := hid hxx; clear hxx
        have HY := hid hyy; clear hyy
        have hlt' : (k : Int) ≤ (mx : Int) := by omega
        go_wp2_with fail
        refine (l1At_any ao _ c k (D a) _ hl (by omega) (by omega) (hr.below hbl) x HX.out).mono ?_
        rintro e w1 ⟨rfl, rfl⟩
        go_wp2_with fail
        refine (l1At_any bo _ d k (D b) _ hm (by omega) (by omega) (hr2.below hbl) y HY.out).mono ?_
        rintro e w2 ⟨rfl, rfl⟩
        have hlow : bits BinOp.and IntKind.u64 ((x : Int) + (y : Int) + (cc : Int)) 4294967295 = (((x + y + cc) % 4294967296 : Nat) : Int) := by
          rw [and_low32 _ (by omega) (by omega)]; omega
        go_wp2_with (at_builtin; refine wpList_append_own _ rfl _ _ 31 rfl w.heap.size 25 i0 (.int .u64 0) 1 8 Try.underlying31 hi hz0 hz1 hz2 rfl (by decide) _ _ _ rfl (hown.alloc _) ⟨w2.heap.size, 0, none⟩ 1 1 (U [(x + y + cc) % 4294967296]) rfl rfl ?c1 ?c2 ?c3 ?c4 ?c5 ?_)
        case c1 =>
          intro j u hj
          match j, hj with
          | 0, hj => simp [U] at hj; subst hj; simp [Addr.add]
        case c2 => exact U_one _
        case c3 => unfold maxLen; omega
        case c4 => omega
        case c5 => have := hbl.size; simp; omega
        intro v' w1 hown' hgrow hnn
        clear hnn
        have hb1 : Below w.heap.size w w1 := (hbl.alloc hbl.size _).grown hgrow (by have := hbl.size; simp; omega) (fun k' hk' => (hown.lt k' hk').1)
        clear hown hgrow
        go_wp2_with fail
        go_roundw
        case rel =>
          have R : ∃ (k1 : Nat) (os1 : List Nat) (cc1 : Nat), k1 ≤ mx + 1 ∧ Value.int .i64 ((k : Int) + 1) = .int .i64 k1 ∧ Value.int .u64 (((x : Int) + (y : Int) + (cc : Int)) / 4294967296) = .int .u64 cc1 ∧ cc1 ≤ 1 ∧ w1.ownsRow w.heap.size 25 1 v' k1 (U os1) ∧ F32 os1 ∧ os1.length = k1 ∧ X os1 + cc1 * 4294967296 ^ k1 = X ((D a).take k1) + X ((D b).take k1) ∧ Below w.heap.size w w1 := by
            refine ⟨k + 1, os ++ [(x + y + cc) % 4294967296], (x + y + cc) / 4294967296, by omega, by go_num, by go_num, by omega, ?_, ?_, by simp [HLen.out], ?_, hb1⟩
            · rw [U_append]; exact hown'
            · intro z hz
              rcases List.mem_append.1 hz with hz | hz
              · exact hf z hz
              · simp at hz; omega
            · unfold X at *
              rw [M.val_snoc, HLen.out, M.val_take_succ, M.val_take_succ, ← HX.out, ← HY.out, Nat.pow_succ]
              exact M.add_place HV.out (by omega)
          first | exact R | ((repeat apply Exists.intro); exact ⟨R, rfl⟩)
        case measure => simp [intOf]; omega
      · have e : k = mx + 1 := by omega
        have hfin : X os = a + b := by
          have h1 := HV.out
          rw [X_takeD a k (by omega), X_takeD b k (by omega)] at h1
          have h2 := D_lt a mx (by omega)
          have h3 := D_lt b mx (by omega)
          refine (M.no_carry h1 ?_).2
          rw [e, Nat.pow_succ]; omega
        have hv := own_shape hown
        obtain ⟨ao1, cap1, hv⟩ := hv
        rw [hv]
        rw [hv] at hown
        have hlt' : ¬ (k : Int) ≤ (mx : Int) := by omega
        clear e hv
        have HF := hid hfin; clear hfin
        go_wp2_with fail
        have hrd := Rd.own hown
        refine (l1Trim_any 4294967296 (by omega) ao1 _ cap1 os _ HLen.out (own_cap hown) (by omega) hf hrd).mono ?_
        have hfin : M.val 4294967296 os = a + b := HF.out
        rw [hfin]
        rintro e w1 ⟨ao', cap', rfl, ho, hb⟩
        go_wp2_with fail
        go_ret
        exact ⟨ao', cap', rfl, own_base ho hbl.size, hbl.trans (hb.mono hbl.size)⟩

end Go.Proofs.Ytehplfmnipadmae

namespace Go.Proofs.Ytehplfmnipadmae
open Go.RowKit
set_option linter.unusedVariables false
set_option maxRecDepth 100000

theorem V_snoc0 (xs : List Nat) : V (xs ++ List.replicate 1 0) = V xs := by
  unfold V; rw [M.val_append]; simp [M.val]

set_option maxHeartbeats 1000000 in
theorem add_ge (ao bo : Option Addr) (n m c d : Nat) (a b : Nat) (w : World) (sw : Bool) (hl : (L a).length = n) (hm : (L b).length = m) (hnm : m ≤ n) (hn : n ≤ 1048576) (hr : Rd w ao (L a)) (hr2 : Rd w bo (L b)) (hsw : sw = true → m < n) :
    Calls Try.prog 38 (if sw then #[.slice bo m d, .slice ao n c] else #[.slice ao n c, .slice bo m d]) w fun e w' => Ret w w' e (L (a + b)) := by
  have fin : ∀ (w1 w2 : World), Blk w1 w.heap.size (L a ++ List.replicate 1 0) → Below w.heap.size w w1 → AddInPost w1 w2 w.heap.size (L a ++ List.replicate 1 0) 0 (n + 1) (V (L b)) →
      ∃ cur, Blk w2 w.heap.size cur ∧ cur.length = n + 1 ∧ F64 cur ∧ V cur = a + b ∧ Below w.heap.size w w2 := by
    intro w1 w2 hB hb hp
    obtain ⟨hg, cur, cc, hBc, hW, hc1, hv⟩ := hp
    have hlen : cur.length = n + 1 := by rw [hW.len]; simp [hl]
    refine ⟨cur, hBc, hlen, hW.lt, ?_, hb.trans ((Below.refl _ _).grown hg hb.size (fun _ h => by cases h; exact Nat.le_refl _))⟩
    rw [M.seg_all cur _ hlen, M.seg_all _ _ (by simp [hl]), V_snoc0, V_L, V_L] at hv
    have h1 := L_lt a n (by omega)
    have h2 := L_lt b n (by omega)
    exact (M.no_carry hv (by rw [Nat.pow_succ]; omega)).2
  have hsep : ∀ b2 o2, 0 < (L b).length → bo = some ⟨b2, o2, none⟩ → b2 ≠ w.heap.size := by
    intro b2 o2 hp e
    obtain ⟨b3, o3, e3, hc⟩ := hr2 hp
    rw [e] at e3
    simp only [Option.some.injEq, Addr.mk.injEq] at e3
    have := World.block_lt_of_cell? w _ (hc 0 hp)
    simp at this
    omega
  cases sw
  · have hlt : ¬ (n : Int) < (m : Int) := by omega
    simp only [Bool.false_eq_true, if_false]
    go_enter Try.func38, Try.ntmps38
    go_wp2_with fail
    refine (clone_any ao n c 1 (L a) _ hl (by omega) (by omega) hr).mono ?_
    rintro e w1 ⟨rfl, hB1, hb1⟩
    go_wp2_with fail
    refine (addIn_any w.heap.size 0 (n + 1) (n + 1) bo m d _ (L b) _ hB1 (fun x hx => ?_) (by simp [hl]) (by omega) hm (by omega) (F64_L b) (hr2.below hb1) (fun hp b2 o2 => hsep b2 o2 hp)).mono ?_
    · rcases List.mem_append.1 hx with hx | hx
      · exact F64_L a x hx
      · simp at hx; omega
    rintro e w2 ⟨rfl, hp⟩
    obtain ⟨cur, hB2, hlen, hf, hv, hb2⟩ := fin w1 w2 hB1 hb1 hp
    clear hp fin hB1
    go_wp2_with fail
    refine (trim_any _ (n + 1) (n + 1) cur _ hlen (Nat.le_refl _) (by omega) hf hB2.rd0).mono ?_
    rw [hv]
    rintro e w3 ⟨rfl, rfl⟩
    go_wp2_with fail
    go_ret
    have h1 := L_len cur hf
    have h2 := L_take cur hf
    rw [hv] at h1 h2
    have h3 := hB2.ownPre (base := w.heap.size) (Nat.le_refl _) h1 hlen (by unfold maxLen; omega)
    rw [h2] at h3
    exact ⟨_, _, rfl, h3, hb2⟩
  · have hlt : (m : Int) < (n : Int) := by have := hsw rfl; omega
    simp only [if_true]
    go_enter Try.func38, Try.ntmps38
    go_wp2_with fail
    refine (clone_any ao n c 1 (L a) _ hl (by omega) (by omega) hr).mono ?_
    rintro e w1 ⟨rfl, hB1, hb1⟩
    go_wp2_with fail
    refine (addIn_any w.heap.size 0 (n + 1) (n + 1) bo m d _ (L b) _ hB1 (fun x hx => ?_) (by simp [hl]) (by omega) hm (by omega) (F64_L b) (hr2.below hb1) (fun hp b2 o2 => hsep b2 o2 hp)).mono ?_
    · rcases List.mem_append.1 hx with hx | hx
      · exact F64_L a x hx
      · simp at hx; omega
    rintro e w2 ⟨rfl, hp⟩
    obtain ⟨cur, hB2, hlen, hf, hv, hb2⟩ := fin w1 w2 hB1 hb1 hp
    clear hp fin hB1
    go_wp2_with fail
    refine (trim_any _ (n + 1) (n + 1) cur _ hlen (Nat.le_refl _) (by omega) hf hB2.rd0).mono ?_
    rw [hv]
    rintro e w3 ⟨rfl, rfl⟩
    go_wp2_with fail
    go_ret
    have h1 := L_len cur hf
    have h2 := L_take cur hf
    rw [hv] at h1 h2
    have h3 := hB2.ownPre (base := w.heap.size) (Nat.le_refl _) h1 hlen (by unfold maxLen; omega)
    rw [h2] at h3
    exact ⟨_, _, rfl, h3, hb2⟩

theorem add_any (ao bo : Option Addr) (n m c d : Nat) (a b : Nat) (w : World) (hl : (L a).length = n) (hm : (L b).length = m) (hn : n ≤ 1048576) (hm2 : m ≤ 1048576) (hr : Rd w ao (L a)) (hr2 : Rd w bo (L b)) :
    Calls Try.prog 38 #[.slice ao n c, .slice bo m d] w fun e w' => Ret w w' e (L (a + b)) := by
  by_cases h : m ≤ n
  · exact add_ge ao bo n m c d a b w false hl hm h hn hr hr2 (fun h => by cases h)
  · have := add_ge bo ao m n d c b a w true hm hl (by omega) (by omega) hr2 hr (fun _ => by omega)
    rw [Nat.add_comm b a] at this
    exact this

/-- What NatAdd is to answer. -/
def addDoc (xs ys : List Nat) : List Nat := if xs.length ≤ 1200 ∧ ys.length ≤ 1200 then L (V xs + V ys) else []

theorem addDoc_len (xs ys : List Nat) (hx : F64 xs) (hy : F64 ys) : (addDoc xs ys).length ≤ 2400 := by
  unfold addDoc
  split
  · next h =>
    have h1 := L_len xs hx
    have h2 := L_len ys hy
    have := M.len_add (B := 18446744073709551616) (by omega) (V xs) (V ys) 1200 (show (L (V xs)).length ≤ 1200 by omega) (show (L (V ys)).length ≤ 1200 by omega)
    exact Nat.le_trans this (by omega)
  · simp

set_option maxHeartbeats 1000000 in
theorem implNatAdd_any (ao bo : Option Addr) (n m c d : Nat) (xs ys : List Nat) (w : World) (hl : xs.length = n) (hm : ys.length = m) (hc : n ≤ c) (hd : m ≤ d) (hn : n ≤ 1048576) (hn2 : m ≤ 1048576) (hx : F64 xs) (hy : F64 ys) (hr : Rd w ao xs) (hr2 : Rd w bo ys) :
    Calls Try.prog 10 #[.slice ao n c, .slice bo m d] w fun e w' => Ret w w' e (addDoc xs ys) := by
  by_cases h1 : n ≤ 1200 ∧ m ≤ 1200
  · have hdoc : addDoc xs ys = L (V xs + V ys) := by unfold addDoc; rw [if_pos (by omega)]
    rw [hdoc]
    have hall : true = [n, m].all (fun x => decide (x ≤ 1200)) := by simp [h1]
    have hall' := hid hall; clear hall
    go_enter Try.func10, Try.ntmps10
    go_wp2_with fail
    refine (short_any _ 2 [n, m] true _ rfl (by omega) (by simp; omega) hall'.out (two_cells _ _ _ _ _ _ _ _)).mono ?_
    rintro e w1 ⟨rfl, hw1⟩
    have hb1 : Below w.heap.size w w1 := by rw [hw1]; exact (Below.refl _ _).alloc (Nat.le_refl _) _
    clear hw1
    go_wp2_with fail
    refine (trim_any ao n c xs _ hl hc (by omega) hx (hr.below hb1)).mono ?_
    rintro e w2 ⟨rfl, rfl⟩
    go_wp2_with fail
    refine (trim_any bo m d ys _ hm hd (by omega) hy (hr2.below hb1)).mono ?_
    rintro e w3 ⟨rfl, rfl⟩
    go_wp2_with fail
    have s1 := L_len xs hx
    have s2 := L_len ys hy
    refine (add_any ao bo _ _ c d (V xs) (V ys) _ rfl rfl (by omega) (by omega) ((hr.below hb1).trim hx) ((hr2.below hb1).trim hy)).mono ?_
    rintro e w4 hret
    obtain ⟨ao', cap', rfl, ho, hb⟩ := hret.later hb1
    go_wp2_with fail
    go_ret
    exact ⟨ao', cap', rfl, ho, hb⟩
  · have hdoc : addDoc xs ys = [] := by unfold addDoc; rw [if_neg (by omega)]
    rw [hdoc]
    have hall : false = [n, m].all (fun x => decide (x ≤ 1200)) := by simp; omega
    have hall' := hid hall; clear hall
    go_enter Try.func10, Try.ntmps10
    go_wp2_with fail
    refine (short_any _ 2 [n, m] false _ rfl (by omega) (by simp; omega) hall'.out (two_cells _ _ _ _ _ _ _ _)).mono ?_
    rintro e w1 ⟨rfl, hw1⟩
    have hb1 : Below w.heap.size w w1 := by rw [hw1]; exact (Below.refl _ _).alloc (Nat.le_refl _) _
    clear hw1
    go_wp2_with fail
    go_ret
    exact Ret.nil hb1

end Go.Proofs.Ytehplfmnipadmae

namespace Go.Proofs.Ytehplfmnipadmae
open Go.RowKit
set_option linter.unusedVariables false
set_option maxRecDepth 100000

theorem fld_pw (a b h l E : Int) (x y : Bool) (w : World) : (Instr.field 29 (.agg #[.int .i64 a, .int .i64 b, .int .u64 h, .int .u64 l, .int .i64 E, .bool x, .bool y]) 5).run Try.prog w = .ok (.bool y) w := by kernel_rfl

theorem pw_one (u : World) (t : TypeId) : Rd (u.alloc (.cells #[.int .u64 1] t)) (some ⟨u.heap.size, 0, none⟩) [1] := by
  intro _
  refine ⟨u.heap.size, 0, rfl, fun i hi => ?_⟩
  have : i = 0 := by simp at hi; omega
  subst this
  simp [go_sem]

theorem pw_two (u : World) (a b : Nat) (t : TypeId) : Rd (u.alloc (.cells #[.int .u64 (a : Int), .int .u64 (b : Int)] t)) (some ⟨u.heap.size, 0, none⟩) [a, b] := by
  intro _
  refine ⟨u.heap.size, 0, rfl, fun i hi => ?_⟩
  have : i = 0 ∨ i = 1 := by simp at hi; omega
  rcases this with rfl | rfl <;> simp [go_sem]

theorem cd_lt (xs ys : List Nat) (h1 : xs.length ≤ 1200) (h2 : ys.length ≤ 1200) (h : V xs < V ys) : cmpDoc xs ys = -1 := by
  unfold cmpDoc cmpI; rw [if_pos ⟨h1, h2⟩, if_pos (by omega)]
theorem cd_eq (xs ys : List Nat) (h1 : xs.length ≤ 1200) (h2 : ys.length ≤ 1200) (h : V xs = V ys) : cmpDoc xs ys = 0 := by
  unfold cmpDoc cmpI; rw [if_pos ⟨h1, h2⟩, if_neg (by omega), if_neg (by omega)]
theorem cd_gt (xs ys : List Nat) (h1 : xs.length ≤ 1200) (h2 : ys.length ≤ 1200) (h : V ys < V xs) : cmpDoc xs ys = 1 := by
  unfold cmpDoc cmpI; rw [if_pos ⟨h1, h2⟩, if_neg (by omega), if_pos (by omega)]
theorem cd_ge (xs ys : List Nat) (h1 : xs.length ≤ 1200) (h2 : ys.length ≤ 1200) (h : V ys ≤ V xs) : ¬ cmpDoc xs ys = -1 := by
  unfold cmpDoc cmpI; rw [if_pos ⟨h1, h2⟩, if_neg (by omega)]; split <;> omega

theorem pwL (a j K : Nat) (h : a < 2 ^ j) (hj : j ≤ 64 * K) : (L a).length ≤ K := by
  refine M.len_of_lt (B := 18446744073709551616) (by omega) _ _ ?_
  rw [show (18446744073709551616 : Nat) = 2 ^ 64 by rfl, ← Nat.pow_mul]
  exact Nat.lt_of_lt_of_le h (Nat.pow_le_pow_right (by omega) hj)

theorem pwV (l h : Nat) : V [l, h] = h * 18446744073709551616 + l := by simp [V, M.val]; omega
theorem pwV1 : V [1] = 1 := by simp [V, M.val]

theorem pw_mul {a b i j : Nat} (ha : a < 2 ^ i) (hb : b < 2 ^ j) : a * b < 2 ^ (i + j) := by
  rw [Nat.pow_add]
  exact Nat.mul_lt_mul'' ha hb

theorem pw_ten_lt (j i : Nat) (h : j ≤ 5200) (hi : 17341 ≤ i) : 10 ^ j < 2 ^ i := by
  have h1 := lt_blen (10 ^ j)
  have h2 := pw_blen j h
  exact Nat.lt_of_lt_of_le h1 (Nat.pow_le_pow_right (by omega) (Nat.le_trans h2 hi))

theorem pw_two_lt (e i : Nat) (h : e < i) : 2 ^ e < 2 ^ i := Nat.pow_lt_pow_right (by omega) h

theorem sh_any (xs : List Nat) (s : Nat) (hx : xs.length ≤ 1200) (h : s ≤ 80000) : shDoc xs (s : Int) = L (V xs * 2 ^ s) := by
  unfold shDoc
  rw [if_pos ⟨hx, by omega, by omega⟩, shVal_left]

theorem pow_ten (j : Nat) (h : j ≤ 5200) : powDoc 10 (j : Int) = L (10 ^ j) := by
  have hb : blen 10 ≤ 4 := blen_le_of 10 4 (by omega)
  have hm : blen 10 * j ≤ 4 * 5200 := Nat.mul_le_mul hb h
  unfold powDoc
  rw [if_pos ⟨by omega, by omega, by rw [Int.toNat_natCast]; omega⟩, Int.toNat_natCast]

theorem pw_fin (X Y T A R N : Nat) (hT : T = X / Y) (hY : 0 < Y) (x : Bool) (hx : x = decide (X % Y = 0)) (eA : A = T * Y) (eR : R = X) (eN : N = (T + 1) * Y) : (x = true → A = R) ∧ (x = false → A < R) ∧ R < N := by
  rw [eA, eR, eN, hT]
  refine ⟨fun h => ?_, fun h => ?_, pw_gt X Y hY⟩
  · exact (pw_eq X Y).2 (by rw [hx] at h; simpa using h)
  · have h1 := pw_le X Y
    have h2 : ¬ X / Y * Y = X := fun q => by
      have := (pw_eq X Y).1 q
      rw [hx] at h
      simp [this] at h
    omega

theorem sh_one (s : Nat) (h : s ≤ 80000) : shDoc [1] (s : Int) = L (2 ^ s) := by
  unfold shDoc
  rw [if_pos ⟨by simp, by omega, by omega⟩, shVal_left, pwV1, Nat.one_mul]

set_option maxRecDepth 100000 in
set_option maxHeartbeats 4000000 in
theorem lawPwKey (a0 : Option Addr) (n c : Nat) (bs : List Nat) (w : World) (hl : bs.length = n) (hn : n ≤ 1048576) (hb : RdB w a0 bs) :
    Calls Try.prog 3 #[.slice a0 n c] w fun e w' => e = .returned (.bool true) ∧ Below w.heap.size w w' := by
  have hn' : ¬ (1048576 : Int) < (n : Int) := by omega
  go_enter Try.func3, Try.ntmps3
  go_wp2_with fail
  refine (drawTP_any a0 n c bs _ hl hn hb).mono ?_
  rintro e v1 ⟨k, W, rfl, b1⟩
  have k1 := fun v : World => specTenPower_any k W v
  have k2 := fun v : World => implTenPower_any k W v
  by_cases hin : -5200 ≤ k ∧ k ≤ 5200 ∧ 1 ≤ W ∧ W ≤ 128
  · have ht : tpv k W = pwv k W (tX k W / tY k W) (tExp k W) (decide (tX k W % tY k W = 0)) true := by unfold tpv; rw [if_pos hin]
    rw [ht] at k1 k2
    clear ht
    have hq := top_lt k W hin
    have hbt := top_bits k W hin
    have hE := tE_bound k W hin
    have hY := tY_gt k W
    unfold pwv at k1 k2
    go_wp2_with fail
    refine (k2 _).mono ?_
    rintro e v2 ⟨rfl, b2⟩
    go_upto_region 3 with fail
    have hfd := fld_pw
    obtain ⟨T, hTd⟩ : ∃ T, T = tX k W / tY k W := ⟨_, rfl⟩
    obtain ⟨E, hEd⟩ : ∃ E, E = tExp k W := ⟨_, rfl⟩
    obtain ⟨x, hxd⟩ : ∃ x, x = decide (tX k W % tY k W = 0) := ⟨_, rfl⟩
    rw [← hTd] at hq hbt
    rw [← hEd] at hE
    rw [← hTd, ← hEd, ← hxd] at k1 ⊢
    have HD := hid (And.intro hTd (And.intro hEd (And.intro hxd (And.intro hq (And.intro hbt hY)))))
    clear hTd hEd hxd k2 hq hbt hY
    have hb := (Below.refl v2.heap.size v2).alloc (Nat.le_refl _) (.cells #[.int .i64 k, .int .i64 W, .int .u64 (M.hiN T : Int), .int .u64 (M.loN T : Int), .int .i64 E, .bool x, .bool true] 29)
    have hP := Cls.new v2 #[.int .i64 k, .int .i64 W, .int .u64 (M.hiN T : Int), .int .u64 (M.loN T : Int), .int .i64 E, .bool x, .bool true] 29
    have b3 : Below w.heap.size w (v2.alloc (.cells #[.int .i64 k, .int .i64 W, .int .u64 (M.hiN T : Int), .int .u64 (M.loN T : Int), .int .i64 E, .bool x, .bool true] 29)) := (b1.trans (b2.mono b1.size)).trans (hb.mono (Nat.le_trans b1.size b2.size))
    clear hb b1 b2
    generalize v2.alloc (.cells #[.int .i64 k, .int .i64 W, .int .u64 (M.hiN T : Int), .int .u64 (M.loN T : Int), .int .i64 E, .bool x, .bool true] 29) = v3 at *
    generalize v2.heap.size = gp at *
    go_cut [28] (fun z wx => z = .bool false ∧ Below v3.heap.size v3 wx)
    case first =>
      have A0 : Below v3.heap.size v3 v3.drew := (Below.refl _ _).drew
      have KB : ∀ v, Below v3.heap.size v3 v → (fun v => v.cell? ⟨gp, 6, none⟩ = some (.bool true)) v := fun v hv => (hP.below hv).cell 6 rfl
      have d6 := hP.cell 6 rfl
      go_region_held3 (fun v => v.cell? ⟨gp, 6, none⟩ = some (.bool true)) (first | with_reducible exact KB _ hb1 | with_reducible exact KB _ A0) (first | (go_at_call 7; refine (k1 _).mono ?_; rintro e u1 ⟨rfl, hb0⟩; have hb1 := keepC1 (w1 := v3) A0 hb0; clear hb0))
      all_goals go_wp2_with fail
      all_goals go_meet
      all_goals exact ⟨rfl, hb1⟩
    case rest =>
    obtain ⟨rfl, hbx⟩ := hcut
    replace hP := hP.below hbx
    replace b3 := b3.trans (hbx.mono b3.size)
    clear hbx k1 hfd
    rename World => v4
    have d0 := hP.cell 0 rfl
    have d1 := hP.cell 1 rfl
    have d2 := hP.cell 2 rfl
    have d3 := hP.cell 3 rfl
    have d4 := hP.cell 4 rfl
    have d6 := hP.cell 6 rfl
    have e1 : ¬ (20000 : Int) < E := by omega
    have e2 : ¬ E < (-20000 : Int) := by omega
    go_upto_region 12 with fail
    clear d0 d1 d2 d3 d4 d6 e1 e2
    have hb := (Below.refl v4.heap.size v4).alloc (Nat.le_refl _) (.cells #[.int .u64 (M.loN T : Int), .int .u64 (M.hiN T : Int)] 25)
    have rT := pw_two v4 (M.loN T) (M.hiN T) 25
    replace hP := hP.below hb
    replace b3 := b3.trans (hb.mono b3.size)
    clear hb
    generalize v4.alloc (.cells #[.int .u64 (M.loN T : Int), .int .u64 (M.hiN T : Int)] 25) = v5 at *
    generalize v4.heap.size = gt at *
    have hq := HD.out.2.2.2.1
    have fT : F64 [M.loN T, M.hiN T] := by intro y hy; simp at hy; have := M.loLt T; have := M.hiLt hq; omega
    have vT : V [M.loN T, M.hiN T] = T := by rw [pwV]; exact (M.hl T).symm
    have FT := hid (And.intro fT vT)
    clear fT vT hq
    obtain ⟨m, hm⟩ : ∃ m : Nat, W = (m : Int) := ⟨W.toNat, by omega⟩
    subst hm
    have k1 : ∀ (v : World) (ao : Option Addr) (c : Nat), Rd v ao [1] → Calls Try.prog 9 #[.slice ao 1 c, .int .i64 ((m : Int) - 1)] v fun e w' => Ret v w' e (L (2 ^ (m - 1))) := fun v ao c hr => by
      have := specNatShift_any ao 1 c [1] ((m - 1 : Nat) : Int) v rfl (by omega) (by intro y hy; simp at hy; omega) hr
      rw [sh_one _ (by omega), show ((m - 1 : Nat) : Int) = (m : Int) - 1 by omega] at this
      exact this
    have k2 : ∀ (v : World) (ao : Option Addr) (c : Nat), Rd v ao [1] → Calls Try.prog 9 #[.slice ao 1 c, .int .i64 (m : Int)] v fun e w' => Ret v w' e (L (2 ^ m)) := fun v ao c hr => by
      have := specNatShift_any ao 1 c [1] (m : Int) v rfl (by omega) (by intro y hy; simp at hy; omega) hr
      rw [sh_one _ (by omega)] at this
      exact this
    have k3 : ∃ q : Int, (q == -1) = false ∧ ¬ q = -1 ∧ ∀ (v : World) (ao bo : Option Addr) (c d : Nat), Rd v ao [M.loN T, M.hiN T] → Rd v bo (L (2 ^ (m - 1))) → Calls Try.prog 8 #[.slice ao 2 c, .slice bo (L (2 ^ (m - 1))).length d] v fun e w' => e = .returned (.int .i64 q) ∧ Below v.heap.size v w' := by
      have ll := pwL (2 ^ (m - 1)) m 3 (Nat.pow_lt_pow_right (by omega) (by omega)) (by omega)
      have hge := cd_ge [M.loN T, M.hiN T] (L (2 ^ (m - 1))) (by simp) (by omega) (by rw [V_L, FT.out.2]; have := HD.out.2.2.2.2.1.1; rwa [show ((m : Int) - 1).toNat = m - 1 by omega] at this)
      exact ⟨_, by simpa using hge, hge, fun v ao bo c d h1 h2 => specNatCmp_any ao bo 2 _ c d _ _ v rfl rfl (by omega) (by omega) FT.out.1 (F64_L _) h1 h2⟩
    have k4 : ∀ (v : World) (ao bo : Option Addr) (c d : Nat), Rd v ao [M.loN T, M.hiN T] → Rd v bo (L (2 ^ m)) → Calls Try.prog 8 #[.slice ao 2 c, .slice bo (L (2 ^ m)).length d] v fun e w' => e = .returned (.int .i64 (-1)) ∧ Below v.heap.size v w' := by
      have ll := pwL (2 ^ m) (m + 1) 3 (Nat.pow_lt_pow_right (by omega) (by omega)) (by omega)
      have hlt := cd_lt [M.loN T, M.hiN T] (L (2 ^ m)) (by simp) (by omega) (by rw [V_L, FT.out.2]; have := HD.out.2.2.2.2.1.2; rwa [show ((m : Int)).toNat = m by omega] at this)
      intro v ao bo c d h1 h2
      have := specNatCmp_any ao bo 2 _ c d _ _ v rfl rfl (by omega) (by omega) FT.out.1 (F64_L (2 ^ m)) h1 h2
      rw [hlt] at this
      exact this
    obtain ⟨q, q1, q2, k3⟩ := k3
    generalize 2 ^ (m - 1) = N1 at k1 k3
    generalize 2 ^ m = N2 at k2 k4
    have o1 := pw_one v5 25
    have hb := (Below.refl v5.heap.size v5).alloc (Nat.le_refl _) (.cells #[.int .u64 1] 25)
    replace hP := hP.below hb
    replace rT := rT.below hb
    replace b3 := b3.trans (hb.mono b3.size)
    clear hb
    go_wp2_with fail
    generalize v5.alloc (.cells #[.int .u64 1] 25) = v6 at *
    refine (k1 _ _ _ o1).mono ?_
    rintro e v7 ⟨sa, sc, rfl, so, hb⟩
    replace hP := hP.below hb
    replace rT := rT.below hb
    replace b3 := b3.trans (hb.mono b3.size)
    clear hb o1 k1
    go_wp2_with fail
    refine (k3 _ _ _ _ _ rT (Rd.own so)).mono ?_
    rintro e v8 ⟨rfl, hb⟩
    replace hP := hP.below hb
    replace rT := rT.below hb
    replace b3 := b3.trans (hb.mono b3.size)
    clear hb so k3
    have o1 := pw_one v8 25
    have hb := (Below.refl v8.heap.size v8).alloc (Nat.le_refl _) (.cells #[.int .u64 1] 25)
    replace hP := hP.below hb
    replace rT := rT.below hb
    replace b3 := b3.trans (hb.mono b3.size)
    clear hb
    go_wp2_with fail
    generalize v8.alloc (.cells #[.int .u64 1] 25) = v9 at *
    refine (k2 _ _ _ o1).mono ?_
    rintro e v10 ⟨sa, sc, rfl, so, hb⟩
    replace hP := hP.below hb
    replace rT := rT.below hb
    replace b3 := b3.trans (hb.mono b3.size)
    clear hb o1 k2
    go_wp2_with fail
    refine (k4 _ _ _ _ _ rT (Rd.own so)).mono ?_
    rintro e v11 ⟨rfl, hb⟩
    replace hP := hP.below hb
    replace rT := rT.below hb
    replace b3 := b3.trans (hb.mono b3.size)
    clear hb so k4 q1 q2
    have o1 := pw_one v11 25
    have hb := (Below.refl v11.heap.size v11).alloc (Nat.le_refl _) (.cells #[.int .u64 1] 25)
    replace hP := hP.below hb
    replace rT := rT.below hb
    replace b3 := b3.trans (hb.mono b3.size)
    clear hb
    have lT : T < 2 ^ 128 := HD.out.2.2.2.1
    have kA : ∀ (v : World) (ao bo : Option Addr), Rd v ao [M.loN T, M.hiN T] → Rd v bo [1] → Calls Try.prog 10 #[.slice ao 2 2, .slice bo 1 1] v fun e w' => Ret v w' e (L (T + 1)) := fun v ao bo h1 h2 => by
      have := implNatAdd_any ao bo 2 1 2 1 _ _ v rfl rfl (by omega) (by omega) (by omega) (by omega) FT.out.1 (by intro y hy; simp at hy; omega) h1 h2
      rw [show addDoc [M.loN T, M.hiN T] [1] = L (T + 1) by unfold addDoc; rw [if_pos ⟨by simp, by simp⟩, FT.out.2, pwV1]] at this
      exact this
    go_wp2_with fail
    generalize v11.alloc (.cells #[.int .u64 1] 25) = v12 at *
    refine (kA _ _ _ rT o1).mono ?_
    rintro e v13 ⟨na, nc, rfl, no, hb⟩
    have rN := Rd.own no
    have cN := own_cap no
    replace hP := hP.below hb
    replace rT := rT.below hb
    replace b3 := b3.trans (hb.mono b3.size)
    clear hb
    clear no o1 kA
    go_upto_region 16 with fail
    have o1 := pw_one v13 25
    have hb := (Below.refl v13.heap.size v13).alloc (Nat.le_refl _) (.cells #[.int .u64 1] 25)
    replace hP := hP.below hb
    replace rT := rT.below hb
    replace rN := rN.below hb
    replace b3 := b3.trans (hb.mono b3.size)
    clear hb
    generalize v13.alloc (.cells #[.int .u64 1] 25) = v14 at *
    generalize v13.heap.size = gr at *
    have d4 := hP.cell 4 rfl
    rcases Int.lt_or_le k 0 with hk | hk
    · obtain ⟨j, hj⟩ : ∃ j : Nat, k = -(j : Int) := ⟨(-k).toNat, by omega⟩
      subst hj
      have hk' : ¬ (0 : Int) ≤ -(j : Int) := by omega
      have hE0 : E < 0 := by
        have h1 := HD.out.2.1
        unfold tExp at h1
        rw [tb_neg j (by omega) (by omega)] at h1
        have := blen_pos (10 ^ j) (Nat.pow_pos (by omega))
        omega
      obtain ⟨e, he⟩ : ∃ e : Nat, E = -(e : Int) := ⟨(-E).toNat, by omega⟩
      subst he
      have hE' : ¬ (0 : Int) ≤ -(e : Int) := by omega
      have l10 : (L (10 ^ j)).length ≤ 1200 := pwL _ _ 1200 (pw_ten_lt j 17341 (by omega) (Nat.le_refl _)) (by omega)
      have kP : ∀ v : World, Calls Try.prog 11 #[.int .u64 10, .int .i64 (j : Int)] v fun r w' => Ret v w' r (L (10 ^ j)) := fun v => by
        have := implNatPow_any 10 (j : Int) v (by omega)
        rw [pow_ten j (by omega)] at this
        exact this
      obtain ⟨A, hA⟩ : ∃ A : Nat, A = T * 10 ^ j := ⟨_, rfl⟩
      obtain ⟨N, hN⟩ : ∃ N : Nat, N = (T + 1) * 10 ^ j := ⟨_, rfl⟩
      obtain ⟨R, hRd⟩ : ∃ R : Nat, R = 2 ^ e := ⟨_, rfl⟩
      have kM : ∀ (v : World) (bo : Option Addr) (d : Nat), (L (10 ^ j)).length ≤ d → Rd v (some ⟨gt, 0, none⟩) [M.loN T, M.hiN T] → Rd v bo (L (10 ^ j)) → Calls Try.prog 12 #[.slice (some ⟨gt, 0, none⟩) 2 2, .slice bo (L (10 ^ j)).length d] v fun e' w' => Ret v w' e' (L A) := fun v bo d hd h1 h2 => by
        have := implNatMul_any (some ⟨gt, 0, none⟩) bo 2 _ 2 d _ _ v rfl rfl (by omega) hd (by omega) (by omega) FT.out.1 (F64_L (10 ^ j)) h1 h2
        rw [show mulDoc [M.loN T, M.hiN T] (L (10 ^ j)) = L A by unfold mulDoc; rw [if_pos ⟨by simp, l10⟩, FT.out.2, V_L, ← hA]] at this
        exact this
      have kU : ∀ (v : World) (bo : Option Addr) (d : Nat), (L (10 ^ j)).length ≤ d → Rd v na (L (T + 1)) → Rd v bo (L (10 ^ j)) → Calls Try.prog 12 #[.slice na (L (T + 1)).length nc, .slice bo (L (10 ^ j)).length d] v fun e' w' => Ret v w' e' (L N) := fun v bo d hd h1 h2 => by
        have ll : (L (T + 1)).length ≤ 1200 := pwL _ 129 1200 (by omega) (by omega)
        have := implNatMul_any na bo _ _ nc d _ _ v rfl rfl cN hd (by omega) (by omega) (F64_L (T + 1)) (F64_L (10 ^ j)) h1 h2
        rw [show mulDoc (L (T + 1)) (L (10 ^ j)) = L N by unfold mulDoc; rw [if_pos ⟨ll, l10⟩, V_L, V_L, ← hN]] at this
        exact this
      have kS : ∀ v : World, Rd v (some ⟨gr, 0, none⟩) [1] → Calls Try.prog 13 #[.slice (some ⟨gr, 0, none⟩) 1 1, .int .i64 (e : Int)] v fun e' w' => Ret v w' e' (L R) := fun v hr => by
        have := implNatShift_any (some ⟨gr, 0, none⟩) 1 1 [1] (e : Int) v rfl (by omega) (by omega) (by intro y hy; simp at hy; omega) hr
        rw [sh_one _ (by omega), ← hRd] at this
        exact this
      have lt1 : (L A).length ≤ 1200 := by rw [hA]; exact pwL _ (129 + 17341) 1200 (pw_mul (by omega) (pw_ten_lt j _ (by omega) (Nat.le_refl _))) (by omega)
      have ln1 : (L N).length ≤ 1200 := by rw [hN]; exact pwL _ (129 + 17341) 1200 (pw_mul (by omega) (pw_ten_lt j _ (by omega) (Nat.le_refl _))) (by omega)
      have lr1 : (L R).length ≤ 1200 := by rw [hRd]; exact pwL _ (e + 1) 1200 (pw_two_lt e _ (by omega)) (by omega)
      have ft1 : F64 (L A) := F64_L _
      have fn1 : F64 (L N) := F64_L _
      have fr1 : F64 (L R) := F64_L _
      have vt1 : V (L A) = A := V_L _
      have vn1 : V (L N) = N := V_L _
      have vr1 : V (L R) = R := V_L _
      have hf := pw_fin (tX (-(j : Int)) (m : Int)) (tY (-(j : Int)) (m : Int)) T A R N HD.out.1 (tY_gt _ _) x HD.out.2.2.1 (by unfold tY; rw [hA, tDen_neg, ← HD.out.2.1, show (-(e : Int)).toNat = 0 by omega, Nat.pow_zero, Nat.mul_one]) (by unfold tX; rw [hRd, tNum_neg, ← HD.out.2.1, show (- -(e : Int)).toNat = e by omega, Nat.one_mul]) (by unfold tY; rw [hN, tDen_neg, ← HD.out.2.1, show (-(e : Int)).toNat = 0 by omega, Nat.pow_zero, Nat.mul_one])
      have HF := hid (And.intro hf (And.intro lt1 (And.intro ln1 (And.intro lr1 (And.intro ft1 (And.intro fn1 (And.intro fr1 (And.intro vt1 (And.intro vn1 vr1)))))))))
      clear hf lt1 ln1 lr1 ft1 fn1 fr1 vt1 vn1 vr1
      have HAN := hid (And.intro hA (And.intro hN (And.intro hRd l10)))
      clear hA hN hRd l10 hE0
      go_wp2_with fail
      refine (kP _).mono ?_
      rintro e' vp ⟨pa, pc, rfl, so, hb⟩
      have rP := Rd.own so
      have cP := own_cap so
      replace hP := hP.below hb
      replace rT := rT.below hb
      replace rN := rN.below hb
      replace o1 := o1.below hb
      replace b3 := b3.trans (hb.mono b3.size)
      clear hb
      clear so kP d4
      go_wp2_with fail
      refine (kM _ _ _ cP rT rP).mono ?_
      rintro e' vu ⟨sa, sc, rfl, so, hb⟩
      have rS := Rd.own so
      have cS := own_cap so
      replace hP := hP.below hb
      replace rP := rP.below hb
      replace rN := rN.below hb
      replace o1 := o1.below hb
      replace b3 := b3.trans (hb.mono b3.size)
      clear hb
      clear so kM rT
      go_wp2_with fail
      refine (kU _ _ _ cP rN rP).mono ?_
      rintro e' vt ⟨ua, uc, rfl, so, hb⟩
      have rU := Rd.own so
      have cU := own_cap so
      replace hP := hP.below hb
      replace rS := rS.below hb
      replace o1 := o1.below hb
      replace b3 := b3.trans (hb.mono b3.size)
      clear hb
      clear so kU rN rP
      have d4 := hP.cell 4 rfl
      go_wp2_with fail
      refine (kS _ o1).mono ?_
      rintro e' vz ⟨ra, rc, rfl, so, hb⟩
      have rR := Rd.own so
      have cR := own_cap so
      replace hP := hP.below hb
      replace rS := rS.below hb
      replace rU := rU.below hb
      replace b3 := b3.trans (hb.mono b3.size)
      clear hb
      clear so kS o1
      obtain ⟨hf, lt1, ln1, lr1, ft1, fn1, fr1, vt1, vn1, vr1⟩ := HF.out
      clear HF
      have KN : ∀ v : World, Rd v ua (L N) → Rd v ra (L R) → Calls Try.prog 14 #[.slice ua (L N).length uc, .slice ra (L R).length rc] v fun e w' => e = .returned (.int .i64 1) ∧ Below v.heap.size v w' := fun v h1 h2 => by
        have := implNatCmp_any ua ra (L N).length (L R).length uc rc (L N) (L R) v rfl rfl cU cR (by omega) (by omega) fn1 fr1 h1 h2
        rwa [cd_gt _ _ ln1 lr1 (by rw [vn1, vr1]; exact hf.2.2)] at this
      have KC : ∀ q : Int, (x = true → q = 0) → (x = false → q = -1) → ∀ v : World, Rd v sa (L A) → Rd v ra (L R) → Calls Try.prog 14 #[.slice sa (L A).length sc, .slice ra (L R).length rc] v fun e w' => e = .returned (.int .i64 q) ∧ Below v.heap.size v w' := fun q q1 q2 v h1 h2 => by
        have := implNatCmp_any sa ra (L A).length (L R).length sc rc (L A) (L R) v rfl rfl cS cR (by omega) (by omega) ft1 fr1 h1 h2
        cases hx : x with
        | false => rw [cd_lt _ _ lt1 lr1 (by rw [vt1, vr1]; exact hf.2.1 hx), ← q2 hx] at this; exact this
        | true => rw [cd_eq _ _ lt1 lr1 (by rw [vt1, vr1]; exact hf.1 hx), ← q1 hx] at this; exact this
      clear hf lt1 ln1 lr1 ft1 fn1 fr1 vt1 vn1 vr1 d4 FT HD
      cases x
      · replace KC := KC (-1) (by intro h; first | rfl | cases h) (by intro h; first | rfl | cases h)
        go_wp2_with fail
        refine (KC _ rS rR).mono ?_
        rintro e vy ⟨rfl, hb⟩
        replace hP := hP.below hb
        replace rU := rU.below hb
        replace rR := rR.below hb
        replace b3 := b3.trans (hb.mono b3.size)
        clear hb KC
        have d4 := hP.cell 4 rfl
        have d5 := hP.cell 5 rfl
        go_wp2_with fail
        refine (KN _ rU rR).mono ?_
        rintro e vx ⟨rfl, hb⟩
        have HB := hid (b3.trans (hb.mono b3.size))
        clear hb b3 KN d4 d5 hP
        go_wp2_with fail
        go_ret
        exact ⟨rfl, HB.out⟩
      · replace KC := KC 0 (by intro h; first | rfl | cases h) (by intro h; first | rfl | cases h)
        go_wp2_with fail
        refine (KC _ rS rR).mono ?_
        rintro e vy ⟨rfl, hb⟩
        replace hP := hP.below hb
        replace rU := rU.below hb
        replace rR := rR.below hb
        replace b3 := b3.trans (hb.mono b3.size)
        clear hb KC
        have d4 := hP.cell 4 rfl
        have d5 := hP.cell 5 rfl
        go_wp2_with fail
        refine (KN _ rU rR).mono ?_
        rintro e vx ⟨rfl, hb⟩
        have HB := hid (b3.trans (hb.mono b3.size))
        clear hb b3 KN d4 d5 hP
        go_wp2_with fail
        go_ret
        exact ⟨rfl, HB.out⟩
    · obtain ⟨j, hj⟩ : ∃ j : Nat, k = (j : Int) := ⟨k.toNat, by omega⟩
      subst hj
      have kP : ∀ v : World, Calls Try.prog 11 #[.int .u64 10, .int .i64 (j : Int)] v fun r w' => Ret v w' r (L (10 ^ j)) := fun v => by
        have := implNatPow_any 10 (j : Int) v (by omega)
        rw [pow_ten j (by omega)] at this
        exact this
      go_wp2_with fail
      refine (kP _).mono ?_
      rintro e v15 ⟨ra, rc, rfl, ro, hb⟩
      have rR := Rd.own ro
      have cR := own_cap ro
      replace hP := hP.below hb
      replace rT := rT.below hb
      replace rN := rN.below hb
      replace b3 := b3.trans (hb.mono b3.size)
      clear hb
      clear ro o1 kP d4
      have d4 := hP.cell 4 rfl
      rcases Int.lt_or_le E 0 with hE0 | hE0
      · obtain ⟨e, he⟩ : ∃ e : Nat, E = -(e : Int) := ⟨(-E).toNat, by omega⟩
        subst he
        have hE' : ¬ (0 : Int) ≤ -(e : Int) := by omega
        obtain ⟨R, hRd⟩ : ∃ R : Nat, R = 10 ^ j * 2 ^ e := ⟨_, rfl⟩
        have kS : ∀ v : World, Rd v ra (L (10 ^ j)) → Calls Try.prog 13 #[.slice ra (L (10 ^ j)).length rc, .int .i64 (e : Int)] v fun e' w' => Ret v w' e' (L R) := fun v hr => by
          have l10 : (L (10 ^ j)).length ≤ 1200 := pwL _ _ 1200 (pw_ten_lt j 17341 (by omega) (Nat.le_refl _)) (by omega)
          have := implNatShift_any ra _ rc _ (e : Int) v rfl cR (by omega) (F64_L _) hr
          rw [sh_any _ _ l10 (by omega), V_L, ← hRd] at this
          exact this
        have lt1 : ([M.loN T, M.hiN T]).length ≤ 1200 := by simp
        have ln1 : (L (T + 1)).length ≤ 1200 := pwL _ 129 1200 (by omega) (by omega)
        have lr1 : (L R).length ≤ 1200 := by rw [hRd]; exact pwL _ (17341 + 20001) 1200 (pw_mul (pw_ten_lt j _ (by omega) (Nat.le_refl _)) (pw_two_lt e _ (by omega))) (by omega)
        have ft1 : F64 [M.loN T, M.hiN T] := FT.out.1
        have fn1 : F64 (L (T + 1)) := F64_L _
        have fr1 : F64 (L R) := F64_L _
        have vt1 : V [M.loN T, M.hiN T] = T := FT.out.2
        have vn1 : V (L (T + 1)) = T + 1 := V_L _
        have vr1 : V (L R) = R := V_L _
        have hf := pw_fin (tX (j : Int) (m : Int)) (tY (j : Int) (m : Int)) T T R (T + 1) HD.out.1 (tY_gt _ _) x HD.out.2.2.1 (by unfold tY; rw [tDen_pos, ← HD.out.2.1, show (-(e : Int)).toNat = 0 by omega, Nat.pow_zero, Nat.mul_one]) (by unfold tX; rw [hRd, tNum_pos, ← HD.out.2.1, show (- -(e : Int)).toNat = e by omega]) (by unfold tY; rw [tDen_pos, ← HD.out.2.1, show (-(e : Int)).toNat = 0 by omega, Nat.pow_zero, Nat.mul_one])
        have HRD := hid hRd
        have HF := hid (And.intro hf (And.intro lt1 (And.intro ln1 (And.intro lr1 (And.intro ft1 (And.intro fn1 (And.intro fr1 (And.intro vt1 (And.intro vn1 vr1)))))))))
        clear hRd hf lt1 ln1 lr1 ft1 fn1 fr1 vt1 vn1 vr1
        go_wp2_with fail
        refine (kS _ rR).mono ?_
        rintro e' vz ⟨sa, sc, rfl, so, hb⟩
        have rS := Rd.own so
        have cS := own_cap so
        replace hP := hP.below hb
        replace rT := rT.below hb
        replace rN := rN.below hb
        replace b3 := b3.trans (hb.mono b3.size)
        clear hb so kS
        obtain ⟨hf, lt1, ln1, lr1, ft1, fn1, fr1, vt1, vn1, vr1⟩ := HF.out
        clear HF
        have KN : ∀ v : World, Rd v na (L (T + 1)) → Rd v sa (L R) → Calls Try.prog 14 #[.slice na (L (T + 1)).length nc, .slice sa (L R).length sc] v fun e w' => e = .returned (.int .i64 1) ∧ Below v.heap.size v w' := fun v h1 h2 => by
          have := implNatCmp_any na sa (L (T + 1)).length (L R).length nc sc (L (T + 1)) (L R) v rfl rfl cN cS (by omega) (by omega) fn1 fr1 h1 h2
          rwa [cd_gt _ _ ln1 lr1 (by rw [vn1, vr1]; exact hf.2.2)] at this
        have KC : ∀ q : Int, (x = true → q = 0) → (x = false → q = -1) → ∀ v : World, Rd v (some ⟨gt, 0, none⟩) ([M.loN T, M.hiN T]) → Rd v sa (L R) → Calls Try.prog 14 #[.slice (some ⟨gt, 0, none⟩) 2 2, .slice sa (L R).length sc] v fun e w' => e = .returned (.int .i64 q) ∧ Below v.heap.size v w' := fun q q1 q2 v h1 h2 => by
          have := implNatCmp_any (some ⟨gt, 0, none⟩) sa 2 (L R).length 2 sc ([M.loN T, M.hiN T]) (L R) v rfl rfl (by omega) cS (by omega) (by omega) ft1 fr1 h1 h2
          cases hx : x with
          | false => rw [cd_lt _ _ lt1 lr1 (by rw [vt1, vr1]; exact hf.2.1 hx), ← q2 hx] at this; exact this
          | true => rw [cd_eq _ _ lt1 lr1 (by rw [vt1, vr1]; exact hf.1 hx), ← q1 hx] at this; exact this
        clear hf lt1 ln1 lr1 ft1 fn1 fr1 vt1 vn1 vr1 d4 FT HD
        cases x
        · replace KC := KC (-1) (by intro h; first | rfl | cases h) (by intro h; first | rfl | cases h)
          go_wp2_with fail
          refine (KC _ rT rS).mono ?_
          rintro e vy ⟨rfl, hb⟩
          replace hP := hP.below hb
          replace rN := rN.below hb
          replace rS := rS.below hb
          replace b3 := b3.trans (hb.mono b3.size)
          clear hb KC
          have d4 := hP.cell 4 rfl
          have d5 := hP.cell 5 rfl
          go_wp2_with fail
          refine (KN _ rN rS).mono ?_
          rintro e vx ⟨rfl, hb⟩
          have HB := hid (b3.trans (hb.mono b3.size))
          clear hb b3 KN d4 d5 hP
          go_wp2_with fail
          go_ret
          exact ⟨rfl, HB.out⟩
        · replace KC := KC 0 (by intro h; first | rfl | cases h) (by intro h; first | rfl | cases h)
          go_wp2_with fail
          refine (KC _ rT rS).mono ?_
          rintro e vy ⟨rfl, hb⟩
          replace hP := hP.below hb
          replace rN := rN.below hb
          replace rS := rS.below hb
          replace b3 := b3.trans (hb.mono b3.size)
          clear hb KC
          have d4 := hP.cell 4 rfl
          have d5 := hP.cell 5 rfl
          go_wp2_with fail
          refine (KN _ rN rS).mono ?_
          rintro e vx ⟨rfl, hb⟩
          have HB := hid (b3.trans (hb.mono b3.size))
          clear hb b3 KN d4 d5 hP
          go_wp2_with fail
          go_ret
          exact ⟨rfl, HB.out⟩
      · obtain ⟨e, he⟩ : ∃ e : Nat, E = (e : Int) := ⟨E.toNat, by omega⟩
        subst he
        obtain ⟨A, hA⟩ : ∃ A : Nat, A = T * 2 ^ e := ⟨_, rfl⟩
        obtain ⟨N, hN⟩ : ∃ N : Nat, N = (T + 1) * 2 ^ e := ⟨_, rfl⟩
        have kS : ∀ v : World, Rd v (some ⟨gt, 0, none⟩) [M.loN T, M.hiN T] → Calls Try.prog 13 #[.slice (some ⟨gt, 0, none⟩) 2 2, .int .i64 (e : Int)] v fun e' w' => Ret v w' e' (L A) := fun v hr => by
          have := implNatShift_any (some ⟨gt, 0, none⟩) 2 2 _ (e : Int) v rfl (by omega) (by omega) FT.out.1 hr
          rw [sh_any _ _ (by simp) (by omega), FT.out.2, ← hA] at this
          exact this
        have kU : ∀ v : World, Rd v na (L (T + 1)) → Calls Try.prog 13 #[.slice na (L (T + 1)).length nc, .int .i64 (e : Int)] v fun e' w' => Ret v w' e' (L N) := fun v hr => by
          have ll : (L (T + 1)).length ≤ 1200 := pwL _ 129 1200 (by omega) (by omega)
          have := implNatShift_any na _ nc _ (e : Int) v rfl cN (by omega) (F64_L _) hr
          rw [sh_any _ _ ll (by omega), V_L, ← hN] at this
          exact this
        have lt1 : (L A).length ≤ 1200 := by rw [hA]; exact pwL _ (129 + 20001) 1200 (pw_mul (by omega) (pw_two_lt e _ (by omega))) (by omega)
        have ln1 : (L N).length ≤ 1200 := by rw [hN]; exact pwL _ (129 + 20001) 1200 (pw_mul (by omega) (pw_two_lt e _ (by omega))) (by omega)
        have lr1 : (L (10 ^ j)).length ≤ 1200 := pwL _ _ 1200 (pw_ten_lt j 17341 (by omega) (Nat.le_refl _)) (by omega)
        have ft1 : F64 (L A) := F64_L _
        have fn1 : F64 (L N) := F64_L _
        have fr1 : F64 (L (10 ^ j)) := F64_L _
        have vt1 : V (L A) = A := V_L _
        have vn1 : V (L N) = N := V_L _
        have vr1 : V (L (10 ^ j)) = (10 ^ j) := V_L _
        have hf := pw_fin (tX (j : Int) (m : Int)) (tY (j : Int) (m : Int)) T A (10 ^ j) N HD.out.1 (tY_gt _ _) x HD.out.2.2.1 (by unfold tY; rw [hA, tDen_pos, ← HD.out.2.1, Int.toNat_natCast, Nat.one_mul]) (by unfold tX; rw [tNum_pos, ← HD.out.2.1, show (-(e : Int)).toNat = 0 by omega, Nat.pow_zero, Nat.mul_one]) (by unfold tY; rw [hN, tDen_pos, ← HD.out.2.1, Int.toNat_natCast, Nat.one_mul])
        have HF := hid (And.intro hf (And.intro lt1 (And.intro ln1 (And.intro lr1 (And.intro ft1 (And.intro fn1 (And.intro fr1 (And.intro vt1 (And.intro vn1 vr1)))))))))
        clear hf lt1 ln1 lr1 ft1 fn1 fr1 vt1 vn1 vr1
        have HAN := hid (And.intro hA hN)
        clear hA hN
        go_wp2_with fail
        refine (kS _ rT).mono ?_
        rintro e' vu ⟨sa, sc, rfl, so, hb⟩
        have rS := Rd.own so
        have cS := own_cap so
        replace hP := hP.below hb
        replace rR := rR.below hb
        replace rN := rN.below hb
        replace b3 := b3.trans (hb.mono b3.size)
        clear hb
        clear so kS d4 rT
        have d4 := hP.cell 4 rfl
        go_wp2_with fail
        refine (kU _ rN).mono ?_
        rintro e' vz ⟨ua, uc, rfl, so, hb⟩
        have rU := Rd.own so
        have cU := own_cap so
        replace hP := hP.below hb
        replace rR := rR.below hb
        replace rS := rS.below hb
        replace b3 := b3.trans (hb.mono b3.size)
        clear hb
        clear so kU rN
        obtain ⟨hf, lt1, ln1, lr1, ft1, fn1, fr1, vt1, vn1, vr1⟩ := HF.out
        clear HF
        have KN : ∀ v : World, Rd v ua (L N) → Rd v ra (L (10 ^ j)) → Calls Try.prog 14 #[.slice ua (L N).length uc, .slice ra (L (10 ^ j)).length rc] v fun e w' => e = .returned (.int .i64 1) ∧ Below v.heap.size v w' := fun v h1 h2 => by
          have := implNatCmp_any ua ra (L N).length (L (10 ^ j)).length uc rc (L N) (L (10 ^ j)) v rfl rfl cU cR (by omega) (by omega) fn1 fr1 h1 h2
          rwa [cd_gt _ _ ln1 lr1 (by rw [vn1, vr1]; exact hf.2.2)] at this
        have KC : ∀ q : Int, (x = true → q = 0) → (x = false → q = -1) → ∀ v : World, Rd v sa (L A) → Rd v ra (L (10 ^ j)) → Calls Try.prog 14 #[.slice sa (L A).length sc, .slice ra (L (10 ^ j)).length rc] v fun e w' => e = .returned (.int .i64 q) ∧ Below v.heap.size v w' := fun q q1 q2 v h1 h2 => by
          have := implNatCmp_any sa ra (L A).length (L (10 ^ j)).length sc rc (L A) (L (10 ^ j)) v rfl rfl cS cR (by omega) (by omega) ft1 fr1 h1 h2
          cases hx : x with
          | false => rw [cd_lt _ _ lt1 lr1 (by rw [vt1, vr1]; exact hf.2.1 hx), ← q2 hx] at this; exact this
          | true => rw [cd_eq _ _ lt1 lr1 (by rw [vt1, vr1]; exact hf.1 hx), ← q1 hx] at this; exact this
        clear hf lt1 ln1 lr1 ft1 fn1 fr1 vt1 vn1 vr1 d4 FT HD
        cases x
        · replace KC := KC (-1) (by intro h; first | rfl | cases h) (by intro h; first | rfl | cases h)
          go_wp2_with fail
          refine (KC _ rS rR).mono ?_
          rintro e vy ⟨rfl, hb⟩
          replace hP := hP.below hb
          replace rU := rU.below hb
          replace rR := rR.below hb
          replace b3 := b3.trans (hb.mono b3.size)
          clear hb KC
          have d4 := hP.cell 4 rfl
          have d5 := hP.cell 5 rfl
          go_wp2_with fail
          refine (KN _ rU rR).mono ?_
          rintro e vx ⟨rfl, hb⟩
          have HB := hid (b3.trans (hb.mono b3.size))
          clear hb b3 KN d4 d5 hP
          go_wp2_with fail
          go_ret
          exact ⟨rfl, HB.out⟩
        · replace KC := KC 0 (by intro h; first | rfl | cases h) (by intro h; first | rfl | cases h)
          go_wp2_with fail
          refine (KC _ rS rR).mono ?_
          rintro e vy ⟨rfl, hb⟩
          replace hP := hP.below hb
          replace rU := rU.below hb
          replace rR := rR.below hb
          replace b3 := b3.trans (hb.mono b3.size)
          clear hb KC
          have d4 := hP.cell 4 rfl
          have d5 := hP.cell 5 rfl
          go_wp2_with fail
          refine (KN _ rU rR).mono ?_
          rintro e vx ⟨rfl, hb⟩
          have HB := hid (b3.trans (hb.mono b3.size))
          clear hb b3 KN d4 d5 hP
          go_wp2_with fail
          go_ret
          exact ⟨rfl, HB.out⟩
  · have ht : tpv k W = pwv 0 0 0 0 false false := by unfold tpv; rw [if_neg hin]
    rw [ht] at k1 k2
    clear ht
    unfold pwv at k1 k2
    have z1 : (M.hiN 0 : Int) = 0 := by rfl
    have z2 : (M.loN 0 : Int) = 0 := by rfl
    rw [z1, z2] at k1 k2
    go_wp2_with fail
    refine (k2 _).mono ?_
    rintro e v2 ⟨rfl, b2⟩
    go_upto_region 3 with fail
    have hfd := fld_pw
    have hb := (Below.refl v2.heap.size v2).alloc (Nat.le_refl _) (.cells #[.int .i64 0, .int .i64 0, .int .u64 0, .int .u64 0, .int .i64 0, .bool false, .bool false] 29)
    have hP := Cls.new v2 #[.int .i64 0, .int .i64 0, .int .u64 0, .int .u64 0, .int .i64 0, .bool false, .bool false] 29
    have b3 : Below w.heap.size w (v2.alloc (.cells #[.int .i64 0, .int .i64 0, .int .u64 0, .int .u64 0, .int .i64 0, .bool false, .bool false] 29)) := (b1.trans (b2.mono b1.size)).trans (hb.mono (Nat.le_trans b1.size b2.size))
    clear hb b1 b2 k2
    generalize v2.alloc (.cells #[.int .i64 0, .int .i64 0, .int .u64 0, .int .u64 0, .int .i64 0, .bool false, .bool false] 29) = v3 at *
    generalize v2.heap.size = gp at *
    go_cut [28] (fun z wx => z = .bool false ∧ Below v3.heap.size v3 wx)
    case first =>
      have A0 : Below v3.heap.size v3 v3.drew := (Below.refl _ _).drew
      have KB : ∀ v, Below v3.heap.size v3 v → (fun v => v.cell? ⟨gp, 6, none⟩ = some (.bool false)) v := fun v hv => (hP.below hv).cell 6 rfl
      have d6 := hP.cell 6 rfl
      go_region_held3 (fun v => v.cell? ⟨gp, 6, none⟩ = some (.bool false)) (first | with_reducible exact KB _ hb1 | with_reducible exact KB _ A0) (first | (go_at_call 7; refine (k1 _).mono ?_; rintro e u1 ⟨rfl, hb0⟩; have hb1 := keepC1 (w1 := v3) A0 hb0; clear hb0))
      all_goals go_wp2_with fail
      all_goals go_meet
      all_goals exact ⟨rfl, hb1⟩
    case rest =>
    obtain ⟨rfl, hbx⟩ := hcut
    replace hP := hP.below hbx
    replace b3 := b3.trans (hbx.mono b3.size)
    clear hbx k1 hfd
    have d0 := hP.cell 0 rfl
    have d1 := hP.cell 1 rfl
    have d2 := hP.cell 2 rfl
    have d3 := hP.cell 3 rfl
    have d4 := hP.cell 4 rfl
    have d5 := hP.cell 5 rfl
    have d6 := hP.cell 6 rfl
    have HB := hid b3
    clear b3 hP
    go_wp2_with fail
    go_ret
    exact ⟨rfl, HB.out⟩

set_option maxHeartbeats 1000000 in
theorem lawPower (a0 : Option Addr) (n c : Nat) (bs : List Nat) (w : World) (w0 : InB w a0 n c bs) :
    Calls Try.prog 3 #[.slice a0 n c] w fun e w' => e = .returned (.bool true) ∧ Below w.heap.size w w' := by
  obtain ⟨hl, hc, hb⟩ := w0
  by_cases h1 : n ≤ 1048576
  · exact lawPwKey a0 n c bs w hl h1 hb
  · have hn' : (1048576 : Int) < (n : Int) := by omega
    go_enter Try.func3, Try.ntmps3
    go_wp2_with fail
    go_ret
    exact ⟨rfl, Below.refl _ _⟩

end Go.Proofs.Ytehplfmnipadmae
