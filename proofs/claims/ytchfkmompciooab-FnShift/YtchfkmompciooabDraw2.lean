import Derived.Test.YtchfkmompciooabDraw1
namespace Go.Proofs.Ytchfkmompciooab
open Go.RowKit
set_option linter.unusedVariables false

/-- One limb as 'limbs' draws it, and the place behind it. -/
def limb1 (bs : List Nat) (i : Nat) : Nat × Nat :=
  if rdB bs i % 6 = 0 then (0, adv bs i) else if rdB bs i % 6 = 1 then (18446744073709551615, adv bs i) else if rdB bs i % 6 = 2 then (rdB bs i, adv bs i)
  else if rdB bs i % 6 = 3 then (2 ^ (rdB bs (adv bs i) % 64), adv bs (adv bs i)) else wideK bs (adv bs i) 8

theorem limb1_0 (bs : List Nat) (i x : Nat) (hx : x = rdB bs i) (h : x % 6 = 0) : (limb1 bs i).1 = 0 ∧ (limb1 bs i).2 = adv bs i := by
  unfold limb1; rw [← hx, if_pos h]; exact ⟨rfl, rfl⟩
theorem limb1_1 (bs : List Nat) (i x : Nat) (hx : x = rdB bs i) (h : x % 6 = 1) : (limb1 bs i).1 = 18446744073709551615 ∧ (limb1 bs i).2 = adv bs i := by
  unfold limb1; rw [← hx, if_neg (by omega), if_pos h]; exact ⟨rfl, rfl⟩
theorem limb1_2 (bs : List Nat) (i x : Nat) (hx : x = rdB bs i) (h : x % 6 = 2) : (limb1 bs i).1 = x ∧ (limb1 bs i).2 = adv bs i := by
  unfold limb1; rw [← hx, if_neg (by omega), if_neg (by omega), if_pos h]; exact ⟨rfl, rfl⟩
theorem limb1_3 (bs : List Nat) (i x : Nat) (hx : x = rdB bs i) (h : x % 6 = 3) : (limb1 bs i).1 = 2 ^ (rdB bs (adv bs i) % 64) ∧ (limb1 bs i).2 = adv bs (adv bs i) := by
  unfold limb1; rw [← hx, if_neg (by omega), if_neg (by omega), if_neg (by omega), if_pos h]; exact ⟨rfl, rfl⟩
theorem limb1_4 (bs : List Nat) (i x : Nat) (hx : x = rdB bs i) (h : 3 < x % 6) : (limb1 bs i).1 = (wideK bs (adv bs i) 8).1 ∧ (limb1 bs i).2 = (wideK bs (adv bs i) 8).2 := by
  unfold limb1; rw [← hx, if_neg (by omega), if_neg (by omega), if_neg (by omega), if_neg (by omega)]; exact ⟨rfl, rfl⟩

theorem adv_le (bs : List Nat) (i n : Nat) (hl : bs.length = n) (hi : i ≤ n) : adv bs i ≤ n := by unfold adv; split <;> omega
theorem limb1_le (bs : List Nat) (i n : Nat) (hl : bs.length = n) (hi : i ≤ n) : (limb1 bs i).2 ≤ n := by
  have h1 := adv_le bs i n hl hi
  have h2 := adv_le bs (adv bs i) n hl h1
  have h3 := wideK_le bs (adv bs i) n hl h1 8
  unfold limb1
  split
  · exact h1
  · split
    · exact h1
    · split
      · exact h1
      · split
        · exact h2
        · exact h3
theorem limb1_lt (bs : List Nat) (i : Nat) (hb : ∀ x ∈ bs, x < 256) : (limb1 bs i).1 < 18446744073709551616 := by
  have h1 : rdB bs i < 256 := M.getD_lt (by omega) hb _
  have h2 := wideK_lt bs (adv bs i) hb 8
  have h3 : 2 ^ (rdB bs (adv bs i) % 64) < 2 ^ 64 := Nat.pow_lt_pow_right (by omega) (by omega)
  unfold limb1
  split
  · exact Nat.zero_lt_succ _
  · split
    · show 18446744073709551615 < 18446744073709551616; omega
    · split
      · show rdB bs i < 18446744073709551616; omega
      · split
        · show 2 ^ (rdB bs (adv bs i) % 64) < 18446744073709551616; omega
        · omega

/-- The first k limbs, and the place behind them. -/
def limbsK (bs : List Nat) (i : Nat) : Nat → List Nat × Nat
  | 0 => ([], i)
  | k + 1 => ((limbsK bs i k).1 ++ [(limb1 bs (limbsK bs i k).2).1], (limb1 bs (limbsK bs i k).2).2)

theorem limbsK_le (bs : List Nat) (i n : Nat) (hl : bs.length = n) (hi : i ≤ n) (k : Nat) : (limbsK bs i k).2 ≤ n := by
  induction k with
  | zero => exact hi
  | succ k ih => exact limb1_le bs _ n hl ih
theorem limbsK_len (bs : List Nat) (i : Nat) (k : Nat) : (limbsK bs i k).1.length = k := by
  induction k with
  | zero => rfl
  | succ k ih => simp [limbsK, ih]
theorem limbsK_F (bs : List Nat) (i : Nat) (hb : ∀ x ∈ bs, x < 256) (k : Nat) : F64 (limbsK bs i k).1 := by
  induction k with
  | zero => intro x hx; simp [limbsK] at hx
  | succ k ih =>
    intro x hx
    simp only [limbsK] at hx
    rcases List.mem_append.1 hx with hx | hx
    · exact ih x hx
    · simp at hx; rw [hx]; exact limb1_lt bs _ hb

/-- The long list: up to MaxLimbs, or one beyond. -/
def fillK (bs : List Nat) : Nat → List Nat × Nat → List Nat × Nat
  | 0, s => s
  | f + 1, s => if s.1.length < 1200 + rdB bs s.2 % 2 then fillK bs f (s.1 ++ [s.1.length], adv bs s.2) else (s.1, adv bs s.2)

theorem fillK_facts (bs : List Nat) (n : Nat) (hl : bs.length = n) (f : Nat) : ∀ s : List Nat × Nat, s.2 ≤ n → F64 s.1 → s.1.length ≤ 1201 → (fillK bs f s).2 ≤ n ∧ F64 (fillK bs f s).1 ∧ (fillK bs f s).1.length ≤ 1201 := by
  induction f with
  | zero => intro s h1 h2 h3; exact ⟨h1, h2, h3⟩
  | succ f ih =>
    intro s h1 h2 h3
    simp only [fillK]
    split
    · next h =>
      refine ih _ (adv_le bs _ n hl h1) ?_ (by simp; omega)
      intro x hx
      rcases List.mem_append.1 hx with hx | hx
      · exact h2 x hx
      · simp at hx; omega
    · exact ⟨adv_le bs _ n hl h1, h2, h3⟩

/-- How many limbs are drawn at first. -/
def limbsN (k : Nat) : Nat := if 240 ≤ k then 8 + k % 16 * 3 else k % 7

/-- What 'limbs' draws, and the place behind it. -/
def limbsAll (bs : List Nat) (i : Nat) : List Nat × Nat :=
  if rdB bs i = 255 then fillK bs 1300 (limbsK bs (adv bs i) (limbsN (rdB bs i))) else limbsK bs (adv bs i) (limbsN (rdB bs i))

theorem limbsN_le (k : Nat) : limbsN k ≤ 53 := by unfold limbsN; split <;> omega

theorem limbsAll_facts (bs : List Nat) (i n : Nat) (hl : bs.length = n) (hi : i ≤ n) (hb : ∀ x ∈ bs, x < 256) : (limbsAll bs i).2 ≤ n ∧ F64 (limbsAll bs i).1 ∧ (limbsAll bs i).1.length ≤ 1201 := by
  have h1 := adv_le bs i n hl hi
  have h2 := limbsK_le bs (adv bs i) n hl h1 (limbsN (rdB bs i))
  have h3 := limbsK_F bs (adv bs i) hb (limbsN (rdB bs i))
  have h4 := limbsK_len bs (adv bs i) (limbsN (rdB bs i))
  have h5 := limbsN_le (rdB bs i)
  unfold limbsAll
  split
  · exact fillK_facts bs n hl 1300 _ h2 h3 (by omega)
  · exact ⟨h2, h3, by omega⟩

theorem grown_own {w wr w1 : World} {o : Obj} {g : Nat} {row : Option Nat} (h : w.grownBy wr (some g)) (h1 : (wr.alloc o).grownBy w1 row) (hr : ∀ k, row = some k → w.heap.size ≤ k) : w.grownBy w1 (some g) := by
  refine ⟨h1.os.trans h.os, h1.tape.trans h.tape, h1.output.trans h.output, Nat.le_trans h.size (Nat.le_trans (by simp) h1.size), fun k hk hne => ?_⟩
  have h2 := h1.block k (by have := h.size; simp; omega) (fun e => by have := hr k e.symm; omega)
  rw [h2, Below.heap_alloc wr o k (by have := h.size; omega)]
  exact h.block k hk hne

theorem isRdr_own {w wr w1 : World} {o : Obj} {g : Nat} {row : Option Nat} {ao : Option Addr} {n c i : Nat} (h : IsRdr wr g ao n c i) (h1 : (wr.alloc o).grownBy w1 row) (hr : ∀ k, row = some k → w.heap.size ≤ k) (hg : g < w.heap.size) : IsRdr w1 g ao n c i := by
  have hlt := h.lt
  unfold IsRdr
  rw [h1.block g (by simp; omega) (fun e => by have := hr g e.symm; omega), Below.heap_alloc wr o g hlt]
  exact h

theorem own_grown {wr w1 : World} {base g n : Nat} {v : Value} {xs : List Value} (h : wr.ownsRow base 34 1 v n xs) (hg : wr.grownBy w1 (some g)) (hb : g < base) : w1.ownsRow base 34 1 v n xs := by
  refine h.kept hg ?_
  cases hv : v.ownBlock with
  | none => exact .inl rfl
  | some k => right; intro e; cases e; have := h.lt _ hv; omega

set_option maxHeartbeats 4000000 in
theorem limbsLoop_any (N : Nat) : True := trivial

end Go.Proofs.Ytchfkmompciooab
