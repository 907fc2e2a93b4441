/-
  slices.Reverse over bytes.
-/
import Derived.Test.YtehplfmnipadmadByw
import Derived.Test.YtehplfmnipadmadW8a
import Derived.Shelf.RegionOpenPlain
import Derived.WalkKit
import Derived.Lib.Walk
namespace Go.Proofs.Ytehplfmnipadmad
open Go.RowKit
set_option linter.unusedVariables false
set_option maxRecDepth 100000

/-- How far the list is turned around when k pairs have been changed. -/
def Rvk (xs ys : List Nat) (n k : Nat) : Prop := ys.length = n ∧ ∀ p, p < n → ys.getD p 0 = if p < k ∨ n < p + 1 + k then xs.getD (n - 1 - p) 0 else xs.getD p 0

theorem Rvk.done {xs ys : List Nat} {n k : Nat} (h : Rvk xs ys n k) (hl : xs.length = n) (hk : n ≤ 2 * k + 1) : ys = xs.reverse := by
  refine List.ext_getElem (by simp [h.1, hl]) fun p h1 h2 => ?_
  have hp : p < n := by rw [← h.1]; exact h1
  have h3 := h.2 p hp
  have e1 : ys.getD p 0 = ys[p] := by simp [List.getD_eq_getElem?_getD, h1]
  have e2 : (xs.reverse)[p] = xs.getD (n - 1 - p) 0 := by
    rw [List.getElem_reverse, List.getD_eq_getElem?_getD, List.getElem?_eq_getElem (by omega), Option.getD_some]
    congr 1
    omega
  rw [e2, ← e1, h3]
  by_cases hc : p < k ∨ n < p + 1 + k
  · rw [if_pos hc]
  · rw [if_neg hc, show n - 1 - p = p by omega]

theorem Rvk.step {xs ys : List Nat} {n k j : Nat} (h : Rvk xs ys n k) (hl : xs.length = n) (hk : k < j) (hj : j + 1 + k = n) : Rvk xs ((ys.set k (ys.getD j 0)).set j (ys.getD k 0)) n (k + 1) := by
  refine ⟨by simp [h.1], fun p hp => ?_⟩
  have hyl := h.1
  have h1 := h.2 k (by omega)
  have h2 := h.2 j (by omega)
  rw [if_neg (by omega)] at h1 h2
  by_cases e1 : p = j
  · subst e1
    rw [M.getD_set_eq _ _ _ (by simp; omega), h1, if_pos (by omega), show n - 1 - p = k by omega]
  · rw [M.getD_set_ne _ _ _ _ (fun e => e1 e.symm)]
    by_cases e2 : p = k
    · subst e2
      rw [M.getD_set_eq _ _ _ (by omega), h2, if_pos (by omega), show n - 1 - p = j by omega]
    · rw [M.getD_set_ne _ _ _ _ (fun e => e2 e.symm), h.2 p hp]
      by_cases hc : p < k ∨ n < p + 1 + k
      · rw [if_pos hc, if_pos (by omega)]
      · rw [if_neg hc, if_neg (by omega)]

set_option maxHeartbeats 1000000 in
theorem revB_any (base : Nat) (ao : Option Addr) (n cap : Nat) (xs : List Nat) (w : World) (hl : xs.length = n) (hn : n ≤ 4194304) (hown : w.ownsRow base 5 1 (.slice ao n cap) n (UB xs)) :
    Calls Try.prog 82 #[.slice ao n cap] w fun e w' => (∃ v, e = .returned v) ∧ w'.ownsRow base 5 1 (.slice ao n cap) n (UB xs.reverse) ∧ w.grownBy w' (Value.slice ao n cap).ownBlock := by
  have HO := hid hown; clear hown
  go_enter Try.func82, Try.ntmps82
  go_wp2
  go_loopw [2, 3] (fun i j wr => ∃ (k : Nat) (ys : List Nat), 2 * k ≤ n + 1 ∧ i = .int .i64 (k : Int) ∧ j = .int .i64 ((n : Int) - 1 - k) ∧ Rvk xs ys n k ∧ wr.ownsRow base 5 1 (.slice ao n cap) n (UB ys) ∧ w.grownBy wr (Value.slice ao n cap).ownBlock) (fun i _ _ => n + 1 - (intOf i).toNat)
  case atStart => exact ⟨0, xs, by omega, rfl, by go_num, ⟨hl, fun p hp => by rw [if_neg (by omega)]⟩, HO.out, World.grownBy.refl _ _⟩
  case round =>
    obtain ⟨k, ys, hk, rfl, rfl, hR, ho, hg⟩ := hrel
    by_cases hlt : k + 1 + k < n
    · obtain ⟨j, hj⟩ : ∃ j, j + 1 + k = n := ⟨n - 1 - k, by omega⟩
      have e1 : (n : Int) - 1 - k = (j : Int) := by omega
      rw [e1]
      have hkj : k < j := by omega
      have hjn : j < n := by omega
      have hkn : k < n := by omega
      have mixed : Try.prog.follows Departure.mixedOrders = true := by kernel_rfl
      have hkj' : (k : Int) < (j : Int) := by omega
      obtain ⟨g, hao, hbg⟩ := ownY_addr ho (by omega)
      subst hao
      have hc := ho.cellAt k (by omega)
      have hc2 := ho.cellAt j (by omega)
      rw [UB_get _ k (by have := ownY_len ho; omega)] at hc
      rw [UB_get _ j (by have := ownY_len ho; omega)] at hc2
      have hf := ho.frozenAt k
      have hf2 := ho.frozenAt j
      have hst := hR.step hl hkj hj
      obtain ⟨x, hx⟩ : ∃ x : Nat, x = ys.getD k 0 := ⟨_, rfl⟩
      obtain ⟨y, hy⟩ : ∃ y : Nat, y = ys.getD j 0 := ⟨_, rfl⟩
      rw [← hx, ← hy] at hst
      rw [← hx] at hc
      rw [← hy] at hc2
      have HX := hid hx; have HY := hid hy; have HB := hid ho; have HG := hid hg; have HST := hid hst; have HR := hid hR
      clear hx hy ho hg hst hR
      go_wp2_with fail
      go_region_o
      go_wp2
      go_roundw
      case rel =>
        obtain ⟨h1, h2⟩ := HB.out.stored k (.int .u8 (y : Int))
        rw [UB_setI _ k y _ rfl] at h1
        obtain ⟨h3, h4⟩ := h1.stored j (.int .u8 (x : Int))
        rw [UB_setI _ j x _ rfl] at h3
        exact ⟨k + 1, _, by omega, by go_num, by congr 1; omega, HST.out, h3, grown_trans (grown_trans HG.out (grown_trans h2 h4)) (grown_drewN _ 1 _)⟩
      case measure => simp [intOf]; omega
    · have hge : ¬ (k : Int) < (n : Int) - 1 - k := by omega
      have HB := hid ho; have HG := hid hg; clear ho hg
      go_wp2
      go_end0
      rw [← hR.done hl (by omega)]
      exact ⟨⟨_, rfl⟩, HB.out, HG.out⟩

end Go.Proofs.Ytehplfmnipadmad
