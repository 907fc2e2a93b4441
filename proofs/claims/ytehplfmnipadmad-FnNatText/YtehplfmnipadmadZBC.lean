import Derived.Test.YtehplfmnipadmadZBB
import Derived.Test.YtehplfmnipadmadZLtx
import Derived.Test.YtehplfmnipadmadW4
import Derived.Test.YtehplfmnipadmadLb
namespace Go.Proofs.Ytehplfmnipadmad
open Go.RowKit
set_option linter.unusedVariables false
set_option maxRecDepth 100000

/-- What the document asks: the text, or nothing where the list is too long. -/
def ttDoc (xs : List Nat) : List Nat := if xs.length ≤ 1200 then M.txt (V xs) else []

theorem txt_bound (v n : Nat) (h : (L v).length ≤ n) : (M.txt v).length ≤ 20 * n + 1 := by
  refine M.txt_len _ _ ?_
  have h1 := L_lt v n h
  have h2 : (18446744073709551616 : Nat) ^ n ≤ 10 ^ (20 * n) := by rw [Nat.pow_mul]; exact Nat.pow_le_pow_left (by decide) _
  have h3 : 10 ^ (20 * n + 1) = 10 ^ (20 * n) * 10 := Nat.pow_succ _ _
  have h4 : 0 < 10 ^ (20 * n) := Nat.pow_pos (by omega)
  omega

theorem ttDoc_len (xs : List Nat) (hx : F64 xs) : (ttDoc xs).length ≤ 30000 := by
  unfold ttDoc
  by_cases h : xs.length ≤ 1200
  · rw [if_pos h]
    have := txt_bound (V xs) xs.length (L_len xs hx)
    omega
  · rw [if_neg h]; simp

theorem one_cellT (w : World) (t : TypeId) (ao : Option Addr) (n c : Nat) : ∀ i, i < 1 → ∃ ao' cap, (w.alloc (.cells #[.slice ao n c] t)).cell? ⟨w.heap.size, i, none⟩ = some (.slice ao' ([n].getD i 0) cap) := by
  intro i hi
  match i, hi with
  | 0, _ => exact ⟨ao, c, by simp⟩

set_option maxHeartbeats 1000000 in
theorem implNatToText_any (ao : Option Addr) (n c : Nat) (xs : List Nat) (w : World) (hl : xs.length = n) (hc : n ≤ c) (hn : n ≤ 1048576) (hx : F64 xs) (hr : Rd w ao xs) :
    Calls Try.prog 7 #[.slice ao n c] w fun e w' => RetY w w' e (ttDoc xs) := by
  have s1 := L_len xs hx
  by_cases h1 : n ≤ 1200
  · have hall : true = [n].all (fun x => decide (x ≤ 1200)) := by simp [h1]
    have hall' := hid hall; clear hall
    have hdoc : ttDoc xs = M.txt (V xs) := by unfold ttDoc; rw [if_pos (by omega)]
    rw [hdoc]
    go_enter Try.func7, Try.ntmps7
    go_wp2_with fail
    refine (short_any _ 1 [n] true _ rfl (by omega) (by simp; omega) hall'.out (one_cellT _ _ _ _ _)).mono ?_
    rintro e w1 ⟨rfl, hw1⟩
    have hb1 : Below w.heap.size w w1 := by rw [hw1]; exact (Below.refl _ _).alloc (Nat.le_refl _) _
    clear hw1
    go_wp2_with fail
    refine (trim_any ao n c xs _ hl hc (by omega) hx (hr.below hb1)).mono ?_
    rintro e w2 ⟨rfl, rfl⟩
    go_wp2_with fail
    refine (digits_any (V xs) ao _ c _ rfl (by omega) ((hr.below hb1).trim hx)).mono ?_
    rintro e w4 ⟨ra, rc, rfl, ho, hb⟩
    go_wp2_with fail
    go_ret
    exact ⟨ra, rc, rfl, ownY_base ho hb1.size, hb1.trans (hb.mono hb1.size)⟩
  · have hall : false = [n].all (fun x => decide (x ≤ 1200)) := by simp [h1]
    have hall' := hid hall; clear hall
    have hdoc : ttDoc xs = [] := by unfold ttDoc; rw [if_neg (by omega)]
    rw [hdoc]
    go_enter Try.func7, Try.ntmps7
    go_wp2_with fail
    refine (short_any _ 1 [n] false _ rfl (by omega) (by simp; omega) hall'.out (one_cellT _ _ _ _ _)).mono ?_
    rintro e w1 ⟨rfl, hw1⟩
    have hb1 : Below w.heap.size w w1 := by rw [hw1]; exact (Below.refl _ _).alloc (Nat.le_refl _) _
    clear hw1
    go_wp2_with fail
    go_ret
    exact ⟨none, 0, rfl, World.ownsRow_nil _ _ _ _, hb1⟩

set_option maxHeartbeats 1000000 in
theorem specNatToText_any (ao : Option Addr) (n c : Nat) (xs : List Nat) (w : World) (hl : xs.length = n) (hn : n ≤ 1048576) (hx : F64 xs) (hr : Rd w ao xs) :
    Calls Try.prog 10 #[.slice ao n c] w fun e w' => RetR w w' e (ttDoc xs) := by
  have s1 := D_len xs hx
  by_cases h1 : n ≤ 1200
  · have d1 : decide (n ≤ 1200) = true := by simpa using h1
    have hdoc : ttDoc xs = M.txt (V xs) := by unfold ttDoc; rw [if_pos (by omega)]
    rw [hdoc]
    go_enter Try.func10, Try.ntmps10
    go_wp2_with fail
    refine (l1Fits_any ao n c _ (by omega)).mono ?_
    rintro e w1 ⟨rfl, rfl⟩
    rw [d1]
    go_wp2_with fail
    refine (l1In_any ao n c xs _ hl (by omega) hx hr).mono ?_
    rintro e w3 ⟨ao1, cap1, rfl, ho1, hb1⟩
    go_wp2_with fail
    refine (l1Text_any ao1 _ cap1 (V xs) _ rfl (by omega) (Rd.own ho1)).mono ?_
    rintro e w5 ⟨hR, _⟩
    obtain ⟨ra, rc, rfl, h2, h3, h4⟩ := hR.later hb1
    go_wp2_with fail
    go_ret
    exact ⟨ra, rc, rfl, h2, h3, h4⟩
  · have d1 : decide (n ≤ 1200) = false := by simpa using h1
    have hdoc : ttDoc xs = [] := by unfold ttDoc; rw [if_neg (by omega)]
    rw [hdoc]
    go_enter Try.func10, Try.ntmps10
    go_wp2_with fail
    refine (l1Fits_any ao n c _ (by omega)).mono ?_
    rintro e w1 ⟨rfl, rfl⟩
    rw [d1]
    go_wp2_with fail
    go_ret
    exact ⟨none, 0, rfl, RdY.nil _ _, Nat.le_refl _, Below.refl _ _⟩

end Go.Proofs.Ytehplfmnipadmad

namespace Go.Proofs.Ytehplfmnipadmad
open Go.RowKit
set_option linter.unusedVariables false
set_option maxRecDepth 100000

/-- A list of bytes that can be read, below a given place. -/
structure RdP (w : World) (hi : Nat) (ao : Option Addr) (r : List Nat) : Prop where
  rd : RdY w ao r
  place : ∀ b o, 0 < r.length → ao = some ⟨b, o, none⟩ → b < hi

theorem RdP.of {w : World} {ao : Option Addr} {r : List Nat} (h : RdY w ao r) : RdP w w.heap.size ao r :=
  ⟨h, fun b o hp e => by
    obtain ⟨b2, o2, e2, hc⟩ := h hp
    rw [e] at e2
    simp only [Option.some.injEq, Addr.mk.injEq] at e2
    obtain ⟨rfl, rfl, _⟩ := e2
    exact World.block_lt_of_cell? w _ (hc 0 hp)⟩

theorem RdP.keep {w w' : World} {hi : Nat} {ao : Option Addr} {r : List Nat} (h : RdP w hi ao r) (hb : Below w.heap.size w w') : RdP w' hi ao r := ⟨h.rd.below hb, h.place⟩

theorem RdP.drewN {w : World} {hi : Nat} {ao : Option Addr} {r : List Nat} (h : RdP w hi ao r) (q : Nat) : RdP (w.drewN q) hi ao r := h.keep (below_drewN (Below.refl _ _) q)

theorem RdP.grown {w w' : World} {hi : Nat} {ao : Option Addr} {r : List Nat} {row : Option Nat} (h : RdP w hi ao r) (hg : w.grownBy w' row) (hne : ∀ k, row = some k → hi ≤ k) : RdP w' hi ao r := by
  refine ⟨fun hp => ?_, h.place⟩
  obtain ⟨b, o, e, hc⟩ := h.rd hp
  have hlt := h.place b o hp e
  refine ⟨b, o, e, fun i hi' => ?_⟩
  have hb := hg.block b (World.block_lt_of_cell? w _ (hc i hi')) (fun er => by have := hne b er.symm; omega)
  exact (World.cell?_of_block hb).trans (hc i hi')

end Go.Proofs.Ytehplfmnipadmad
