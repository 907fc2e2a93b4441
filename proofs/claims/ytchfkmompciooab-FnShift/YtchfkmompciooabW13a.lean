import Derived.Test.YtchfkmompciooabW11
namespace Go.Proofs.Ytchfkmompciooab
open Go.RowKit
set_option linter.unusedVariables false

theorem M.len_mul {B : Nat} (hB : 1 < B) (a b K K' : Nat) (ha : (M.dig B a).length ≤ K) (hb : (M.dig B b).length ≤ K') : (M.dig B (a * b)).length ≤ K + K' := by
  refine M.len_of_lt hB _ _ ?_
  have h1 := Nat.lt_of_lt_of_le (M.lt_dig hB a) (Nat.pow_le_pow_right (by omega) ha)
  have h2 := Nat.lt_of_lt_of_le (M.lt_dig hB b) (Nat.pow_le_pow_right (by omega) hb)
  rw [Nat.pow_add]
  exact Nat.mul_lt_mul'' h1 h2

/-- What NatMul is to answer. -/
def mulDoc (xs ys : List Nat) : List Nat := if xs.length ≤ 1200 ∧ ys.length ≤ 1200 then L (V xs * V ys) else []

theorem mulDoc_len (xs ys : List Nat) (hx : F64 xs) (hy : F64 ys) : (mulDoc xs ys).length ≤ 2400 := by
  unfold mulDoc
  split
  · next h =>
    have h1 := L_len xs hx
    have h2 := L_len ys hy
    have := M.len_mul (B := 18446744073709551616) (by omega) (V xs) (V ys) 1200 1200 (show (L (V xs)).length ≤ 1200 by omega) (show (L (V ys)).length ≤ 1200 by omega)
    exact this
  · simp

set_option maxHeartbeats 1000000 in
theorem implNatMul_any (ao bo : Option Addr) (n m c d : Nat) (xs ys : List Nat) (w : World) (hl : xs.length = n) (hm : ys.length = m) (hc : n ≤ c) (hd : m ≤ d) (hn : n ≤ 1048576) (hn2 : m ≤ 1048576) (hx : F64 xs) (hy : F64 ys) (hr : Rd w ao xs) (hr2 : Rd w bo ys) :
    Calls Try.prog 20 #[.slice ao n c, .slice bo m d] w fun e w' => Ret w w' e (mulDoc xs ys) := by
  by_cases h1 : n ≤ 1200 ∧ m ≤ 1200
  · have hdoc : mulDoc xs ys = L (V xs * V ys) := by unfold mulDoc; rw [if_pos (by omega)]
    rw [hdoc]
    have hall : true = [n, m].all (fun x => decide (x ≤ 1200)) := by simp [h1]
    have hall' := hid hall; clear hall
    go_enter Try.func20, Try.ntmps20
    go_wp2_with fail
    refine (short_any _ 2 [n, m] true _ rfl (by omega) (by simp; omega) hall'.out (two_cells _ _ _ _ _ _ _ _)).mono ?_
    rintro e w1 ⟨rfl, hw1⟩
    have hb1 : Below w.heap.size w w1 := by rw [hw1]; exact (Below.refl _ _).alloc (Nat.le_refl _) _
    clear hw1
    go_wp2_with fail
    refine (trim_any ao n c xs _ hl hc (by omega) hx (hr.below hb1)).mono ?_
    rintro e w2 ⟨rfl, rfl⟩
    go_wp2_with fail
    refine (trim_any bo m d ys _ hm hd (by omega) hy (hr2.below hb1)).mono ?_
    rintro e w3 ⟨rfl, rfl⟩
    go_wp2_with fail
    have s1 := L_len xs hx
    have s2 := L_len ys hy
    refine (mul_any ao bo _ _ c d (V xs) (V ys) _ rfl rfl (by omega) (by omega) ((hr.below hb1).trim hx) ((hr2.below hb1).trim hy)).mono ?_
    rintro e w4 hret
    obtain ⟨ao', cap', rfl, ho, hb⟩ := hret.later hb1
    go_wp2_with fail
    go_ret
    exact ⟨ao', cap', rfl, ho, hb⟩
  · have hdoc : mulDoc xs ys = [] := by unfold mulDoc; rw [if_neg (by omega)]
    rw [hdoc]
    have hall : false = [n, m].all (fun x => decide (x ≤ 1200)) := by simp; omega
    have hall' := hid hall; clear hall
    go_enter Try.func20, Try.ntmps20
    go_wp2_with fail
    refine (short_any _ 2 [n, m] false _ rfl (by omega) (by simp; omega) hall'.out (two_cells _ _ _ _ _ _ _ _)).mono ?_
    rintro e w1 ⟨rfl, hw1⟩
    have hb1 : Below w.heap.size w w1 := by rw [hw1]; exact (Below.refl _ _).alloc (Nat.le_refl _) _
    clear hw1
    go_wp2_with fail
    go_ret
    exact Ret.nil hb1

end Go.Proofs.Ytchfkmompciooab
