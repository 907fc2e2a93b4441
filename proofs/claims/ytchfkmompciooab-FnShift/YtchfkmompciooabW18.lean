import Derived.Test.YtchfkmompciooabW17
namespace Go.Proofs.Ytchfkmompciooab
open Go.RowKit
set_option linter.unusedVariables false

/-- What NatShift is to answer. -/
def shOk (xs : List Nat) (z : Int) : Prop := xs.length ≤ 1200 ∧ -80000 ≤ z ∧ z ≤ 80000
def shVal (a : Nat) (z : Int) : Nat := if 0 ≤ z then a * 2 ^ z.toNat else a / 2 ^ (-z).toNat
def shDoc (xs : List Nat) (z : Int) : List Nat := if xs.length ≤ 1200 ∧ -80000 ≤ z ∧ z ≤ 80000 then L (shVal (V xs) z) else []

theorem shVal_left (a s : Nat) : shVal a (s : Int) = a * 2 ^ s := by unfold shVal; rw [if_pos (by omega)]; simp
theorem shVal_right (a s : Nat) (h : 0 < s) : shVal a (-(s : Int)) = a / 2 ^ s := by unfold shVal; rw [if_neg (by omega)]; simp

theorem len_shl64 (a s K : Nat) (h : (L a).length ≤ K) : (L (a * 2 ^ s)).length ≤ K + (s / 64 + 1) := by
  refine M.len_of_lt (by omega) _ _ ?_
  have h1 := L_lt a K h
  have h2 : 2 ^ s ≤ 18446744073709551616 ^ (s / 64 + 1) := by
    rw [show (18446744073709551616 : Nat) = 2 ^ 64 from rfl, ← Nat.pow_mul]
    exact Nat.pow_le_pow_right (by omega) (by omega)
  rw [Nat.pow_add]
  exact Nat.lt_of_lt_of_le (Nat.mul_lt_mul_of_pos_right h1 (Nat.pow_pos (by omega))) (Nat.mul_le_mul_left _ h2)

theorem len_shl32 (a s K : Nat) (h : (D a).length ≤ K) : (D (a * 2 ^ s)).length ≤ K + (s / 32 + 1) := by
  refine M.len_of_lt (by omega) _ _ ?_
  have h1 := D_lt a K h
  have h2 : 2 ^ s ≤ 4294967296 ^ (s / 32 + 1) := by
    rw [show (4294967296 : Nat) = 2 ^ 32 from rfl, ← Nat.pow_mul]
    exact Nat.pow_le_pow_right (by omega) (by omega)
  rw [Nat.pow_add]
  exact Nat.lt_of_lt_of_le (Nat.mul_lt_mul_of_pos_right h1 (Nat.pow_pos (by omega))) (Nat.mul_le_mul_left _ h2)

theorem len_shr {B : Nat} (hB : 1 < B) (a s K : Nat) (h : (M.dig B a).length ≤ K) : (M.dig B (a / 2 ^ s)).length ≤ K :=
  M.len_of_lt hB _ _ (Nat.lt_of_le_of_lt (Nat.div_le_self _ _) (Nat.lt_of_lt_of_le (M.lt_dig hB a) (Nat.pow_le_pow_right (by omega) h)))

theorem shDoc_len (xs : List Nat) (z : Int) (hx : F64 xs) : (shDoc xs z).length ≤ 3000 := by
  unfold shDoc
  split
  · next h =>
    have h1 := L_len xs hx
    by_cases hz : 0 ≤ z
    · obtain ⟨s, rfl⟩ := Int.eq_ofNat_of_zero_le hz
      rw [shVal_left]
      have := len_shl64 (V xs) s 1200 (by omega)
      omega
    · obtain ⟨s, hs⟩ := Int.eq_ofNat_of_zero_le (show 0 ≤ -z by omega)
      have e : z = -(s : Int) := by omega
      subst e
      rw [shVal_right _ _ (by omega)]
      have := len_shr (B := 18446744073709551616) (by omega) (V xs) s 1200 (show (L (V xs)).length ≤ 1200 by omega)
      exact Nat.le_trans this (by omega)
  · simp

theorem one_cell (w : World) (t : TypeId) (ao : Option Addr) (n c : Nat) : ∀ i, i < 1 → ∃ ao' cap, (w.alloc (.cells #[.slice ao n c] t)).cell? ⟨w.heap.size, i, none⟩ = some (.slice ao' ([n].getD i 0) cap) := by
  intro i hi
  match i, hi with
  | 0, _ => exact ⟨ao, c, by simp⟩

set_option maxHeartbeats 1000000 in
theorem implNatShift_any (ao : Option Addr) (n c : Nat) (xs : List Nat) (z : Int) (w : World) (hl : xs.length = n) (hc : n ≤ c) (hn : n ≤ 1048576) (hx : F64 xs) (hr : Rd w ao xs) :
    Calls Try.prog 16 #[.slice ao n c, .int .i64 z] w fun e w' => Ret w w' e (shDoc xs z) := by
  have s1 := L_len xs hx
  by_cases h1 : n ≤ 1200
  · have hall : true = [n].all (fun x => decide (x ≤ 1200)) := by simp [h1]
    have hall' := hid hall; clear hall
    by_cases h2 : -80000 ≤ z ∧ z ≤ 80000
    · have hdoc : shDoc xs z = L (shVal (V xs) z) := by unfold shDoc; rw [if_pos (by omega)]
      rw [hdoc]
      by_cases hz : 0 ≤ z
      · obtain ⟨s, rfl⟩ := Int.eq_ofNat_of_zero_le hz
        rw [shVal_left]
        have hz1 : ¬ (80000 : Int) < (s : Int) := by omega
        have hz2 : ¬ (s : Int) < -80000 := by omega
        have hz3 : ¬ (s : Int) < 0 := by omega
        go_enter Try.func16, Try.ntmps16
        go_wp2_with fail
        refine (short_any _ 1 [n] true _ rfl (by omega) (by simp; omega) hall'.out (one_cell _ _ _ _ _)).mono ?_
        rintro e w1 ⟨rfl, hw1⟩
        have hb1 : Below w.heap.size w w1 := by rw [hw1]; exact (Below.refl _ _).alloc (Nat.le_refl _) _
        clear hw1
        go_wp2_with fail
        refine (trim_any ao n c xs _ hl hc (by omega) hx (hr.below hb1)).mono ?_
        rintro e w2 ⟨rfl, rfl⟩
        go_wp2_with fail
        refine (shiftLeft_any ao _ c s (V xs) _ rfl (by omega) (by omega) ((hr.below hb1).trim hx)).mono ?_
        rintro e w4 hret
        obtain ⟨ao', cap', rfl, ho, hb⟩ := hret.later hb1
        go_wp2_with fail
        go_ret
        exact ⟨ao', cap', rfl, ho, hb⟩
      · obtain ⟨s, hs⟩ := Int.eq_ofNat_of_zero_le (show 0 ≤ -z by omega)
        have e : z = -(s : Int) := by omega
        subst e
        rw [shVal_right _ _ (by omega)]
        have hz1 : ¬ (80000 : Int) < -(s : Int) := by omega
        have hz2 : ¬ -(s : Int) < -80000 := by omega
        have hz3 : -(s : Int) < 0 := by omega
        clear hs
        go_enter Try.func16, Try.ntmps16
        go_wp2_with fail
        refine (short_any _ 1 [n] true _ rfl (by omega) (by simp; omega) hall'.out (one_cell _ _ _ _ _)).mono ?_
        rintro e w1 ⟨rfl, hw1⟩
        have hb1 : Below w.heap.size w w1 := by rw [hw1]; exact (Below.refl _ _).alloc (Nat.le_refl _) _
        clear hw1
        go_wp2_with fail
        refine (trim_any ao n c xs _ hl hc (by omega) hx (hr.below hb1)).mono ?_
        rintro e w2 ⟨rfl, rfl⟩
        go_wp2_with fail
        refine (shiftRight_any ao _ c s (V xs) _ rfl (by omega) (by omega) (by omega) ((hr.below hb1).trim hx)).mono ?_
        rintro e w4 hret
        obtain ⟨ao', cap', rfl, ho, hb⟩ := hret.later hb1
        go_wp2_with fail
        go_ret
        exact ⟨ao', cap', rfl, ho, hb⟩
    · have hdoc : shDoc xs z = [] := by unfold shDoc; rw [if_neg (by omega)]
      rw [hdoc]
      by_cases h3 : 80000 < z
      · go_enter Try.func16, Try.ntmps16
        go_wp2_with fail
        refine (short_any _ 1 [n] true _ rfl (by omega) (by simp; omega) hall'.out (one_cell _ _ _ _ _)).mono ?_
        rintro e w1 ⟨rfl, hw1⟩
        have hb1 : Below w.heap.size w w1 := by rw [hw1]; exact (Below.refl _ _).alloc (Nat.le_refl _) _
        clear hw1
        go_wp2_with fail
        go_ret
        exact Ret.nil hb1
      · have h4 : z < -80000 := by omega
        go_enter Try.func16, Try.ntmps16
        go_wp2_with fail
        refine (short_any _ 1 [n] true _ rfl (by omega) (by simp; omega) hall'.out (one_cell _ _ _ _ _)).mono ?_
        rintro e w1 ⟨rfl, hw1⟩
        have hb1 : Below w.heap.size w w1 := by rw [hw1]; exact (Below.refl _ _).alloc (Nat.le_refl _) _
        clear hw1
        go_wp2_with fail
        go_ret
        exact Ret.nil hb1
  · have hdoc : shDoc xs z = [] := by unfold shDoc; rw [if_neg (by omega)]
    rw [hdoc]
    have hall : false = [n].all (fun x => decide (x ≤ 1200)) := by simp; omega
    have hall' := hid hall; clear hall
    go_enter Try.func16, Try.ntmps16
    go_wp2_with fail
    refine (short_any _ 1 [n] false _ rfl (by omega) (by simp; omega) hall'.out (one_cell _ _ _ _ _)).mono ?_
    rintro e w1 ⟨rfl, hw1⟩
    have hb1 : Below w.heap.size w w1 := by rw [hw1]; exact (Below.refl _ _).alloc (Nat.le_refl _) _
    clear hw1
    go_wp2_with fail
    go_ret
    exact Ret.nil hb1

set_option maxHeartbeats 1000000 in
theorem specNatShift_any (ao : Option Addr) (n c : Nat) (xs : List Nat) (z : Int) (w : World) (hl : xs.length = n) (hn : n ≤ 1048576) (hx : F64 xs) (hr : Rd w ao xs) :
    Calls Try.prog 15 #[.slice ao n c, .int .i64 z] w fun e w' => Ret w w' e (shDoc xs z) := by
  have s1 := D_len xs hx
  by_cases h1 : n ≤ 1200
  · have d1 : decide (n ≤ 1200) = true := by simpa using h1
    by_cases h2 : -80000 ≤ z ∧ z ≤ 80000
    · have hdoc : shDoc xs z = L (shVal (V xs) z) := by unfold shDoc; rw [if_pos (by omega)]
      rw [hdoc]
      by_cases hz : 0 ≤ z
      · obtain ⟨s, rfl⟩ := Int.eq_ofNat_of_zero_le hz
        rw [shVal_left]
        have hz1 : ¬ (80000 : Int) < (s : Int) := by omega
        have hz2 : ¬ (s : Int) < -80000 := by omega
        have hz3 : (0 : Int) ≤ (s : Int) := by omega
        go_enter Try.func15, Try.ntmps15
        go_wp2_with fail
        refine (l1Fits_any ao n c _ (by omega)).mono ?_
        rintro e w1 ⟨rfl, rfl⟩
        rw [d1]
        go_wp2_with fail
        refine (l1In_any ao n c xs _ hl (by omega) hx hr).mono ?_
        rintro e w3 ⟨ao1, cap1, rfl, ho1, hb1⟩
        go_wp2_with fail
        refine (l1Left_any ao1 _ cap1 s (V xs) _ rfl (by omega) (by omega) (Rd.own ho1)).mono ?_
        rintro e w5 ⟨ao3, cap3, rfl, ho3, hb3⟩
        have b3 := hb1.trans (hb3.mono hb1.size)
        have hs3 := len_shl32 (V xs) s 2400 (by omega)
        go_wp2_with fail
        refine (l1Out_any ao3 _ cap3 (V xs * 2 ^ s) _ rfl (by omega) (Rd.own ho3)).mono ?_
        rintro e w6 ⟨ao4, cap4, rfl, ho4, hb4⟩
        go_wp2_with fail
        go_ret
        exact ⟨ao4, cap4, rfl, own_base ho4 b3.size, b3.trans (hb4.mono b3.size)⟩
      · obtain ⟨s, hs⟩ := Int.eq_ofNat_of_zero_le (show 0 ≤ -z by omega)
        have e : z = -(s : Int) := by omega
        subst e
        rw [shVal_right _ _ (by omega)]
        have hz1 : ¬ (80000 : Int) < -(s : Int) := by omega
        have hz2 : ¬ -(s : Int) < -80000 := by omega
        have hz3 : ¬ (0 : Int) ≤ -(s : Int) := by omega
        clear hs
        go_enter Try.func15, Try.ntmps15
        go_wp2_with fail
        refine (l1Fits_any ao n c _ (by omega)).mono ?_
        rintro e w1 ⟨rfl, rfl⟩
        rw [d1]
        go_wp2_with fail
        refine (l1In_any ao n c xs _ hl (by omega) hx hr).mono ?_
        rintro e w3 ⟨ao1, cap1, rfl, ho1, hb1⟩
        go_wp2_with fail
        refine (l1Right_any ao1 _ cap1 s (V xs) _ rfl (by omega) (by omega) (Rd.own ho1)).mono ?_
        rintro e w5 ⟨ao3, cap3, rfl, ho3, hb3⟩
        have b3 := hb1.trans (hb3.mono hb1.size)
        have hs3 : (D (V xs / 2 ^ s)).length ≤ 2400 := len_shr (by omega) (V xs) s 2400 (show (D (V xs)).length ≤ 2400 by omega)
        go_wp2_with fail
        refine (l1Out_any ao3 _ cap3 (V xs / 2 ^ s) _ rfl (by omega) (Rd.own ho3)).mono ?_
        rintro e w6 ⟨ao4, cap4, rfl, ho4, hb4⟩
        go_wp2_with fail
        go_ret
        exact ⟨ao4, cap4, rfl, own_base ho4 b3.size, b3.trans (hb4.mono b3.size)⟩
    · have hdoc : shDoc xs z = [] := by unfold shDoc; rw [if_neg (by omega)]
      rw [hdoc]
      by_cases h3 : 80000 < z
      · go_enter Try.func15, Try.ntmps15
        go_wp2_with fail
        refine (l1Fits_any ao n c _ (by omega)).mono ?_
        rintro e w1 ⟨rfl, rfl⟩
        rw [d1]
        go_wp2_with fail
        go_ret
        exact Ret.nil (Below.refl _ _)
      · have h4 : z < -80000 := by omega
        go_enter Try.func15, Try.ntmps15
        go_wp2_with fail
        refine (l1Fits_any ao n c _ (by omega)).mono ?_
        rintro e w1 ⟨rfl, rfl⟩
        rw [d1]
        go_wp2_with fail
        go_ret
        exact Ret.nil (Below.refl _ _)
  · have d1 : decide (n ≤ 1200) = false := by simpa using h1
    have hdoc : shDoc xs z = [] := by unfold shDoc; rw [if_neg (by omega)]
    rw [hdoc]
    go_enter Try.func15, Try.ntmps15
    go_wp2_with fail
    refine (l1Fits_any ao n c _ (by omega)).mono ?_
    rintro e w1 ⟨rfl, rfl⟩
    rw [d1]
    go_wp2_with fail
    go_ret
    exact Ret.nil (Below.refl _ _)

end Go.Proofs.Ytchfkmompciooab
