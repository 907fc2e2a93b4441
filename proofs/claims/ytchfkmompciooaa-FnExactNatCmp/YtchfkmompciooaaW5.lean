import Derived.Test.YtchfkmompciooaaCom
namespace Go.Proofs.Ytchfkmompciooaa
open Go.RowKit
set_option linter.unusedVariables false

/-- What NatCmp is to say. -/
def cmpDoc (xs ys : List Nat) : Int := if xs.length ≤ 1200 ∧ ys.length ≤ 1200 then cmpI (V xs : Nat) (V ys : Nat) else 2

set_option maxHeartbeats 1000000 in
theorem specNatCmp_any (ao bo : Option Addr) (n m c d : Nat) (xs ys : List Nat) (w : World) (hl : xs.length = n) (hm : ys.length = m) (hn : n ≤ 1048576) (hn2 : m ≤ 1048576) (hx : F64 xs) (hy : F64 ys) (hr : Rd w ao xs) (hr2 : Rd w bo ys) :
    Calls Try.prog 17 #[.slice ao n c, .slice bo m d] w fun e w' => e = .returned (.int .i64 (cmpDoc xs ys)) ∧ Below w.heap.size w w' := by
  have e1 : n ≤ 1200 → decide (n ≤ 1200) = true := by simp
  by_cases h1 : n ≤ 1200
  · by_cases h2 : m ≤ 1200
    · have hdoc : cmpDoc xs ys = cmpI (V xs : Nat) (V ys : Nat) := by unfold cmpDoc; rw [if_pos (by omega)]
      rw [hdoc]
      have d1 : decide (n ≤ 1200) = true := by simpa using h1
      have d2 : decide (m ≤ 1200) = true := by simpa using h2
      go_enter Try.func17, Try.ntmps17
      go_wp2_with fail
      refine (l1Fits_any ao n c _ (by omega)).mono ?_
      rintro e w1 ⟨rfl, rfl⟩
      rw [d1]
      go_wp2_with fail
      refine (l1Fits_any bo m d _ (by omega)).mono ?_
      rintro e w2 ⟨rfl, rfl⟩
      rw [d2]
      go_wp2_with fail
      refine (l1In_any ao n c xs _ hl (by omega) hx hr).mono ?_
      rintro e w3 ⟨ao1, cap1, rfl, ho1, hb1⟩
      go_wp2_with fail
      refine (l1In_any bo m d ys _ hm (by omega) hy (hr2.below hb1)).mono ?_
      rintro e w4 ⟨ao2, cap2, rfl, ho2, hb2⟩
      go_wp2_with fail
      have hs1 : (D (V xs)).length ≤ 4194304 := by
        have := M.length_dig_le (B := 4294967296) (by omega) (M.halves xs) (M.halves_lt xs hx)
        rw [M.val_halves, M.halves_length] at this
        unfold D V; omega
      have hs2 : (D (V ys)).length ≤ 4194304 := by
        have := M.length_dig_le (B := 4294967296) (by omega) (M.halves ys) (M.halves_lt ys hy)
        rw [M.val_halves, M.halves_length] at this
        unfold D V; omega
      refine (l1Cmp_any ao1 ao2 _ _ cap1 cap2 (V xs) (V ys) _ rfl rfl hs1 hs2 ((Rd.own ho1).below hb2) (Rd.own ho2)).mono ?_
      rintro e w5 ⟨rfl, rfl⟩
      go_wp2_with fail
      go_ret
      exact ⟨rfl, hb1.trans (hb2.mono hb1.size)⟩
    · have hdoc : cmpDoc xs ys = 2 := by unfold cmpDoc; rw [if_neg (by omega)]
      rw [hdoc]
      have d1 : decide (n ≤ 1200) = true := by simpa using h1
      have d2 : decide (m ≤ 1200) = false := by simpa using h2
      go_enter Try.func17, Try.ntmps17
      go_wp2_with fail
      refine (l1Fits_any ao n c _ (by omega)).mono ?_
      rintro e w1 ⟨rfl, rfl⟩
      rw [d1]
      go_wp2_with fail
      refine (l1Fits_any bo m d _ (by omega)).mono ?_
      rintro e w2 ⟨rfl, rfl⟩
      rw [d2]
      go_wp2_with fail
      go_ret
      exact ⟨rfl, Below.refl _ _⟩
  · have hdoc : cmpDoc xs ys = 2 := by unfold cmpDoc; rw [if_neg (by omega)]
    rw [hdoc]
    have d1 : decide (n ≤ 1200) = false := by simpa using h1
    go_enter Try.func17, Try.ntmps17
    go_wp2_with fail
    refine (l1Fits_any ao n c _ (by omega)).mono ?_
    rintro e w1 ⟨rfl, rfl⟩
    rw [d1]
    go_wp2_with fail
    go_ret
    exact ⟨rfl, Below.refl _ _⟩

set_option maxHeartbeats 1000000 in
theorem implNatCmp_any (ao bo : Option Addr) (n m c d : Nat) (xs ys : List Nat) (w : World) (hl : xs.length = n) (hm : ys.length = m) (hc : n ≤ c) (hd : m ≤ d) (hn : n ≤ 1048576) (hn2 : m ≤ 1048576) (hx : F64 xs) (hy : F64 ys) (hr : Rd w ao xs) (hr2 : Rd w bo ys) :
    Calls Try.prog 19 #[.slice ao n c, .slice bo m d] w fun e w' => e = .returned (.int .i64 (cmpDoc xs ys)) ∧ Below w.heap.size w w' := by
  by_cases h1 : n ≤ 1200 ∧ m ≤ 1200
  · have hdoc : cmpDoc xs ys = cmpI (V xs : Nat) (V ys : Nat) := by unfold cmpDoc; rw [if_pos (by omega)]
    rw [hdoc]
    have hall : true = [n, m].all (fun x => decide (x ≤ 1200)) := by simp [h1]
    have hall' := hid hall; clear hall
    go_enter Try.func19, Try.ntmps19
    go_wp2_with fail
    refine (short_any _ 2 [n, m] true _ rfl (by omega) (by simp; omega) hall'.out (two_cells _ _ _ _ _ _ _ _)).mono ?_
    rintro e w1 ⟨rfl, hw1⟩
    have hb1 : Below w.heap.size w w1 := by rw [hw1]; exact (Below.refl _ _).alloc (Nat.le_refl _) _
    clear hw1
    go_wp2_with fail
    refine (trim_any ao n c xs _ hl hc (by omega) hx (hr.below hb1)).mono ?_
    rintro e w2 ⟨rfl, rfl⟩
    go_wp2_with fail
    refine (trim_any bo m d ys _ hm hd (by omega) hy (hr2.below hb1)).mono ?_
    rintro e w3 ⟨rfl, rfl⟩
    go_wp2_with fail
    have s1 := L_len xs hx
    have s2 := L_len ys hy
    refine (compare_any ao bo _ _ c d (V xs) (V ys) _ rfl rfl (by omega) (by omega) ((hr.below hb1).trim hx) ((hr2.below hb1).trim hy)).mono ?_
    rintro e w4 ⟨rfl, q, rfl⟩
    go_wp2_with fail
    go_ret
    exact ⟨rfl, below_drewN hb1 _⟩
  · have hdoc : cmpDoc xs ys = 2 := by unfold cmpDoc; rw [if_neg (by omega)]
    rw [hdoc]
    have hall : false = [n, m].all (fun x => decide (x ≤ 1200)) := by simp; omega
    have hall' := hid hall; clear hall
    go_enter Try.func19, Try.ntmps19
    go_wp2_with fail
    refine (short_any _ 2 [n, m] false _ rfl (by omega) (by simp; omega) hall'.out (two_cells _ _ _ _ _ _ _ _)).mono ?_
    rintro e w1 ⟨rfl, hw1⟩
    have hb1 : Below w.heap.size w w1 := by rw [hw1]; exact (Below.refl _ _).alloc (Nat.le_refl _) _
    clear hw1
    go_wp2_with fail
    go_ret
    exact ⟨rfl, hb1⟩

end Go.Proofs.Ytchfkmompciooaa
