import Derived.Test.YtehplfmnipadmadDiv8
namespace Go.Proofs.Ytehplfmnipadmad
open Go.RowKit
set_option linter.unusedVariables false
set_option maxRecDepth 100000

/-- Two new lists, in blocks of their own, and a bool. -/
def RetT (w w' : World) (e : Ending) (q r : List Nat) (ok : Bool) : Prop :=
  ∃ ao ca bo cb mid, e = .returned (.tuple #[.slice ao q.length ca, .slice bo r.length cb, .bool ok]) ∧ w.heap.size ≤ mid ∧ mid ≤ w'.heap.size ∧ Own w' w.heap.size mid ao ca q ∧ Own w' mid w'.heap.size bo cb r ∧ Below w.heap.size w w'

theorem RetT.nil {w w' : World} (h : Below w.heap.size w w') : RetT w w' (.returned (.tuple #[.slice none 0 0, .slice none 0 0, .bool false])) [] [] false := ⟨none, 0, none, 0, w.heap.size, rfl, Nat.le_refl _, h.size, Own.nil _ _ _, Own.nil _ _ _, h⟩

/-- What NatDivMod is to answer. -/
def divOk (xs ys : List Nat) : Bool := decide (xs.length ≤ 1200) && decide (ys.length ≤ 1200) && decide (0 < V ys)
def divQ (xs ys : List Nat) : List Nat := if divOk xs ys then L (V xs / V ys) else []
def divR (xs ys : List Nat) : List Nat := if divOk xs ys then L (V xs % V ys) else []

theorem div_len (xs ys : List Nat) (hx : F64 xs) (hy : F64 ys) : (divQ xs ys).length ≤ 1200 ∧ (divR xs ys).length ≤ 1200 := by
  unfold divQ divR
  split
  · next h =>
    simp only [divOk, Bool.and_eq_true, decide_eq_true_eq] at h
    have h1 := L_len xs hx
    have h2 := L_lt (V xs) 1200 (by omega)
    exact ⟨M.len_of_lt (B := 18446744073709551616) (by omega) _ _ (Nat.lt_of_le_of_lt (Nat.div_le_self _ _) h2), M.len_of_lt (B := 18446744073709551616) (by omega) _ _ (Nat.lt_of_le_of_lt (Nat.mod_le _ _) h2)⟩
  · simp

theorem len_pos_iff (v : Nat) (h : 0 < v) : (L v).length ≠ 0 := by
  intro e
  have := L_lt v 0 (by omega)
  simp at this
  omega

set_option maxHeartbeats 1000000 in
theorem implNatDivMod_any (ao bo : Option Addr) (n m c d : Nat) (xs ys : List Nat) (w : World) (hl : xs.length = n) (hm : ys.length = m) (hc : n ≤ c) (hd : m ≤ d) (hn : n ≤ 1048576) (hn2 : m ≤ 1048576) (hx : F64 xs) (hy : F64 ys) (hr : Rd w ao xs) (hr2 : Rd w bo ys) :
    Calls Try.prog 16 #[.slice ao n c, .slice bo m d] w fun e w' => RetT w w' e (divQ xs ys) (divR xs ys) (divOk xs ys) := by
  by_cases h1 : n ≤ 1200 ∧ m ≤ 1200
  · have hall : true = [n, m].all (fun x => decide (x ≤ 1200)) := by simp [h1]
    have hall' := hid hall; clear hall
    have s1 := L_len xs hx
    have s2 := L_len ys hy
    by_cases hba : 0 < V ys
    · have hok : divOk xs ys = true := by simp [divOk]; omega
      have hdq : divQ xs ys = L (V xs / V ys) := by unfold divQ; rw [hok]; rfl
      have hdr : divR xs ys = L (V xs % V ys) := by unfold divR; rw [hok]; rfl
      rw [hdq, hdr, hok]
      have hne := len_pos_iff _ hba
      have hne' : (((L (V ys)).length : Int) == 0) = false := by simp; intro e; rw [e] at hne; simp at hne
      go_enter Try.func16, Try.ntmps16
      go_wp2_with fail
      refine (short_any _ 2 [n, m] true _ rfl (by omega) (by simp; omega) hall'.out (two_cells _ _ _ _ _ _ _ _)).mono ?_
      rintro e w1 ⟨rfl, hw1⟩
      have hb1 : Below w.heap.size w w1 := by rw [hw1]; exact (Below.refl _ _).alloc (Nat.le_refl _) _
      clear hw1
      go_wp2_with fail
      refine (trim_any ao n c xs _ hl hc (by omega) hx (hr.below hb1)).mono ?_
      rintro e w2 ⟨rfl, rfl⟩
      go_wp2_with fail
      refine (trim_any bo m d ys _ hm hd (by omega) hy (hr2.below hb1)).mono ?_
      rintro e w3 ⟨rfl, rfl⟩
      go_wp2_with fail
      refine (divMod_any ao bo _ _ c d (V xs) (V ys) _ rfl rfl hba (by omega) (by omega) ((hr.below hb1).trim hx) ((hr2.below hb1).trim hy)).mono ?_
      rintro e w5 hret
      obtain ⟨qa, qc, ra, rc, mid, rfl, g1, g2, o1, o2, hb5⟩ := hret.later hb1
      go_wp2_with fail
      go_ret3
      exact ⟨qa, qc, ra, rc, mid, rfl, g1, g2, o1, o2, hb5⟩
    · have hok : divOk xs ys = false := by simp [divOk]; omega
      have hdq : divQ xs ys = [] := by unfold divQ; rw [hok]; rfl
      have hdr : divR xs ys = [] := by unfold divR; rw [hok]; rfl
      rw [hdq, hdr, hok]
      have hv0 : V ys = 0 := by omega
      go_enter Try.func16, Try.ntmps16
      go_wp2_with fail
      refine (short_any _ 2 [n, m] true _ rfl (by omega) (by simp; omega) hall'.out (two_cells _ _ _ _ _ _ _ _)).mono ?_
      rintro e w1 ⟨rfl, hw1⟩
      have hb1 : Below w.heap.size w w1 := by rw [hw1]; exact (Below.refl _ _).alloc (Nat.le_refl _) _
      clear hw1
      go_wp2_with fail
      refine (trim_any ao n c xs _ hl hc (by omega) hx (hr.below hb1)).mono ?_
      rintro e w2 ⟨rfl, rfl⟩
      go_wp2_with fail
      refine (trim_any bo m d ys _ hm hd (by omega) hy (hr2.below hb1)).mono ?_
      rw [hv0, show L 0 = [] from M.dig_zero _]
      rintro e w3 ⟨rfl, rfl⟩
      go_wp2_with fail
      go_ret3
      exact RetT.nil hb1
  · have hok : divOk xs ys = false := by simp [divOk]; omega
    have hdq : divQ xs ys = [] := by unfold divQ; rw [hok]; rfl
    have hdr : divR xs ys = [] := by unfold divR; rw [hok]; rfl
    rw [hdq, hdr, hok]
    have hall : false = [n, m].all (fun x => decide (x ≤ 1200)) := by simp; omega
    have hall' := hid hall; clear hall
    go_enter Try.func16, Try.ntmps16
    go_wp2_with fail
    refine (short_any _ 2 [n, m] false _ rfl (by omega) (by simp; omega) hall'.out (two_cells _ _ _ _ _ _ _ _)).mono ?_
    rintro e w1 ⟨rfl, hw1⟩
    have hb1 : Below w.heap.size w w1 := by rw [hw1]; exact (Below.refl _ _).alloc (Nat.le_refl _) _
    clear hw1
    go_wp2_with fail
    go_ret3
    exact RetT.nil hb1

theorem lenD_pos (v : Nat) (h : 0 < v) : (D v).length ≠ 0 := by
  intro e
  have := D_lt v 0 (by omega)
  simp at this
  omega

set_option maxHeartbeats 2000000 in
theorem specNatDivMod_any (ao bo : Option Addr) (n m c d : Nat) (xs ys : List Nat) (w : World) (hl : xs.length = n) (hm : ys.length = m) (hn : n ≤ 1048576) (hn2 : m ≤ 1048576) (hx : F64 xs) (hy : F64 ys) (hr : Rd w ao xs) (hr2 : Rd w bo ys) :
    Calls Try.prog 17 #[.slice ao n c, .slice bo m d] w fun e w' => RetT w w' e (divQ xs ys) (divR xs ys) (divOk xs ys) := by
  have hs1 := D_len xs hx
  have hs2 := D_len ys hy
  by_cases h1 : n ≤ 1200
  · have d1 : decide (n ≤ 1200) = true := by simpa using h1
    by_cases h2 : m ≤ 1200
    · have d2 : decide (m ≤ 1200) = true := by simpa using h2
      by_cases hba : 0 < V ys
      · have hok : divOk xs ys = true := by simp [divOk]; omega
        have hdq : divQ xs ys = L (V xs / V ys) := by unfold divQ; rw [hok]; rfl
        have hdr : divR xs ys = L (V xs % V ys) := by unfold divR; rw [hok]; rfl
        rw [hdq, hdr, hok]
        have hne := lenD_pos _ hba
        have hne' : (((D (V ys)).length : Int) == 0) = false := by simp; intro e; rw [e] at hne; simp at hne
        go_enter Try.func17, Try.ntmps17
        go_wp2_with fail
        refine (l1Fits_any ao n c _ (by omega)).mono ?_
        rintro e w1 ⟨rfl, rfl⟩
        rw [d1]
        go_wp2_with fail
        refine (l1Fits_any bo m d _ (by omega)).mono ?_
        rintro e w2 ⟨rfl, rfl⟩
        rw [d2]
        go_wp2_with fail
        refine (l1In_any bo m d ys _ hm (by omega) hy hr2).mono ?_
        rintro e w3 ⟨ao0, cap0, rfl, ho0, b2⟩
        clear ho0
        go_wp2_with fail
        refine (l1In_any ao n c xs _ hl (by omega) hx (hr.below b2)).mono ?_
        rintro e w6 ⟨ao3, cap3, rfl, ho3, hb3⟩
        have b3 := b2.trans (hb3.mono b2.size)
        go_wp2_with fail
        refine (l1In_any bo m d ys _ hm (by omega) hy (hr2.below b3)).mono ?_
        rintro e w7 ⟨ao4, cap4, rfl, ho4, hb4⟩
        have b4 := b3.trans (hb4.mono b3.size)
        go_wp2_with fail
        refine (l1Div_any ao3 ao4 _ _ cap3 cap4 (V xs) (V ys) _ rfl rfl hba (by omega) (by omega) (own_cap ho3) ((Rd.own ho3).below hb4) (Rd.own ho4)).mono ?_
        rintro e w8 ⟨ao5, cap5, ao6, cap6, rfl, hr5, hr6, hb5⟩
        have b5 := b4.trans (hb5.mono b4.size)
        have hlt : V xs < 4294967296 ^ 2400 := D_lt (V xs) 2400 (by omega)
        have hs3 : (D (V xs / V ys)).length ≤ 2400 := M.len_of_lt (B := 4294967296) (by omega) _ _ (Nat.lt_of_le_of_lt (Nat.div_le_self _ _) hlt)
        have hs4 : (D (V xs % V ys)).length ≤ 2400 := M.len_of_lt (B := 4294967296) (by omega) _ _ (Nat.lt_of_le_of_lt (Nat.mod_le _ _) hlt)
        clear hlt ho3 ho4
        go_wp2_with fail
        refine (l1Out_any ao5 _ cap5 (V xs / V ys) _ rfl (by omega) hr5).mono ?_
        rintro e w9 ⟨ao7, cap7, rfl, ho7, hb7⟩
        have b7 := b5.trans (hb7.mono b5.size)
        go_wp2_with fail
        refine (l1Out_any ao6 _ cap6 (V xs % V ys) _ rfl (by omega) (hr6.below hb7)).mono ?_
        rintro e w10 ⟨ao8, cap8, rfl, ho8, hb8⟩
        go_wp2_with fail
        go_ret3
        have o1 := (Own.of ho7).keep hb8
        have o2 := Own.of ho8
        exact ⟨ao7, cap7, ao8, cap8, w9.heap.size, rfl, b7.size, hb8.size, o1.widen b5.size (Nat.le_refl _), o2, b7.trans (hb8.mono b7.size)⟩
      · have hok : divOk xs ys = false := by simp [divOk]; omega
        have hdq : divQ xs ys = [] := by unfold divQ; rw [hok]; rfl
        have hdr : divR xs ys = [] := by unfold divR; rw [hok]; rfl
        rw [hdq, hdr, hok]
        have hv0 : V ys = 0 := by omega
        go_enter Try.func17, Try.ntmps17
        go_wp2_with fail
        refine (l1Fits_any ao n c _ (by omega)).mono ?_
        rintro e w1 ⟨rfl, rfl⟩
        rw [d1]
        go_wp2_with fail
        refine (l1Fits_any bo m d _ (by omega)).mono ?_
        rintro e w2 ⟨rfl, rfl⟩
        rw [d2]
        go_wp2_with fail
        refine (l1In_any bo m d ys _ hm (by omega) hy hr2).mono ?_
        rw [hv0, show D 0 = [] from M.dig_zero _]
        rintro e w3 ⟨ao0, cap0, rfl, ho0, b2⟩
        clear ho0
        go_wp2_with fail
        go_ret3
        exact RetT.nil b2
    · have d2 : decide (m ≤ 1200) = false := by simpa using h2
      have hok : divOk xs ys = false := by simp [divOk]; omega
      have hdq : divQ xs ys = [] := by unfold divQ; rw [hok]; rfl
      have hdr : divR xs ys = [] := by unfold divR; rw [hok]; rfl
      rw [hdq, hdr, hok]
      go_enter Try.func17, Try.ntmps17
      go_wp2_with fail
      refine (l1Fits_any ao n c _ (by omega)).mono ?_
      rintro e w1 ⟨rfl, rfl⟩
      rw [d1]
      go_wp2_with fail
      refine (l1Fits_any bo m d _ (by omega)).mono ?_
      rintro e w2 ⟨rfl, rfl⟩
      rw [d2]
      go_wp2_with fail
      go_ret3
      exact RetT.nil (Below.refl _ _)
  · have d1 : decide (n ≤ 1200) = false := by simpa using h1
    have hok : divOk xs ys = false := by simp [divOk]; omega
    have hdq : divQ xs ys = [] := by unfold divQ; rw [hok]; rfl
    have hdr : divR xs ys = [] := by unfold divR; rw [hok]; rfl
    rw [hdq, hdr, hok]
    go_enter Try.func17, Try.ntmps17
    go_wp2_with fail
    refine (l1Fits_any ao n c _ (by omega)).mono ?_
    rintro e w1 ⟨rfl, rfl⟩
    rw [d1]
    go_wp2_with fail
    go_ret3
    exact RetT.nil (Below.refl _ _)

end Go.Proofs.Ytehplfmnipadmad
