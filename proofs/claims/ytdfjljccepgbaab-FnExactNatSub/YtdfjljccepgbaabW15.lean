import Derived.Test.YtdfjljccepgbaabW14
namespace Go.Proofs.Ytdfjljccepgbaab
open Go.RowKit
set_option linter.unusedVariables false

/-- A new list of limbs and a bool are handed back; nothing old has turned. -/
def RetB (w w' : World) (e : Ending) (r : List Nat) (b : Bool) : Prop :=
  ∃ ao cap, e = .returned (.tuple #[.slice ao r.length cap, .bool b]) ∧ w'.ownsRow w.heap.size 39 1 (.slice ao r.length cap) r.length (U r) ∧ Below w.heap.size w w'

theorem RetB.nil {w w' : World} (h : Below w.heap.size w w') : RetB w w' (.returned (.tuple #[.slice none 0 0, .bool false])) [] false := ⟨none, 0, rfl, World.ownsRow_nil _ _ _ _, h⟩

theorem Rd.drewN {w : World} {ao : Option Addr} {xs : List Nat} (h : Rd w ao xs) (q : Nat) : Rd (w.drewN q) ao xs := h

/-- One place of a difference. -/
theorem M.sub_place {S c P B A A' x y o c' : Nat} (h : S + A' = A + c * P) (hs : o + y + c = x + B * c') : S + P * o + (A' + P * y) = A + P * x + c' * (P * B) := by
  have e : P * (o + y + c) = P * (x + B * c') := by rw [hs]
  simp only [Nat.mul_add] at e
  rw [Nat.mul_comm c' (P * B), Nat.mul_assoc]
  rw [Nat.mul_comm c P] at h
  omega

set_option maxHeartbeats 1000000 in
theorem l1Sub_any (ao bo : Option Addr) (n m c d : Nat) (a b : Nat) (w : World) (hl : (D a).length = n) (hm : (D b).length = m) (hba : b ≤ a) (hn : n ≤ 2097152) (hr : Rd w ao (D a)) (hr2 : Rd w bo (D b)) :
    Calls Try.prog 41 #[.slice ao n c, .slice bo m d] w fun e w' => Ret w w' e (D (a - b)) := by
  obtain ⟨i0, hi, hz0, hz1, hz2⟩ := info_parts Try.infoU
  have fa := F32_D a
  have fb := F32_D b
  have hmn : m ≤ n := by
    rcases Nat.lt_or_ge n m with h | h
    · have : a < b := M.lt_of_length (B := 4294967296) (by omega) (by unfold D at hl hm; omega)
      omega
    · exact h
  go_enter Try.func41, Try.ntmps41
  go_wp2_with fail
  go_loopw [5, 6, 7] (fun v cy i wr => ∃ (k : Nat) (os : List Nat) (cc : Nat), k ≤ n ∧ i = .int .i64 k ∧ cy = .int .u64 cc ∧ cc ≤ 1 ∧ wr.ownsRow w.heap.size 39 1 v k (U os) ∧ F32 os ∧ os.length = k ∧ X os + X ((D b).take k) = X ((D a).take k) + cc * 4294967296 ^ k ∧ Below w.heap.size w wr) (fun _ _ i _ => n - (intOf i).toNat)
  case atStart => exact ⟨0, [], 0, by omega, rfl, rfl, by omega, World.ownsRow_nil _ _ _ _, fun x hx => by simp at hx, rfl, by simp [X, M.val], Below.refl _ _⟩
  case round =>
    obtain ⟨k, os, cc, hk, rfl, rfl, hcc, hown, hf, hlen, hv, hbl⟩ := hrel
    have HV := hid hv; clear hv
    have HLen := hid hlen; clear hlen
    by_cases hlt : k < n
    · obtain ⟨b1, o1, hao, hcA⟩ := (hr.below hbl) (by omega)
      have hck := hcA k (by omega)
      clear hcA
      obtain ⟨x, hxx⟩ : ∃ x : Nat, x = (D a).getD k 0 := ⟨_, rfl⟩
      obtain ⟨y, hyy⟩ : ∃ y : Nat, y = (D b).getD k 0 := ⟨_, rfl⟩
      have hx1 := fa.get k
      have hy1 := fb.get k
      rw [← hxx] at hx1 hck
      rw [← hyy] at hy1
      have HX := hid hxx; clear hxx
      have HY := hid hyy; clear hyy
      have hlt' : (k : Int) < (n : Int) := by omega
      obtain ⟨s, hs0⟩ : ∃ s : Nat, s = 4294967296 + x - y - cc := ⟨_, rfl⟩
      have w2 : (4294967296 : Int) + (x : Int) - (y : Int) - (cc : Int) = (s : Int) := by omega
      have hlow : bits BinOp.and IntKind.u64 (s : Int) 4294967295 = ((s % 4294967296 : Nat) : Int) := by
        rw [and_low32 _ (by omega) (by omega)]; omega
      have hsb : s < 8589934592 := by omega
      obtain ⟨o, eo⟩ : ∃ o : Nat, o = s % 4294967296 := ⟨_, rfl⟩
      rw [← eo] at hlow
      obtain ⟨c', ec'⟩ : ∃ c' : Nat, c' = 1 - s / 4294967296 := ⟨_, rfl⟩
      have hsum : o + y + cc = x + 4294967296 * c' ∧ c' ≤ 1 ∧ o < 4294967296 ∧ (1 : Int) - (s : Int) / 4294967296 = (c' : Int) := by omega
      have E0 := hid hs0; have E1 := hid hsum; have E2 := hid eo; have E3 := hid ec'
      clear hs0 hsum eo ec'
      go_wp2_with fail
      go_quiet ((go_at_call 53; exact Calls.quiet_of_same (l1At_any bo _ d k (D b) _ hm (by omega) (by omega) (Rd.drewN (hr2.below hbl) _) y HY.out)))
      have hown2 : (wr.drewN nq).ownsRow w.heap.size 39 1 _ k (U os) := hown
      have hbl2 := below_drewN hbl nq
      generalize wr.drewN nq = wq at hown2 hbl2 ⊢
      clear hown hck
      go_wp2_with (at_builtin; refine wpList_append_own _ rfl _ _ 22 rfl w.heap.size 39 i0 (.int .u64 0) 1 8 Try.underlying22 hi hz0 hz1 hz2 rfl (by decide) _ _ _ rfl (hown2.alloc _) ⟨wq.heap.size, 0, none⟩ 1 1 (U [o]) rfl rfl ?c1 ?c2 ?c3 ?c4 ?c5 ?_)
      case c1 =>
        intro j u hj
        match j, hj with
        | 0, hj => simp [U] at hj; subst hj; simp [Addr.add]
      case c2 => exact U_one _
      case c3 => unfold maxLen; omega
      case c4 => omega
      case c5 => have := hbl2.size; simp; omega
      intro v' w1 hown' hgrow hnn
      clear hnn
      have hb1 : Below w.heap.size w w1 := (hbl2.alloc hbl2.size _).grown hgrow (by have := hbl2.size; simp; omega) (fun k' hk' => (hown2.lt k' hk').1)
      clear hown2 hgrow
      go_wp2_with fail
      go_roundw
      case rel =>
        have R : ∃ (k1 : Nat) (os1 : List Nat) (cc1 : Nat), k1 ≤ n ∧ Value.int .i64 ((k : Int) + 1) = .int .i64 k1 ∧ Value.int .u64 ((1 : Int) - (s : Int) / 4294967296) = .int .u64 cc1 ∧ cc1 ≤ 1 ∧ w1.ownsRow w.heap.size 39 1 v' k1 (U os1) ∧ F32 os1 ∧ os1.length = k1 ∧ X os1 + X ((D b).take k1) = X ((D a).take k1) + cc1 * 4294967296 ^ k1 ∧ Below w.heap.size w w1 := by
          refine ⟨k + 1, os ++ [o], c', by omega, by go_num, by rw [E1.out.2.2.2], E1.out.2.1, ?_, ?_, by simp [HLen.out], ?_, hb1⟩
          · rw [U_append]; exact hown'
          · intro z hz
            rcases List.mem_append.1 hz with hz | hz
            · exact hf z hz
            · simp at hz; have := E1.out.2.2.1; omega
          · unfold X at *
            rw [M.val_snoc, HLen.out, M.val_take_succ, M.val_take_succ, ← HX.out, ← HY.out, Nat.pow_succ]
            exact M.sub_place HV.out E1.out.1
        first | exact R | ((repeat apply Exists.intro); exact ⟨R, rfl⟩) | ((repeat apply Exists.intro); exact ⟨R, by rw [hao]⟩)
      case measure => simp [intOf]; omega
    · have e : k = n := by omega
      subst e
      have hfin : X os = a - b := by
        have h1 := HV.out
        rw [X_takeD a k (by omega), X_takeD b k (by omega)] at h1
        have h2 := M.val_lt (B := 4294967296) (by omega) os hf
        rw [HLen.out] at h2
        exact (M.no_borrow h1 h2 hba).2
      have hv := own_shape hown
      obtain ⟨ao1, cap1, hv⟩ := hv
      rw [hv]
      rw [hv] at hown
      clear hv
      have HF := hid hfin; clear hfin
      go_wp2_with fail
      have hrd := Rd.own hown
      refine (l1Trim_any 4294967296 (by omega) ao1 _ cap1 os _ HLen.out (own_cap hown) (by omega) hf hrd).mono ?_
      have hfin : M.val 4294967296 os = a - b := HF.out
      rw [hfin]
      rintro e w1 ⟨ao', cap', rfl, ho, hb⟩
      go_wp2_with fail
      go_ret
      exact ⟨ao', cap', rfl, own_base ho hbl.size, hbl.trans (hb.mono hbl.size)⟩

/-- What NatSub is to answer. -/
def subOk (xs ys : List Nat) : Bool := decide (xs.length ≤ 1200) && decide (ys.length ≤ 1200) && decide (V ys ≤ V xs)
def subDoc (xs ys : List Nat) : List Nat := if subOk xs ys then L (V xs - V ys) else []

theorem subDoc_len (xs ys : List Nat) (hx : F64 xs) (hy : F64 ys) : (subDoc xs ys).length ≤ 2400 := by
  unfold subDoc
  split
  · next h =>
    simp [subOk] at h
    have h1 := L_len xs hx
    have h2 : V xs - V ys < 18446744073709551616 ^ 1200 := Nat.lt_of_le_of_lt (Nat.sub_le _ _) (L_lt (V xs) 1200 (by omega))
    have := M.len_of_lt (B := 18446744073709551616) (by omega) _ _ h2
    exact Nat.le_trans this (by omega)
  · simp

theorem cmpI_neg {a b : Nat} (h : a < b) : cmpI (a : Int) (b : Int) < 0 := by rw [cmpI_nat_lt h]; omega
theorem cmpI_nonneg {a b : Nat} (h : b ≤ a) : ¬ cmpI (a : Int) (b : Int) < 0 := by
  rcases Nat.lt_or_ge b a with h1 | h1
  · rw [cmpI_nat_gt h1]; omega
  · rw [cmpI_nat_eq (by omega)]; omega

set_option maxHeartbeats 1000000 in
theorem implNatSub_any (ao bo : Option Addr) (n m c d : Nat) (xs ys : List Nat) (w : World) (hl : xs.length = n) (hm : ys.length = m) (hc : n ≤ c) (hd : m ≤ d) (hn : n ≤ 1048576) (hn2 : m ≤ 1048576) (hx : F64 xs) (hy : F64 ys) (hr : Rd w ao xs) (hr2 : Rd w bo ys) :
    Calls Try.prog 23 #[.slice ao n c, .slice bo m d] w fun e w' => RetB w w' e (subDoc xs ys) (subOk xs ys) := by
  by_cases h1 : n ≤ 1200 ∧ m ≤ 1200
  · have hall : true = [n, m].all (fun x => decide (x ≤ 1200)) := by simp [h1]
    have hall' := hid hall; clear hall
    have s1 := L_len xs hx
    have s2 := L_len ys hy
    by_cases hba : V ys ≤ V xs
    · have hok : subOk xs ys = true := by simp [subOk]; omega
      have hdoc : subDoc xs ys = L (V xs - V ys) := by unfold subDoc; rw [hok]; rfl
      rw [hdoc, hok]
      have hcmp := cmpI_nonneg hba
      go_enter Try.func23, Try.ntmps23
      go_wp2_with fail
      refine (short_any _ 2 [n, m] true _ rfl (by omega) (by simp; omega) hall'.out (two_cells _ _ _ _ _ _ _ _)).mono ?_
      rintro e w1 ⟨rfl, hw1⟩
      have hb1 : Below w.heap.size w w1 := by rw [hw1]; exact (Below.refl _ _).alloc (Nat.le_refl _) _
      clear hw1
      go_wp2_with fail
      refine (trim_any ao n c xs _ hl hc (by omega) hx (hr.below hb1)).mono ?_
      rintro e w2 ⟨rfl, rfl⟩
      go_wp2_with fail
      refine (trim_any bo m d ys _ hm hd (by omega) hy (hr2.below hb1)).mono ?_
      rintro e w3 ⟨rfl, rfl⟩
      go_wp2_with fail
      refine (compare_any ao bo _ _ c d (V xs) (V ys) _ rfl rfl (by omega) (by omega) ((hr.below hb1).trim hx) ((hr2.below hb1).trim hy)).mono ?_
      rintro e w4 ⟨rfl, q4, rfl⟩
      have hb4 := below_drewN hb1 q4
      generalize w3.drewN q4 = w4 at hb4 ⊢
      go_wp2_with fail
      refine (sub_any ao bo _ _ c d (V xs) (V ys) _ rfl rfl hba (by omega) ((hr.below hb4).trim hx) ((hr2.below hb4).trim hy)).mono ?_
      rintro e w5 hret
      obtain ⟨ao', cap', rfl, ho, hb⟩ := hret.later hb4
      go_wp2_with fail
      go_ret2
      exact ⟨ao', cap', rfl, ho, hb⟩
    · have hok : subOk xs ys = false := by simp [subOk]; omega
      have hdoc : subDoc xs ys = [] := by unfold subDoc; rw [hok]; rfl
      rw [hdoc, hok]
      have hcmp := cmpI_neg (show V xs < V ys by omega)
      go_enter Try.func23, Try.ntmps23
      go_wp2_with fail
      refine (short_any _ 2 [n, m] true _ rfl (by omega) (by simp; omega) hall'.out (two_cells _ _ _ _ _ _ _ _)).mono ?_
      rintro e w1 ⟨rfl, hw1⟩
      have hb1 : Below w.heap.size w w1 := by rw [hw1]; exact (Below.refl _ _).alloc (Nat.le_refl _) _
      clear hw1
      go_wp2_with fail
      refine (trim_any ao n c xs _ hl hc (by omega) hx (hr.below hb1)).mono ?_
      rintro e w2 ⟨rfl, rfl⟩
      go_wp2_with fail
      refine (trim_any bo m d ys _ hm hd (by omega) hy (hr2.below hb1)).mono ?_
      rintro e w3 ⟨rfl, rfl⟩
      go_wp2_with fail
      refine (compare_any ao bo _ _ c d (V xs) (V ys) _ rfl rfl (by omega) (by omega) ((hr.below hb1).trim hx) ((hr2.below hb1).trim hy)).mono ?_
      rintro e w4 ⟨rfl, q4, rfl⟩
      have hb4 := below_drewN hb1 q4
      generalize w3.drewN q4 = w4 at hb4 ⊢
      go_wp2_with fail
      go_ret2
      exact RetB.nil hb4
  · have hok : subOk xs ys = false := by simp [subOk]; omega
    have hdoc : subDoc xs ys = [] := by unfold subDoc; rw [hok]; rfl
    rw [hdoc, hok]
    have hall : false = [n, m].all (fun x => decide (x ≤ 1200)) := by simp; omega
    have hall' := hid hall; clear hall
    go_enter Try.func23, Try.ntmps23
    go_wp2_with fail
    refine (short_any _ 2 [n, m] false _ rfl (by omega) (by simp; omega) hall'.out (two_cells _ _ _ _ _ _ _ _)).mono ?_
    rintro e w1 ⟨rfl, hw1⟩
    have hb1 : Below w.heap.size w w1 := by rw [hw1]; exact (Below.refl _ _).alloc (Nat.le_refl _) _
    clear hw1
    go_wp2_with fail
    go_ret2
    exact RetB.nil hb1

set_option maxHeartbeats 2000000 in
theorem specNatSub_any (ao bo : Option Addr) (n m c d : Nat) (xs ys : List Nat) (w : World) (hl : xs.length = n) (hm : ys.length = m) (hn : n ≤ 1048576) (hn2 : m ≤ 1048576) (hx : F64 xs) (hy : F64 ys) (hr : Rd w ao xs) (hr2 : Rd w bo ys) :
    Calls Try.prog 22 #[.slice ao n c, .slice bo m d] w fun e w' => RetB w w' e (subDoc xs ys) (subOk xs ys) := by
  have hs1 := D_len xs hx
  have hs2 := D_len ys hy
  by_cases h1 : n ≤ 1200
  · have d1 : decide (n ≤ 1200) = true := by simpa using h1
    by_cases h2 : m ≤ 1200
    · have d2 : decide (m ≤ 1200) = true := by simpa using h2
      by_cases hba : V ys ≤ V xs
      · have hok : subOk xs ys = true := by simp [subOk]; omega
        have hdoc : subDoc xs ys = L (V xs - V ys) := by unfold subDoc; rw [hok]; rfl
        rw [hdoc, hok]
        have hcmp := cmpI_nonneg hba
        go_enter Try.func22, Try.ntmps22
        go_wp2_with fail
        refine (l1Fits_any ao n c _ (by omega)).mono ?_
        rintro e w1 ⟨rfl, rfl⟩
        rw [d1]
        go_wp2_with fail
        refine (l1Fits_any bo m d _ (by omega)).mono ?_
        rintro e w2 ⟨rfl, rfl⟩
        rw [d2]
        go_wp2_with fail
        refine (l1In_any ao n c xs _ hl (by omega) hx hr).mono ?_
        rintro e w3 ⟨ao1, cap1, rfl, ho1, hb1⟩
        go_wp2_with fail
        refine (l1In_any bo m d ys _ hm (by omega) hy (hr2.below hb1)).mono ?_
        rintro e w4 ⟨ao2, cap2, rfl, ho2, hb2⟩
        have b2 := hb1.trans (hb2.mono hb1.size)
        go_wp2_with fail
        refine (l1Cmp_any ao1 ao2 _ _ cap1 cap2 (V xs) (V ys) _ rfl rfl (by omega) (by omega) ((Rd.own ho1).below hb2) (Rd.own ho2)).mono ?_
        rintro e w5 ⟨rfl, rfl⟩
        clear ho1 ho2 hb1 hb2
        go_wp2_with fail
        refine (l1In_any ao n c xs _ hl (by omega) hx (hr.below b2)).mono ?_
        rintro e w6 ⟨ao3, cap3, rfl, ho3, hb3⟩
        have b3 := b2.trans (hb3.mono b2.size)
        go_wp2_with fail
        refine (l1In_any bo m d ys _ hm (by omega) hy (hr2.below b3)).mono ?_
        rintro e w7 ⟨ao4, cap4, rfl, ho4, hb4⟩
        have b4 := b3.trans (hb4.mono b3.size)
        go_wp2_with fail
        refine (l1Sub_any ao3 ao4 _ _ cap3 cap4 (V xs) (V ys) _ rfl rfl hba (by omega) ((Rd.own ho3).below hb4) (Rd.own ho4)).mono ?_
        rintro e w8 ⟨ao5, cap5, rfl, ho5, hb5⟩
        have b5 := b4.trans (hb5.mono b4.size)
        have hs3 : (D (V xs - V ys)).length ≤ 2400 := M.len_of_lt (B := 4294967296) (by omega) _ _ (Nat.lt_of_le_of_lt (Nat.sub_le _ _) (D_lt (V xs) 2400 (by omega)))
        go_wp2_with fail
        refine (l1Out_any ao5 _ cap5 (V xs - V ys) _ rfl (by omega) (Rd.own ho5)).mono ?_
        rintro e w9 ⟨ao6, cap6, rfl, ho6, hb6⟩
        go_wp2_with fail
        go_ret2
        exact ⟨ao6, cap6, rfl, own_base ho6 b5.size, b5.trans (hb6.mono b5.size)⟩
      · have hok : subOk xs ys = false := by simp [subOk]; omega
        have hdoc : subDoc xs ys = [] := by unfold subDoc; rw [hok]; rfl
        rw [hdoc, hok]
        have hcmp := cmpI_neg (show V xs < V ys by omega)
        go_enter Try.func22, Try.ntmps22
        go_wp2_with fail
        refine (l1Fits_any ao n c _ (by omega)).mono ?_
        rintro e w1 ⟨rfl, rfl⟩
        rw [d1]
        go_wp2_with fail
        refine (l1Fits_any bo m d _ (by omega)).mono ?_
        rintro e w2 ⟨rfl, rfl⟩
        rw [d2]
        go_wp2_with fail
        refine (l1In_any ao n c xs _ hl (by omega) hx hr).mono ?_
        rintro e w3 ⟨ao1, cap1, rfl, ho1, hb1⟩
        go_wp2_with fail
        refine (l1In_any bo m d ys _ hm (by omega) hy (hr2.below hb1)).mono ?_
        rintro e w4 ⟨ao2, cap2, rfl, ho2, hb2⟩
        have b2 := hb1.trans (hb2.mono hb1.size)
        go_wp2_with fail
        refine (l1Cmp_any ao1 ao2 _ _ cap1 cap2 (V xs) (V ys) _ rfl rfl (by omega) (by omega) ((Rd.own ho1).below hb2) (Rd.own ho2)).mono ?_
        rintro e w5 ⟨rfl, rfl⟩
        go_wp2_with fail
        go_ret2
        exact RetB.nil b2
    · have d2 : decide (m ≤ 1200) = false := by simpa using h2
      have hok : subOk xs ys = false := by simp [subOk]; omega
      have hdoc : subDoc xs ys = [] := by unfold subDoc; rw [hok]; rfl
      rw [hdoc, hok]
      go_enter Try.func22, Try.ntmps22
      go_wp2_with fail
      refine (l1Fits_any ao n c _ (by omega)).mono ?_
      rintro e w1 ⟨rfl, rfl⟩
      rw [d1]
      go_wp2_with fail
      refine (l1Fits_any bo m d _ (by omega)).mono ?_
      rintro e w2 ⟨rfl, rfl⟩
      rw [d2]
      go_wp2_with fail
      go_ret2
      exact RetB.nil (Below.refl _ _)
  · have d1 : decide (n ≤ 1200) = false := by simpa using h1
    have hok : subOk xs ys = false := by simp [subOk]; omega
    have hdoc : subDoc xs ys = [] := by unfold subDoc; rw [hok]; rfl
    rw [hdoc, hok]
    go_enter Try.func22, Try.ntmps22
    go_wp2_with fail
    refine (l1Fits_any ao n c _ (by omega)).mono ?_
    rintro e w1 ⟨rfl, rfl⟩
    rw [d1]
    go_wp2_with fail
    go_ret2
    exact RetB.nil (Below.refl _ _)

end Go.Proofs.Ytdfjljccepgbaab
