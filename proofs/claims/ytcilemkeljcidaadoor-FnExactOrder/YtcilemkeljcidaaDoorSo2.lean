import Derived.Test.YtcilemkeljcidaaDoorSo
import Derived.Deep.CutBlock
import Derived.Deep.DeepCutAuto
namespace Go.Proofs.YtcilemkeljcidaaDoor
open Go.RowKit
set_option linter.unusedVariables false
set_option maxRecDepth 100000

theorem D_zero_iff (a : Nat) : (D a).length = 0 ↔ a = 0 := by
  constructor
  · intro hh
    rcases Nat.eq_zero_or_pos a with h0 | h0
    · exact h0
    · unfold D at hh; rw [M.dig_pos (by omega) h0] at hh; simp at hh
  · intro hh; rw [hh]; simp [D, M.dig_zero]

set_option maxRecDepth 10000 in
set_option maxHeartbeats 2000000 in
theorem sorder_any (f : Nat) (hf : f < 4) (X Y : Nat) (hX : X < 2 ^ 128) (hY : Y < 2 ^ 128) (w : World) :
    Calls Tryd.prog 15 #[.int .i64 (f : Int), .agg #[.int .u64 (M.hiN X : Int), .int .u64 (M.loN X : Int)], .agg #[.int .u64 (M.hiN Y : Int), .int .u64 (M.loN Y : Int)]] w fun e w' => e = .returned (.int .i64 ((M.fm f).orderS X Y)) ∧ Below w.heap.size w w' := by
  have kXn := fun (v : World) hh => l2Rank_no f hf X hX v hh
  have kXy := fun (v : World) h1 h2 => l2Rank_yes f hf X hX v h1 h2
  have kYn := fun (v : World) hh => l2Rank_no f hf Y hY v hh
  have kYy := fun (v : World) h1 h2 => l2Rank_yes f hf Y hY v h1 h2
  generalize M.fm f = F at *
  obtain ⟨x, hx⟩ : ∃ x, x = X % 2 ^ (F.wd - 1) := ⟨_, rfl⟩
  obtain ⟨y, hy⟩ : ∃ y, y = Y % 2 ^ (F.wd - 1) := ⟨_, rfl⟩
  have hxs : (D x).length ≤ 6 := D_small x (by rw [hx]; exact Nat.lt_of_le_of_lt (Nat.mod_le _ _) (by omega))
  have hys : (D y).length ≤ 6 := D_small y (by rw [hy]; exact Nat.lt_of_le_of_lt (Nat.mod_le _ _) (by omega))
  obtain ⟨r, hr⟩ : ∃ r, r = F.orderS X Y := ⟨_, rfl⟩
  rw [← hr]
  unfold M.Fm.orderS at hr
  rw [← hx, ← hy] at hr
  rw [← hx] at kXy
  rw [← hy] at kYy
  have HR := hid hr; clear hr hx hy
  generalize F.upk X = S at *
  generalize F.upk Y = T at *
  have b0 := ((Below.refl w.heap.size w).alloc (Nat.le_refl _) (.cells #[.int .u64 (M.hiN X : Int), .int .u64 (M.loN X : Int)] 30)).alloc (by simp) (.cells #[.int .u64 (M.hiN Y : Int), .int .u64 (M.loN Y : Int)] 30)
  by_cases hS : S.c = 0 ∨ S.c = 5
  · have hr2 : r = 2 := by rw [HR.out, if_pos (hS.elim Or.inl fun hh => .inr (.inl hh))]
    subst hr2
    have kX := fun v : World => kXn v hS
    clear kXn kXy hS HR
    by_cases hT : T.c = 0 ∨ T.c = 5
    · have kY := fun v : World => kYn v hT
      clear kYn kYy hT
      go_enter Tryd.func15, Tryd.ntmps15
      go_wp2_with fail
      refine (kX _).mono ?_
      rintro e v1 ⟨rfl, hb1⟩
      have y0 : v1.cell? ⟨w.heap.size + 1, 0, none⟩ = some (.int .u64 (M.hiN Y : Int)) := (hb1.cell (by simp <;> omega)).trans (by simp [go_sem])
      have y1 : v1.cell? ⟨w.heap.size + 1, 1, none⟩ = some (.int .u64 (M.loN Y : Int)) := (hb1.cell (by simp <;> omega)).trans (by simp [go_sem])
      have b1 := b0.trans (hb1.mono b0.size)
      clear b0
      go_wp2_with fail
      refine (kY _).mono ?_
      rintro e v2 ⟨rfl, hb2⟩
      go_wp2_with fail
      go_ret
      exact ⟨rfl, b1.trans (hb2.mono b1.size)⟩
    · have kY := fun v : World => kYy v (fun hh => hT (.inl hh)) (fun hh => hT (.inr hh))
      clear kYn kYy hT
      go_enter Tryd.func15, Tryd.ntmps15
      go_wp2_with fail
      refine (kX _).mono ?_
      rintro e v1 ⟨rfl, hb1⟩
      have y0 : v1.cell? ⟨w.heap.size + 1, 0, none⟩ = some (.int .u64 (M.hiN Y : Int)) := (hb1.cell (by simp <;> omega)).trans (by simp [go_sem])
      have y1 : v1.cell? ⟨w.heap.size + 1, 1, none⟩ = some (.int .u64 (M.loN Y : Int)) := (hb1.cell (by simp <;> omega)).trans (by simp [go_sem])
      have b1 := b0.trans (hb1.mono b0.size)
      clear b0
      go_wp2_with fail
      refine (kY _).mono ?_
      rintro e v2 ⟨ao2, ca2, rfl, ho2, hb2⟩
      go_wp2_with fail
      go_ret
      exact ⟨rfl, b1.trans (hb2.mono b1.size)⟩
  have kX := fun v : World => kXy v (fun hh => hS (.inl hh)) (fun hh => hS (.inr hh))
  clear kXn kXy
  by_cases hT : T.c = 0 ∨ T.c = 5
  · have hr2 : r = 2 := by rw [HR.out, if_pos (hT.elim (fun hh => .inr (.inr (.inl hh))) fun hh => .inr (.inr (.inr hh)))]
    subst hr2
    have kY := fun v : World => kYn v hT
    clear kYn kYy hS hT HR
    go_enter Tryd.func15, Tryd.ntmps15
    go_wp2_with fail
    refine (kX _).mono ?_
    rintro e v1 ⟨ao1, ca1, rfl, ho1, hb1⟩
    have y0 : v1.cell? ⟨w.heap.size + 1, 0, none⟩ = some (.int .u64 (M.hiN Y : Int)) := (hb1.cell (by simp <;> omega)).trans (by simp [go_sem])
    have y1 : v1.cell? ⟨w.heap.size + 1, 1, none⟩ = some (.int .u64 (M.loN Y : Int)) := (hb1.cell (by simp <;> omega)).trans (by simp [go_sem])
    have b1 := b0.trans (hb1.mono b0.size)
    clear b0
    go_wp2_with fail
    refine (kY _).mono ?_
    rintro e v2 ⟨rfl, hb2⟩
    go_wp2_with fail
    go_ret
    exact ⟨rfl, b1.trans (hb2.mono b1.size)⟩
  have hno : ¬ (S.c = 0 ∨ S.c = 5 ∨ T.c = 0 ∨ T.c = 5) := by
    rintro (hh | hh | hh | hh)
    · exact hS (.inl hh)
    · exact hS (.inr hh)
    · exact hT (.inl hh)
    · exact hT (.inr hh)
  have hr := HR.out
  rw [if_neg hno] at hr
  replace HR := hid hr; clear hr hno
  have kY := fun v : World => kYy v (fun hh => hT (.inl hh)) (fun hh => hT (.inr hh))
  clear kYn kYy hS hT
  generalize S.n = nx at *
  generalize T.n = ny at *
  go_enter Tryd.func15, Tryd.ntmps15
  go_wp2_with fail
  refine (kX _).mono ?_
  rintro e v1 ⟨ao1, ca1, rfl, ho1, hb1⟩
  have y0 : v1.cell? ⟨w.heap.size + 1, 0, none⟩ = some (.int .u64 (M.hiN Y : Int)) := (hb1.cell (by simp <;> omega)).trans (by simp [go_sem])
  have y1 : v1.cell? ⟨w.heap.size + 1, 1, none⟩ = some (.int .u64 (M.loN Y : Int)) := (hb1.cell (by simp <;> omega)).trans (by simp [go_sem])
  have b1 := b0.trans (hb1.mono b0.size)
  clear b0
  go_wp2_with fail
  refine (kY _).mono ?_
  rintro e v2 ⟨ao2, ca2, rfl, ho2, hb2⟩
  have rx := (Rd.own ho1).below hb2
  have ry := Rd.own ho2
  replace b1 := b1.trans (hb2.mono b1.size)
  clear kX kY ho1 ho2 hb1 hb2 y0 y1
  have m0 := D_zero_iff x
  have m1 := D_zero_iff y
  obtain ⟨lx, hlx⟩ : ∃ lx, lx = (D x).length := ⟨_, rfl⟩
  obtain ⟨ly, hly⟩ : ∃ ly, ly = (D y).length := ⟨_, rfl⟩
  rw [← hlx] at m0 hxs ⊢
  rw [← hly] at m1 hys ⊢
  have HLX := hid hlx.symm; have HLY := hid hly.symm; clear hlx hly
  have HM0 := hid m0; have HM1 := hid m1; clear m0 m1
  go_upto_region 5 with fail
  go_cut [34] (fun c wx => c = .bool (decide (x = 0 ∧ y = 0)) ∧ wx = v2)
  case first =>
    by_cases h0 : lx = 0
    · have e0 := HM0.out.1 h0
      by_cases h1 : ly = 0
      · have hd : decide (x = 0 ∧ y = 0) = true := by simp [e0, HM1.out.1 h1]
        subst h0
        subst h1
        go_wp2_with fail
        go_meet
        exact ⟨by rw [hd], rfl⟩
      · have hd : decide (x = 0 ∧ y = 0) = false := by simp; intro _ hh; exact h1 (HM1.out.2 hh)
        have h2 : ((ly : Int) == 0) = false := by simp; omega
        subst h0
        go_wp2_with fail
        go_meet
        exact ⟨by rw [hd], rfl⟩
    · have hd : decide (x = 0 ∧ y = 0) = false := by simp; intro hh; exact absurd (HM0.out.2 hh) h0
      have h2 : ((lx : Int) == 0) = false := by simp; omega
      go_wp2_with fail
      go_meet
      exact ⟨by rw [hd], rfl⟩
  obtain ⟨rfl, hww⟩ := hcut
  replace hww := hww.symm
  subst hww
  by_cases hz : x = 0 ∧ y = 0
  · have hr := HR.out
    rw [if_pos hz] at hr
    subst hr
    rw [decide_eq_true hz]
    clear hz
    go_wp2_with fail
    go_ret
    exact ⟨rfl, b1⟩
  have hr := HR.out
  rw [if_neg hz] at hr
  replace HR := hid hr; clear hr
  rw [decide_eq_false hz]
  clear hz
  cases nx
  · cases ny
    · skip
      have hr := HR.out
      have hr2 : r = M.cmpN x y := by rw [hr]; simp
      clear hr HR
      have HR2 := hid hr2; clear hr2
      go_wp2_with fail
      refine (l1Cmp_any ao1 ao2 lx ly ca1 ca2 x y _ HLX.out HLY.out (by omega) (by omega) rx ry).mono ?_
      rintro e v3 ⟨rfl, rfl⟩
      rw [cmpI_N x y, ← HR2.out]
      go_wp2_with fail
      go_ret
      exact ⟨rfl, b1⟩
    · skip
      have hr := HR.out
      have hr2 : r = 1 := by rw [hr]; simp
      clear hr HR
      subst hr2
      go_wp2_with fail
      go_ret
      exact ⟨rfl, b1⟩
  · cases ny
    · skip
      have hr := HR.out
      have hr2 : r = -1 := by rw [hr]; simp
      clear hr HR
      subst hr2
      go_wp2_with fail
      go_ret
      exact ⟨rfl, b1⟩
    · skip
      have hr := HR.out
      have hr2 : r = M.cmpN y x := by rw [hr]; simp
      clear hr HR
      have HR2 := hid hr2; clear hr2
      go_wp2_with fail
      refine (l1Cmp_any ao2 ao1 ly lx ca2 ca1 y x _ HLY.out HLX.out (by omega) (by omega) ry rx).mono ?_
      rintro e v3 ⟨rfl, rfl⟩
      rw [cmpI_N y x, ← HR2.out]
      go_wp2_with fail
      go_ret
      exact ⟨rfl, b1⟩

end Go.Proofs.YtcilemkeljcidaaDoor
