import Derived.Deep.RegionHeld3
import Derived.Test.YtdpbhbpcpnlbkaaaCa3
set_option maxHeartbeats 2000000
namespace Go.Proofs.Ytdpbhbpcpnlbkaa
open Go.RowKit Go.Maps
set_option linter.unusedVariables false
set_option maxRecDepth 100000
theorem live_any (g n c : Nat) (ao : Option Addr) (e : Int) (w : World) (c1 : w.cell? ⟨g, 1, none⟩ = some (.slice ao n c)) (c3 : w.cell? ⟨g, 3, none⟩ = some (.int .i64 e)) (b : Bool) (hb : decide (e < (n : Int)) = b) :
 Calls Try.prog 59 #[.pointer (some ⟨g, 0, none⟩)] w fun r w' => r = .returned (.bool b) ∧ Qt w w' := by
 subst hb
 go_enter Try.func59, Try.ntmps59
 go_wp2_with fail
 go_quiet (fail)
 go_wp2_with fail
 go_ret
 exact ⟨rfl, Qt.drewN _ _⟩

structure SkO (v : World) (g ob n c e : Nat) (ao : Option Addr) : Prop where
 c1 : v.cell? ⟨g, 1, none⟩ = some (.slice ao n c)
 c2 : v.cell? ⟨g, 2, none⟩ = some (.slice (some ⟨ob, 0, none⟩) n n)
 c3 : v.cell? ⟨g, 3, none⟩ = some (.int .i64 e)
 c4 : ∃ x, v.cell? ⟨g, 4, none⟩ = some x
 z : ∀ o, v.frozen? ⟨g, o, none⟩ = false
 co : ∃ x, v.cell? ⟨ob, e, none⟩ = some x
 zo : v.frozen? ⟨ob, e, none⟩ = false
 ne : g ≠ ob

theorem step_look (g q ob n c e : Nat) (ao : Option Addr) (w : World) (PF : World → Nat → Prop) (he : e < n) (hn : n ≤ 1000)
 (s0 : Int) (hs0 : IntKind.i64.wrap (s0 + 1) = s0 + 1) (x5 : w.cell? ⟨g, 5, none⟩ = some (.int .i64 s0)) (zg : ∀ o, w.frozen? ⟨g, o, none⟩ = false)
 (h4 : w.cell? ⟨g, 4, none⟩ = some (.pointer (some ⟨q, 0, none⟩))) (hq : w.cell? ⟨q, 4, none⟩ = some (.func (.func 92) #[.pointer (some ⟨q, 0, none⟩)] #[])) (hgq : g ≠ q)
 (kF : Calls Try.prog 92 #[.pointer (some ⟨q, 0, none⟩)] (w.setCell ⟨g, 5, none⟩ (.int .i64 (s0 + 1))) fun r v' => ∃ oc : Nat, r = .returned (.int .i64 oc) ∧ PF v' oc ∧ SkO v' g ob n c e ao) :
 Calls Try.prog 87 #[.pointer (some ⟨g, 0, none⟩)] w fun r w' => ∃ v' oc, PF v' oc ∧ ((oc = 0 ∧ r = .returned (.bool true) ∧ Qt v' w') ∨ (oc ≠ 0 ∧ r = .returned (.bool (decide (e + 1 < n))) ∧ Qt (((v'.setCell ⟨ob, e, none⟩ (.int .i64 oc)).setCell ⟨g, 3, none⟩ (.int .i64 ((e : Int) + 1))).setCell ⟨g, 4, none⟩ (.pointer none)) w')) := by
 have hgq' := Ne.symm hgq
 have f1 : IntKind.i64.wrap ((e : Int) + 1) = (e : Int) + 1 := by simp only [IntKind.wrap_i64]; omega
 go_enter Try.func87, Try.ntmps87
 go_wp2_with fail
 refine kF.mono ?_
 rintro r v ⟨oc, rfl, hP, c1, c2, c3, ⟨x4, c4⟩, z, ⟨xo, co⟩, zo, ne⟩
 have ne' := Ne.symm ne
 by_cases h0 : oc = 0
 · subst h0
   go_wp2_with fail
   refine (live_any g n c ao e v c1 c3 true (decide_eq_true (by omega))).mono ?_
   rintro r u ⟨rfl, hqu⟩
   go_wp2_with fail
   go_ret
   exact ⟨v, 0, hP, .inl ⟨rfl, rfl, hqu⟩⟩
 · go_wp2_with fail
   go_region
   go_wp2_with fail
   refine (live_any g n c ao ((e : Int) + 1) _ (by simp [go_sem, *]) (by simp [go_sem, *]) (decide (e + 1 < n)) (by rw [decide_eq_decide]; omega)).mono ?_
   rintro r u ⟨rfl, hqu⟩
   go_wp2_with fail
   go_ret
   exact ⟨v, oc, hP, .inr ⟨h0, rfl, (Qt.drew _).trans hqu⟩⟩

theorem step_make (g q ob n c e : Nat) (ao : Option Addr) (w : World) (PF : World → Nat → Prop) (he : e < n) (hn : n ≤ 1000)
 (s0 : Int) (hs0 : IntKind.i64.wrap (s0 + 1) = s0 + 1) (x5 : w.cell? ⟨g, 5, none⟩ = some (.int .i64 s0)) (zg : ∀ o, w.frozen? ⟨g, o, none⟩ = false)
 (h4 : w.cell? ⟨g, 4, none⟩ = some (.pointer (some ⟨q, 0, none⟩))) (hq : w.cell? ⟨q, 4, none⟩ = some (.func (.func 95) #[.pointer (some ⟨q, 0, none⟩)] #[])) (hgq : g ≠ q)
 (kF : Calls Try.prog 95 #[.pointer (some ⟨q, 0, none⟩)] (w.setCell ⟨g, 5, none⟩ (.int .i64 (s0 + 1))) fun r v' => ∃ oc : Nat, r = .returned (.int .i64 oc) ∧ PF v' oc ∧ SkO v' g ob n c e ao) :
 Calls Try.prog 87 #[.pointer (some ⟨g, 0, none⟩)] w fun r w' => ∃ v' oc, PF v' oc ∧ ((oc = 0 ∧ r = .returned (.bool true) ∧ Qt v' w') ∨ (oc ≠ 0 ∧ r = .returned (.bool (decide (e + 1 < n))) ∧ Qt (((v'.setCell ⟨ob, e, none⟩ (.int .i64 oc)).setCell ⟨g, 3, none⟩ (.int .i64 ((e : Int) + 1))).setCell ⟨g, 4, none⟩ (.pointer none)) w')) := by
 have hgq' := Ne.symm hgq
 have f1 : IntKind.i64.wrap ((e : Int) + 1) = (e : Int) + 1 := by simp only [IntKind.wrap_i64]; omega
 go_enter Try.func87, Try.ntmps87
 go_wp2_with fail
 refine kF.mono ?_
 rintro r v ⟨oc, rfl, hP, c1, c2, c3, ⟨x4, c4⟩, z, ⟨xo, co⟩, zo, ne⟩
 have ne' := Ne.symm ne
 by_cases h0 : oc = 0
 · subst h0
   go_wp2_with fail
   refine (live_any g n c ao e v c1 c3 true (decide_eq_true (by omega))).mono ?_
   rintro r u ⟨rfl, hqu⟩
   go_wp2_with fail
   go_ret
   exact ⟨v, 0, hP, .inl ⟨rfl, rfl, hqu⟩⟩
 · go_wp2_with fail
   go_region
   go_wp2_with fail
   refine (live_any g n c ao ((e : Int) + 1) _ (by simp [go_sem, *]) (by simp [go_sem, *]) (decide (e + 1 < n)) (by rw [decide_eq_decide]; omega)).mono ?_
   rintro r u ⟨rfl, hqu⟩
   go_wp2_with fail
   go_ret
   exact ⟨v, oc, hP, .inr ⟨h0, rfl, (Qt.drew _).trans hqu⟩⟩

theorem step_pick (g q ob n c e : Nat) (ao : Option Addr) (w : World) (PF : World → Nat → Prop) (he : e < n) (hn : n ≤ 1000)
 (s0 : Int) (hs0 : IntKind.i64.wrap (s0 + 1) = s0 + 1) (x5 : w.cell? ⟨g, 5, none⟩ = some (.int .i64 s0)) (zg : ∀ o, w.frozen? ⟨g, o, none⟩ = false)
 (h4 : w.cell? ⟨g, 4, none⟩ = some (.pointer (some ⟨q, 0, none⟩))) (hq : w.cell? ⟨q, 4, none⟩ = some (.func (.func 96) #[.pointer (some ⟨q, 0, none⟩)] #[])) (hgq : g ≠ q)
 (kF : Calls Try.prog 96 #[.pointer (some ⟨q, 0, none⟩)] (w.setCell ⟨g, 5, none⟩ (.int .i64 (s0 + 1))) fun r v' => ∃ oc : Nat, r = .returned (.int .i64 oc) ∧ PF v' oc ∧ SkO v' g ob n c e ao) :
 Calls Try.prog 87 #[.pointer (some ⟨g, 0, none⟩)] w fun r w' => ∃ v' oc, PF v' oc ∧ ((oc = 0 ∧ r = .returned (.bool true) ∧ Qt v' w') ∨ (oc ≠ 0 ∧ r = .returned (.bool (decide (e + 1 < n))) ∧ Qt (((v'.setCell ⟨ob, e, none⟩ (.int .i64 oc)).setCell ⟨g, 3, none⟩ (.int .i64 ((e : Int) + 1))).setCell ⟨g, 4, none⟩ (.pointer none)) w')) := by
 have hgq' := Ne.symm hgq
 have f1 : IntKind.i64.wrap ((e : Int) + 1) = (e : Int) + 1 := by simp only [IntKind.wrap_i64]; omega
 go_enter Try.func87, Try.ntmps87
 go_wp2_with fail
 refine kF.mono ?_
 rintro r v ⟨oc, rfl, hP, c1, c2, c3, ⟨x4, c4⟩, z, ⟨xo, co⟩, zo, ne⟩
 have ne' := Ne.symm ne
 by_cases h0 : oc = 0
 · subst h0
   go_wp2_with fail
   refine (live_any g n c ao e v c1 c3 true (decide_eq_true (by omega))).mono ?_
   rintro r u ⟨rfl, hqu⟩
   go_wp2_with fail
   go_ret
   exact ⟨v, 0, hP, .inl ⟨rfl, rfl, hqu⟩⟩
 · go_wp2_with fail
   go_region
   go_wp2_with fail
   refine (live_any g n c ao ((e : Int) + 1) _ (by simp [go_sem, *]) (by simp [go_sem, *]) (decide (e + 1 < n)) (by rw [decide_eq_decide]; omega)).mono ?_
   rintro r u ⟨rfl, hqu⟩
   go_wp2_with fail
   go_ret
   exact ⟨v, oc, hP, .inr ⟨h0, rfl, (Qt.drew _).trans hqu⟩⟩

theorem step_swap (g q ob n c e : Nat) (ao : Option Addr) (w : World) (PF : World → Nat → Prop) (he : e < n) (hn : n ≤ 1000)
 (s0 : Int) (hs0 : IntKind.i64.wrap (s0 + 1) = s0 + 1) (x5 : w.cell? ⟨g, 5, none⟩ = some (.int .i64 s0)) (zg : ∀ o, w.frozen? ⟨g, o, none⟩ = false)
 (h4 : w.cell? ⟨g, 4, none⟩ = some (.pointer (some ⟨q, 0, none⟩))) (hq : w.cell? ⟨q, 4, none⟩ = some (.func (.func 100) #[.pointer (some ⟨q, 0, none⟩)] #[])) (hgq : g ≠ q)
 (kF : Calls Try.prog 100 #[.pointer (some ⟨q, 0, none⟩)] (w.setCell ⟨g, 5, none⟩ (.int .i64 (s0 + 1))) fun r v' => ∃ oc : Nat, r = .returned (.int .i64 oc) ∧ PF v' oc ∧ SkO v' g ob n c e ao) :
 Calls Try.prog 87 #[.pointer (some ⟨g, 0, none⟩)] w fun r w' => ∃ v' oc, PF v' oc ∧ ((oc = 0 ∧ r = .returned (.bool true) ∧ Qt v' w') ∨ (oc ≠ 0 ∧ r = .returned (.bool (decide (e + 1 < n))) ∧ Qt (((v'.setCell ⟨ob, e, none⟩ (.int .i64 oc)).setCell ⟨g, 3, none⟩ (.int .i64 ((e : Int) + 1))).setCell ⟨g, 4, none⟩ (.pointer none)) w')) := by
 have hgq' := Ne.symm hgq
 have f1 : IntKind.i64.wrap ((e : Int) + 1) = (e : Int) + 1 := by simp only [IntKind.wrap_i64]; omega
 go_enter Try.func87, Try.ntmps87
 go_wp2_with fail
 refine kF.mono ?_
 rintro r v ⟨oc, rfl, hP, c1, c2, c3, ⟨x4, c4⟩, z, ⟨xo, co⟩, zo, ne⟩
 have ne' := Ne.symm ne
 by_cases h0 : oc = 0
 · subst h0
   go_wp2_with fail
   refine (live_any g n c ao e v c1 c3 true (decide_eq_true (by omega))).mono ?_
   rintro r u ⟨rfl, hqu⟩
   go_wp2_with fail
   go_ret
   exact ⟨v, 0, hP, .inl ⟨rfl, rfl, hqu⟩⟩
 · go_wp2_with fail
   go_region
   go_wp2_with fail
   refine (live_any g n c ao ((e : Int) + 1) _ (by simp [go_sem, *]) (by simp [go_sem, *]) (decide (e + 1 < n)) (by rw [decide_eq_decide]; omega)).mono ?_
   rintro r u ⟨rfl, hqu⟩
   go_wp2_with fail
   go_ret
   exact ⟨v, oc, hP, .inr ⟨h0, rfl, (Qt.drew _).trans hqu⟩⟩

theorem step_fresh (g cb ob n c e kb ko : Nat) (k m : Int) (w : World) (PF : World → Nat → Prop) (PS : World → Nat → Prop) (he : e < n) (hn : n ≤ 1000)
 (s0 : Int) (hs0 : IntKind.i64.wrap (s0 + 1) = s0 + 1) (x5 : w.cell? ⟨g, 5, none⟩ = some (.int .i64 s0)) (zg : ∀ o, w.frozen? ⟨g, o, none⟩ = false)
 (h0 : w.cell? ⟨g, 0, none⟩ = some (.pointer (some ⟨cb, 0, none⟩))) (h1 : w.cell? ⟨g, 1, none⟩ = some (.slice (some ⟨kb, ko, none⟩) n c)) (h3 : w.cell? ⟨g, 3, none⟩ = some (.int .i64 e)) (h4 : w.cell? ⟨g, 4, none⟩ = some (.pointer none))
 (k0 : w.cell? ⟨kb, ko + e * 2, none⟩ = some (.int .i64 k)) (k1 : w.cell? ⟨kb, ko + e * 2 + 1, none⟩ = some (.int .i64 m)) (hkg : kb ≠ g)
 (kS : ∀ v, Qt (w.setCell ⟨g, 5, none⟩ (.int .i64 (s0 + 1))) v → Calls Try.prog 88 #[.pointer (some ⟨cb, 0, none⟩), .agg #[.int .i64 k, .int .i64 m]] v fun r v' => ∃ q, r = .returned (.pointer (some ⟨q, 0, none⟩)) ∧ PS v' q ∧ v'.cell? ⟨g, 4, none⟩ = some (.pointer none) ∧ v'.frozen? ⟨g, 4, none⟩ = false ∧ g ≠ q ∧ v'.cell? ⟨q, 4, none⟩ = some (.func (.func 92) #[.pointer (some ⟨q, 0, none⟩)] #[]))
 (kF : ∀ v u q, PS v q → Qt (v.setCell ⟨g, 4, none⟩ (.pointer (some ⟨q, 0, none⟩))) u → Calls Try.prog 92 #[.pointer (some ⟨q, 0, none⟩)] u fun r v' => ∃ oc : Nat, r = .returned (.int .i64 oc) ∧ PF v' oc ∧ SkO v' g ob n c e (some ⟨kb, ko, none⟩)) :
 Calls Try.prog 87 #[.pointer (some ⟨g, 0, none⟩)] w fun r w' => ∃ v' oc, PF v' oc ∧ ((oc = 0 ∧ r = .returned (.bool true) ∧ Qt v' w') ∨ (oc ≠ 0 ∧ r = .returned (.bool (decide (e + 1 < n))) ∧ Qt (((v'.setCell ⟨ob, e, none⟩ (.int .i64 oc)).setCell ⟨g, 3, none⟩ (.int .i64 ((e : Int) + 1))).setCell ⟨g, 4, none⟩ (.pointer none)) w')) := by
 have f1 : IntKind.i64.wrap ((e : Int) + 1) = (e : Int) + 1 := by simp only [IntKind.wrap_i64]; omega
 obtain ⟨W1, hW⟩ : ∃ W1, W1 = w.setCell ⟨g, 5, none⟩ (.int .i64 (s0 + 1)) := ⟨_, rfl⟩
 have hgk := Ne.symm hkg
 have d0 : W1.cell? ⟨g, 0, none⟩ = some (.pointer (some ⟨cb, 0, none⟩)) := by rw [hW]; simp [go_sem, *]
 have d1 : W1.cell? ⟨g, 1, none⟩ = some (.slice (some ⟨kb, ko, none⟩) n c) := by rw [hW]; simp [go_sem, *]
 have d3 : W1.cell? ⟨g, 3, none⟩ = some (.int .i64 e) := by rw [hW]; simp [go_sem, *]
 have d4 : W1.cell? ⟨g, 4, none⟩ = some (.pointer none) := by rw [hW]; simp [go_sem, *]
 have dk0 : W1.cell? ⟨kb, ko + e * 2, none⟩ = some (.int .i64 k) := by rw [hW]; simp [go_sem, *]
 have dk1 : W1.cell? ⟨kb, ko + e * 2 + 1, none⟩ = some (.int .i64 m) := by rw [hW]; simp [go_sem, *]
 rw [← hW] at kS
 go_enter Try.func87, Try.ntmps87
 go_upto_region 2 with fail
 rw [← hW]
 clear hW x5 h0 h1 h3 h4 k0 k1 zg
 go_upto_region 3 with fail
 go_region_with (go_at_call 88; refine (kS _ (Qt.drew _)).mono ?_; rintro r v ⟨q, rfl, hPS, y4, z4, hgq, yq⟩; have hgq' := Ne.symm hgq; have kF' := fun u h => kF v u q hPS h)
 all_goals go_wp2_with fail
 all_goals refine (kF' _ (Qt.refl _)).mono ?_
 all_goals (
  rintro r v ⟨oc, rfl, hP, C1, C2, C3, ⟨x4, c4⟩, z, ⟨xo, co⟩, zo, ne⟩
  have ne' := Ne.symm ne
  by_cases h0 : oc = 0
  · subst h0
    go_wp2_with fail
    refine (live_any g n c (some ⟨kb, ko, none⟩) e v C1 C3 true (decide_eq_true (by omega))).mono ?_
    rintro r u ⟨rfl, hqu⟩
    go_wp2_with fail
    go_ret
    exact ⟨v, 0, hP, .inl ⟨rfl, rfl, hqu⟩⟩
  · go_wp2_with fail
    go_region
    go_wp2_with fail
    refine (live_any g n c (some ⟨kb, ko, none⟩) ((e : Int) + 1) _ (by simp [go_sem, *]) (by simp [go_sem, *]) (decide (e + 1 < n)) (by rw [decide_eq_decide]; omega)).mono ?_
    rintro r u ⟨rfl, hqu⟩
    go_wp2_with fail
    go_ret
    exact ⟨v, oc, hP, .inr ⟨h0, rfl, (Qt.drew _).trans hqu⟩⟩)

end Go.Proofs.Ytdpbhbpcpnlbkaa
