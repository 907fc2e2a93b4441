import Derived.Shelf.SlGeneric
import Derived.Shelf.SlicesE.Delete
import Derived.Shelf.SlicesE.Clone
import Derived.Ground.SlgnProg
import Derived.Lib.OwnBridge
import Derived.Deep.LoopGhost
import Derived.Test.YtdpbhbpcpnlbkaaqGC
set_option maxHeartbeats 2000000
namespace Go.Proofs.Ytdpbhbpcpnlbkaa
open Go.RowKit Go.Maps
set_option linter.unusedVariables false
set_option maxRecDepth 100000
theorem methT (a : Addr) (w : World) : (method 258 66 (.pointer (some a)) "loop.example/s01493/impl.step").run Try.prog w = .ok (87, .pointer (some a)) w := by kernel_rfl

theorem run_key (sg : Nat) (v0 : Value) (w : World) (J : Nat → World → Value → Prop) (ln : Nat → Nat)
 (h0 : Calls Try.prog 56 #[v0] w fun e w' => ∃ v, e = .returned v ∧ J 0 w' v)
 (hJ : ∀ n u v, J n u v → n ≤ 40000 ∧ (∃ ao c, v = .slice ao (ln n) c) ∧ u.cell? ⟨sg, 1, none⟩ = some (.int .i64 40000) ∧ u.cell? ⟨sg, 2, none⟩ = some (.int .i64 n) ∧ u.frozen? ⟨sg, 2, none⟩ = false ∧ ln n ≤ 1000)
 (hP : ∀ n u v, J n u v → 0 < ln n → n < 40000 → ∃ p g b c : Nat, p < ln n ∧ v = .slice (some ⟨b, 0, none⟩) (ln n) c ∧ b ≠ sg ∧ u.cell? ⟨b, p, none⟩ = some (.iface 66 (.pointer (some ⟨g, 0, none⟩))) ∧
   (∀ u1, Qt u u1 → Calls Try.prog 57 #[.pointer (some ⟨sg, 0, none⟩), .int .i64 (ln n)] u1 fun e u2 => e = .returned (.int .i64 p) ∧ Qt u1 u2) ∧
   (∀ u1, Qt (u.setCell ⟨sg, 2, none⟩ (.int .i64 ((n : Int) + 1))) u1 → Calls Try.prog 87 #[.pointer (some ⟨g, 0, none⟩)] u1 fun e u2 => ∃ bl, e = .returned (.bool bl) ∧ (bl = true → J (n + 1) u2 v) ∧ (bl = false → Calls Try.prog 58 #[v, .int .i64 p, .int .i64 ((p : Int) + 1)] u2 fun e u3 => ∃ v', e = .returned v' ∧ J (n + 1) u3 v'))) :
 Calls Try.prog 29 #[.pointer (some ⟨sg, 0, none⟩), v0] w fun e w' => ∃ n u v, J n u v ∧ Qt u w' ∧ ((ln n = 0 ∧ e = .returned (.bool true)) ∨ (ln n ≠ 0 ∧ n = 40000 ∧ e = .returned (.bool false))) := by
 go_enter Try.func29, Try.ntmps29
 go_wp2_with fail
 refine h0.mono ?_
 rintro e w1 ⟨v1, rfl, j0⟩
 go_wp2_with fail
 go_loopg [5] 40000 (fun gk av wr => ∃ n : Nat, n + gk = 40000 ∧ J n wr av)
 case atStart => exact ⟨0, by omega, j0⟩
 case round =>
  obtain ⟨n, hn, j⟩ := hrel
  obtain ⟨-, ⟨ao, c, hv⟩, c1, c2, z2, hl⟩ := hJ _ _ _ j
  by_cases hl0 : ln n = 0
  · rw [hl0] at hv
    subst hv
    clear hJ hP h0 j0
    go_wp2_with fail
    go_ret
    exact ⟨n, wr, _, j, Qt.refl _, .inl ⟨hl0, rfl⟩⟩
  · obtain ⟨m, hm⟩ : ∃ m, ln n = m := ⟨_, rfl⟩
    have hl1 : (0 : Int) < (m : Int) := by omega
    by_cases h4 : n = 40000
    · rw [hm] at hv
      subst hv
      have HM : Hid (ln n = m) := hm
      have HJ : Hid _ := j
      subst h4
      clear hJ hP h0 j0 hm hl0 j hl hn
      go_wp2_with fail
      go_quiet (fail)
      go_wp2_with fail
      go_ret
      exact ⟨40000, wr, _, HJ.out, Qt.drewN _ _, .inr ⟨by rw [HM.out]; omega, rfl, rfl⟩⟩
    · obtain ⟨p, g, b, cc, hp, hv2, hb, ct, kP, kS⟩ := hP n wr _ j (by omega) (by omega)
      subst hv2
      have hne : ¬ (n : Int) = 40000 := by omega
      have f1 : IntKind.i64.wrap ((n : Int) + 1) = (n : Int) + 1 := by simp only [IntKind.wrap_i64]; omega
      have f2 : IntKind.i64.wrap ((p : Int) + 1) = (p : Int) + 1 := by simp only [IntKind.wrap_i64]; omega
      rw [hm] at hp kP hl
      have hb' := Ne.symm hb
      have hmet := methT
      have HN : Hid (n + gk = 40000) := hn
      have HN4 : Hid (n ≠ 40000) := h4
      clear hJ hP h0 j0 hv hl0 j hn h4
      rw [hm] at kS ⊢
      clear hm
      go_wp2_with fail
      go_quiet (fail)
      go_wp2_with fail
      refine (kP _ (Qt.drewN _ _)).mono ?_
      rintro e u2 ⟨rfl, q2⟩
      have q2' := (Qt.drewN wr nq).trans q2
      have hc2 := q2'.cell; have hf2 := q2'.frozen
      go_wp2_with fail
      refine (kS _ (q2'.set _ _)).mono ?_
      rintro e u3 ⟨bl, rfl, hT, hF⟩
      obtain rfl | rfl : bl = true ∨ bl = false := by cases bl <;> simp
      · replace hT := hT rfl
        clear hF
        go_wp2_with fail
        go_roundg (gk - 1)
        case rel => exact ⟨n + 1, by have := HN.out; have := HN4.out; omega, hT⟩
        case measure => have := HN.out; have := HN4.out; omega
      · replace hF := hF rfl
        clear hT
        go_wp2_with fail
        refine hF.mono ?_
        rintro e u4 ⟨v', rfl, j4⟩
        go_wp2_with fail
        go_roundg (gk - 1)
        case rel => exact ⟨n + 1, by have := HN.out; have := HN4.out; omega, j4⟩
        case measure => have := HN.out; have := HN4.out; omega

end Go.Proofs.Ytdpbhbpcpnlbkaa
