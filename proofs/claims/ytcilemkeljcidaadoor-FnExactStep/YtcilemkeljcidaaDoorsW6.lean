import Derived.Test.YtcilemkeljcidaaDoorsBase
import Derived.Test.YtcilemkeljcidaaDoorsW3
set_option maxHeartbeats 400000
namespace Go.Proofs.YtcilemkeljcidaaDoor
open Go.RowKit
set_option linter.unusedVariables false
set_option maxRecDepth 100000
theorem l1Out_any (ao : Option Addr) (n cap : Nat) (a : Nat) (w : World) (hl : (D a).length = n) (hn : n ≤ 4194304) (hr : Rd w ao (D a)) :
 Calls Tryd.prog 50 #[.slice ao n cap] w fun e w' => ∃ ao' cap', e = .returned (.slice ao' (L a).length cap') ∧ w'.ownsRow w.heap.size 27 1 (.slice ao' (L a).length cap') (L a).length (U (L a)) ∧ Below w.heap.size w w' := by
 obtain ⟨i0, hi, hz0, hz1, hz2⟩ := info_parts Tryd.infoU
 have hx := F32_D a
 go_enter Tryd.func50, Tryd.ntmps50
 go_wp2
 go_loopw [3, 4] (fun v i wr => ∃ k : Nat, 2 * k ≤ n + 1 ∧ i = .int .i64 (2 * k) ∧ wr.ownsRow w.heap.size 27 1 v k (U (M.pk 4294967296 (D a) k)) ∧ Below w.heap.size w wr) (fun _ i _ => n + 2 - (intOf i).toNat)
 case atStart => exact ⟨0, by omega, rfl, World.ownsRow_nil _ _ _ _, Below.refl _ _⟩
 case round =>
  obtain ⟨k, hk, rfl, hown, hbl⟩ := hrel
  by_cases hlt : 2 * k < n
  · obtain ⟨b, off, hao, hc⟩ := (hr.below hbl) (by omega)
    have hck := hc (2 * k) (by omega)
    have hx1 := hx.get (2 * k)
    obtain ⟨x, hxx⟩ : ∃ x : Nat, x = (D a).getD (2 * k) 0 := ⟨_, rfl⟩
    rw [← hxx] at hck hx1
    have HX := hid hxx; clear hxx
    have hx2 := hx.get (2 * k + 1)
    obtain ⟨y, hyy⟩ : ∃ y : Nat, y = (D a).getD (2 * k + 1) 0 := ⟨_, rfl⟩
    by_cases hlt2 : 2 * k + 1 < n
    · have hck2 := hc (2 * k + 1) (by omega)
      rw [← hyy] at hck2 hx2
      have HY := hid hyy; clear hyy
      clear hc
      have hor := or_pair x y hx1 hx2
      go_wp2_with (at_builtin; refine wpList_append_own _ rfl _ _ 49 rfl w.heap.size 27 i0 (.int .u64 0) 1 8 Tryd.underlying49 hi hz0 hz1 hz2 rfl (by decide) _ _ _ rfl (hown.alloc _) ⟨wr.heap.size, 0, none⟩ 1 1 (U [x + y * 4294967296]) rfl rfl ?c1 ?c2 ?c3 ?c4 ?c5 ?_)
      case c1 =>
       intro j u hj
       match j, hj with
       | 0, hj => simp [U] at hj; subst hj; simp [Addr.add]
      case c2 => exact U_one _
      case c3 => unfold maxLen; omega
      case c4 => omega
      case c5 => have := hbl.size; simp; omega
      intro v' w1 hown' hgrow hnn
      clear hnn
      have hb1 : Below w.heap.size w w1 := (hbl.alloc hbl.size _).grown hgrow (by have := hbl.size; simp; omega) (fun k' hk' => (hown.lt k' hk').1)
      clear hown hgrow
      go_wp2
      go_roundw
      case rel =>
       have R : ∃ k1 : Nat, 2 * k1 ≤ n + 1 ∧ Value.int .i64 (2 * (k : Int) + 2) = .int .i64 (2 * (k1 : Int)) ∧ w1.ownsRow w.heap.size 27 1 v' k1 (U (M.pk 4294967296 (D a) k1)) ∧ Below w.heap.size w w1 := by
        refine ⟨k + 1, by omega, by go_num, ?_, hb1⟩
        rw [M.pk_succ, U_append, ← HX.out, ← HY.out]
        exact hown'
       first | exact R | ((repeat apply Exists.intro); exact ⟨R, by rw [hao]⟩)
      case measure => simp [intOf]; omega
    · have hy0 : y = 0 := by rw [hyy, getD_big _ _ (by omega)]
      have HY := hid hyy; clear hyy hx2
      clear hc
      have HY0 := hid hy0; clear hy0
      go_wp2_with (at_builtin; refine wpList_append_own _ rfl _ _ 49 rfl w.heap.size 27 i0 (.int .u64 0) 1 8 Tryd.underlying49 hi hz0 hz1 hz2 rfl (by decide) _ _ _ rfl (hown.alloc _) ⟨wr.heap.size, 0, none⟩ 1 1 (U [x]) rfl rfl ?c1 ?c2 ?c3 ?c4 ?c5 ?_)
      case c1 =>
       intro j u hj
       match j, hj with
       | 0, hj => simp [U] at hj; subst hj; simp [Addr.add]
      case c2 => exact U_one _
      case c3 => unfold maxLen; omega
      case c4 => omega
      case c5 => have := hbl.size; simp; omega
      intro v' w1 hown' hgrow hnn
      clear hnn
      have hb1 : Below w.heap.size w w1 := (hbl.alloc hbl.size _).grown hgrow (by have := hbl.size; simp; omega) (fun k' hk' => (hown.lt k' hk').1)
      clear hown hgrow
      go_wp2
      go_roundw
      case rel =>
       have R : ∃ k1 : Nat, 2 * k1 ≤ n + 1 ∧ Value.int .i64 (2 * (k : Int) + 2) = .int .i64 (2 * (k1 : Int)) ∧ w1.ownsRow w.heap.size 27 1 v' k1 (U (M.pk 4294967296 (D a) k1)) ∧ Below w.heap.size w w1 := by
        refine ⟨k + 1, by omega, by go_num, ?_, hb1⟩
        rw [M.pk_succ, U_append, ← HX.out, ← HY.out, HY0.out]
        exact hown'
       first | exact R | ((repeat apply Exists.intro); exact ⟨R, by rw [hao]⟩)
      case measure => simp [intOf]; omega
  · have e : k = (n + 1) / 2 := by omega
    have hfin : M.pk 4294967296 (D a) k = L a := by
     rw [e, ← hl]; exact M.pk_dig (C := 4294967296) (by omega) a
    rw [hfin] at hown
    have hlen := hown.1
    rw [U_length, Nat.mul_one] at hlen
    have hv := own_shape hown
    obtain ⟨ao1, cap1, hv⟩ := hv
    rw [hv] at hown
    have HO := hid hown; clear hown
    have HV := hid hv; clear hv
    have HLen := hid hlen; clear hlen
    have HF := hid hfin; clear hfin
    go_wp2
    go_ret
    rw [HLen.out]
    exact ⟨ao1, cap1, by rw [← HV.out]; rfl, HO.out, hbl⟩

end Go.Proofs.YtcilemkeljcidaaDoor
