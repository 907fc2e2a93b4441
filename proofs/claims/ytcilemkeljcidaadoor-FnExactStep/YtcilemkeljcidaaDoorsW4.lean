import Derived.Test.YtcilemkeljcidaaDoorsW1
set_option maxHeartbeats 400000
namespace Go.Proofs.YtcilemkeljcidaaDoor
open Go.RowKit
set_option linter.unusedVariables false
set_option maxRecDepth 100000
theorem l1In_any (ao : Option Addr) (n cap : Nat) (xs : List Nat) (w : World) (hl : xs.length = n) (hn : n ≤ 1048576) (hx : F64 xs) (hr : Rd w ao xs) :
 Calls Tryd.prog 48 #[.slice ao n cap] w fun e w' => ∃ ao' cap', e = .returned (.slice ao' (D (V xs)).length cap') ∧ w'.ownsRow w.heap.size 27 1 (.slice ao' (D (V xs)).length cap') (D (V xs)).length (U (D (V xs))) ∧ Below w.heap.size w w' := by
 obtain ⟨i0, hi, hz0, hz1, hz2⟩ := info_parts Tryd.infoU
 go_enter Tryd.func48, Tryd.ntmps48
 go_wp2
 go_loopw [3, 8] (fun v i wr => ∃ k : Nat, k ≤ n ∧ i = .int .i64 k ∧ wr.ownsRow w.heap.size 27 1 v (2 * k) (U (M.halves (xs.take k))) ∧ Below w.heap.size w wr) (fun _ i _ => n - (intOf i).toNat)
 case atStart => exact ⟨0, Nat.zero_le _, rfl, World.ownsRow_nil _ _ _ _, Below.refl _ _⟩
 case round =>
  obtain ⟨k, hk, rfl, hown, hbl⟩ := hrel
  by_cases hlt : k < n
  · obtain ⟨b, off, hao, hc⟩ := (hr.below hbl) (by omega)
    have hck := hc k (by omega)
    clear hc
    have hx1 := hx.get k
    obtain ⟨x, hxx⟩ : ∃ x : Nat, x = xs.getD k 0 := ⟨_, rfl⟩
    rw [← hxx] at hck hx1
    have HX := hid hxx; clear hxx
    have hlow : bits BinOp.and IntKind.u64 (x : Int) 4294967295 = ((x % 4294967296 : Nat) : Int) := by
     rw [and_low32 _ (by omega) (by omega)]; omega
    have hhi : (x : Int) / 4294967296 = ((x / 4294967296 : Nat) : Int) := by omega
    have HHI := hid hhi; clear hhi
    go_wp2_with (at_builtin; refine wpList_append_own _ rfl _ _ 49 rfl w.heap.size 27 i0 (.int .u64 0) 1 8 Tryd.underlying49 hi hz0 hz1 hz2 rfl (by decide) _ _ _ rfl (hown.alloc _) ⟨wr.heap.size, 0, none⟩ 2 2 (U [x % 4294967296, x / 4294967296]) rfl rfl ?c1 ?c2 ?c3 ?c4 ?c5 ?_)
    case c1 =>
     intro j u hj
     match j, hj with
     | 0, hj => simp [U] at hj; subst hj; simp [Addr.add]
     | 1, hj => simp [U] at hj; subst hj; simp [Addr.add]
    case c2 => exact U_one _
    case c3 => unfold maxLen; omega
    case c4 => omega
    case c5 => have := hbl.size; simp; omega
    intro v' w1 hown' hgrow hnn
    clear hnn
    have hb1 : Below w.heap.size w w1 := (hbl.alloc hbl.size _).grown hgrow (by have := hbl.size; simp; omega) (fun k' hk' => (hown.lt k' hk').1)
    clear hown hgrow hck hlow
    go_wp2
    go_roundw
    case rel =>
     have R : ∃ k1 : Nat, k1 ≤ n ∧ Value.int .i64 ((k : Int) + 1) = .int .i64 (k1 : Int) ∧ w1.ownsRow w.heap.size 27 1 v' (2 * k1) (U (M.halves (xs.take k1))) ∧ Below w.heap.size w w1 := by
      refine ⟨k + 1, by omega, by go_num, ?_, hb1⟩
      rw [M.take_succ xs k (by omega), M.halves_append, U_append, ← HX.out]
      exact hown'
     first | exact R | ((repeat apply Exists.intro); exact ⟨R, by rw [hao]⟩)
    case measure => simp [intOf]; omega
  · have e : k = n := by omega
    subst e
    rw [List.take_of_length_le (by omega)] at hown
    have hv := own_shape hown
    obtain ⟨ao1, cap1, hv⟩ := hv
    rw [hv]
    rw [hv] at hown
    go_wp2_with fail
    have hrd := Rd.own hown
    refine (l1Trim_any 4294967296 (by omega) ao1 _ cap1 (M.halves xs) _ (by rw [M.halves_length]; omega) (own_cap hown) (by omega) (M.halves_lt xs hx) hrd).mono ?_
    rw [M.val_halves]
    rintro e w1 ⟨ao', cap', rfl, ho, hb⟩
    go_wp2_with fail
    go_ret
    exact ⟨ao', cap', rfl, own_base ho hbl.size, hbl.trans (hb.mono hbl.size)⟩

end Go.Proofs.YtcilemkeljcidaaDoor
