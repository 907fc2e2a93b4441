import Derived.Test.YtcilemkeljcidaaDoorsW1
import Derived.Test.YtcilemkeljcidaaDoorsCom
set_option maxHeartbeats 1000000
namespace Go.Proofs.YtcilemkeljcidaaDoor
open Go.RowKit
set_option linter.unusedVariables false
set_option maxRecDepth 100000
theorem l1Add_any (ao bo : Option Addr) (n m c d : Nat) (a b : Nat) (w : World) (hl : (D a).length = n) (hm : (D b).length = m) (hn : n ≤ 2097152) (hn2 : m ≤ 2097152) (hr : Rd w ao (D a)) (hr2 : Rd w bo (D b)) :
 Calls Tryd.prog 28 #[.slice ao n c, .slice bo m d] w fun e w' => ∃ ao' cap', e = .returned (.slice ao' (D (a + b)).length cap') ∧ w'.ownsRow w.heap.size 27 1 (.slice ao' (D (a + b)).length cap') (D (a + b)).length (U (D (a + b))) ∧ Below w.heap.size w w' := by
 obtain ⟨i0, hi, hz0, hz1, hz2⟩ := info_parts Tryd.infoU
 have fa := F32_D a
 have fb := F32_D b
 obtain ⟨mx, hmx⟩ : ∃ mx : Nat, n ≤ mx ∧ m ≤ mx ∧ mx ≤ 2097152 ∧ (mx = n ∨ mx = m) := ⟨max n m, by omega⟩
 have hh : (n < m ∧ mx = m) ∨ (¬ n < m ∧ mx = n) := by omega
 rcases hh with ⟨hnm, rfl⟩ | ⟨hnm, rfl⟩
 all_goals
  go_enter Tryd.func28, Tryd.ntmps28
  go_wp2_with fail
  go_loopw [6, 7, 8] (fun v cy i wr => ∃ (k : Nat) (os : List Nat) (cc : Nat), k ≤ mx + 1 ∧ i = .int .i64 k ∧ cy = .int .u64 cc ∧ cc ≤ 1 ∧ wr.ownsRow w.heap.size 27 1 v k (U os) ∧ F32 os ∧ os.length = k ∧ X os + cc * 4294967296 ^ k = X ((D a).take k) + X ((D b).take k) ∧ Below w.heap.size w wr) (fun _ _ i _ => mx + 2 - (intOf i).toNat)
  case atStart => exact ⟨0, [], 0, by omega, rfl, rfl, by omega, World.ownsRow_nil _ _ _ _, fun x hx => by simp at hx, rfl, by simp [X, M.val], Below.refl _ _⟩
  case round =>
   obtain ⟨k, os, cc, hk, rfl, rfl, hcc, hown, hf, hlen, hv, hbl⟩ := hrel
   have HV := hid hv; clear hv
   have HLen := hid hlen; clear hlen
   by_cases hlt : k ≤ mx
   · obtain ⟨x, hxx⟩ : ∃ x : Nat, x = (D a).getD k 0 := ⟨_, rfl⟩
     obtain ⟨y, hyy⟩ : ∃ y : Nat, y = (D b).getD k 0 := ⟨_, rfl⟩
     have hx1 := fa.get k
     have hy1 := fb.get k
     rw [← hxx] at hx1
     rw [← hyy] at hy1
     have HX := hid hxx; clear hxx
     have HY := hid hyy; clear hyy
     have hlt' : (k : Int) ≤ (mx : Int) := by omega
     go_wp2_with fail
     refine (l1At_any ao _ c k (D a) _ hl (by omega) (by omega) (hr.below hbl) x HX.out).mono ?_
     rintro e w1 ⟨rfl, rfl⟩
     go_wp2_with fail
     refine (l1At_any bo _ d k (D b) _ hm (by omega) (by omega) (hr2.below hbl) y HY.out).mono ?_
     rintro e w2 ⟨rfl, rfl⟩
     have hlow : bits BinOp.and IntKind.u64 ((x : Int) + (y : Int) + (cc : Int)) 4294967295 = (((x + y + cc) % 4294967296 : Nat) : Int) := by
      rw [and_low32 _ (by omega) (by omega)]; omega
     go_wp2_with (at_builtin; refine wpList_append_own _ rfl _ _ 49 rfl w.heap.size 27 i0 (.int .u64 0) 1 8 Tryd.underlying49 hi hz0 hz1 hz2 rfl (by decide) _ _ _ rfl (hown.alloc _) ⟨w2.heap.size, 0, none⟩ 1 1 (U [(x + y + cc) % 4294967296]) rfl rfl ?c1 ?c2 ?c3 ?c4 ?c5 ?_)
     case c1 =>
      intro j u hj
      match j, hj with
      | 0, hj => simp [U] at hj; subst hj; simp [Addr.add]
     case c2 => exact U_one _
     case c3 => unfold maxLen; omega
     case c4 => omega
     case c5 => have := hbl.size; simp; omega
     intro v' w1 hown' hgrow hnn
     clear hnn
     have hb1 : Below w.heap.size w w1 := (hbl.alloc hbl.size _).grown hgrow (by have := hbl.size; simp; omega) (fun k' hk' => (hown.lt k' hk').1)
     clear hown hgrow
     go_wp2_with fail
     go_roundw
     case rel =>
      have R : ∃ (k1 : Nat) (os1 : List Nat) (cc1 : Nat), k1 ≤ mx + 1 ∧ Value.int .i64 ((k : Int) + 1) = .int .i64 k1 ∧ Value.int .u64 (((x : Int) + (y : Int) + (cc : Int)) / 4294967296) = .int .u64 cc1 ∧ cc1 ≤ 1 ∧ w1.ownsRow w.heap.size 27 1 v' k1 (U os1) ∧ F32 os1 ∧ os1.length = k1 ∧ X os1 + cc1 * 4294967296 ^ k1 = X ((D a).take k1) + X ((D b).take k1) ∧ Below w.heap.size w w1 := by
       refine ⟨k + 1, os ++ [(x + y + cc) % 4294967296], (x + y + cc) / 4294967296, by omega, by go_num, by go_num, by omega, ?_, ?_, by simp [HLen.out], ?_, hb1⟩
       · rw [U_append]; exact hown'
       · intro z hz
         rcases List.mem_append.1 hz with hz | hz
         · exact hf z hz
         · simp at hz; omega
       · unfold X at *
         rw [M.val_snoc, HLen.out, M.val_take_succ, M.val_take_succ, ← HX.out, ← HY.out, Nat.pow_succ]
         exact M.add_place HV.out (by omega)
      first | exact R | ((repeat apply Exists.intro); exact ⟨R, rfl⟩)
     case measure => simp [intOf]; omega
   · have e : k = mx + 1 := by omega
     have hfin : X os = a + b := by
      have h1 := HV.out
      rw [X_takeD a k (by omega), X_takeD b k (by omega)] at h1
      have h2 := D_lt a mx (by omega)
      have h3 := D_lt b mx (by omega)
      refine (M.no_carry h1 ?_).2
      rw [e, Nat.pow_succ]; omega
     have hv := own_shape hown
     obtain ⟨ao1, cap1, hv⟩ := hv
     rw [hv]
     rw [hv] at hown
     have hlt' : ¬ (k : Int) ≤ (mx : Int) := by omega
     clear e hv
     have HF := hid hfin; clear hfin
     go_wp2_with fail
     have hrd := Rd.own hown
     refine (l1Trim_any 4294967296 (by omega) ao1 _ cap1 os _ HLen.out (own_cap hown) (by omega) hf hrd).mono ?_
     have hfin : M.val 4294967296 os = a + b := HF.out
     rw [hfin]
     rintro e w1 ⟨ao', cap', rfl, ho, hb⟩
     go_wp2_with fail
     go_ret
     exact ⟨ao', cap', rfl, own_base ho hbl.size, hbl.trans (hb.mono hbl.size)⟩

end Go.Proofs.YtcilemkeljcidaaDoor
