import Derived.Deep.RegionHeld3
import Derived.Test.YtcilemkeljcidaaDoorsBcl
import Derived.Test.YtcilemkeljcidaaDoorsWdM
import Derived.Test.YtcilemkeljcidaaDoorsW6
import Derived.Test.YtcilemkeljcidaaDoorsW17
set_option maxHeartbeats 1000000
namespace Go.Proofs.YtcilemkeljcidaaDoor
open Go.RowKit
set_option linter.unusedVariables false
set_option maxRecDepth 100000
theorem D_small (a : Nat) (h : a < 2 ^ 192) : (D a).length ≤ 6 := by
 apply M.len_of_lt (by omega)
 rw [show (4294967296 : Nat) = 2 ^ 32 from rfl, ← Nat.pow_mul]
 exact h

theorem L_get (a k : Nat) : (L a).getD k 0 = a / 18446744073709551616 ^ k % 18446744073709551616 := M.dig_get (by omega) k a

theorem getD_app0 (xs : List Nat) (k : Nat) : (xs ++ [0, 0]).getD k 0 = xs.getD k 0 := by
 rcases Nat.lt_or_ge k xs.length with h | h
 · simp [List.getD_eq_getElem?_getD, List.getElem?_append_left h]
 · rw [List.getD_eq_getElem?_getD, List.getD_eq_getElem?_getD, List.getElem?_append_right h, List.getElem?_eq_none (by omega : xs.length ≤ k)]
   rcases k - xs.length with _ | _ | m <;> simp

theorem l2Word_any (ao : Option Addr) (n c : Nat) (a : Nat) (w : World) (hl : (D a).length = n) (ha : a < 2 ^ 128) (hr : Rd w ao (D a)) :
 Calls Tryd.prog 27 #[.slice ao n c] w fun e w' => e = .returned (.agg #[.int .u64 (M.hiN a : Int), .int .u64 (M.loN a : Int)]) ∧ Below w.heap.size w w' := by
 obtain ⟨i0, hi, hz0, hz1, hz2⟩ := info_parts Tryd.infoU
 have hn : n ≤ 6 := by rw [← hl]; exact D_small a (by omega)
 have hL : (L a).length ≤ 4 := M.len_of_lt (by omega) _ _ (by omega)
 have g0 : (L a ++ [0, 0]).getD 0 0 = M.loN a := by rw [getD_app0, L_get]; simp [M.loN]
 have g1 : (L a ++ [0, 0]).getD 1 0 = M.hiN a := by rw [getD_app0, L_get]; have := M.hiLt ha; unfold M.hiN at *; simp; omega
 have G0 := hid g0; have G1 := hid g1
 clear g0 g1
 generalize M.hiN a = h at *
 generalize M.loN a = l at *
 go_enter Tryd.func27, Tryd.ntmps27
 go_wp2_with fail
 have b0 : Below w.heap.size w (w.alloc (.cells #[.int .u64 0, .int .u64 0] 30)) := (Below.refl _ _).alloc (Nat.le_refl _) _
 refine (l1Out_any ao n c a _ hl (by omega) (hr.below b0)).mono ?_
 rintro e w1 ⟨ao1, cap1, rfl, ho1, hb1⟩
 have hc1 := (bcell hb1).1
 have hf1 := (bcell hb1).2
 have b1 := b0.trans (hb1.mono b0.size)
 have hz : w.heap.size < w1.heap.size := by have := hb1.size; simp at this; omega
 go_wp2_with (at_builtin; refine wpList_append_own _ rfl _ _ 49 rfl (w.heap.size + 1) 27 i0 (.int .u64 0) 1 8 Tryd.underlying49 hi hz0 hz1 hz2 rfl (by decide) _ _ _ rfl ((own_base ho1 (by simp)).alloc _) ⟨w1.heap.size, 0, none⟩ 2 2 (U [0, 0]) rfl rfl ?c1 ?c2 ?c3 ?c4 ?c5 ?_)
 case c1 =>
  intro j u hj
  match j, hj with
  | 0, hj => simp [U] at hj; subst hj; simp [Addr.add]
  | 1, hj => simp [U] at hj; subst hj; simp [Addr.add]
 case c2 => exact U_one _
 case c3 => unfold maxLen; omega
 case c4 => omega
 case c5 => have := hb1.size; simp at this ⊢; omega
 intro v' w2 hown' hgrow hnn
 clear hnn
 have hb2 : Below (w.alloc (.cells #[.int .u64 0, .int .u64 0] 30)).heap.size (w.alloc (.cells #[.int .u64 0, .int .u64 0] 30)) w2 :=
  (hb1.alloc hb1.size _).grown hgrow (by have := hb1.size; simp at this ⊢; omega) (fun k hk => (ho1.lt k hk).1)
 have b2 := b0.trans (hb2.mono b0.size)
 rw [← U_append] at hown'
 obtain ⟨ao2, cap2, hv⟩ := own_shape hown'
 subst hv
 have hcap := own_cap hown'
 have hrd := Rd.own hown'
 obtain ⟨b, off, hao, hcl⟩ := hrd (by simp)
 subst hao
 have hbge : w.heap.size + 1 ≤ b := (hown'.lt b rfl).1
 have k0 := hcl 0 (by simp)
 have k1 := hcl 1 (by simp)
 rw [G0.out] at k0
 rw [G1.out] at k1
 rw [Nat.add_zero] at k0
 have hne : w.heap.size ≠ b := by omega
 have hlt : b < w2.heap.size := World.block_lt_of_cell? w2 ⟨b, off, none⟩ k0
 have r0 : w2.cell? ⟨w.heap.size, 0, none⟩ = some (.int .u64 0) := (hb2.cell (by simp)).trans (by simp [go_sem])
 have r1 : w2.cell? ⟨w.heap.size, 1, none⟩ = some (.int .u64 0) := (hb2.cell (by simp)).trans (by simp [go_sem])
 have z0 : w2.frozen? ⟨w.heap.size, 0, none⟩ = false := (hb2.frozen (by simp)).trans (by simp [go_sem])
 have z1 : w2.frozen? ⟨w.heap.size, 1, none⟩ = false := (hb2.frozen (by simp)).trans (by simp [go_sem])
 clear hown' hgrow hrd hcl ho1 hb1 hb2 hc1 hf1 b1 hz
 generalize (L a).length = m at *
 have m1 : (1 : Int) < (m : Int) + 2 := by omega
 have m0 : (0 : Int) < (m : Int) + 2 := by omega
 go_wp2_with fail
 go_region_held3 (fun v => v.cell? ⟨b, off, none⟩ = some (.int .u64 (l : Int)) ∧ v.cell? ⟨b, off + 1, none⟩ = some (.int .u64 (h : Int))) (go_keep) (fail)
 go_wp2_with fail
 exact bodyPost_ret (v := .agg #[.int .u64 (h : Int), .int .u64 (l : Int)]) (by simp [results, Tryd.results27, go_sem, r0, r1]) rfl ⟨rfl, ((b2.setCell (p := ⟨w.heap.size, 0, none⟩) (Nat.le_refl _) _).setCell (p := ⟨w.heap.size, 1, none⟩) (Nat.le_refl _) _).drew⟩

end Go.Proofs.YtcilemkeljcidaaDoor
