import Derived.Test.YtchfkmompciooabW10
namespace Go.Proofs.Ytchfkmompciooab
open Go.RowKit
set_option linter.unusedVariables false

set_option maxHeartbeats 1000000 in
theorem mul_any (ao bo : Option Addr) (n m c d : Nat) (a b : Nat) (w : World) (hl : (L a).length = n) (hm : (L b).length = m) (hn : n ≤ 1048576) (hn2 : m ≤ 1048576) (hr : Rd w ao (L a)) (hr2 : Rd w bo (L b)) :
    Calls Try.prog 41 #[.slice ao n c, .slice bo m d] w fun e w' => Ret w w' e (L (a * b)) := by
  obtain ⟨i0, hi, hz0, hz1, hz2⟩ := info_parts Try.infoU
  have hmk := fun (wx : World) => run_make (P := Try.prog) wx 41 34 i0 (.int .u64 0) Try.underlying41 hi hz0 .i64 .i64 ((n + m : Nat) : Int) ((n + m : Nat) : Int) (by omega) (Int.le_refl _) (by rw [hz2]; omega) (by omega)
  have es : ((n + m : Nat) : Int) = (n : Int) + (m : Int) := by omega
  rw [es] at hmk
  have et : ((n : Int) + (m : Int)).toNat = n + m := by omega
  rw [et] at hmk
  clear es et
  have fb := F64_L b
  have hsepA : 0 < (L a).length → ∀ b2 o2, ao = some ⟨b2, o2, none⟩ → b2 ≠ w.heap.size := by
    intro hp b2 o2 e
    obtain ⟨b3, o3, e3, hc⟩ := hr hp
    rw [e] at e3
    simp only [Option.some.injEq, Addr.mk.injEq] at e3
    have := World.block_lt_of_cell? w _ (hc 0 hp)
    simp at this
    omega
  have HSep := hid hsepA; clear hsepA
  go_enter Try.func41, Try.ntmps41
  go_wp2_with fail
  go_loopw [16] (fun i wr => ∃ (k : Nat) (cur : List Nat), k ≤ m ∧ i = .int .i64 k ∧ Blk wr w.heap.size cur ∧ cur.length = n + m ∧ F64 cur ∧ (∀ j, n + k ≤ j → cur.getD j 0 = 0) ∧ V cur = a * V ((L b).take k) ∧ Below w.heap.size w wr) (fun i _ => m - (intOf i).toNat)
  case atStart =>
    refine ⟨0, List.replicate (n + m) 0, by omega, rfl, blk_made w (n + m), by simp, fun x hx => by simp at hx; omega, fun j _ => ?_, ?_, (Below.refl _ _).alloc (Nat.le_refl _) _⟩
    · rw [List.getD_eq_getElem?_getD, List.getElem?_replicate]; split <;> rfl
    · unfold V; rw [M.val_replicate]; simp [M.val]
  case round =>
    obtain ⟨k, cur, hk, rfl, hBk, hcl, hcf, hz, hv, hbl⟩ := hrel
    clear hmk
    have HZ := hid hz; clear hz
    have HV := hid hv; clear hv
    have HCL := hid hcl; clear hcl
    by_cases hlt : k < m
    · obtain ⟨b2, o2, hbo, hcc⟩ := (hr2.below hbl) (by omega)
      have hck := hcc k (by omega)
      clear hcc
      have hy1 := fb.get k
      obtain ⟨y, hyy⟩ : ∃ y : Nat, y = (L b).getD k 0 := ⟨_, rfl⟩
      rw [← hyy] at hck hy1
      have HY := hid hyy; clear hyy
      have hlt' : (k : Int) < (m : Int) := by omega
      have hne : ¬ n + m = k := by omega
      have hlt3 : (k : Int) + (n : Int) < ((n + m : Nat) : Int) := by omega
      go_wp2_with fail
      refine (addTimesIn_any w.heap.size k n (n + m - k) _ ao c y cur (L a) _ (fun _ => rfl) hBk hcf (by have := HCL.out; omega) (by omega) hl (F64_L a) hy1 (hr.below hbl) HSep.out).mono ?_
      rintro e w1 ⟨cc, rfl, hg1, hcc1, cur1, hB1, hW1, hv1⟩
      have hb1 : Below w.heap.size w w1 := hbl.grown hg1 hbl.size (fun _ h => by cases h; exact Nat.le_refl _)
      have hl1 : cur1.length = n + m := by rw [hW1.len]; exact HCL.out
      have hcs := hB1.cell (k + n) (by omega)
      have hfs := hB1.frozen (k + n)
      have hz1 : cur1.getD (k + n) 0 = 0 := by rw [hW1.out (k + n) (by omega)]; exact HZ.out _ (by omega)
      rw [hz1] at hcs
      have HB1 := hid hB1; clear hB1
      have HV1 := hid hv1; clear hv1
      have HL1 := hid hl1; clear hl1
      have HZ1 := hid hz1; clear hz1
      clear hck hBk hg1
      go_wp2_with fail
      go_roundw
      case rel =>
        have R : ∃ (k1 : Nat) (cur2 : List Nat), k1 ≤ m ∧ Value.int .i64 ((k : Int) + 1) = .int .i64 k1 ∧ Blk (w1.setCell ⟨w.heap.size, k + n, none⟩ (.int .u64 (cc : Int))) w.heap.size cur2 ∧ cur2.length = n + m ∧ F64 cur2 ∧ (∀ j, n + k1 ≤ j → cur2.getD j 0 = 0) ∧ V cur2 = a * V ((L b).take k1) ∧ Below w.heap.size w (w1.setCell ⟨w.heap.size, k + n, none⟩ (.int .u64 (cc : Int))) := by
          refine ⟨k + 1, cur1.set (k + n) cc, by omega, by go_num, HB1.out.set _ _ _ rfl, by rw [List.length_set]; exact HL1.out, ?_, ?_, ?_, hb1.setCell (Nat.le_refl _) _⟩
          · intro x hx
            rcases List.mem_or_eq_of_mem_set hx with hx | rfl
            · exact hW1.lt x hx
            · exact hcc1
          · intro j hj
            rw [M.getD_set_ne _ _ _ _ (by omega), hW1.out j (by omega)]
            exact HZ.out j (by omega)
          · have e1 := M.val_wrote hW1 (by have := HCL.out; omega)
            have e2 := M.val_set 18446744073709551616 (k + n) cur1 cc (by have := HL1.out; omega)
            rw [HZ1.out, Nat.mul_zero, Nat.add_zero, Nat.pow_add] at e2
            unfold V at *
            rw [M.val_take_succ, ← HY.out]
            refine M.mul_row HV.out e1 ?_ e2
            have := HV1.out
            rw [show M.val 18446744073709551616 (L a) = a from V_L a] at this
            exact this
        first | exact R | ((repeat apply Exists.intro); exact ⟨R, rfl⟩) | ((repeat apply Exists.intro); exact ⟨R, by rw [hbo]⟩)
      case measure => simp [intOf]; omega
    · have e : k = m := by omega
      subst e
      go_wp2_with fail
      have hfin : V cur = a * b := by
        have := HV.out
        rwa [List.take_of_length_le (by omega), V_L] at this
      refine (trim_any _ (n + k) (n + k) cur _ HCL.out (Nat.le_refl _) (by omega) hcf hBk.rd0).mono ?_
      rw [hfin]
      rintro e w3 ⟨rfl, rfl⟩
      go_wp2_with fail
      go_ret
      have h1 := L_len cur hcf
      have h2 := L_take cur hcf
      rw [hfin] at h1 h2
      have h3 := hBk.ownPre (base := w.heap.size) (Nat.le_refl _) h1 HCL.out (by unfold maxLen; omega)
      rw [h2] at h3
      exact ⟨_, _, rfl, h3, hbl⟩

end Go.Proofs.Ytchfkmompciooab
