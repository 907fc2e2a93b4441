import Derived.Defers
import Derived.Recover
import Derived.Test.YtodgblbaclionaaGreatDoorqSi6
import Derived.Test.YtodgblbaclionaaGreatDoorqSd3
namespace Go.Proofs.YtodgblbaclionaaGreatDoor

open Go.RowKit

set_option linter.unusedVariables false
set_option maxRecDepth 100000

theorem ta_yes (k : Int) (u : World) : (Instr.typeAssert (.iface 102 (.agg #[.int .i64 k])) 20 102 true).run Tryz.prog u = .ok (.tuple #[.agg #[.int .i64 k], .bool true]) u := by kernel_rfl

theorem ta_no (u : World) : (Instr.typeAssert .nilIface 20 102 true).run Tryz.prog u = .ok (.tuple #[.agg #[.int .i64 0], .bool false]) u := by kernel_rfl

set_option maxHeartbeats 1000000 in
theorem catch_panicking (g : Nat) (k : Nat) (w : World) (x0 x1 x2 x3 x4 x5 : Value) (hC : Cls w g #[x0, x1, x2, x3, x4, x5] 66) :
    CallsD Tryz.prog 74 #[.pointer (some ⟨g, 0, none⟩)] (.panicking ({ v := .iface 102 (.agg #[.int .i64 (k : Int)]), recovered := false } :: [])) w fun e u' w' =>
      e = .returned (.tuple #[]) ∧ u' = .panicking ({ v := .iface 102 (.agg #[.int .i64 (k : Int)]), recovered := true } :: []) ∧ Cls w' g #[.int .i64 0, .bool false, .slice none 0 0, .int .i64 0, .int .i64 1, .int .i64 (k : Int)] 66 ∧ Below g w w' := by
  refine callsD_of_wpS Tryz.func74 rfl fun c₀ cs hu => ?_
  apply wpS_seq
  apply wpS_region
  simp [wpOpsS, go_sem, recoverD, hu, Tryz.ntmps74, Exit.thenS, ta_yes]
  have b1 : Below w.heap.size w (w.alloc (.cells #[.int .i64 (k : Int)] 102)) := (Below.refl _ _).alloc (Nat.le_refl _) _
  have F1 : Cls (w.alloc (.cells #[.int .i64 (k : Int)] 102)) w.heap.size #[.int .i64 (k : Int)] 102 := Cls.new _ _ _
  have C1 := hC.below b1
  have hlt := hC.lt
  generalize w.alloc (.cells #[.int .i64 (k : Int)] 102) = w1 at *
  have d0 := F1.cell 0 (x := .int .i64 (k : Int)) rfl
  have c0 := C1.cell 0 (x := x0) rfl
  have c1 := C1.cell 1 (x := x1) rfl
  have c2 := C1.cell 2 (x := x2) rfl
  have c3 := C1.cell 3 (x := x3) rfl
  have c4 := C1.cell 4 (x := x4) rfl
  have c5 := C1.cell 5 (x := x5) rfl
  have f0 := C1.frozen 0
  have f1 := C1.frozen 1
  have f2 := C1.frozen 2
  have f3 := C1.frozen 3
  have f4 := C1.frozen 4
  have f5 := C1.frozen 5
  apply wpS_seq
  apply wpS_region
  simp [wpOpsS, go_sem, Exit.thenS]
  refine wpS_cond (t := true) (by simp [Act.eval, Array.replicate]) ?_
  simp only [if_true]
  apply wpS_region
  have B9 : Below g w ((((((w1.setCell ⟨g, 0, none⟩ (.int .i64 0)).setCell ⟨g, 1, none⟩ (.bool false)).setCell ⟨g, 2, none⟩ (.slice none 0 0)).setCell ⟨g, 3, none⟩ (.int .i64 0)).setCell ⟨g, 4, none⟩ (.int .i64 1)).setCell ⟨g, 5, none⟩ (.int .i64 (k : Int))) := below6 (b1.mono (by omega)) _ _ _ _ _ _
  have R9 := box6 C1 rfl (.int .i64 0) (.bool false) (.slice none 0 0) (.int .i64 0) (.int .i64 1) (.int .i64 (k : Int))
  simp [wpOpsS, go_sem, d0, c0, c1, c2, c3, c4, c5, f0, f1, f2, f3, f4, f5, bodyPostS, results, Tryz.results74]
  exact ⟨R9, B9⟩

set_option maxHeartbeats 1000000 in
theorem catch_idle (g : Nat) (w : World) :
    CallsD Tryz.prog 74 #[.pointer (some ⟨g, 0, none⟩)] .returning w fun e u' w' => e = .returned (.tuple #[]) ∧ u' = .returning ∧ Below w.heap.size w w' := by
  refine callsD_of_wpS Tryz.func74 rfl fun c₀ cs hu => ?_
  apply wpS_seq
  apply wpS_region
  simp [wpOpsS, go_sem, recoverD, hu, Tryz.ntmps74, Exit.thenS, ta_no]
  have b1 : Below w.heap.size w (w.alloc (.cells #[.int .i64 0] 102)) := (Below.refl _ _).alloc (Nat.le_refl _) _
  generalize w.alloc (.cells #[.int .i64 0] 102) = w1 at *
  apply wpS_seq
  apply wpS_region
  simp [wpOpsS, go_sem, Exit.thenS]
  refine wpS_cond (t := false) (by simp [Act.eval, Array.replicate]) ?_
  simp only [Bool.false_eq_true, if_false]
  refine wpS_of_wp (wp_skip ?_)
  cases c₀
  simp_all [bodyPostS, results, Tryz.results74]

set_option maxHeartbeats 2000000 in
theorem iscan_any (ao : Option Addr) (n c : Nat) (bs : List Nat) (w : World) (hl : bs.length = n) (hr : RdB w ao bs) (hF : Fol w) (hWd : Wds w) (o : M.Dec × Int × Int) (ho : o = scOut bs) :
    Calls Tryz.prog 58 #[.slice ao n c] w fun e w' => ∃ v, e = .returned (scV o v) ∧ OwnV w' w.heap.size v o.1.digits ∧ Below w.heap.size w w' := by
  have hmf : ∀ (fn : Fn) (first cap : Array Value) (w : World), (Instr.makeFunc fn first cap).run Tryz.prog w = .ok (.func fn first cap) w := fun _ _ _ _ => rfl
  have HO := hid ho; clear ho
  by_cases h8 : 800 < n
  · have h8' : (800 : Int) < (n : Int) := by omega
    go_enter_defers Tryz.func58, Tryz.ntmps58
    go_wp2_with fail
    have R9 := Cls.new w #[.int .i64 0, .bool false, .slice none 0 0, .int .i64 0, .int .i64 2, .int .i64 800] 66
    have H9 : Below w.heap.size w (w.alloc (.cells #[.int .i64 0, .bool false, .slice none 0 0, .int .i64 0, .int .i64 2, .int .i64 800] 66)) := (Below.refl _ _).alloc (Nat.le_refl _) _
    generalize w.alloc (.cells #[.int .i64 0, .bool false, .slice none 0 0, .int .i64 0, .int .i64 2, .int .i64 800] 66) = w9 at R9 H9 ⊢
    have z0 := R9.cell 0 (x := .int .i64 0) rfl
    have z1 := R9.cell 1 (x := .bool false) rfl
    have z2 := R9.cell 2 (x := .slice none 0 0) rfl
    have z3 := R9.cell 3 (x := .int .i64 0) rfl
    have z4 := R9.cell 4 (x := .int .i64 2) rfl
    have z5 := R9.cell 5 (x := .int .i64 800) rfl
    have hoo : o = (⟨0, false, [], 0⟩, 2, 800) := by rw [HO.out, scOut, if_pos (by omega)]
    simp [bodyPostD, Leaves, results, Tryz.results58, go_sem, z0, z1, z2, z3, z4, z5]
    rw [hoo]
    exact ⟨.slice none 0 0, rfl, OwnV.nil _ _, H9⟩
  · have h8' : ¬ (800 : Int) < (n : Int) := by omega
    go_enter_defers Tryz.func58, Tryz.ntmps58
    have b1 : Below w.heap.size w (w.alloc (.cells zSc 66)) := (Below.refl _ _).alloc (Nat.le_refl _) _
    have R1 : Cls (w.alloc (.cells zSc 66)) w.heap.size zSc 66 := Cls.new _ _ _
    have hcv := conv_any ao n c bs (w.alloc (.cells zSc 66)) hl (hr.below b1)
    have hsl : (strN bs).size ≤ 800 := by rw [← lett_len, lett_str bs hr.1, hl]; omega
    have kS := scan_any (strN bs) (w.alloc (.cells zSc 66)) hsl (hF.below b1) (hWd.below b1) _ rfl
    rw [lett_str bs hr.1] at kS
    have hsc : scOut bs = match M.scanI bs with | .inl d => (d, 0, 0) | .inr k => (⟨0, false, [], 0⟩, 1, (k : Int)) := by
      rw [scOut, if_neg (by omega), M.scan_eq]
      cases M.scanD bs <;> rfl
    rw [hsc] at HO
    clear hsc
    go_wp2_with fail
    refine kS.mono ?_
    intro e w2 hP
    clear kS hcv
    generalize w.alloc (.cells zSc 66) = w1 at *
    have ltR := R1.lt
    cases hI : M.scanI bs with
    | inl d =>
      rw [hI] at hP HO
      obtain ⟨xv, rfl, hV, b2⟩ := hP
      obtain ⟨xa, xc, rfl, hv2⟩ := hV
      have V2 : OwnV w2 w1.heap.size (.slice xa d.digits.length xc) d.digits := ⟨xa, xc, rfl, hv2⟩
      have R2 := R1.below b2
      have B2 := b1.trans (b2.mono b1.size)
      have y0 := R2.cell 0 (x := .int .i64 0) rfl
      have y1 := R2.cell 1 (x := .bool false) rfl
      have y2 := R2.cell 2 (x := .slice none 0 0) rfl
      have y3 := R2.cell 3 (x := .int .i64 0) rfl
      have y4 := R2.cell 4 (x := .int .i64 0) rfl
      have y5 := R2.cell 5 (x := .int .i64 0) rfl
      have f0 := R2.frozen 0
      have f1 := R2.frozen 1
      have f2 := R2.frozen 2
      have f3 := R2.frozen 3
      have f4 := R2.frozen 4
      have f5 := R2.frozen 5
      have HV := hid V2; have HR2 := hid R2; have HB2 := hid B2
      clear V2 R2 B2 hv2 b2 hI R1
      unfold decV
      go_wp2_with fail
      have R9 := box6 HR2.out rfl (.int .i64 d.kind) (.bool d.neg) (.slice xa d.digits.length xc) (.int .i64 d.exp) (.int .i64 0) (.int .i64 0)
      have H9 := below6 HB2.out (.int .i64 d.kind) (.bool d.neg) (.slice xa d.digits.length xc) (.int .i64 d.exp) (.int .i64 0) (.int .i64 0)
      have O9 := ((((((HV.out.far ⟨w.heap.size, 0, none⟩ ltR (.int .i64 d.kind)).far ⟨w.heap.size, 1, none⟩ ltR (.bool d.neg)).far ⟨w.heap.size, 2, none⟩ ltR (.slice xa d.digits.length xc)).far ⟨w.heap.size, 3, none⟩ ltR (.int .i64 d.exp)).far ⟨w.heap.size, 4, none⟩ ltR (.int .i64 0)).far ⟨w.heap.size, 5, none⟩ ltR (.int .i64 0))
      generalize ((((((w2.setCell ⟨w.heap.size, 0, none⟩ (.int .i64 d.kind)).setCell ⟨w.heap.size, 1, none⟩ (.bool d.neg)).setCell ⟨w.heap.size, 2, none⟩ (.slice xa d.digits.length xc)).setCell ⟨w.heap.size, 3, none⟩ (.int .i64 d.exp)).setCell ⟨w.heap.size, 4, none⟩ (.int .i64 0)).setCell ⟨w.heap.size, 5, none⟩ (.int .i64 0)) = w9 at R9 H9 O9 ⊢
      refine leaves_cons (f := 74) (args := #[.pointer (some ⟨w.heap.size, 0, none⟩)]) (by simp) (by simp [go_sem]) ?_
      refine (catch_idle w.heap.size w9).mono ?_
      rintro e u' w10 ⟨rfl, rfl, b5⟩
      have R10 := R9.below b5
      have H10 := H9.trans (b5.mono H9.size)
      have O10 := (O9.below b5).low (Nat.le_of_lt ltR)
      have z0 := R10.cell 0 (x := .int .i64 d.kind) rfl
      have z1 := R10.cell 1 (x := .bool d.neg) rfl
      have z2 := R10.cell 2 (x := .slice xa d.digits.length xc) rfl
      have z3 := R10.cell 3 (x := .int .i64 d.exp) rfl
      have z4 := R10.cell 4 (x := .int .i64 0) rfl
      have z5 := R10.cell 5 (x := .int .i64 0) rfl
      simp [Leaves, settle, results, Tryz.results58, go_sem, z0, z1, z2, z3, z4, z5]
      rw [HO.out]
      exact ⟨_, rfl, O10, H10⟩
    | inr k =>
      rw [hI] at hP HO
      obtain ⟨rfl, b2⟩ := hP
      have R2 := R1.below b2
      have B2 := b1.trans (b2.mono b1.size)
      clear hI R1 b2
      dsimp only
      refine leaves_cons (f := 74) (args := #[.pointer (some ⟨w.heap.size, 0, none⟩)]) (by simp) (by simp [go_sem]) ?_
      refine (catch_panicking w.heap.size k w2 _ _ _ _ _ _ R2).mono ?_
      rintro e u' w10 ⟨rfl, rfl, R10, b5⟩
      have H10 := B2.trans b5
      have z0 := R10.cell 0 (x := .int .i64 0) rfl
      have z1 := R10.cell 1 (x := .bool false) rfl
      have z2 := R10.cell 2 (x := .slice none 0 0) rfl
      have z3 := R10.cell 3 (x := .int .i64 0) rfl
      have z4 := R10.cell 4 (x := .int .i64 1) rfl
      have z5 := R10.cell 5 (x := .int .i64 (k : Int)) rfl
      simp [Leaves, settle, results, Tryz.results58, go_sem, z0, z1, z2, z3, z4, z5]
      rw [HO.out]
      exact ⟨.slice none 0 0, rfl, OwnV.nil _ _, H10⟩

end Go.Proofs.YtodgblbaclionaaGreatDoor

