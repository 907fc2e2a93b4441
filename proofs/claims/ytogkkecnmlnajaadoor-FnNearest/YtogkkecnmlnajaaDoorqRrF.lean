import Derived.Test.YtogkkecnmlnajaaDoorqRO
set_option maxHeartbeats 4000000
set_option maxRecDepth 100000
namespace Go.Proofs.YtogkkecnmlnajaaDoor
open Go.RowKit
set_option linter.unusedVariables false
set_option maxRecDepth 100000
theorem fld_desc (p a b c d : Int) (x : Bool) (w : World) : (Instr.field 56 (.agg #[.int .i64 p, .int .i64 a, .int .i64 b, .int .i64 c, .int .i64 d, .bool x]) 0).run Tryd.prog w = .ok (.int .i64 p) w := by kernel_rfl

theorem srr_no (f : Int) (hf : f < 0 ∨ 4 ≤ f) (ng : Bool) (ao bo : Option Addr) (n m c d : Nat) (xs ys : List Nat) (w : World) (hl : xs.length = n) (hm : ys.length = m) (hc : n ≤ c) (hd : m ≤ d) (hn : n ≤ 1048576) (hn2 : m ≤ 1048576) (hx : F64 xs) (hy : F64 ys) (hr : Rd w ao xs) (hr2 : Rd w bo ys) :
 Calls Tryd.prog 5 #[.int .i64 f, .bool ng, .slice ao n c, .slice bo m d] w fun e w' => e = .returned (.agg #[.int .u64 0, .int .u64 0, .int .i64 0, .bool false]) ∧ Below w.heap.size w w' := by
 have hfd := fld_desc
 have b0 : Below w.heap.size w (w.alloc (.cells #[.int .u64 0, .int .u64 0, .int .i64 0, .bool false] 30)) := (Below.refl _ _).alloc (Nat.le_refl _) _
 have hR : Cls (w.alloc (.cells #[.int .u64 0, .int .u64 0, .int .i64 0, .bool false] 30)) w.heap.size #[.int .u64 0, .int .u64 0, .int .i64 0, .bool false] 30 := Cls.new _ _ _
 generalize hV : (w.alloc (.cells #[.int .u64 0, .int .u64 0, .int .i64 0, .bool false] 30)) = v0 at *
 go_enter Tryd.func5, Tryd.ntmps5
 go_upto_region 1 with fail
 clear hV
 go_wp2_with fail
 refine (sdescribeNo f _ hf).mono ?_
 rintro e v1 ⟨rfl, hb1⟩
 replace b0 := b0.trans (hb1.mono b0.size)
 replace hR := hR.below hb1
 have r0 := hR.cell 0 rfl
 have s0 := hR.frozen 0
 have r1 := hR.cell 1 rfl
 have s1 := hR.frozen 1
 have r2 := hR.cell 2 rfl
 have s2 := hR.frozen 2
 have r3 := hR.cell 3 rfl
 have s3 := hR.frozen 3
 go_wp2_with fail
 have R5 := Cls.set (Cls.set (Cls.set (Cls.set (hR) 0 (.int .u64 0) _ rfl) 1 (.int .u64 0) _ rfl) 2 (.int .i64 0) _ rfl) 3 (.bool false) #[.int .u64 0, .int .u64 0, .int .i64 0, .bool false] rfl
 have B5 := ((((b0).setCell (p := ⟨w.heap.size, 0, none⟩) (Nat.le_refl _) (.int .u64 0)).setCell (p := ⟨w.heap.size, 1, none⟩) (Nat.le_refl _) (.int .u64 0)).setCell (p := ⟨w.heap.size, 2, none⟩) (Nat.le_refl _) (.int .i64 0)).setCell (p := ⟨w.heap.size, 3, none⟩) (Nat.le_refl _) (.bool false)
 generalize ((((v1.setCell ⟨w.heap.size, 0, none⟩ (.int .u64 0)).setCell ⟨w.heap.size, 1, none⟩ (.int .u64 0)).setCell ⟨w.heap.size, 2, none⟩ (.int .i64 0)).setCell ⟨w.heap.size, 3, none⟩ (.bool false)) = Yw at R5 B5 ⊢
 have q0 := R5.cell 0 rfl
 have q1 := R5.cell 1 rfl
 have q2 := R5.cell 2 rfl
 have q3 := R5.cell 3 rfl
 exact bodyPost_ret (v := .agg #[.int .u64 0, .int .u64 0, .int .i64 0, .bool false]) (by simp [results, Tryd.results5, go_sem, q0, q1, q2, q3]) rfl ⟨rfl, B5⟩

theorem srr_long1 (f : Nat) (hf : f < 4) (ng : Bool) (ao bo : Option Addr) (n m c d : Nat) (xs ys : List Nat) (w : World) (hl : xs.length = n) (hm : ys.length = m) (hc : n ≤ c) (hd : m ≤ d) (hn : n ≤ 1048576) (hn2 : m ≤ 1048576) (hx : F64 xs) (hy : F64 ys) (hr : Rd w ao xs) (hr2 : Rd w bo ys) (h1 : ¬ n ≤ 1200) :
 Calls Tryd.prog 5 #[.int .i64 (f : Int), .bool ng, .slice ao n c, .slice bo m d] w fun e w' => e = .returned (.agg #[.int .u64 0, .int .u64 0, .int .i64 0, .bool false]) ∧ Below w.heap.size w w' := by
 have kE := fun v : World => sdescribe_ok f hf v
 have h := M.fm_ok f
 have p1 := h.p1
 have hne : (((M.fm f).p : Int) == 0) = false := by simp; omega
 simp only [dv] at kE
 have kf := fun v : World => l1Fits_any ao n c v (by omega)
 rw [decide_eq_false h1] at kf
 have hfd := fld_desc
 have b0 : Below w.heap.size w (w.alloc (.cells #[.int .u64 0, .int .u64 0, .int .i64 0, .bool false] 30)) := (Below.refl _ _).alloc (Nat.le_refl _) _
 have hR : Cls (w.alloc (.cells #[.int .u64 0, .int .u64 0, .int .i64 0, .bool false] 30)) w.heap.size #[.int .u64 0, .int .u64 0, .int .i64 0, .bool false] 30 := Cls.new _ _ _
 generalize hV : (w.alloc (.cells #[.int .u64 0, .int .u64 0, .int .i64 0, .bool false] 30)) = v0 at *
 go_enter Tryd.func5, Tryd.ntmps5
 go_upto_region 1 with fail
 clear hV
 go_wp2_with fail
 refine (kE _).mono ?_
 rintro e v1 ⟨rfl, hb1⟩
 replace b0 := b0.trans (hb1.mono b0.size)
 replace hR := hR.below hb1
 clear hb1
 go_wp2_with fail
 refine (kf _).mono ?_
 rintro e v2 ⟨rfl, rfl⟩
 have r0 := hR.cell 0 rfl
 have s0 := hR.frozen 0
 have r1 := hR.cell 1 rfl
 have s1 := hR.frozen 1
 have r2 := hR.cell 2 rfl
 have s2 := hR.frozen 2
 have r3 := hR.cell 3 rfl
 have s3 := hR.frozen 3
 go_wp2_with fail
 have R5 := Cls.set (Cls.set (Cls.set (Cls.set (hR) 0 (.int .u64 0) _ rfl) 1 (.int .u64 0) _ rfl) 2 (.int .i64 0) _ rfl) 3 (.bool false) #[.int .u64 0, .int .u64 0, .int .i64 0, .bool false] rfl
 have B5 := ((((b0).setCell (p := ⟨w.heap.size, 0, none⟩) (Nat.le_refl _) (.int .u64 0)).setCell (p := ⟨w.heap.size, 1, none⟩) (Nat.le_refl _) (.int .u64 0)).setCell (p := ⟨w.heap.size, 2, none⟩) (Nat.le_refl _) (.int .i64 0)).setCell (p := ⟨w.heap.size, 3, none⟩) (Nat.le_refl _) (.bool false)
 generalize ((((v2.setCell ⟨w.heap.size, 0, none⟩ (.int .u64 0)).setCell ⟨w.heap.size, 1, none⟩ (.int .u64 0)).setCell ⟨w.heap.size, 2, none⟩ (.int .i64 0)).setCell ⟨w.heap.size, 3, none⟩ (.bool false)) = Yw at R5 B5 ⊢
 have q0 := R5.cell 0 rfl
 have q1 := R5.cell 1 rfl
 have q2 := R5.cell 2 rfl
 have q3 := R5.cell 3 rfl
 exact bodyPost_ret (v := .agg #[.int .u64 0, .int .u64 0, .int .i64 0, .bool false]) (by simp [results, Tryd.results5, go_sem, q0, q1, q2, q3]) rfl ⟨rfl, B5⟩

theorem srr_long2 (f : Nat) (hf : f < 4) (ng : Bool) (ao bo : Option Addr) (n m c d : Nat) (xs ys : List Nat) (w : World) (hl : xs.length = n) (hm : ys.length = m) (hc : n ≤ c) (hd : m ≤ d) (hn : n ≤ 1048576) (hn2 : m ≤ 1048576) (hx : F64 xs) (hy : F64 ys) (hr : Rd w ao xs) (hr2 : Rd w bo ys) (h1 : n ≤ 1200) (h2 : ¬ m ≤ 1200) :
 Calls Tryd.prog 5 #[.int .i64 (f : Int), .bool ng, .slice ao n c, .slice bo m d] w fun e w' => e = .returned (.agg #[.int .u64 0, .int .u64 0, .int .i64 0, .bool false]) ∧ Below w.heap.size w w' := by
 have kE := fun v : World => sdescribe_ok f hf v
 have h := M.fm_ok f
 have p1 := h.p1
 have hne : (((M.fm f).p : Int) == 0) = false := by simp; omega
 simp only [dv] at kE
 have kf := fun v : World => l1Fits_any ao n c v (by omega)
 have kg := fun v : World => l1Fits_any bo m d v (by omega)
 rw [decide_eq_true h1] at kf
 rw [decide_eq_false h2] at kg
 have hfd := fld_desc
 have b0 : Below w.heap.size w (w.alloc (.cells #[.int .u64 0, .int .u64 0, .int .i64 0, .bool false] 30)) := (Below.refl _ _).alloc (Nat.le_refl _) _
 have hR : Cls (w.alloc (.cells #[.int .u64 0, .int .u64 0, .int .i64 0, .bool false] 30)) w.heap.size #[.int .u64 0, .int .u64 0, .int .i64 0, .bool false] 30 := Cls.new _ _ _
 generalize hV : (w.alloc (.cells #[.int .u64 0, .int .u64 0, .int .i64 0, .bool false] 30)) = v0 at *
 go_enter Tryd.func5, Tryd.ntmps5
 go_upto_region 1 with fail
 clear hV
 go_wp2_with fail
 refine (kE _).mono ?_
 rintro e v1 ⟨rfl, hb1⟩
 replace b0 := b0.trans (hb1.mono b0.size)
 replace hR := hR.below hb1
 clear hb1
 go_wp2_with fail
 refine (kf _).mono ?_
 rintro e v2 ⟨rfl, rfl⟩
 go_wp2_with fail
 refine (kg _).mono ?_
 rintro e v3 ⟨rfl, rfl⟩
 have r0 := hR.cell 0 rfl
 have s0 := hR.frozen 0
 have r1 := hR.cell 1 rfl
 have s1 := hR.frozen 1
 have r2 := hR.cell 2 rfl
 have s2 := hR.frozen 2
 have r3 := hR.cell 3 rfl
 have s3 := hR.frozen 3
 go_wp2_with fail
 have R5 := Cls.set (Cls.set (Cls.set (Cls.set (hR) 0 (.int .u64 0) _ rfl) 1 (.int .u64 0) _ rfl) 2 (.int .i64 0) _ rfl) 3 (.bool false) #[.int .u64 0, .int .u64 0, .int .i64 0, .bool false] rfl
 have B5 := ((((b0).setCell (p := ⟨w.heap.size, 0, none⟩) (Nat.le_refl _) (.int .u64 0)).setCell (p := ⟨w.heap.size, 1, none⟩) (Nat.le_refl _) (.int .u64 0)).setCell (p := ⟨w.heap.size, 2, none⟩) (Nat.le_refl _) (.int .i64 0)).setCell (p := ⟨w.heap.size, 3, none⟩) (Nat.le_refl _) (.bool false)
 generalize ((((v3.setCell ⟨w.heap.size, 0, none⟩ (.int .u64 0)).setCell ⟨w.heap.size, 1, none⟩ (.int .u64 0)).setCell ⟨w.heap.size, 2, none⟩ (.int .i64 0)).setCell ⟨w.heap.size, 3, none⟩ (.bool false)) = Yw at R5 B5 ⊢
 have q0 := R5.cell 0 rfl
 have q1 := R5.cell 1 rfl
 have q2 := R5.cell 2 rfl
 have q3 := R5.cell 3 rfl
 exact bodyPost_ret (v := .agg #[.int .u64 0, .int .u64 0, .int .i64 0, .bool false]) (by simp [results, Tryd.results5, go_sem, q0, q1, q2, q3]) rfl ⟨rfl, B5⟩

theorem srr_den0 (f : Nat) (hf : f < 4) (ng : Bool) (ao bo : Option Addr) (n m c d : Nat) (xs ys : List Nat) (w : World) (hl : xs.length = n) (hm : ys.length = m) (hc : n ≤ c) (hd : m ≤ d) (hn : n ≤ 1048576) (hn2 : m ≤ 1048576) (hx : F64 xs) (hy : F64 ys) (hr : Rd w ao xs) (hr2 : Rd w bo ys) (h1 : n ≤ 1200) (h2 : m ≤ 1200) (h3 : V ys = 0) :
 Calls Tryd.prog 5 #[.int .i64 (f : Int), .bool ng, .slice ao n c, .slice bo m d] w fun e w' => e = .returned (.agg #[.int .u64 0, .int .u64 0, .int .i64 0, .bool false]) ∧ Below w.heap.size w w' := by
 have kE := fun v : World => sdescribe_ok f hf v
 have h := M.fm_ok f
 have p1 := h.p1
 have hne : (((M.fm f).p : Int) == 0) = false := by simp; omega
 simp only [dv] at kE
 have kf := fun v : World => l1Fits_any ao n c v (by omega)
 have kg := fun v : World => l1Fits_any bo m d v (by omega)
 rw [decide_eq_true h1] at kf
 rw [decide_eq_true h2] at kg
 have hz := D_zero_eq (V ys)
 rw [decide_eq_true h3] at hz
 have H3 := hid h3; clear h3
 have hfd := fld_desc
 have b0 : Below w.heap.size w (w.alloc (.cells #[.int .u64 0, .int .u64 0, .int .i64 0, .bool false] 30)) := (Below.refl _ _).alloc (Nat.le_refl _) _
 have hR : Cls (w.alloc (.cells #[.int .u64 0, .int .u64 0, .int .i64 0, .bool false] 30)) w.heap.size #[.int .u64 0, .int .u64 0, .int .i64 0, .bool false] 30 := Cls.new _ _ _
 generalize hV : (w.alloc (.cells #[.int .u64 0, .int .u64 0, .int .i64 0, .bool false] 30)) = v0 at *
 go_enter Tryd.func5, Tryd.ntmps5
 go_upto_region 1 with fail
 clear hV
 go_wp2_with fail
 refine (kE _).mono ?_
 rintro e v1 ⟨rfl, hb1⟩
 replace b0 := b0.trans (hb1.mono b0.size)
 replace hR := hR.below hb1
 clear hb1
 go_wp2_with fail
 refine (kf _).mono ?_
 rintro e v2 ⟨rfl, rfl⟩
 go_wp2_with fail
 refine (kg _).mono ?_
 rintro e v3 ⟨rfl, rfl⟩
 replace hr := hr.below b0
 replace hr2 := hr2.below b0
 go_wp2_with fail
 refine (l1In_any ao n c xs _ hl (by omega) hx hr).mono ?_
 rintro e v4 ⟨a1, c1, rfl, o1, hb4⟩
 replace hr2 := hr2.below hb4
 replace b0 := b0.trans (hb4.mono b0.size)
 replace hR := hR.below hb4
 clear hb4
 go_wp2_with fail
 refine (l1In_any bo m d ys _ hm (by omega) hy hr2).mono ?_
 rintro e v5 ⟨a2, c2, rfl, o2, hb5⟩
 replace o1 := own_below o1 hb5
 replace b0 := b0.trans (hb5.mono b0.size)
 replace hR := hR.below hb5
 clear hb5 hr hr2
 have r0 := hR.cell 0 rfl
 have s0 := hR.frozen 0
 have r1 := hR.cell 1 rfl
 have s1 := hR.frozen 1
 have r2 := hR.cell 2 rfl
 have s2 := hR.frozen 2
 have r3 := hR.cell 3 rfl
 have s3 := hR.frozen 3
 go_wp2_with fail
 have R5 := Cls.set (Cls.set (Cls.set (Cls.set (hR) 0 (.int .u64 0) _ rfl) 1 (.int .u64 0) _ rfl) 2 (.int .i64 0) _ rfl) 3 (.bool false) #[.int .u64 0, .int .u64 0, .int .i64 0, .bool false] rfl
 have B5 := ((((b0).setCell (p := ⟨w.heap.size, 0, none⟩) (Nat.le_refl _) (.int .u64 0)).setCell (p := ⟨w.heap.size, 1, none⟩) (Nat.le_refl _) (.int .u64 0)).setCell (p := ⟨w.heap.size, 2, none⟩) (Nat.le_refl _) (.int .i64 0)).setCell (p := ⟨w.heap.size, 3, none⟩) (Nat.le_refl _) (.bool false)
 generalize ((((v5.setCell ⟨w.heap.size, 0, none⟩ (.int .u64 0)).setCell ⟨w.heap.size, 1, none⟩ (.int .u64 0)).setCell ⟨w.heap.size, 2, none⟩ (.int .i64 0)).setCell ⟨w.heap.size, 3, none⟩ (.bool false)) = Yw at R5 B5 ⊢
 have q0 := R5.cell 0 rfl
 have q1 := R5.cell 1 rfl
 have q2 := R5.cell 2 rfl
 have q3 := R5.cell 3 rfl
 exact bodyPost_ret (v := .agg #[.int .u64 0, .int .u64 0, .int .i64 0, .bool false]) (by simp [results, Tryd.results5, go_sem, q0, q1, q2, q3]) rfl ⟨rfl, B5⟩

theorem srr_num0 (f : Nat) (hf : f < 4) (ng : Bool) (ao bo : Option Addr) (n m c d : Nat) (xs ys : List Nat) (w : World) (hl : xs.length = n) (hm : ys.length = m) (hc : n ≤ c) (hd : m ≤ d) (hn : n ≤ 1048576) (hn2 : m ≤ 1048576) (hx : F64 xs) (hy : F64 ys) (hr : Rd w ao xs) (hr2 : Rd w bo ys) (h1 : n ≤ 1200) (h2 : m ≤ 1200) (h3 : 0 < V ys) (h4 : V xs = 0) :
 Calls Tryd.prog 5 #[.int .i64 (f : Int), .bool ng, .slice ao n c, .slice bo m d] w fun e w' => e = .returned (.agg #[.int .u64 (M.hiN ((M.fm f).pk ⟨1, ng, 0, 0⟩) : Int), .int .u64 (M.loN ((M.fm f).pk ⟨1, ng, 0, 0⟩) : Int), .int .i64 0, .bool true]) ∧ Below w.heap.size w w' := by
 have kE := fun v : World => sdescribe_ok f hf v
 have h := M.fm_ok f
 have p1 := h.p1
 have hne : (((M.fm f).p : Int) == 0) = false := by simp; omega
 simp only [dv] at kE
 have kf := fun v : World => l1Fits_any ao n c v (by omega)
 have kg := fun v : World => l1Fits_any bo m d v (by omega)
 rw [decide_eq_true h1] at kf
 rw [decide_eq_true h2] at kg
 have hz := D_zero_eq (V ys)
 rw [decide_eq_false (show ¬ V ys = 0 by omega)] at hz
 have hz2 := D_zero_eq (V xs)
 rw [decide_eq_true h4] at hz2
 have H4 := hid h4; clear h4
 have kP := fun v : World => spack_any f hf 1 ng 0 (by omega) 0 (by omega) (by omega) v
 rw [show ansN (M.fm f) ⟨1, ng, 0, 0⟩ = (M.fm f).pk ⟨1, ng, 0, 0⟩ from if_pos (.inl ⟨rfl, rfl, rfl⟩)] at kP
 simp only [hi0, lo0] at kP
 generalize (M.fm f).pk ⟨1, ng, 0, 0⟩ = Y at *
 generalize decide ((M.fm f).Proper ⟨1, ng, 0, 0⟩) = ok at *
 have hfd := fld_desc
 have b0 : Below w.heap.size w (w.alloc (.cells #[.int .u64 0, .int .u64 0, .int .i64 0, .bool false] 30)) := (Below.refl _ _).alloc (Nat.le_refl _) _
 have hR : Cls (w.alloc (.cells #[.int .u64 0, .int .u64 0, .int .i64 0, .bool false] 30)) w.heap.size #[.int .u64 0, .int .u64 0, .int .i64 0, .bool false] 30 := Cls.new _ _ _
 generalize hV : (w.alloc (.cells #[.int .u64 0, .int .u64 0, .int .i64 0, .bool false] 30)) = v0 at *
 go_enter Tryd.func5, Tryd.ntmps5
 go_upto_region 1 with fail
 clear hV
 go_wp2_with fail
 refine (kE _).mono ?_
 rintro e v1 ⟨rfl, hb1⟩
 replace b0 := b0.trans (hb1.mono b0.size)
 replace hR := hR.below hb1
 clear hb1
 go_wp2_with fail
 refine (kf _).mono ?_
 rintro e v2 ⟨rfl, rfl⟩
 go_wp2_with fail
 refine (kg _).mono ?_
 rintro e v3 ⟨rfl, rfl⟩
 replace hr := hr.below b0
 replace hr2 := hr2.below b0
 go_wp2_with fail
 refine (l1In_any ao n c xs _ hl (by omega) hx hr).mono ?_
 rintro e v4 ⟨a1, c1, rfl, o1, hb4⟩
 replace hr2 := hr2.below hb4
 replace b0 := b0.trans (hb4.mono b0.size)
 replace hR := hR.below hb4
 clear hb4
 go_wp2_with fail
 refine (l1In_any bo m d ys _ hm (by omega) hy hr2).mono ?_
 rintro e v5 ⟨a2, c2, rfl, o2, hb5⟩
 replace o1 := own_below o1 hb5
 replace b0 := b0.trans (hb5.mono b0.size)
 replace hR := hR.below hb5
 clear hb5 hr hr2
 go_wp2_with fail
 refine (kP _).mono ?_
 rintro e v6 ⟨rfl, hb6⟩
 replace b0 := b0.trans (hb6.mono b0.size)
 replace hR := hR.below hb6
 clear hb6
 have lw := hR.lt
 go_upto_region 9 with fail
 have hW : Cls (v6.alloc (.cells #[.int .u64 (M.hiN Y : Int), .int .u64 (M.loN Y : Int)] 28)) v6.heap.size #[.int .u64 (M.hiN Y : Int), .int .u64 (M.loN Y : Int)] 28 := Cls.new _ _ _
 have bA : Below v6.heap.size v6 (v6.alloc (.cells #[.int .u64 (M.hiN Y : Int), .int .u64 (M.loN Y : Int)] 28)) := (Below.refl _ _).alloc (Nat.le_refl _) _
 replace b0 := b0.trans (bA.mono b0.size)
 replace hR := hR.below bA
 clear bA
 generalize (v6.alloc (.cells #[.int .u64 (M.hiN Y : Int), .int .u64 (M.loN Y : Int)] 28)) = v7 at *
 generalize v6.heap.size = gw at *
 have y0 := hW.cell 0 rfl
 have y1 := hW.cell 1 rfl
 have r0 := hR.cell 0 rfl
 have s0 := hR.frozen 0
 have r1 := hR.cell 1 rfl
 have s1 := hR.frozen 1
 have r2 := hR.cell 2 rfl
 have s2 := hR.frozen 2
 have r3 := hR.cell 3 rfl
 have s3 := hR.frozen 3
 go_wp2_with fail
 have R5 := Cls.set (Cls.set (Cls.set (Cls.set (hR) 0 (.int .u64 (M.hiN Y : Int)) _ rfl) 1 (.int .u64 (M.loN Y : Int)) _ rfl) 2 (.int .i64 0) _ rfl) 3 (.bool true) #[.int .u64 (M.hiN Y : Int), .int .u64 (M.loN Y : Int), .int .i64 0, .bool true] rfl
 have B5 := ((((b0).setCell (p := ⟨w.heap.size, 0, none⟩) (Nat.le_refl _) (.int .u64 (M.hiN Y : Int))).setCell (p := ⟨w.heap.size, 1, none⟩) (Nat.le_refl _) (.int .u64 (M.loN Y : Int))).setCell (p := ⟨w.heap.size, 2, none⟩) (Nat.le_refl _) (.int .i64 0)).setCell (p := ⟨w.heap.size, 3, none⟩) (Nat.le_refl _) (.bool true)
 generalize ((((v7.setCell ⟨w.heap.size, 0, none⟩ (.int .u64 (M.hiN Y : Int))).setCell ⟨w.heap.size, 1, none⟩ (.int .u64 (M.loN Y : Int))).setCell ⟨w.heap.size, 2, none⟩ (.int .i64 0)).setCell ⟨w.heap.size, 3, none⟩ (.bool true)) = Yw at R5 B5 ⊢
 have q0 := R5.cell 0 rfl
 have q1 := R5.cell 1 rfl
 have q2 := R5.cell 2 rfl
 have q3 := R5.cell 3 rfl
 exact bodyPost_ret (v := .agg #[.int .u64 (M.hiN Y : Int), .int .u64 (M.loN Y : Int), .int .i64 0, .bool true]) (by simp [results, Tryd.results5, go_sem, q0, q1, q2, q3]) rfl ⟨rfl, B5⟩

theorem srr_pos (f : Nat) (hf : f < 4) (ng : Bool) (ao bo : Option Addr) (n m c d : Nat) (xs ys : List Nat) (w : World) (hl : xs.length = n) (hm : ys.length = m) (hc : n ≤ c) (hd : m ≤ d) (hn : n ≤ 1048576) (hn2 : m ≤ 1048576) (hx : F64 xs) (hy : F64 ys) (hr : Rd w ao xs) (hr2 : Rd w bo ys) (h1 : n ≤ 1200) (h2 : m ≤ 1200) (h3 : 0 < V ys) (h4 : 0 < V xs) :
 Calls Tryd.prog 5 #[.int .i64 (f : Int), .bool ng, .slice ao n c, .slice bo m d] w fun e w' => e = .returned (.agg #[.int .u64 (M.hiN ((M.fm f).pk ((M.fm f).rPt ng (V xs) (V ys))) : Int), .int .u64 (M.loN ((M.fm f).pk ((M.fm f).rPt ng (V xs) (V ys))) : Int), .int .i64 ((M.fm f).rFl (V xs) (V ys) 2 1), .bool true]) ∧ Below w.heap.size w w' := by
 have kE := fun v : World => sdescribe_ok f hf v
 have h := M.fm_ok f
 have p1 := h.p1
 have hne : (((M.fm f).p : Int) == 0) = false := by simp; omega
 simp only [dv] at kE
 have kf := fun v : World => l1Fits_any ao n c v (by omega)
 have kg := fun v : World => l1Fits_any bo m d v (by omega)
 rw [decide_eq_true h1] at kf
 rw [decide_eq_true h2] at kg
 have hz := D_zero_eq (V ys)
 rw [decide_eq_false (show ¬ V ys = 0 by omega)] at hz
 have hz2 := D_zero_eq (V xs)
 rw [decide_eq_false (show ¬ V xs = 0 by omega)] at hz2
 have ld1 := D_len xs hx
 have ld2 := D_len ys hy
 have kR := fun (v : World) (a b : Option Addr) (c d : Nat) (hc : (D (V xs)).length ≤ c) (ra : Rd v a (D (V xs))) (rb : Rd v b (D (V ys))) => sround_pos f hf ng a b c d (V xs) (V ys) v h4 h3 (by omega) (by omega) hc ra rb
 generalize (M.fm f).pk ((M.fm f).rPt ng (V xs) (V ys)) = Y at *
 generalize (M.fm f).rFl (V xs) (V ys) 2 1 = FL at *
 have hfd := fld_desc
 have b0 : Below w.heap.size w (w.alloc (.cells #[.int .u64 0, .int .u64 0, .int .i64 0, .bool false] 30)) := (Below.refl _ _).alloc (Nat.le_refl _) _
 have hR : Cls (w.alloc (.cells #[.int .u64 0, .int .u64 0, .int .i64 0, .bool false] 30)) w.heap.size #[.int .u64 0, .int .u64 0, .int .i64 0, .bool false] 30 := Cls.new _ _ _
 generalize hV : (w.alloc (.cells #[.int .u64 0, .int .u64 0, .int .i64 0, .bool false] 30)) = v0 at *
 go_enter Tryd.func5, Tryd.ntmps5
 go_upto_region 1 with fail
 clear hV
 go_wp2_with fail
 refine (kE _).mono ?_
 rintro e v1 ⟨rfl, hb1⟩
 replace b0 := b0.trans (hb1.mono b0.size)
 replace hR := hR.below hb1
 clear hb1
 go_wp2_with fail
 refine (kf _).mono ?_
 rintro e v2 ⟨rfl, rfl⟩
 go_wp2_with fail
 refine (kg _).mono ?_
 rintro e v3 ⟨rfl, rfl⟩
 replace hr := hr.below b0
 replace hr2 := hr2.below b0
 go_wp2_with fail
 refine (l1In_any ao n c xs _ hl (by omega) hx hr).mono ?_
 rintro e v4 ⟨a1, c1, rfl, o1, hb4⟩
 replace hr2 := hr2.below hb4
 replace b0 := b0.trans (hb4.mono b0.size)
 replace hR := hR.below hb4
 clear hb4
 go_wp2_with fail
 refine (l1In_any bo m d ys _ hm (by omega) hy hr2).mono ?_
 rintro e v5 ⟨a2, c2, rfl, o2, hb5⟩
 replace o1 := own_below o1 hb5
 replace b0 := b0.trans (hb5.mono b0.size)
 replace hR := hR.below hb5
 clear hb5 hr hr2
 go_wp2_with fail
 refine (kR _ _ _ _ _ (own_cap o1) (Rd.own o1) (Rd.own o2)).mono ?_
 rintro e v6 ⟨rfl, hb6⟩
 replace b0 := b0.trans (hb6.mono b0.size)
 replace hR := hR.below hb6
 have r0 := hR.cell 0 rfl
 have s0 := hR.frozen 0
 have r1 := hR.cell 1 rfl
 have s1 := hR.frozen 1
 have r2 := hR.cell 2 rfl
 have s2 := hR.frozen 2
 have r3 := hR.cell 3 rfl
 have s3 := hR.frozen 3
 go_wp2_with fail
 have R5 := Cls.set (Cls.set (Cls.set (Cls.set (hR) 0 (.int .u64 (M.hiN Y : Int)) _ rfl) 1 (.int .u64 (M.loN Y : Int)) _ rfl) 2 (.int .i64 FL) _ rfl) 3 (.bool true) #[.int .u64 (M.hiN Y : Int), .int .u64 (M.loN Y : Int), .int .i64 FL, .bool true] rfl
 have B5 := ((((b0).setCell (p := ⟨w.heap.size, 0, none⟩) (Nat.le_refl _) (.int .u64 (M.hiN Y : Int))).setCell (p := ⟨w.heap.size, 1, none⟩) (Nat.le_refl _) (.int .u64 (M.loN Y : Int))).setCell (p := ⟨w.heap.size, 2, none⟩) (Nat.le_refl _) (.int .i64 FL)).setCell (p := ⟨w.heap.size, 3, none⟩) (Nat.le_refl _) (.bool true)
 generalize ((((v6.setCell ⟨w.heap.size, 0, none⟩ (.int .u64 (M.hiN Y : Int))).setCell ⟨w.heap.size, 1, none⟩ (.int .u64 (M.loN Y : Int))).setCell ⟨w.heap.size, 2, none⟩ (.int .i64 FL)).setCell ⟨w.heap.size, 3, none⟩ (.bool true)) = Yw at R5 B5 ⊢
 have q0 := R5.cell 0 rfl
 have q1 := R5.cell 1 rfl
 have q2 := R5.cell 2 rfl
 have q3 := R5.cell 3 rfl
 exact bodyPost_ret (v := .agg #[.int .u64 (M.hiN Y : Int), .int .u64 (M.loN Y : Int), .int .i64 FL, .bool true]) (by simp [results, Tryd.results5, go_sem, q0, q1, q2, q3]) rfl ⟨rfl, B5⟩

theorem irr_no (f : Int) (hf : f < 0 ∨ 4 ≤ f) (ng : Bool) (ao bo : Option Addr) (n m c d : Nat) (xs ys : List Nat) (w : World) (hl : xs.length = n) (hm : ys.length = m) (hc : n ≤ c) (hd : m ≤ d) (hn : n ≤ 1048576) (hn2 : m ≤ 1048576) (hx : F64 xs) (hy : F64 ys) (hr : Rd w ao xs) (hr2 : Rd w bo ys) :
 Calls Tryd.prog 6 #[.int .i64 f, .bool ng, .slice ao n c, .slice bo m d] w fun e w' => e = .returned (.agg #[.int .u64 0, .int .u64 0, .int .i64 0, .bool false]) ∧ Below w.heap.size w w' := by
 have kt := fun (v : World) (hr : Rd v bo ys) => trim_any bo m d ys v hm hd (by omega) hy hr
 have kK := fun v : World => dKnown0 v
 have b0 : Below w.heap.size w (w.alloc (.cells #[.int .u64 0, .int .u64 0, .int .i64 0, .bool false] 30)) := (Below.refl _ _).alloc (Nat.le_refl _) _
 have hR : Cls (w.alloc (.cells #[.int .u64 0, .int .u64 0, .int .i64 0, .bool false] 30)) w.heap.size #[.int .u64 0, .int .u64 0, .int .i64 0, .bool false] 30 := Cls.new _ _ _
 generalize hV : (w.alloc (.cells #[.int .u64 0, .int .u64 0, .int .i64 0, .bool false] 30)) = v0 at *
 go_enter Tryd.func6, Tryd.ntmps6
 go_upto_region 1 with fail
 clear hV
 go_wp2_with fail
 refine (describeNo f _ hf).mono ?_
 rintro e v1 ⟨rfl, hb1⟩
 replace b0 := b0.trans (hb1.mono b0.size)
 replace hR := hR.below hb1
 clear hb1
 have lw := hR.lt
 go_upto_region 2 with fail
 have hD : Cls (v1.alloc (.cells #[.int .i64 0, .int .i64 0, .int .i64 0, .int .i64 0, .int .i64 0, .bool false] 56)) v1.heap.size #[.int .i64 0, .int .i64 0, .int .i64 0, .int .i64 0, .int .i64 0, .bool false] 56 := Cls.new _ _ _
 have bA : Below v1.heap.size v1 (v1.alloc (.cells #[.int .i64 0, .int .i64 0, .int .i64 0, .int .i64 0, .int .i64 0, .bool false] 56)) := (Below.refl _ _).alloc (Nat.le_refl _) _
 replace b0 := b0.trans (bA.mono b0.size)
 replace hR := hR.below bA
 clear bA
 generalize (v1.alloc (.cells #[.int .i64 0, .int .i64 0, .int .i64 0, .int .i64 0, .int .i64 0, .bool false] 56)) = v2 at *
 generalize v1.heap.size = gd at *
 replace hr := hr.below b0
 replace hr2 := hr2.below b0
 go_wp2_with fail
 refine (kt _ hr2).mono ?_
 rintro e v3 ⟨rfl, rfl⟩
 have d0 := hD.cell 0 rfl
 have d1 := hD.cell 1 rfl
 have d2 := hD.cell 2 rfl
 have d3 := hD.cell 3 rfl
 have d4 := hD.cell 4 rfl
 have d5 := hD.cell 5 rfl
 go_wp2_with fail
 refine (kK _).mono ?_
 rintro e v4 ⟨rfl, hb4⟩
 replace hr := hr.below hb4
 replace hr2 := hr2.below hb4
 replace hD := hD.below hb4
 replace b0 := b0.trans (hb4.mono b0.size)
 replace hR := hR.below hb4
 clear hb4 d0 d1 d2 d3 d4 d5
 have r0 := hR.cell 0 rfl
 have s0 := hR.frozen 0
 have r1 := hR.cell 1 rfl
 have s1 := hR.frozen 1
 have r2 := hR.cell 2 rfl
 have s2 := hR.frozen 2
 have r3 := hR.cell 3 rfl
 have s3 := hR.frozen 3
 go_wp2_with fail
 have R5 := Cls.set (Cls.set (Cls.set (Cls.set (hR) 0 (.int .u64 0) _ rfl) 1 (.int .u64 0) _ rfl) 2 (.int .i64 0) _ rfl) 3 (.bool false) #[.int .u64 0, .int .u64 0, .int .i64 0, .bool false] rfl
 have B5 := ((((b0).setCell (p := ⟨w.heap.size, 0, none⟩) (Nat.le_refl _) (.int .u64 0)).setCell (p := ⟨w.heap.size, 1, none⟩) (Nat.le_refl _) (.int .u64 0)).setCell (p := ⟨w.heap.size, 2, none⟩) (Nat.le_refl _) (.int .i64 0)).setCell (p := ⟨w.heap.size, 3, none⟩) (Nat.le_refl _) (.bool false)
 generalize ((((v4.setCell ⟨w.heap.size, 0, none⟩ (.int .u64 0)).setCell ⟨w.heap.size, 1, none⟩ (.int .u64 0)).setCell ⟨w.heap.size, 2, none⟩ (.int .i64 0)).setCell ⟨w.heap.size, 3, none⟩ (.bool false)) = Yw at R5 B5 ⊢
 have q0 := R5.cell 0 rfl
 have q1 := R5.cell 1 rfl
 have q2 := R5.cell 2 rfl
 have q3 := R5.cell 3 rfl
 exact bodyPost_ret (v := .agg #[.int .u64 0, .int .u64 0, .int .i64 0, .bool false]) (by simp [results, Tryd.results6, go_sem, q0, q1, q2, q3]) rfl ⟨rfl, B5⟩

theorem irr_long (f : Nat) (hf : f < 4) (ng : Bool) (ao bo : Option Addr) (n m c d : Nat) (xs ys : List Nat) (w : World) (hl : xs.length = n) (hm : ys.length = m) (hc : n ≤ c) (hd : m ≤ d) (hn : n ≤ 1048576) (hn2 : m ≤ 1048576) (hx : F64 xs) (hy : F64 ys) (hr : Rd w ao xs) (hr2 : Rd w bo ys) (hF : Fmt w) (h1 : ¬ (n ≤ 1200 ∧ m ≤ 1200)) :
 Calls Tryd.prog 6 #[.int .i64 (f : Int), .bool ng, .slice ao n c, .slice bo m d] w fun e w' => e = .returned (.agg #[.int .u64 0, .int .u64 0, .int .i64 0, .bool false]) ∧ Below w.heap.size w w' := by
 have kt := fun (v : World) (hr : Rd v bo ys) => trim_any bo m d ys v hm hd (by omega) hy hr
 have kE := fun (v : World) (hv : Fmt v) => describe_ok f hf v hv
 have h := M.fm_ok f
 generalize M.fm f = F at *
 have kK := fun v : World => dKnown F h v
 simp only [dv] at kE kK
 have hall : Hid (false = [n, m].all (fun x => decide (x ≤ 1200))) := by
  show false = [n, m].all (fun x => decide (x ≤ 1200))
  simp only [List.all_cons, List.all_nil, Bool.and_true]; symm; rw [Bool.and_eq_false_iff]; simp only [decide_eq_false_iff_not]; omega
 have b0 : Below w.heap.size w (w.alloc (.cells #[.int .u64 0, .int .u64 0, .int .i64 0, .bool false] 30)) := (Below.refl _ _).alloc (Nat.le_refl _) _
 have hR : Cls (w.alloc (.cells #[.int .u64 0, .int .u64 0, .int .i64 0, .bool false] 30)) w.heap.size #[.int .u64 0, .int .u64 0, .int .i64 0, .bool false] 30 := Cls.new _ _ _
 generalize hV : (w.alloc (.cells #[.int .u64 0, .int .u64 0, .int .i64 0, .bool false] 30)) = v0 at *
 go_enter Tryd.func6, Tryd.ntmps6
 go_upto_region 1 with fail
 clear hV
 go_wp2_with fail
 refine (kE _ (hF.below b0)).mono ?_
 rintro e v1 ⟨rfl, hb1⟩
 replace b0 := b0.trans (hb1.mono b0.size)
 replace hR := hR.below hb1
 clear hb1
 have lw := hR.lt
 go_upto_region 2 with fail
 have hD : Cls (v1.alloc (.cells #[.int .i64 (F.p : Int), .int .i64 (1 - (F.emax : Int)), .int .i64 (F.emax : Int), .int .i64 (F.wd : Int), .int .i64 (F.e : Int), .bool F.x] 56)) v1.heap.size #[.int .i64 (F.p : Int), .int .i64 (1 - (F.emax : Int)), .int .i64 (F.emax : Int), .int .i64 (F.wd : Int), .int .i64 (F.e : Int), .bool F.x] 56 := Cls.new _ _ _
 have bA : Below v1.heap.size v1 (v1.alloc (.cells #[.int .i64 (F.p : Int), .int .i64 (1 - (F.emax : Int)), .int .i64 (F.emax : Int), .int .i64 (F.wd : Int), .int .i64 (F.e : Int), .bool F.x] 56)) := (Below.refl _ _).alloc (Nat.le_refl _) _
 replace b0 := b0.trans (bA.mono b0.size)
 replace hR := hR.below bA
 clear bA
 generalize (v1.alloc (.cells #[.int .i64 (F.p : Int), .int .i64 (1 - (F.emax : Int)), .int .i64 (F.emax : Int), .int .i64 (F.wd : Int), .int .i64 (F.e : Int), .bool F.x] 56)) = v2 at *
 generalize v1.heap.size = gd at *
 replace hr := hr.below b0
 replace hr2 := hr2.below b0
 go_wp2_with fail
 refine (kt _ hr2).mono ?_
 rintro e v3 ⟨rfl, rfl⟩
 have d0 := hD.cell 0 rfl
 have d1 := hD.cell 1 rfl
 have d2 := hD.cell 2 rfl
 have d3 := hD.cell 3 rfl
 have d4 := hD.cell 4 rfl
 have d5 := hD.cell 5 rfl
 go_wp2_with fail
 refine (kK _).mono ?_
 rintro e v4 ⟨rfl, hb4⟩
 replace hr := hr.below hb4
 replace hr2 := hr2.below hb4
 replace hD := hD.below hb4
 replace b0 := b0.trans (hb4.mono b0.size)
 replace hR := hR.below hb4
 clear hb4 d0 d1 d2 d3 d4 d5
 go_wp2_with fail
 refine (short_any _ 2 [n, m] false _ rfl (by omega) (by simp; omega) hall.out (two_cells _ _ _ _ _ _ _ _)).mono ?_
 rintro e v5 ⟨rfl, hv5⟩
 have hb5 : Below v4.heap.size v4 v5 := by rw [hv5]; exact (Below.refl _ _).alloc (Nat.le_refl _) _
 clear hv5
 replace hr := hr.below hb5
 replace hr2 := hr2.below hb5
 replace hD := hD.below hb5
 replace b0 := b0.trans (hb5.mono b0.size)
 replace hR := hR.below hb5
 clear hb5
 have r0 := hR.cell 0 rfl
 have s0 := hR.frozen 0
 have r1 := hR.cell 1 rfl
 have s1 := hR.frozen 1
 have r2 := hR.cell 2 rfl
 have s2 := hR.frozen 2
 have r3 := hR.cell 3 rfl
 have s3 := hR.frozen 3
 go_wp2_with fail
 have R5 := Cls.set (Cls.set (Cls.set (Cls.set (hR) 0 (.int .u64 0) _ rfl) 1 (.int .u64 0) _ rfl) 2 (.int .i64 0) _ rfl) 3 (.bool false) #[.int .u64 0, .int .u64 0, .int .i64 0, .bool false] rfl
 have B5 := ((((b0).setCell (p := ⟨w.heap.size, 0, none⟩) (Nat.le_refl _) (.int .u64 0)).setCell (p := ⟨w.heap.size, 1, none⟩) (Nat.le_refl _) (.int .u64 0)).setCell (p := ⟨w.heap.size, 2, none⟩) (Nat.le_refl _) (.int .i64 0)).setCell (p := ⟨w.heap.size, 3, none⟩) (Nat.le_refl _) (.bool false)
 generalize ((((v5.setCell ⟨w.heap.size, 0, none⟩ (.int .u64 0)).setCell ⟨w.heap.size, 1, none⟩ (.int .u64 0)).setCell ⟨w.heap.size, 2, none⟩ (.int .i64 0)).setCell ⟨w.heap.size, 3, none⟩ (.bool false)) = Yw at R5 B5 ⊢
 have q0 := R5.cell 0 rfl
 have q1 := R5.cell 1 rfl
 have q2 := R5.cell 2 rfl
 have q3 := R5.cell 3 rfl
 exact bodyPost_ret (v := .agg #[.int .u64 0, .int .u64 0, .int .i64 0, .bool false]) (by simp [results, Tryd.results6, go_sem, q0, q1, q2, q3]) rfl ⟨rfl, B5⟩

theorem irr_den0 (f : Nat) (hf : f < 4) (ng : Bool) (ao bo : Option Addr) (n m c d : Nat) (xs ys : List Nat) (w : World) (hl : xs.length = n) (hm : ys.length = m) (hc : n ≤ c) (hd : m ≤ d) (hn : n ≤ 1048576) (hn2 : m ≤ 1048576) (hx : F64 xs) (hy : F64 ys) (hr : Rd w ao xs) (hr2 : Rd w bo ys) (hF : Fmt w) (h1 : n ≤ 1200) (h2 : m ≤ 1200) (h3 : V ys = 0) :
 Calls Tryd.prog 6 #[.int .i64 (f : Int), .bool ng, .slice ao n c, .slice bo m d] w fun e w' => e = .returned (.agg #[.int .u64 0, .int .u64 0, .int .i64 0, .bool false]) ∧ Below w.heap.size w w' := by
 have kt := fun (v : World) (hr : Rd v bo ys) => trim_any bo m d ys v hm hd (by omega) hy hr
 have kE := fun (v : World) (hv : Fmt v) => describe_ok f hf v hv
 have h := M.fm_ok f
 generalize M.fm f = F at *
 have kK := fun v : World => dKnown F h v
 simp only [dv] at kE kK
 have hz := L_zero_iff (V ys)
 rw [decide_eq_true h3] at hz
 have H3 := hid h3; clear h3
 have hall : Hid (true = [n, m].all (fun x => decide (x ≤ 1200))) := by
  show true = [n, m].all (fun x => decide (x ≤ 1200))
  simp [h1, h2]
 have b0 : Below w.heap.size w (w.alloc (.cells #[.int .u64 0, .int .u64 0, .int .i64 0, .bool false] 30)) := (Below.refl _ _).alloc (Nat.le_refl _) _
 have hR : Cls (w.alloc (.cells #[.int .u64 0, .int .u64 0, .int .i64 0, .bool false] 30)) w.heap.size #[.int .u64 0, .int .u64 0, .int .i64 0, .bool false] 30 := Cls.new _ _ _
 generalize hV : (w.alloc (.cells #[.int .u64 0, .int .u64 0, .int .i64 0, .bool false] 30)) = v0 at *
 go_enter Tryd.func6, Tryd.ntmps6
 go_upto_region 1 with fail
 clear hV
 go_wp2_with fail
 refine (kE _ (hF.below b0)).mono ?_
 rintro e v1 ⟨rfl, hb1⟩
 replace b0 := b0.trans (hb1.mono b0.size)
 replace hR := hR.below hb1
 clear hb1
 have lw := hR.lt
 go_upto_region 2 with fail
 have hD : Cls (v1.alloc (.cells #[.int .i64 (F.p : Int), .int .i64 (1 - (F.emax : Int)), .int .i64 (F.emax : Int), .int .i64 (F.wd : Int), .int .i64 (F.e : Int), .bool F.x] 56)) v1.heap.size #[.int .i64 (F.p : Int), .int .i64 (1 - (F.emax : Int)), .int .i64 (F.emax : Int), .int .i64 (F.wd : Int), .int .i64 (F.e : Int), .bool F.x] 56 := Cls.new _ _ _
 have bA : Below v1.heap.size v1 (v1.alloc (.cells #[.int .i64 (F.p : Int), .int .i64 (1 - (F.emax : Int)), .int .i64 (F.emax : Int), .int .i64 (F.wd : Int), .int .i64 (F.e : Int), .bool F.x] 56)) := (Below.refl _ _).alloc (Nat.le_refl _) _
 replace b0 := b0.trans (bA.mono b0.size)
 replace hR := hR.below bA
 clear bA
 generalize (v1.alloc (.cells #[.int .i64 (F.p : Int), .int .i64 (1 - (F.emax : Int)), .int .i64 (F.emax : Int), .int .i64 (F.wd : Int), .int .i64 (F.e : Int), .bool F.x] 56)) = v2 at *
 generalize v1.heap.size = gd at *
 replace hr := hr.below b0
 replace hr2 := hr2.below b0
 go_wp2_with fail
 refine (kt _ hr2).mono ?_
 rintro e v3 ⟨rfl, rfl⟩
 have d0 := hD.cell 0 rfl
 have d1 := hD.cell 1 rfl
 have d2 := hD.cell 2 rfl
 have d3 := hD.cell 3 rfl
 have d4 := hD.cell 4 rfl
 have d5 := hD.cell 5 rfl
 go_wp2_with fail
 refine (kK _).mono ?_
 rintro e v4 ⟨rfl, hb4⟩
 replace hr := hr.below hb4
 replace hr2 := hr2.below hb4
 replace hD := hD.below hb4
 replace b0 := b0.trans (hb4.mono b0.size)
 replace hR := hR.below hb4
 clear hb4 d0 d1 d2 d3 d4 d5
 go_wp2_with fail
 refine (short_any _ 2 [n, m] true _ rfl (by omega) (by simp; omega) hall.out (two_cells _ _ _ _ _ _ _ _)).mono ?_
 rintro e v5 ⟨rfl, hv5⟩
 have hb5 : Below v4.heap.size v4 v5 := by rw [hv5]; exact (Below.refl _ _).alloc (Nat.le_refl _) _
 clear hv5
 replace hr := hr.below hb5
 replace hr2 := hr2.below hb5
 replace hD := hD.below hb5
 replace b0 := b0.trans (hb5.mono b0.size)
 replace hR := hR.below hb5
 clear hb5
 have r0 := hR.cell 0 rfl
 have s0 := hR.frozen 0
 have r1 := hR.cell 1 rfl
 have s1 := hR.frozen 1
 have r2 := hR.cell 2 rfl
 have s2 := hR.frozen 2
 have r3 := hR.cell 3 rfl
 have s3 := hR.frozen 3
 go_wp2_with fail
 have R5 := Cls.set (Cls.set (Cls.set (Cls.set (hR) 0 (.int .u64 0) _ rfl) 1 (.int .u64 0) _ rfl) 2 (.int .i64 0) _ rfl) 3 (.bool false) #[.int .u64 0, .int .u64 0, .int .i64 0, .bool false] rfl
 have B5 := ((((b0).setCell (p := ⟨w.heap.size, 0, none⟩) (Nat.le_refl _) (.int .u64 0)).setCell (p := ⟨w.heap.size, 1, none⟩) (Nat.le_refl _) (.int .u64 0)).setCell (p := ⟨w.heap.size, 2, none⟩) (Nat.le_refl _) (.int .i64 0)).setCell (p := ⟨w.heap.size, 3, none⟩) (Nat.le_refl _) (.bool false)
 generalize ((((v5.setCell ⟨w.heap.size, 0, none⟩ (.int .u64 0)).setCell ⟨w.heap.size, 1, none⟩ (.int .u64 0)).setCell ⟨w.heap.size, 2, none⟩ (.int .i64 0)).setCell ⟨w.heap.size, 3, none⟩ (.bool false)) = Yw at R5 B5 ⊢
 have q0 := R5.cell 0 rfl
 have q1 := R5.cell 1 rfl
 have q2 := R5.cell 2 rfl
 have q3 := R5.cell 3 rfl
 exact bodyPost_ret (v := .agg #[.int .u64 0, .int .u64 0, .int .i64 0, .bool false]) (by simp [results, Tryd.results6, go_sem, q0, q1, q2, q3]) rfl ⟨rfl, B5⟩

theorem irr_pos (f : Nat) (hf : f < 4) (ng : Bool) (ao bo : Option Addr) (n m c d : Nat) (xs ys : List Nat) (w : World) (hl : xs.length = n) (hm : ys.length = m) (hc : n ≤ c) (hd : m ≤ d) (hn : n ≤ 1048576) (hn2 : m ≤ 1048576) (hx : F64 xs) (hy : F64 ys) (hr : Rd w ao xs) (hr2 : Rd w bo ys) (hF : Fmt w) (h1 : n ≤ 1200) (h2 : m ≤ 1200) (h3 : 0 < V ys) :
 Calls Tryd.prog 6 #[.int .i64 (f : Int), .bool ng, .slice ao n c, .slice bo m d] w fun e w' => e = .returned (.agg #[.int .u64 (M.hiN (rY (M.fm f) ng (V xs) (V ys)) : Int), .int .u64 (M.loN (rY (M.fm f) ng (V xs) (V ys)) : Int), .int .i64 (rF (M.fm f) (V xs) (V ys)), .bool true]) ∧ Below w.heap.size w w' := by
 have kt := fun (v : World) (hr : Rd v bo ys) => trim_any bo m d ys v hm hd (by omega) hy hr
 have kt2 := fun (v : World) (hr : Rd v ao xs) => trim_any ao n c xs v hl hc (by omega) hx hr
 have ll1 := L_len xs hx
 have ll2 := L_len ys hy
 have kE := fun (v : World) (hv : Fmt v) => describe_ok f hf v hv
 have h := M.fm_ok f
 generalize M.fm f = F at *
 have kK := fun v : World => dKnown F h v
 have kR := fun (v : World) (ra : Rd v ao (L (V xs))) (rb : Rd v bo (L (V ys))) => iround_any F h ng ao bo c d (V xs) (V ys) v h3 (by omega) (by omega) ra rb
 simp only [dv, rv] at kE kK kR
 generalize rY F ng (V xs) (V ys) = Y at *
 generalize rF F (V xs) (V ys) = FL at *
 have hz := L_zero_iff (V ys)
 rw [decide_eq_false (show ¬ V ys = 0 by omega)] at hz
 have hall : Hid (true = [n, m].all (fun x => decide (x ≤ 1200))) := by
  show true = [n, m].all (fun x => decide (x ≤ 1200))
  simp [h1, h2]
 have b0 : Below w.heap.size w (w.alloc (.cells #[.int .u64 0, .int .u64 0, .int .i64 0, .bool false] 30)) := (Below.refl _ _).alloc (Nat.le_refl _) _
 have hR : Cls (w.alloc (.cells #[.int .u64 0, .int .u64 0, .int .i64 0, .bool false] 30)) w.heap.size #[.int .u64 0, .int .u64 0, .int .i64 0, .bool false] 30 := Cls.new _ _ _
 generalize hV : (w.alloc (.cells #[.int .u64 0, .int .u64 0, .int .i64 0, .bool false] 30)) = v0 at *
 go_enter Tryd.func6, Tryd.ntmps6
 go_upto_region 1 with fail
 clear hV
 go_wp2_with fail
 refine (kE _ (hF.below b0)).mono ?_
 rintro e v1 ⟨rfl, hb1⟩
 replace b0 := b0.trans (hb1.mono b0.size)
 replace hR := hR.below hb1
 clear hb1
 have lw := hR.lt
 go_upto_region 2 with fail
 have hD : Cls (v1.alloc (.cells #[.int .i64 (F.p : Int), .int .i64 (1 - (F.emax : Int)), .int .i64 (F.emax : Int), .int .i64 (F.wd : Int), .int .i64 (F.e : Int), .bool F.x] 56)) v1.heap.size #[.int .i64 (F.p : Int), .int .i64 (1 - (F.emax : Int)), .int .i64 (F.emax : Int), .int .i64 (F.wd : Int), .int .i64 (F.e : Int), .bool F.x] 56 := Cls.new _ _ _
 have bA : Below v1.heap.size v1 (v1.alloc (.cells #[.int .i64 (F.p : Int), .int .i64 (1 - (F.emax : Int)), .int .i64 (F.emax : Int), .int .i64 (F.wd : Int), .int .i64 (F.e : Int), .bool F.x] 56)) := (Below.refl _ _).alloc (Nat.le_refl _) _
 replace b0 := b0.trans (bA.mono b0.size)
 replace hR := hR.below bA
 clear bA
 generalize (v1.alloc (.cells #[.int .i64 (F.p : Int), .int .i64 (1 - (F.emax : Int)), .int .i64 (F.emax : Int), .int .i64 (F.wd : Int), .int .i64 (F.e : Int), .bool F.x] 56)) = v2 at *
 generalize v1.heap.size = gd at *
 replace hr := hr.below b0
 replace hr2 := hr2.below b0
 go_wp2_with fail
 refine (kt _ hr2).mono ?_
 rintro e v3 ⟨rfl, rfl⟩
 have d0 := hD.cell 0 rfl
 have d1 := hD.cell 1 rfl
 have d2 := hD.cell 2 rfl
 have d3 := hD.cell 3 rfl
 have d4 := hD.cell 4 rfl
 have d5 := hD.cell 5 rfl
 go_wp2_with fail
 refine (kK _).mono ?_
 rintro e v4 ⟨rfl, hb4⟩
 replace hr := hr.below hb4
 replace hr2 := hr2.below hb4
 replace hD := hD.below hb4
 replace b0 := b0.trans (hb4.mono b0.size)
 replace hR := hR.below hb4
 clear hb4 d0 d1 d2 d3 d4 d5
 go_wp2_with fail
 refine (short_any _ 2 [n, m] true _ rfl (by omega) (by simp; omega) hall.out (two_cells _ _ _ _ _ _ _ _)).mono ?_
 rintro e v5 ⟨rfl, hv5⟩
 have hb5 : Below v4.heap.size v4 v5 := by rw [hv5]; exact (Below.refl _ _).alloc (Nat.le_refl _) _
 clear hv5
 replace hr := hr.below hb5
 replace hr2 := hr2.below hb5
 replace hD := hD.below hb5
 replace b0 := b0.trans (hb5.mono b0.size)
 replace hR := hR.below hb5
 clear hb5
 go_upto_region 5 with fail
 have A0 : Below v5.heap.size v5 v5.drew := (Below.refl _ _).drew
 have KB : ∀ v, Below v5.heap.size v5 v → (fun v => v.cell? ⟨gd, 0, none⟩ = some (.int .i64 (F.p : Int)) ∧ v.cell? ⟨gd, 1, none⟩ = some (.int .i64 (1 - (F.emax : Int))) ∧ v.cell? ⟨gd, 2, none⟩ = some (.int .i64 (F.emax : Int)) ∧ v.cell? ⟨gd, 3, none⟩ = some (.int .i64 (F.wd : Int)) ∧ v.cell? ⟨gd, 4, none⟩ = some (.int .i64 (F.e : Int)) ∧ v.cell? ⟨gd, 5, none⟩ = some (.bool F.x)) v := fun v hv => ⟨(hD.below hv).cell 0 rfl, (hD.below hv).cell 1 rfl, (hD.below hv).cell 2 rfl, (hD.below hv).cell 3 rfl, (hD.below hv).cell 4 rfl, (hD.below hv).cell 5 rfl⟩
 have KS : ∀ v x y z t, Below v5.heap.size v5 v → (fun v => v.cell? ⟨gd, 0, none⟩ = some (.int .i64 (F.p : Int)) ∧ v.cell? ⟨gd, 1, none⟩ = some (.int .i64 (1 - (F.emax : Int))) ∧ v.cell? ⟨gd, 2, none⟩ = some (.int .i64 (F.emax : Int)) ∧ v.cell? ⟨gd, 3, none⟩ = some (.int .i64 (F.wd : Int)) ∧ v.cell? ⟨gd, 4, none⟩ = some (.int .i64 (F.e : Int)) ∧ v.cell? ⟨gd, 5, none⟩ = some (.bool F.x)) ((((v.setCell ⟨w.heap.size, 0, none⟩ x).setCell ⟨w.heap.size, 1, none⟩ y).setCell ⟨w.heap.size, 2, none⟩ z).setCell ⟨w.heap.size, 3, none⟩ t) := fun v x y z t hv => by
  have hh := ((((hD.below hv).far ⟨w.heap.size, 0, none⟩ (by simp only; omega) x).far ⟨w.heap.size, 1, none⟩ (by simp only; omega) y).far ⟨w.heap.size, 2, none⟩ (by simp only; omega) z).far ⟨w.heap.size, 3, none⟩ (by simp only; omega) t
  exact ⟨hh.cell 0 rfl, hh.cell 1 rfl, hh.cell 2 rfl, hh.cell 3 rfl, hh.cell 4 rfl, hh.cell 5 rfl⟩
 go_region_held3 (fun v => v.cell? ⟨gd, 0, none⟩ = some (.int .i64 (F.p : Int)) ∧ v.cell? ⟨gd, 1, none⟩ = some (.int .i64 (1 - (F.emax : Int))) ∧ v.cell? ⟨gd, 2, none⟩ = some (.int .i64 (F.emax : Int)) ∧ v.cell? ⟨gd, 3, none⟩ = some (.int .i64 (F.wd : Int)) ∧ v.cell? ⟨gd, 4, none⟩ = some (.int .i64 (F.e : Int)) ∧ v.cell? ⟨gd, 5, none⟩ = some (.bool F.x)) (first | with_reducible exact KB _ hb2 | with_reducible exact KB _ A0 | with_reducible exact KS _ _ _ _ _ hb2)
  (first | (go_at_call 34; refine (kR _ ((hr.below A0).trim hx) ((hr2.below A0).trim hy)).mono ?_; rintro e u2 ⟨rfl, hb0⟩; have hb2 := keepC (w1 := v5) A0 hb0; clear hb0; have r0 := (hR.below hb2).cell 0 rfl; have r1 := (hR.below hb2).cell 1 rfl; have r2 := (hR.below hb2).cell 2 rfl; have r3 := (hR.below hb2).cell 3 rfl; have s0 := (hR.below hb2).frozen 0; have s1 := (hR.below hb2).frozen 1; have s2 := (hR.below hb2).frozen 2; have s3 := (hR.below hb2).frozen 3) | (go_at_call 31; refine (kt2 _ (hr.below A0)).mono ?_; rintro e u1 ⟨rfl, rfl⟩))
 all_goals replace hR := hR.below hb2
 all_goals replace b0 := b0.trans (hb2.mono b0.size)
 all_goals go_wp2_with fail
 all_goals (
  have R5 := Cls.set (Cls.set (Cls.set (Cls.set (hR) 0 (.int .u64 (M.hiN Y : Int)) _ rfl) 1 (.int .u64 (M.loN Y : Int)) _ rfl) 2 (.int .i64 FL) _ rfl) 3 (.bool true) #[.int .u64 (M.hiN Y : Int), .int .u64 (M.loN Y : Int), .int .i64 FL, .bool true] rfl
  have B5 := ((((b0).setCell (p := ⟨w.heap.size, 0, none⟩) (Nat.le_refl _) (.int .u64 (M.hiN Y : Int))).setCell (p := ⟨w.heap.size, 1, none⟩) (Nat.le_refl _) (.int .u64 (M.loN Y : Int))).setCell (p := ⟨w.heap.size, 2, none⟩) (Nat.le_refl _) (.int .i64 FL)).setCell (p := ⟨w.heap.size, 3, none⟩) (Nat.le_refl _) (.bool true)
  generalize ((((u2.setCell ⟨w.heap.size, 0, none⟩ (.int .u64 (M.hiN Y : Int))).setCell ⟨w.heap.size, 1, none⟩ (.int .u64 (M.loN Y : Int))).setCell ⟨w.heap.size, 2, none⟩ (.int .i64 FL)).setCell ⟨w.heap.size, 3, none⟩ (.bool true)) = Yw at R5 B5 ⊢
  have q0 := R5.cell 0 rfl
  have q1 := R5.cell 1 rfl
  have q2 := R5.cell 2 rfl
  have q3 := R5.cell 3 rfl
  exact bodyPost_ret (v := .agg #[.int .u64 (M.hiN Y : Int), .int .u64 (M.loN Y : Int), .int .i64 FL, .bool true]) (by simp [results, Tryd.results6, go_sem, q0, q1, q2, q3]) rfl ⟨rfl, B5⟩)

end Go.Proofs.YtogkkecnmlnajaaDoor
