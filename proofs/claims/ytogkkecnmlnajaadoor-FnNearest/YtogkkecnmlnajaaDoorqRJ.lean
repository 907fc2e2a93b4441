import Derived.Test.YtogkkecnmlnajaaDoorqRI
set_option maxHeartbeats 4000000
set_option maxRecDepth 100000
namespace Go.Proofs.YtogkkecnmlnajaaDoor
open Go.RowKit
set_option linter.unusedVariables false
set_option maxRecDepth 100000
theorem iout_zero (g : Nat) (e0 e1 e2 e3 e4 : Int) (e5 : Bool) (a b : Option Addr) (n c m d : Nat) (q : Int) (w : World) (hB : Rb w g e0 e1 e2 e3 e4 e5 a n c b m d 0 q) :
 Calls Tryd.prog 63 #[.pointer (some ⟨g, 0, none⟩)] w fun e w' => e = .returned (.tuple #[.agg #[.int .i64 1, .bool false, .int .u64 0, .int .u64 0, .int .i64 0], .int .i64 2]) ∧ Below w.heap.size w w' := by
 have b0 : Below w.heap.size w (w.alloc (.cells #[.int .i64 0, .bool false, .int .u64 0, .int .u64 0, .int .i64 0] 33)) := (Below.refl _ _).alloc (Nat.le_refl _) _
 have hP : Cls (w.alloc (.cells #[.int .i64 0, .bool false, .int .u64 0, .int .u64 0, .int .i64 0] 33)) w.heap.size #[.int .i64 0, .bool false, .int .u64 0, .int .u64 0, .int .i64 0] 33 := Cls.new _ _ _
 have lg : g < w.heap.size := Cls.lt hB
 replace hB := hB.below b0
 generalize hV : (w.alloc (.cells #[.int .i64 0, .bool false, .int .u64 0, .int .u64 0, .int .i64 0] 33)) = v0 at *
 go_enter Tryd.func63, Tryd.ntmps63
 go_upto_region 1 with fail
 clear hV
 have b8 := Cls.cell hB 8 rfl
 have b9 := Cls.cell hB 9 rfl
 rw [hi0] at b8
 rw [lo0] at b9
 have p0 := hP.cell 0 rfl
 have g0 := hP.frozen 0
 have p1 := hP.cell 1 rfl
 have g1 := hP.frozen 1
 have p2 := hP.cell 2 rfl
 have g2 := hP.frozen 2
 have p3 := hP.cell 3 rfl
 have g3 := hP.frozen 3
 have p4 := hP.cell 4 rfl
 have g4 := hP.frozen 4
 go_wp2_with fail
 have R4 := Cls.set (Cls.set (Cls.set (Cls.set (Cls.set hP 0 (.int .i64 1) _ rfl) 1 (.bool false) _ rfl) 2 (.int .u64 0) _ rfl) 3 (.int .u64 0) _ rfl) 4 (.int .i64 0) #[.int .i64 1, .bool false, .int .u64 0, .int .u64 0, .int .i64 0] rfl
 have B4 := (((((b0).setCell (p := ⟨w.heap.size, 0, none⟩) (Nat.le_refl _) (.int .i64 1)).setCell (p := ⟨w.heap.size, 1, none⟩) (Nat.le_refl _) (.bool false)).setCell (p := ⟨w.heap.size, 2, none⟩) (Nat.le_refl _) (.int .u64 0)).setCell (p := ⟨w.heap.size, 3, none⟩) (Nat.le_refl _) (.int .u64 0)).setCell (p := ⟨w.heap.size, 4, none⟩) (Nat.le_refl _) (.int .i64 0)
 have R5 := R4
 have B5 := B4
 clear R4 B4
 generalize (((((v0.setCell ⟨w.heap.size, 0, none⟩ (.int .i64 1)).setCell ⟨w.heap.size, 1, none⟩ (.bool false)).setCell ⟨w.heap.size, 2, none⟩ (.int .u64 0)).setCell ⟨w.heap.size, 3, none⟩ (.int .u64 0)).setCell ⟨w.heap.size, 4, none⟩ (.int .i64 0)) = Yw at R5 B5 ⊢
 have q0 := R5.cell 0 rfl
 have q1 := R5.cell 1 rfl
 have q2 := R5.cell 2 rfl
 have q3 := R5.cell 3 rfl
 have q4 := R5.cell 4 rfl
 exact bodyPost_ret (v := .tuple #[.agg #[.int .i64 1, .bool false, .int .u64 0, .int .u64 0, .int .i64 0], .int .i64 2]) (by simp [results, Tryd.results63, go_sem, q0, q1, q2, q3, q4]) rfl ⟨rfl, B5⟩

theorem iout_sub (g : Nat) (e0 e1 e2 e3 e4 : Int) (e5 : Bool) (a b : Option Addr) (n c m d S : Nat) (q : Int) (w : World) (hB : Rb w g e0 e1 e2 e3 e4 e5 a n c b m d S q) (hS : ¬ S = 0) (Ld : Nat) (cz : Int) (kL : ∀ v : World, Calls Tryd.prog 68 #[.agg #[.int .i64 e0, .int .i64 e1, .int .i64 e2, .int .i64 e3, .int .i64 e4, .bool e5]] v fun e w' => e = .returned (.agg #[.int .u64 (M.hiN Ld : Int), .int .u64 (M.loN Ld : Int)]) ∧ Below v.heap.size v w') (kC : ∀ v : World, Calls Tryd.prog 69 #[.agg #[.int .u64 (M.hiN S : Int), .int .u64 (M.loN S : Int)], .agg #[.int .u64 (M.hiN Ld : Int), .int .u64 (M.loN Ld : Int)]] v fun e w' => e = .returned (.int .i64 cz) ∧ Below v.heap.size v w') (hcz : cz < 0) :
 Calls Tryd.prog 63 #[.pointer (some ⟨g, 0, none⟩)] w fun e w' => e = .returned (.tuple #[.agg #[.int .i64 2, .bool false, .int .u64 (M.hiN S : Int), .int .u64 (M.loN S : Int), .int .i64 q], .int .i64 2]) ∧ Below w.heap.size w w' := by
 have b0 : Below w.heap.size w (w.alloc (.cells #[.int .i64 0, .bool false, .int .u64 0, .int .u64 0, .int .i64 0] 33)) := (Below.refl _ _).alloc (Nat.le_refl _) _
 have hP : Cls (w.alloc (.cells #[.int .i64 0, .bool false, .int .u64 0, .int .u64 0, .int .i64 0] 33)) w.heap.size #[.int .i64 0, .bool false, .int .u64 0, .int .u64 0, .int .i64 0] 33 := Cls.new _ _ _
 have lg : g < w.heap.size := Cls.lt hB
 replace hB := hB.below b0
 generalize hV : (w.alloc (.cells #[.int .i64 0, .bool false, .int .u64 0, .int .u64 0, .int .i64 0] 33)) = v0 at *
 go_enter Tryd.func63, Tryd.ntmps63
 go_upto_region 1 with fail
 clear hV
 have E1 : Hid (¬ S = 0) := hS
 go_cut [4] (fun x wx => x = .bool false ∧ wx = v0)
 case first =>
  have b8 := Cls.cell hB 8 rfl
  have b9 := Cls.cell hB 9 rfl
  by_cases q0 : M.hiN S = 0
  · have q1 : ¬ M.loN S = 0 := fun hh => hS (M.hl_eq (q0.trans hi0.symm) (hh.trans lo0.symm))
    have q2 : ((M.loN S : Int) == 0) = false := by simp; omega
    have q3 : ((M.hiN S : Int) == 0) = true := by simp; omega
    have H0 := hid q0; have H1 := hid q1; clear q0 q1 hS
    go_wp2_with fail
    go_meet
    case rel => exact ⟨rfl, rfl⟩
  · have q2 : ((M.hiN S : Int) == 0) = false := by simp; omega
    have H0 := hid q0; clear q0 hS
    go_wp2_with fail
    go_meet
    case rel => exact ⟨rfl, rfl⟩
 case rest =>
 obtain ⟨rfl, rfl⟩ := hcut
 clear hS
 go_upto_region 3 with fail
 go_cut [12] (fun x wx => x = .bool true ∧ Below wc.heap.size wc wx)
 case first =>
  have A0 : Below wc.heap.size wc wc.drew := (Below.refl _ _).drew
  have KB : ∀ v, Below wc.heap.size wc v → (fun v => v.cell? ⟨g, 8, none⟩ = some (.int .u64 (M.hiN S : Int)) ∧ v.cell? ⟨g, 9, none⟩ = some (.int .u64 (M.loN S : Int)) ∧ v.cell? ⟨g, 0, none⟩ = some (.int .i64 e0) ∧ v.cell? ⟨g, 1, none⟩ = some (.int .i64 e1) ∧ v.cell? ⟨g, 2, none⟩ = some (.int .i64 e2) ∧ v.cell? ⟨g, 3, none⟩ = some (.int .i64 e3) ∧ v.cell? ⟨g, 4, none⟩ = some (.int .i64 e4) ∧ v.cell? ⟨g, 5, none⟩ = some (.bool e5)) v := fun v hv => ⟨Cls.cell (hB.below hv) 8 rfl, Cls.cell (hB.below hv) 9 rfl, Cls.cell (hB.below hv) 0 rfl, Cls.cell (hB.below hv) 1 rfl, Cls.cell (hB.below hv) 2 rfl, Cls.cell (hB.below hv) 3 rfl, Cls.cell (hB.below hv) 4 rfl, Cls.cell (hB.below hv) 5 rfl⟩
  go_region_held3 (fun v => v.cell? ⟨g, 8, none⟩ = some (.int .u64 (M.hiN S : Int)) ∧ v.cell? ⟨g, 9, none⟩ = some (.int .u64 (M.loN S : Int)) ∧ v.cell? ⟨g, 0, none⟩ = some (.int .i64 e0) ∧ v.cell? ⟨g, 1, none⟩ = some (.int .i64 e1) ∧ v.cell? ⟨g, 2, none⟩ = some (.int .i64 e2) ∧ v.cell? ⟨g, 3, none⟩ = some (.int .i64 e3) ∧ v.cell? ⟨g, 4, none⟩ = some (.int .i64 e4) ∧ v.cell? ⟨g, 5, none⟩ = some (.bool e5)) (first | with_reducible exact KB _ hb2 | with_reducible exact KB _ hb1 | with_reducible exact KB _ A0) (first | (have hq := hb1; clear hq; go_at_call 69; refine (kC _).mono ?_; rintro e u2 ⟨rfl, hb0⟩; have hb2 := keepC (w1 := wc) hb1 hb0; clear hb0) | (go_at_call 68; refine (kL _).mono ?_; rintro e u1 ⟨rfl, hb0⟩; have hb1 := keepC (w1 := wc) A0 hb0; clear hb0))
  all_goals go_wp2_with fail
  all_goals go_meet
  all_goals exact ⟨by first | rfl | simp [hcz], hb2⟩
 case rest =>
 obtain ⟨rfl, hbx⟩ := hcut
 replace hB := hB.below hbx
 replace hP := hP.below hbx
 replace b0 := b0.trans (hbx.mono b0.size)
 clear hbx kL kC
 go_upto_region 4 with fail
 have A0 : Below wc.heap.size wc wc.drew := (Below.refl _ _).drew
 have b8 := Cls.cell hB 8 rfl
 have b9 := Cls.cell hB 9 rfl
 have b10 := Cls.cell hB 10 rfl
 have c8 := Cls.cell (hB.below A0) 8 rfl
 have c9 := Cls.cell (hB.below A0) 9 rfl
 have c10 := Cls.cell (hB.below A0) 10 rfl
 have p0 := hP.cell 0 rfl
 have g0 := hP.frozen 0
 have p1 := hP.cell 1 rfl
 have g1 := hP.frozen 1
 have p2 := hP.cell 2 rfl
 have g2 := hP.frozen 2
 have p3 := hP.cell 3 rfl
 have g3 := hP.frozen 3
 have p4 := hP.cell 4 rfl
 have g4 := hP.frozen 4
 have hP' := hP.below A0
 have r0 := hP'.cell 0 rfl
 have s0 := hP'.frozen 0
 have r1 := hP'.cell 1 rfl
 have s1 := hP'.frozen 1
 have r2 := hP'.cell 2 rfl
 have s2 := hP'.frozen 2
 have r3 := hP'.cell 3 rfl
 have s3 := hP'.frozen 3
 have r4 := hP'.cell 4 rfl
 have s4 := hP'.frozen 4
 go_region_with (fail)
 all_goals go_wp2_with fail
 all_goals (
  have R4 := Cls.set (Cls.set (Cls.set (Cls.set (Cls.set hP 0 (.int .i64 2) _ rfl) 1 (.bool false) _ rfl) 2 (.int .u64 (M.hiN S : Int)) _ rfl) 3 (.int .u64 (M.loN S : Int)) _ rfl) 4 (.int .i64 q) #[.int .i64 2, .bool false, .int .u64 (M.hiN S : Int), .int .u64 (M.loN S : Int), .int .i64 q] rfl
  have B4 := (((((b0).setCell (p := ⟨w.heap.size, 0, none⟩) (Nat.le_refl _) (.int .i64 2)).setCell (p := ⟨w.heap.size, 1, none⟩) (Nat.le_refl _) (.bool false)).setCell (p := ⟨w.heap.size, 2, none⟩) (Nat.le_refl _) (.int .u64 (M.hiN S : Int))).setCell (p := ⟨w.heap.size, 3, none⟩) (Nat.le_refl _) (.int .u64 (M.loN S : Int))).setCell (p := ⟨w.heap.size, 4, none⟩) (Nat.le_refl _) (.int .i64 q)
  have R5 := (R4.below (Below.refl _ _).drew)
  have B5 := B4.drew
  clear R4 B4
  generalize (((((wc.setCell ⟨w.heap.size, 0, none⟩ (.int .i64 2)).setCell ⟨w.heap.size, 1, none⟩ (.bool false)).setCell ⟨w.heap.size, 2, none⟩ (.int .u64 (M.hiN S : Int))).setCell ⟨w.heap.size, 3, none⟩ (.int .u64 (M.loN S : Int))).setCell ⟨w.heap.size, 4, none⟩ (.int .i64 q)).drew = Yw at R5 B5 ⊢
  have q0 := R5.cell 0 rfl
  have q1 := R5.cell 1 rfl
  have q2 := R5.cell 2 rfl
  have q3 := R5.cell 3 rfl
  have q4 := R5.cell 4 rfl
  exact bodyPost_ret (v := .tuple #[.agg #[.int .i64 2, .bool false, .int .u64 (M.hiN S : Int), .int .u64 (M.loN S : Int), .int .i64 q], .int .i64 2]) (by simp [results, Tryd.results63, go_sem, q0, q1, q2, q3, q4]) rfl ⟨rfl, B5⟩)

theorem iout_inf (g : Nat) (e0 e1 e2 e3 e4 : Int) (e5 : Bool) (a b : Option Addr) (n c m d S : Nat) (q : Int) (w : World) (hB : Rb w g e0 e1 e2 e3 e4 e5 a n c b m d S q) (hS : ¬ S = 0) (Ld : Nat) (cz : Int) (kL : ∀ v : World, Calls Tryd.prog 68 #[.agg #[.int .i64 e0, .int .i64 e1, .int .i64 e2, .int .i64 e3, .int .i64 e4, .bool e5]] v fun e w' => e = .returned (.agg #[.int .u64 (M.hiN Ld : Int), .int .u64 (M.loN Ld : Int)]) ∧ Below v.heap.size v w') (kC : ∀ v : World, Calls Tryd.prog 69 #[.agg #[.int .u64 (M.hiN S : Int), .int .u64 (M.loN S : Int)], .agg #[.int .u64 (M.hiN Ld : Int), .int .u64 (M.loN Ld : Int)]] v fun e w' => e = .returned (.int .i64 cz) ∧ Below v.heap.size v w') (hcz : ¬ cz < 0) (hq1 : -100000 ≤ q) (hq2 : q ≤ 200000) (he1 : 0 ≤ e0) (he2 : e0 ≤ 200) (hov : e2 < q + e0 - 1) :
 Calls Tryd.prog 63 #[.pointer (some ⟨g, 0, none⟩)] w fun e w' => e = .returned (.tuple #[.agg #[.int .i64 4, .bool false, .int .u64 0, .int .u64 0, .int .i64 0], .int .i64 1]) ∧ Below w.heap.size w w' := by
 have b0 : Below w.heap.size w (w.alloc (.cells #[.int .i64 0, .bool false, .int .u64 0, .int .u64 0, .int .i64 0] 33)) := (Below.refl _ _).alloc (Nat.le_refl _) _
 have hP : Cls (w.alloc (.cells #[.int .i64 0, .bool false, .int .u64 0, .int .u64 0, .int .i64 0] 33)) w.heap.size #[.int .i64 0, .bool false, .int .u64 0, .int .u64 0, .int .i64 0] 33 := Cls.new _ _ _
 have lg : g < w.heap.size := Cls.lt hB
 replace hB := hB.below b0
 generalize hV : (w.alloc (.cells #[.int .i64 0, .bool false, .int .u64 0, .int .u64 0, .int .i64 0] 33)) = v0 at *
 go_enter Tryd.func63, Tryd.ntmps63
 go_upto_region 1 with fail
 clear hV
 have E1 : Hid (¬ S = 0) := hS
 go_cut [4] (fun x wx => x = .bool false ∧ wx = v0)
 case first =>
  have b8 := Cls.cell hB 8 rfl
  have b9 := Cls.cell hB 9 rfl
  by_cases q0 : M.hiN S = 0
  · have q1 : ¬ M.loN S = 0 := fun hh => hS (M.hl_eq (q0.trans hi0.symm) (hh.trans lo0.symm))
    have q2 : ((M.loN S : Int) == 0) = false := by simp; omega
    have q3 : ((M.hiN S : Int) == 0) = true := by simp; omega
    have H0 := hid q0; have H1 := hid q1; clear q0 q1 hS
    go_wp2_with fail
    go_meet
    case rel => exact ⟨rfl, rfl⟩
  · have q2 : ((M.hiN S : Int) == 0) = false := by simp; omega
    have H0 := hid q0; clear q0 hS
    go_wp2_with fail
    go_meet
    case rel => exact ⟨rfl, rfl⟩
 case rest =>
 obtain ⟨rfl, rfl⟩ := hcut
 clear hS
 go_upto_region 3 with fail
 go_cut [12] (fun x wx => x = .bool false ∧ Below wc.heap.size wc wx)
 case first =>
  have A0 : Below wc.heap.size wc wc.drew := (Below.refl _ _).drew
  have KB : ∀ v, Below wc.heap.size wc v → (fun v => v.cell? ⟨g, 8, none⟩ = some (.int .u64 (M.hiN S : Int)) ∧ v.cell? ⟨g, 9, none⟩ = some (.int .u64 (M.loN S : Int)) ∧ v.cell? ⟨g, 0, none⟩ = some (.int .i64 e0) ∧ v.cell? ⟨g, 1, none⟩ = some (.int .i64 e1) ∧ v.cell? ⟨g, 2, none⟩ = some (.int .i64 e2) ∧ v.cell? ⟨g, 3, none⟩ = some (.int .i64 e3) ∧ v.cell? ⟨g, 4, none⟩ = some (.int .i64 e4) ∧ v.cell? ⟨g, 5, none⟩ = some (.bool e5)) v := fun v hv => ⟨Cls.cell (hB.below hv) 8 rfl, Cls.cell (hB.below hv) 9 rfl, Cls.cell (hB.below hv) 0 rfl, Cls.cell (hB.below hv) 1 rfl, Cls.cell (hB.below hv) 2 rfl, Cls.cell (hB.below hv) 3 rfl, Cls.cell (hB.below hv) 4 rfl, Cls.cell (hB.below hv) 5 rfl⟩
  go_region_held3 (fun v => v.cell? ⟨g, 8, none⟩ = some (.int .u64 (M.hiN S : Int)) ∧ v.cell? ⟨g, 9, none⟩ = some (.int .u64 (M.loN S : Int)) ∧ v.cell? ⟨g, 0, none⟩ = some (.int .i64 e0) ∧ v.cell? ⟨g, 1, none⟩ = some (.int .i64 e1) ∧ v.cell? ⟨g, 2, none⟩ = some (.int .i64 e2) ∧ v.cell? ⟨g, 3, none⟩ = some (.int .i64 e3) ∧ v.cell? ⟨g, 4, none⟩ = some (.int .i64 e4) ∧ v.cell? ⟨g, 5, none⟩ = some (.bool e5)) (first | with_reducible exact KB _ hb2 | with_reducible exact KB _ hb1 | with_reducible exact KB _ A0) (first | (have hq := hb1; clear hq; go_at_call 69; refine (kC _).mono ?_; rintro e u2 ⟨rfl, hb0⟩; have hb2 := keepC (w1 := wc) hb1 hb0; clear hb0) | (go_at_call 68; refine (kL _).mono ?_; rintro e u1 ⟨rfl, hb0⟩; have hb1 := keepC (w1 := wc) A0 hb0; clear hb0))
  all_goals go_wp2_with fail
  all_goals go_meet
  all_goals exact ⟨by first | rfl | simp [hcz], hb2⟩
 case rest =>
 obtain ⟨rfl, hbx⟩ := hcut
 replace hB := hB.below hbx
 replace hP := hP.below hbx
 replace b0 := b0.trans (hbx.mono b0.size)
 clear hbx kL kC
 have w9 : IntKind.i64.wrap (q + e0) = q + e0 := by rw [IntKind.wrap_i64]; omega
 have w10 : IntKind.i64.wrap (q + e0 - 1) = q + e0 - 1 := by rw [IntKind.wrap_i64]; omega
 go_upto_region 5 with fail
 have b10 := Cls.cell hB 10 rfl
 have b0' := Cls.cell hB 0 rfl
 have b2' := Cls.cell hB 2 rfl
 go_quiet (fail)
 replace hB := hB.below (belDr _ nq)
 replace hP := hP.below (belDr _ nq)
 replace b0 := b0.trans ((belDr _ nq).mono b0.size)
 generalize wc.drewN nq = wc at *
 clear b10 b0' b2'
 have p0 := hP.cell 0 rfl
 have g0 := hP.frozen 0
 have p1 := hP.cell 1 rfl
 have g1 := hP.frozen 1
 have p2 := hP.cell 2 rfl
 have g2 := hP.frozen 2
 have p3 := hP.cell 3 rfl
 have g3 := hP.frozen 3
 have p4 := hP.cell 4 rfl
 have g4 := hP.frozen 4
 go_wp2_with fail
 have R4 := Cls.set (Cls.set (Cls.set (Cls.set (Cls.set hP 0 (.int .i64 4) _ rfl) 1 (.bool false) _ rfl) 2 (.int .u64 0) _ rfl) 3 (.int .u64 0) _ rfl) 4 (.int .i64 0) #[.int .i64 4, .bool false, .int .u64 0, .int .u64 0, .int .i64 0] rfl
 have B4 := (((((b0).setCell (p := ⟨w.heap.size, 0, none⟩) (Nat.le_refl _) (.int .i64 4)).setCell (p := ⟨w.heap.size, 1, none⟩) (Nat.le_refl _) (.bool false)).setCell (p := ⟨w.heap.size, 2, none⟩) (Nat.le_refl _) (.int .u64 0)).setCell (p := ⟨w.heap.size, 3, none⟩) (Nat.le_refl _) (.int .u64 0)).setCell (p := ⟨w.heap.size, 4, none⟩) (Nat.le_refl _) (.int .i64 0)
 have R5 := R4
 have B5 := B4
 clear R4 B4
 generalize (((((wc.setCell ⟨w.heap.size, 0, none⟩ (.int .i64 4)).setCell ⟨w.heap.size, 1, none⟩ (.bool false)).setCell ⟨w.heap.size, 2, none⟩ (.int .u64 0)).setCell ⟨w.heap.size, 3, none⟩ (.int .u64 0)).setCell ⟨w.heap.size, 4, none⟩ (.int .i64 0)) = Yw at R5 B5 ⊢
 have q0 := R5.cell 0 rfl
 have q1 := R5.cell 1 rfl
 have q2 := R5.cell 2 rfl
 have q3 := R5.cell 3 rfl
 have q4 := R5.cell 4 rfl
 exact bodyPost_ret (v := .tuple #[.agg #[.int .i64 4, .bool false, .int .u64 0, .int .u64 0, .int .i64 0], .int .i64 1]) (by simp [results, Tryd.results63, go_sem, q0, q1, q2, q3, q4]) rfl ⟨rfl, B5⟩

theorem iout_norm (g : Nat) (e0 e1 e2 e3 e4 : Int) (e5 : Bool) (a b : Option Addr) (n c m d S : Nat) (q : Int) (w : World) (hB : Rb w g e0 e1 e2 e3 e4 e5 a n c b m d S q) (hS : ¬ S = 0) (Ld : Nat) (cz : Int) (kL : ∀ v : World, Calls Tryd.prog 68 #[.agg #[.int .i64 e0, .int .i64 e1, .int .i64 e2, .int .i64 e3, .int .i64 e4, .bool e5]] v fun e w' => e = .returned (.agg #[.int .u64 (M.hiN Ld : Int), .int .u64 (M.loN Ld : Int)]) ∧ Below v.heap.size v w') (kC : ∀ v : World, Calls Tryd.prog 69 #[.agg #[.int .u64 (M.hiN S : Int), .int .u64 (M.loN S : Int)], .agg #[.int .u64 (M.hiN Ld : Int), .int .u64 (M.loN Ld : Int)]] v fun e w' => e = .returned (.int .i64 cz) ∧ Below v.heap.size v w') (hcz : ¬ cz < 0) (hq1 : -100000 ≤ q) (hq2 : q ≤ 200000) (he1 : 0 ≤ e0) (he2 : e0 ≤ 200) (hov : ¬ e2 < q + e0 - 1) :
 Calls Tryd.prog 63 #[.pointer (some ⟨g, 0, none⟩)] w fun e w' => e = .returned (.tuple #[.agg #[.int .i64 3, .bool false, .int .u64 (M.hiN S : Int), .int .u64 (M.loN S : Int), .int .i64 q], .int .i64 0]) ∧ Below w.heap.size w w' := by
 have b0 : Below w.heap.size w (w.alloc (.cells #[.int .i64 0, .bool false, .int .u64 0, .int .u64 0, .int .i64 0] 33)) := (Below.refl _ _).alloc (Nat.le_refl _) _
 have hP : Cls (w.alloc (.cells #[.int .i64 0, .bool false, .int .u64 0, .int .u64 0, .int .i64 0] 33)) w.heap.size #[.int .i64 0, .bool false, .int .u64 0, .int .u64 0, .int .i64 0] 33 := Cls.new _ _ _
 have lg : g < w.heap.size := Cls.lt hB
 replace hB := hB.below b0
 generalize hV : (w.alloc (.cells #[.int .i64 0, .bool false, .int .u64 0, .int .u64 0, .int .i64 0] 33)) = v0 at *
 go_enter Tryd.func63, Tryd.ntmps63
 go_upto_region 1 with fail
 clear hV
 have E1 : Hid (¬ S = 0) := hS
 go_cut [4] (fun x wx => x = .bool false ∧ wx = v0)
 case first =>
  have b8 := Cls.cell hB 8 rfl
  have b9 := Cls.cell hB 9 rfl
  by_cases q0 : M.hiN S = 0
  · have q1 : ¬ M.loN S = 0 := fun hh => hS (M.hl_eq (q0.trans hi0.symm) (hh.trans lo0.symm))
    have q2 : ((M.loN S : Int) == 0) = false := by simp; omega
    have q3 : ((M.hiN S : Int) == 0) = true := by simp; omega
    have H0 := hid q0; have H1 := hid q1; clear q0 q1 hS
    go_wp2_with fail
    go_meet
    case rel => exact ⟨rfl, rfl⟩
  · have q2 : ((M.hiN S : Int) == 0) = false := by simp; omega
    have H0 := hid q0; clear q0 hS
    go_wp2_with fail
    go_meet
    case rel => exact ⟨rfl, rfl⟩
 case rest =>
 obtain ⟨rfl, rfl⟩ := hcut
 clear hS
 go_upto_region 3 with fail
 go_cut [12] (fun x wx => x = .bool false ∧ Below wc.heap.size wc wx)
 case first =>
  have A0 : Below wc.heap.size wc wc.drew := (Below.refl _ _).drew
  have KB : ∀ v, Below wc.heap.size wc v → (fun v => v.cell? ⟨g, 8, none⟩ = some (.int .u64 (M.hiN S : Int)) ∧ v.cell? ⟨g, 9, none⟩ = some (.int .u64 (M.loN S : Int)) ∧ v.cell? ⟨g, 0, none⟩ = some (.int .i64 e0) ∧ v.cell? ⟨g, 1, none⟩ = some (.int .i64 e1) ∧ v.cell? ⟨g, 2, none⟩ = some (.int .i64 e2) ∧ v.cell? ⟨g, 3, none⟩ = some (.int .i64 e3) ∧ v.cell? ⟨g, 4, none⟩ = some (.int .i64 e4) ∧ v.cell? ⟨g, 5, none⟩ = some (.bool e5)) v := fun v hv => ⟨Cls.cell (hB.below hv) 8 rfl, Cls.cell (hB.below hv) 9 rfl, Cls.cell (hB.below hv) 0 rfl, Cls.cell (hB.below hv) 1 rfl, Cls.cell (hB.below hv) 2 rfl, Cls.cell (hB.below hv) 3 rfl, Cls.cell (hB.below hv) 4 rfl, Cls.cell (hB.below hv) 5 rfl⟩
  go_region_held3 (fun v => v.cell? ⟨g, 8, none⟩ = some (.int .u64 (M.hiN S : Int)) ∧ v.cell? ⟨g, 9, none⟩ = some (.int .u64 (M.loN S : Int)) ∧ v.cell? ⟨g, 0, none⟩ = some (.int .i64 e0) ∧ v.cell? ⟨g, 1, none⟩ = some (.int .i64 e1) ∧ v.cell? ⟨g, 2, none⟩ = some (.int .i64 e2) ∧ v.cell? ⟨g, 3, none⟩ = some (.int .i64 e3) ∧ v.cell? ⟨g, 4, none⟩ = some (.int .i64 e4) ∧ v.cell? ⟨g, 5, none⟩ = some (.bool e5)) (first | with_reducible exact KB _ hb2 | with_reducible exact KB _ hb1 | with_reducible exact KB _ A0) (first | (have hq := hb1; clear hq; go_at_call 69; refine (kC _).mono ?_; rintro e u2 ⟨rfl, hb0⟩; have hb2 := keepC (w1 := wc) hb1 hb0; clear hb0) | (go_at_call 68; refine (kL _).mono ?_; rintro e u1 ⟨rfl, hb0⟩; have hb1 := keepC (w1 := wc) A0 hb0; clear hb0))
  all_goals go_wp2_with fail
  all_goals go_meet
  all_goals exact ⟨by first | rfl | simp [hcz], hb2⟩
 case rest =>
 obtain ⟨rfl, hbx⟩ := hcut
 replace hB := hB.below hbx
 replace hP := hP.below hbx
 replace b0 := b0.trans (hbx.mono b0.size)
 clear hbx kL kC
 have w9 : IntKind.i64.wrap (q + e0) = q + e0 := by rw [IntKind.wrap_i64]; omega
 have w10 : IntKind.i64.wrap (q + e0 - 1) = q + e0 - 1 := by rw [IntKind.wrap_i64]; omega
 go_upto_region 5 with fail
 have b10 := Cls.cell hB 10 rfl
 have b0' := Cls.cell hB 0 rfl
 have b2' := Cls.cell hB 2 rfl
 go_quiet (fail)
 replace hB := hB.below (belDr _ nq)
 replace hP := hP.below (belDr _ nq)
 replace b0 := b0.trans ((belDr _ nq).mono b0.size)
 generalize wc.drewN nq = wc at *
 clear b10 b0' b2'
 go_upto_region 7 with fail
 have A0 : Below wc.heap.size wc wc.drew := (Below.refl _ _).drew
 have b8 := Cls.cell hB 8 rfl
 have b9 := Cls.cell hB 9 rfl
 have b10 := Cls.cell hB 10 rfl
 have c8 := Cls.cell (hB.below A0) 8 rfl
 have c9 := Cls.cell (hB.below A0) 9 rfl
 have c10 := Cls.cell (hB.below A0) 10 rfl
 have p0 := hP.cell 0 rfl
 have g0 := hP.frozen 0
 have p1 := hP.cell 1 rfl
 have g1 := hP.frozen 1
 have p2 := hP.cell 2 rfl
 have g2 := hP.frozen 2
 have p3 := hP.cell 3 rfl
 have g3 := hP.frozen 3
 have p4 := hP.cell 4 rfl
 have g4 := hP.frozen 4
 have hP' := hP.below A0
 have r0 := hP'.cell 0 rfl
 have s0 := hP'.frozen 0
 have r1 := hP'.cell 1 rfl
 have s1 := hP'.frozen 1
 have r2 := hP'.cell 2 rfl
 have s2 := hP'.frozen 2
 have r3 := hP'.cell 3 rfl
 have s3 := hP'.frozen 3
 have r4 := hP'.cell 4 rfl
 have s4 := hP'.frozen 4
 go_region_with (fail)
 all_goals go_wp2_with fail
 all_goals (
  have R4 := Cls.set (Cls.set (Cls.set (Cls.set (Cls.set hP 0 (.int .i64 3) _ rfl) 1 (.bool false) _ rfl) 2 (.int .u64 (M.hiN S : Int)) _ rfl) 3 (.int .u64 (M.loN S : Int)) _ rfl) 4 (.int .i64 q) #[.int .i64 3, .bool false, .int .u64 (M.hiN S : Int), .int .u64 (M.loN S : Int), .int .i64 q] rfl
  have B4 := (((((b0).setCell (p := ⟨w.heap.size, 0, none⟩) (Nat.le_refl _) (.int .i64 3)).setCell (p := ⟨w.heap.size, 1, none⟩) (Nat.le_refl _) (.bool false)).setCell (p := ⟨w.heap.size, 2, none⟩) (Nat.le_refl _) (.int .u64 (M.hiN S : Int))).setCell (p := ⟨w.heap.size, 3, none⟩) (Nat.le_refl _) (.int .u64 (M.loN S : Int))).setCell (p := ⟨w.heap.size, 4, none⟩) (Nat.le_refl _) (.int .i64 q)
  have R5 := (R4.below (Below.refl _ _).drew)
  have B5 := B4.drew
  clear R4 B4
  generalize (((((wc.setCell ⟨w.heap.size, 0, none⟩ (.int .i64 3)).setCell ⟨w.heap.size, 1, none⟩ (.bool false)).setCell ⟨w.heap.size, 2, none⟩ (.int .u64 (M.hiN S : Int))).setCell ⟨w.heap.size, 3, none⟩ (.int .u64 (M.loN S : Int))).setCell ⟨w.heap.size, 4, none⟩ (.int .i64 q)).drew = Yw at R5 B5 ⊢
  have q0 := R5.cell 0 rfl
  have q1 := R5.cell 1 rfl
  have q2 := R5.cell 2 rfl
  have q3 := R5.cell 3 rfl
  have q4 := R5.cell 4 rfl
  exact bodyPost_ret (v := .tuple #[.agg #[.int .i64 3, .bool false, .int .u64 (M.hiN S : Int), .int .u64 (M.loN S : Int), .int .i64 q], .int .i64 0]) (by simp [results, Tryd.results63, go_sem, q0, q1, q2, q3, q4]) rfl ⟨rfl, B5⟩)

theorem iround_zero (ng : Bool) (e0 e1 e2 e3 e4 : Int) (e5 : Bool) (a b : Option Addr) (c m d : Nat) (w : World) (Y : Nat) (kP : ∀ v : World, Calls Tryd.prog 59 #[.agg #[.int .i64 e0, .int .i64 e1, .int .i64 e2, .int .i64 e3, .int .i64 e4, .bool e5], .agg #[.int .i64 1, .bool ng, .int .u64 0, .int .u64 0, .int .i64 0]] v fun e w' => e = .returned (.agg #[.int .u64 (M.hiN Y : Int), .int .u64 (M.loN Y : Int)]) ∧ Below v.heap.size v w') :
 Calls Tryd.prog 34 #[.agg #[.int .i64 e0, .int .i64 e1, .int .i64 e2, .int .i64 e3, .int .i64 e4, .bool e5], .bool ng, .slice a 0 c, .slice b m d] w fun e w' => e = .returned (.agg #[.int .u64 (M.hiN Y : Int), .int .u64 (M.loN Y : Int), .int .i64 0, .bool true]) ∧ Below w.heap.size w w' := by
 have b0 : Below w.heap.size w ((w.alloc (.cells #[.int .i64 e0, .int .i64 e1, .int .i64 e2, .int .i64 e3, .int .i64 e4, .bool e5] 56)).alloc (.cells #[.int .u64 0, .int .u64 0, .int .i64 0, .bool false] 30)) := ((Below.refl _ _).alloc (Nat.le_refl _) _).alloc (by simp) _
 have hD : Cls ((w.alloc (.cells #[.int .i64 e0, .int .i64 e1, .int .i64 e2, .int .i64 e3, .int .i64 e4, .bool e5] 56)).alloc (.cells #[.int .u64 0, .int .u64 0, .int .i64 0, .bool false] 30)) w.heap.size #[.int .i64 e0, .int .i64 e1, .int .i64 e2, .int .i64 e3, .int .i64 e4, .bool e5] 56 := (Cls.new w _ _).below ((Below.refl _ _).alloc (Nat.le_refl _) _)
 have hR : Cls ((w.alloc (.cells #[.int .i64 e0, .int .i64 e1, .int .i64 e2, .int .i64 e3, .int .i64 e4, .bool e5] 56)).alloc (.cells #[.int .u64 0, .int .u64 0, .int .i64 0, .bool false] 30)) (w.heap.size + 1) #[.int .u64 0, .int .u64 0, .int .i64 0, .bool false] 30 := by
  have := Cls.new (w.alloc (.cells #[.int .i64 e0, .int .i64 e1, .int .i64 e2, .int .i64 e3, .int .i64 e4, .bool e5] 56)) #[.int .u64 0, .int .u64 0, .int .i64 0, .bool false] 30
  rwa [World.size_alloc] at this
 generalize hV : ((w.alloc (.cells #[.int .i64 e0, .int .i64 e1, .int .i64 e2, .int .i64 e3, .int .i64 e4, .bool e5] 56)).alloc (.cells #[.int .u64 0, .int .u64 0, .int .i64 0, .bool false] 30)) = v0 at *
 go_enter Tryd.func34, Tryd.ntmps34
 go_upto_region 1 with fail
 clear hV
 have d0 := hD.cell 0 rfl
 have d1 := hD.cell 1 rfl
 have d2 := hD.cell 2 rfl
 have d3 := hD.cell 3 rfl
 have d4 := hD.cell 4 rfl
 have d5 := hD.cell 5 rfl
 go_wp2_with fail
 refine (kP _).mono ?_
 rintro e v1 ⟨rfl, hb1⟩
 replace b0 := b0.trans (hb1.mono b0.size)
 replace hR := hR.below hb1
 clear hb1 d0 d1 d2 d3 d4 d5
 have r0 := hR.cell 0 rfl
 have s0 := hR.frozen 0
 have r1 := hR.cell 1 rfl
 have s1 := hR.frozen 1
 have r2 := hR.cell 2 rfl
 have s2 := hR.frozen 2
 have r3 := hR.cell 3 rfl
 have s3 := hR.frozen 3
 go_wp2_with fail
 have R5 := Cls.set (Cls.set (Cls.set (Cls.set (hR) 0 (.int .u64 (M.hiN Y : Int)) _ rfl) 1 (.int .u64 (M.loN Y : Int)) _ rfl) 2 (.int .i64 0) _ rfl) 3 (.bool true) #[.int .u64 (M.hiN Y : Int), .int .u64 (M.loN Y : Int), .int .i64 0, .bool true] rfl
 have B5 := ((((b0).setCell (p := ⟨w.heap.size + 1, 0, none⟩) (by simp only; omega) (.int .u64 (M.hiN Y : Int))).setCell (p := ⟨w.heap.size + 1, 1, none⟩) (by simp only; omega) (.int .u64 (M.loN Y : Int))).setCell (p := ⟨w.heap.size + 1, 2, none⟩) (by simp only; omega) (.int .i64 0)).setCell (p := ⟨w.heap.size + 1, 3, none⟩) (by simp only; omega) (.bool true)
 generalize ((((v1.setCell ⟨w.heap.size + 1, 0, none⟩ (.int .u64 (M.hiN Y : Int))).setCell ⟨w.heap.size + 1, 1, none⟩ (.int .u64 (M.loN Y : Int))).setCell ⟨w.heap.size + 1, 2, none⟩ (.int .i64 0)).setCell ⟨w.heap.size + 1, 3, none⟩ (.bool true)) = Yw at R5 B5 ⊢
 have q0 := R5.cell 0 rfl
 have q1 := R5.cell 1 rfl
 have q2 := R5.cell 2 rfl
 have q3 := R5.cell 3 rfl
 exact bodyPost_ret (v := .agg #[.int .u64 (M.hiN Y : Int), .int .u64 (M.loN Y : Int), .int .i64 0, .bool true]) (by simp [results, Tryd.results34, go_sem, q0, q1, q2, q3]) rfl ⟨rfl, B5⟩

theorem iround_key (ng : Bool) (e0 e1 e2 e3 e4 : Int) (e5 : Bool) (a b : Option Addr) (c d N De : Nat) (w : World) (hN : (((L N).length : Int) == 0) = false) (ra : Rd w a (L N)) (rb : Rd w b (L De)) (X Y0 S1 S : Nat) (Q Xq PC PQ FL : Int) (PS Y : Nat)
 (kS : ∀ (v : World) (g : Nat), Rb v g e0 e1 e2 e3 e4 e5 a (L N).length c b (L De).length d 0 0 → Rd v a (L N) → Rd v b (L De) → Apart a (L N) g → Apart b (L De) g →
   Calls Tryd.prog 60 #[.pointer (some ⟨g, 0, none⟩)] v fun e w' => (∃ v, e = .returned v) ∧ ∃ (a1 : Option Addr) (c1 : Nat) (a2 : Option Addr) (c2 : Nat), Rb w' g e0 e1 e2 e3 e4 e5 a1 (L X).length c1 a2 (L Y0).length c2 0 Q ∧ Rd w' a1 (L X) ∧ Rd w' a2 (L Y0) ∧ Apart a1 (L X) g ∧ Apart a2 (L Y0) g ∧ v.grownBy w' (some g))
 (kN : ∀ (v : World) (g : Nat) (a1 : Option Addr) (c1 : Nat) (a2 : Option Addr) (c2 : Nat), Rb v g e0 e1 e2 e3 e4 e5 a1 (L X).length c1 a2 (L Y0).length c2 0 Q → Rd v a1 (L X) → Rd v a2 (L Y0) → Apart a1 (L X) g → Apart a2 (L Y0) g →
   Calls Tryd.prog 61 #[.pointer (some ⟨g, 0, none⟩)] v fun e w' => (∃ v, e = .returned v) ∧ Rb w' g e0 e1 e2 e3 e4 e5 a1 (L X).length c1 a2 (L Y0).length c2 S1 Q ∧ v.grownBy w' (some g))
 (kC : ∀ (v : World) (g : Nat) (a1 : Option Addr) (n1 c1 : Nat) (a2 : Option Addr) (n2 c2 : Nat), Rb v g e0 e1 e2 e3 e4 e5 a1 n1 c1 a2 n2 c2 S1 Q →
   Calls Tryd.prog 62 #[.pointer (some ⟨g, 0, none⟩)] v fun e w' => (∃ v, e = .returned v) ∧ Rb w' g e0 e1 e2 e3 e4 e5 a1 n1 c1 a2 n2 c2 S Xq ∧ v.grownBy w' (some g))
 (kO : ∀ (v : World) (g : Nat) (a1 : Option Addr) (n1 c1 : Nat) (a2 : Option Addr) (n2 c2 : Nat), Rb v g e0 e1 e2 e3 e4 e5 a1 n1 c1 a2 n2 c2 S Xq →
   Calls Tryd.prog 63 #[.pointer (some ⟨g, 0, none⟩)] v fun e w' => e = .returned (.tuple #[.agg #[.int .i64 PC, .bool false, .int .u64 (M.hiN PS : Int), .int .u64 (M.loN PS : Int), .int .i64 PQ], .int .i64 FL]) ∧ Below v.heap.size v w')
 (kP : ∀ v : World, Calls Tryd.prog 59 #[.agg #[.int .i64 e0, .int .i64 e1, .int .i64 e2, .int .i64 e3, .int .i64 e4, .bool e5], .agg #[.int .i64 PC, .bool ng, .int .u64 (M.hiN PS : Int), .int .u64 (M.loN PS : Int), .int .i64 PQ]] v fun e w' => e = .returned (.agg #[.int .u64 (M.hiN Y : Int), .int .u64 (M.loN Y : Int)]) ∧ Below v.heap.size v w') :
 Calls Tryd.prog 34 #[.agg #[.int .i64 e0, .int .i64 e1, .int .i64 e2, .int .i64 e3, .int .i64 e4, .bool e5], .bool ng, .slice a (L N).length c, .slice b (L De).length d] w fun e w' => e = .returned (.agg #[.int .u64 (M.hiN Y : Int), .int .u64 (M.loN Y : Int), .int .i64 FL, .bool true]) ∧ Below w.heap.size w w' := by
 have b0 : Below w.heap.size w ((w.alloc (.cells #[.int .i64 e0, .int .i64 e1, .int .i64 e2, .int .i64 e3, .int .i64 e4, .bool e5] 56)).alloc (.cells #[.int .u64 0, .int .u64 0, .int .i64 0, .bool false] 30)) := ((Below.refl _ _).alloc (Nat.le_refl _) _).alloc (by simp) _
 have hD : Cls ((w.alloc (.cells #[.int .i64 e0, .int .i64 e1, .int .i64 e2, .int .i64 e3, .int .i64 e4, .bool e5] 56)).alloc (.cells #[.int .u64 0, .int .u64 0, .int .i64 0, .bool false] 30)) w.heap.size #[.int .i64 e0, .int .i64 e1, .int .i64 e2, .int .i64 e3, .int .i64 e4, .bool e5] 56 := (Cls.new w _ _).below ((Below.refl _ _).alloc (Nat.le_refl _) _)
 have hR : Cls ((w.alloc (.cells #[.int .i64 e0, .int .i64 e1, .int .i64 e2, .int .i64 e3, .int .i64 e4, .bool e5] 56)).alloc (.cells #[.int .u64 0, .int .u64 0, .int .i64 0, .bool false] 30)) (w.heap.size + 1) #[.int .u64 0, .int .u64 0, .int .i64 0, .bool false] 30 := by
  have := Cls.new (w.alloc (.cells #[.int .i64 e0, .int .i64 e1, .int .i64 e2, .int .i64 e3, .int .i64 e4, .bool e5] 56)) #[.int .u64 0, .int .u64 0, .int .i64 0, .bool false] 30
  rwa [World.size_alloc] at this
 generalize hV : ((w.alloc (.cells #[.int .i64 e0, .int .i64 e1, .int .i64 e2, .int .i64 e3, .int .i64 e4, .bool e5] 56)).alloc (.cells #[.int .u64 0, .int .u64 0, .int .i64 0, .bool false] 30)) = v0 at *
 go_enter Tryd.func34, Tryd.ntmps34
 go_upto_region 1 with fail
 clear hV
 have d0 := hD.cell 0 rfl
 have d1 := hD.cell 1 rfl
 have d2 := hD.cell 2 rfl
 have d3 := hD.cell 3 rfl
 have d4 := hD.cell 4 rfl
 have d5 := hD.cell 5 rfl
 go_upto_region 4 with fail
 have hB : Rb (v0.alloc (.cells #[.int .i64 e0, .int .i64 e1, .int .i64 e2, .int .i64 e3, .int .i64 e4, .bool e5, .slice a (L N).length c, .slice b (L De).length d, .int .u64 0, .int .u64 0, .int .i64 0] 85)) v0.heap.size e0 e1 e2 e3 e4 e5 a (L N).length c b (L De).length d 0 0 := by
  unfold Rb
  rw [hi0, lo0]
  exact Cls.new _ _ _
 have bA : Below v0.heap.size v0 (v0.alloc (.cells #[.int .i64 e0, .int .i64 e1, .int .i64 e2, .int .i64 e3, .int .i64 e4, .bool e5, .slice a (L N).length c, .slice b (L De).length d, .int .u64 0, .int .u64 0, .int .i64 0] 85)) := (Below.refl _ _).alloc (Nat.le_refl _) _
 have lg : w.heap.size + 1 < v0.heap.size := hR.lt
 replace ra := ra.below b0
 replace rb := rb.below b0
 have sa := apart_lt ra (Nat.le_refl _)
 have sb := apart_lt rb (Nat.le_refl _)
 replace ra := ra.below bA
 replace rb := rb.below bA
 replace b0 := b0.trans (bA.mono b0.size)
 replace hR := hR.below bA
 clear bA hD d0 d1 d2 d3 d4 d5
 generalize (v0.alloc (.cells #[.int .i64 e0, .int .i64 e1, .int .i64 e2, .int .i64 e3, .int .i64 e4, .bool e5, .slice a (L N).length c, .slice b (L De).length d, .int .u64 0, .int .u64 0, .int .i64 0] 85)) = v1 at *
 generalize v0.heap.size = g at *
 have BG : ∀ {u v : World}, Below w.heap.size w u → u.grownBy v (some g) → Below w.heap.size w v := fun hb hg => hb.grown hg hb.size (fun k hk => by injection hk with hk; omega)
 go_wp2_with fail
 refine (kS _ _ hB ra rb sa sb).mono ?_
 rintro e v2 ⟨⟨z1, rfl⟩, a1, c1, a2, c2, hB2, r1, r2, s1, s2, hg2⟩
 replace b0 := BG b0 hg2
 replace hR := hR.grown hg2 (by intro e; injection e; omega)
 clear kS hB ra rb sa sb hg2
 go_wp2_with fail
 refine (kN _ _ _ _ _ _ hB2 r1 r2 s1 s2).mono ?_
 rintro e v3 ⟨⟨z2, rfl⟩, hB3, hg3⟩
 replace b0 := BG b0 hg3
 replace hR := hR.grown hg3 (by intro e; injection e; omega)
 clear kN hB2 r1 r2 s1 s2 hg3
 go_wp2_with fail
 refine (kC _ _ _ _ _ _ _ _ hB3).mono ?_
 rintro e v4 ⟨⟨z3, rfl⟩, hB4, hg4⟩
 replace b0 := BG b0 hg4
 replace hR := hR.grown hg4 (by intro e; injection e; omega)
 clear kC hB3 hg4
 go_wp2_with fail
 refine (kO _ _ _ _ _ _ _ _ hB4).mono ?_
 rintro e v5 ⟨rfl, hb5⟩
 replace b0 := b0.trans (hb5.mono b0.size)
 replace hR := hR.below hb5
 replace hB4 := hB4.below hb5
 clear kO hb5 BG
 have lB : g < v5.heap.size := Cls.lt hB4
 go_upto_region 8 with fail
 have hP : Cls (v5.alloc (.cells #[.int .i64 PC, .bool false, .int .u64 (M.hiN PS : Int), .int .u64 (M.loN PS : Int), .int .i64 PQ] 33)) v5.heap.size #[.int .i64 PC, .bool false, .int .u64 (M.hiN PS : Int), .int .u64 (M.loN PS : Int), .int .i64 PQ] 33 := Cls.new _ _ _
 have bA : Below v5.heap.size v5 (v5.alloc (.cells #[.int .i64 PC, .bool false, .int .u64 (M.hiN PS : Int), .int .u64 (M.loN PS : Int), .int .i64 PQ] 33)) := (Below.refl _ _).alloc (Nat.le_refl _) _
 replace b0 := b0.trans (bA.mono b0.size)
 replace hR := hR.below bA
 replace hB4 := hB4.below bA
 clear bA
 generalize (v5.alloc (.cells #[.int .i64 PC, .bool false, .int .u64 (M.hiN PS : Int), .int .u64 (M.loN PS : Int), .int .i64 PQ] 33)) = v6 at *
 generalize v5.heap.size = gp at *
 have p1 := hP.cell 1 rfl
 have g1 := hP.frozen 1
 go_upto_region 9 with fail
 clear p1 g1
 replace hP := Cls.set hP 1 (.bool ng) #[.int .i64 PC, .bool ng, .int .u64 (M.hiN PS : Int), .int .u64 (M.loN PS : Int), .int .i64 PQ] rfl
 replace hR := hR.far ⟨gp, 1, none⟩ (by simp only; omega) (.bool ng)
 replace hB4 : Rb (v6.setCell ⟨gp, 1, none⟩ (.bool ng)) _ _ _ _ _ _ _ _ _ _ _ _ _ _ _ := Cls.far hB4 ⟨gp, 1, none⟩ (by simp only; omega) (.bool ng)
 replace b0 := b0.setCell (p := ⟨gp, 1, none⟩) (by simp only; omega) (.bool ng)
 generalize (v6.setCell ⟨gp, 1, none⟩ (.bool ng)) = v7 at *
 have b0x := Cls.cell hB4 0 rfl
 have b1 := Cls.cell hB4 1 rfl
 have b2 := Cls.cell hB4 2 rfl
 have b3 := Cls.cell hB4 3 rfl
 have b4 := Cls.cell hB4 4 rfl
 have b5 := Cls.cell hB4 5 rfl
 have p0 := hP.cell 0 rfl
 have p1 := hP.cell 1 rfl
 have p2 := hP.cell 2 rfl
 have p3 := hP.cell 3 rfl
 have p4 := hP.cell 4 rfl
 go_wp2_with fail
 refine (kP _).mono ?_
 rintro e v8 ⟨rfl, hb8⟩
 replace b0 := b0.trans (hb8.mono b0.size)
 replace hR := hR.below hb8
 clear hb8 b0x b1 b2 b3 b4 b5 p0 p1 p2 p3 p4 hP hB4 kP
 have r0 := hR.cell 0 rfl
 have s0 := hR.frozen 0
 have r1 := hR.cell 1 rfl
 have s1 := hR.frozen 1
 have r2 := hR.cell 2 rfl
 have s2 := hR.frozen 2
 have r3 := hR.cell 3 rfl
 have s3 := hR.frozen 3
 go_wp2_with fail
 have R5 := Cls.set (Cls.set (Cls.set (Cls.set (hR) 0 (.int .u64 (M.hiN Y : Int)) _ rfl) 1 (.int .u64 (M.loN Y : Int)) _ rfl) 2 (.int .i64 FL) _ rfl) 3 (.bool true) #[.int .u64 (M.hiN Y : Int), .int .u64 (M.loN Y : Int), .int .i64 FL, .bool true] rfl
 have B5 := ((((b0).setCell (p := ⟨w.heap.size + 1, 0, none⟩) (by simp only; omega) (.int .u64 (M.hiN Y : Int))).setCell (p := ⟨w.heap.size + 1, 1, none⟩) (by simp only; omega) (.int .u64 (M.loN Y : Int))).setCell (p := ⟨w.heap.size + 1, 2, none⟩) (by simp only; omega) (.int .i64 FL)).setCell (p := ⟨w.heap.size + 1, 3, none⟩) (by simp only; omega) (.bool true)
 generalize ((((v8.setCell ⟨w.heap.size + 1, 0, none⟩ (.int .u64 (M.hiN Y : Int))).setCell ⟨w.heap.size + 1, 1, none⟩ (.int .u64 (M.loN Y : Int))).setCell ⟨w.heap.size + 1, 2, none⟩ (.int .i64 FL)).setCell ⟨w.heap.size + 1, 3, none⟩ (.bool true)) = Yw at R5 B5 ⊢
 have q0 := R5.cell 0 rfl
 have q1 := R5.cell 1 rfl
 have q2 := R5.cell 2 rfl
 have q3 := R5.cell 3 rfl
 exact bodyPost_ret (v := .agg #[.int .u64 (M.hiN Y : Int), .int .u64 (M.loN Y : Int), .int .i64 FL, .bool true]) (by simp [results, Tryd.results34, go_sem, q0, q1, q2, q3]) rfl ⟨rfl, B5⟩

end Go.Proofs.YtogkkecnmlnajaaDoor
