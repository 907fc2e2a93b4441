import Derived.Test.YtehplfmnipadmafDoorBN
namespace Go.Proofs.YtehplfmnipadmafDoor

open Go.RowKit

set_option linter.unusedVariables false
set_option maxRecDepth 100000

set_option maxRecDepth 100000 in
set_option maxHeartbeats 4000000 in
theorem iout_zero (g : Nat) (e0 e1 e2 e3 e4 : Int) (e5 : Bool) (a b : Option Addr) (n c m d : Nat) (q : Int) (w : World) (hB : Rb w g e0 e1 e2 e3 e4 e5 a n c b m d 0 q) :
    Calls Tryd.prog 73 #[.pointer (some ⟨g, 0, none⟩)] w fun e w' => e = .returned (.tuple #[.agg #[.int .i64 1, .bool false, .int .u64 0, .int .u64 0, .int .i64 0], .int .i64 2]) ∧ Below w.heap.size w w' := by
  have b0 : Below w.heap.size w (w.alloc (.cells #[.int .i64 0, .bool false, .int .u64 0, .int .u64 0, .int .i64 0] 33)) := (Below.refl _ _).alloc (Nat.le_refl _) _
  have hP : Cls (w.alloc (.cells #[.int .i64 0, .bool false, .int .u64 0, .int .u64 0, .int .i64 0] 33)) w.heap.size #[.int .i64 0, .bool false, .int .u64 0, .int .u64 0, .int .i64 0] 33 := Cls.new _ _ _
  have lg : g < w.heap.size := Cls.lt hB
  replace hB := hB.below b0
  generalize hV : (w.alloc (.cells #[.int .i64 0, .bool false, .int .u64 0, .int .u64 0, .int .i64 0] 33)) = v0 at *
  go_enter Tryd.func73, Tryd.ntmps73
  go_upto_region 1 with fail
  clear hV
  have b8 := Cls.cell hB 8 rfl
  have b9 := Cls.cell hB 9 rfl
  rw [hi0] at b8
  rw [lo0] at b9
  have p0 := hP.cell 0 rfl
  have g0 := hP.frozen 0
  have p1 := hP.cell 1 rfl
  have g1 := hP.frozen 1
  have p2 := hP.cell 2 rfl
  have g2 := hP.frozen 2
  have p3 := hP.cell 3 rfl
  have g3 := hP.frozen 3
  have p4 := hP.cell 4 rfl
  have g4 := hP.frozen 4
  go_wp2_with fail
  have R4 := Cls.set (Cls.set (Cls.set (Cls.set (Cls.set hP 0 (.int .i64 1) _ rfl) 1 (.bool false) _ rfl) 2 (.int .u64 0) _ rfl) 3 (.int .u64 0) _ rfl) 4 (.int .i64 0) #[.int .i64 1, .bool false, .int .u64 0, .int .u64 0, .int .i64 0] rfl
  have B4 := (((((b0).setCell (p := ⟨w.heap.size, 0, none⟩) (Nat.le_refl _) (.int .i64 1)).setCell (p := ⟨w.heap.size, 1, none⟩) (Nat.le_refl _) (.bool false)).setCell (p := ⟨w.heap.size, 2, none⟩) (Nat.le_refl _) (.int .u64 0)).setCell (p := ⟨w.heap.size, 3, none⟩) (Nat.le_refl _) (.int .u64 0)).setCell (p := ⟨w.heap.size, 4, none⟩) (Nat.le_refl _) (.int .i64 0)
  have R5 := R4
  have B5 := B4
  clear R4 B4
  generalize (((((v0.setCell ⟨w.heap.size, 0, none⟩ (.int .i64 1)).setCell ⟨w.heap.size, 1, none⟩ (.bool false)).setCell ⟨w.heap.size, 2, none⟩ (.int .u64 0)).setCell ⟨w.heap.size, 3, none⟩ (.int .u64 0)).setCell ⟨w.heap.size, 4, none⟩ (.int .i64 0)) = Yw at R5 B5 ⊢
  have q0 := R5.cell 0 rfl
  have q1 := R5.cell 1 rfl
  have q2 := R5.cell 2 rfl
  have q3 := R5.cell 3 rfl
  have q4 := R5.cell 4 rfl
  exact bodyPost_ret (v := .tuple #[.agg #[.int .i64 1, .bool false, .int .u64 0, .int .u64 0, .int .i64 0], .int .i64 2]) (by simp [results, Tryd.results73, go_sem, q0, q1, q2, q3, q4]) rfl ⟨rfl, B5⟩

set_option maxRecDepth 100000 in
set_option maxHeartbeats 4000000 in
theorem iout_sub (g : Nat) (e0 e1 e2 e3 e4 : Int) (e5 : Bool) (a b : Option Addr) (n c m d S : Nat) (q : Int) (w : World) (hB : Rb w g e0 e1 e2 e3 e4 e5 a n c b m d S q) (hS : ¬ S = 0) (Ld : Nat) (cz : Int) (kL : ∀ v : World, Calls Tryd.prog 62 #[.agg #[.int .i64 e0, .int .i64 e1, .int .i64 e2, .int .i64 e3, .int .i64 e4, .bool e5]] v fun e w' => e = .returned (.agg #[.int .u64 (M.hiN Ld : Int), .int .u64 (M.loN Ld : Int)]) ∧ Below v.heap.size v w') (kC : ∀ v : World, Calls Tryd.prog 80 #[.agg #[.int .u64 (M.hiN S : Int), .int .u64 (M.loN S : Int)], .agg #[.int .u64 (M.hiN Ld : Int), .int .u64 (M.loN Ld : Int)]] v fun e w' => e = .returned (.int .i64 cz) ∧ Below v.heap.size v w') (hcz : cz < 0) :
    Calls Tryd.prog 73 #[.pointer (some ⟨g, 0, none⟩)] w fun e w' => e = .returned (.tuple #[.agg #[.int .i64 2, .bool false, .int .u64 (M.hiN S : Int), .int .u64 (M.loN S : Int), .int .i64 q], .int .i64 2]) ∧ Below w.heap.size w w' := by
  have b0 : Below w.heap.size w (w.alloc (.cells #[.int .i64 0, .bool false, .int .u64 0, .int .u64 0, .int .i64 0] 33)) := (Below.refl _ _).alloc (Nat.le_refl _) _
  have hP : Cls (w.alloc (.cells #[.int .i64 0, .bool false, .int .u64 0, .int .u64 0, .int .i64 0] 33)) w.heap.size #[.int .i64 0, .bool false, .int .u64 0, .int .u64 0, .int .i64 0] 33 := Cls.new _ _ _
  have lg : g < w.heap.size := Cls.lt hB
  replace hB := hB.below b0
  generalize hV : (w.alloc (.cells #[.int .i64 0, .bool false, .int .u64 0, .int .u64 0, .int .i64 0] 33)) = v0 at *
  go_enter Tryd.func73, Tryd.ntmps73
  go_upto_region 1 with fail
  clear hV
  have E1 : Hid (¬ S = 0) := hS
  go_cut [4] (fun x wx => x = .bool false ∧ wx = v0)
  case first =>
    have b8 := Cls.cell hB 8 rfl
    have b9 := Cls.cell hB 9 rfl
    by_cases q0 : M.hiN S = 0
    · have q1 : ¬ M.loN S = 0 := fun hh => hS (M.hl_eq (q0.trans hi0.symm) (hh.trans lo0.symm))
      have q2 : ((M.loN S : Int) == 0) = false := by simp; omega
      have q3 : ((M.hiN S : Int) == 0) = true := by simp; omega
      have H0 := hid q0; have H1 := hid q1; clear q0 q1 hS
      go_wp2_with fail
      go_meet
      case rel => exact ⟨rfl, rfl⟩
    · have q2 : ((M.hiN S : Int) == 0) = false := by simp; omega
      have H0 := hid q0; clear q0 hS
      go_wp2_with fail
      go_meet
      case rel => exact ⟨rfl, rfl⟩
  case rest =>
  obtain ⟨rfl, rfl⟩ := hcut
  clear hS
  go_upto_region 3 with fail
  go_cut [12] (fun x wx => x = .bool true ∧ Below wc.heap.size wc wx)
  case first =>
    have A0 : Below wc.heap.size wc wc.drew := (Below.refl _ _).drew
    have KB : ∀ v, Below wc.heap.size wc v → (fun v => v.cell? ⟨g, 8, none⟩ = some (.int .u64 (M.hiN S : Int)) ∧ v.cell? ⟨g, 9, none⟩ = some (.int .u64 (M.loN S : Int)) ∧ v.cell? ⟨g, 0, none⟩ = some (.int .i64 e0) ∧ v.cell? ⟨g, 1, none⟩ = some (.int .i64 e1) ∧ v.cell? ⟨g, 2, none⟩ = some (.int .i64 e2) ∧ v.cell? ⟨g, 3, none⟩ = some (.int .i64 e3) ∧ v.cell? ⟨g, 4, none⟩ = some (.int .i64 e4) ∧ v.cell? ⟨g, 5, none⟩ = some (.bool e5)) v := fun v hv => ⟨Cls.cell (hB.below hv) 8 rfl, Cls.cell (hB.below hv) 9 rfl, Cls.cell (hB.below hv) 0 rfl, Cls.cell (hB.below hv) 1 rfl, Cls.cell (hB.below hv) 2 rfl, Cls.cell (hB.below hv) 3 rfl, Cls.cell (hB.below hv) 4 rfl, Cls.cell (hB.below hv) 5 rfl⟩
    go_region_held3 (fun v => v.cell? ⟨g, 8, none⟩ = some (.int .u64 (M.hiN S : Int)) ∧ v.cell? ⟨g, 9, none⟩ = some (.int .u64 (M.loN S : Int)) ∧ v.cell? ⟨g, 0, none⟩ = some (.int .i64 e0) ∧ v.cell? ⟨g, 1, none⟩ = some (.int .i64 e1) ∧ v.cell? ⟨g, 2, none⟩ = some (.int .i64 e2) ∧ v.cell? ⟨g, 3, none⟩ = some (.int .i64 e3) ∧ v.cell? ⟨g, 4, none⟩ = some (.int .i64 e4) ∧ v.cell? ⟨g, 5, none⟩ = some (.bool e5)) (first | with_reducible exact KB _ hb2 | with_reducible exact KB _ hb1 | with_reducible exact KB _ A0) (first | (have hq := hb1; clear hq; go_at_call 80; refine (kC _).mono ?_; rintro e u2 ⟨rfl, hb0⟩; have hb2 := keepC (w1 := wc) hb1 hb0; clear hb0) | (go_at_call 62; refine (kL _).mono ?_; rintro e u1 ⟨rfl, hb0⟩; have hb1 := keepC (w1 := wc) A0 hb0; clear hb0))
    all_goals go_wp2_with fail
    all_goals go_meet
    all_goals exact ⟨by first | rfl | simp [hcz], hb2⟩
  case rest =>
  obtain ⟨rfl, hbx⟩ := hcut
  replace hB := hB.below hbx
  replace hP := hP.below hbx
  replace b0 := b0.trans (hbx.mono b0.size)
  clear hbx kL kC
  go_upto_region 4 with fail
  have A0 : Below wc.heap.size wc wc.drew := (Below.refl _ _).drew
  have b8 := Cls.cell hB 8 rfl
  have b9 := Cls.cell hB 9 rfl
  have b10 := Cls.cell hB 10 rfl
  have c8 := Cls.cell (hB.below A0) 8 rfl
  have c9 := Cls.cell (hB.below A0) 9 rfl
  have c10 := Cls.cell (hB.below A0) 10 rfl
  have p0 := hP.cell 0 rfl
  have g0 := hP.frozen 0
  have p1 := hP.cell 1 rfl
  have g1 := hP.frozen 1
  have p2 := hP.cell 2 rfl
  have g2 := hP.frozen 2
  have p3 := hP.cell 3 rfl
  have g3 := hP.frozen 3
  have p4 := hP.cell 4 rfl
  have g4 := hP.frozen 4
  have hP' := hP.below A0
  have r0 := hP'.cell 0 rfl
  have s0 := hP'.frozen 0
  have r1 := hP'.cell 1 rfl
  have s1 := hP'.frozen 1
  have r2 := hP'.cell 2 rfl
  have s2 := hP'.frozen 2
  have r3 := hP'.cell 3 rfl
  have s3 := hP'.frozen 3
  have r4 := hP'.cell 4 rfl
  have s4 := hP'.frozen 4
  go_region_with (fail)
  all_goals go_wp2_with fail
  all_goals (
    have R4 := Cls.set (Cls.set (Cls.set (Cls.set (Cls.set hP 0 (.int .i64 2) _ rfl) 1 (.bool false) _ rfl) 2 (.int .u64 (M.hiN S : Int)) _ rfl) 3 (.int .u64 (M.loN S : Int)) _ rfl) 4 (.int .i64 q) #[.int .i64 2, .bool false, .int .u64 (M.hiN S : Int), .int .u64 (M.loN S : Int), .int .i64 q] rfl
    have B4 := (((((b0).setCell (p := ⟨w.heap.size, 0, none⟩) (Nat.le_refl _) (.int .i64 2)).setCell (p := ⟨w.heap.size, 1, none⟩) (Nat.le_refl _) (.bool false)).setCell (p := ⟨w.heap.size, 2, none⟩) (Nat.le_refl _) (.int .u64 (M.hiN S : Int))).setCell (p := ⟨w.heap.size, 3, none⟩) (Nat.le_refl _) (.int .u64 (M.loN S : Int))).setCell (p := ⟨w.heap.size, 4, none⟩) (Nat.le_refl _) (.int .i64 q)
    have R5 := (R4.below (Below.refl _ _).drew)
    have B5 := B4.drew
    clear R4 B4
    generalize (((((wc.setCell ⟨w.heap.size, 0, none⟩ (.int .i64 2)).setCell ⟨w.heap.size, 1, none⟩ (.bool false)).setCell ⟨w.heap.size, 2, none⟩ (.int .u64 (M.hiN S : Int))).setCell ⟨w.heap.size, 3, none⟩ (.int .u64 (M.loN S : Int))).setCell ⟨w.heap.size, 4, none⟩ (.int .i64 q)).drew = Yw at R5 B5 ⊢
    have q0 := R5.cell 0 rfl
    have q1 := R5.cell 1 rfl
    have q2 := R5.cell 2 rfl
    have q3 := R5.cell 3 rfl
    have q4 := R5.cell 4 rfl
    exact bodyPost_ret (v := .tuple #[.agg #[.int .i64 2, .bool false, .int .u64 (M.hiN S : Int), .int .u64 (M.loN S : Int), .int .i64 q], .int .i64 2]) (by simp [results, Tryd.results73, go_sem, q0, q1, q2, q3, q4]) rfl ⟨rfl, B5⟩)

set_option maxRecDepth 100000 in
set_option maxHeartbeats 4000000 in
theorem iout_inf (g : Nat) (e0 e1 e2 e3 e4 : Int) (e5 : Bool) (a b : Option Addr) (n c m d S : Nat) (q : Int) (w : World) (hB : Rb w g e0 e1 e2 e3 e4 e5 a n c b m d S q) (hS : ¬ S = 0) (Ld : Nat) (cz : Int) (kL : ∀ v : World, Calls Tryd.prog 62 #[.agg #[.int .i64 e0, .int .i64 e1, .int .i64 e2, .int .i64 e3, .int .i64 e4, .bool e5]] v fun e w' => e = .returned (.agg #[.int .u64 (M.hiN Ld : Int), .int .u64 (M.loN Ld : Int)]) ∧ Below v.heap.size v w') (kC : ∀ v : World, Calls Tryd.prog 80 #[.agg #[.int .u64 (M.hiN S : Int), .int .u64 (M.loN S : Int)], .agg #[.int .u64 (M.hiN Ld : Int), .int .u64 (M.loN Ld : Int)]] v fun e w' => e = .returned (.int .i64 cz) ∧ Below v.heap.size v w') (hcz : ¬ cz < 0) (hq1 : -100000 ≤ q) (hq2 : q ≤ 200000) (he1 : 0 ≤ e0) (he2 : e0 ≤ 200) (hov : e2 < q + e0 - 1) :
    Calls Tryd.prog 73 #[.pointer (some ⟨g, 0, none⟩)] w fun e w' => e = .returned (.tuple #[.agg #[.int .i64 4, .bool false, .int .u64 0, .int .u64 0, .int .i64 0], .int .i64 1]) ∧ Below w.heap.size w w' := by
  have b0 : Below w.heap.size w (w.alloc (.cells #[.int .i64 0, .bool false, .int .u64 0, .int .u64 0, .int .i64 0] 33)) := (Below.refl _ _).alloc (Nat.le_refl _) _
  have hP : Cls (w.alloc (.cells #[.int .i64 0, .bool false, .int .u64 0, .int .u64 0, .int .i64 0] 33)) w.heap.size #[.int .i64 0, .bool false, .int .u64 0, .int .u64 0, .int .i64 0] 33 := Cls.new _ _ _
  have lg : g < w.heap.size := Cls.lt hB
  replace hB := hB.below b0
  generalize hV : (w.alloc (.cells #[.int .i64 0, .bool false, .int .u64 0, .int .u64 0, .int .i64 0] 33)) = v0 at *
  go_enter Tryd.func73, Tryd.ntmps73
  go_upto_region 1 with fail
  clear hV
  have E1 : Hid (¬ S = 0) := hS
  go_cut [4] (fun x wx => x = .bool false ∧ wx = v0)
  case first =>
    have b8 := Cls.cell hB 8 rfl
    have b9 := Cls.cell hB 9 rfl
    by_cases q0 : M.hiN S = 0
    · have q1 : ¬ M.loN S = 0 := fun hh => hS (M.hl_eq (q0.trans hi0.symm) (hh.trans lo0.symm))
      have q2 : ((M.loN S : Int) == 0) = false := by simp; omega
      have q3 : ((M.hiN S : Int) == 0) = true := by simp; omega
      have H0 := hid q0; have H1 := hid q1; clear q0 q1 hS
      go_wp2_with fail
      go_meet
      case rel => exact ⟨rfl, rfl⟩
    · have q2 : ((M.hiN S : Int) == 0) = false := by simp; omega
      have H0 := hid q0; clear q0 hS
      go_wp2_with fail
      go_meet
      case rel => exact ⟨rfl, rfl⟩
  case rest =>
  obtain ⟨rfl, rfl⟩ := hcut
  clear hS
  go_upto_region 3 with fail
  go_cut [12] (fun x wx => x = .bool false ∧ Below wc.heap.size wc wx)
  case first =>
    have A0 : Below wc.heap.size wc wc.drew := (Below.refl _ _).drew
    have KB : ∀ v, Below wc.heap.size wc v → (fun v => v.cell? ⟨g, 8, none⟩ = some (.int .u64 (M.hiN S : Int)) ∧ v.cell? ⟨g, 9, none⟩ = some (.int .u64 (M.loN S : Int)) ∧ v.cell? ⟨g, 0, none⟩ = some (.int .i64 e0) ∧ v.cell? ⟨g, 1, none⟩ = some (.int .i64 e1) ∧ v.cell? ⟨g, 2, none⟩ = some (.int .i64 e2) ∧ v.cell? ⟨g, 3, none⟩ = some (.int .i64 e3) ∧ v.cell? ⟨g, 4, none⟩ = some (.int .i64 e4) ∧ v.cell? ⟨g, 5, none⟩ = some (.bool e5)) v := fun v hv => ⟨Cls.cell (hB.below hv) 8 rfl, Cls.cell (hB.below hv) 9 rfl, Cls.cell (hB.below hv) 0 rfl, Cls.cell (hB.below hv) 1 rfl, Cls.cell (hB.below hv) 2 rfl, Cls.cell (hB.below hv) 3 rfl, Cls.cell (hB.below hv) 4 rfl, Cls.cell (hB.below hv) 5 rfl⟩
    go_region_held3 (fun v => v.cell? ⟨g, 8, none⟩ = some (.int .u64 (M.hiN S : Int)) ∧ v.cell? ⟨g, 9, none⟩ = some (.int .u64 (M.loN S : Int)) ∧ v.cell? ⟨g, 0, none⟩ = some (.int .i64 e0) ∧ v.cell? ⟨g, 1, none⟩ = some (.int .i64 e1) ∧ v.cell? ⟨g, 2, none⟩ = some (.int .i64 e2) ∧ v.cell? ⟨g, 3, none⟩ = some (.int .i64 e3) ∧ v.cell? ⟨g, 4, none⟩ = some (.int .i64 e4) ∧ v.cell? ⟨g, 5, none⟩ = some (.bool e5)) (first | with_reducible exact KB _ hb2 | with_reducible exact KB _ hb1 | with_reducible exact KB _ A0) (first | (have hq := hb1; clear hq; go_at_call 80; refine (kC _).mono ?_; rintro e u2 ⟨rfl, hb0⟩; have hb2 := keepC (w1 := wc) hb1 hb0; clear hb0) | (go_at_call 62; refine (kL _).mono ?_; rintro e u1 ⟨rfl, hb0⟩; have hb1 := keepC (w1 := wc) A0 hb0; clear hb0))
    all_goals go_wp2_with fail
    all_goals go_meet
    all_goals exact ⟨by first | rfl | simp [hcz], hb2⟩
  case rest =>
  obtain ⟨rfl, hbx⟩ := hcut
  replace hB := hB.below hbx
  replace hP := hP.below hbx
  replace b0 := b0.trans (hbx.mono b0.size)
  clear hbx kL kC
  have w9 : IntKind.i64.wrap (q + e0) = q + e0 := by rw [IntKind.wrap_i64]; omega
  have w10 : IntKind.i64.wrap (q + e0 - 1) = q + e0 - 1 := by rw [IntKind.wrap_i64]; omega
  go_upto_region 5 with fail
  have b10 := Cls.cell hB 10 rfl
  have b0' := Cls.cell hB 0 rfl
  have b2' := Cls.cell hB 2 rfl
  go_quiet (fail)
  replace hB := hB.below (belDr _ nq)
  replace hP := hP.below (belDr _ nq)
  replace b0 := b0.trans ((belDr _ nq).mono b0.size)
  generalize wc.drewN nq = wc at *
  clear b10 b0' b2'
  have p0 := hP.cell 0 rfl
  have g0 := hP.frozen 0
  have p1 := hP.cell 1 rfl
  have g1 := hP.frozen 1
  have p2 := hP.cell 2 rfl
  have g2 := hP.frozen 2
  have p3 := hP.cell 3 rfl
  have g3 := hP.frozen 3
  have p4 := hP.cell 4 rfl
  have g4 := hP.frozen 4
  go_wp2_with fail
  have R4 := Cls.set (Cls.set (Cls.set (Cls.set (Cls.set hP 0 (.int .i64 4) _ rfl) 1 (.bool false) _ rfl) 2 (.int .u64 0) _ rfl) 3 (.int .u64 0) _ rfl) 4 (.int .i64 0) #[.int .i64 4, .bool false, .int .u64 0, .int .u64 0, .int .i64 0] rfl
  have B4 := (((((b0).setCell (p := ⟨w.heap.size, 0, none⟩) (Nat.le_refl _) (.int .i64 4)).setCell (p := ⟨w.heap.size, 1, none⟩) (Nat.le_refl _) (.bool false)).setCell (p := ⟨w.heap.size, 2, none⟩) (Nat.le_refl _) (.int .u64 0)).setCell (p := ⟨w.heap.size, 3, none⟩) (Nat.le_refl _) (.int .u64 0)).setCell (p := ⟨w.heap.size, 4, none⟩) (Nat.le_refl _) (.int .i64 0)
  have R5 := R4
  have B5 := B4
  clear R4 B4
  generalize (((((wc.setCell ⟨w.heap.size, 0, none⟩ (.int .i64 4)).setCell ⟨w.heap.size, 1, none⟩ (.bool false)).setCell ⟨w.heap.size, 2, none⟩ (.int .u64 0)).setCell ⟨w.heap.size, 3, none⟩ (.int .u64 0)).setCell ⟨w.heap.size, 4, none⟩ (.int .i64 0)) = Yw at R5 B5 ⊢
  have q0 := R5.cell 0 rfl
  have q1 := R5.cell 1 rfl
  have q2 := R5.cell 2 rfl
  have q3 := R5.cell 3 rfl
  have q4 := R5.cell 4 rfl
  exact bodyPost_ret (v := .tuple #[.agg #[.int .i64 4, .bool false, .int .u64 0, .int .u64 0, .int .i64 0], .int .i64 1]) (by simp [results, Tryd.results73, go_sem, q0, q1, q2, q3, q4]) rfl ⟨rfl, B5⟩

set_option maxRecDepth 100000 in
set_option maxHeartbeats 4000000 in
theorem iout_norm (g : Nat) (e0 e1 e2 e3 e4 : Int) (e5 : Bool) (a b : Option Addr) (n c m d S : Nat) (q : Int) (w : World) (hB : Rb w g e0 e1 e2 e3 e4 e5 a n c b m d S q) (hS : ¬ S = 0) (Ld : Nat) (cz : Int) (kL : ∀ v : World, Calls Tryd.prog 62 #[.agg #[.int .i64 e0, .int .i64 e1, .int .i64 e2, .int .i64 e3, .int .i64 e4, .bool e5]] v fun e w' => e = .returned (.agg #[.int .u64 (M.hiN Ld : Int), .int .u64 (M.loN Ld : Int)]) ∧ Below v.heap.size v w') (kC : ∀ v : World, Calls Tryd.prog 80 #[.agg #[.int .u64 (M.hiN S : Int), .int .u64 (M.loN S : Int)], .agg #[.int .u64 (M.hiN Ld : Int), .int .u64 (M.loN Ld : Int)]] v fun e w' => e = .returned (.int .i64 cz) ∧ Below v.heap.size v w') (hcz : ¬ cz < 0) (hq1 : -100000 ≤ q) (hq2 : q ≤ 200000) (he1 : 0 ≤ e0) (he2 : e0 ≤ 200) (hov : ¬ e2 < q + e0 - 1) :
    Calls Tryd.prog 73 #[.pointer (some ⟨g, 0, none⟩)] w fun e w' => e = .returned (.tuple #[.agg #[.int .i64 3, .bool false, .int .u64 (M.hiN S : Int), .int .u64 (M.loN S : Int), .int .i64 q], .int .i64 0]) ∧ Below w.heap.size w w' := by
  have b0 : Below w.heap.size w (w.alloc (.cells #[.int .i64 0, .bool false, .int .u64 0, .int .u64 0, .int .i64 0] 33)) := (Below.refl _ _).alloc (Nat.le_refl _) _
  have hP : Cls (w.alloc (.cells #[.int .i64 0, .bool false, .int .u64 0, .int .u64 0, .int .i64 0] 33)) w.heap.size #[.int .i64 0, .bool false, .int .u64 0, .int .u64 0, .int .i64 0] 33 := Cls.new _ _ _
  have lg : g < w.heap.size := Cls.lt hB
  replace hB := hB.below b0
  generalize hV : (w.alloc (.cells #[.int .i64 0, .bool false, .int .u64 0, .int .u64 0, .int .i64 0] 33)) = v0 at *
  go_enter Tryd.func73, Tryd.ntmps73
  go_upto_region 1 with fail
  clear hV
  have E1 : Hid (¬ S = 0) := hS
  go_cut [4] (fun x wx => x = .bool false ∧ wx = v0)
  case first =>
    have b8 := Cls.cell hB 8 rfl
    have b9 := Cls.cell hB 9 rfl
    by_cases q0 : M.hiN S = 0
    · have q1 : ¬ M.loN S = 0 := fun hh => hS (M.hl_eq (q0.trans hi0.symm) (hh.trans lo0.symm))
      have q2 : ((M.loN S : Int) == 0) = false := by simp; omega
      have q3 : ((M.hiN S : Int) == 0) = true := by simp; omega
      have H0 := hid q0; have H1 := hid q1; clear q0 q1 hS
      go_wp2_with fail
      go_meet
      case rel => exact ⟨rfl, rfl⟩
    · have q2 : ((M.hiN S : Int) == 0) = false := by simp; omega
      have H0 := hid q0; clear q0 hS
      go_wp2_with fail
      go_meet
      case rel => exact ⟨rfl, rfl⟩
  case rest =>
  obtain ⟨rfl, rfl⟩ := hcut
  clear hS
  go_upto_region 3 with fail
  go_cut [12] (fun x wx => x = .bool false ∧ Below wc.heap.size wc wx)
  case first =>
    have A0 : Below wc.heap.size wc wc.drew := (Below.refl _ _).drew
    have KB : ∀ v, Below wc.heap.size wc v → (fun v => v.cell? ⟨g, 8, none⟩ = some (.int .u64 (M.hiN S : Int)) ∧ v.cell? ⟨g, 9, none⟩ = some (.int .u64 (M.loN S : Int)) ∧ v.cell? ⟨g, 0, none⟩ = some (.int .i64 e0) ∧ v.cell? ⟨g, 1, none⟩ = some (.int .i64 e1) ∧ v.cell? ⟨g, 2, none⟩ = some (.int .i64 e2) ∧ v.cell? ⟨g, 3, none⟩ = some (.int .i64 e3) ∧ v.cell? ⟨g, 4, none⟩ = some (.int .i64 e4) ∧ v.cell? ⟨g, 5, none⟩ = some (.bool e5)) v := fun v hv => ⟨Cls.cell (hB.below hv) 8 rfl, Cls.cell (hB.below hv) 9 rfl, Cls.cell (hB.below hv) 0 rfl, Cls.cell (hB.below hv) 1 rfl, Cls.cell (hB.below hv) 2 rfl, Cls.cell (hB.below hv) 3 rfl, Cls.cell (hB.below hv) 4 rfl, Cls.cell (hB.below hv) 5 rfl⟩
    go_region_held3 (fun v => v.cell? ⟨g, 8, none⟩ = some (.int .u64 (M.hiN S : Int)) ∧ v.cell? ⟨g, 9, none⟩ = some (.int .u64 (M.loN S : Int)) ∧ v.cell? ⟨g, 0, none⟩ = some (.int .i64 e0) ∧ v.cell? ⟨g, 1, none⟩ = some (.int .i64 e1) ∧ v.cell? ⟨g, 2, none⟩ = some (.int .i64 e2) ∧ v.cell? ⟨g, 3, none⟩ = some (.int .i64 e3) ∧ v.cell? ⟨g, 4, none⟩ = some (.int .i64 e4) ∧ v.cell? ⟨g, 5, none⟩ = some (.bool e5)) (first | with_reducible exact KB _ hb2 | with_reducible exact KB _ hb1 | with_reducible exact KB _ A0) (first | (have hq := hb1; clear hq; go_at_call 80; refine (kC _).mono ?_; rintro e u2 ⟨rfl, hb0⟩; have hb2 := keepC (w1 := wc) hb1 hb0; clear hb0) | (go_at_call 62; refine (kL _).mono ?_; rintro e u1 ⟨rfl, hb0⟩; have hb1 := keepC (w1 := wc) A0 hb0; clear hb0))
    all_goals go_wp2_with fail
    all_goals go_meet
    all_goals exact ⟨by first | rfl | simp [hcz], hb2⟩
  case rest =>
  obtain ⟨rfl, hbx⟩ := hcut
  replace hB := hB.below hbx
  replace hP := hP.below hbx
  replace b0 := b0.trans (hbx.mono b0.size)
  clear hbx kL kC
  have w9 : IntKind.i64.wrap (q + e0) = q + e0 := by rw [IntKind.wrap_i64]; omega
  have w10 : IntKind.i64.wrap (q + e0 - 1) = q + e0 - 1 := by rw [IntKind.wrap_i64]; omega
  go_upto_region 5 with fail
  have b10 := Cls.cell hB 10 rfl
  have b0' := Cls.cell hB 0 rfl
  have b2' := Cls.cell hB 2 rfl
  go_quiet (fail)
  replace hB := hB.below (belDr _ nq)
  replace hP := hP.below (belDr _ nq)
  replace b0 := b0.trans ((belDr _ nq).mono b0.size)
  generalize wc.drewN nq = wc at *
  clear b10 b0' b2'
  go_upto_region 7 with fail
  have A0 : Below wc.heap.size wc wc.drew := (Below.refl _ _).drew
  have b8 := Cls.cell hB 8 rfl
  have b9 := Cls.cell hB 9 rfl
  have b10 := Cls.cell hB 10 rfl
  have c8 := Cls.cell (hB.below A0) 8 rfl
  have c9 := Cls.cell (hB.below A0) 9 rfl
  have c10 := Cls.cell (hB.below A0) 10 rfl
  have p0 := hP.cell 0 rfl
  have g0 := hP.frozen 0
  have p1 := hP.cell 1 rfl
  have g1 := hP.frozen 1
  have p2 := hP.cell 2 rfl
  have g2 := hP.frozen 2
  have p3 := hP.cell 3 rfl
  have g3 := hP.frozen 3
  have p4 := hP.cell 4 rfl
  have g4 := hP.frozen 4
  have hP' := hP.below A0
  have r0 := hP'.cell 0 rfl
  have s0 := hP'.frozen 0
  have r1 := hP'.cell 1 rfl
  have s1 := hP'.frozen 1
  have r2 := hP'.cell 2 rfl
  have s2 := hP'.frozen 2
  have r3 := hP'.cell 3 rfl
  have s3 := hP'.frozen 3
  have r4 := hP'.cell 4 rfl
  have s4 := hP'.frozen 4
  go_region_with (fail)
  all_goals go_wp2_with fail
  all_goals (
    have R4 := Cls.set (Cls.set (Cls.set (Cls.set (Cls.set hP 0 (.int .i64 3) _ rfl) 1 (.bool false) _ rfl) 2 (.int .u64 (M.hiN S : Int)) _ rfl) 3 (.int .u64 (M.loN S : Int)) _ rfl) 4 (.int .i64 q) #[.int .i64 3, .bool false, .int .u64 (M.hiN S : Int), .int .u64 (M.loN S : Int), .int .i64 q] rfl
    have B4 := (((((b0).setCell (p := ⟨w.heap.size, 0, none⟩) (Nat.le_refl _) (.int .i64 3)).setCell (p := ⟨w.heap.size, 1, none⟩) (Nat.le_refl _) (.bool false)).setCell (p := ⟨w.heap.size, 2, none⟩) (Nat.le_refl _) (.int .u64 (M.hiN S : Int))).setCell (p := ⟨w.heap.size, 3, none⟩) (Nat.le_refl _) (.int .u64 (M.loN S : Int))).setCell (p := ⟨w.heap.size, 4, none⟩) (Nat.le_refl _) (.int .i64 q)
    have R5 := (R4.below (Below.refl _ _).drew)
    have B5 := B4.drew
    clear R4 B4
    generalize (((((wc.setCell ⟨w.heap.size, 0, none⟩ (.int .i64 3)).setCell ⟨w.heap.size, 1, none⟩ (.bool false)).setCell ⟨w.heap.size, 2, none⟩ (.int .u64 (M.hiN S : Int))).setCell ⟨w.heap.size, 3, none⟩ (.int .u64 (M.loN S : Int))).setCell ⟨w.heap.size, 4, none⟩ (.int .i64 q)).drew = Yw at R5 B5 ⊢
    have q0 := R5.cell 0 rfl
    have q1 := R5.cell 1 rfl
    have q2 := R5.cell 2 rfl
    have q3 := R5.cell 3 rfl
    have q4 := R5.cell 4 rfl
    exact bodyPost_ret (v := .tuple #[.agg #[.int .i64 3, .bool false, .int .u64 (M.hiN S : Int), .int .u64 (M.loN S : Int), .int .i64 q], .int .i64 0]) (by simp [results, Tryd.results73, go_sem, q0, q1, q2, q3, q4]) rfl ⟨rfl, B5⟩)

end Go.Proofs.YtehplfmnipadmafDoor

