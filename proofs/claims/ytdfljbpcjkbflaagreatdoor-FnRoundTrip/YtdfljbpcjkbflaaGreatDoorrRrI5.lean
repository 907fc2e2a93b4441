import Derived.Test.YtdfljbpcjkbflaaGreatDoorrHAO
set_option maxHeartbeats 4000000
set_option maxRecDepth 100000
namespace Go.Proofs.YtdfljbpcjkbflaaGreatDoor
open Go.RowKit
set_option linter.unusedVariables false
set_option maxRecDepth 100000
theorem bx5 {W : World} {g : Nat} {xs : Array Value} {t : TypeId} (R : Cls W g xs t) (hx : xs.size = 5) (a b c d e : Value) :
 Cls (((((W.setCell ⟨g, 0, none⟩ a).setCell ⟨g, 1, none⟩ b).setCell ⟨g, 2, none⟩ c).setCell ⟨g, 3, none⟩ d).setCell ⟨g, 4, none⟩ e) g #[a, b, c, d, e] t := by
 refine ((((R.set 0 a _ rfl).set 1 b _ rfl).set 2 c _ rfl).set 3 d _ rfl).set 4 e _ ?_
 obtain ⟨l⟩ := xs
 match l, hx with
 | [x0, x1, x2, x3, x4], _ => rfl

theorem bw5 {B : Nat} {w W : World} (h : Below B w W) (g : Nat) (hg : B ≤ g) (a b c d e : Value) : Below B w (((((W.setCell ⟨g, 0, none⟩ a).setCell ⟨g, 1, none⟩ b).setCell ⟨g, 2, none⟩ c).setCell ⟨g, 3, none⟩ d).setCell ⟨g, 4, none⟩ e) :=
 ((((h.setCell (p := ⟨g, 0, none⟩) hg _).setCell (p := ⟨g, 1, none⟩) hg _).setCell (p := ⟨g, 2, none⟩) hg _).setCell (p := ⟨g, 3, none⟩) hg _).setCell (p := ⟨g, 4, none⟩) hg _

theorem AQ (g : Nat) (e0 e1 e2 e3 e4 : Int) (e5 : Bool) (a b : Option Addr) (n c m d : Nat) (q : Int) (w : World) (hB : Rb w g e0 e1 e2 e3 e4 e5 a n c b m d 0 q) :
 Calls Tryz.prog 123 #[.pointer (some ⟨g, 0, none⟩)] w fun e w' => e = .returned (.tuple #[.agg #[.int .i64 1, .bool false, .int .u64 0, .int .u64 0, .int .i64 0], .int .i64 2]) ∧ Below w.heap.size w w' := by
 have b0 : Below w.heap.size w (w.alloc (.cells #[.int .i64 0, .bool false, .int .u64 0, .int .u64 0, .int .i64 0] 35)) := (Below.refl _ _).alloc (Nat.le_refl _) _
 have hP : Cls (w.alloc (.cells #[.int .i64 0, .bool false, .int .u64 0, .int .u64 0, .int .i64 0] 35)) w.heap.size #[.int .i64 0, .bool false, .int .u64 0, .int .u64 0, .int .i64 0] 35 := Cls.new _ _ _
 have lg : g < w.heap.size := Cls.lt hB
 replace hB := hB.below b0
 generalize hV : (w.alloc (.cells #[.int .i64 0, .bool false, .int .u64 0, .int .u64 0, .int .i64 0] 35)) = v0 at *
 go_enter Tryz.func123, Tryz.ntmps123
 go_upto_region 1 with fail
 clear hV
 have b8 := Cls.cell hB 8 rfl
 have b9 := Cls.cell hB 9 rfl
 rw [hi0] at b8
 rw [lo0] at b9
 have p0 := hP.cell 0 rfl
 have g0 := hP.frozen 0
 have p1 := hP.cell 1 rfl
 have g1 := hP.frozen 1
 have p2 := hP.cell 2 rfl
 have g2 := hP.frozen 2
 have p3 := hP.cell 3 rfl
 have g3 := hP.frozen 3
 have p4 := hP.cell 4 rfl
 have g4 := hP.frozen 4
 go_wp2_with fail
 have R4 := Cls.set (Cls.set (Cls.set (Cls.set (Cls.set hP 0 (.int .i64 1) _ rfl) 1 (.bool false) _ rfl) 2 (.int .u64 0) _ rfl) 3 (.int .u64 0) _ rfl) 4 (.int .i64 0) #[.int .i64 1, .bool false, .int .u64 0, .int .u64 0, .int .i64 0] rfl
 have B4 := (((((b0).setCell (p := ⟨w.heap.size, 0, none⟩) (Nat.le_refl _) (.int .i64 1)).setCell (p := ⟨w.heap.size, 1, none⟩) (Nat.le_refl _) (.bool false)).setCell (p := ⟨w.heap.size, 2, none⟩) (Nat.le_refl _) (.int .u64 0)).setCell (p := ⟨w.heap.size, 3, none⟩) (Nat.le_refl _) (.int .u64 0)).setCell (p := ⟨w.heap.size, 4, none⟩) (Nat.le_refl _) (.int .i64 0)
 have R5 := R4
 have B5 := B4
 clear R4 B4
 generalize (((((v0.setCell ⟨w.heap.size, 0, none⟩ (.int .i64 1)).setCell ⟨w.heap.size, 1, none⟩ (.bool false)).setCell ⟨w.heap.size, 2, none⟩ (.int .u64 0)).setCell ⟨w.heap.size, 3, none⟩ (.int .u64 0)).setCell ⟨w.heap.size, 4, none⟩ (.int .i64 0)) = Yw at R5 B5 ⊢
 have q0 := R5.cell 0 rfl
 have q1 := R5.cell 1 rfl
 have q2 := R5.cell 2 rfl
 have q3 := R5.cell 3 rfl
 have q4 := R5.cell 4 rfl
 exact bodyPost_ret (v := .tuple #[.agg #[.int .i64 1, .bool false, .int .u64 0, .int .u64 0, .int .i64 0], .int .i64 2]) (by simp [results, Tryz.results123, go_sem, q0, q1, q2, q3, q4]) rfl ⟨rfl, B5⟩

theorem vQ (g : Nat) (e0 e1 e2 e3 e4 : Int) (e5 : Bool) (a b : Option Addr) (n c m d S : Nat) (q : Int) (w : World) (hB : Rb w g e0 e1 e2 e3 e4 e5 a n c b m d S q) (hS : ¬ S = 0) (Ld : Nat) (cz : Int) (kL : ∀ v : World, Calls Tryz.prog 68 #[.agg #[.int .i64 e0, .int .i64 e1, .int .i64 e2, .int .i64 e3, .int .i64 e4, .bool e5]] v fun e w' => e = .returned (.agg #[.int .u64 (M.hiN Ld : Int), .int .u64 (M.loN Ld : Int)]) ∧ Below v.heap.size v w') (kC : ∀ v : World, Calls Tryz.prog 69 #[.agg #[.int .u64 (M.hiN S : Int), .int .u64 (M.loN S : Int)], .agg #[.int .u64 (M.hiN Ld : Int), .int .u64 (M.loN Ld : Int)]] v fun e w' => e = .returned (.int .i64 cz) ∧ Below v.heap.size v w') (K FL A B Q : Int) (hc : (cz < 0 ∧ K = 2 ∧ FL = 2 ∧ A = (M.hiN S : Int) ∧ B = (M.loN S : Int) ∧ Q = q) ∨ (¬ cz < 0 ∧ (-100000 ≤ q ∧ q ≤ 200000 ∧ 0 ≤ e0 ∧ e0 ≤ 200) ∧ ((e2 < q + e0 - 1 ∧ K = 4 ∧ FL = 1 ∧ A = 0 ∧ B = 0 ∧ Q = 0) ∨ (¬ e2 < q + e0 - 1 ∧ K = 3 ∧ FL = 0 ∧ A = (M.hiN S : Int) ∧ B = (M.loN S : Int) ∧ Q = q)))) :
 Calls Tryz.prog 123 #[.pointer (some ⟨g, 0, none⟩)] w fun e w' => e = .returned (.tuple #[.agg #[.int .i64 K, .bool false, .int .u64 A, .int .u64 B, .int .i64 Q], .int .i64 FL]) ∧ Below w.heap.size w w' := by
 have HC := hid hc
 clear hc
 have b0 : Below w.heap.size w (w.alloc (.cells #[.int .i64 0, .bool false, .int .u64 0, .int .u64 0, .int .i64 0] 35)) := (Below.refl _ _).alloc (Nat.le_refl _) _
 have hP : Cls (w.alloc (.cells #[.int .i64 0, .bool false, .int .u64 0, .int .u64 0, .int .i64 0] 35)) w.heap.size #[.int .i64 0, .bool false, .int .u64 0, .int .u64 0, .int .i64 0] 35 := Cls.new _ _ _
 have lg : g < w.heap.size := Cls.lt hB
 replace hB := hB.below b0
 generalize hV : (w.alloc (.cells #[.int .i64 0, .bool false, .int .u64 0, .int .u64 0, .int .i64 0] 35)) = v0 at *
 go_enter Tryz.func123, Tryz.ntmps123
 go_upto_region 1 with fail
 clear hV
 have E1 : Hid (¬ S = 0) := hS
 go_cut [4] (fun x wx => x = .bool false ∧ wx = v0)
 case first =>
  have b8 := Cls.cell hB 8 rfl
  have b9 := Cls.cell hB 9 rfl
  by_cases q0 : M.hiN S = 0
  · have q1 : ¬ M.loN S = 0 := fun hh => hS (M.uI (q0.trans hi0.symm) (hh.trans lo0.symm))
    have q2 : ((M.loN S : Int) == 0) = false := by simp; omega
    have q3 : ((M.hiN S : Int) == 0) = true := by simp; omega
    have H0 := hid q0; have H1 := hid q1; clear q0 q1 hS
    go_wp2_with fail
    go_meet
    case rel => exact ⟨rfl, rfl⟩
  · have q2 : ((M.hiN S : Int) == 0) = false := by simp; omega
    have H0 := hid q0; clear q0 hS
    go_wp2_with fail
    go_meet
    case rel => exact ⟨rfl, rfl⟩
 case rest =>
 obtain ⟨rfl, rfl⟩ := hcut
 clear hS
 go_upto_region 3 with fail
 go_cut [12] (fun x wx => x = .bool (decide (cz < 0)) ∧ Below wc.heap.size wc wx)
 case first =>
  have A0 : Below wc.heap.size wc wc.drew := (Below.refl _ _).drew
  have KB : ∀ v, Below wc.heap.size wc v → (fun v => v.cell? ⟨g, 8, none⟩ = some (.int .u64 (M.hiN S : Int)) ∧ v.cell? ⟨g, 9, none⟩ = some (.int .u64 (M.loN S : Int)) ∧ v.cell? ⟨g, 0, none⟩ = some (.int .i64 e0) ∧ v.cell? ⟨g, 1, none⟩ = some (.int .i64 e1) ∧ v.cell? ⟨g, 2, none⟩ = some (.int .i64 e2) ∧ v.cell? ⟨g, 3, none⟩ = some (.int .i64 e3) ∧ v.cell? ⟨g, 4, none⟩ = some (.int .i64 e4) ∧ v.cell? ⟨g, 5, none⟩ = some (.bool e5)) v := fun v hv => ⟨Cls.cell (hB.below hv) 8 rfl, Cls.cell (hB.below hv) 9 rfl, Cls.cell (hB.below hv) 0 rfl, Cls.cell (hB.below hv) 1 rfl, Cls.cell (hB.below hv) 2 rfl, Cls.cell (hB.below hv) 3 rfl, Cls.cell (hB.below hv) 4 rfl, Cls.cell (hB.below hv) 5 rfl⟩
  go_region_held3 (fun v => v.cell? ⟨g, 8, none⟩ = some (.int .u64 (M.hiN S : Int)) ∧ v.cell? ⟨g, 9, none⟩ = some (.int .u64 (M.loN S : Int)) ∧ v.cell? ⟨g, 0, none⟩ = some (.int .i64 e0) ∧ v.cell? ⟨g, 1, none⟩ = some (.int .i64 e1) ∧ v.cell? ⟨g, 2, none⟩ = some (.int .i64 e2) ∧ v.cell? ⟨g, 3, none⟩ = some (.int .i64 e3) ∧ v.cell? ⟨g, 4, none⟩ = some (.int .i64 e4) ∧ v.cell? ⟨g, 5, none⟩ = some (.bool e5)) (first | with_reducible exact KB _ hb2 | with_reducible exact KB _ hb1 | with_reducible exact KB _ A0) (first | (have hq := hb1; clear hq; go_at_call 69; refine (kC _).mono ?_; rintro e u2 ⟨rfl, hb0⟩; have hb2 := aB (w1 := wc) hb1 hb0; clear hb0) | (go_at_call 68; refine (kL _).mono ?_; rintro e u1 ⟨rfl, hb0⟩; have hb1 := aB (w1 := wc) A0 hb0; clear hb0))
  all_goals go_wp2_with fail
  all_goals go_meet
  all_goals exact ⟨rfl, hb2⟩
 case rest =>
 obtain ⟨rfl, hbx⟩ := hcut
 replace hB := hB.below hbx
 replace hP := hP.below hbx
 replace b0 := b0.trans (hbx.mono b0.size)
 clear hbx kL kC
 rcases HC.out with ⟨hcz, y0, y1, y2, y3, y4⟩ | ⟨hcz, ⟨hq1, hq2, he1, he2⟩, ⟨hov, y0, y1, y2, y3, y4⟩ | ⟨hov, y0, y1, y2, y3, y4⟩⟩
 go_upto_region 4 with fail
 rotate_left
 have w9 : IntKind.i64.wrap (q + e0) = q + e0 := by rw [IntKind.wrap_i64]; omega
 have w10 : IntKind.i64.wrap (q + e0 - 1) = q + e0 - 1 := by rw [IntKind.wrap_i64]; omega
 go_upto_region 5 with fail
 have b10 := Cls.cell hB 10 rfl
 have b0' := Cls.cell hB 0 rfl
 have b2' := Cls.cell hB 2 rfl
 go_quiet (fail)
 replace hB := hB.below (jL _ nq)
 replace hP := hP.below (jL _ nq)
 replace b0 := b0.trans ((jL _ nq).mono b0.size)
 generalize wc.drewN nq = wc at *
 clear b10 b0' b2'
 have p0 := hP.cell 0 rfl
 have g0 := hP.frozen 0
 have p1 := hP.cell 1 rfl
 have g1 := hP.frozen 1
 have p2 := hP.cell 2 rfl
 have g2 := hP.frozen 2
 have p3 := hP.cell 3 rfl
 have g3 := hP.frozen 3
 have p4 := hP.cell 4 rfl
 have g4 := hP.frozen 4
 have q0 := fun x0 x1 x2 x3 x4 => (bx5 hP rfl x0 x1 x2 x3 x4).cell 0 rfl
 have q1 := fun x0 x1 x2 x3 x4 => (bx5 hP rfl x0 x1 x2 x3 x4).cell 1 rfl
 have q2 := fun x0 x1 x2 x3 x4 => (bx5 hP rfl x0 x1 x2 x3 x4).cell 2 rfl
 have q3 := fun x0 x1 x2 x3 x4 => (bx5 hP rfl x0 x1 x2 x3 x4).cell 3 rfl
 have q4 := fun x0 x1 x2 x3 x4 => (bx5 hP rfl x0 x1 x2 x3 x4).cell 4 rfl
 have HB := hid b0
 clear b0 HC
 go_wp2_with fail
 exact bodyPost_ret (v := .tuple #[.agg #[.int .i64 K, .bool false, .int .u64 A, .int .u64 B, .int .i64 Q], .int .i64 FL]) (by simp [results, Tryz.results123, go_sem, q0, q1, q2, q3, q4, y0, y1, y2, y3, y4]) rfl ⟨rfl, by first | exact bw5 HB.out _ (Nat.le_refl _) _ _ _ _ _ | exact (bw5 HB.out _ (Nat.le_refl _) _ _ _ _ _).drew⟩
 have w9 : IntKind.i64.wrap (q + e0) = q + e0 := by rw [IntKind.wrap_i64]; omega
 have w10 : IntKind.i64.wrap (q + e0 - 1) = q + e0 - 1 := by rw [IntKind.wrap_i64]; omega
 go_upto_region 5 with fail
 have b10 := Cls.cell hB 10 rfl
 have b0' := Cls.cell hB 0 rfl
 have b2' := Cls.cell hB 2 rfl
 go_quiet (fail)
 replace hB := hB.below (jL _ nq)
 replace hP := hP.below (jL _ nq)
 replace b0 := b0.trans ((jL _ nq).mono b0.size)
 generalize wc.drewN nq = wc at *
 clear b10 b0' b2'
 go_upto_region 7 with fail
 all_goals (
  have A0 : Below wc.heap.size wc wc.drew := (Below.refl _ _).drew
  have b8 := Cls.cell hB 8 rfl
  have b9 := Cls.cell hB 9 rfl
  have b10 := Cls.cell hB 10 rfl
  have c8 := Cls.cell (hB.below A0) 8 rfl
  have c9 := Cls.cell (hB.below A0) 9 rfl
  have c10 := Cls.cell (hB.below A0) 10 rfl
  have p0 := hP.cell 0 rfl
  have g0 := hP.frozen 0
  have p1 := hP.cell 1 rfl
  have g1 := hP.frozen 1
  have p2 := hP.cell 2 rfl
  have g2 := hP.frozen 2
  have p3 := hP.cell 3 rfl
  have g3 := hP.frozen 3
  have p4 := hP.cell 4 rfl
  have g4 := hP.frozen 4
  have hP' := hP.below A0
  have r0 := hP'.cell 0 rfl
  have s0 := hP'.frozen 0
  have r1 := hP'.cell 1 rfl
  have s1 := hP'.frozen 1
  have r2 := hP'.cell 2 rfl
  have s2 := hP'.frozen 2
  have r3 := hP'.cell 3 rfl
  have s3 := hP'.frozen 3
  have r4 := hP'.cell 4 rfl
  have s4 := hP'.frozen 4
  have q0 := fun x0 x1 x2 x3 x4 => (bx5 hP rfl x0 x1 x2 x3 x4).cell 0 rfl
  have q1 := fun x0 x1 x2 x3 x4 => (bx5 hP rfl x0 x1 x2 x3 x4).cell 1 rfl
  have q2 := fun x0 x1 x2 x3 x4 => (bx5 hP rfl x0 x1 x2 x3 x4).cell 2 rfl
  have q3 := fun x0 x1 x2 x3 x4 => (bx5 hP rfl x0 x1 x2 x3 x4).cell 3 rfl
  have q4 := fun x0 x1 x2 x3 x4 => (bx5 hP rfl x0 x1 x2 x3 x4).cell 4 rfl
  have HB := hid b0
  clear b0 HC
  go_region_with (fail)
  all_goals go_wp2_with fail
  all_goals exact bodyPost_ret (v := .tuple #[.agg #[.int .i64 K, .bool false, .int .u64 A, .int .u64 B, .int .i64 Q], .int .i64 FL]) (by simp [results, Tryz.results123, go_sem, q0, q1, q2, q3, q4, y0, y1, y2, y3, y4]) rfl ⟨rfl, by first | exact bw5 HB.out _ (Nat.le_refl _) _ _ _ _ _ | exact (bw5 HB.out _ (Nat.le_refl _) _ _ _ _ _).drew⟩)

end Go.Proofs.YtdfljbpcjkbflaaGreatDoor
