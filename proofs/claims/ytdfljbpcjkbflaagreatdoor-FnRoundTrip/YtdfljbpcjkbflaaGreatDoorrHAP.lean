import Derived.Test.YtdfljbpcjkbflaaGreatDoorrHAO
set_option maxHeartbeats 4000000
set_option maxRecDepth 100000
namespace Go.Proofs.YtdfljbpcjkbflaaGreatDoor
open Go.RowKit
set_option linter.unusedVariables false
set_option maxRecDepth 100000
theorem uQ (ng : Bool) (e0 e1 e2 e3 e4 : Int) (e5 : Bool) (a b : Option Addr) (c m d : Nat) (w : World) (Y : Nat) (kP : ∀ v : World, Calls Tryz.prog 50 #[.agg #[.int .i64 e0, .int .i64 e1, .int .i64 e2, .int .i64 e3, .int .i64 e4, .bool e5], .agg #[.int .i64 1, .bool ng, .int .u64 0, .int .u64 0, .int .i64 0]] v fun e w' => e = .returned (.agg #[.int .u64 (M.hiN Y : Int), .int .u64 (M.loN Y : Int)]) ∧ Below v.heap.size v w') :
 Calls Tryz.prog 96 #[.agg #[.int .i64 e0, .int .i64 e1, .int .i64 e2, .int .i64 e3, .int .i64 e4, .bool e5], .bool ng, .slice a 0 c, .slice b m d] w fun e w' => e = .returned (.agg #[.int .u64 (M.hiN Y : Int), .int .u64 (M.loN Y : Int), .int .i64 0, .bool true]) ∧ Below w.heap.size w w' := by
 have b0 : Below w.heap.size w ((w.alloc (.cells #[.int .i64 e0, .int .i64 e1, .int .i64 e2, .int .i64 e3, .int .i64 e4, .bool e5] 51)).alloc (.cells #[.int .u64 0, .int .u64 0, .int .i64 0, .bool false] 133)) := ((Below.refl _ _).alloc (Nat.le_refl _) _).alloc (by simp) _
 have hD : Cls ((w.alloc (.cells #[.int .i64 e0, .int .i64 e1, .int .i64 e2, .int .i64 e3, .int .i64 e4, .bool e5] 51)).alloc (.cells #[.int .u64 0, .int .u64 0, .int .i64 0, .bool false] 133)) w.heap.size #[.int .i64 e0, .int .i64 e1, .int .i64 e2, .int .i64 e3, .int .i64 e4, .bool e5] 51 := (Cls.new w _ _).below ((Below.refl _ _).alloc (Nat.le_refl _) _)
 have hR : Cls ((w.alloc (.cells #[.int .i64 e0, .int .i64 e1, .int .i64 e2, .int .i64 e3, .int .i64 e4, .bool e5] 51)).alloc (.cells #[.int .u64 0, .int .u64 0, .int .i64 0, .bool false] 133)) (w.heap.size + 1) #[.int .u64 0, .int .u64 0, .int .i64 0, .bool false] 133 := by
  have := Cls.new (w.alloc (.cells #[.int .i64 e0, .int .i64 e1, .int .i64 e2, .int .i64 e3, .int .i64 e4, .bool e5] 51)) #[.int .u64 0, .int .u64 0, .int .i64 0, .bool false] 133
  rwa [World.size_alloc] at this
 generalize hV : ((w.alloc (.cells #[.int .i64 e0, .int .i64 e1, .int .i64 e2, .int .i64 e3, .int .i64 e4, .bool e5] 51)).alloc (.cells #[.int .u64 0, .int .u64 0, .int .i64 0, .bool false] 133)) = v0 at *
 go_enter Tryz.func96, Tryz.ntmps96
 go_upto_region 1 with fail
 clear hV
 have d0 := hD.cell 0 rfl
 have d1 := hD.cell 1 rfl
 have d2 := hD.cell 2 rfl
 have d3 := hD.cell 3 rfl
 have d4 := hD.cell 4 rfl
 have d5 := hD.cell 5 rfl
 go_wp2_with fail
 refine (kP _).mono ?_
 rintro e v1 ⟨rfl, hb1⟩
 replace b0 := b0.trans (hb1.mono b0.size)
 replace hR := hR.below hb1
 clear hb1 d0 d1 d2 d3 d4 d5
 have r0 := hR.cell 0 rfl
 have s0 := hR.frozen 0
 have r1 := hR.cell 1 rfl
 have s1 := hR.frozen 1
 have r2 := hR.cell 2 rfl
 have s2 := hR.frozen 2
 have r3 := hR.cell 3 rfl
 have s3 := hR.frozen 3
 go_wp2_with fail
 have R5 := Cls.set (Cls.set (Cls.set (Cls.set (hR) 0 (.int .u64 (M.hiN Y : Int)) _ rfl) 1 (.int .u64 (M.loN Y : Int)) _ rfl) 2 (.int .i64 0) _ rfl) 3 (.bool true) #[.int .u64 (M.hiN Y : Int), .int .u64 (M.loN Y : Int), .int .i64 0, .bool true] rfl
 have B5 := ((((b0).setCell (p := ⟨w.heap.size + 1, 0, none⟩) (by simp only; omega) (.int .u64 (M.hiN Y : Int))).setCell (p := ⟨w.heap.size + 1, 1, none⟩) (by simp only; omega) (.int .u64 (M.loN Y : Int))).setCell (p := ⟨w.heap.size + 1, 2, none⟩) (by simp only; omega) (.int .i64 0)).setCell (p := ⟨w.heap.size + 1, 3, none⟩) (by simp only; omega) (.bool true)
 generalize ((((v1.setCell ⟨w.heap.size + 1, 0, none⟩ (.int .u64 (M.hiN Y : Int))).setCell ⟨w.heap.size + 1, 1, none⟩ (.int .u64 (M.loN Y : Int))).setCell ⟨w.heap.size + 1, 2, none⟩ (.int .i64 0)).setCell ⟨w.heap.size + 1, 3, none⟩ (.bool true)) = Yw at R5 B5 ⊢
 have q0 := R5.cell 0 rfl
 have q1 := R5.cell 1 rfl
 have q2 := R5.cell 2 rfl
 have q3 := R5.cell 3 rfl
 exact bodyPost_ret (v := .agg #[.int .u64 (M.hiN Y : Int), .int .u64 (M.loN Y : Int), .int .i64 0, .bool true]) (by simp [results, Tryz.results96, go_sem, q0, q1, q2, q3]) rfl ⟨rfl, B5⟩

theorem xP (ng : Bool) (e0 e1 e2 e3 e4 : Int) (e5 : Bool) (a b : Option Addr) (c d N De : Nat) (w : World) (hN : (((L N).length : Int) == 0) = false) (ra : Rd w a (L N)) (rb : Rd w b (L De)) (X Y0 S1 S : Nat) (Q Xq PC PQ FL : Int) (PS Y : Nat)
 (kS : ∀ (v : World) (g : Nat), Rb v g e0 e1 e2 e3 e4 e5 a (L N).length c b (L De).length d 0 0 → Rd v a (L N) → Rd v b (L De) → bL a (L N) g → bL b (L De) g →
   Calls Tryz.prog 120 #[.pointer (some ⟨g, 0, none⟩)] v fun e w' => (∃ v, e = .returned v) ∧ ∃ (a1 : Option Addr) (c1 : Nat) (a2 : Option Addr) (c2 : Nat), Rb w' g e0 e1 e2 e3 e4 e5 a1 (L X).length c1 a2 (L Y0).length c2 0 Q ∧ Rd w' a1 (L X) ∧ Rd w' a2 (L Y0) ∧ bL a1 (L X) g ∧ bL a2 (L Y0) g ∧ v.grownBy w' (some g))
 (kN : ∀ (v : World) (g : Nat) (a1 : Option Addr) (c1 : Nat) (a2 : Option Addr) (c2 : Nat), Rb v g e0 e1 e2 e3 e4 e5 a1 (L X).length c1 a2 (L Y0).length c2 0 Q → Rd v a1 (L X) → Rd v a2 (L Y0) → bL a1 (L X) g → bL a2 (L Y0) g →
   Calls Tryz.prog 121 #[.pointer (some ⟨g, 0, none⟩)] v fun e w' => (∃ v, e = .returned v) ∧ Rb w' g e0 e1 e2 e3 e4 e5 a1 (L X).length c1 a2 (L Y0).length c2 S1 Q ∧ v.grownBy w' (some g))
 (kC : ∀ (v : World) (g : Nat) (a1 : Option Addr) (n1 c1 : Nat) (a2 : Option Addr) (n2 c2 : Nat), Rb v g e0 e1 e2 e3 e4 e5 a1 n1 c1 a2 n2 c2 S1 Q →
   Calls Tryz.prog 122 #[.pointer (some ⟨g, 0, none⟩)] v fun e w' => (∃ v, e = .returned v) ∧ Rb w' g e0 e1 e2 e3 e4 e5 a1 n1 c1 a2 n2 c2 S Xq ∧ v.grownBy w' (some g))
 (kO : ∀ (v : World) (g : Nat) (a1 : Option Addr) (n1 c1 : Nat) (a2 : Option Addr) (n2 c2 : Nat), Rb v g e0 e1 e2 e3 e4 e5 a1 n1 c1 a2 n2 c2 S Xq →
   Calls Tryz.prog 123 #[.pointer (some ⟨g, 0, none⟩)] v fun e w' => e = .returned (.tuple #[.agg #[.int .i64 PC, .bool false, .int .u64 (M.hiN PS : Int), .int .u64 (M.loN PS : Int), .int .i64 PQ], .int .i64 FL]) ∧ Below v.heap.size v w')
 (kP : ∀ v : World, Calls Tryz.prog 50 #[.agg #[.int .i64 e0, .int .i64 e1, .int .i64 e2, .int .i64 e3, .int .i64 e4, .bool e5], .agg #[.int .i64 PC, .bool ng, .int .u64 (M.hiN PS : Int), .int .u64 (M.loN PS : Int), .int .i64 PQ]] v fun e w' => e = .returned (.agg #[.int .u64 (M.hiN Y : Int), .int .u64 (M.loN Y : Int)]) ∧ Below v.heap.size v w') :
 Calls Tryz.prog 96 #[.agg #[.int .i64 e0, .int .i64 e1, .int .i64 e2, .int .i64 e3, .int .i64 e4, .bool e5], .bool ng, .slice a (L N).length c, .slice b (L De).length d] w fun e w' => e = .returned (.agg #[.int .u64 (M.hiN Y : Int), .int .u64 (M.loN Y : Int), .int .i64 FL, .bool true]) ∧ Below w.heap.size w w' := by
 have b0 : Below w.heap.size w ((w.alloc (.cells #[.int .i64 e0, .int .i64 e1, .int .i64 e2, .int .i64 e3, .int .i64 e4, .bool e5] 51)).alloc (.cells #[.int .u64 0, .int .u64 0, .int .i64 0, .bool false] 133)) := ((Below.refl _ _).alloc (Nat.le_refl _) _).alloc (by simp) _
 have hD : Cls ((w.alloc (.cells #[.int .i64 e0, .int .i64 e1, .int .i64 e2, .int .i64 e3, .int .i64 e4, .bool e5] 51)).alloc (.cells #[.int .u64 0, .int .u64 0, .int .i64 0, .bool false] 133)) w.heap.size #[.int .i64 e0, .int .i64 e1, .int .i64 e2, .int .i64 e3, .int .i64 e4, .bool e5] 51 := (Cls.new w _ _).below ((Below.refl _ _).alloc (Nat.le_refl _) _)
 have hR : Cls ((w.alloc (.cells #[.int .i64 e0, .int .i64 e1, .int .i64 e2, .int .i64 e3, .int .i64 e4, .bool e5] 51)).alloc (.cells #[.int .u64 0, .int .u64 0, .int .i64 0, .bool false] 133)) (w.heap.size + 1) #[.int .u64 0, .int .u64 0, .int .i64 0, .bool false] 133 := by
  have := Cls.new (w.alloc (.cells #[.int .i64 e0, .int .i64 e1, .int .i64 e2, .int .i64 e3, .int .i64 e4, .bool e5] 51)) #[.int .u64 0, .int .u64 0, .int .i64 0, .bool false] 133
  rwa [World.size_alloc] at this
 generalize hV : ((w.alloc (.cells #[.int .i64 e0, .int .i64 e1, .int .i64 e2, .int .i64 e3, .int .i64 e4, .bool e5] 51)).alloc (.cells #[.int .u64 0, .int .u64 0, .int .i64 0, .bool false] 133)) = v0 at *
 go_enter Tryz.func96, Tryz.ntmps96
 go_upto_region 1 with fail
 clear hV
 have d0 := hD.cell 0 rfl
 have d1 := hD.cell 1 rfl
 have d2 := hD.cell 2 rfl
 have d3 := hD.cell 3 rfl
 have d4 := hD.cell 4 rfl
 have d5 := hD.cell 5 rfl
 go_upto_region 4 with fail
 have hB : Rb (v0.alloc (.cells #[.int .i64 e0, .int .i64 e1, .int .i64 e2, .int .i64 e3, .int .i64 e4, .bool e5, .slice a (L N).length c, .slice b (L De).length d, .int .u64 0, .int .u64 0, .int .i64 0] 156)) v0.heap.size e0 e1 e2 e3 e4 e5 a (L N).length c b (L De).length d 0 0 := by
  unfold Rb
  rw [hi0, lo0]
  exact Cls.new _ _ _
 have bA : Below v0.heap.size v0 (v0.alloc (.cells #[.int .i64 e0, .int .i64 e1, .int .i64 e2, .int .i64 e3, .int .i64 e4, .bool e5, .slice a (L N).length c, .slice b (L De).length d, .int .u64 0, .int .u64 0, .int .i64 0] 156)) := (Below.refl _ _).alloc (Nat.le_refl _) _
 have lg : w.heap.size + 1 < v0.heap.size := hR.lt
 replace ra := ra.below b0
 replace rb := rb.below b0
 have sa := oY ra (Nat.le_refl _)
 have sb := oY rb (Nat.le_refl _)
 replace ra := ra.below bA
 replace rb := rb.below bA
 replace b0 := b0.trans (bA.mono b0.size)
 replace hR := hR.below bA
 clear bA hD d0 d1 d2 d3 d4 d5
 generalize (v0.alloc (.cells #[.int .i64 e0, .int .i64 e1, .int .i64 e2, .int .i64 e3, .int .i64 e4, .bool e5, .slice a (L N).length c, .slice b (L De).length d, .int .u64 0, .int .u64 0, .int .i64 0] 156)) = v1 at *
 generalize v0.heap.size = g at *
 have BG : ∀ {u v : World}, Below w.heap.size w u → u.grownBy v (some g) → Below w.heap.size w v := fun hb hg => hb.grown hg hb.size (fun k hk => by injection hk with hk; omega)
 go_wp2_with fail
 refine (kS _ _ hB ra rb sa sb).mono ?_
 rintro e v2 ⟨⟨z1, rfl⟩, a1, c1, a2, c2, hB2, r1, r2, s1, s2, hg2⟩
 replace b0 := BG b0 hg2
 replace hR := hR.grown hg2 (by intro e; injection e; omega)
 clear kS hB ra rb sa sb hg2
 go_wp2_with fail
 refine (kN _ _ _ _ _ _ hB2 r1 r2 s1 s2).mono ?_
 rintro e v3 ⟨⟨z2, rfl⟩, hB3, hg3⟩
 replace b0 := BG b0 hg3
 replace hR := hR.grown hg3 (by intro e; injection e; omega)
 clear kN hB2 r1 r2 s1 s2 hg3
 go_wp2_with fail
 refine (kC _ _ _ _ _ _ _ _ hB3).mono ?_
 rintro e v4 ⟨⟨z3, rfl⟩, hB4, hg4⟩
 replace b0 := BG b0 hg4
 replace hR := hR.grown hg4 (by intro e; injection e; omega)
 clear kC hB3 hg4
 go_wp2_with fail
 refine (kO _ _ _ _ _ _ _ _ hB4).mono ?_
 rintro e v5 ⟨rfl, hb5⟩
 replace b0 := b0.trans (hb5.mono b0.size)
 replace hR := hR.below hb5
 replace hB4 := hB4.below hb5
 clear kO hb5 BG
 have lB : g < v5.heap.size := Cls.lt hB4
 go_upto_region 8 with fail
 have hP : Cls (v5.alloc (.cells #[.int .i64 PC, .bool false, .int .u64 (M.hiN PS : Int), .int .u64 (M.loN PS : Int), .int .i64 PQ] 35)) v5.heap.size #[.int .i64 PC, .bool false, .int .u64 (M.hiN PS : Int), .int .u64 (M.loN PS : Int), .int .i64 PQ] 35 := Cls.new _ _ _
 have bA : Below v5.heap.size v5 (v5.alloc (.cells #[.int .i64 PC, .bool false, .int .u64 (M.hiN PS : Int), .int .u64 (M.loN PS : Int), .int .i64 PQ] 35)) := (Below.refl _ _).alloc (Nat.le_refl _) _
 replace b0 := b0.trans (bA.mono b0.size)
 replace hR := hR.below bA
 replace hB4 := hB4.below bA
 clear bA
 generalize (v5.alloc (.cells #[.int .i64 PC, .bool false, .int .u64 (M.hiN PS : Int), .int .u64 (M.loN PS : Int), .int .i64 PQ] 35)) = v6 at *
 generalize v5.heap.size = gp at *
 have p1 := hP.cell 1 rfl
 have g1 := hP.frozen 1
 go_upto_region 9 with fail
 clear p1 g1
 replace hP := Cls.set hP 1 (.bool ng) #[.int .i64 PC, .bool ng, .int .u64 (M.hiN PS : Int), .int .u64 (M.loN PS : Int), .int .i64 PQ] rfl
 replace hR := hR.far ⟨gp, 1, none⟩ (by simp only; omega) (.bool ng)
 replace hB4 : Rb (v6.setCell ⟨gp, 1, none⟩ (.bool ng)) _ _ _ _ _ _ _ _ _ _ _ _ _ _ _ := Cls.far hB4 ⟨gp, 1, none⟩ (by simp only; omega) (.bool ng)
 replace b0 := b0.setCell (p := ⟨gp, 1, none⟩) (by simp only; omega) (.bool ng)
 generalize (v6.setCell ⟨gp, 1, none⟩ (.bool ng)) = v7 at *
 have b0x := Cls.cell hB4 0 rfl
 have b1 := Cls.cell hB4 1 rfl
 have b2 := Cls.cell hB4 2 rfl
 have b3 := Cls.cell hB4 3 rfl
 have b4 := Cls.cell hB4 4 rfl
 have b5 := Cls.cell hB4 5 rfl
 have p0 := hP.cell 0 rfl
 have p1 := hP.cell 1 rfl
 have p2 := hP.cell 2 rfl
 have p3 := hP.cell 3 rfl
 have p4 := hP.cell 4 rfl
 go_wp2_with fail
 refine (kP _).mono ?_
 rintro e v8 ⟨rfl, hb8⟩
 replace b0 := b0.trans (hb8.mono b0.size)
 replace hR := hR.below hb8
 clear hb8 b0x b1 b2 b3 b4 b5 p0 p1 p2 p3 p4 hP hB4 kP
 have r0 := hR.cell 0 rfl
 have s0 := hR.frozen 0
 have r1 := hR.cell 1 rfl
 have s1 := hR.frozen 1
 have r2 := hR.cell 2 rfl
 have s2 := hR.frozen 2
 have r3 := hR.cell 3 rfl
 have s3 := hR.frozen 3
 go_wp2_with fail
 have R5 := Cls.set (Cls.set (Cls.set (Cls.set (hR) 0 (.int .u64 (M.hiN Y : Int)) _ rfl) 1 (.int .u64 (M.loN Y : Int)) _ rfl) 2 (.int .i64 FL) _ rfl) 3 (.bool true) #[.int .u64 (M.hiN Y : Int), .int .u64 (M.loN Y : Int), .int .i64 FL, .bool true] rfl
 have B5 := ((((b0).setCell (p := ⟨w.heap.size + 1, 0, none⟩) (by simp only; omega) (.int .u64 (M.hiN Y : Int))).setCell (p := ⟨w.heap.size + 1, 1, none⟩) (by simp only; omega) (.int .u64 (M.loN Y : Int))).setCell (p := ⟨w.heap.size + 1, 2, none⟩) (by simp only; omega) (.int .i64 FL)).setCell (p := ⟨w.heap.size + 1, 3, none⟩) (by simp only; omega) (.bool true)
 generalize ((((v8.setCell ⟨w.heap.size + 1, 0, none⟩ (.int .u64 (M.hiN Y : Int))).setCell ⟨w.heap.size + 1, 1, none⟩ (.int .u64 (M.loN Y : Int))).setCell ⟨w.heap.size + 1, 2, none⟩ (.int .i64 FL)).setCell ⟨w.heap.size + 1, 3, none⟩ (.bool true)) = Yw at R5 B5 ⊢
 have q0 := R5.cell 0 rfl
 have q1 := R5.cell 1 rfl
 have q2 := R5.cell 2 rfl
 have q3 := R5.cell 3 rfl
 exact bodyPost_ret (v := .agg #[.int .u64 (M.hiN Y : Int), .int .u64 (M.loN Y : Int), .int .i64 FL, .bool true]) (by simp [results, Tryz.results96, go_sem, q0, q1, q2, q3]) rfl ⟨rfl, B5⟩

end Go.Proofs.YtdfljbpcjkbflaaGreatDoor
namespace Go.Proofs.YtdfljbpcjkbflaaGreatDoor.M
set_option linter.unusedVariables false
set_option maxRecDepth 100000
theorem ID (N De : Nat) (h1 : aC N ≤ 83200) (h2 : aC De ≤ 83200) : -83201 ≤ rE N De ∧ rE N De ≤ 83200 := by
 unfold rE; split <;> omega

theorem Fm.Ok.rQ_le {F : Fm} (h : F.Ok) (N De : Nat) (h1 : aC N ≤ 83200) (h2 : aC De ≤ 83200) : -17000 ≤ F.rQ N De ∧ F.rQ N De ≤ 83200 ∧ F.qmin ≤ F.rQ N De ∧ -17000 ≤ F.qmin ∧ F.qmin < 0 := by
 have a := ID N De h1 h2
 have b := h.top2
 have p1 := h.p1
 have p2 := h.p2
 have hq : F.rQ N De = max (rE N De - F.p + 1) F.qmin := rfl
 have hm : F.qmin = 2 - (F.emax : Int) - (F.p : Int) := rfl
 omega

theorem FW (n m : Nat) : n / m + rUp n m = if 0 < aR (((n % m * 2 : Nat)) : Int) (m : Int) ∨ (aR (((n % m * 2 : Nat)) : Int) (m : Int) = 0 ∧ n / m % 2 = 1) then n / m + 1 else n / m := by
 unfold rUp
 have e : (m < 2 * (n % m) ∨ (2 * (n % m) = m ∧ n / m % 2 = 1)) ↔ (0 < aR (((n % m * 2 : Nat)) : Int) (m : Int) ∨ (aR (((n % m * 2 : Nat)) : Int) (m : Int) = 0 ∧ n / m % 2 = 1)) := by
  have h1 : 0 < aR (((n % m * 2 : Nat)) : Int) (m : Int) ↔ m < 2 * (n % m) := by
   unfold aR; split
   · omega
   · split <;> omega
  have h2 : aR (((n % m * 2 : Nat)) : Int) (m : Int) = 0 ↔ 2 * (n % m) = m := by
   unfold aR; split
   · omega
   · split <;> omega
  rw [h1, h2]
 by_cases hh : m < 2 * (n % m) ∨ (2 * (n % m) = m ∧ n / m % 2 = 1)
 · rw [if_pos hh, if_pos (e.1 hh)]
 · rw [if_neg hh, if_neg (fun k => hh (e.2 k))]; omega

end Go.Proofs.YtdfljbpcjkbflaaGreatDoor.M
namespace Go.Proofs.YtdfljbpcjkbflaaGreatDoor
open Go.RowKit
set_option linter.unusedVariables false
set_option maxRecDepth 100000
theorem C5 (dT sT t : TypeId) (hu : Tryz.prog.underlying dT = some (.slice 23)) (w1 : World) (g dn dc : Nat) (zs : List Value) (hg : w1.heap[g]? = some (.cells zs.toArray t (0, 0)))
 (ao : Option Addr) (ys : List Nat) (sn sc : Nat) (hy : ys.length = sn) (hr : Rd w1 ao ys) (h1 : sn ≤ dn) (h2 : sn ≤ zs.length) :
 ∃ w2, (Builtin.copy_ #[dT, sT] 3 #[.slice (some ⟨g, 0, none⟩) dn dc, .slice ao sn sc]).run Tryz.prog w1 = .ok (.int .i64 (sn : Int)) w2 ∧
   w2.heap[g]? = some (.cells (U ys ++ zs.drop sn).toArray t (0, 0)) ∧ w1.grownBy w2 (some g) := by
 have hs : (Tryz.prog.info? 23).map (·.size) = some 1 := by
  obtain ⟨i0, hi, hz0, hz1, hz2⟩ := info_parts Tryz.infoU
  rw [hi]; simp [hz1]
 by_cases h0 : sn = 0
 · subst h0
   have : ys = [] := List.eq_nil_of_length_eq_zero hy
   subst this
   refine ⟨w1, run_copy_none w1 dT sT 3 23 _ ao dn dc 0 sc hu hs (by simp), ?_, World.grownBy.refl _ _⟩
   simpa [U] using hg
 · obtain ⟨b, off, rfl, hc⟩ := hr (by omega)
   have hl : (U ys).length = sn := by rw [cT, hy]
   have e := run_copy_row (P := Tryz.prog) w1 dT sT 3 23 g 0 dn dc ⟨b, off, none⟩ sn sc zs.toArray t (U ys) hu hs hg (by rw [hl]; show sn = min sn dn; omega) (Rd.cellAdd (ao := none) hc) (by simp [hl]; omega) (gN ys)
   rw [hl] at e
   refine ⟨_, e, ?_, ?_⟩
   · rw [setRow_heap w1 g _ _ _ _ hg]; simp
   · exact ⟨rfl, rfl, rfl, by simp, fun k _ hk => setRow_other w1 g k _ (fun e => hk (by simp [e]))⟩

theorem EO (a k : Nat) : (L a).getD k 0 = a / 18446744073709551616 ^ k % 18446744073709551616 := M.dig_get (by omega) k a

theorem LC (a : Nat) (h : (L a).length ≤ 2) (ha : a < 2 ^ 128) : U (L a) ++ (U [0, 0]).drop (L a).length = U [M.loN a, M.hiN a] := by
 have e2 : L a ++ [0, 0].drop (L a).length = [M.loN a, M.hiN a] := by
  have h0 := EO a 0
  have h1 := EO a 1
  have hh := M.gS ha
  have hlo : M.loN a = a % 18446744073709551616 := rfl
  have hhi : M.hiN a = a / 18446744073709551616 := rfl
  match hL : L a, h with
  | [], _ =>
    rw [hL] at h0 h1
    simp at h0 h1 ⊢
    exact ⟨by omega, by omega⟩
  | [x], _ =>
    rw [hL] at h0 h1
    simp at h0 h1 ⊢
    exact ⟨by omega, by omega⟩
  | [x, y], _ =>
    rw [hL] at h0 h1
    simp at h0 h1 ⊢
    exact ⟨by omega, by omega⟩
 rw [← e2, cI]
 simp [U]

theorem DF {w : World} {g x y : Nat} {t : TypeId} (h : w.heap[g]? = some (.cells (U [x, y]).toArray t (0, 0))) : w.cell? ⟨g, 0, none⟩ = some (.int .u64 (x : Int)) ∧ w.cell? ⟨g, 1, none⟩ = some (.int .u64 (y : Int)) := by
 simp [World.cell?, h, U]

theorem wX (ao : Option Addr) (n c a : Nat) (w : World) (hl : (L a).length = n) (ha : a < 2 ^ 128) (hr : Rd w ao (L a)) :
 Calls Tryz.prog 143 #[.slice ao n c] w fun e w' => e = .returned (.agg #[.int .u64 (M.hiN a : Int), .int .u64 (M.loN a : Int)]) ∧ Below w.heap.size w w' := by
 have hn : n ≤ 2 := by rw [← hl]; exact M.len_of_lt (by omega) a 2 (by omega)
 have b0 : Below w.heap.size w ((w.alloc (.cells #[.int .u64 0, .int .u64 0] 25)).alloc (.cells #[.int .u64 0, .int .u64 0] 194)) := ((Below.refl _ _).alloc (Nat.le_refl _) _).alloc (by simp) _
 have HG : ((w.alloc (.cells #[.int .u64 0, .int .u64 0] 25)).alloc (.cells #[.int .u64 0, .int .u64 0] 194)).heap[w.heap.size + 1]? = some (.cells (U [0, 0]).toArray 194 (0, 0)) := by
  have := heap_alloc_new (w.alloc (.cells #[.int .u64 0, .int .u64 0] 25)) (.cells #[.int .u64 0, .int .u64 0] 194)
  simpa [U] using this
 obtain ⟨w2, hcp, hg2, hgr2⟩ := C5 53 71 194 Tryz.underlying53 _ (w.heap.size + 1) 2 2 (U [0, 0]) HG ao (L a) n c hl (hr.below b0) hn (by simp [U]; exact hn)
 rw [← hl, LC a (by omega) ha] at hg2
 obtain ⟨q0, q1⟩ := DF hg2
 obtain ⟨t0, t1, t2, t3⟩ := nO w 25 (.int .u64 0) (.int .u64 0)
 have ba : Below (w.alloc (.cells #[.int .u64 0, .int .u64 0] 25)).heap.size (w.alloc (.cells #[.int .u64 0, .int .u64 0] 25)) w2 := ((Below.refl _ _).alloc (Nat.le_refl _) _).grown hgr2 (by simp) (fun k hk => by cases hk; simp)
 have bb : Below w.heap.size w w2 := ((Below.refl w.heap.size w).alloc (Nat.le_refl _) _).trans (ba.mono (by simp))
 have r0 := (ba.cell (p := ⟨w.heap.size, 0, none⟩) (by simp)).trans t0
 have r1 := (ba.cell (p := ⟨w.heap.size, 1, none⟩) (by simp)).trans t1
 have z0 := (ba.frozen (p := ⟨w.heap.size, 0, none⟩) (by simp)).trans t2
 have z1 := (ba.frozen (p := ⟨w.heap.size, 1, none⟩) (by simp)).trans t3
 clear t0 t1 t2 t3 ba HG hgr2 hg2 hl
 go_enter Tryz.func143, Tryz.ntmps143
 go_wp2_with fail
 exact bodyPost_ret (v := .agg #[.int .u64 (M.hiN a : Int), .int .u64 (M.loN a : Int)]) (by simp [results, Tryz.results143, go_sem, r0, r1]) rfl ⟨rfl, (bb.setCell (p := ⟨w.heap.size, 0, none⟩) (Nat.le_refl _) _).setCell (p := ⟨w.heap.size, 1, none⟩) (Nat.le_refl _) _⟩

end Go.Proofs.YtdfljbpcjkbflaaGreatDoor
