import Derived.Test.YtogkkecnmlnajaaDoorqBE
set_option maxHeartbeats 8000000
set_option maxRecDepth 100000
namespace Go.Proofs.YtogkkecnmlnajaaDoor
open Go.RowKit
set_option linter.unusedVariables false
set_option maxRecDepth 100000
def D6 (v : World) (g : Nat) (e0 e1 e2 e3 e4 : Int) (e5 : Bool) : Prop := v.cell? ⟨g, 0, none⟩ = some (.int .i64 e0) ∧ v.cell? ⟨g, 1, none⟩ = some (.int .i64 e1) ∧ v.cell? ⟨g, 2, none⟩ = some (.int .i64 e2) ∧ v.cell? ⟨g, 3, none⟩ = some (.int .i64 e3) ∧ v.cell? ⟨g, 4, none⟩ = some (.int .i64 e4) ∧ v.cell? ⟨g, 5, none⟩ = some (.bool e5) ∧ g < v.heap.size

theorem D6.below {v v' : World} {g : Nat} {e0 e1 e2 e3 e4 : Int} {e5 : Bool} (h : D6 v g e0 e1 e2 e3 e4 e5) (hb : Below v.heap.size v v') : D6 v' g e0 e1 e2 e3 e4 e5 := by
 obtain ⟨d0, d1, d2, d3, d4, d5, l⟩ := h
 exact ⟨(hb.cell l).trans d0, (hb.cell l).trans d1, (hb.cell l).trans d2, (hb.cell l).trans d3, (hb.cell l).trans d4, (hb.cell l).trans d5, Nat.lt_of_lt_of_le l hb.size⟩

theorem D6_new (v : World) (e0 e1 e2 e3 e4 : Int) (e5 : Bool) (t : TypeId) : D6 (v.alloc (.cells #[.int .i64 e0, .int .i64 e1, .int .i64 e2, .int .i64 e3, .int .i64 e4, .bool e5] t)) v.heap.size e0 e1 e2 e3 e4 e5 := by
 unfold D6; simp [go_sem]

theorem D6.far {v : World} {g k : Nat} {e0 e1 e2 e3 e4 : Int} {e5 : Bool} (h : D6 v g e0 e1 e2 e3 e4 e5) (hk : g ≠ k) (a b : Value) : D6 ((v.setCell ⟨k, 0, none⟩ a).setCell ⟨k, 1, none⟩ b) g e0 e1 e2 e3 e4 e5 := by
 obtain ⟨d0, d1, d2, d3, d4, d5, l⟩ := h
 exact ⟨(far2 v _ _ hk).trans d0, (far2 v _ _ hk).trans d1, (far2 v _ _ hk).trans d2, (far2 v _ _ hk).trans d3, (far2 v _ _ hk).trans d4, (far2 v _ _ hk).trans d5, by simpa using l⟩

theorem W2.bl {v v' : World} {g X : Nat} (h : W2 v g X) (hb : Below v.heap.size v v') : W2 v' g X :=
 ⟨(hb.cell h.2.2.2.2).trans h.1, (hb.cell h.2.2.2.2).trans h.2.1, (hb.frozen h.2.2.2.2).trans h.2.2.1, (hb.frozen h.2.2.2.2).trans h.2.2.2.1, Nat.lt_of_lt_of_le h.2.2.2.2 hb.size⟩

theorem W2.farS {v : World} {g k X : Nat} (h : W2 v g X) (hk : g ≠ k) (a b : Value) : W2 ((v.setCell ⟨k, 0, none⟩ a).setCell ⟨k, 1, none⟩ b) g X := by
 obtain ⟨d0, d1, f0, f1, l⟩ := h
 exact ⟨(far2 v _ _ hk).trans d0, (far2 v _ _ hk).trans d1, (ffar2 v _ _ hk).trans f0, (ffar2 v _ _ hk).trans f1, by simpa using l⟩

structure At (w v : World) (gf gs : Nat) (e0 e1 e2 e3 e4 : Int) (e5 : Bool) (A X : Nat) : Prop where
 b : Below w.heap.size w v
 d : D6 v w.heap.size e0 e1 e2 e3 e4 e5
 o : W2 v (w.heap.size + 1 + 1) 0
 f : W2 v gf A
 s : W2 v gs X
 l : w.heap.size + 1 + 1 < gf
 k : gf < gs

theorem At.below {w v v' : World} {gf gs : Nat} {e0 e1 e2 e3 e4 : Int} {e5 : Bool} {A X : Nat} (h : At w v gf gs e0 e1 e2 e3 e4 e5 A X) (hb : Below v.heap.size v v') : At w v' gf gs e0 e1 e2 e3 e4 e5 A X :=
 ⟨h.b.trans (hb.mono h.b.size), h.d.below hb, h.o.bl hb, h.f.bl hb, h.s.bl hb, h.l, h.k⟩

theorem At.set {w v : World} {gf gs : Nat} {e0 e1 e2 e3 e4 : Int} {e5 : Bool} {A X : Nat} (h : At w v gf gs e0 e1 e2 e3 e4 e5 A X) (Y : Nat) : At w ((v.setCell ⟨gs, 0, none⟩ (.int .u64 (M.hiN Y : Int))).setCell ⟨gs, 1, none⟩ (.int .u64 (M.loN Y : Int))) gf gs e0 e1 e2 e3 e4 e5 A Y := by
 have l := h.l
 have k := h.k
 refine ⟨(h.b.setCell (p := ⟨gs, 0, none⟩) (by simp only; omega) _).setCell (p := ⟨gs, 1, none⟩) (by simp only; omega) _, h.d.far (by omega) _ _, h.o.farS (by omega) _ _, h.f.farS (by omega) _ _, ?_, l, k⟩
 exact W2_set h.s.1 h.s.2.1 h.s.2.2.1 h.s.2.2.2.1

theorem atRank_pos (n : Bool) (R A B C L G J : Nat) (e0 e1 e2 e3 e4 : Int) (e5 : Bool) (w : World) (he1 : wrap64 (e0 - 1) = e0 - 1) (he2 : IntKind.i64.wrap (e0 - 1) = e0 - 1) (hfl : wrap64 (M.loN A : Int) = (M.loN A : Int)) (hfl2 : IntKind.i64.wrap (M.loN A : Int) = (M.loN A : Int))
 (kR : ∀ (v : World) (z : Int), z = e0 - 1 → Calls Tryd.prog 64 #[.agg #[.int .u64 (M.hiN R : Int), .int .u64 (M.loN R : Int)], .int .i64 z] v fun e w' => e = .returned (.agg #[.int .u64 (M.hiN A : Int), .int .u64 (M.loN A : Int)]) ∧ Below v.heap.size v w')
 (kS : ∀ (v : World) (z : Int), z = e0 - 1 → Calls Tryd.prog 66 #[.agg #[.int .u64 (M.hiN A : Int), .int .u64 (M.loN A : Int)], .int .i64 z] v fun e w' => e = .returned (.agg #[.int .u64 (M.hiN B : Int), .int .u64 (M.loN B : Int)]) ∧ Below v.heap.size v w')
 (kM : ∀ v : World, Calls Tryd.prog 42 #[.agg #[.int .u64 (M.hiN R : Int), .int .u64 (M.loN R : Int)], .agg #[.int .u64 (M.hiN B : Int), .int .u64 (M.loN B : Int)]] v fun e w' => e = .returned (.agg #[.int .u64 (M.hiN C : Int), .int .u64 (M.loN C : Int)]) ∧ Below v.heap.size v w')
 (h0 : 0 < M.loN A) (kL : ∀ v : World, Calls Tryd.prog 68 #[.agg #[.int .i64 e0, .int .i64 e1, .int .i64 e2, .int .i64 e3, .int .i64 e4, .bool e5]] v fun e w' => e = .returned (.agg #[.int .u64 (M.hiN L : Int), .int .u64 (M.loN L : Int)]) ∧ Below v.heap.size v w')
 (kP : ∀ v : World, Calls Tryd.prog 43 #[.agg #[.int .u64 (M.hiN C : Int), .int .u64 (M.loN C : Int)], .agg #[.int .u64 (M.hiN L : Int), .int .u64 (M.loN L : Int)]] v fun e w' => e = .returned (.agg #[.int .u64 (M.hiN G : Int), .int .u64 (M.loN G : Int)]) ∧ Below v.heap.size v w')
 (kJ : ∀ (v : World) (z : Int), z = (M.loN A : Int) → Calls Tryd.prog 71 #[.agg #[.int .i64 e0, .int .i64 e1, .int .i64 e2, .int .i64 e3, .int .i64 e4, .bool e5], .bool n, .int .i64 z, .agg #[.int .u64 (M.hiN G : Int), .int .u64 (M.loN G : Int)]] v fun e w' => e = .returned (.agg #[.int .u64 (M.hiN J : Int), .int .u64 (M.loN J : Int)]) ∧ Below v.heap.size v w') :
 Calls Tryd.prog 40 #[.agg #[.int .i64 e0, .int .i64 e1, .int .i64 e2, .int .i64 e3, .int .i64 e4, .bool e5], .bool n, .agg #[.int .u64 (M.hiN R : Int), .int .u64 (M.loN R : Int)]] w fun e w' => e = .returned (.agg #[.int .u64 (M.hiN J : Int), .int .u64 (M.loN J : Int)]) ∧ Below w.heap.size w w' := by
 have b0 : Below w.heap.size w (((w.alloc (.cells #[.int .i64 e0, .int .i64 e1, .int .i64 e2, .int .i64 e3, .int .i64 e4, .bool e5] 56)).alloc (.cells #[.int .u64 (M.hiN R : Int), .int .u64 (M.loN R : Int)] 28)).alloc (.cells #[.int .u64 0, .int .u64 0] 28)) := (((Below.refl _ _).alloc (Nat.le_refl _) _).alloc (by simp) _).alloc (by simp; omega) _
 have D0 : D6 (((w.alloc (.cells #[.int .i64 e0, .int .i64 e1, .int .i64 e2, .int .i64 e3, .int .i64 e4, .bool e5] 56)).alloc (.cells #[.int .u64 (M.hiN R : Int), .int .u64 (M.loN R : Int)] 28)).alloc (.cells #[.int .u64 0, .int .u64 0] 28)) w.heap.size e0 e1 e2 e3 e4 e5 := ((D6_new w _ _ _ _ _ _ _).below ((Below.refl _ _).alloc (Nat.le_refl _) _)).below ((Below.refl _ _).alloc (Nat.le_refl _) _)
 have R0 : W2 (((w.alloc (.cells #[.int .i64 e0, .int .i64 e1, .int .i64 e2, .int .i64 e3, .int .i64 e4, .bool e5] 56)).alloc (.cells #[.int .u64 (M.hiN R : Int), .int .u64 (M.loN R : Int)] 28)).alloc (.cells #[.int .u64 0, .int .u64 0] 28)) (w.heap.size + 1) R := by refine ⟨?_, ?_, ?_, ?_, ?_⟩ <;> simp [go_sem]
 have O0 : W2 (((w.alloc (.cells #[.int .i64 e0, .int .i64 e1, .int .i64 e2, .int .i64 e3, .int .i64 e4, .bool e5] 56)).alloc (.cells #[.int .u64 (M.hiN R : Int), .int .u64 (M.loN R : Int)] 28)).alloc (.cells #[.int .u64 0, .int .u64 0] 28)) (w.heap.size + 1 + 1) 0 := by refine ⟨?_, ?_, ?_, ?_, ?_⟩ <;> simp [go_sem, hi0, lo0]
 generalize hV : (((w.alloc (.cells #[.int .i64 e0, .int .i64 e1, .int .i64 e2, .int .i64 e3, .int .i64 e4, .bool e5] 56)).alloc (.cells #[.int .u64 (M.hiN R : Int), .int .u64 (M.loN R : Int)] 28)).alloc (.cells #[.int .u64 0, .int .u64 0] 28)) = v0 at *
 go_enter Tryd.func40, Tryd.ntmps40
 go_upto_region 1 with fail
 clear hV
 obtain ⟨d0, -⟩ := id D0
 obtain ⟨r0, r1, -⟩ := id R0
 go_wp2_with fail
 clear d0 r0 r1
 refine (kR _ _ (by first | with_reducible rfl | with_reducible assumption)).mono ?_
 rintro e v1 ⟨rfl, hb1⟩
 replace b0 := b0.trans (hb1.mono b0.size)
 replace D0 := D0.below hb1
 replace R0 := R0.bl hb1
 replace O0 := O0.bl hb1
 have nf : w.heap.size + 1 + 1 < v1.heap.size := O0.2.2.2.2
 clear hb1 kR
 go_upto_region 2 with fail
 have bA : Below v1.heap.size v1 (v1.alloc (.cells #[.int .u64 (M.hiN A : Int), .int .u64 (M.loN A : Int)] 28)) := (Below.refl _ _).alloc (Nat.le_refl _) _
 replace b0 := b0.trans (bA.mono b0.size)
 replace D0 := D0.below bA
 replace R0 := R0.bl bA
 replace O0 := O0.bl bA
 have F0 : W2 (v1.alloc (.cells #[.int .u64 (M.hiN A : Int), .int .u64 (M.loN A : Int)] 28)) v1.heap.size A := W2_new v1 A _
 clear bA
 generalize (v1.alloc (.cells #[.int .u64 (M.hiN A : Int), .int .u64 (M.loN A : Int)] 28)) = v2 at *
 generalize v1.heap.size = gf at *
 have Kof : ∀ v, Below v2.heap.size v2 v → (fun v => Below v2.heap.size v2 v ∧ v.cell? ⟨w.heap.size, 0, none⟩ = some (.int .i64 e0) ∧ v.cell? ⟨w.heap.size + 1, 0, none⟩ = some (.int .u64 (M.hiN R : Int)) ∧ v.cell? ⟨w.heap.size + 1, 1, none⟩ = some (.int .u64 (M.loN R : Int)) ∧ v.cell? ⟨gf, 0, none⟩ = some (.int .u64 (M.hiN A : Int)) ∧ v.cell? ⟨gf, 1, none⟩ = some (.int .u64 (M.loN A : Int))) v := fun v hv => by
  obtain ⟨d0, -⟩ := D0.below hv
  obtain ⟨r0, r1, -⟩ := R0.bl hv
  obtain ⟨f0, f1, -⟩ := F0.bl hv
  exact ⟨hv, d0, r0, r1, f0, f1⟩
 go_cut [8] (fun p wx => ∃ g, p = .pointer (some ⟨g, 0, none⟩) ∧ v2.heap.size ≤ g ∧ W2 wx g C ∧ Below v2.heap.size v2 wx)
 case first =>
  clear D0 R0 O0 F0 b0 nf
  go_region_held3 (fun v => Below v2.heap.size v2 v ∧ v.cell? ⟨w.heap.size, 0, none⟩ = some (.int .i64 e0) ∧ v.cell? ⟨w.heap.size + 1, 0, none⟩ = some (.int .u64 (M.hiN R : Int)) ∧ v.cell? ⟨w.heap.size + 1, 1, none⟩ = some (.int .u64 (M.loN R : Int)) ∧ v.cell? ⟨gf, 0, none⟩ = some (.int .u64 (M.hiN A : Int)) ∧ v.cell? ⟨gf, 1, none⟩ = some (.int .u64 (M.loN A : Int))) (first | exact Kof _ (by assumption) | exact Kof _ (keepDr (by assumption)) | exact Kof _ (keepAl (by assumption) _) | exact Kof _ (keepAl2 (by assumption) _) | exact Kof _ (keepSt2 (keepSt2 (by assumption) _ _ (by first | assumption | exact Below.size (by assumption) | omega) _) _ _ (by first | assumption | exact Below.size (by assumption) | omega) _) | exact Kof _ (Below.refl _ _).drew)
   (first | (go_at_call 66; refine (kS _ _ (by first | with_reducible rfl | with_reducible assumption)).mono ?_; rintro e w' ⟨rfl, hb0⟩; have hb1 := keepC (w1 := v2) (And.left (by assumption)) hb0; have hc1 := (bcell hb0).1; have hf1 := (bcell hb0).2; have hz1 := hb0.size; (try simp at hz1); (try replace hz1 := Nat.lt_of_succ_le hz1); clear hb0) | (go_at_call 42; refine (kM _).mono ?_; rintro e w' ⟨rfl, hb0⟩; have hb2 := keepC (w1 := v2) (And.left (by assumption)) hb0; have hc2 := (bcell hb0).1; have hf2 := (bcell hb0).2; have hz2 := hb0.size; (try simp at hz2); (try replace hz2 := Nat.lt_of_succ_le hz2); clear hb0; (try have hy2 := Nat.lt_of_lt_of_le hz1 hz2)))
  all_goals go_wp2_with fail
  all_goals go_meet
  · exact ⟨_, rfl, hb2.size, W2_new _ _ _, keepAl2 hb2 _⟩
  · exact ⟨_, rfl, hb1.size, W2_set (a := .int .u64 0) (b := .int .u64 0) (by simp [hc2, go_sem]) (by simp [hc2, go_sem]) (by simp [hf2, go_sem]) (by simp [hf2, go_sem]), keepSt2 (keepSt2 hb2 _ _ (hb1.size) _) _ _ (hb1.size) _⟩
  · exact ⟨_, rfl, Nat.le_refl _, W2_set (a := .int .u64 0) (b := .int .u64 0) (by simp [hc2, hc1, hz1, go_sem]) (by simp [hc2, hc1, hz1, go_sem]) (by simp [hf2, hf1, hz1, go_sem]) (by simp [hf2, hf1, hz1, go_sem]), keepSt2 (keepSt2 hb2 _ _ (Nat.le_refl _) _) _ _ (Nat.le_refl _) _⟩
 clear Kof kS kM
 rename World => v3
 obtain ⟨gs, rfl, hgs, S0, hb3⟩ := hcut
 have lf : gf < v2.heap.size := F0.2.2.2.2
 have J0 : At w v3 gf gs e0 e1 e2 e3 e4 e5 A C := ⟨b0.trans (hb3.mono b0.size), D0.below hb3, O0.bl hb3, F0.bl hb3, S0, nf, Nat.lt_of_lt_of_le lf hgs⟩
 clear hb3 b0 D0 R0 O0 F0 S0 nf lf hgs
 obtain ⟨f0, f1, -⟩ := id J0.f
 go_upto_region 4 with fail
 clear f0 f1
 have A0 : Below v3.heap.size v3 v3.drew := (Below.refl _ _).drew
 have JB : ∀ v, Below v3.heap.size v3 v → At w v gf gs e0 e1 e2 e3 e4 e5 A C := fun v hv => J0.below hv
 go_cut [8] (fun p wx => p = .pointer (some ⟨gs, 0, none⟩) ∧ At w wx gf gs e0 e1 e2 e3 e4 e5 A G)
 case first =>
  obtain ⟨d0, d1, d2, d3, d4, d5, -⟩ := (JB _ A0).d
  obtain ⟨s0, s1, -⟩ := (JB _ A0).s
  go_region_with (first | (have hq := hb1; clear hq; go_at_call 43; refine (kP _).mono ?_; rintro e u2 ⟨rfl, hb0⟩; have hb2 := keepC (w1 := v3) hb1 hb0; clear hb0; obtain ⟨y0, y1, y2, y3, -⟩ := (JB _ hb2).s) | (go_at_call 68; refine (kL _).mono ?_; rintro e u1 ⟨rfl, hb0⟩; have hb1 := keepC (w1 := v3) A0 hb0; clear hb0; obtain ⟨x0, x1, -, -, -⟩ := (JB _ hb1).s; obtain ⟨m0, m1, m2, m3, m4, m5, -⟩ := (JB _ hb1).d))
  all_goals go_wp2_with fail
  all_goals go_meet
  all_goals exact ⟨rfl, (JB _ hb2).set G⟩
 case rest =>
  clear JB A0 J0
  rename World => wx
  obtain ⟨rfl, J1⟩ := hcut
  obtain ⟨d0, d1, d2, d3, d4, d5, -⟩ := id J1.d
  obtain ⟨s0, s1, -⟩ := id J1.s
  obtain ⟨f0, f1, -⟩ := id J1.f
  go_wp2_with fail
  refine (kJ _ _ (by first | with_reducible rfl | with_reducible assumption)).mono ?_
  rintro e u4 ⟨rfl, hb0⟩
  have J4 := J1.below hb0
  clear d0 d1 d2 d3 d4 d5 s0 s1 f0 f1 hb0
  obtain ⟨r0, r1, r2, r3, -⟩ := id J4.o
  have bb := (J4.b.setCell (p := ⟨w.heap.size + 1 + 1, 0, none⟩) (by simp only; omega) (.int .u64 (M.hiN J : Int))).setCell (p := ⟨w.heap.size + 1 + 1, 1, none⟩) (by simp only; omega) (.int .u64 (M.loN J : Int))
  clear J4
  have HB := hid bb
  clear bb
  go_wp2_with fail
  exact bodyPost_ret (v := .agg #[.int .u64 (M.hiN J : Int), .int .u64 (M.loN J : Int)]) (by simp [results, Tryd.results40, go_sem, r0, r1]) rfl ⟨rfl, HB.out⟩

theorem atRank_zero (n : Bool) (R A B C L G J : Nat) (e0 e1 e2 e3 e4 : Int) (e5 : Bool) (w : World) (he1 : wrap64 (e0 - 1) = e0 - 1) (he2 : IntKind.i64.wrap (e0 - 1) = e0 - 1) (hfl : wrap64 (M.loN A : Int) = (M.loN A : Int)) (hfl2 : IntKind.i64.wrap (M.loN A : Int) = (M.loN A : Int))
 (kR : ∀ (v : World) (z : Int), z = e0 - 1 → Calls Tryd.prog 64 #[.agg #[.int .u64 (M.hiN R : Int), .int .u64 (M.loN R : Int)], .int .i64 z] v fun e w' => e = .returned (.agg #[.int .u64 (M.hiN A : Int), .int .u64 (M.loN A : Int)]) ∧ Below v.heap.size v w')
 (kS : ∀ (v : World) (z : Int), z = e0 - 1 → Calls Tryd.prog 66 #[.agg #[.int .u64 (M.hiN A : Int), .int .u64 (M.loN A : Int)], .int .i64 z] v fun e w' => e = .returned (.agg #[.int .u64 (M.hiN B : Int), .int .u64 (M.loN B : Int)]) ∧ Below v.heap.size v w')
 (kM : ∀ v : World, Calls Tryd.prog 42 #[.agg #[.int .u64 (M.hiN R : Int), .int .u64 (M.loN R : Int)], .agg #[.int .u64 (M.hiN B : Int), .int .u64 (M.loN B : Int)]] v fun e w' => e = .returned (.agg #[.int .u64 (M.hiN C : Int), .int .u64 (M.loN C : Int)]) ∧ Below v.heap.size v w')
 (h0 : ¬ 0 < M.loN A)
 (kJ : ∀ (v : World) (z : Int), z = (M.loN A : Int) → Calls Tryd.prog 71 #[.agg #[.int .i64 e0, .int .i64 e1, .int .i64 e2, .int .i64 e3, .int .i64 e4, .bool e5], .bool n, .int .i64 z, .agg #[.int .u64 (M.hiN C : Int), .int .u64 (M.loN C : Int)]] v fun e w' => e = .returned (.agg #[.int .u64 (M.hiN J : Int), .int .u64 (M.loN J : Int)]) ∧ Below v.heap.size v w') :
 Calls Tryd.prog 40 #[.agg #[.int .i64 e0, .int .i64 e1, .int .i64 e2, .int .i64 e3, .int .i64 e4, .bool e5], .bool n, .agg #[.int .u64 (M.hiN R : Int), .int .u64 (M.loN R : Int)]] w fun e w' => e = .returned (.agg #[.int .u64 (M.hiN J : Int), .int .u64 (M.loN J : Int)]) ∧ Below w.heap.size w w' := by
 have b0 : Below w.heap.size w (((w.alloc (.cells #[.int .i64 e0, .int .i64 e1, .int .i64 e2, .int .i64 e3, .int .i64 e4, .bool e5] 56)).alloc (.cells #[.int .u64 (M.hiN R : Int), .int .u64 (M.loN R : Int)] 28)).alloc (.cells #[.int .u64 0, .int .u64 0] 28)) := (((Below.refl _ _).alloc (Nat.le_refl _) _).alloc (by simp) _).alloc (by simp; omega) _
 have D0 : D6 (((w.alloc (.cells #[.int .i64 e0, .int .i64 e1, .int .i64 e2, .int .i64 e3, .int .i64 e4, .bool e5] 56)).alloc (.cells #[.int .u64 (M.hiN R : Int), .int .u64 (M.loN R : Int)] 28)).alloc (.cells #[.int .u64 0, .int .u64 0] 28)) w.heap.size e0 e1 e2 e3 e4 e5 := ((D6_new w _ _ _ _ _ _ _).below ((Below.refl _ _).alloc (Nat.le_refl _) _)).below ((Below.refl _ _).alloc (Nat.le_refl _) _)
 have R0 : W2 (((w.alloc (.cells #[.int .i64 e0, .int .i64 e1, .int .i64 e2, .int .i64 e3, .int .i64 e4, .bool e5] 56)).alloc (.cells #[.int .u64 (M.hiN R : Int), .int .u64 (M.loN R : Int)] 28)).alloc (.cells #[.int .u64 0, .int .u64 0] 28)) (w.heap.size + 1) R := by refine ⟨?_, ?_, ?_, ?_, ?_⟩ <;> simp [go_sem]
 have O0 : W2 (((w.alloc (.cells #[.int .i64 e0, .int .i64 e1, .int .i64 e2, .int .i64 e3, .int .i64 e4, .bool e5] 56)).alloc (.cells #[.int .u64 (M.hiN R : Int), .int .u64 (M.loN R : Int)] 28)).alloc (.cells #[.int .u64 0, .int .u64 0] 28)) (w.heap.size + 1 + 1) 0 := by refine ⟨?_, ?_, ?_, ?_, ?_⟩ <;> simp [go_sem, hi0, lo0]
 generalize hV : (((w.alloc (.cells #[.int .i64 e0, .int .i64 e1, .int .i64 e2, .int .i64 e3, .int .i64 e4, .bool e5] 56)).alloc (.cells #[.int .u64 (M.hiN R : Int), .int .u64 (M.loN R : Int)] 28)).alloc (.cells #[.int .u64 0, .int .u64 0] 28)) = v0 at *
 go_enter Tryd.func40, Tryd.ntmps40
 go_upto_region 1 with fail
 clear hV
 obtain ⟨d0, -⟩ := id D0
 obtain ⟨r0, r1, -⟩ := id R0
 go_wp2_with fail
 clear d0 r0 r1
 refine (kR _ _ (by first | with_reducible rfl | with_reducible assumption)).mono ?_
 rintro e v1 ⟨rfl, hb1⟩
 replace b0 := b0.trans (hb1.mono b0.size)
 replace D0 := D0.below hb1
 replace R0 := R0.bl hb1
 replace O0 := O0.bl hb1
 have nf : w.heap.size + 1 + 1 < v1.heap.size := O0.2.2.2.2
 clear hb1 kR
 go_upto_region 2 with fail
 have bA : Below v1.heap.size v1 (v1.alloc (.cells #[.int .u64 (M.hiN A : Int), .int .u64 (M.loN A : Int)] 28)) := (Below.refl _ _).alloc (Nat.le_refl _) _
 replace b0 := b0.trans (bA.mono b0.size)
 replace D0 := D0.below bA
 replace R0 := R0.bl bA
 replace O0 := O0.bl bA
 have F0 : W2 (v1.alloc (.cells #[.int .u64 (M.hiN A : Int), .int .u64 (M.loN A : Int)] 28)) v1.heap.size A := W2_new v1 A _
 clear bA
 generalize (v1.alloc (.cells #[.int .u64 (M.hiN A : Int), .int .u64 (M.loN A : Int)] 28)) = v2 at *
 generalize v1.heap.size = gf at *
 have Kof : ∀ v, Below v2.heap.size v2 v → (fun v => Below v2.heap.size v2 v ∧ v.cell? ⟨w.heap.size, 0, none⟩ = some (.int .i64 e0) ∧ v.cell? ⟨w.heap.size + 1, 0, none⟩ = some (.int .u64 (M.hiN R : Int)) ∧ v.cell? ⟨w.heap.size + 1, 1, none⟩ = some (.int .u64 (M.loN R : Int)) ∧ v.cell? ⟨gf, 0, none⟩ = some (.int .u64 (M.hiN A : Int)) ∧ v.cell? ⟨gf, 1, none⟩ = some (.int .u64 (M.loN A : Int))) v := fun v hv => by
  obtain ⟨d0, -⟩ := D0.below hv
  obtain ⟨r0, r1, -⟩ := R0.bl hv
  obtain ⟨f0, f1, -⟩ := F0.bl hv
  exact ⟨hv, d0, r0, r1, f0, f1⟩
 go_cut [8] (fun p wx => ∃ g, p = .pointer (some ⟨g, 0, none⟩) ∧ v2.heap.size ≤ g ∧ W2 wx g C ∧ Below v2.heap.size v2 wx)
 case first =>
  clear D0 R0 O0 F0 b0 nf
  go_region_held3 (fun v => Below v2.heap.size v2 v ∧ v.cell? ⟨w.heap.size, 0, none⟩ = some (.int .i64 e0) ∧ v.cell? ⟨w.heap.size + 1, 0, none⟩ = some (.int .u64 (M.hiN R : Int)) ∧ v.cell? ⟨w.heap.size + 1, 1, none⟩ = some (.int .u64 (M.loN R : Int)) ∧ v.cell? ⟨gf, 0, none⟩ = some (.int .u64 (M.hiN A : Int)) ∧ v.cell? ⟨gf, 1, none⟩ = some (.int .u64 (M.loN A : Int))) (first | exact Kof _ (by assumption) | exact Kof _ (keepDr (by assumption)) | exact Kof _ (keepAl (by assumption) _) | exact Kof _ (keepAl2 (by assumption) _) | exact Kof _ (keepSt2 (keepSt2 (by assumption) _ _ (by first | assumption | exact Below.size (by assumption) | omega) _) _ _ (by first | assumption | exact Below.size (by assumption) | omega) _) | exact Kof _ (Below.refl _ _).drew)
   (first | (go_at_call 66; refine (kS _ _ (by first | with_reducible rfl | with_reducible assumption)).mono ?_; rintro e w' ⟨rfl, hb0⟩; have hb1 := keepC (w1 := v2) (And.left (by assumption)) hb0; have hc1 := (bcell hb0).1; have hf1 := (bcell hb0).2; have hz1 := hb0.size; (try simp at hz1); (try replace hz1 := Nat.lt_of_succ_le hz1); clear hb0) | (go_at_call 42; refine (kM _).mono ?_; rintro e w' ⟨rfl, hb0⟩; have hb2 := keepC (w1 := v2) (And.left (by assumption)) hb0; have hc2 := (bcell hb0).1; have hf2 := (bcell hb0).2; have hz2 := hb0.size; (try simp at hz2); (try replace hz2 := Nat.lt_of_succ_le hz2); clear hb0; (try have hy2 := Nat.lt_of_lt_of_le hz1 hz2)))
  all_goals go_wp2_with fail
  all_goals go_meet
  · exact ⟨_, rfl, hb2.size, W2_new _ _ _, keepAl2 hb2 _⟩
  · exact ⟨_, rfl, hb1.size, W2_set (a := .int .u64 0) (b := .int .u64 0) (by simp [hc2, go_sem]) (by simp [hc2, go_sem]) (by simp [hf2, go_sem]) (by simp [hf2, go_sem]), keepSt2 (keepSt2 hb2 _ _ (hb1.size) _) _ _ (hb1.size) _⟩
  · exact ⟨_, rfl, Nat.le_refl _, W2_set (a := .int .u64 0) (b := .int .u64 0) (by simp [hc2, hc1, hz1, go_sem]) (by simp [hc2, hc1, hz1, go_sem]) (by simp [hf2, hf1, hz1, go_sem]) (by simp [hf2, hf1, hz1, go_sem]), keepSt2 (keepSt2 hb2 _ _ (Nat.le_refl _) _) _ _ (Nat.le_refl _) _⟩
 clear Kof kS kM
 rename World => v3
 obtain ⟨gs, rfl, hgs, S0, hb3⟩ := hcut
 have lf : gf < v2.heap.size := F0.2.2.2.2
 have J0 : At w v3 gf gs e0 e1 e2 e3 e4 e5 A C := ⟨b0.trans (hb3.mono b0.size), D0.below hb3, O0.bl hb3, F0.bl hb3, S0, nf, Nat.lt_of_lt_of_le lf hgs⟩
 clear hb3 b0 D0 R0 O0 F0 S0 nf lf hgs
 obtain ⟨f0, f1, -⟩ := id J0.f
 obtain ⟨d0, d1, d2, d3, d4, d5, -⟩ := id J0.d
 obtain ⟨s0, s1, -⟩ := id J0.s
 obtain ⟨f0, f1, -⟩ := id J0.f
 go_wp2_with fail
 refine (kJ _ _ (by first | with_reducible rfl | with_reducible assumption)).mono ?_
 rintro e u4 ⟨rfl, hb0⟩
 have J4 := J0.below hb0
 clear d0 d1 d2 d3 d4 d5 s0 s1 f0 f1 hb0
 obtain ⟨r0, r1, r2, r3, -⟩ := id J4.o
 have bb := (J4.b.setCell (p := ⟨w.heap.size + 1 + 1, 0, none⟩) (by simp only; omega) (.int .u64 (M.hiN J : Int))).setCell (p := ⟨w.heap.size + 1 + 1, 1, none⟩) (by simp only; omega) (.int .u64 (M.loN J : Int))
 clear J4
 have HB := hid bb
 clear bb
 go_wp2_with fail
 exact bodyPost_ret (v := .agg #[.int .u64 (M.hiN J : Int), .int .u64 (M.loN J : Int)]) (by simp [results, Tryd.results40, go_sem, r0, r1]) rfl ⟨rfl, HB.out⟩

theorem keepSt5 {w1 W : World} (h : Below w1.heap.size w1 W) (g : Nat) (hg : w1.heap.size ≤ g) (a b c d e : Value) : Below w1.heap.size w1 (((((W.setCell ⟨g, 0, none⟩ a).setCell ⟨g, 1, none⟩ b).setCell ⟨g, 2, none⟩ c).setCell ⟨g, 3, none⟩ d).setCell ⟨g, 4, none⟩ e) :=
 ((((h.setCell (p := ⟨g, 0, none⟩) hg a).setCell (p := ⟨g, 1, none⟩) hg b).setCell (p := ⟨g, 2, none⟩) hg c).setCell (p := ⟨g, 3, none⟩) hg d).setCell (p := ⟨g, 4, none⟩) hg e

structure Z5 (v : World) (g : Nat) : Prop where
 c0 : v.cell? ⟨g, 0, none⟩ = some (.int .i64 0)
 c1 : v.cell? ⟨g, 1, none⟩ = some (.bool false)
 c2 : v.cell? ⟨g, 2, none⟩ = some (.int .u64 0)
 c3 : v.cell? ⟨g, 3, none⟩ = some (.int .u64 0)
 c4 : v.cell? ⟨g, 4, none⟩ = some (.int .i64 0)
 f0 : v.frozen? ⟨g, 0, none⟩ = false
 f1 : v.frozen? ⟨g, 1, none⟩ = false
 f2 : v.frozen? ⟨g, 2, none⟩ = false
 f3 : v.frozen? ⟨g, 3, none⟩ = false
 f4 : v.frozen? ⟨g, 4, none⟩ = false
 lt : g < v.heap.size

theorem Z5.below {v v' : World} {g : Nat} (h : Z5 v g) (hb : Below v.heap.size v v') : Z5 v' g :=
 ⟨(hb.cell h.lt).trans h.c0, (hb.cell h.lt).trans h.c1, (hb.cell h.lt).trans h.c2, (hb.cell h.lt).trans h.c3, (hb.cell h.lt).trans h.c4, (hb.frozen h.lt).trans h.f0, (hb.frozen h.lt).trans h.f1, (hb.frozen h.lt).trans h.f2, (hb.frozen h.lt).trans h.f3, (hb.frozen h.lt).trans h.f4, Nat.lt_of_lt_of_le h.lt hb.size⟩

theorem Z5.al {v : World} {g : Nat} (h : Z5 v g) (o : Obj) : Z5 (v.alloc o) g := h.below ((Below.refl _ _).alloc (Nat.le_refl _) o)

def P5 (v : World) (g : Nat) (t : M.Pt) : Prop := v.cell? ⟨g, 0, none⟩ = some (.int .i64 t.c) ∧ v.cell? ⟨g, 1, none⟩ = some (.bool t.n) ∧ v.cell? ⟨g, 2, none⟩ = some (.int .u64 (M.hiN t.s : Int)) ∧ v.cell? ⟨g, 3, none⟩ = some (.int .u64 (M.loN t.s : Int)) ∧ v.cell? ⟨g, 4, none⟩ = some (.int .i64 t.q) ∧ g < v.heap.size

theorem P5_set {v : World} {g : Nat} (h : Z5 v g) (t : M.Pt) : P5 (((((v.setCell ⟨g, 0, none⟩ (.int .i64 t.c)).setCell ⟨g, 1, none⟩ (.bool t.n)).setCell ⟨g, 2, none⟩ (.int .u64 (M.hiN t.s : Int))).setCell ⟨g, 3, none⟩ (.int .u64 (M.loN t.s : Int))).setCell ⟨g, 4, none⟩ (.int .i64 t.q)) g t := by
 obtain ⟨c0, c1, c2, c3, c4, f0, f1, f2, f3, f4, lt⟩ := h
 unfold P5
 simp [go_sem, c0, c1, c2, c3, c4]
 simpa using lt

theorem Z5.far {v : World} {g k : Nat} (h : Z5 v g) (hk : g ≠ k) (a b c d e : Value) : Z5 (((((v.setCell ⟨k, 0, none⟩ a).setCell ⟨k, 1, none⟩ b).setCell ⟨k, 2, none⟩ c).setCell ⟨k, 3, none⟩ d).setCell ⟨k, 4, none⟩ e) g := by
 have hh : (((((v.setCell ⟨k, 0, none⟩ a).setCell ⟨k, 1, none⟩ b).setCell ⟨k, 2, none⟩ c).setCell ⟨k, 3, none⟩ d).setCell ⟨k, 4, none⟩ e).heap[g]? = v.heap[g]? := (((((Below.heap_setCell _ _ _ _ hk).trans (Below.heap_setCell _ _ _ _ hk)).trans (Below.heap_setCell _ _ _ _ hk)).trans (Below.heap_setCell _ _ _ _ hk)).trans (Below.heap_setCell _ _ _ _ hk))
 have hc : ∀ o, (((((v.setCell ⟨k, 0, none⟩ a).setCell ⟨k, 1, none⟩ b).setCell ⟨k, 2, none⟩ c).setCell ⟨k, 3, none⟩ d).setCell ⟨k, 4, none⟩ e).cell? ⟨g, o, none⟩ = v.cell? ⟨g, o, none⟩ := fun o => World.cell?_of_block (w := v) (a := ⟨g, o, none⟩) hh
 have hf : ∀ o, (((((v.setCell ⟨k, 0, none⟩ a).setCell ⟨k, 1, none⟩ b).setCell ⟨k, 2, none⟩ c).setCell ⟨k, 3, none⟩ d).setCell ⟨k, 4, none⟩ e).frozen? ⟨g, o, none⟩ = v.frozen? ⟨g, o, none⟩ := fun o => World.frozen?_of_block (w := v) (a := ⟨g, o, none⟩) hh
 exact ⟨(hc 0).trans h.c0, (hc 1).trans h.c1, (hc 2).trans h.c2, (hc 3).trans h.c3, (hc 4).trans h.c4, (hf 0).trans h.f0, (hf 1).trans h.f1, (hf 2).trans h.f2, (hf 3).trans h.f3, (hf 4).trans h.f4, by simpa using h.lt⟩

theorem P5.far {v : World} {g k : Nat} {t : M.Pt} (h : P5 v g t) (hk : g ≠ k) (a b c d e : Value) : P5 (((((v.setCell ⟨k, 0, none⟩ a).setCell ⟨k, 1, none⟩ b).setCell ⟨k, 2, none⟩ c).setCell ⟨k, 3, none⟩ d).setCell ⟨k, 4, none⟩ e) g t := by
 have hh : (((((v.setCell ⟨k, 0, none⟩ a).setCell ⟨k, 1, none⟩ b).setCell ⟨k, 2, none⟩ c).setCell ⟨k, 3, none⟩ d).setCell ⟨k, 4, none⟩ e).heap[g]? = v.heap[g]? := (((((Below.heap_setCell _ _ _ _ hk).trans (Below.heap_setCell _ _ _ _ hk)).trans (Below.heap_setCell _ _ _ _ hk)).trans (Below.heap_setCell _ _ _ _ hk)).trans (Below.heap_setCell _ _ _ _ hk))
 have hc : ∀ o, (((((v.setCell ⟨k, 0, none⟩ a).setCell ⟨k, 1, none⟩ b).setCell ⟨k, 2, none⟩ c).setCell ⟨k, 3, none⟩ d).setCell ⟨k, 4, none⟩ e).cell? ⟨g, o, none⟩ = v.cell? ⟨g, o, none⟩ := fun o => World.cell?_of_block (w := v) (a := ⟨g, o, none⟩) hh
 exact ⟨(hc 0).trans h.1, (hc 1).trans h.2.1, (hc 2).trans h.2.2.1, (hc 3).trans h.2.2.2.1, (hc 4).trans h.2.2.2.2.1, by simpa using h.2.2.2.2.2⟩

theorem P5_new (v : World) (t : M.Pt) : P5 (v.alloc (.cells #[.int .i64 t.c, .bool t.n, .int .u64 (M.hiN t.s : Int), .int .u64 (M.loN t.s : Int), .int .i64 t.q] 33)) v.heap.size t := by
 unfold P5; simp [go_sem]

theorem P5.below {v v' : World} {g : Nat} {t : M.Pt} (h : P5 v g t) (hb : Below v.heap.size v v') : P5 v' g t :=
 ⟨(hb.cell h.2.2.2.2.2).trans h.1, (hb.cell h.2.2.2.2.2).trans h.2.1, (hb.cell h.2.2.2.2.2).trans h.2.2.1, (hb.cell h.2.2.2.2.2).trans h.2.2.2.1, (hb.cell h.2.2.2.2.2).trans h.2.2.2.2.1, Nat.lt_of_lt_of_le h.2.2.2.2.2 hb.size⟩

theorem P5.al {v : World} {g : Nat} {t : M.Pt} (h : P5 v g t) (o : Obj) : P5 (v.alloc o) g t := h.below ((Below.refl _ _).alloc (Nat.le_refl _) o)

def Rel2 (v2 : World) (S T : M.Pt) (p q : Value) (wx : World) : Prop := ∃ g k, p = .pointer (some ⟨g, 0, none⟩) ∧ q = .pointer (some ⟨k, 0, none⟩) ∧ P5 wx g S ∧ P5 wx k T ∧ Below v2.heap.size v2 wx

theorem Rel2.new {v2 v4 : World} (S T : M.Pt) (hb : Below v2.heap.size v2 v4) : Rel2 v2 S T (.pointer (some ⟨v4.heap.size, 0, none⟩)) (.pointer (some ⟨v4.heap.size + 1, 0, none⟩)) ((v4.alloc (.cells #[.int .i64 S.c, .bool S.n, .int .u64 (M.hiN S.s : Int), .int .u64 (M.loN S.s : Int), .int .i64 S.q] 33)).alloc (.cells #[.int .i64 T.c, .bool T.n, .int .u64 (M.hiN T.s : Int), .int .u64 (M.loN T.s : Int), .int .i64 T.q] 33)) := by
 have h := P5_new (v4.alloc (.cells #[.int .i64 S.c, .bool S.n, .int .u64 (M.hiN S.s : Int), .int .u64 (M.loN S.s : Int), .int .i64 S.q] 33)) T
 have e : (v4.alloc (.cells #[.int .i64 S.c, .bool S.n, .int .u64 (M.hiN S.s : Int), .int .u64 (M.loN S.s : Int), .int .i64 S.q] 33)).heap.size = v4.heap.size + 1 := by simp
 rw [e] at h
 exact ⟨_, _, rfl, rfl, (P5_new v4 S).al _, h, keepAl2 (keepAl2 hb _) _⟩

theorem Rel2.mid {v2 v4 : World} {g : Nat} (S T : M.Pt) (hb : Below v2.heap.size v2 v4) (z : Z5 v4 g) (hg : v2.heap.size ≤ g) : Rel2 v2 S T (.pointer (some ⟨g, 0, none⟩)) (.pointer (some ⟨v4.heap.size, 0, none⟩)) ((((((v4.setCell ⟨g, 0, none⟩ (.int .i64 S.c)).setCell ⟨g, 1, none⟩ (.bool S.n)).setCell ⟨g, 2, none⟩ (.int .u64 (M.hiN S.s : Int))).setCell ⟨g, 3, none⟩ (.int .u64 (M.loN S.s : Int))).setCell ⟨g, 4, none⟩ (.int .i64 S.q)).alloc (.cells #[.int .i64 T.c, .bool T.n, .int .u64 (M.hiN T.s : Int), .int .u64 (M.loN T.s : Int), .int .i64 T.q] 33)) := by
 have h := P5_new (((((v4.setCell ⟨g, 0, none⟩ (.int .i64 S.c)).setCell ⟨g, 1, none⟩ (.bool S.n)).setCell ⟨g, 2, none⟩ (.int .u64 (M.hiN S.s : Int))).setCell ⟨g, 3, none⟩ (.int .u64 (M.loN S.s : Int))).setCell ⟨g, 4, none⟩ (.int .i64 S.q)) T
 have e : (((((v4.setCell ⟨g, 0, none⟩ (.int .i64 S.c)).setCell ⟨g, 1, none⟩ (.bool S.n)).setCell ⟨g, 2, none⟩ (.int .u64 (M.hiN S.s : Int))).setCell ⟨g, 3, none⟩ (.int .u64 (M.loN S.s : Int))).setCell ⟨g, 4, none⟩ (.int .i64 S.q)).heap.size = v4.heap.size := by simp
 rw [e] at h
 exact ⟨_, _, rfl, rfl, (P5_set z S).al _, h, keepAl2 (keepSt5 hb g hg _ _ _ _ _) _⟩

theorem Rel2.old {v2 v4 : World} {g k : Nat} (S T : M.Pt) (hb : Below v2.heap.size v2 v4) (z : Z5 v4 g) (y : Z5 v4 k) (hg : v2.heap.size ≤ g) (hk : v2.heap.size ≤ k) (hne : g ≠ k) : Rel2 v2 S T (.pointer (some ⟨g, 0, none⟩)) (.pointer (some ⟨k, 0, none⟩)) ((((((((((v4.setCell ⟨g, 0, none⟩ (.int .i64 S.c)).setCell ⟨g, 1, none⟩ (.bool S.n)).setCell ⟨g, 2, none⟩ (.int .u64 (M.hiN S.s : Int))).setCell ⟨g, 3, none⟩ (.int .u64 (M.loN S.s : Int))).setCell ⟨g, 4, none⟩ (.int .i64 S.q)).setCell ⟨k, 0, none⟩ (.int .i64 T.c)).setCell ⟨k, 1, none⟩ (.bool T.n)).setCell ⟨k, 2, none⟩ (.int .u64 (M.hiN T.s : Int))).setCell ⟨k, 3, none⟩ (.int .u64 (M.loN T.s : Int))).setCell ⟨k, 4, none⟩ (.int .i64 T.q)) :=
 ⟨_, _, rfl, rfl, (P5_set z S).far hne _ _ _ _ _, P5_set (y.far (Ne.symm hne) _ _ _ _ _) T, keepSt5 (keepSt5 hb g hg _ _ _ _ _) k hk _ _ _ _ _⟩

structure Hv (w v : World) (gd g k : Nat) (e0 e1 e2 e3 e4 : Int) (e5 : Bool) (S T : M.Pt) : Prop where
 b : Below w.heap.size w v
 d : v.cell? ⟨gd, 0, none⟩ = some (.int .i64 e0) ∧ v.cell? ⟨gd, 1, none⟩ = some (.int .i64 e1) ∧ v.cell? ⟨gd, 2, none⟩ = some (.int .i64 e2) ∧ v.cell? ⟨gd, 3, none⟩ = some (.int .i64 e3) ∧ v.cell? ⟨gd, 4, none⟩ = some (.int .i64 e4) ∧ v.cell? ⟨gd, 5, none⟩ = some (.bool e5) ∧ gd < v.heap.size
 s : P5 v g S
 t : P5 v k T

theorem Hv.below {w v v' : World} {gd g k : Nat} {e0 e1 e2 e3 e4 : Int} {e5 : Bool} {S T : M.Pt} (h : Hv w v gd g k e0 e1 e2 e3 e4 e5 S T) (hb : Below v.heap.size v v') : Hv w v' gd g k e0 e1 e2 e3 e4 e5 S T := by
 obtain ⟨b, ⟨d0, d1, d2, d3, d4, d5, ld⟩, s, t⟩ := h
 exact ⟨b.trans (hb.mono b.size), ⟨(hb.cell ld).trans d0, (hb.cell ld).trans d1, (hb.cell ld).trans d2, (hb.cell ld).trans d3, (hb.cell ld).trans d4, (hb.cell ld).trans d5, Nat.lt_of_lt_of_le ld hb.size⟩, s.below hb, t.below hb⟩

theorem Hv.raw {w v : World} {gd g k : Nat} {e0 e1 e2 e3 e4 : Int} {e5 : Bool} {S T : M.Pt} (h : Hv w v gd g k e0 e1 e2 e3 e4 e5 S T) :
 v.cell? ⟨gd, 0, none⟩ = some (.int .i64 e0) ∧ v.cell? ⟨gd, 1, none⟩ = some (.int .i64 e1) ∧ v.cell? ⟨gd, 2, none⟩ = some (.int .i64 e2) ∧ v.cell? ⟨gd, 3, none⟩ = some (.int .i64 e3) ∧ v.cell? ⟨gd, 4, none⟩ = some (.int .i64 e4) ∧ v.cell? ⟨gd, 5, none⟩ = some (.bool e5)
 ∧ v.cell? ⟨g, 0, none⟩ = some (.int .i64 S.c) ∧ v.cell? ⟨g, 1, none⟩ = some (.bool S.n) ∧ v.cell? ⟨g, 2, none⟩ = some (.int .u64 (M.hiN S.s : Int)) ∧ v.cell? ⟨g, 3, none⟩ = some (.int .u64 (M.loN S.s : Int)) ∧ v.cell? ⟨g, 4, none⟩ = some (.int .i64 S.q)
 ∧ v.cell? ⟨k, 0, none⟩ = some (.int .i64 T.c) ∧ v.cell? ⟨k, 1, none⟩ = some (.bool T.n) ∧ v.cell? ⟨k, 2, none⟩ = some (.int .u64 (M.hiN T.s : Int)) ∧ v.cell? ⟨k, 3, none⟩ = some (.int .u64 (M.loN T.s : Int)) ∧ v.cell? ⟨k, 4, none⟩ = some (.int .i64 T.q) := by
 obtain ⟨b, ⟨d0, d1, d2, d3, d4, d5, ld⟩, ⟨s0, s1, s2, s3, s4, sl⟩, t0, t1, t2, t3, t4, tl⟩ := h
 exact ⟨d0, d1, d2, d3, d4, d5, s0, s1, s2, s3, s4, t0, t1, t2, t3, t4⟩

def uw (fld : Int) : Nat := (IntKind.u64.wrap fld).toNat

theorem uw_eq (fld : Int) : IntKind.u64.wrap fld = ((uw fld : Nat) : Int) ∧ uw fld < 18446744073709551616 := by
 unfold uw
 rw [IntKind.wrap_u64]
 omega

def js (F : M.Fm) (fld : Int) (sg : Nat) : Nat := if F.x = false ∧ 0 < fld then (sg + (2 ^ 128 - F.lead)) % 2 ^ 128 else sg

theorem js_yes {F : M.Fm} {fld : Int} (sg : Nat) (h : F.x = false ∧ 0 < fld) : js F fld sg = (sg + (2 ^ 128 - F.lead)) % 2 ^ 128 := by unfold js; rw [if_pos h]

theorem js_no {F : M.Fm} {fld : Int} (sg : Nat) (h : ¬ (F.x = false ∧ 0 < fld)) : js F fld sg = sg := by unfold js; rw [if_neg h]

theorem js_lt (F : M.Fm) (fld : Int) {sg : Nat} (h : sg < 2 ^ 128) : js F fld sg < 2 ^ 128 := by
 unfold js; split
 · exact Nat.mod_lt _ (by omega)
 · exact h

def jy (F : M.Fm) (fld : Int) (sg : Nat) : Nat := (uw fld * 2 ^ F.fb % 2 ^ 128 + js F fld sg) % 2 ^ 128

def jn (F : M.Fm) (n : Bool) (fld : Int) (sg : Nat) : Nat := if n = true then (jy F fld sg + 2 ^ (F.wd - 1)) % 2 ^ 128 else jy F fld sg

structure Jv (w v : World) (F : M.Fm) (fx : Bool) (sg : Nat) : Prop where
 b : Below w.heap.size w v
 d : v.cell? ⟨w.heap.size, 0, none⟩ = some (.int .i64 (F.p : Int)) ∧ v.cell? ⟨w.heap.size, 1, none⟩ = some (.int .i64 (1 - (F.emax : Int))) ∧ v.cell? ⟨w.heap.size, 2, none⟩ = some (.int .i64 (F.emax : Int)) ∧ v.cell? ⟨w.heap.size, 3, none⟩ = some (.int .i64 (F.wd : Int)) ∧ v.cell? ⟨w.heap.size, 4, none⟩ = some (.int .i64 (F.e : Int)) ∧ v.cell? ⟨w.heap.size, 5, none⟩ = some (.bool fx)
 s : W2 v (w.heap.size + 1) sg
 r : W2 v (w.heap.size + 1 + 1) 0

theorem W2.below {v v' : World} {g X : Nat} (h : W2 v g X) (hb : Below v.heap.size v v') : W2 v' g X :=
 ⟨(hb.cell h.2.2.2.2).trans h.1, (hb.cell h.2.2.2.2).trans h.2.1, (hb.frozen h.2.2.2.2).trans h.2.2.1, (hb.frozen h.2.2.2.2).trans h.2.2.2.1, Nat.lt_of_lt_of_le h.2.2.2.2 hb.size⟩

theorem Jv.below {w v v' : World} {F : M.Fm} {fx : Bool} {sg : Nat} (h : Jv w v F fx sg) (hb : Below v.heap.size v v') : Jv w v' F fx sg := by
 have hl : w.heap.size < v.heap.size := Nat.lt_trans (Nat.lt_succ_self _) h.s.2.2.2.2
 obtain ⟨d0, d1, d2, d3, d4, d5⟩ := h.d
 exact ⟨h.b.trans (hb.mono h.b.size), ⟨(hb.cell hl).trans d0, (hb.cell hl).trans d1, (hb.cell hl).trans d2, (hb.cell hl).trans d3, (hb.cell hl).trans d4, (hb.cell hl).trans d5⟩, h.s.below hb, h.r.below hb⟩

theorem W2_zero (v : World) : W2 (v.alloc (.cells #[.int .u64 0, .int .u64 0] 28)) v.heap.size 0 := by
 have := W2_new v 0 28
 rw [hi0, lo0] at this
 exact this

theorem Jv.raw {w v : World} {F : M.Fm} {fx : Bool} {sg : Nat} (h : Jv w v F fx sg) : v.cell? ⟨w.heap.size, 0, none⟩ = some (.int .i64 (F.p : Int)) ∧ v.cell? ⟨w.heap.size, 1, none⟩ = some (.int .i64 (1 - (F.emax : Int))) ∧ v.cell? ⟨w.heap.size, 2, none⟩ = some (.int .i64 (F.emax : Int)) ∧ v.cell? ⟨w.heap.size, 3, none⟩ = some (.int .i64 (F.wd : Int)) ∧ v.cell? ⟨w.heap.size, 4, none⟩ = some (.int .i64 (F.e : Int)) ∧ v.cell? ⟨w.heap.size, 5, none⟩ = some (.bool fx) ∧ v.cell? ⟨w.heap.size + 1, 0, none⟩ = some (.int .u64 (M.hiN sg : Int)) ∧ v.cell? ⟨w.heap.size + 1, 1, none⟩ = some (.int .u64 (M.loN sg : Int)) := by
 obtain ⟨d0, d1, d2, d3, d4, d5⟩ := h.d
 exact ⟨d0, d1, d2, d3, d4, d5, h.s.1, h.s.2.1⟩

theorem Jv.set {w v : World} {F : M.Fm} {fx : Bool} {sg : Nat} (h : Jv w v F fx sg) (s' : Nat) : Jv w ((v.setCell ⟨w.heap.size + 1, 0, none⟩ (.int .u64 (M.hiN s' : Int))).setCell ⟨w.heap.size + 1, 1, none⟩ (.int .u64 (M.loN s' : Int))) F fx s' := by
 obtain ⟨d0, d1, d2, d3, d4, d5⟩ := h.d
 obtain ⟨s0, s1, s2, s3, s4⟩ := h.s
 obtain ⟨r0, r1, r2, r3, r4⟩ := h.r
 refine ⟨(h.b.setCell (p := ⟨w.heap.size + 1, 0, none⟩) (Nat.le_succ _) _).setCell (p := ⟨w.heap.size + 1, 1, none⟩) (Nat.le_succ _) _, ⟨?_, ?_, ?_, ?_, ?_, ?_⟩, W2_set s0 s1 s2 s3, ⟨?_, ?_, ?_, ?_, by simpa using r4⟩⟩
 · exact (far2 v _ _ (by omega)).trans d0
 · exact (far2 v _ _ (by omega)).trans d1
 · exact (far2 v _ _ (by omega)).trans d2
 · exact (far2 v _ _ (by omega)).trans d3
 · exact (far2 v _ _ (by omega)).trans d4
 · exact (far2 v _ _ (by omega)).trans d5
 · exact (far2 v _ _ (by omega)).trans r0
 · exact (far2 v _ _ (by omega)).trans r1
 · exact (ffar2 v _ _ (by omega)).trans r2
 · exact (ffar2 v _ _ (by omega)).trans r3

theorem djoin_sub (F : M.Fm) (n : Bool) (fld : Int) (sg Z : Nat) (w : World) (h0 : 0 < fld)
 (kL : ∀ v : World, Calls Tryd.prog 68 #[.agg #[.int .i64 (F.p : Int), .int .i64 (1 - (F.emax : Int)), .int .i64 (F.emax : Int), .int .i64 (F.wd : Int), .int .i64 (F.e : Int), .bool false]] v fun e w' => e = .returned (.agg #[.int .u64 (M.hiN F.lead : Int), .int .u64 (M.loN F.lead : Int)]) ∧ Below v.heap.size v w')
 (kM : ∀ v : World, Calls Tryd.prog 42 #[.agg #[.int .u64 (M.hiN sg : Int), .int .u64 (M.loN sg : Int)], .agg #[.int .u64 (M.hiN F.lead : Int), .int .u64 (M.loN F.lead : Int)]] v fun e w' => e = .returned (.agg #[.int .u64 (M.hiN Z : Int), .int .u64 (M.loN Z : Int)]) ∧ Below v.heap.size v w') (U Y T R Q : Nat) (hwd : F.wd ≤ 128) (hwd1 : 1 ≤ F.wd) (hQ : Q = if n = true then R else Y)
 (kB : ∀ (v : World) (z : Int), z = (F.wd : Int) - 1 → Calls Tryd.prog 73 #[.int .i64 z] v fun e w' => e = .returned (.agg #[.int .u64 (M.hiN T : Int), .int .u64 (M.loN T : Int)]) ∧ Below v.heap.size v w')
 (kQ : ∀ v : World, Calls Tryd.prog 43 #[.agg #[.int .u64 (M.hiN Y : Int), .int .u64 (M.loN Y : Int)], .agg #[.int .u64 (M.hiN T : Int), .int .u64 (M.loN T : Int)]] v fun e w' => e = .returned (.agg #[.int .u64 (M.hiN R : Int), .int .u64 (M.loN R : Int)]) ∧ Below v.heap.size v w')
 (kF : ∀ v : World, Calls Tryd.prog 65 #[.agg #[.int .i64 (F.p : Int), .int .i64 (1 - (F.emax : Int)), .int .i64 (F.emax : Int), .int .i64 (F.wd : Int), .int .i64 (F.e : Int), .bool false]] v fun e w' => e = .returned (.int .i64 (F.fb : Int)) ∧ Below v.heap.size v w')
 (kS : ∀ v : World, Calls Tryd.prog 66 #[.agg #[.int .u64 0, .int .u64 (IntKind.u64.wrap fld)], .int .i64 (F.fb : Int)] v fun e w' => e = .returned (.agg #[.int .u64 (M.hiN U : Int), .int .u64 (M.loN U : Int)]) ∧ Below v.heap.size v w')
 (kP : ∀ v : World, Calls Tryd.prog 43 #[.agg #[.int .u64 (M.hiN U : Int), .int .u64 (M.loN U : Int)], .agg #[.int .u64 (M.hiN Z : Int), .int .u64 (M.loN Z : Int)]] v fun e w' => e = .returned (.agg #[.int .u64 (M.hiN Y : Int), .int .u64 (M.loN Y : Int)]) ∧ Below v.heap.size v w') :
 Calls Tryd.prog 71 #[.agg #[.int .i64 (F.p : Int), .int .i64 (1 - (F.emax : Int)), .int .i64 (F.emax : Int), .int .i64 (F.wd : Int), .int .i64 (F.e : Int), .bool false], .bool n, .int .i64 fld, .agg #[.int .u64 (M.hiN sg : Int), .int .u64 (M.loN sg : Int)]] w fun e w' => e = .returned (.agg #[.int .u64 (M.hiN Q : Int), .int .u64 (M.loN Q : Int)]) ∧ Below w.heap.size w w' := by
 go_enter Tryd.func71, Tryd.ntmps71
 go_upto_region 2 with fail
 have J0 : Jv w (((w.alloc (.cells #[.int .i64 (F.p : Int), .int .i64 (1 - (F.emax : Int)), .int .i64 (F.emax : Int), .int .i64 (F.wd : Int), .int .i64 (F.e : Int), .bool false] 56)).alloc (.cells #[.int .u64 (M.hiN sg : Int), .int .u64 (M.loN sg : Int)] 28)).alloc (.cells #[.int .u64 0, .int .u64 0] 28)) F false sg := by
  refine ⟨(((Below.refl _ _).alloc (Nat.le_refl _) _).alloc (by simp) _).alloc (by simp; omega) _, ⟨?_, ?_, ?_, ?_, ?_, ?_⟩, ⟨?_, ?_, ?_, ?_, ?_⟩, ⟨?_, ?_, ?_, ?_, ?_⟩⟩ <;> simp [go_sem, hi0, lo0] <;> omega
 generalize (((w.alloc (.cells #[.int .i64 (F.p : Int), .int .i64 (1 - (F.emax : Int)), .int .i64 (F.emax : Int), .int .i64 (F.wd : Int), .int .i64 (F.e : Int), .bool false] 56)).alloc (.cells #[.int .u64 (M.hiN sg : Int), .int .u64 (M.loN sg : Int)] 28)).alloc (.cells #[.int .u64 0, .int .u64 0] 28)) = v0 at *
 have A0 : Below v0.heap.size v0 v0.drew := (Below.refl _ _).drew
 obtain ⟨e0, e1, -, -, -⟩ := (J0.below A0).s
 have KH : ∀ v, Below v0.heap.size v0 v → (fun v => v.cell? ⟨w.heap.size, 0, none⟩ = some (.int .i64 (F.p : Int)) ∧ v.cell? ⟨w.heap.size, 1, none⟩ = some (.int .i64 (1 - (F.emax : Int))) ∧ v.cell? ⟨w.heap.size, 2, none⟩ = some (.int .i64 (F.emax : Int)) ∧ v.cell? ⟨w.heap.size, 3, none⟩ = some (.int .i64 (F.wd : Int)) ∧ v.cell? ⟨w.heap.size, 4, none⟩ = some (.int .i64 (F.e : Int)) ∧ v.cell? ⟨w.heap.size, 5, none⟩ = some (.bool false)) v := fun v hv => (J0.below hv).d
 have KS : ∀ v x y, Below v0.heap.size v0 v → (fun v => v.cell? ⟨w.heap.size, 0, none⟩ = some (.int .i64 (F.p : Int)) ∧ v.cell? ⟨w.heap.size, 1, none⟩ = some (.int .i64 (1 - (F.emax : Int))) ∧ v.cell? ⟨w.heap.size, 2, none⟩ = some (.int .i64 (F.emax : Int)) ∧ v.cell? ⟨w.heap.size, 3, none⟩ = some (.int .i64 (F.wd : Int)) ∧ v.cell? ⟨w.heap.size, 4, none⟩ = some (.int .i64 (F.e : Int)) ∧ v.cell? ⟨w.heap.size, 5, none⟩ = some (.bool false)) ((v.setCell ⟨w.heap.size + 1, 0, none⟩ x).setCell ⟨w.heap.size + 1, 1, none⟩ y) := fun v x y hv => by
  obtain ⟨d0, d1, d2, d3, d4, d5⟩ := (J0.below hv).d
  exact ⟨(far2 v _ _ (by omega)).trans d0, (far2 v _ _ (by omega)).trans d1, (far2 v _ _ (by omega)).trans d2, (far2 v _ _ (by omega)).trans d3, (far2 v _ _ (by omega)).trans d4, (far2 v _ _ (by omega)).trans d5⟩
 have JB : ∀ v, Below v0.heap.size v0 v → Jv w v F false sg := fun v hv => J0.below hv
 go_cut [7] (fun p wx => p = .pointer (some ⟨w.heap.size + 1, 0, none⟩) ∧ Jv w wx F false Z)
 case first =>
  obtain ⟨d0, d1, d2, d3, d4, d5⟩ := (J0.below A0).d
  go_region_with (first | (have hq := hb1; clear hq; go_at_call 42; refine (kM _).mono ?_; rintro e u2 ⟨rfl, hb0⟩; have hb2 := keepC (w1 := v0) hb1 hb0; clear hb0; obtain ⟨y0, y1, y2, y3, -⟩ := (JB _ hb2).s) | (go_at_call 68; refine (kL _).mono ?_; rintro e u1 ⟨rfl, hb0⟩; have hb1 := keepC (w1 := v0) A0 hb0; clear hb0; obtain ⟨x0, x1, -, -, -⟩ := (JB _ hb1).s; obtain ⟨m0, m1, m2, m3, m4, m5⟩ := (JB _ hb1).d))
  all_goals go_wp2_with fail
  all_goals go_meet
  all_goals exact ⟨rfl, (JB _ hb2).set Z⟩
 case rest =>
  rename World => wx
  obtain ⟨rfl, J1⟩ := hcut
  go_upto_region 3 with fail
  have A0 : Below wx.heap.size wx wx.drew := (Below.refl _ _).drew
  have A1 : Below wx.heap.size wx (wx.alloc (.cells #[.int .u64 0, .int .u64 0] 28)).drew := (keepAl2 (Below.refl _ _) _).drew
  have ZA : W2 (wx.alloc (.cells #[.int .u64 0, .int .u64 0] 28)).drew wx.heap.size 0 := (W2_zero wx).below (Below.refl _ _).drew
  have JB : ∀ v, Below wx.heap.size wx v → Jv w v F false Z := fun v hv => J1.below hv
  have KH : ∀ v, Below wx.heap.size wx v → (fun v => v.cell? ⟨w.heap.size, 0, none⟩ = some (.int .i64 (F.p : Int)) ∧ v.cell? ⟨w.heap.size, 1, none⟩ = some (.int .i64 (1 - (F.emax : Int))) ∧ v.cell? ⟨w.heap.size, 2, none⟩ = some (.int .i64 (F.emax : Int)) ∧ v.cell? ⟨w.heap.size, 3, none⟩ = some (.int .i64 (F.wd : Int)) ∧ v.cell? ⟨w.heap.size, 4, none⟩ = some (.int .i64 (F.e : Int)) ∧ v.cell? ⟨w.heap.size, 5, none⟩ = some (.bool false) ∧ v.cell? ⟨w.heap.size + 1, 0, none⟩ = some (.int .u64 (M.hiN Z : Int)) ∧ v.cell? ⟨w.heap.size + 1, 1, none⟩ = some (.int .u64 (M.loN Z : Int))) v := fun v hv => (JB v hv).raw
  go_cut [9] (fun p wy => ∃ nb, p = .pointer (some ⟨nb, 0, none⟩) ∧ wx.heap.size ≤ nb ∧ W2 wy nb Y ∧ Below wx.heap.size wx wy)
  case first =>
   go_region_held3 (fun v => v.cell? ⟨w.heap.size, 0, none⟩ = some (.int .i64 (F.p : Int)) ∧ v.cell? ⟨w.heap.size, 1, none⟩ = some (.int .i64 (1 - (F.emax : Int))) ∧ v.cell? ⟨w.heap.size, 2, none⟩ = some (.int .i64 (F.emax : Int)) ∧ v.cell? ⟨w.heap.size, 3, none⟩ = some (.int .i64 (F.wd : Int)) ∧ v.cell? ⟨w.heap.size, 4, none⟩ = some (.int .i64 (F.e : Int)) ∧ v.cell? ⟨w.heap.size, 5, none⟩ = some (.bool false) ∧ v.cell? ⟨w.heap.size + 1, 0, none⟩ = some (.int .u64 (M.hiN Z : Int)) ∧ v.cell? ⟨w.heap.size + 1, 1, none⟩ = some (.int .u64 (M.loN Z : Int))) (first | with_reducible exact KH _ hb3 | with_reducible exact KH _ (keepAl2 hb3 _) | with_reducible exact KH _ hb2 | with_reducible exact KH _ (keepAl2 hb2 _) | with_reducible exact KH _ hb1 | with_reducible exact KH _ (keepAl2 hb1 _) | with_reducible exact KH _ A0 | with_reducible exact KH _ A1 | with_reducible exact KH _ (keepSt2 (keepSt2 hb3 _ _ (by first | with_reducible exact Nat.le_refl _ | with_reducible exact hs1 | with_reducible exact hs2 | with_reducible exact hs3) _) _ _ (by first | with_reducible exact Nat.le_refl _ | with_reducible exact hs1 | with_reducible exact hs2 | with_reducible exact hs3) _))
    (first | (have hq := hb2; clear hq; go_at_call 43; refine (kP _).mono ?_; rintro e u3 ⟨rfl, hb0⟩; have hb3 := keepC (w1 := wx) (by first | with_reducible exact hb2 | with_reducible exact keepAl2 hb2 _) hb0; have hs3 := hb3.size; (first | (with_reducible replace z := z.below hb0) | (with_reducible have z := (W2_zero u2).below hb0) | skip); clear hb0; (try (have zz := z; obtain ⟨z0, z1, z2, z3, z4⟩ := zz))) | (have hq := hb1; clear hq; go_at_call 66; refine (kS _).mono ?_; rintro e u2 ⟨rfl, hb0⟩; have hb2 := keepC (w1 := wx) (by first | with_reducible exact hb1 | with_reducible exact keepAl2 hb1 _) hb0; have hs2 := hb2.size; (first | (with_reducible replace z := z.below hb0) | (with_reducible have z := (W2_zero u1).below hb0) | skip); clear hb0) | (go_at_call 65; refine (kF _).mono ?_; rintro e u1 ⟨rfl, hb0⟩; have hb1 := keepC (w1 := wx) (by first | with_reducible exact A0 | with_reducible exact A1) hb0; have hs1 := hb1.size; (first | (with_reducible have z := ZA.below hb0) | skip); clear hb0 ZA))
   all_goals go_wp2_with fail
   all_goals go_meet
   all_goals first | exact ⟨_, rfl, hs3, W2_new u3 Y _, keepAl2 hb3 _⟩ | exact ⟨_, rfl, (by first | with_reducible exact Nat.le_refl _ | with_reducible exact hs1 | with_reducible exact hs2 | with_reducible exact hs3), W2_set z.1 z.2.1 z.2.2.1 z.2.2.2.1, keepSt2 (keepSt2 hb3 _ _ (by first | with_reducible exact Nat.le_refl _ | with_reducible exact hs1 | with_reducible exact hs2 | with_reducible exact hs3) _) _ _ (by first | with_reducible exact Nat.le_refl _ | with_reducible exact hs1 | with_reducible exact hs2 | with_reducible exact hs3) _⟩
  case rest =>
   rename World => wy
   obtain ⟨nb, rfl, hnb, hW, hby⟩ := hcut
   have J2 := JB _ hby
   have hrl := J1.r.2.2.2.2
   clear ZA A0 A1 KH JB
   cases n
   · skip
     simp only [Bool.false_eq_true, if_false] at hQ
     subst hQ
     obtain ⟨x0, x1, -, -, -⟩ := id hW
     obtain ⟨r0, r1, r2, r3, -⟩ := J2.r
     go_wp2_with fail
     exact bodyPost_ret (v := .agg #[.int .u64 (M.hiN Q : Int), .int .u64 (M.loN Q : Int)]) (by simp [results, Tryd.results71, go_sem, r0, r1]) rfl ⟨rfl, (J2.b.setCell (p := ⟨w.heap.size + 1 + 1, 0, none⟩) (by simp only; omega) _).setCell (p := ⟨w.heap.size + 1 + 1, 1, none⟩) (by simp only; omega) _⟩
   · skip
     simp only [if_true] at hQ
     subst hQ
     go_upto_region 5 with fail
     have C0 : Below wy.heap.size wy wy.drew := (Below.refl _ _).drew
     obtain ⟨x0, x1, -, -, -⟩ := hW.below C0
     obtain ⟨d0, d1, d2, d3, d4, d5⟩ := (J2.below C0).d
     go_region_with (first | (have hq := hc1; clear hq; go_at_call 43; refine (kQ _).mono ?_; rintro e u5 ⟨rfl, hb0⟩; have hc2 := keepC (w1 := wy) hc1 hb0; clear hb0; obtain ⟨y0, y1, y2, y3, -⟩ := hW.below hc2) | (go_at_call 73; refine (kB _ _ (by first | with_reducible rfl | omega | (simp only [IntKind.wrap_i64]; omega))).mono ?_; rintro e u4 ⟨rfl, hb0⟩; have hc1 := keepC (w1 := wy) C0 hb0; clear hb0; obtain ⟨s0, s1, -, -, -⟩ := hW.below hc1; obtain ⟨m0, m1, m2, m3, m4, m5⟩ := (J2.below hc1).d))
     all_goals have J5 := J2.below hc2
     all_goals obtain ⟨r0, r1, r2, r3, r4⟩ := J5.r
     all_goals have nrb : w.heap.size + 1 + 1 ≠ nb := by omega
     all_goals have q0 := fun x y => (far2 u5 x y nrb).trans r0
     all_goals have q1 := fun x y => (far2 u5 x y nrb).trans r1
     all_goals have q2 := fun x y => (ffar2 u5 x y nrb).trans r2
     all_goals have q3 := fun x y => (ffar2 u5 x y nrb).trans r3
     all_goals go_wp2_with fail
     all_goals have hnw : w.heap.size ≤ nb := by omega
     all_goals exact bodyPost_ret (v := .agg #[.int .u64 (M.hiN Q : Int), .int .u64 (M.loN Q : Int)]) (by simp [results, Tryd.results71, go_sem, q0, q1]) rfl ⟨rfl, (((J5.b.setCell (p := ⟨nb, 0, none⟩) hnw _).setCell (p := ⟨nb, 1, none⟩) hnw _).setCell (p := ⟨w.heap.size + 1 + 1, 0, none⟩) (by simp only; omega) _).setCell (p := ⟨w.heap.size + 1 + 1, 1, none⟩) (by simp only; omega) _⟩

theorem djoin_low (F : M.Fm) (n : Bool) (fld : Int) (sg Z : Nat) (w : World) (h0 : ¬ 0 < fld) (U Y T R Q : Nat) (hwd : F.wd ≤ 128) (hwd1 : 1 ≤ F.wd) (hQ : Q = if n = true then R else Y)
 (kB : ∀ (v : World) (z : Int), z = (F.wd : Int) - 1 → Calls Tryd.prog 73 #[.int .i64 z] v fun e w' => e = .returned (.agg #[.int .u64 (M.hiN T : Int), .int .u64 (M.loN T : Int)]) ∧ Below v.heap.size v w')
 (kQ : ∀ v : World, Calls Tryd.prog 43 #[.agg #[.int .u64 (M.hiN Y : Int), .int .u64 (M.loN Y : Int)], .agg #[.int .u64 (M.hiN T : Int), .int .u64 (M.loN T : Int)]] v fun e w' => e = .returned (.agg #[.int .u64 (M.hiN R : Int), .int .u64 (M.loN R : Int)]) ∧ Below v.heap.size v w')
 (kF : ∀ v : World, Calls Tryd.prog 65 #[.agg #[.int .i64 (F.p : Int), .int .i64 (1 - (F.emax : Int)), .int .i64 (F.emax : Int), .int .i64 (F.wd : Int), .int .i64 (F.e : Int), .bool false]] v fun e w' => e = .returned (.int .i64 (F.fb : Int)) ∧ Below v.heap.size v w')
 (kS : ∀ v : World, Calls Tryd.prog 66 #[.agg #[.int .u64 0, .int .u64 (IntKind.u64.wrap fld)], .int .i64 (F.fb : Int)] v fun e w' => e = .returned (.agg #[.int .u64 (M.hiN U : Int), .int .u64 (M.loN U : Int)]) ∧ Below v.heap.size v w')
 (kP : ∀ v : World, Calls Tryd.prog 43 #[.agg #[.int .u64 (M.hiN U : Int), .int .u64 (M.loN U : Int)], .agg #[.int .u64 (M.hiN sg : Int), .int .u64 (M.loN sg : Int)]] v fun e w' => e = .returned (.agg #[.int .u64 (M.hiN Y : Int), .int .u64 (M.loN Y : Int)]) ∧ Below v.heap.size v w') :
 Calls Tryd.prog 71 #[.agg #[.int .i64 (F.p : Int), .int .i64 (1 - (F.emax : Int)), .int .i64 (F.emax : Int), .int .i64 (F.wd : Int), .int .i64 (F.e : Int), .bool false], .bool n, .int .i64 fld, .agg #[.int .u64 (M.hiN sg : Int), .int .u64 (M.loN sg : Int)]] w fun e w' => e = .returned (.agg #[.int .u64 (M.hiN Q : Int), .int .u64 (M.loN Q : Int)]) ∧ Below w.heap.size w w' := by
 go_enter Tryd.func71, Tryd.ntmps71
 go_upto_region 3 with fail
 have J0 : Jv w (((w.alloc (.cells #[.int .i64 (F.p : Int), .int .i64 (1 - (F.emax : Int)), .int .i64 (F.emax : Int), .int .i64 (F.wd : Int), .int .i64 (F.e : Int), .bool false] 56)).alloc (.cells #[.int .u64 (M.hiN sg : Int), .int .u64 (M.loN sg : Int)] 28)).alloc (.cells #[.int .u64 0, .int .u64 0] 28)) F false sg := by
  refine ⟨(((Below.refl _ _).alloc (Nat.le_refl _) _).alloc (by simp) _).alloc (by simp; omega) _, ⟨?_, ?_, ?_, ?_, ?_, ?_⟩, ⟨?_, ?_, ?_, ?_, ?_⟩, ⟨?_, ?_, ?_, ?_, ?_⟩⟩ <;> simp [go_sem, hi0, lo0] <;> omega
 generalize (((w.alloc (.cells #[.int .i64 (F.p : Int), .int .i64 (1 - (F.emax : Int)), .int .i64 (F.emax : Int), .int .i64 (F.wd : Int), .int .i64 (F.e : Int), .bool false] 56)).alloc (.cells #[.int .u64 (M.hiN sg : Int), .int .u64 (M.loN sg : Int)] 28)).alloc (.cells #[.int .u64 0, .int .u64 0] 28)) = v0 at *
 have A0 : Below v0.heap.size v0 v0.drew := (Below.refl _ _).drew
 have A1 : Below v0.heap.size v0 (v0.alloc (.cells #[.int .u64 0, .int .u64 0] 28)).drew := (keepAl2 (Below.refl _ _) _).drew
 have ZA : W2 (v0.alloc (.cells #[.int .u64 0, .int .u64 0] 28)).drew v0.heap.size 0 := (W2_zero v0).below (Below.refl _ _).drew
 have JB : ∀ v, Below v0.heap.size v0 v → Jv w v F false sg := fun v hv => J0.below hv
 have KH : ∀ v, Below v0.heap.size v0 v → (fun v => v.cell? ⟨w.heap.size, 0, none⟩ = some (.int .i64 (F.p : Int)) ∧ v.cell? ⟨w.heap.size, 1, none⟩ = some (.int .i64 (1 - (F.emax : Int))) ∧ v.cell? ⟨w.heap.size, 2, none⟩ = some (.int .i64 (F.emax : Int)) ∧ v.cell? ⟨w.heap.size, 3, none⟩ = some (.int .i64 (F.wd : Int)) ∧ v.cell? ⟨w.heap.size, 4, none⟩ = some (.int .i64 (F.e : Int)) ∧ v.cell? ⟨w.heap.size, 5, none⟩ = some (.bool false) ∧ v.cell? ⟨w.heap.size + 1, 0, none⟩ = some (.int .u64 (M.hiN sg : Int)) ∧ v.cell? ⟨w.heap.size + 1, 1, none⟩ = some (.int .u64 (M.loN sg : Int))) v := fun v hv => (JB v hv).raw
 go_cut [9] (fun p wy => ∃ nb, p = .pointer (some ⟨nb, 0, none⟩) ∧ v0.heap.size ≤ nb ∧ W2 wy nb Y ∧ Below v0.heap.size v0 wy)
 case first =>
  go_region_held3 (fun v => v.cell? ⟨w.heap.size, 0, none⟩ = some (.int .i64 (F.p : Int)) ∧ v.cell? ⟨w.heap.size, 1, none⟩ = some (.int .i64 (1 - (F.emax : Int))) ∧ v.cell? ⟨w.heap.size, 2, none⟩ = some (.int .i64 (F.emax : Int)) ∧ v.cell? ⟨w.heap.size, 3, none⟩ = some (.int .i64 (F.wd : Int)) ∧ v.cell? ⟨w.heap.size, 4, none⟩ = some (.int .i64 (F.e : Int)) ∧ v.cell? ⟨w.heap.size, 5, none⟩ = some (.bool false) ∧ v.cell? ⟨w.heap.size + 1, 0, none⟩ = some (.int .u64 (M.hiN sg : Int)) ∧ v.cell? ⟨w.heap.size + 1, 1, none⟩ = some (.int .u64 (M.loN sg : Int))) (first | with_reducible exact KH _ hb3 | with_reducible exact KH _ (keepAl2 hb3 _) | with_reducible exact KH _ hb2 | with_reducible exact KH _ (keepAl2 hb2 _) | with_reducible exact KH _ hb1 | with_reducible exact KH _ (keepAl2 hb1 _) | with_reducible exact KH _ A0 | with_reducible exact KH _ A1 | with_reducible exact KH _ (keepSt2 (keepSt2 hb3 _ _ (by first | with_reducible exact Nat.le_refl _ | with_reducible exact hs1 | with_reducible exact hs2 | with_reducible exact hs3) _) _ _ (by first | with_reducible exact Nat.le_refl _ | with_reducible exact hs1 | with_reducible exact hs2 | with_reducible exact hs3) _))
   (first | (have hq := hb2; clear hq; go_at_call 43; refine (kP _).mono ?_; rintro e u3 ⟨rfl, hb0⟩; have hb3 := keepC (w1 := v0) (by first | with_reducible exact hb2 | with_reducible exact keepAl2 hb2 _) hb0; have hs3 := hb3.size; (first | (with_reducible replace z := z.below hb0) | (with_reducible have z := (W2_zero u2).below hb0) | skip); clear hb0; (try (have zz := z; obtain ⟨z0, z1, z2, z3, z4⟩ := zz))) | (have hq := hb1; clear hq; go_at_call 66; refine (kS _).mono ?_; rintro e u2 ⟨rfl, hb0⟩; have hb2 := keepC (w1 := v0) (by first | with_reducible exact hb1 | with_reducible exact keepAl2 hb1 _) hb0; have hs2 := hb2.size; (first | (with_reducible replace z := z.below hb0) | (with_reducible have z := (W2_zero u1).below hb0) | skip); clear hb0) | (go_at_call 65; refine (kF _).mono ?_; rintro e u1 ⟨rfl, hb0⟩; have hb1 := keepC (w1 := v0) (by first | with_reducible exact A0 | with_reducible exact A1) hb0; have hs1 := hb1.size; (first | (with_reducible have z := ZA.below hb0) | skip); clear hb0 ZA))
  all_goals go_wp2_with fail
  all_goals go_meet
  all_goals first | exact ⟨_, rfl, hs3, W2_new u3 Y _, keepAl2 hb3 _⟩ | exact ⟨_, rfl, (by first | with_reducible exact Nat.le_refl _ | with_reducible exact hs1 | with_reducible exact hs2 | with_reducible exact hs3), W2_set z.1 z.2.1 z.2.2.1 z.2.2.2.1, keepSt2 (keepSt2 hb3 _ _ (by first | with_reducible exact Nat.le_refl _ | with_reducible exact hs1 | with_reducible exact hs2 | with_reducible exact hs3) _) _ _ (by first | with_reducible exact Nat.le_refl _ | with_reducible exact hs1 | with_reducible exact hs2 | with_reducible exact hs3) _⟩
 case rest =>
  rename World => wy
  obtain ⟨nb, rfl, hnb, hW, hby⟩ := hcut
  have J2 := JB _ hby
  have hrl := J0.r.2.2.2.2
  clear ZA A0 A1 KH JB
  cases n
  · skip
    simp only [Bool.false_eq_true, if_false] at hQ
    subst hQ
    obtain ⟨x0, x1, -, -, -⟩ := id hW
    obtain ⟨r0, r1, r2, r3, -⟩ := J2.r
    go_wp2_with fail
    exact bodyPost_ret (v := .agg #[.int .u64 (M.hiN Q : Int), .int .u64 (M.loN Q : Int)]) (by simp [results, Tryd.results71, go_sem, r0, r1]) rfl ⟨rfl, (J2.b.setCell (p := ⟨w.heap.size + 1 + 1, 0, none⟩) (by simp only; omega) _).setCell (p := ⟨w.heap.size + 1 + 1, 1, none⟩) (by simp only; omega) _⟩
  · skip
    simp only [if_true] at hQ
    subst hQ
    go_upto_region 5 with fail
    have C0 : Below wy.heap.size wy wy.drew := (Below.refl _ _).drew
    obtain ⟨x0, x1, -, -, -⟩ := hW.below C0
    obtain ⟨d0, d1, d2, d3, d4, d5⟩ := (J2.below C0).d
    go_region_with (first | (have hq := hc1; clear hq; go_at_call 43; refine (kQ _).mono ?_; rintro e u5 ⟨rfl, hb0⟩; have hc2 := keepC (w1 := wy) hc1 hb0; clear hb0; obtain ⟨y0, y1, y2, y3, -⟩ := hW.below hc2) | (go_at_call 73; refine (kB _ _ (by first | with_reducible rfl | omega | (simp only [IntKind.wrap_i64]; omega))).mono ?_; rintro e u4 ⟨rfl, hb0⟩; have hc1 := keepC (w1 := wy) C0 hb0; clear hb0; obtain ⟨s0, s1, -, -, -⟩ := hW.below hc1; obtain ⟨m0, m1, m2, m3, m4, m5⟩ := (J2.below hc1).d))
    all_goals have J5 := J2.below hc2
    all_goals obtain ⟨r0, r1, r2, r3, r4⟩ := J5.r
    all_goals have nrb : w.heap.size + 1 + 1 ≠ nb := by omega
    all_goals have q0 := fun x y => (far2 u5 x y nrb).trans r0
    all_goals have q1 := fun x y => (far2 u5 x y nrb).trans r1
    all_goals have q2 := fun x y => (ffar2 u5 x y nrb).trans r2
    all_goals have q3 := fun x y => (ffar2 u5 x y nrb).trans r3
    all_goals go_wp2_with fail
    all_goals have hnw : w.heap.size ≤ nb := by omega
    all_goals exact bodyPost_ret (v := .agg #[.int .u64 (M.hiN Q : Int), .int .u64 (M.loN Q : Int)]) (by simp [results, Tryd.results71, go_sem, q0, q1]) rfl ⟨rfl, (((J5.b.setCell (p := ⟨nb, 0, none⟩) hnw _).setCell (p := ⟨nb, 1, none⟩) hnw _).setCell (p := ⟨w.heap.size + 1 + 1, 0, none⟩) (by simp only; omega) _).setCell (p := ⟨w.heap.size + 1 + 1, 1, none⟩) (by simp only; omega) _⟩

theorem djoin_exp (F : M.Fm) (n : Bool) (fld : Int) (sg Z : Nat) (w : World)  (U Y T R Q : Nat) (hwd : F.wd ≤ 128) (hwd1 : 1 ≤ F.wd) (hQ : Q = if n = true then R else Y)
 (kB : ∀ (v : World) (z : Int), z = (F.wd : Int) - 1 → Calls Tryd.prog 73 #[.int .i64 z] v fun e w' => e = .returned (.agg #[.int .u64 (M.hiN T : Int), .int .u64 (M.loN T : Int)]) ∧ Below v.heap.size v w')
 (kQ : ∀ v : World, Calls Tryd.prog 43 #[.agg #[.int .u64 (M.hiN Y : Int), .int .u64 (M.loN Y : Int)], .agg #[.int .u64 (M.hiN T : Int), .int .u64 (M.loN T : Int)]] v fun e w' => e = .returned (.agg #[.int .u64 (M.hiN R : Int), .int .u64 (M.loN R : Int)]) ∧ Below v.heap.size v w')
 (kF : ∀ v : World, Calls Tryd.prog 65 #[.agg #[.int .i64 (F.p : Int), .int .i64 (1 - (F.emax : Int)), .int .i64 (F.emax : Int), .int .i64 (F.wd : Int), .int .i64 (F.e : Int), .bool true]] v fun e w' => e = .returned (.int .i64 (F.fb : Int)) ∧ Below v.heap.size v w')
 (kS : ∀ v : World, Calls Tryd.prog 66 #[.agg #[.int .u64 0, .int .u64 (IntKind.u64.wrap fld)], .int .i64 (F.fb : Int)] v fun e w' => e = .returned (.agg #[.int .u64 (M.hiN U : Int), .int .u64 (M.loN U : Int)]) ∧ Below v.heap.size v w')
 (kP : ∀ v : World, Calls Tryd.prog 43 #[.agg #[.int .u64 (M.hiN U : Int), .int .u64 (M.loN U : Int)], .agg #[.int .u64 (M.hiN sg : Int), .int .u64 (M.loN sg : Int)]] v fun e w' => e = .returned (.agg #[.int .u64 (M.hiN Y : Int), .int .u64 (M.loN Y : Int)]) ∧ Below v.heap.size v w') :
 Calls Tryd.prog 71 #[.agg #[.int .i64 (F.p : Int), .int .i64 (1 - (F.emax : Int)), .int .i64 (F.emax : Int), .int .i64 (F.wd : Int), .int .i64 (F.e : Int), .bool true], .bool n, .int .i64 fld, .agg #[.int .u64 (M.hiN sg : Int), .int .u64 (M.loN sg : Int)]] w fun e w' => e = .returned (.agg #[.int .u64 (M.hiN Q : Int), .int .u64 (M.loN Q : Int)]) ∧ Below w.heap.size w w' := by
 go_enter Tryd.func71, Tryd.ntmps71
 go_upto_region 3 with fail
 have J0 : Jv w (((w.alloc (.cells #[.int .i64 (F.p : Int), .int .i64 (1 - (F.emax : Int)), .int .i64 (F.emax : Int), .int .i64 (F.wd : Int), .int .i64 (F.e : Int), .bool true] 56)).alloc (.cells #[.int .u64 (M.hiN sg : Int), .int .u64 (M.loN sg : Int)] 28)).alloc (.cells #[.int .u64 0, .int .u64 0] 28)) F true sg := by
  refine ⟨(((Below.refl _ _).alloc (Nat.le_refl _) _).alloc (by simp) _).alloc (by simp; omega) _, ⟨?_, ?_, ?_, ?_, ?_, ?_⟩, ⟨?_, ?_, ?_, ?_, ?_⟩, ⟨?_, ?_, ?_, ?_, ?_⟩⟩ <;> simp [go_sem, hi0, lo0] <;> omega
 generalize (((w.alloc (.cells #[.int .i64 (F.p : Int), .int .i64 (1 - (F.emax : Int)), .int .i64 (F.emax : Int), .int .i64 (F.wd : Int), .int .i64 (F.e : Int), .bool true] 56)).alloc (.cells #[.int .u64 (M.hiN sg : Int), .int .u64 (M.loN sg : Int)] 28)).alloc (.cells #[.int .u64 0, .int .u64 0] 28)) = v0 at *
 have A0 : Below v0.heap.size v0 v0.drew := (Below.refl _ _).drew
 have A1 : Below v0.heap.size v0 (v0.alloc (.cells #[.int .u64 0, .int .u64 0] 28)).drew := (keepAl2 (Below.refl _ _) _).drew
 have ZA : W2 (v0.alloc (.cells #[.int .u64 0, .int .u64 0] 28)).drew v0.heap.size 0 := (W2_zero v0).below (Below.refl _ _).drew
 have JB : ∀ v, Below v0.heap.size v0 v → Jv w v F true sg := fun v hv => J0.below hv
 have KH : ∀ v, Below v0.heap.size v0 v → (fun v => v.cell? ⟨w.heap.size, 0, none⟩ = some (.int .i64 (F.p : Int)) ∧ v.cell? ⟨w.heap.size, 1, none⟩ = some (.int .i64 (1 - (F.emax : Int))) ∧ v.cell? ⟨w.heap.size, 2, none⟩ = some (.int .i64 (F.emax : Int)) ∧ v.cell? ⟨w.heap.size, 3, none⟩ = some (.int .i64 (F.wd : Int)) ∧ v.cell? ⟨w.heap.size, 4, none⟩ = some (.int .i64 (F.e : Int)) ∧ v.cell? ⟨w.heap.size, 5, none⟩ = some (.bool true) ∧ v.cell? ⟨w.heap.size + 1, 0, none⟩ = some (.int .u64 (M.hiN sg : Int)) ∧ v.cell? ⟨w.heap.size + 1, 1, none⟩ = some (.int .u64 (M.loN sg : Int))) v := fun v hv => (JB v hv).raw
 go_cut [9] (fun p wy => ∃ nb, p = .pointer (some ⟨nb, 0, none⟩) ∧ v0.heap.size ≤ nb ∧ W2 wy nb Y ∧ Below v0.heap.size v0 wy)
 case first =>
  go_region_held3 (fun v => v.cell? ⟨w.heap.size, 0, none⟩ = some (.int .i64 (F.p : Int)) ∧ v.cell? ⟨w.heap.size, 1, none⟩ = some (.int .i64 (1 - (F.emax : Int))) ∧ v.cell? ⟨w.heap.size, 2, none⟩ = some (.int .i64 (F.emax : Int)) ∧ v.cell? ⟨w.heap.size, 3, none⟩ = some (.int .i64 (F.wd : Int)) ∧ v.cell? ⟨w.heap.size, 4, none⟩ = some (.int .i64 (F.e : Int)) ∧ v.cell? ⟨w.heap.size, 5, none⟩ = some (.bool true) ∧ v.cell? ⟨w.heap.size + 1, 0, none⟩ = some (.int .u64 (M.hiN sg : Int)) ∧ v.cell? ⟨w.heap.size + 1, 1, none⟩ = some (.int .u64 (M.loN sg : Int))) (first | with_reducible exact KH _ hb3 | with_reducible exact KH _ (keepAl2 hb3 _) | with_reducible exact KH _ hb2 | with_reducible exact KH _ (keepAl2 hb2 _) | with_reducible exact KH _ hb1 | with_reducible exact KH _ (keepAl2 hb1 _) | with_reducible exact KH _ A0 | with_reducible exact KH _ A1 | with_reducible exact KH _ (keepSt2 (keepSt2 hb3 _ _ (by first | with_reducible exact Nat.le_refl _ | with_reducible exact hs1 | with_reducible exact hs2 | with_reducible exact hs3) _) _ _ (by first | with_reducible exact Nat.le_refl _ | with_reducible exact hs1 | with_reducible exact hs2 | with_reducible exact hs3) _))
   (first | (have hq := hb2; clear hq; go_at_call 43; refine (kP _).mono ?_; rintro e u3 ⟨rfl, hb0⟩; have hb3 := keepC (w1 := v0) (by first | with_reducible exact hb2 | with_reducible exact keepAl2 hb2 _) hb0; have hs3 := hb3.size; (first | (with_reducible replace z := z.below hb0) | (with_reducible have z := (W2_zero u2).below hb0) | skip); clear hb0; (try (have zz := z; obtain ⟨z0, z1, z2, z3, z4⟩ := zz))) | (have hq := hb1; clear hq; go_at_call 66; refine (kS _).mono ?_; rintro e u2 ⟨rfl, hb0⟩; have hb2 := keepC (w1 := v0) (by first | with_reducible exact hb1 | with_reducible exact keepAl2 hb1 _) hb0; have hs2 := hb2.size; (first | (with_reducible replace z := z.below hb0) | (with_reducible have z := (W2_zero u1).below hb0) | skip); clear hb0) | (go_at_call 65; refine (kF _).mono ?_; rintro e u1 ⟨rfl, hb0⟩; have hb1 := keepC (w1 := v0) (by first | with_reducible exact A0 | with_reducible exact A1) hb0; have hs1 := hb1.size; (first | (with_reducible have z := ZA.below hb0) | skip); clear hb0 ZA))
  all_goals go_wp2_with fail
  all_goals go_meet
  all_goals first | exact ⟨_, rfl, hs3, W2_new u3 Y _, keepAl2 hb3 _⟩ | exact ⟨_, rfl, (by first | with_reducible exact Nat.le_refl _ | with_reducible exact hs1 | with_reducible exact hs2 | with_reducible exact hs3), W2_set z.1 z.2.1 z.2.2.1 z.2.2.2.1, keepSt2 (keepSt2 hb3 _ _ (by first | with_reducible exact Nat.le_refl _ | with_reducible exact hs1 | with_reducible exact hs2 | with_reducible exact hs3) _) _ _ (by first | with_reducible exact Nat.le_refl _ | with_reducible exact hs1 | with_reducible exact hs2 | with_reducible exact hs3) _⟩
 case rest =>
  rename World => wy
  obtain ⟨nb, rfl, hnb, hW, hby⟩ := hcut
  have J2 := JB _ hby
  have hrl := J0.r.2.2.2.2
  clear ZA A0 A1 KH JB
  cases n
  · skip
    simp only [Bool.false_eq_true, if_false] at hQ
    subst hQ
    obtain ⟨x0, x1, -, -, -⟩ := id hW
    obtain ⟨r0, r1, r2, r3, -⟩ := J2.r
    go_wp2_with fail
    exact bodyPost_ret (v := .agg #[.int .u64 (M.hiN Q : Int), .int .u64 (M.loN Q : Int)]) (by simp [results, Tryd.results71, go_sem, r0, r1]) rfl ⟨rfl, (J2.b.setCell (p := ⟨w.heap.size + 1 + 1, 0, none⟩) (by simp only; omega) _).setCell (p := ⟨w.heap.size + 1 + 1, 1, none⟩) (by simp only; omega) _⟩
  · skip
    simp only [if_true] at hQ
    subst hQ
    go_upto_region 5 with fail
    have C0 : Below wy.heap.size wy wy.drew := (Below.refl _ _).drew
    obtain ⟨x0, x1, -, -, -⟩ := hW.below C0
    obtain ⟨d0, d1, d2, d3, d4, d5⟩ := (J2.below C0).d
    go_region_with (first | (have hq := hc1; clear hq; go_at_call 43; refine (kQ _).mono ?_; rintro e u5 ⟨rfl, hb0⟩; have hc2 := keepC (w1 := wy) hc1 hb0; clear hb0; obtain ⟨y0, y1, y2, y3, -⟩ := hW.below hc2) | (go_at_call 73; refine (kB _ _ (by first | with_reducible rfl | omega | (simp only [IntKind.wrap_i64]; omega))).mono ?_; rintro e u4 ⟨rfl, hb0⟩; have hc1 := keepC (w1 := wy) C0 hb0; clear hb0; obtain ⟨s0, s1, -, -, -⟩ := hW.below hc1; obtain ⟨m0, m1, m2, m3, m4, m5⟩ := (J2.below hc1).d))
    all_goals have J5 := J2.below hc2
    all_goals obtain ⟨r0, r1, r2, r3, r4⟩ := J5.r
    all_goals have nrb : w.heap.size + 1 + 1 ≠ nb := by omega
    all_goals have q0 := fun x y => (far2 u5 x y nrb).trans r0
    all_goals have q1 := fun x y => (far2 u5 x y nrb).trans r1
    all_goals have q2 := fun x y => (ffar2 u5 x y nrb).trans r2
    all_goals have q3 := fun x y => (ffar2 u5 x y nrb).trans r3
    all_goals go_wp2_with fail
    all_goals have hnw : w.heap.size ≤ nb := by omega
    all_goals exact bodyPost_ret (v := .agg #[.int .u64 (M.hiN Q : Int), .int .u64 (M.loN Q : Int)]) (by simp [results, Tryd.results71, go_sem, q0, q1]) rfl ⟨rfl, (((J5.b.setCell (p := ⟨nb, 0, none⟩) hnw _).setCell (p := ⟨nb, 1, none⟩) hnw _).setCell (p := ⟨w.heap.size + 1 + 1, 0, none⟩) (by simp only; omega) _).setCell (p := ⟨w.heap.size + 1 + 1, 1, none⟩) (by simp only; omega) _⟩

theorem fb_lt {F : M.Fm} (h : F.Ok) : F.fb < 128 := by
 have := h.p2
 unfold M.Fm.fb
 split <;> omega

theorem wd_pos {F : M.Fm} (h : F.Ok) : 1 ≤ F.wd := by
 unfold M.Fm.wd; omega

theorem lead_lt {F : M.Fm} (h : F.Ok) : F.lead < 2 ^ 128 := by
 have := h.p2
 unfold M.Fm.lead
 exact Nat.pow_lt_pow_right (by omega) (by omega)

theorem jshl (F : M.Fm) (h : F.Ok) (fld : Int) (v : World) : Calls Tryd.prog 66 #[.agg #[.int .u64 0, .int .u64 (IntKind.u64.wrap fld)], .int .i64 (F.fb : Int)] v fun e w' => e = .returned (.agg #[.int .u64 (M.hiN (uw fld * 2 ^ F.fb % 2 ^ 128) : Int), .int .u64 (M.loN (uw fld * 2 ^ F.fb % 2 ^ 128) : Int)]) ∧ Below v.heap.size v w' := by
 obtain ⟨e1, e2⟩ := uw_eq fld
 have k := wshl (uw fld) F.fb v (by omega) (fb_lt h) _ rfl
 have h1 : M.hiN (uw fld) = 0 := by unfold M.hiN; omega
 have h2 : M.loN (uw fld) = uw fld := by unfold M.loN; omega
 rw [h1, h2] at k
 rw [e1]
 exact k

theorem djoin (F : M.Fm) (h : F.Ok) (n : Bool) (fld : Int) (sg : Nat) (hsg : sg < 2 ^ 128) (w : World) :
 Calls Tryd.prog 71 #[.agg #[.int .i64 (F.p : Int), .int .i64 (1 - (F.emax : Int)), .int .i64 (F.emax : Int), .int .i64 (F.wd : Int), .int .i64 (F.e : Int), .bool F.x], .bool n, .int .i64 fld, .agg #[.int .u64 (M.hiN sg : Int), .int .u64 (M.loN sg : Int)]] w fun e w' => e = .returned (.agg #[.int .u64 (M.hiN (jn F n fld sg) : Int), .int .u64 (M.loN (jn F n fld sg) : Int)]) ∧ Below w.heap.size w w' := by
 have kF := fun v : World => dFrac F h v
 have kL := fun v : World => dLead F h v
 have hjs := js_lt F fld hsg
 have hU : uw fld * 2 ^ F.fb % 2 ^ 128 < 2 ^ 128 := Nat.mod_lt _ (by omega)
 have hY : jy F fld sg < 2 ^ 128 := Nat.mod_lt _ (by omega)
 have hT : 2 ^ (F.wd - 1) < 2 ^ 128 := Nat.pow_lt_pow_right (by omega) (by have := h.w; have := wd_pos h; omega)
 have kP := fun v : World => wplus _ _ v hU hjs (jy F fld sg) rfl
 have kB : ∀ (v : World) (z : Int), z = (F.wd : Int) - 1 → Calls Tryd.prog 73 #[.int .i64 z] v fun e w' => e = .returned (.agg #[.int .u64 (M.hiN (2 ^ (F.wd - 1)) : Int), .int .u64 (M.loN (2 ^ (F.wd - 1)) : Int)]) ∧ Below v.heap.size v w' := fun v z hz => by
  have hp := wd_pos h
  rw [hz, show (F.wd : Int) - 1 = ((F.wd - 1 : Nat) : Int) by omega]
  exact wbitAt (F.wd - 1) v (by have := h.w; omega) _ rfl
 have kQ := fun v : World => wplus _ _ v hY hT _ rfl
 have hQ : jn F n fld sg = if n = true then (jy F fld sg + 2 ^ (F.wd - 1)) % 2 ^ 128 else jy F fld sg := rfl
 simp only [dv] at kF kL
 cases hx : F.x
 · rw [hx] at kF kL
   by_cases h0 : 0 < fld
   · have kM := fun v : World => wminus sg F.lead v hsg (lead_lt h) (js F fld sg) (js_yes sg ⟨hx, h0⟩)
     exact djoin_sub F n fld sg (js F fld sg) w h0 kL kM _ _ _ _ _ h.w (wd_pos h) hQ kB kQ kF (fun v => jshl F h fld v) kP
   · rw [js_no sg (fun hc => h0 hc.2)] at kP
     exact djoin_low F n fld sg 0 w h0 _ _ _ _ _ h.w (wd_pos h) hQ kB kQ kF (fun v => jshl F h fld v) kP
 · rw [hx] at kF kL
   rw [js_no sg (fun hc => by rw [hx] at hc; exact absurd hc.1 (by simp))] at kP
   exact djoin_exp F n fld sg 0 w _ _ _ _ _ h.w (wd_pos h) hQ kB kQ kF (fun v => jshl F h fld v) kP

def pki (F : M.Fm) (c : Int) (n : Bool) (s : Nat) (q : Int) : Nat :=
 if c = 2 then jn F n 0 s else if c = 3 then jn F n (IntKind.i64.wrap (q + (F.emax : Int) + (F.p : Int) - 1)) s
 else if c = 4 then jn F n (F.top : Int) F.lead else if c = 5 then jn F false (F.top : Int) ((F.lead + 2 ^ (F.p - 2)) % 2 ^ 128) else jn F n 0 0

theorem dpack2 (F : M.Fm) (h : F.Ok) (n : Bool) (s : Nat) (q : Int) (hs : s < 2 ^ 128) (w : World)  :
 Calls Tryd.prog 59 #[.agg #[.int .i64 (F.p : Int), .int .i64 (1 - (F.emax : Int)), .int .i64 (F.emax : Int), .int .i64 (F.wd : Int), .int .i64 (F.e : Int), .bool F.x], .agg #[.int .i64 2, .bool n, .int .u64 (M.hiN s : Int), .int .u64 (M.loN s : Int), .int .i64 q]] w fun e w' => e = .returned (.agg #[.int .u64 (M.hiN (jn F n 0 s) : Int), .int .u64 (M.loN (jn F n 0 s) : Int)]) ∧ Below w.heap.size w w' := by
 have kJ := fun v : World => djoin F h n 0 s hs v
 generalize jn F n 0 s = Q at *
 have b0 : Below w.heap.size w (((w.alloc (.cells #[.int .i64 (F.p : Int), .int .i64 (1 - (F.emax : Int)), .int .i64 (F.emax : Int), .int .i64 (F.wd : Int), .int .i64 (F.e : Int), .bool F.x] 56)).alloc (.cells #[.int .i64 2, .bool n, .int .u64 (M.hiN s : Int), .int .u64 (M.loN s : Int), .int .i64 q] 33)).alloc (.cells #[.int .u64 0, .int .u64 0] 28)) := (((Below.refl _ _).alloc (Nat.le_refl _) _).alloc (by simp) _).alloc (by simp; omega) _
 have R0 : W2 (((w.alloc (.cells #[.int .i64 (F.p : Int), .int .i64 (1 - (F.emax : Int)), .int .i64 (F.emax : Int), .int .i64 (F.wd : Int), .int .i64 (F.e : Int), .bool F.x] 56)).alloc (.cells #[.int .i64 2, .bool n, .int .u64 (M.hiN s : Int), .int .u64 (M.loN s : Int), .int .i64 q] 33)).alloc (.cells #[.int .u64 0, .int .u64 0] 28)) (w.heap.size + 1 + 1) 0 := by refine ⟨?_, ?_, ?_, ?_, ?_⟩ <;> simp [go_sem, hi0, lo0]
 go_enter Tryd.func59, Tryd.ntmps59
 go_wp2_with fail
 refine (kJ _).mono ?_
 rintro e u ⟨rfl, hbj⟩
 obtain ⟨r0, r1, r2, r3, -⟩ := R0.below hbj
 have bb := b0.trans (hbj.mono b0.size)
 clear hbj
 go_wp2_with fail
 exact bodyPost_ret (v := .agg #[.int .u64 (M.hiN Q : Int), .int .u64 (M.loN Q : Int)]) (by simp [results, Tryd.results59, go_sem, r0, r1]) rfl ⟨rfl, (bb.setCell (p := ⟨w.heap.size + 1 + 1, 0, none⟩) (by simp only; omega) _).setCell (p := ⟨w.heap.size + 1 + 1, 1, none⟩) (by simp only; omega) _⟩

theorem dpack3 (F : M.Fm) (h : F.Ok) (n : Bool) (s : Nat) (q : Int) (hs : s < 2 ^ 128) (w : World)  :
 Calls Tryd.prog 59 #[.agg #[.int .i64 (F.p : Int), .int .i64 (1 - (F.emax : Int)), .int .i64 (F.emax : Int), .int .i64 (F.wd : Int), .int .i64 (F.e : Int), .bool F.x], .agg #[.int .i64 3, .bool n, .int .u64 (M.hiN s : Int), .int .u64 (M.loN s : Int), .int .i64 q]] w fun e w' => e = .returned (.agg #[.int .u64 (M.hiN (jn F n (IntKind.i64.wrap (q + (F.emax : Int) + (F.p : Int) - 1)) s) : Int), .int .u64 (M.loN (jn F n (IntKind.i64.wrap (q + (F.emax : Int) + (F.p : Int) - 1)) s) : Int)]) ∧ Below w.heap.size w w' := by
 have kJ : ∀ (v : World) (z : Int), z = IntKind.i64.wrap (q + (F.emax : Int) + (F.p : Int) - 1) → Calls Tryd.prog 71 #[.agg #[.int .i64 (F.p : Int), .int .i64 (1 - (F.emax : Int)), .int .i64 (F.emax : Int), .int .i64 (F.wd : Int), .int .i64 (F.e : Int), .bool F.x], .bool n, .int .i64 z, .agg #[.int .u64 (M.hiN s : Int), .int .u64 (M.loN s : Int)]] v fun e w' => e = .returned (.agg #[.int .u64 (M.hiN (jn F n (IntKind.i64.wrap (q + (F.emax : Int) + (F.p : Int) - 1)) s) : Int), .int .u64 (M.loN (jn F n (IntKind.i64.wrap (q + (F.emax : Int) + (F.p : Int) - 1)) s) : Int)]) ∧ Below v.heap.size v w' := fun v z hz => by
  rw [hz]
  exact djoin F h n (IntKind.i64.wrap (q + (F.emax : Int) + (F.p : Int) - 1)) s hs v
 generalize jn F n (IntKind.i64.wrap (q + (F.emax : Int) + (F.p : Int) - 1)) s = Q at *
 have b0 : Below w.heap.size w (((w.alloc (.cells #[.int .i64 (F.p : Int), .int .i64 (1 - (F.emax : Int)), .int .i64 (F.emax : Int), .int .i64 (F.wd : Int), .int .i64 (F.e : Int), .bool F.x] 56)).alloc (.cells #[.int .i64 3, .bool n, .int .u64 (M.hiN s : Int), .int .u64 (M.loN s : Int), .int .i64 q] 33)).alloc (.cells #[.int .u64 0, .int .u64 0] 28)) := (((Below.refl _ _).alloc (Nat.le_refl _) _).alloc (by simp) _).alloc (by simp; omega) _
 have R0 : W2 (((w.alloc (.cells #[.int .i64 (F.p : Int), .int .i64 (1 - (F.emax : Int)), .int .i64 (F.emax : Int), .int .i64 (F.wd : Int), .int .i64 (F.e : Int), .bool F.x] 56)).alloc (.cells #[.int .i64 3, .bool n, .int .u64 (M.hiN s : Int), .int .u64 (M.loN s : Int), .int .i64 q] 33)).alloc (.cells #[.int .u64 0, .int .u64 0] 28)) (w.heap.size + 1 + 1) 0 := by refine ⟨?_, ?_, ?_, ?_, ?_⟩ <;> simp [go_sem, hi0, lo0]
 go_enter Tryd.func59, Tryd.ntmps59
 go_wp2_with fail
 refine (kJ _ _ (by first | with_reducible rfl | (simp only [wrap64, IntKind.wrap_i64]; omega) | (simp only [IntKind.wrap_i64]; omega))).mono ?_
 rintro e u ⟨rfl, hbj⟩
 obtain ⟨r0, r1, r2, r3, -⟩ := R0.below hbj
 have bb := b0.trans (hbj.mono b0.size)
 clear hbj
 go_wp2_with fail
 exact bodyPost_ret (v := .agg #[.int .u64 (M.hiN Q : Int), .int .u64 (M.loN Q : Int)]) (by simp [results, Tryd.results59, go_sem, r0, r1]) rfl ⟨rfl, (bb.setCell (p := ⟨w.heap.size + 1 + 1, 0, none⟩) (by simp only; omega) _).setCell (p := ⟨w.heap.size + 1 + 1, 1, none⟩) (by simp only; omega) _⟩

theorem dpack0 (F : M.Fm) (h : F.Ok) (c : Int) (n : Bool) (s : Nat) (q : Int) (hs : s < 2 ^ 128) (w : World) (h2 : c ≠ 2) (h3 : c ≠ 3) (h4 : c ≠ 4) (h5 : c ≠ 5) :
 Calls Tryd.prog 59 #[.agg #[.int .i64 (F.p : Int), .int .i64 (1 - (F.emax : Int)), .int .i64 (F.emax : Int), .int .i64 (F.wd : Int), .int .i64 (F.e : Int), .bool F.x], .agg #[.int .i64 c, .bool n, .int .u64 (M.hiN s : Int), .int .u64 (M.loN s : Int), .int .i64 q]] w fun e w' => e = .returned (.agg #[.int .u64 (M.hiN (jn F n 0 0) : Int), .int .u64 (M.loN (jn F n 0 0) : Int)]) ∧ Below w.heap.size w w' := by
 have kJ := fun v : World => djoin F h n 0 0 (by omega) v
 simp only [hi0, lo0] at kJ
 generalize jn F n 0 0 = Q at *
 have b0 : Below w.heap.size w (((w.alloc (.cells #[.int .i64 (F.p : Int), .int .i64 (1 - (F.emax : Int)), .int .i64 (F.emax : Int), .int .i64 (F.wd : Int), .int .i64 (F.e : Int), .bool F.x] 56)).alloc (.cells #[.int .i64 c, .bool n, .int .u64 (M.hiN s : Int), .int .u64 (M.loN s : Int), .int .i64 q] 33)).alloc (.cells #[.int .u64 0, .int .u64 0] 28)) := (((Below.refl _ _).alloc (Nat.le_refl _) _).alloc (by simp) _).alloc (by simp; omega) _
 have R0 : W2 (((w.alloc (.cells #[.int .i64 (F.p : Int), .int .i64 (1 - (F.emax : Int)), .int .i64 (F.emax : Int), .int .i64 (F.wd : Int), .int .i64 (F.e : Int), .bool F.x] 56)).alloc (.cells #[.int .i64 c, .bool n, .int .u64 (M.hiN s : Int), .int .u64 (M.loN s : Int), .int .i64 q] 33)).alloc (.cells #[.int .u64 0, .int .u64 0] 28)) (w.heap.size + 1 + 1) 0 := by refine ⟨?_, ?_, ?_, ?_, ?_⟩ <;> simp [go_sem, hi0, lo0]
 go_enter Tryd.func59, Tryd.ntmps59
 go_wp2_with fail
 refine (kJ _).mono ?_
 rintro e u ⟨rfl, hbj⟩
 obtain ⟨r0, r1, r2, r3, -⟩ := R0.below hbj
 have bb := b0.trans (hbj.mono b0.size)
 clear hbj
 go_wp2_with fail
 exact bodyPost_ret (v := .agg #[.int .u64 (M.hiN Q : Int), .int .u64 (M.loN Q : Int)]) (by simp [results, Tryd.results59, go_sem, r0, r1]) rfl ⟨rfl, (bb.setCell (p := ⟨w.heap.size + 1 + 1, 0, none⟩) (by simp only; omega) _).setCell (p := ⟨w.heap.size + 1 + 1, 1, none⟩) (by simp only; omega) _⟩

theorem dpack4 (F : M.Fm) (h : F.Ok) (n : Bool) (s : Nat) (q : Int) (hs : s < 2 ^ 128) (w : World)  :
 Calls Tryd.prog 59 #[.agg #[.int .i64 (F.p : Int), .int .i64 (1 - (F.emax : Int)), .int .i64 (F.emax : Int), .int .i64 (F.wd : Int), .int .i64 (F.e : Int), .bool F.x], .agg #[.int .i64 4, .bool n, .int .u64 (M.hiN s : Int), .int .u64 (M.loN s : Int), .int .i64 q]] w fun e w' => e = .returned (.agg #[.int .u64 (M.hiN (jn F n (F.top : Int) F.lead) : Int), .int .u64 (M.loN (jn F n (F.top : Int) F.lead) : Int)]) ∧ Below w.heap.size w w' := by
 have kT := fun v : World => dTop F h v
 have kL := fun v : World => dLead F h v
 have kJ := fun v : World => djoin F h n (F.top : Int) F.lead (lead_lt h) v
 simp only [dv] at kT kL
 generalize jn F n (F.top : Int) F.lead = Q at *
 have b0 : Below w.heap.size w (((w.alloc (.cells #[.int .i64 (F.p : Int), .int .i64 (1 - (F.emax : Int)), .int .i64 (F.emax : Int), .int .i64 (F.wd : Int), .int .i64 (F.e : Int), .bool F.x] 56)).alloc (.cells #[.int .i64 4, .bool n, .int .u64 (M.hiN s : Int), .int .u64 (M.loN s : Int), .int .i64 q] 33)).alloc (.cells #[.int .u64 0, .int .u64 0] 28)) := (((Below.refl _ _).alloc (Nat.le_refl _) _).alloc (by simp) _).alloc (by simp; omega) _
 have R0 : W2 (((w.alloc (.cells #[.int .i64 (F.p : Int), .int .i64 (1 - (F.emax : Int)), .int .i64 (F.emax : Int), .int .i64 (F.wd : Int), .int .i64 (F.e : Int), .bool F.x] 56)).alloc (.cells #[.int .i64 4, .bool n, .int .u64 (M.hiN s : Int), .int .u64 (M.loN s : Int), .int .i64 q] 33)).alloc (.cells #[.int .u64 0, .int .u64 0] 28)) (w.heap.size + 1 + 1) 0 := by refine ⟨?_, ?_, ?_, ?_, ?_⟩ <;> simp [go_sem, hi0, lo0]
 have D0 : Below w.heap.size w (((w.alloc (.cells #[.int .i64 (F.p : Int), .int .i64 (1 - (F.emax : Int)), .int .i64 (F.emax : Int), .int .i64 (F.wd : Int), .int .i64 (F.e : Int), .bool F.x] 56)).alloc (.cells #[.int .i64 4, .bool n, .int .u64 (M.hiN s : Int), .int .u64 (M.loN s : Int), .int .i64 q] 33)).alloc (.cells #[.int .u64 0, .int .u64 0] 28)) := b0
 have K0 : (fun v => v.cell? ⟨w.heap.size, 0, none⟩ = some (.int .i64 (F.p : Int)) ∧ v.cell? ⟨w.heap.size, 1, none⟩ = some (.int .i64 (1 - (F.emax : Int))) ∧ v.cell? ⟨w.heap.size, 2, none⟩ = some (.int .i64 (F.emax : Int)) ∧ v.cell? ⟨w.heap.size, 3, none⟩ = some (.int .i64 (F.wd : Int)) ∧ v.cell? ⟨w.heap.size, 4, none⟩ = some (.int .i64 (F.e : Int)) ∧ v.cell? ⟨w.heap.size, 5, none⟩ = some (.bool F.x) ∧ v.cell? ⟨w.heap.size + 1, 0, none⟩ = some (.int .i64 4) ∧ v.cell? ⟨w.heap.size + 1, 1, none⟩ = some (.bool n) ∧ v.cell? ⟨w.heap.size + 1, 2, none⟩ = some (.int .u64 (M.hiN s : Int)) ∧ v.cell? ⟨w.heap.size + 1, 3, none⟩ = some (.int .u64 (M.loN s : Int)) ∧ v.cell? ⟨w.heap.size + 1, 4, none⟩ = some (.int .i64 q)) (((w.alloc (.cells #[.int .i64 (F.p : Int), .int .i64 (1 - (F.emax : Int)), .int .i64 (F.emax : Int), .int .i64 (F.wd : Int), .int .i64 (F.e : Int), .bool F.x] 56)).alloc (.cells #[.int .i64 4, .bool n, .int .u64 (M.hiN s : Int), .int .u64 (M.loN s : Int), .int .i64 q] 33)).alloc (.cells #[.int .u64 0, .int .u64 0] 28)) := by refine ⟨?_, ?_, ?_, ?_, ?_, ?_, ?_, ?_, ?_, ?_, ?_⟩ <;> simp [go_sem]
 have ls : w.heap.size + 1 + 1 < (((w.alloc (.cells #[.int .i64 (F.p : Int), .int .i64 (1 - (F.emax : Int)), .int .i64 (F.emax : Int), .int .i64 (F.wd : Int), .int .i64 (F.e : Int), .bool F.x] 56)).alloc (.cells #[.int .i64 4, .bool n, .int .u64 (M.hiN s : Int), .int .u64 (M.loN s : Int), .int .i64 q] 33)).alloc (.cells #[.int .u64 0, .int .u64 0] 28)).heap.size := by simp
 generalize hV : (((w.alloc (.cells #[.int .i64 (F.p : Int), .int .i64 (1 - (F.emax : Int)), .int .i64 (F.emax : Int), .int .i64 (F.wd : Int), .int .i64 (F.e : Int), .bool F.x] 56)).alloc (.cells #[.int .i64 4, .bool n, .int .u64 (M.hiN s : Int), .int .u64 (M.loN s : Int), .int .i64 q] 33)).alloc (.cells #[.int .u64 0, .int .u64 0] 28)) = V at *
 have KB : ∀ v, Below V.heap.size V v → (fun v => v.cell? ⟨w.heap.size, 0, none⟩ = some (.int .i64 (F.p : Int)) ∧ v.cell? ⟨w.heap.size, 1, none⟩ = some (.int .i64 (1 - (F.emax : Int))) ∧ v.cell? ⟨w.heap.size, 2, none⟩ = some (.int .i64 (F.emax : Int)) ∧ v.cell? ⟨w.heap.size, 3, none⟩ = some (.int .i64 (F.wd : Int)) ∧ v.cell? ⟨w.heap.size, 4, none⟩ = some (.int .i64 (F.e : Int)) ∧ v.cell? ⟨w.heap.size, 5, none⟩ = some (.bool F.x) ∧ v.cell? ⟨w.heap.size + 1, 0, none⟩ = some (.int .i64 4) ∧ v.cell? ⟨w.heap.size + 1, 1, none⟩ = some (.bool n) ∧ v.cell? ⟨w.heap.size + 1, 2, none⟩ = some (.int .u64 (M.hiN s : Int)) ∧ v.cell? ⟨w.heap.size + 1, 3, none⟩ = some (.int .u64 (M.loN s : Int)) ∧ v.cell? ⟨w.heap.size + 1, 4, none⟩ = some (.int .i64 q)) v := fun v hv => by
  obtain ⟨d0, d1, d2, d3, d4, d5, p0, p1, p2, p3, p4⟩ := K0
  exact ⟨(hv.cell (by simp only; omega)).trans d0, (hv.cell (by simp only; omega)).trans d1, (hv.cell (by simp only; omega)).trans d2, (hv.cell (by simp only; omega)).trans d3, (hv.cell (by simp only; omega)).trans d4, (hv.cell (by simp only; omega)).trans d5, (hv.cell (by simp only; omega)).trans p0, (hv.cell (by simp only; omega)).trans p1, (hv.cell (by simp only; omega)).trans p2, (hv.cell (by simp only; omega)).trans p3, (hv.cell (by simp only; omega)).trans p4⟩
 have KS : ∀ v x y, Below V.heap.size V v → (fun v => v.cell? ⟨w.heap.size, 0, none⟩ = some (.int .i64 (F.p : Int)) ∧ v.cell? ⟨w.heap.size, 1, none⟩ = some (.int .i64 (1 - (F.emax : Int))) ∧ v.cell? ⟨w.heap.size, 2, none⟩ = some (.int .i64 (F.emax : Int)) ∧ v.cell? ⟨w.heap.size, 3, none⟩ = some (.int .i64 (F.wd : Int)) ∧ v.cell? ⟨w.heap.size, 4, none⟩ = some (.int .i64 (F.e : Int)) ∧ v.cell? ⟨w.heap.size, 5, none⟩ = some (.bool F.x) ∧ v.cell? ⟨w.heap.size + 1, 0, none⟩ = some (.int .i64 4) ∧ v.cell? ⟨w.heap.size + 1, 1, none⟩ = some (.bool n) ∧ v.cell? ⟨w.heap.size + 1, 2, none⟩ = some (.int .u64 (M.hiN s : Int)) ∧ v.cell? ⟨w.heap.size + 1, 3, none⟩ = some (.int .u64 (M.loN s : Int)) ∧ v.cell? ⟨w.heap.size + 1, 4, none⟩ = some (.int .i64 q)) ((v.setCell ⟨w.heap.size + 1 + 1, 0, none⟩ x).setCell ⟨w.heap.size + 1 + 1, 1, none⟩ y) := fun v x y hv => by
  obtain ⟨d0, d1, d2, d3, d4, d5, p0, p1, p2, p3, p4⟩ := KB v hv
  exact ⟨(far2 v _ _ (by omega)).trans d0, (far2 v _ _ (by omega)).trans d1, (far2 v _ _ (by omega)).trans d2, (far2 v _ _ (by omega)).trans d3, (far2 v _ _ (by omega)).trans d4, (far2 v _ _ (by omega)).trans d5, (far2 v _ _ (by omega)).trans p0, (far2 v _ _ (by omega)).trans p1, (far2 v _ _ (by omega)).trans p2, (far2 v _ _ (by omega)).trans p3, (far2 v _ _ (by omega)).trans p4⟩
 have A0 : Below V.heap.size V V.drew := (Below.refl _ _).drew
 go_enter Tryd.func59, Tryd.ntmps59
 go_upto_region 7 with fail
 clear hV K0
 go_region_held3 (fun v => v.cell? ⟨w.heap.size, 0, none⟩ = some (.int .i64 (F.p : Int)) ∧ v.cell? ⟨w.heap.size, 1, none⟩ = some (.int .i64 (1 - (F.emax : Int))) ∧ v.cell? ⟨w.heap.size, 2, none⟩ = some (.int .i64 (F.emax : Int)) ∧ v.cell? ⟨w.heap.size, 3, none⟩ = some (.int .i64 (F.wd : Int)) ∧ v.cell? ⟨w.heap.size, 4, none⟩ = some (.int .i64 (F.e : Int)) ∧ v.cell? ⟨w.heap.size, 5, none⟩ = some (.bool F.x) ∧ v.cell? ⟨w.heap.size + 1, 0, none⟩ = some (.int .i64 4) ∧ v.cell? ⟨w.heap.size + 1, 1, none⟩ = some (.bool n) ∧ v.cell? ⟨w.heap.size + 1, 2, none⟩ = some (.int .u64 (M.hiN s : Int)) ∧ v.cell? ⟨w.heap.size + 1, 3, none⟩ = some (.int .u64 (M.loN s : Int)) ∧ v.cell? ⟨w.heap.size + 1, 4, none⟩ = some (.int .i64 q)) (first | with_reducible exact KB _ hb3 | with_reducible exact KB _ hb2 | with_reducible exact KB _ hb1 | with_reducible exact KB _ A0 | with_reducible exact KS _ _ _ hb3)
  (first | (have hq := hb2; clear hq; go_at_call 71; refine (kJ _).mono ?_; rintro e u3 ⟨rfl, hb0⟩; have hb3 := keepC (w1 := V) hb2 hb0; clear hb0; obtain ⟨r0, r1, r2, r3, -⟩ := R0.below hb3) | (have hq := hb1; clear hq; go_at_call 68; refine (kL _).mono ?_; rintro e u2 ⟨rfl, hb0⟩; have hb2 := keepC (w1 := V) hb1 hb0; clear hb0) | (go_at_call 67; refine (kT _).mono ?_; rintro e u1 ⟨rfl, hb0⟩; have hb1 := keepC (w1 := V) A0 hb0; clear hb0))
 all_goals go_wp2_with fail
 all_goals have bb := b0.trans (hb3.mono b0.size)
 all_goals exact bodyPost_ret (v := .agg #[.int .u64 (M.hiN Q : Int), .int .u64 (M.loN Q : Int)]) (by simp [results, Tryd.results59, go_sem, r0, r1]) rfl ⟨rfl, (bb.setCell (p := ⟨w.heap.size + 1 + 1, 0, none⟩) (by simp only; omega) _).setCell (p := ⟨w.heap.size + 1 + 1, 1, none⟩) (by simp only; omega) _⟩

theorem dpack5 (F : M.Fm) (h : F.Ok) (n : Bool) (s : Nat) (q : Int) (hs : s < 2 ^ 128) (w : World)  :
 Calls Tryd.prog 59 #[.agg #[.int .i64 (F.p : Int), .int .i64 (1 - (F.emax : Int)), .int .i64 (F.emax : Int), .int .i64 (F.wd : Int), .int .i64 (F.e : Int), .bool F.x], .agg #[.int .i64 5, .bool n, .int .u64 (M.hiN s : Int), .int .u64 (M.loN s : Int), .int .i64 q]] w fun e w' => e = .returned (.agg #[.int .u64 (M.hiN (jn F false (F.top : Int) ((F.lead + 2 ^ (F.p - 2)) % 2 ^ 128)) : Int), .int .u64 (M.loN (jn F false (F.top : Int) ((F.lead + 2 ^ (F.p - 2)) % 2 ^ 128)) : Int)]) ∧ Below w.heap.size w w' := by
 have kT := fun v : World => dTop F h v
 have kL := fun v : World => dLead F h v
 have hp2 : 2 ≤ F.p := by have := h.p1; omega
 have hp3 := h.p2
 have hb2 : 2 ^ (F.p - 2) < 2 ^ 128 := Nat.pow_lt_pow_right (by omega) (by omega)
 have kB : ∀ (v : World) (z : Int), z = (F.p : Int) - 2 → Calls Tryd.prog 73 #[.int .i64 z] v fun e w' => e = .returned (.agg #[.int .u64 (M.hiN (2 ^ (F.p - 2)) : Int), .int .u64 (M.loN (2 ^ (F.p - 2)) : Int)]) ∧ Below v.heap.size v w' := fun v z hz => by
  rw [hz, show (F.p : Int) - 2 = ((F.p - 2 : Nat) : Int) by omega]
  exact wbitAt (F.p - 2) v (by omega) _ rfl
 have kP := fun v : World => wplus F.lead (2 ^ (F.p - 2)) v (lead_lt h) hb2 _ rfl
 have kJ := fun v : World => djoin F h false (F.top : Int) ((F.lead + 2 ^ (F.p - 2)) % 2 ^ 128) (Nat.mod_lt _ (by omega)) v
 simp only [dv] at kT kL
 generalize (F.lead + 2 ^ (F.p - 2)) % 2 ^ 128 = Y at *
 generalize 2 ^ (F.p - 2) = T at *
 generalize jn F false (F.top : Int) Y = Q at *
 have b0 : Below w.heap.size w (((w.alloc (.cells #[.int .i64 (F.p : Int), .int .i64 (1 - (F.emax : Int)), .int .i64 (F.emax : Int), .int .i64 (F.wd : Int), .int .i64 (F.e : Int), .bool F.x] 56)).alloc (.cells #[.int .i64 5, .bool n, .int .u64 (M.hiN s : Int), .int .u64 (M.loN s : Int), .int .i64 q] 33)).alloc (.cells #[.int .u64 0, .int .u64 0] 28)) := (((Below.refl _ _).alloc (Nat.le_refl _) _).alloc (by simp) _).alloc (by simp; omega) _
 have R0 : W2 (((w.alloc (.cells #[.int .i64 (F.p : Int), .int .i64 (1 - (F.emax : Int)), .int .i64 (F.emax : Int), .int .i64 (F.wd : Int), .int .i64 (F.e : Int), .bool F.x] 56)).alloc (.cells #[.int .i64 5, .bool n, .int .u64 (M.hiN s : Int), .int .u64 (M.loN s : Int), .int .i64 q] 33)).alloc (.cells #[.int .u64 0, .int .u64 0] 28)) (w.heap.size + 1 + 1) 0 := by refine ⟨?_, ?_, ?_, ?_, ?_⟩ <;> simp [go_sem, hi0, lo0]
 have D0 : Below w.heap.size w (((w.alloc (.cells #[.int .i64 (F.p : Int), .int .i64 (1 - (F.emax : Int)), .int .i64 (F.emax : Int), .int .i64 (F.wd : Int), .int .i64 (F.e : Int), .bool F.x] 56)).alloc (.cells #[.int .i64 5, .bool n, .int .u64 (M.hiN s : Int), .int .u64 (M.loN s : Int), .int .i64 q] 33)).alloc (.cells #[.int .u64 0, .int .u64 0] 28)) := b0
 have K0 : (fun v => v.cell? ⟨w.heap.size, 0, none⟩ = some (.int .i64 (F.p : Int)) ∧ v.cell? ⟨w.heap.size, 1, none⟩ = some (.int .i64 (1 - (F.emax : Int))) ∧ v.cell? ⟨w.heap.size, 2, none⟩ = some (.int .i64 (F.emax : Int)) ∧ v.cell? ⟨w.heap.size, 3, none⟩ = some (.int .i64 (F.wd : Int)) ∧ v.cell? ⟨w.heap.size, 4, none⟩ = some (.int .i64 (F.e : Int)) ∧ v.cell? ⟨w.heap.size, 5, none⟩ = some (.bool F.x) ∧ v.cell? ⟨w.heap.size + 1, 0, none⟩ = some (.int .i64 5) ∧ v.cell? ⟨w.heap.size + 1, 1, none⟩ = some (.bool n) ∧ v.cell? ⟨w.heap.size + 1, 2, none⟩ = some (.int .u64 (M.hiN s : Int)) ∧ v.cell? ⟨w.heap.size + 1, 3, none⟩ = some (.int .u64 (M.loN s : Int)) ∧ v.cell? ⟨w.heap.size + 1, 4, none⟩ = some (.int .i64 q)) (((w.alloc (.cells #[.int .i64 (F.p : Int), .int .i64 (1 - (F.emax : Int)), .int .i64 (F.emax : Int), .int .i64 (F.wd : Int), .int .i64 (F.e : Int), .bool F.x] 56)).alloc (.cells #[.int .i64 5, .bool n, .int .u64 (M.hiN s : Int), .int .u64 (M.loN s : Int), .int .i64 q] 33)).alloc (.cells #[.int .u64 0, .int .u64 0] 28)) := by refine ⟨?_, ?_, ?_, ?_, ?_, ?_, ?_, ?_, ?_, ?_, ?_⟩ <;> simp [go_sem]
 have ls : w.heap.size + 1 + 1 < (((w.alloc (.cells #[.int .i64 (F.p : Int), .int .i64 (1 - (F.emax : Int)), .int .i64 (F.emax : Int), .int .i64 (F.wd : Int), .int .i64 (F.e : Int), .bool F.x] 56)).alloc (.cells #[.int .i64 5, .bool n, .int .u64 (M.hiN s : Int), .int .u64 (M.loN s : Int), .int .i64 q] 33)).alloc (.cells #[.int .u64 0, .int .u64 0] 28)).heap.size := by simp
 generalize hV : (((w.alloc (.cells #[.int .i64 (F.p : Int), .int .i64 (1 - (F.emax : Int)), .int .i64 (F.emax : Int), .int .i64 (F.wd : Int), .int .i64 (F.e : Int), .bool F.x] 56)).alloc (.cells #[.int .i64 5, .bool n, .int .u64 (M.hiN s : Int), .int .u64 (M.loN s : Int), .int .i64 q] 33)).alloc (.cells #[.int .u64 0, .int .u64 0] 28)) = V at *
 have KB : ∀ v, Below V.heap.size V v → (fun v => v.cell? ⟨w.heap.size, 0, none⟩ = some (.int .i64 (F.p : Int)) ∧ v.cell? ⟨w.heap.size, 1, none⟩ = some (.int .i64 (1 - (F.emax : Int))) ∧ v.cell? ⟨w.heap.size, 2, none⟩ = some (.int .i64 (F.emax : Int)) ∧ v.cell? ⟨w.heap.size, 3, none⟩ = some (.int .i64 (F.wd : Int)) ∧ v.cell? ⟨w.heap.size, 4, none⟩ = some (.int .i64 (F.e : Int)) ∧ v.cell? ⟨w.heap.size, 5, none⟩ = some (.bool F.x) ∧ v.cell? ⟨w.heap.size + 1, 0, none⟩ = some (.int .i64 5) ∧ v.cell? ⟨w.heap.size + 1, 1, none⟩ = some (.bool n) ∧ v.cell? ⟨w.heap.size + 1, 2, none⟩ = some (.int .u64 (M.hiN s : Int)) ∧ v.cell? ⟨w.heap.size + 1, 3, none⟩ = some (.int .u64 (M.loN s : Int)) ∧ v.cell? ⟨w.heap.size + 1, 4, none⟩ = some (.int .i64 q)) v := fun v hv => by
  obtain ⟨d0, d1, d2, d3, d4, d5, p0, p1, p2, p3, p4⟩ := K0
  exact ⟨(hv.cell (by simp only; omega)).trans d0, (hv.cell (by simp only; omega)).trans d1, (hv.cell (by simp only; omega)).trans d2, (hv.cell (by simp only; omega)).trans d3, (hv.cell (by simp only; omega)).trans d4, (hv.cell (by simp only; omega)).trans d5, (hv.cell (by simp only; omega)).trans p0, (hv.cell (by simp only; omega)).trans p1, (hv.cell (by simp only; omega)).trans p2, (hv.cell (by simp only; omega)).trans p3, (hv.cell (by simp only; omega)).trans p4⟩
 have KS : ∀ v x y, Below V.heap.size V v → (fun v => v.cell? ⟨w.heap.size, 0, none⟩ = some (.int .i64 (F.p : Int)) ∧ v.cell? ⟨w.heap.size, 1, none⟩ = some (.int .i64 (1 - (F.emax : Int))) ∧ v.cell? ⟨w.heap.size, 2, none⟩ = some (.int .i64 (F.emax : Int)) ∧ v.cell? ⟨w.heap.size, 3, none⟩ = some (.int .i64 (F.wd : Int)) ∧ v.cell? ⟨w.heap.size, 4, none⟩ = some (.int .i64 (F.e : Int)) ∧ v.cell? ⟨w.heap.size, 5, none⟩ = some (.bool F.x) ∧ v.cell? ⟨w.heap.size + 1, 0, none⟩ = some (.int .i64 5) ∧ v.cell? ⟨w.heap.size + 1, 1, none⟩ = some (.bool n) ∧ v.cell? ⟨w.heap.size + 1, 2, none⟩ = some (.int .u64 (M.hiN s : Int)) ∧ v.cell? ⟨w.heap.size + 1, 3, none⟩ = some (.int .u64 (M.loN s : Int)) ∧ v.cell? ⟨w.heap.size + 1, 4, none⟩ = some (.int .i64 q)) ((v.setCell ⟨w.heap.size + 1 + 1, 0, none⟩ x).setCell ⟨w.heap.size + 1 + 1, 1, none⟩ y) := fun v x y hv => by
  obtain ⟨d0, d1, d2, d3, d4, d5, p0, p1, p2, p3, p4⟩ := KB v hv
  exact ⟨(far2 v _ _ (by omega)).trans d0, (far2 v _ _ (by omega)).trans d1, (far2 v _ _ (by omega)).trans d2, (far2 v _ _ (by omega)).trans d3, (far2 v _ _ (by omega)).trans d4, (far2 v _ _ (by omega)).trans d5, (far2 v _ _ (by omega)).trans p0, (far2 v _ _ (by omega)).trans p1, (far2 v _ _ (by omega)).trans p2, (far2 v _ _ (by omega)).trans p3, (far2 v _ _ (by omega)).trans p4⟩
 have A0 : Below V.heap.size V V.drew := (Below.refl _ _).drew
 go_enter Tryd.func59, Tryd.ntmps59
 go_upto_region 9 with fail
 clear hV K0
 go_region_held3 (fun v => v.cell? ⟨w.heap.size, 0, none⟩ = some (.int .i64 (F.p : Int)) ∧ v.cell? ⟨w.heap.size, 1, none⟩ = some (.int .i64 (1 - (F.emax : Int))) ∧ v.cell? ⟨w.heap.size, 2, none⟩ = some (.int .i64 (F.emax : Int)) ∧ v.cell? ⟨w.heap.size, 3, none⟩ = some (.int .i64 (F.wd : Int)) ∧ v.cell? ⟨w.heap.size, 4, none⟩ = some (.int .i64 (F.e : Int)) ∧ v.cell? ⟨w.heap.size, 5, none⟩ = some (.bool F.x) ∧ v.cell? ⟨w.heap.size + 1, 0, none⟩ = some (.int .i64 5) ∧ v.cell? ⟨w.heap.size + 1, 1, none⟩ = some (.bool n) ∧ v.cell? ⟨w.heap.size + 1, 2, none⟩ = some (.int .u64 (M.hiN s : Int)) ∧ v.cell? ⟨w.heap.size + 1, 3, none⟩ = some (.int .u64 (M.loN s : Int)) ∧ v.cell? ⟨w.heap.size + 1, 4, none⟩ = some (.int .i64 q)) (first | with_reducible exact KB _ hb5 | with_reducible exact KB _ hb4 | with_reducible exact KB _ hb3 | with_reducible exact KB _ hb2 | with_reducible exact KB _ hb1 | with_reducible exact KB _ A0 | with_reducible exact KS _ _ _ hb5)
  (first | (have hq := hb4; clear hq; go_at_call 71; refine (kJ _).mono ?_; rintro e u5 ⟨rfl, hb0⟩; have hb5 := keepC (w1 := V) hb4 hb0; clear hb0; obtain ⟨r0, r1, r2, r3, -⟩ := R0.below hb5) | (have hq := hb3; clear hq; go_at_call 43; refine (kP _).mono ?_; rintro e u4 ⟨rfl, hb0⟩; have hb4 := keepC (w1 := V) hb3 hb0; clear hb0) | (have hq := hb2; clear hq; go_at_call 73; refine (kB _ _ (by first | with_reducible rfl | omega | (simp only [IntKind.wrap_i64]; omega))).mono ?_; rintro e u3 ⟨rfl, hb0⟩; have hb3 := keepC (w1 := V) hb2 hb0; clear hb0) | (have hq := hb1; clear hq; go_at_call 68; refine (kL _).mono ?_; rintro e u2 ⟨rfl, hb0⟩; have hb2 := keepC (w1 := V) hb1 hb0; clear hb0) | (go_at_call 67; refine (kT _).mono ?_; rintro e u1 ⟨rfl, hb0⟩; have hb1 := keepC (w1 := V) A0 hb0; clear hb0))
 all_goals go_wp2_with fail
 all_goals have bb := b0.trans (hb5.mono b0.size)
 all_goals exact bodyPost_ret (v := .agg #[.int .u64 (M.hiN Q : Int), .int .u64 (M.loN Q : Int)]) (by simp [results, Tryd.results59, go_sem, r0, r1]) rfl ⟨rfl, (bb.setCell (p := ⟨w.heap.size + 1 + 1, 0, none⟩) (by simp only; omega) _).setCell (p := ⟨w.heap.size + 1 + 1, 1, none⟩) (by simp only; omega) _⟩

theorem dpack (F : M.Fm) (h : F.Ok) (c : Int) (n : Bool) (s : Nat) (q : Int) (hs : s < 2 ^ 128) (w : World) :
 Calls Tryd.prog 59 #[.agg #[.int .i64 (F.p : Int), .int .i64 (1 - (F.emax : Int)), .int .i64 (F.emax : Int), .int .i64 (F.wd : Int), .int .i64 (F.e : Int), .bool F.x], .agg #[.int .i64 c, .bool n, .int .u64 (M.hiN s : Int), .int .u64 (M.loN s : Int), .int .i64 q]] w fun e w' => e = .returned (.agg #[.int .u64 (M.hiN (pki F c n s q) : Int), .int .u64 (M.loN (pki F c n s q) : Int)]) ∧ Below w.heap.size w w' := by
 unfold pki
 by_cases h2 : c = 2
 · rw [if_pos h2, h2]; exact dpack2 F h n s q hs w
 · rw [if_neg h2]
   by_cases h3 : c = 3
   · rw [if_pos h3, h3]; exact dpack3 F h n s q hs w
   · rw [if_neg h3]
     by_cases h4 : c = 4
     · rw [if_pos h4, h4]; exact dpack4 F h n s q hs w
     · rw [if_neg h4]
       by_cases h5 : c = 5
       · rw [if_pos h5, h5]; exact dpack5 F h n s q hs w
       · rw [if_neg h5]; exact dpack0 F h c n s q hs w h2 h3 h4 h5

structure Qv (w v : World) (c : Int) (n : Bool) (s : Nat) (q : Int) : Prop where
 b : Below w.heap.size w v
 p : v.cell? ⟨w.heap.size, 0, none⟩ = some (.int .i64 c) ∧ v.cell? ⟨w.heap.size, 1, none⟩ = some (.bool n) ∧ v.cell? ⟨w.heap.size, 2, none⟩ = some (.int .u64 (M.hiN s : Int)) ∧ v.cell? ⟨w.heap.size, 3, none⟩ = some (.int .u64 (M.loN s : Int)) ∧ v.cell? ⟨w.heap.size, 4, none⟩ = some (.int .i64 q)
 r : W2 v (w.heap.size + 1) 0

theorem Qv.below {w v v' : World} {c : Int} {n : Bool} {s : Nat} {q : Int} (h : Qv w v c n s q) (hb : Below v.heap.size v v') : Qv w v' c n s q := by
 have hl : w.heap.size < v.heap.size := Nat.lt_trans (Nat.lt_succ_self _) h.r.2.2.2.2
 obtain ⟨d0, d1, d2, d3, d4⟩ := h.p
 exact ⟨h.b.trans (hb.mono h.b.size), ⟨(hb.cell hl).trans d0, (hb.cell hl).trans d1, (hb.cell hl).trans d2, (hb.cell hl).trans d3, (hb.cell hl).trans d4⟩, h.r.below hb⟩

structure Own (w : World) (lo hi : Nat) (ao : Option Addr) (cap : Nat) (r : List Nat) : Prop where
 row : w.ownsRow 0 26 1 (.slice ao r.length cap) r.length (U r)
 place : ∀ k, (Value.slice ao r.length cap).ownBlock = some k → lo ≤ k ∧ k < hi

theorem Own.of {w : World} {base : Nat} {ao : Option Addr} {cap : Nat} {r : List Nat} (h : w.ownsRow base 26 1 (.slice ao r.length cap) r.length (U r)) : Own w base w.heap.size ao cap r :=
 ⟨own_base h (Nat.zero_le _), fun k hk => h.lt k hk⟩

theorem Own.rd {w : World} {lo hi : Nat} {ao : Option Addr} {cap : Nat} {r : List Nat} (h : Own w lo hi ao cap r) : Rd w ao r := Rd.own h.row

theorem Own.keep {w w' : World} {lo hi : Nat} {ao : Option Addr} {cap : Nat} {r : List Nat} (h : Own w lo hi ao cap r) (hb : Below w.heap.size w w') : Own w' lo hi ao cap r := ⟨own_below h.row hb, h.place⟩

theorem Own.drewN {w : World} {lo hi : Nat} {ao : Option Addr} {cap : Nat} {r : List Nat} (h : Own w lo hi ao cap r) (q : Nat) : Own (w.drewN q) lo hi ao cap r := h.keep (below_drewN (Below.refl _ _) q)

theorem Own.grown {w w' : World} {lo hi : Nat} {ao : Option Addr} {cap : Nat} {r : List Nat} {row : Option Nat} (h : Own w lo hi ao cap r) (hg : w.grownBy w' row) (hne : ∀ k, lo ≤ k → k < hi → row ≠ some k) : Own w' lo hi ao cap r := by
 refine ⟨h.row.kept hg ?_, h.place⟩
 cases hv : (Value.slice ao r.length cap).ownBlock with
 | none => exact .inl rfl
 | some k => right; intro e; have := h.place k hv; exact hne k this.1 this.2 e.symm

theorem Blk.toOwn {w : World} {g : Nat} {zs : List Nat} (h : Blk w g zs) (hm : zs.length ≤ 4194304) : Own w g (g + 1) (some ⟨g, 0, none⟩) zs.length zs :=
 ⟨h.own (Nat.zero_le _) rfl (by unfold maxLen; omega), fun k hk => by simp [Value.ownBlock] at hk; omega⟩

structure I5 (v : World) (g : Nat) : Prop where
 c0 : v.cell? ⟨g, 0, none⟩ = some (.slice none 0 0)
 c1 : v.cell? ⟨g, 1, none⟩ = some (.slice none 0 0)
 c2 : v.cell? ⟨g, 2, none⟩ = some (.slice none 0 0)
 c3 : v.cell? ⟨g, 3, none⟩ = some (.bool false)
 c4 : v.cell? ⟨g, 4, none⟩ = some (.bool false)
 f0 : v.frozen? ⟨g, 0, none⟩ = false
 f1 : v.frozen? ⟨g, 1, none⟩ = false
 f2 : v.frozen? ⟨g, 2, none⟩ = false
 f3 : v.frozen? ⟨g, 3, none⟩ = false
 f4 : v.frozen? ⟨g, 4, none⟩ = false
 lt : g < v.heap.size

theorem I5.below {v v' : World} {g : Nat} (h : I5 v g) (hb : Below v.heap.size v v') : I5 v' g :=
 ⟨(hb.cell h.lt).trans h.c0, (hb.cell h.lt).trans h.c1, (hb.cell h.lt).trans h.c2, (hb.cell h.lt).trans h.c3, (hb.cell h.lt).trans h.c4, (hb.frozen h.lt).trans h.f0, (hb.frozen h.lt).trans h.f1, (hb.frozen h.lt).trans h.f2, (hb.frozen h.lt).trans h.f3, (hb.frozen h.lt).trans h.f4, Nat.lt_of_lt_of_le h.lt hb.size⟩

theorem I5.far {v : World} {g k : Nat} (h : I5 v g) (hk : g ≠ k) (a b : Value) : I5 ((v.setCell ⟨k, 0, none⟩ a).setCell ⟨k, 1, none⟩ b) g := by
 obtain ⟨c0, c1, c2, c3, c4, f0, f1, f2, f3, f4, l⟩ := h
 exact ⟨(far2 v _ _ hk).trans c0, (far2 v _ _ hk).trans c1, (far2 v _ _ hk).trans c2, (far2 v _ _ hk).trans c3, (far2 v _ _ hk).trans c4, (ffar2 v _ _ hk).trans f0, (ffar2 v _ _ hk).trans f1, (ffar2 v _ _ hk).trans f2, (ffar2 v _ _ hk).trans f3, (ffar2 v _ _ hk).trans f4, by simpa using l⟩

theorem P5.far2 {v : World} {g k : Nat} {t : M.Pt} (h : P5 v g t) (hk : g ≠ k) (a b : Value) : P5 ((v.setCell ⟨k, 0, none⟩ a).setCell ⟨k, 1, none⟩ b) g t := by
 obtain ⟨c0, c1, c2, c3, c4, l⟩ := h
 exact ⟨(Go.Proofs.YtogkkecnmlnajaaDoor.far2 v _ _ hk).trans c0, (Go.Proofs.YtogkkecnmlnajaaDoor.far2 v _ _ hk).trans c1, (Go.Proofs.YtogkkecnmlnajaaDoor.far2 v _ _ hk).trans c2, (Go.Proofs.YtogkkecnmlnajaaDoor.far2 v _ _ hk).trans c3, (Go.Proofs.YtogkkecnmlnajaaDoor.far2 v _ _ hk).trans c4, by simpa using l⟩

theorem Own.wide {v : World} {lo hi lo' hi' : Nat} {ao : Option Addr} {cap : Nat} {r : List Nat} (h : Own v lo hi ao cap r) (h1 : lo' ≤ lo) (h2 : hi ≤ hi') : Own v lo' hi' ao cap r :=
 ⟨h.row, fun k hk => by have := h.place k hk; omega⟩

structure Bv (w v : World) (gq gl : Nat) (e0 e1 e2 e3 e4 : Int) (e5 : Bool) (T : M.Pt) (Q X : Nat) : Prop where
 b : Below w.heap.size w v
 d : D6 v w.heap.size e0 e1 e2 e3 e4 e5
 p : P5 v (w.heap.size + 1) T
 r : I5 v (w.heap.size + 1 + 1)
 q : W2 v gq Q
 x : W2 v gl X
 l : w.heap.size + 1 + 1 < gq
 k : gq < gl

theorem Bv.below {w v v' : World} {gq gl : Nat} {e0 e1 e2 e3 e4 : Int} {e5 : Bool} {T : M.Pt} {Q X : Nat} (h : Bv w v gq gl e0 e1 e2 e3 e4 e5 T Q X) (hb : Below v.heap.size v v') : Bv w v' gq gl e0 e1 e2 e3 e4 e5 T Q X :=
 ⟨h.b.trans (hb.mono h.b.size), h.d.below hb, h.p.below hb, h.r.below hb, h.q.bl hb, h.x.bl hb, h.l, h.k⟩

theorem Bv.set {w v : World} {gq gl : Nat} {e0 e1 e2 e3 e4 : Int} {e5 : Bool} {T : M.Pt} {Q X : Nat} (h : Bv w v gq gl e0 e1 e2 e3 e4 e5 T Q X) (Y : Nat) : Bv w ((v.setCell ⟨gl, 0, none⟩ (.int .u64 (M.hiN Y : Int))).setCell ⟨gl, 1, none⟩ (.int .u64 (M.loN Y : Int))) gq gl e0 e1 e2 e3 e4 e5 T Q Y := by
 have l := h.l
 have k := h.k
 exact ⟨(h.b.setCell (p := ⟨gl, 0, none⟩) (by simp only; omega) _).setCell (p := ⟨gl, 1, none⟩) (by simp only; omega) _, h.d.far (by omega) _ _, h.p.far2 (by omega) _ _, h.r.far (by omega) _ _, h.q.farS (by omega) _ _, W2_set h.x.1 h.x.2.1 h.x.2.2.1 h.x.2.2.2.1, l, k⟩

theorem uw_nat {k : Nat} (h : k < 18446744073709551616) : uw (k : Int) = k := by
 unfold uw
 rw [IntKind.wrap_u64]
 omega

theorem js_nat {F : M.Fm} (h : F.Ok) {fld sg : Nat} (hs : sg < 2 ^ 128) (hl : F.x = false ∧ 0 < fld → F.lead ≤ sg) : js F (fld : Int) sg = if F.x = false ∧ 0 < fld then sg - F.lead else sg := by
 by_cases hc : F.x = false ∧ 0 < fld
 · rw [js_yes sg ⟨hc.1, by omega⟩, if_pos hc]
   have h1 := hl hc
   have h2 := lead_lt h
   generalize F.lead = L at *
   have e : sg + (2 ^ 128 - L) = (sg - L) + 2 ^ 128 := by omega
   rw [e, Nat.add_mod_right]
   exact Nat.mod_eq_of_lt (by omega)
 · rw [js_no sg (fun hh => hc ⟨hh.1, by omega⟩), if_neg hc]

theorem jn_word {F : M.Fm} (h : F.Ok) (n : Bool) {fld sg : Nat} (hf : fld < 18446744073709551616) (hs : sg < 2 ^ 128) (hl : F.x = false ∧ 0 < fld → F.lead ≤ sg) (hw : F.word n fld sg < 2 ^ 128) : jn F n (fld : Int) sg = F.word n fld sg := by
 have e1 := js_nat h hs hl
 unfold jn jy
 unfold M.Fm.word at hw ⊢
 rw [uw_nat hf, e1]
 generalize (if F.x = false ∧ 0 < fld then sg - F.lead else sg) = S at *
 generalize fld * 2 ^ F.fb = A at *
 cases n
 · simp only [Bool.false_eq_true, if_false] at hw ⊢
   rw [Nat.mod_eq_of_lt (a := A) (by omega), Nat.mod_eq_of_lt (by omega)]
   omega
 · simp only [if_true] at hw ⊢
   generalize 2 ^ (F.wd - 1) = B at *
   rw [Nat.mod_eq_of_lt (a := A) (by omega), Nat.mod_eq_of_lt (a := A + S) (by omega), Nat.mod_eq_of_lt (by omega)]

theorem pki_pk {F : M.Fm} (h : F.Ok) (t : M.Pt) (hp : F.Proper t) : pki F t.c t.n t.s t.q = F.pk t := by
 have hw := (h.upk_pk t hp).2
 have hl := h.leadPos
 have ht := h.top2
 have hh := h.half
 have hll := lead_lt h
 have hW : 2 ^ F.wd ≤ 2 ^ 128 := Nat.pow_le_pow_right (by omega) h.w
 have hlt := Nat.lt_of_lt_of_le hw hW
 have hp2 := h.p2
 have hl2 : F.lead ≤ 2 ^ 112 := by unfold M.Fm.lead; exact Nat.pow_le_pow_right (by omega) (by omega)
 have hte : F.top < 18446744073709551616 := by omega
 clear hw hW
 unfold M.Fm.pk at hlt ⊢
 unfold pki
 by_cases h2 : t.c = 2
 · rw [if_pos h2] at hlt ⊢
   rw [if_pos h2]
   refine jn_word h t.n (fld := 0) (by omega) ?_ (fun hc => absurd hc.2 (by omega)) hlt
   rcases hp with hp | hp | hp | hp | hp <;> (have := hp.1; omega)
 · rw [if_neg h2] at hlt ⊢
   rw [if_neg h2]
   by_cases h3 : t.c = 3
   · rw [if_pos h3] at hlt ⊢
     rw [if_pos h3]
     have hq : F.lead ≤ t.s ∧ t.s < 2 * F.lead ∧ 1 ≤ t.q + F.emax + F.p - 1 ∧ t.q + F.emax + F.p - 1 < F.top := by
      rcases hp with hp | hp | hp | hp | hp
      · have := hp.1; omega
      · have := hp.1; omega
      · have := hp.1; omega
      · have := hp.1; omega
      · exact hp.2
     obtain ⟨k, hk⟩ : ∃ k : Nat, t.q + (F.emax : Int) + (F.p : Int) - 1 = (k : Int) := ⟨(t.q + F.emax + F.p - 1).toNat, by omega⟩
     rw [hk] at hlt hq ⊢
     rw [Int.toNat_natCast] at hlt ⊢
     rw [show IntKind.i64.wrap (k : Int) = (k : Int) by rw [IntKind.wrap_i64]; omega]
     exact jn_word h t.n (by omega) (by omega) (fun hc => hq.1) hlt
   · rw [if_neg h3] at hlt ⊢
     rw [if_neg h3]
     by_cases h4 : t.c = 4
     · rw [if_pos h4] at hlt ⊢
       rw [if_pos h4]
       exact jn_word h t.n hte hll (fun hc => Nat.le_refl _) hlt
     · rw [if_neg h4] at hlt ⊢
       rw [if_neg h4]
       by_cases h5 : t.c = 5
       · rw [if_pos h5] at hlt ⊢
         rw [if_pos h5]
         generalize 2 ^ (F.p - 2) = H at *
         rw [Nat.mod_eq_of_lt (a := F.lead + H) (by omega)]
         exact jn_word h false hte (by omega) (fun hc => by omega) hlt
       · rw [if_neg h5] at hlt ⊢
         rw [if_neg h5]
         exact jn_word h t.n (fld := 0) (sg := 0) (by omega) (by omega) (fun hc => absurd hc.2 (by omega)) hlt

theorem lo_small {A : Nat} (h : A < 40000) : M.loN A = A := by unfold M.loN; omega

theorem wr_small {A : Nat} (h : A < 40000) : wrap64 (A : Int) = (A : Int) := by simp only [wrap64]; omega

theorem wr_small2 {A : Nat} (h : A < 40000) : IntKind.i64.wrap (A : Int) = (A : Int) := by simp only [IntKind.wrap_i64]; omega

theorem sub_word {r B C : Nat} (h : B + C = r) (hr : r < 2 ^ 128) : C = (r + (2 ^ 128 - B)) % 2 ^ 128 := by
 have : r + (2 ^ 128 - B) = C + 2 ^ 128 := by omega
 rw [this, Nat.add_mod_right, Nat.mod_eq_of_lt (by omega)]

theorem wp1 {F : M.Fm} (h : F.Ok) : wrap64 ((F.p : Int) - 1) = (F.p : Int) - 1 := by have := h.p1; have := h.p2; simp only [wrap64]; omega

theorem wp2 {F : M.Fm} (h : F.Ok) : IntKind.i64.wrap ((F.p : Int) - 1) = (F.p : Int) - 1 := by have := h.p1; have := h.p2; simp only [IntKind.wrap_i64]; omega

end Go.Proofs.YtogkkecnmlnajaaDoor
