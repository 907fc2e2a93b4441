import Derived.Test.YtcilemkeljcidaaDoorsBcl
import Derived.Test.YtcilemkeljcidaaDoorsFd1
import Derived.Test.YtcilemkeljcidaaDoorsSeg
import Derived.Test.YtcilemkeljcidaaDoorsUnA
set_option maxHeartbeats 4000000
set_option maxRecDepth 100000
namespace Go.Proofs.YtcilemkeljcidaaDoor
open Go.RowKit
set_option linter.unusedVariables false
set_option maxRecDepth 100000
def D6 (v : World) (g : Nat) (e0 e1 e2 e3 e4 : Int) (e5 : Bool) : Prop := v.cell? ⟨g, 0, none⟩ = some (.int .i64 e0) ∧ v.cell? ⟨g, 1, none⟩ = some (.int .i64 e1) ∧ v.cell? ⟨g, 2, none⟩ = some (.int .i64 e2) ∧ v.cell? ⟨g, 3, none⟩ = some (.int .i64 e3) ∧ v.cell? ⟨g, 4, none⟩ = some (.int .i64 e4) ∧ v.cell? ⟨g, 5, none⟩ = some (.bool e5) ∧ g < v.heap.size

theorem D6.below {v v' : World} {g : Nat} {e0 e1 e2 e3 e4 : Int} {e5 : Bool} (h : D6 v g e0 e1 e2 e3 e4 e5) (hb : Below v.heap.size v v') : D6 v' g e0 e1 e2 e3 e4 e5 := by
 obtain ⟨d0, d1, d2, d3, d4, d5, l⟩ := h
 exact ⟨(hb.cell l).trans d0, (hb.cell l).trans d1, (hb.cell l).trans d2, (hb.cell l).trans d3, (hb.cell l).trans d4, (hb.cell l).trans d5, Nat.lt_of_lt_of_le l hb.size⟩

theorem D6_new (v : World) (e0 e1 e2 e3 e4 : Int) (e5 : Bool) (t : TypeId) : D6 (v.alloc (.cells #[.int .i64 e0, .int .i64 e1, .int .i64 e2, .int .i64 e3, .int .i64 e4, .bool e5] t)) v.heap.size e0 e1 e2 e3 e4 e5 := by
 unfold D6; simp [go_sem]

theorem D6.far {v : World} {g k : Nat} {e0 e1 e2 e3 e4 : Int} {e5 : Bool} (h : D6 v g e0 e1 e2 e3 e4 e5) (hk : g ≠ k) (a b : Value) : D6 ((v.setCell ⟨k, 0, none⟩ a).setCell ⟨k, 1, none⟩ b) g e0 e1 e2 e3 e4 e5 := by
 obtain ⟨d0, d1, d2, d3, d4, d5, l⟩ := h
 exact ⟨(far2 v _ _ hk).trans d0, (far2 v _ _ hk).trans d1, (far2 v _ _ hk).trans d2, (far2 v _ _ hk).trans d3, (far2 v _ _ hk).trans d4, (far2 v _ _ hk).trans d5, by simpa using l⟩

theorem W2.bl {v v' : World} {g X : Nat} (h : W2 v g X) (hb : Below v.heap.size v v') : W2 v' g X :=
 ⟨(hb.cell h.2.2.2.2).trans h.1, (hb.cell h.2.2.2.2).trans h.2.1, (hb.frozen h.2.2.2.2).trans h.2.2.1, (hb.frozen h.2.2.2.2).trans h.2.2.2.1, Nat.lt_of_lt_of_le h.2.2.2.2 hb.size⟩

theorem W2.farS {v : World} {g k X : Nat} (h : W2 v g X) (hk : g ≠ k) (a b : Value) : W2 ((v.setCell ⟨k, 0, none⟩ a).setCell ⟨k, 1, none⟩ b) g X := by
 obtain ⟨d0, d1, f0, f1, l⟩ := h
 exact ⟨(far2 v _ _ hk).trans d0, (far2 v _ _ hk).trans d1, (ffar2 v _ _ hk).trans f0, (ffar2 v _ _ hk).trans f1, by simpa using l⟩

structure At (w v : World) (gf gs : Nat) (e0 e1 e2 e3 e4 : Int) (e5 : Bool) (A X : Nat) : Prop where
 b : Below w.heap.size w v
 d : D6 v w.heap.size e0 e1 e2 e3 e4 e5
 o : W2 v (w.heap.size + 1 + 1) 0
 f : W2 v gf A
 s : W2 v gs X
 l : w.heap.size + 1 + 1 < gf
 k : gf < gs

theorem At.below {w v v' : World} {gf gs : Nat} {e0 e1 e2 e3 e4 : Int} {e5 : Bool} {A X : Nat} (h : At w v gf gs e0 e1 e2 e3 e4 e5 A X) (hb : Below v.heap.size v v') : At w v' gf gs e0 e1 e2 e3 e4 e5 A X :=
 ⟨h.b.trans (hb.mono h.b.size), h.d.below hb, h.o.bl hb, h.f.bl hb, h.s.bl hb, h.l, h.k⟩

theorem At.set {w v : World} {gf gs : Nat} {e0 e1 e2 e3 e4 : Int} {e5 : Bool} {A X : Nat} (h : At w v gf gs e0 e1 e2 e3 e4 e5 A X) (Y : Nat) : At w ((v.setCell ⟨gs, 0, none⟩ (.int .u64 (M.hiN Y : Int))).setCell ⟨gs, 1, none⟩ (.int .u64 (M.loN Y : Int))) gf gs e0 e1 e2 e3 e4 e5 A Y := by
 have l := h.l
 have k := h.k
 refine ⟨(h.b.setCell (p := ⟨gs, 0, none⟩) (by simp only; omega) _).setCell (p := ⟨gs, 1, none⟩) (by simp only; omega) _, h.d.far (by omega) _ _, h.o.farS (by omega) _ _, h.f.farS (by omega) _ _, ?_, l, k⟩
 exact W2_set h.s.1 h.s.2.1 h.s.2.2.1 h.s.2.2.2.1

theorem atRank_pos (n : Bool) (R A B C L G J : Nat) (e0 e1 e2 e3 e4 : Int) (e5 : Bool) (w : World) (he1 : wrap64 (e0 - 1) = e0 - 1) (he2 : IntKind.i64.wrap (e0 - 1) = e0 - 1) (hfl : wrap64 (M.loN A : Int) = (M.loN A : Int)) (hfl2 : IntKind.i64.wrap (M.loN A : Int) = (M.loN A : Int))
 (kR : ∀ (v : World) (z : Int), z = e0 - 1 → Calls Tryd.prog 52 #[.agg #[.int .u64 (M.hiN R : Int), .int .u64 (M.loN R : Int)], .int .i64 z] v fun e w' => e = .returned (.agg #[.int .u64 (M.hiN A : Int), .int .u64 (M.loN A : Int)]) ∧ Below v.heap.size v w')
 (kS : ∀ (v : World) (z : Int), z = e0 - 1 → Calls Tryd.prog 54 #[.agg #[.int .u64 (M.hiN A : Int), .int .u64 (M.loN A : Int)], .int .i64 z] v fun e w' => e = .returned (.agg #[.int .u64 (M.hiN B : Int), .int .u64 (M.loN B : Int)]) ∧ Below v.heap.size v w')
 (kM : ∀ v : World, Calls Tryd.prog 46 #[.agg #[.int .u64 (M.hiN R : Int), .int .u64 (M.loN R : Int)], .agg #[.int .u64 (M.hiN B : Int), .int .u64 (M.loN B : Int)]] v fun e w' => e = .returned (.agg #[.int .u64 (M.hiN C : Int), .int .u64 (M.loN C : Int)]) ∧ Below v.heap.size v w')
 (h0 : 0 < M.loN A) (kL : ∀ v : World, Calls Tryd.prog 56 #[.agg #[.int .i64 e0, .int .i64 e1, .int .i64 e2, .int .i64 e3, .int .i64 e4, .bool e5]] v fun e w' => e = .returned (.agg #[.int .u64 (M.hiN L : Int), .int .u64 (M.loN L : Int)]) ∧ Below v.heap.size v w')
 (kP : ∀ v : World, Calls Tryd.prog 47 #[.agg #[.int .u64 (M.hiN C : Int), .int .u64 (M.loN C : Int)], .agg #[.int .u64 (M.hiN L : Int), .int .u64 (M.loN L : Int)]] v fun e w' => e = .returned (.agg #[.int .u64 (M.hiN G : Int), .int .u64 (M.loN G : Int)]) ∧ Below v.heap.size v w')
 (kJ : ∀ (v : World) (z : Int), z = (M.loN A : Int) → Calls Tryd.prog 60 #[.agg #[.int .i64 e0, .int .i64 e1, .int .i64 e2, .int .i64 e3, .int .i64 e4, .bool e5], .bool n, .int .i64 z, .agg #[.int .u64 (M.hiN G : Int), .int .u64 (M.loN G : Int)]] v fun e w' => e = .returned (.agg #[.int .u64 (M.hiN J : Int), .int .u64 (M.loN J : Int)]) ∧ Below v.heap.size v w') :
 Calls Tryd.prog 45 #[.agg #[.int .i64 e0, .int .i64 e1, .int .i64 e2, .int .i64 e3, .int .i64 e4, .bool e5], .bool n, .agg #[.int .u64 (M.hiN R : Int), .int .u64 (M.loN R : Int)]] w fun e w' => e = .returned (.agg #[.int .u64 (M.hiN J : Int), .int .u64 (M.loN J : Int)]) ∧ Below w.heap.size w w' := by
 have b0 : Below w.heap.size w (((w.alloc (.cells #[.int .i64 e0, .int .i64 e1, .int .i64 e2, .int .i64 e3, .int .i64 e4, .bool e5] 23)).alloc (.cells #[.int .u64 (M.hiN R : Int), .int .u64 (M.loN R : Int)] 30)).alloc (.cells #[.int .u64 0, .int .u64 0] 30)) := (((Below.refl _ _).alloc (Nat.le_refl _) _).alloc (by simp) _).alloc (by simp; omega) _
 have D0 : D6 (((w.alloc (.cells #[.int .i64 e0, .int .i64 e1, .int .i64 e2, .int .i64 e3, .int .i64 e4, .bool e5] 23)).alloc (.cells #[.int .u64 (M.hiN R : Int), .int .u64 (M.loN R : Int)] 30)).alloc (.cells #[.int .u64 0, .int .u64 0] 30)) w.heap.size e0 e1 e2 e3 e4 e5 := ((D6_new w _ _ _ _ _ _ _).below ((Below.refl _ _).alloc (Nat.le_refl _) _)).below ((Below.refl _ _).alloc (Nat.le_refl _) _)
 have R0 : W2 (((w.alloc (.cells #[.int .i64 e0, .int .i64 e1, .int .i64 e2, .int .i64 e3, .int .i64 e4, .bool e5] 23)).alloc (.cells #[.int .u64 (M.hiN R : Int), .int .u64 (M.loN R : Int)] 30)).alloc (.cells #[.int .u64 0, .int .u64 0] 30)) (w.heap.size + 1) R := by refine ⟨?_, ?_, ?_, ?_, ?_⟩ <;> simp [go_sem]
 have O0 : W2 (((w.alloc (.cells #[.int .i64 e0, .int .i64 e1, .int .i64 e2, .int .i64 e3, .int .i64 e4, .bool e5] 23)).alloc (.cells #[.int .u64 (M.hiN R : Int), .int .u64 (M.loN R : Int)] 30)).alloc (.cells #[.int .u64 0, .int .u64 0] 30)) (w.heap.size + 1 + 1) 0 := by refine ⟨?_, ?_, ?_, ?_, ?_⟩ <;> simp [go_sem, hi0, lo0]
 generalize hV : (((w.alloc (.cells #[.int .i64 e0, .int .i64 e1, .int .i64 e2, .int .i64 e3, .int .i64 e4, .bool e5] 23)).alloc (.cells #[.int .u64 (M.hiN R : Int), .int .u64 (M.loN R : Int)] 30)).alloc (.cells #[.int .u64 0, .int .u64 0] 30)) = v0 at *
 go_enter Tryd.func45, Tryd.ntmps45
 go_upto_region 1 with fail
 clear hV
 obtain ⟨d0, -⟩ := id D0
 obtain ⟨r0, r1, -⟩ := id R0
 go_wp2_with fail
 clear d0 r0 r1
 refine (kR _ _ (by first | with_reducible rfl | with_reducible assumption)).mono ?_
 rintro e v1 ⟨rfl, hb1⟩
 replace b0 := b0.trans (hb1.mono b0.size)
 replace D0 := D0.below hb1
 replace R0 := R0.bl hb1
 replace O0 := O0.bl hb1
 have nf : w.heap.size + 1 + 1 < v1.heap.size := O0.2.2.2.2
 clear hb1 kR
 go_upto_region 2 with fail
 have bA : Below v1.heap.size v1 (v1.alloc (.cells #[.int .u64 (M.hiN A : Int), .int .u64 (M.loN A : Int)] 30)) := (Below.refl _ _).alloc (Nat.le_refl _) _
 replace b0 := b0.trans (bA.mono b0.size)
 replace D0 := D0.below bA
 replace R0 := R0.bl bA
 replace O0 := O0.bl bA
 have F0 : W2 (v1.alloc (.cells #[.int .u64 (M.hiN A : Int), .int .u64 (M.loN A : Int)] 30)) v1.heap.size A := W2_new v1 A _
 clear bA
 generalize (v1.alloc (.cells #[.int .u64 (M.hiN A : Int), .int .u64 (M.loN A : Int)] 30)) = v2 at *
 generalize v1.heap.size = gf at *
 have Kof : ∀ v, Below v2.heap.size v2 v → (fun v => Below v2.heap.size v2 v ∧ v.cell? ⟨w.heap.size, 0, none⟩ = some (.int .i64 e0) ∧ v.cell? ⟨w.heap.size + 1, 0, none⟩ = some (.int .u64 (M.hiN R : Int)) ∧ v.cell? ⟨w.heap.size + 1, 1, none⟩ = some (.int .u64 (M.loN R : Int)) ∧ v.cell? ⟨gf, 0, none⟩ = some (.int .u64 (M.hiN A : Int)) ∧ v.cell? ⟨gf, 1, none⟩ = some (.int .u64 (M.loN A : Int))) v := fun v hv => by
  obtain ⟨d0, -⟩ := D0.below hv
  obtain ⟨r0, r1, -⟩ := R0.bl hv
  obtain ⟨f0, f1, -⟩ := F0.bl hv
  exact ⟨hv, d0, r0, r1, f0, f1⟩
 go_cut [8] (fun p wx => ∃ g, p = .pointer (some ⟨g, 0, none⟩) ∧ v2.heap.size ≤ g ∧ W2 wx g C ∧ Below v2.heap.size v2 wx)
 case first =>
  clear D0 R0 O0 F0 b0 nf
  go_region_held3 (fun v => Below v2.heap.size v2 v ∧ v.cell? ⟨w.heap.size, 0, none⟩ = some (.int .i64 e0) ∧ v.cell? ⟨w.heap.size + 1, 0, none⟩ = some (.int .u64 (M.hiN R : Int)) ∧ v.cell? ⟨w.heap.size + 1, 1, none⟩ = some (.int .u64 (M.loN R : Int)) ∧ v.cell? ⟨gf, 0, none⟩ = some (.int .u64 (M.hiN A : Int)) ∧ v.cell? ⟨gf, 1, none⟩ = some (.int .u64 (M.loN A : Int))) (first | exact Kof _ (by assumption) | exact Kof _ (keepDr (by assumption)) | exact Kof _ (keepAl (by assumption) _) | exact Kof _ (keepAl2 (by assumption) _) | exact Kof _ (keepSt2 (keepSt2 (by assumption) _ _ (by first | assumption | exact Below.size (by assumption) | omega) _) _ _ (by first | assumption | exact Below.size (by assumption) | omega) _) | exact Kof _ (Below.refl _ _).drew)
   (first | (go_at_call 54; refine (kS _ _ (by first | with_reducible rfl | with_reducible assumption)).mono ?_; rintro e w' ⟨rfl, hb0⟩; have hb1 := keepC (w1 := v2) (And.left (by assumption)) hb0; have hc1 := (bcell hb0).1; have hf1 := (bcell hb0).2; have hz1 := hb0.size; (try simp at hz1); (try replace hz1 := Nat.lt_of_succ_le hz1); clear hb0) | (go_at_call 46; refine (kM _).mono ?_; rintro e w' ⟨rfl, hb0⟩; have hb2 := keepC (w1 := v2) (And.left (by assumption)) hb0; have hc2 := (bcell hb0).1; have hf2 := (bcell hb0).2; have hz2 := hb0.size; (try simp at hz2); (try replace hz2 := Nat.lt_of_succ_le hz2); clear hb0; (try have hy2 := Nat.lt_of_lt_of_le hz1 hz2)))
  all_goals go_wp2_with fail
  all_goals go_meet
  · exact ⟨_, rfl, hb2.size, W2_new _ _ _, keepAl2 hb2 _⟩
  · exact ⟨_, rfl, hb1.size, W2_set (a := .int .u64 0) (b := .int .u64 0) (by simp [hc2, go_sem]) (by simp [hc2, go_sem]) (by simp [hf2, go_sem]) (by simp [hf2, go_sem]), keepSt2 (keepSt2 hb2 _ _ (hb1.size) _) _ _ (hb1.size) _⟩
  · exact ⟨_, rfl, Nat.le_refl _, W2_set (a := .int .u64 0) (b := .int .u64 0) (by simp [hc2, hc1, hz1, go_sem]) (by simp [hc2, hc1, hz1, go_sem]) (by simp [hf2, hf1, hz1, go_sem]) (by simp [hf2, hf1, hz1, go_sem]), keepSt2 (keepSt2 hb2 _ _ (Nat.le_refl _) _) _ _ (Nat.le_refl _) _⟩
 clear Kof kS kM
 rename World => v3
 obtain ⟨gs, rfl, hgs, S0, hb3⟩ := hcut
 have lf : gf < v2.heap.size := F0.2.2.2.2
 have J0 : At w v3 gf gs e0 e1 e2 e3 e4 e5 A C := ⟨b0.trans (hb3.mono b0.size), D0.below hb3, O0.bl hb3, F0.bl hb3, S0, nf, Nat.lt_of_lt_of_le lf hgs⟩
 clear hb3 b0 D0 R0 O0 F0 S0 nf lf hgs
 obtain ⟨f0, f1, -⟩ := id J0.f
 go_upto_region 4 with fail
 clear f0 f1
 have A0 : Below v3.heap.size v3 v3.drew := (Below.refl _ _).drew
 have JB : ∀ v, Below v3.heap.size v3 v → At w v gf gs e0 e1 e2 e3 e4 e5 A C := fun v hv => J0.below hv
 go_cut [8] (fun p wx => p = .pointer (some ⟨gs, 0, none⟩) ∧ At w wx gf gs e0 e1 e2 e3 e4 e5 A G)
 case first =>
  obtain ⟨d0, d1, d2, d3, d4, d5, -⟩ := (JB _ A0).d
  obtain ⟨s0, s1, -⟩ := (JB _ A0).s
  go_region_with (first | (have hq := hb1; clear hq; go_at_call 47; refine (kP _).mono ?_; rintro e u2 ⟨rfl, hb0⟩; have hb2 := keepC (w1 := v3) hb1 hb0; clear hb0; obtain ⟨y0, y1, y2, y3, -⟩ := (JB _ hb2).s) | (go_at_call 56; refine (kL _).mono ?_; rintro e u1 ⟨rfl, hb0⟩; have hb1 := keepC (w1 := v3) A0 hb0; clear hb0; obtain ⟨x0, x1, -, -, -⟩ := (JB _ hb1).s; obtain ⟨m0, m1, m2, m3, m4, m5, -⟩ := (JB _ hb1).d))
  all_goals go_wp2_with fail
  all_goals go_meet
  all_goals exact ⟨rfl, (JB _ hb2).set G⟩
 case rest =>
  clear JB A0 J0
  rename World => wx
  obtain ⟨rfl, J1⟩ := hcut
  obtain ⟨d0, d1, d2, d3, d4, d5, -⟩ := id J1.d
  obtain ⟨s0, s1, -⟩ := id J1.s
  obtain ⟨f0, f1, -⟩ := id J1.f
  go_wp2_with fail
  refine (kJ _ _ (by first | with_reducible rfl | with_reducible assumption)).mono ?_
  rintro e u4 ⟨rfl, hb0⟩
  have J4 := J1.below hb0
  clear d0 d1 d2 d3 d4 d5 s0 s1 f0 f1 hb0
  obtain ⟨r0, r1, r2, r3, -⟩ := id J4.o
  have bb := (J4.b.setCell (p := ⟨w.heap.size + 1 + 1, 0, none⟩) (by simp only; omega) (.int .u64 (M.hiN J : Int))).setCell (p := ⟨w.heap.size + 1 + 1, 1, none⟩) (by simp only; omega) (.int .u64 (M.loN J : Int))
  clear J4
  have HB := hid bb
  clear bb
  go_wp2_with fail
  exact bodyPost_ret (v := .agg #[.int .u64 (M.hiN J : Int), .int .u64 (M.loN J : Int)]) (by simp [results, Tryd.results45, go_sem, r0, r1]) rfl ⟨rfl, HB.out⟩

theorem atRank_zero (n : Bool) (R A B C L G J : Nat) (e0 e1 e2 e3 e4 : Int) (e5 : Bool) (w : World) (he1 : wrap64 (e0 - 1) = e0 - 1) (he2 : IntKind.i64.wrap (e0 - 1) = e0 - 1) (hfl : wrap64 (M.loN A : Int) = (M.loN A : Int)) (hfl2 : IntKind.i64.wrap (M.loN A : Int) = (M.loN A : Int))
 (kR : ∀ (v : World) (z : Int), z = e0 - 1 → Calls Tryd.prog 52 #[.agg #[.int .u64 (M.hiN R : Int), .int .u64 (M.loN R : Int)], .int .i64 z] v fun e w' => e = .returned (.agg #[.int .u64 (M.hiN A : Int), .int .u64 (M.loN A : Int)]) ∧ Below v.heap.size v w')
 (kS : ∀ (v : World) (z : Int), z = e0 - 1 → Calls Tryd.prog 54 #[.agg #[.int .u64 (M.hiN A : Int), .int .u64 (M.loN A : Int)], .int .i64 z] v fun e w' => e = .returned (.agg #[.int .u64 (M.hiN B : Int), .int .u64 (M.loN B : Int)]) ∧ Below v.heap.size v w')
 (kM : ∀ v : World, Calls Tryd.prog 46 #[.agg #[.int .u64 (M.hiN R : Int), .int .u64 (M.loN R : Int)], .agg #[.int .u64 (M.hiN B : Int), .int .u64 (M.loN B : Int)]] v fun e w' => e = .returned (.agg #[.int .u64 (M.hiN C : Int), .int .u64 (M.loN C : Int)]) ∧ Below v.heap.size v w')
 (h0 : ¬ 0 < M.loN A)
 (kJ : ∀ (v : World) (z : Int), z = (M.loN A : Int) → Calls Tryd.prog 60 #[.agg #[.int .i64 e0, .int .i64 e1, .int .i64 e2, .int .i64 e3, .int .i64 e4, .bool e5], .bool n, .int .i64 z, .agg #[.int .u64 (M.hiN C : Int), .int .u64 (M.loN C : Int)]] v fun e w' => e = .returned (.agg #[.int .u64 (M.hiN J : Int), .int .u64 (M.loN J : Int)]) ∧ Below v.heap.size v w') :
 Calls Tryd.prog 45 #[.agg #[.int .i64 e0, .int .i64 e1, .int .i64 e2, .int .i64 e3, .int .i64 e4, .bool e5], .bool n, .agg #[.int .u64 (M.hiN R : Int), .int .u64 (M.loN R : Int)]] w fun e w' => e = .returned (.agg #[.int .u64 (M.hiN J : Int), .int .u64 (M.loN J : Int)]) ∧ Below w.heap.size w w' := by
 have b0 : Below w.heap.size w (((w.alloc (.cells #[.int .i64 e0, .int .i64 e1, .int .i64 e2, .int .i64 e3, .int .i64 e4, .bool e5] 23)).alloc (.cells #[.int .u64 (M.hiN R : Int), .int .u64 (M.loN R : Int)] 30)).alloc (.cells #[.int .u64 0, .int .u64 0] 30)) := (((Below.refl _ _).alloc (Nat.le_refl _) _).alloc (by simp) _).alloc (by simp; omega) _
 have D0 : D6 (((w.alloc (.cells #[.int .i64 e0, .int .i64 e1, .int .i64 e2, .int .i64 e3, .int .i64 e4, .bool e5] 23)).alloc (.cells #[.int .u64 (M.hiN R : Int), .int .u64 (M.loN R : Int)] 30)).alloc (.cells #[.int .u64 0, .int .u64 0] 30)) w.heap.size e0 e1 e2 e3 e4 e5 := ((D6_new w _ _ _ _ _ _ _).below ((Below.refl _ _).alloc (Nat.le_refl _) _)).below ((Below.refl _ _).alloc (Nat.le_refl _) _)
 have R0 : W2 (((w.alloc (.cells #[.int .i64 e0, .int .i64 e1, .int .i64 e2, .int .i64 e3, .int .i64 e4, .bool e5] 23)).alloc (.cells #[.int .u64 (M.hiN R : Int), .int .u64 (M.loN R : Int)] 30)).alloc (.cells #[.int .u64 0, .int .u64 0] 30)) (w.heap.size + 1) R := by refine ⟨?_, ?_, ?_, ?_, ?_⟩ <;> simp [go_sem]
 have O0 : W2 (((w.alloc (.cells #[.int .i64 e0, .int .i64 e1, .int .i64 e2, .int .i64 e3, .int .i64 e4, .bool e5] 23)).alloc (.cells #[.int .u64 (M.hiN R : Int), .int .u64 (M.loN R : Int)] 30)).alloc (.cells #[.int .u64 0, .int .u64 0] 30)) (w.heap.size + 1 + 1) 0 := by refine ⟨?_, ?_, ?_, ?_, ?_⟩ <;> simp [go_sem, hi0, lo0]
 generalize hV : (((w.alloc (.cells #[.int .i64 e0, .int .i64 e1, .int .i64 e2, .int .i64 e3, .int .i64 e4, .bool e5] 23)).alloc (.cells #[.int .u64 (M.hiN R : Int), .int .u64 (M.loN R : Int)] 30)).alloc (.cells #[.int .u64 0, .int .u64 0] 30)) = v0 at *
 go_enter Tryd.func45, Tryd.ntmps45
 go_upto_region 1 with fail
 clear hV
 obtain ⟨d0, -⟩ := id D0
 obtain ⟨r0, r1, -⟩ := id R0
 go_wp2_with fail
 clear d0 r0 r1
 refine (kR _ _ (by first | with_reducible rfl | with_reducible assumption)).mono ?_
 rintro e v1 ⟨rfl, hb1⟩
 replace b0 := b0.trans (hb1.mono b0.size)
 replace D0 := D0.below hb1
 replace R0 := R0.bl hb1
 replace O0 := O0.bl hb1
 have nf : w.heap.size + 1 + 1 < v1.heap.size := O0.2.2.2.2
 clear hb1 kR
 go_upto_region 2 with fail
 have bA : Below v1.heap.size v1 (v1.alloc (.cells #[.int .u64 (M.hiN A : Int), .int .u64 (M.loN A : Int)] 30)) := (Below.refl _ _).alloc (Nat.le_refl _) _
 replace b0 := b0.trans (bA.mono b0.size)
 replace D0 := D0.below bA
 replace R0 := R0.bl bA
 replace O0 := O0.bl bA
 have F0 : W2 (v1.alloc (.cells #[.int .u64 (M.hiN A : Int), .int .u64 (M.loN A : Int)] 30)) v1.heap.size A := W2_new v1 A _
 clear bA
 generalize (v1.alloc (.cells #[.int .u64 (M.hiN A : Int), .int .u64 (M.loN A : Int)] 30)) = v2 at *
 generalize v1.heap.size = gf at *
 have Kof : ∀ v, Below v2.heap.size v2 v → (fun v => Below v2.heap.size v2 v ∧ v.cell? ⟨w.heap.size, 0, none⟩ = some (.int .i64 e0) ∧ v.cell? ⟨w.heap.size + 1, 0, none⟩ = some (.int .u64 (M.hiN R : Int)) ∧ v.cell? ⟨w.heap.size + 1, 1, none⟩ = some (.int .u64 (M.loN R : Int)) ∧ v.cell? ⟨gf, 0, none⟩ = some (.int .u64 (M.hiN A : Int)) ∧ v.cell? ⟨gf, 1, none⟩ = some (.int .u64 (M.loN A : Int))) v := fun v hv => by
  obtain ⟨d0, -⟩ := D0.below hv
  obtain ⟨r0, r1, -⟩ := R0.bl hv
  obtain ⟨f0, f1, -⟩ := F0.bl hv
  exact ⟨hv, d0, r0, r1, f0, f1⟩
 go_cut [8] (fun p wx => ∃ g, p = .pointer (some ⟨g, 0, none⟩) ∧ v2.heap.size ≤ g ∧ W2 wx g C ∧ Below v2.heap.size v2 wx)
 case first =>
  clear D0 R0 O0 F0 b0 nf
  go_region_held3 (fun v => Below v2.heap.size v2 v ∧ v.cell? ⟨w.heap.size, 0, none⟩ = some (.int .i64 e0) ∧ v.cell? ⟨w.heap.size + 1, 0, none⟩ = some (.int .u64 (M.hiN R : Int)) ∧ v.cell? ⟨w.heap.size + 1, 1, none⟩ = some (.int .u64 (M.loN R : Int)) ∧ v.cell? ⟨gf, 0, none⟩ = some (.int .u64 (M.hiN A : Int)) ∧ v.cell? ⟨gf, 1, none⟩ = some (.int .u64 (M.loN A : Int))) (first | exact Kof _ (by assumption) | exact Kof _ (keepDr (by assumption)) | exact Kof _ (keepAl (by assumption) _) | exact Kof _ (keepAl2 (by assumption) _) | exact Kof _ (keepSt2 (keepSt2 (by assumption) _ _ (by first | assumption | exact Below.size (by assumption) | omega) _) _ _ (by first | assumption | exact Below.size (by assumption) | omega) _) | exact Kof _ (Below.refl _ _).drew)
   (first | (go_at_call 54; refine (kS _ _ (by first | with_reducible rfl | with_reducible assumption)).mono ?_; rintro e w' ⟨rfl, hb0⟩; have hb1 := keepC (w1 := v2) (And.left (by assumption)) hb0; have hc1 := (bcell hb0).1; have hf1 := (bcell hb0).2; have hz1 := hb0.size; (try simp at hz1); (try replace hz1 := Nat.lt_of_succ_le hz1); clear hb0) | (go_at_call 46; refine (kM _).mono ?_; rintro e w' ⟨rfl, hb0⟩; have hb2 := keepC (w1 := v2) (And.left (by assumption)) hb0; have hc2 := (bcell hb0).1; have hf2 := (bcell hb0).2; have hz2 := hb0.size; (try simp at hz2); (try replace hz2 := Nat.lt_of_succ_le hz2); clear hb0; (try have hy2 := Nat.lt_of_lt_of_le hz1 hz2)))
  all_goals go_wp2_with fail
  all_goals go_meet
  · exact ⟨_, rfl, hb2.size, W2_new _ _ _, keepAl2 hb2 _⟩
  · exact ⟨_, rfl, hb1.size, W2_set (a := .int .u64 0) (b := .int .u64 0) (by simp [hc2, go_sem]) (by simp [hc2, go_sem]) (by simp [hf2, go_sem]) (by simp [hf2, go_sem]), keepSt2 (keepSt2 hb2 _ _ (hb1.size) _) _ _ (hb1.size) _⟩
  · exact ⟨_, rfl, Nat.le_refl _, W2_set (a := .int .u64 0) (b := .int .u64 0) (by simp [hc2, hc1, hz1, go_sem]) (by simp [hc2, hc1, hz1, go_sem]) (by simp [hf2, hf1, hz1, go_sem]) (by simp [hf2, hf1, hz1, go_sem]), keepSt2 (keepSt2 hb2 _ _ (Nat.le_refl _) _) _ _ (Nat.le_refl _) _⟩
 clear Kof kS kM
 rename World => v3
 obtain ⟨gs, rfl, hgs, S0, hb3⟩ := hcut
 have lf : gf < v2.heap.size := F0.2.2.2.2
 have J0 : At w v3 gf gs e0 e1 e2 e3 e4 e5 A C := ⟨b0.trans (hb3.mono b0.size), D0.below hb3, O0.bl hb3, F0.bl hb3, S0, nf, Nat.lt_of_lt_of_le lf hgs⟩
 clear hb3 b0 D0 R0 O0 F0 S0 nf lf hgs
 obtain ⟨f0, f1, -⟩ := id J0.f
 obtain ⟨d0, d1, d2, d3, d4, d5, -⟩ := id J0.d
 obtain ⟨s0, s1, -⟩ := id J0.s
 obtain ⟨f0, f1, -⟩ := id J0.f
 go_wp2_with fail
 refine (kJ _ _ (by first | with_reducible rfl | with_reducible assumption)).mono ?_
 rintro e u4 ⟨rfl, hb0⟩
 have J4 := J0.below hb0
 clear d0 d1 d2 d3 d4 d5 s0 s1 f0 f1 hb0
 obtain ⟨r0, r1, r2, r3, -⟩ := id J4.o
 have bb := (J4.b.setCell (p := ⟨w.heap.size + 1 + 1, 0, none⟩) (by simp only; omega) (.int .u64 (M.hiN J : Int))).setCell (p := ⟨w.heap.size + 1 + 1, 1, none⟩) (by simp only; omega) (.int .u64 (M.loN J : Int))
 clear J4
 have HB := hid bb
 clear bb
 go_wp2_with fail
 exact bodyPost_ret (v := .agg #[.int .u64 (M.hiN J : Int), .int .u64 (M.loN J : Int)]) (by simp [results, Tryd.results45, go_sem, r0, r1]) rfl ⟨rfl, HB.out⟩

end Go.Proofs.YtcilemkeljcidaaDoor
