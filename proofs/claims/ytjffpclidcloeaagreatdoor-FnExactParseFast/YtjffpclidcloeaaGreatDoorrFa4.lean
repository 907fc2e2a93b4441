import Derived.Test.YtjffpclidcloeaaGreatDoorrFa3
set_option maxHeartbeats 4000000
set_option maxRecDepth 10000
namespace Go.Proofs.YtjffpclidcloeaaGreatDoor
open Go.RowKit Go.Maps
set_option linter.unusedVariables false
set_option maxRecDepth 100000
theorem newEmp (u : World) :
 Calls Tryz.prog 21 #[] u fun e w' => e = .returned (.pointer (some ⟨u.heap.size + 1, 0, none⟩)) ∧ Emp w' (u.heap.size + 1) u.heap.size ∧ Below u.heap.size u w' := by
 refine (newTable_any u).mono ?_
 rintro e w' ⟨rfl, rfl⟩
 exact ⟨rfl, ⟨by simp [go_sem], by simp [go_sem], by simp [go_sem], by omega, by simp, by simp; omega, (World.ownsMap_made u Tryz.prog 119 Rz).alloc _⟩, ((Below.refl _ _).alloc (Nat.le_refl _) _).alloc (by simp) _⟩

theorem fast_settled (f : Int) (ao : Option Addr) (n c : Nat) (W : Int) (w : World) (kd : Int) (ng : Bool) (dl : Nat) (ex h l cd off fl : Int)
 (kS : ∀ v : World, Below w.heap.size w v → Calls Tryz.prog 20 #[.int .i64 f, .slice ao n c] v fun e w' => ∃ a cc, e = .returned (.tuple #[.agg #[.int .i64 kd, .bool ng, .slice a dl cc, .int .i64 ex], .agg #[.int .u64 h, .int .u64 l, .int .i64 cd, .int .i64 off, .int .i64 fl], .bool true]) ∧ Below v.heap.size v w') :
 Calls Tryz.prog 6 #[.int .i64 f, .slice ao n c, .int .i64 W] w fun e w' => e = .returned (.agg #[.int .u64 h, .int .u64 l, .int .i64 cd, .int .i64 off, .int .i64 fl, .bool true]) ∧ Below w.heap.size w w' := by
 have b0 : Below w.heap.size w (w.alloc (.cells #[.int .u64 0, .int .u64 0, .int .i64 0, .int .i64 0, .int .i64 0, .bool false] 29)) := (Below.refl _ _).alloc (Nat.le_refl _) _
 have c0 : Cls (w.alloc (.cells #[.int .u64 0, .int .u64 0, .int .i64 0, .int .i64 0, .int .i64 0, .bool false] 29)) w.heap.size #[.int .u64 0, .int .u64 0, .int .i64 0, .int .i64 0, .int .i64 0, .bool false] 29 := Cls.new _ _ _
 go_enter Tryz.func6, Tryz.ntmps6
 go_wp2_with fail
 refine (kS _ b0).mono ?_
 rintro e v1 ⟨a, cc, rfl, hb⟩
 obtain ⟨cx, cp, hb2⟩ := Cls.new2 v1 #[.int .i64 kd, .bool ng, .slice a dl cc, .int .i64 ex] #[.int .u64 h, .int .u64 l, .int .i64 cd, .int .i64 off, .int .i64 fl] 36 27
 replace hb := hb.trans (hb2.mono hb.size)
 replace b0 := b0.trans (hb.mono b0.size)
 replace c0 := c0.below hb
 clear hb hb2
 go_upto_region 2 with fail
 generalize ((v1.alloc (.cells #[.int .i64 kd, .bool ng, .slice a dl cc, .int .i64 ex] 36)).alloc (.cells #[.int .u64 h, .int .u64 l, .int .i64 cd, .int .i64 off, .int .i64 fl] 27)) = v2 at *
 generalize v1.heap.size = gx at *
 have HB := hid b0
 have x0 := c0.cell 0 rfl; have z0 := c0.frozen 0
 have x1 := c0.cell 1 rfl; have z1 := c0.frozen 1
 have x2 := c0.cell 2 rfl; have z2 := c0.frozen 2
 have x3 := c0.cell 3 rfl; have z3 := c0.frozen 3
 have x4 := c0.cell 4 rfl; have z4 := c0.frozen 4
 have x5 := c0.cell 5 rfl; have z5 := c0.frozen 5
 have y0 := cp.cell 0 rfl; have y1 := cp.cell 1 rfl; have y2 := cp.cell 2 rfl; have y3 := cp.cell 3 rfl; have y4 := cp.cell 4 rfl
 clear b0 c0 cp
 go_wp2_with fail
 exact bodyPost_ret (v := .agg #[.int .u64 h, .int .u64 l, .int .i64 cd, .int .i64 off, .int .i64 fl, .bool true]) (by simp [results, Tryz.results6, go_sem, x0, x1, x2, x3, x4, x5]) rfl ⟨rfl, belowT HB.out _ (Nat.le_refl _) _ _ _ _ _ _⟩

theorem fast_fin (f : Int) (ao : Option Addr) (n c : Nat) (W : Int) (w : World) (hm : Fmt w) (F : M.Fm) (kd : Int) (ng : Bool) (dl : Nat) (ex h l cd off fl : Int) (sr : Bool) (OK : World → Option Addr → Nat → Prop) (okB : ∀ v v' a k, OK v a k → Below v.heap.size v v' → OK v' a k)
 (kS : ∀ v : World, Below w.heap.size w v → Calls Tryz.prog 20 #[.int .i64 f, .slice ao n c] v fun e w' => ∃ a cc, e = .returned (.tuple #[.agg #[.int .i64 kd, .bool ng, .slice a dl cc, .int .i64 ex], .agg #[.int .u64 0, .int .u64 0, .int .i64 0, .int .i64 0, .int .i64 0], .bool false]) ∧ OK w' a cc ∧ Below v.heap.size v w')
 (kE : ∀ v : World, Fmt v → Calls Tryz.prog 23 #[.int .i64 f] v fun e w' => e = .returned (dv F) ∧ Below v.heap.size v w')
 (kT : ∀ (u v : World) a cc (tb bm : Nat), OK u a cc → Below u.heap.size u v → u.heap.size ≤ tb → u.heap.size ≤ bm → Emp v tb bm → Calls Tryz.prog 22 #[.pointer (some ⟨tb, 0, none⟩), dv F, .agg #[.int .i64 kd, .bool ng, .slice a dl cc, .int .i64 ex], .int .i64 W] v fun e w' => e = .returned (.agg #[.int .u64 h, .int .u64 l, .int .i64 cd, .int .i64 off, .int .i64 fl, .bool sr]) ∧ T2 tb bm v w') :
 Calls Tryz.prog 6 #[.int .i64 f, .slice ao n c, .int .i64 W] w fun e w' => e = .returned (.agg #[.int .u64 h, .int .u64 l, .int .i64 cd, .int .i64 off, .int .i64 fl, .bool sr]) ∧ Below w.heap.size w w' := by
 simp only [dv] at kE kT
 have b0 : Below w.heap.size w (w.alloc (.cells #[.int .u64 0, .int .u64 0, .int .i64 0, .int .i64 0, .int .i64 0, .bool false] 29)) := (Below.refl _ _).alloc (Nat.le_refl _) _
 have c0 : Cls (w.alloc (.cells #[.int .u64 0, .int .u64 0, .int .i64 0, .int .i64 0, .int .i64 0, .bool false] 29)) w.heap.size #[.int .u64 0, .int .u64 0, .int .i64 0, .int .i64 0, .int .i64 0, .bool false] 29 := Cls.new _ _ _
 go_enter Tryz.func6, Tryz.ntmps6
 go_wp2_with fail
 refine (kS _ b0).mono ?_
 rintro e v1 ⟨a, cc, rfl, ho, hb⟩
 obtain ⟨cx, cp, hb2⟩ := Cls.new2 v1 #[.int .i64 kd, .bool ng, .slice a dl cc, .int .i64 ex] #[.int .u64 0, .int .u64 0, .int .i64 0, .int .i64 0, .int .i64 0] 36 27
 have lg : w.heap.size < v1.heap.size := (c0.below hb).lt
 replace ho := okB _ _ _ _ ho hb2
 replace hb := hb.trans (hb2.mono hb.size)
 replace b0 := b0.trans (hb.mono b0.size)
 replace c0 := c0.below hb
 clear hb hb2 cp
 go_upto_region 2 with fail
 generalize ((v1.alloc (.cells #[.int .i64 kd, .bool ng, .slice a dl cc, .int .i64 ex] 36)).alloc (.cells #[.int .u64 0, .int .u64 0, .int .i64 0, .int .i64 0, .int .i64 0] 27)) = v2 at *
 generalize v1.heap.size = gx at *
 go_upto_region 4 with fail
 have m0 := hm.below b0
 have lx := cx.lt
 have A0 : Below v2.heap.size v2 v2.drew := (Below.refl _ _).drew
 have KB : ∀ v, Below v2.heap.size v2 v → (fun v : World => v.cell? ⟨gx, 0, none⟩ = some (.int .i64 kd) ∧ v.cell? ⟨gx, 1, none⟩ = some (.bool ng) ∧ v.cell? ⟨gx, 2, none⟩ = some (.slice a dl cc) ∧ v.cell? ⟨gx, 3, none⟩ = some (.int .i64 ex)) v := fun v hv => ⟨(cx.below hv).cell 0 rfl, (cx.below hv).cell 1 rfl, (cx.below hv).cell 2 rfl, (cx.below hv).cell 3 rfl⟩
 have KS : ∀ v y0 y1 y2 y3 y4 y5, Below v2.heap.size v2 v → (fun v : World => v.cell? ⟨gx, 0, none⟩ = some (.int .i64 kd) ∧ v.cell? ⟨gx, 1, none⟩ = some (.bool ng) ∧ v.cell? ⟨gx, 2, none⟩ = some (.slice a dl cc) ∧ v.cell? ⟨gx, 3, none⟩ = some (.int .i64 ex)) ((((((v.setCell ⟨w.heap.size, 0, none⟩ y0).setCell ⟨w.heap.size, 1, none⟩ y1).setCell ⟨w.heap.size, 2, none⟩ y2).setCell ⟨w.heap.size, 3, none⟩ y3).setCell ⟨w.heap.size, 4, none⟩ y4).setCell ⟨w.heap.size, 5, none⟩ y5) := fun v y0 y1 y2 y3 y4 y5 hv => by
  have c9 := ((((((cx.below hv).far ⟨w.heap.size, 0, none⟩ (by simp only; omega) y0).far ⟨w.heap.size, 1, none⟩ (by simp only; omega) y1).far ⟨w.heap.size, 2, none⟩ (by simp only; omega) y2).far ⟨w.heap.size, 3, none⟩ (by simp only; omega) y3).far ⟨w.heap.size, 4, none⟩ (by simp only; omega) y4).far ⟨w.heap.size, 5, none⟩ (by simp only; omega) y5
  exact ⟨c9.cell 0 rfl, c9.cell 1 rfl, c9.cell 2 rfl, c9.cell 3 rfl⟩
 go_region_held3 (fun v : World => v.cell? ⟨gx, 0, none⟩ = some (.int .i64 kd) ∧ v.cell? ⟨gx, 1, none⟩ = some (.bool ng) ∧ v.cell? ⟨gx, 2, none⟩ = some (.slice a dl cc) ∧ v.cell? ⟨gx, 3, none⟩ = some (.int .i64 ex)) (first | with_reducible exact KB _ A0 | with_reducible exact KB _ B3 | with_reducible exact KS _ _ _ _ _ _ _ B3 | with_reducible exact KB _ B1 | with_reducible exact KB _ B2)
  (first
    | (go_at_call 21; refine (newEmp _).mono ?_; rintro e u1 ⟨rfl, hE, hb⟩; have B1 := keepC (w1 := v2) (by first | with_reducible exact A0 | with_reducible exact B2) hb; clear hb)
    | (go_at_call 23; refine (kE _ (by first | with_reducible exact m0.below A0 | with_reducible exact m0.below B1)).mono ?_; rintro e u2 ⟨rfl, hb⟩; have B2 := keepC (w1 := v2) (by first | with_reducible exact A0 | with_reducible exact B1) hb; have s2 := B2.size; (try replace hE := hE.below hb); clear hb)
    | (go_at_call 22; refine (kT v2 _ a cc _ _ ho (by first | with_reducible exact B2 | with_reducible exact B1) (by first | exact Nat.le_succ _ | omega) (by first | exact Nat.le_refl _ | omega) hE).mono ?_; rintro e u3 ⟨rfl, t3⟩; have B3 : Below v2.heap.size v2 u3 := (by first | exact B2.trans (t3.under v2.heap.size (by first | exact Nat.le_succ _ | omega) (by first | exact Nat.le_refl _ | omega) B2.size) | exact B1.trans (t3.under v2.heap.size (by first | exact Nat.le_succ _ | omega) (by first | exact Nat.le_refl _ | omega) B1.size)); have r3 := c0.below B3; have x0 := r3.cell 0 rfl; have z0 := r3.frozen 0; have x1 := r3.cell 1 rfl; have z1 := r3.frozen 1; have x2 := r3.cell 2 rfl; have z2 := r3.frozen 2; have x3 := r3.cell 3 rfl; have z3 := r3.frozen 3; have x4 := r3.cell 4 rfl; have z4 := r3.frozen 4; have x5 := r3.cell 5 rfl; have z5 := r3.frozen 5))
 all_goals go_wp2_with fail
 all_goals exact bodyPost_ret (v := .agg #[.int .u64 h, .int .u64 l, .int .i64 cd, .int .i64 off, .int .i64 fl, .bool sr]) (by simp [results, Tryz.results6, go_sem, x0, x1, x2, x3, x4, x5]) rfl ⟨rfl, belowT (b0.trans (B3.mono b0.size)) _ (Nat.le_refl _) _ _ _ _ _ _⟩

end Go.Proofs.YtjffpclidcloeaaGreatDoor
