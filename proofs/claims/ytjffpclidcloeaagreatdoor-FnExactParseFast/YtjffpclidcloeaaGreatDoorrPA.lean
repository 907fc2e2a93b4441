import Derived.Lib.Mul64
import Derived.Shelf.Bits.Mul64
import Derived.OwnWalk
import Derived.WalkMore
import Derived.Test.YtjffpclidcloeaaGreatDoorrBL
import Derived.Test.YtjffpclidcloeaaGreatDoorrPe2
set_option maxHeartbeats 4000000
set_option maxRecDepth 10000
namespace Go.Proofs.YtjffpclidcloeaaGreatDoor
open Go.RowKit
set_option linter.unusedVariables false
set_option maxRecDepth 100000
theorem below5p {B : Nat} {w W : World} (h : Below B w W) (g : Nat) (hg : B ≤ g) (a b c d e : Value) : Below B w (((((W.setCell ⟨g, 0, none⟩ a).setCell ⟨g, 1, none⟩ b).setCell ⟨g, 2, none⟩ c).setCell ⟨g, 3, none⟩ d).setCell ⟨g, 4, none⟩ e) :=
 ((((h.setCell (p := ⟨g, 0, none⟩) hg _).setCell (p := ⟨g, 1, none⟩) hg _).setCell (p := ⟨g, 2, none⟩) hg _).setCell (p := ⟨g, 3, none⟩) hg _).setCell (p := ⟨g, 4, none⟩) hg _

theorem parsed_any (F : M.Fm) (ng : Bool) (a b : Option Addr) (n m c d : Nat) (h l fl : Int) (ok : Bool) (w : World)
 (kR : ∀ v : World, Below w.heap.size w v → Calls Tryz.prog 77 #[dv F, .bool ng, .slice a n c, .slice b m d] v fun e w' => e = .returned (.agg #[.int .u64 h, .int .u64 l, .int .i64 fl, .bool ok]) ∧ Below v.heap.size v w') :
 Calls Tryz.prog 51 #[dv F, .bool ng, .agg #[.slice a n c, .slice b m d]] w fun e w' => e = .returned (.agg #[.int .u64 h, .int .u64 l, .int .i64 0, .int .i64 0, .int .i64 fl]) ∧ Below w.heap.size w w' := by
 simp only [dv] at kR ⊢
 obtain ⟨_, _, cr, b0⟩ := Cls.new3 w #[.int .i64 (F.p : Int), .int .i64 (1 - (F.emax : Int)), .int .i64 (F.emax : Int), .int .i64 (F.wd : Int), .int .i64 (F.e : Int), .bool F.x] #[.slice a n c, .slice b m d] zParP 61 99 27
 go_enter Tryz.func51, Tryz.ntmps51
 go_wp2_with fail
 refine (kR _ b0).mono ?_
 rintro e v1 ⟨rfl, hb⟩
 have cx := Cls.new v1 #[.int .u64 h, .int .u64 l, .int .i64 fl, .bool ok] 53
 have hb2 : Below v1.heap.size v1 (v1.alloc (.cells #[.int .u64 h, .int .u64 l, .int .i64 fl, .bool ok] 53)) := (Below.refl _ _).alloc (Nat.le_refl _) _
 replace hb := hb.trans (hb2.mono hb.size)
 replace b0 := b0.trans (hb.mono b0.size)
 replace cr := cr.below hb
 clear hb hb2
 go_upto_region 2 with fail
 generalize (v1.alloc (.cells #[.int .u64 h, .int .u64 l, .int .i64 fl, .bool ok] 53)) = v2 at *
 generalize v1.heap.size = gx at *
 have RB := hid (below5p b0 (w.heap.size + 1 + 1) (by omega) (.int .u64 h) (.int .u64 l) (.int .i64 0) (.int .i64 0) (.int .i64 fl))
 have x0 := cr.cell 0 rfl
 have x1 := cr.cell 1 rfl
 have x2 := cr.cell 2 rfl
 have x3 := cr.cell 3 rfl
 have x4 := cr.cell 4 rfl
 have z0 := cr.frozen 0
 have z1 := cr.frozen 1
 have z2 := cr.frozen 2
 have z3 := cr.frozen 3
 have z4 := cr.frozen 4
 have y0 := cx.cell 0 rfl
 have y1 := cx.cell 1 rfl
 have y2 := cx.cell 2 rfl
 have y3 := cx.cell 3 rfl
 clear b0 cr cx
 go_wp2_with fail
 exact bodyPost_ret (v := .agg #[.int .u64 h, .int .u64 l, .int .i64 0, .int .i64 0, .int .i64 fl]) (by simp [results, Tryz.results51, go_sem, x0, x1, x2, x3, x4]) rfl ⟨rfl, RB.out⟩

theorem fld_dp (a b c d e : Int) (x : Bool) (v : World) : Sem.run Tryz.prog (Instr.field 61 (.agg #[.int .i64 a, .int .i64 b, .int .i64 c, .int .i64 d, .int .i64 e, .bool x]) 0) v = .ok (.int .i64 a) v := by kernel_rfl

theorem sparse_no (f : Int) (hf : f < 0 ∨ 4 ≤ f) (ao : Option Addr) (n c : Nat) (w : World) :
 Calls Tryz.prog 10 #[.int .i64 f, .slice ao n c] w fun e w' => e = .returned (.agg #[.int .u64 0, .int .u64 0, .int .i64 4, .int .i64 0, .int .i64 0]) ∧ Below w.heap.size w w' := by
 have b0 : Below w.heap.size w (w.alloc (.cells zParP 27)) := (Below.refl _ _).alloc (Nat.le_refl _) _
 have c0 : Cls (w.alloc (.cells zParP 27)) w.heap.size zParP 27 := Cls.new _ _ _
 have fd := fld_dp
 go_enter Tryz.func10, Tryz.ntmps10
 go_wp2_with fail
 refine (sdescribeNo f _ hf).mono ?_
 rintro e v1 ⟨rfl, hb⟩
 replace b0 := b0.trans (hb.mono b0.size)
 replace c0 := c0.below hb
 clear hb
 have RB := hid (below5p b0 _ (Nat.le_refl _) (.int .u64 0) (.int .u64 0) (.int .i64 4) (.int .i64 0) (.int .i64 0))
 have x0 := c0.cell 0 rfl
 have x1 := c0.cell 1 rfl
 have x2 := c0.cell 2 rfl
 have x3 := c0.cell 3 rfl
 have x4 := c0.cell 4 rfl
 have z0 := c0.frozen 0
 have z1 := c0.frozen 1
 have z2 := c0.frozen 2
 have z3 := c0.frozen 3
 have z4 := c0.frozen 4
 clear b0 c0
 go_wp2_with fail
 exact bodyPost_ret (v := .agg #[.int .u64 0, .int .u64 0, .int .i64 4, .int .i64 0, .int .i64 0]) (by simp [results, Tryz.results10, go_sem, x0, x1, x2, x3, x4]) rfl ⟨rfl, RB.out⟩

theorem sparse_bad (f : Int) (ao : Option Addr) (n c : Nat) (w : World) (F : M.Fm) (hp0 : F.p ≠ 0)
 (kE : ∀ v : World, Calls Tryz.prog 26 #[.int .i64 f] v fun e w' => e = .returned (dv F) ∧ Below v.heap.size v w')
 (kd : Int) (ng : Bool) (dl : Nat) (ex cd off : Int) (he1 : -2000000 ≤ ex) (he2 : ex ≤ 2000000) (hdl : dl ≤ 10000) (OK : World → Option Addr → Nat → Prop) (okB : ∀ v v' a k, OK v a k → Below v.heap.size v v' → OK v' a k)
 (kS : ∀ v : World, Below w.heap.size w v → Calls Tryz.prog 25 #[.slice ao n c] v fun e w' => ∃ a cc, e = .returned (.agg #[.int .i64 kd, .bool ng, .slice a dl cc, .int .i64 ex, .int .i64 cd, .int .i64 off]) ∧ OK w' a cc ∧ Below v.heap.size v w')
 (hcd : cd ≠ 0) :
 Calls Tryz.prog 10 #[.int .i64 f, .slice ao n c] w fun e w' => e = .returned (.agg #[.int .u64 0, .int .u64 0, .int .i64 cd, .int .i64 off, .int .i64 0]) ∧ Below w.heap.size w w' := by
 simp only [dv] at kE
 have hp1 : ¬ (F.p : Int) = 0 := by omega
 have b0 : Below w.heap.size w (w.alloc (.cells zParP 27)) := (Below.refl _ _).alloc (Nat.le_refl _) _
 have c0 : Cls (w.alloc (.cells zParP 27)) w.heap.size zParP 27 := Cls.new _ _ _
 have fd := fld_dp
 go_enter Tryz.func10, Tryz.ntmps10
 go_wp2_with fail
 refine (kE _).mono ?_
 rintro e v1 ⟨rfl, hb⟩
 replace b0 := b0.trans (hb.mono b0.size)
 replace c0 := c0.below hb
 clear hb
 go_wp2_with fail
 refine (kS _ b0).mono ?_
 rintro e v2 ⟨a, cc, rfl, ho, hb⟩
 have cs := Cls.new v2 #[.int .i64 kd, .bool ng, .slice a dl cc, .int .i64 ex, .int .i64 cd, .int .i64 off] 65
 have hb2 : Below v2.heap.size v2 (v2.alloc (.cells #[.int .i64 kd, .bool ng, .slice a dl cc, .int .i64 ex, .int .i64 cd, .int .i64 off] 65)) := (Below.refl _ _).alloc (Nat.le_refl _) _
 replace ho := okB _ _ _ _ ho hb2
 replace hb := hb.trans (hb2.mono hb.size)
 replace b0 := b0.trans (hb.mono b0.size)
 replace c0 := c0.below hb
 clear hb hb2
 go_upto_region 4 with fail
 generalize (v2.alloc (.cells #[.int .i64 kd, .bool ng, .slice a dl cc, .int .i64 ex, .int .i64 cd, .int .i64 off] 65)) = v3 at *
 generalize v2.heap.size = gs at *
 have s0 := cs.cell 0 rfl
 have s1 := cs.cell 1 rfl
 have s2 := cs.cell 2 rfl
 have s3 := cs.cell 3 rfl
 have s4 := cs.cell 4 rfl
 have s5 := cs.cell 5 rfl
 have RB := hid (below5p b0 _ (Nat.le_refl _) (.int .u64 0) (.int .u64 0) (.int .i64 cd) (.int .i64 off) (.int .i64 0))
 have x0 := c0.cell 0 rfl
 have x1 := c0.cell 1 rfl
 have x2 := c0.cell 2 rfl
 have x3 := c0.cell 3 rfl
 have x4 := c0.cell 4 rfl
 have z0 := c0.frozen 0
 have z1 := c0.frozen 1
 have z2 := c0.frozen 2
 have z3 := c0.frozen 3
 have z4 := c0.frozen 4
 clear b0 c0
 go_wp2_with fail
 exact bodyPost_ret (v := .agg #[.int .u64 0, .int .u64 0, .int .i64 cd, .int .i64 off, .int .i64 0]) (by simp [results, Tryz.results10, go_sem, x0, x1, x2, x3, x4]) rfl ⟨rfl, RB.out⟩

theorem sparse_inf (f : Int) (ao : Option Addr) (n c : Nat) (w : World) (F : M.Fm) (hp0 : F.p ≠ 0)
 (kE : ∀ v : World, Calls Tryz.prog 26 #[.int .i64 f] v fun e w' => e = .returned (dv F) ∧ Below v.heap.size v w')
 (kd : Int) (ng : Bool) (dl : Nat) (ex cd off : Int) (he1 : -2000000 ≤ ex) (he2 : ex ≤ 2000000) (hdl : dl ≤ 10000) (OK : World → Option Addr → Nat → Prop) (okB : ∀ v v' a k, OK v a k → Below v.heap.size v v' → OK v' a k)
 (kS : ∀ v : World, Below w.heap.size w v → Calls Tryz.prog 25 #[.slice ao n c] v fun e w' => ∃ a cc, e = .returned (.agg #[.int .i64 kd, .bool ng, .slice a dl cc, .int .i64 ex, .int .i64 cd, .int .i64 off]) ∧ OK w' a cc ∧ Below v.heap.size v w')
 (hcd : cd = 0) (hk : kd = 2) (h l : Int) (okb : Bool) (kP : ∀ v : World, Calls Tryz.prog 29 #[.int .i64 f, .agg #[.int .i64 4, .bool ng, .int .u64 0, .int .u64 0, .int .i64 0]] v fun e w' => e = .returned (.tuple #[.agg #[.int .u64 h, .int .u64 l], .bool okb]) ∧ Below v.heap.size v w') :
 Calls Tryz.prog 10 #[.int .i64 f, .slice ao n c] w fun e w' => e = .returned (.agg #[.int .u64 h, .int .u64 l, .int .i64 0, .int .i64 0, .int .i64 0]) ∧ Below w.heap.size w w' := by
 simp only [dv] at kE
 have hp1 : ¬ (F.p : Int) = 0 := by omega
 subst hcd
 subst hk
 have b0 : Below w.heap.size w (w.alloc (.cells zParP 27)) := (Below.refl _ _).alloc (Nat.le_refl _) _
 have c0 : Cls (w.alloc (.cells zParP 27)) w.heap.size zParP 27 := Cls.new _ _ _
 have fd := fld_dp
 go_enter Tryz.func10, Tryz.ntmps10
 go_wp2_with fail
 refine (kE _).mono ?_
 rintro e v1 ⟨rfl, hb⟩
 replace b0 := b0.trans (hb.mono b0.size)
 replace c0 := c0.below hb
 clear hb
 go_wp2_with fail
 refine (kS _ b0).mono ?_
 rintro e v2 ⟨a, cc, rfl, ho, hb⟩
 have cs := Cls.new v2 #[.int .i64 2, .bool ng, .slice a dl cc, .int .i64 ex, .int .i64 0, .int .i64 off] 65
 have hb2 : Below v2.heap.size v2 (v2.alloc (.cells #[.int .i64 2, .bool ng, .slice a dl cc, .int .i64 ex, .int .i64 0, .int .i64 off] 65)) := (Below.refl _ _).alloc (Nat.le_refl _) _
 replace ho := okB _ _ _ _ ho hb2
 replace hb := hb.trans (hb2.mono hb.size)
 replace b0 := b0.trans (hb.mono b0.size)
 replace c0 := c0.below hb
 clear hb hb2
 go_upto_region 4 with fail
 generalize (v2.alloc (.cells #[.int .i64 2, .bool ng, .slice a dl cc, .int .i64 ex, .int .i64 0, .int .i64 off] 65)) = v3 at *
 generalize v2.heap.size = gs at *
 have s0 := cs.cell 0 rfl
 have s1 := cs.cell 1 rfl
 have s2 := cs.cell 2 rfl
 have s3 := cs.cell 3 rfl
 have s4 := cs.cell 4 rfl
 have s5 := cs.cell 5 rfl
 have cD := Cls.new v3 #[.int .i64 2, .bool ng, .slice a dl cc, .int .i64 ex] 36
 have hb : Below v3.heap.size v3 (v3.alloc (.cells #[.int .i64 2, .bool ng, .slice a dl cc, .int .i64 ex] 36)) := (Below.refl _ _).alloc (Nat.le_refl _) _
 replace ho := okB _ _ _ _ ho hb
 replace b0 := b0.trans (hb.mono b0.size)
 replace c0 := c0.below hb
 clear hb
 go_upto_region 9 with fail
 generalize (v3.alloc (.cells #[.int .i64 2, .bool ng, .slice a dl cc, .int .i64 ex] 36)) = v4 at *
 generalize v3.heap.size = gd at *
 have t0 := cD.cell 0 rfl
 have t1 := cD.cell 1 rfl
 have t2 := cD.cell 2 rfl
 have t3 := cD.cell 3 rfl
 go_wp2_with fail
 refine (kP _).mono ?_
 rintro e v5 ⟨rfl, hb⟩
 have cW := Cls.new v5 #[.int .u64 h, .int .u64 l] 25
 have hb2 : Below v5.heap.size v5 (v5.alloc (.cells #[.int .u64 h, .int .u64 l] 25)) := (Below.refl _ _).alloc (Nat.le_refl _) _
 replace hb := hb.trans (hb2.mono hb.size)
 replace b0 := b0.trans (hb.mono b0.size)
 replace c0 := c0.below hb
 clear hb hb2 s0 s1 s2 s3 s4 s5 t0 t1 t2 t3
 go_upto_region 28 with fail
 generalize (v5.alloc (.cells #[.int .u64 h, .int .u64 l] 25)) = v6 at *
 generalize v5.heap.size = gw at *
 have y0 := cW.cell 0 rfl
 have y1 := cW.cell 1 rfl
 have RB := hid (below5p b0 _ (Nat.le_refl _) (.int .u64 h) (.int .u64 l) (.int .i64 0) (.int .i64 0) (.int .i64 0))
 have x0 := c0.cell 0 rfl
 have x1 := c0.cell 1 rfl
 have x2 := c0.cell 2 rfl
 have x3 := c0.cell 3 rfl
 have x4 := c0.cell 4 rfl
 have z0 := c0.frozen 0
 have z1 := c0.frozen 1
 have z2 := c0.frozen 2
 have z3 := c0.frozen 3
 have z4 := c0.frozen 4
 clear b0 c0
 go_wp2_with fail
 exact bodyPost_ret (v := .agg #[.int .u64 h, .int .u64 l, .int .i64 0, .int .i64 0, .int .i64 0]) (by simp [results, Tryz.results10, go_sem, x0, x1, x2, x3, x4]) rfl ⟨rfl, RB.out⟩

theorem sparse_nan (f : Int) (ao : Option Addr) (n c : Nat) (w : World) (F : M.Fm) (hp0 : F.p ≠ 0)
 (kE : ∀ v : World, Calls Tryz.prog 26 #[.int .i64 f] v fun e w' => e = .returned (dv F) ∧ Below v.heap.size v w')
 (kd : Int) (ng : Bool) (dl : Nat) (ex cd off : Int) (he1 : -2000000 ≤ ex) (he2 : ex ≤ 2000000) (hdl : dl ≤ 10000) (OK : World → Option Addr → Nat → Prop) (okB : ∀ v v' a k, OK v a k → Below v.heap.size v v' → OK v' a k)
 (kS : ∀ v : World, Below w.heap.size w v → Calls Tryz.prog 25 #[.slice ao n c] v fun e w' => ∃ a cc, e = .returned (.agg #[.int .i64 kd, .bool ng, .slice a dl cc, .int .i64 ex, .int .i64 cd, .int .i64 off]) ∧ OK w' a cc ∧ Below v.heap.size v w')
 (hcd : cd = 0) (hk : kd = 3) (h l : Int) (okb : Bool) (kP : ∀ v : World, Calls Tryz.prog 29 #[.int .i64 f, .agg #[.int .i64 5, .bool ng, .int .u64 0, .int .u64 0, .int .i64 0]] v fun e w' => e = .returned (.tuple #[.agg #[.int .u64 h, .int .u64 l], .bool okb]) ∧ Below v.heap.size v w') :
 Calls Tryz.prog 10 #[.int .i64 f, .slice ao n c] w fun e w' => e = .returned (.agg #[.int .u64 h, .int .u64 l, .int .i64 0, .int .i64 0, .int .i64 0]) ∧ Below w.heap.size w w' := by
 simp only [dv] at kE
 have hp1 : ¬ (F.p : Int) = 0 := by omega
 subst hcd
 subst hk
 have b0 : Below w.heap.size w (w.alloc (.cells zParP 27)) := (Below.refl _ _).alloc (Nat.le_refl _) _
 have c0 : Cls (w.alloc (.cells zParP 27)) w.heap.size zParP 27 := Cls.new _ _ _
 have fd := fld_dp
 go_enter Tryz.func10, Tryz.ntmps10
 go_wp2_with fail
 refine (kE _).mono ?_
 rintro e v1 ⟨rfl, hb⟩
 replace b0 := b0.trans (hb.mono b0.size)
 replace c0 := c0.below hb
 clear hb
 go_wp2_with fail
 refine (kS _ b0).mono ?_
 rintro e v2 ⟨a, cc, rfl, ho, hb⟩
 have cs := Cls.new v2 #[.int .i64 3, .bool ng, .slice a dl cc, .int .i64 ex, .int .i64 0, .int .i64 off] 65
 have hb2 : Below v2.heap.size v2 (v2.alloc (.cells #[.int .i64 3, .bool ng, .slice a dl cc, .int .i64 ex, .int .i64 0, .int .i64 off] 65)) := (Below.refl _ _).alloc (Nat.le_refl _) _
 replace ho := okB _ _ _ _ ho hb2
 replace hb := hb.trans (hb2.mono hb.size)
 replace b0 := b0.trans (hb.mono b0.size)
 replace c0 := c0.below hb
 clear hb hb2
 go_upto_region 4 with fail
 generalize (v2.alloc (.cells #[.int .i64 3, .bool ng, .slice a dl cc, .int .i64 ex, .int .i64 0, .int .i64 off] 65)) = v3 at *
 generalize v2.heap.size = gs at *
 have s0 := cs.cell 0 rfl
 have s1 := cs.cell 1 rfl
 have s2 := cs.cell 2 rfl
 have s3 := cs.cell 3 rfl
 have s4 := cs.cell 4 rfl
 have s5 := cs.cell 5 rfl
 have cD := Cls.new v3 #[.int .i64 3, .bool ng, .slice a dl cc, .int .i64 ex] 36
 have hb : Below v3.heap.size v3 (v3.alloc (.cells #[.int .i64 3, .bool ng, .slice a dl cc, .int .i64 ex] 36)) := (Below.refl _ _).alloc (Nat.le_refl _) _
 replace ho := okB _ _ _ _ ho hb
 replace b0 := b0.trans (hb.mono b0.size)
 replace c0 := c0.below hb
 clear hb
 go_upto_region 9 with fail
 generalize (v3.alloc (.cells #[.int .i64 3, .bool ng, .slice a dl cc, .int .i64 ex] 36)) = v4 at *
 generalize v3.heap.size = gd at *
 have t0 := cD.cell 0 rfl
 have t1 := cD.cell 1 rfl
 have t2 := cD.cell 2 rfl
 have t3 := cD.cell 3 rfl
 go_wp2_with fail
 refine (kP _).mono ?_
 rintro e v5 ⟨rfl, hb⟩
 have cW := Cls.new v5 #[.int .u64 h, .int .u64 l] 25
 have hb2 : Below v5.heap.size v5 (v5.alloc (.cells #[.int .u64 h, .int .u64 l] 25)) := (Below.refl _ _).alloc (Nat.le_refl _) _
 replace hb := hb.trans (hb2.mono hb.size)
 replace b0 := b0.trans (hb.mono b0.size)
 replace c0 := c0.below hb
 clear hb hb2 s0 s1 s2 s3 s4 s5 t0 t1 t2 t3
 go_upto_region 28 with fail
 generalize (v5.alloc (.cells #[.int .u64 h, .int .u64 l] 25)) = v6 at *
 generalize v5.heap.size = gw at *
 have y0 := cW.cell 0 rfl
 have y1 := cW.cell 1 rfl
 have RB := hid (below5p b0 _ (Nat.le_refl _) (.int .u64 h) (.int .u64 l) (.int .i64 0) (.int .i64 0) (.int .i64 0))
 have x0 := c0.cell 0 rfl
 have x1 := c0.cell 1 rfl
 have x2 := c0.cell 2 rfl
 have x3 := c0.cell 3 rfl
 have x4 := c0.cell 4 rfl
 have z0 := c0.frozen 0
 have z1 := c0.frozen 1
 have z2 := c0.frozen 2
 have z3 := c0.frozen 3
 have z4 := c0.frozen 4
 clear b0 c0
 go_wp2_with fail
 exact bodyPost_ret (v := .agg #[.int .u64 h, .int .u64 l, .int .i64 0, .int .i64 0, .int .i64 0]) (by simp [results, Tryz.results10, go_sem, x0, x1, x2, x3, x4]) rfl ⟨rfl, RB.out⟩

theorem sparse_zero (f : Int) (ao : Option Addr) (n c : Nat) (w : World) (F : M.Fm) (hp0 : F.p ≠ 0)
 (kE : ∀ v : World, Calls Tryz.prog 26 #[.int .i64 f] v fun e w' => e = .returned (dv F) ∧ Below v.heap.size v w')
 (kd : Int) (ng : Bool) (dl : Nat) (ex cd off : Int) (he1 : -2000000 ≤ ex) (he2 : ex ≤ 2000000) (hdl : dl ≤ 10000) (OK : World → Option Addr → Nat → Prop) (okB : ∀ v v' a k, OK v a k → Below v.heap.size v v' → OK v' a k)
 (kS : ∀ v : World, Below w.heap.size w v → Calls Tryz.prog 25 #[.slice ao n c] v fun e w' => ∃ a cc, e = .returned (.agg #[.int .i64 kd, .bool ng, .slice a dl cc, .int .i64 ex, .int .i64 cd, .int .i64 off]) ∧ OK w' a cc ∧ Below v.heap.size v w')
 (hcd : cd = 0) (hk : kd ≠ 2) (hk3 : kd ≠ 3) (hd0 : dl = 0) (h l : Int) (okb : Bool) (kP : ∀ v : World, Calls Tryz.prog 29 #[.int .i64 f, .agg #[.int .i64 1, .bool ng, .int .u64 0, .int .u64 0, .int .i64 0]] v fun e w' => e = .returned (.tuple #[.agg #[.int .u64 h, .int .u64 l], .bool okb]) ∧ Below v.heap.size v w') :
 Calls Tryz.prog 10 #[.int .i64 f, .slice ao n c] w fun e w' => e = .returned (.agg #[.int .u64 h, .int .u64 l, .int .i64 0, .int .i64 0, .int .i64 0]) ∧ Below w.heap.size w w' := by
 simp only [dv] at kE
 have hp1 : ¬ (F.p : Int) = 0 := by omega
 subst hcd
 subst hd0
 have b0 : Below w.heap.size w (w.alloc (.cells zParP 27)) := (Below.refl _ _).alloc (Nat.le_refl _) _
 have c0 : Cls (w.alloc (.cells zParP 27)) w.heap.size zParP 27 := Cls.new _ _ _
 have fd := fld_dp
 go_enter Tryz.func10, Tryz.ntmps10
 go_wp2_with fail
 refine (kE _).mono ?_
 rintro e v1 ⟨rfl, hb⟩
 replace b0 := b0.trans (hb.mono b0.size)
 replace c0 := c0.below hb
 clear hb
 go_wp2_with fail
 refine (kS _ b0).mono ?_
 rintro e v2 ⟨a, cc, rfl, ho, hb⟩
 have cs := Cls.new v2 #[.int .i64 kd, .bool ng, .slice a 0 cc, .int .i64 ex, .int .i64 0, .int .i64 off] 65
 have hb2 : Below v2.heap.size v2 (v2.alloc (.cells #[.int .i64 kd, .bool ng, .slice a 0 cc, .int .i64 ex, .int .i64 0, .int .i64 off] 65)) := (Below.refl _ _).alloc (Nat.le_refl _) _
 replace ho := okB _ _ _ _ ho hb2
 replace hb := hb.trans (hb2.mono hb.size)
 replace b0 := b0.trans (hb.mono b0.size)
 replace c0 := c0.below hb
 clear hb hb2
 go_upto_region 4 with fail
 generalize (v2.alloc (.cells #[.int .i64 kd, .bool ng, .slice a 0 cc, .int .i64 ex, .int .i64 0, .int .i64 off] 65)) = v3 at *
 generalize v2.heap.size = gs at *
 have s0 := cs.cell 0 rfl
 have s1 := cs.cell 1 rfl
 have s2 := cs.cell 2 rfl
 have s3 := cs.cell 3 rfl
 have s4 := cs.cell 4 rfl
 have s5 := cs.cell 5 rfl
 have cD := Cls.new v3 #[.int .i64 kd, .bool ng, .slice a 0 cc, .int .i64 ex] 36
 have hb : Below v3.heap.size v3 (v3.alloc (.cells #[.int .i64 kd, .bool ng, .slice a 0 cc, .int .i64 ex] 36)) := (Below.refl _ _).alloc (Nat.le_refl _) _
 replace ho := okB _ _ _ _ ho hb
 replace b0 := b0.trans (hb.mono b0.size)
 replace c0 := c0.below hb
 clear hb
 go_upto_region 9 with fail
 generalize (v3.alloc (.cells #[.int .i64 kd, .bool ng, .slice a 0 cc, .int .i64 ex] 36)) = v4 at *
 generalize v3.heap.size = gd at *
 have t0 := cD.cell 0 rfl
 have t1 := cD.cell 1 rfl
 have t2 := cD.cell 2 rfl
 have t3 := cD.cell 3 rfl
 go_wp2_with fail
 refine (kP _).mono ?_
 rintro e v5 ⟨rfl, hb⟩
 have cW := Cls.new v5 #[.int .u64 h, .int .u64 l] 25
 have hb2 : Below v5.heap.size v5 (v5.alloc (.cells #[.int .u64 h, .int .u64 l] 25)) := (Below.refl _ _).alloc (Nat.le_refl _) _
 replace hb := hb.trans (hb2.mono hb.size)
 replace b0 := b0.trans (hb.mono b0.size)
 replace c0 := c0.below hb
 clear hb hb2 s0 s1 s2 s3 s4 s5 t0 t1 t2 t3
 go_upto_region 28 with fail
 generalize (v5.alloc (.cells #[.int .u64 h, .int .u64 l] 25)) = v6 at *
 generalize v5.heap.size = gw at *
 have y0 := cW.cell 0 rfl
 have y1 := cW.cell 1 rfl
 have RB := hid (below5p b0 _ (Nat.le_refl _) (.int .u64 h) (.int .u64 l) (.int .i64 0) (.int .i64 0) (.int .i64 0))
 have x0 := c0.cell 0 rfl
 have x1 := c0.cell 1 rfl
 have x2 := c0.cell 2 rfl
 have x3 := c0.cell 3 rfl
 have x4 := c0.cell 4 rfl
 have z0 := c0.frozen 0
 have z1 := c0.frozen 1
 have z2 := c0.frozen 2
 have z3 := c0.frozen 3
 have z4 := c0.frozen 4
 clear b0 c0
 go_wp2_with fail
 exact bodyPost_ret (v := .agg #[.int .u64 h, .int .u64 l, .int .i64 0, .int .i64 0, .int .i64 0]) (by simp [results, Tryz.results10, go_sem, x0, x1, x2, x3, x4]) rfl ⟨rfl, RB.out⟩

end Go.Proofs.YtjffpclidcloeaaGreatDoor
