import Derived.Lib.OthersKept
import Derived.Laws.RangeAny
import Derived.WalkSmall
import Derived.Test.YtdfljbpcjkbflaaGreatDoorrHAQ
import Derived.Test.YtdfljbpcjkbflaaGreatDoorrPe2
set_option maxHeartbeats 4000000
set_option maxRecDepth 10000
namespace Go.Proofs.YtdfljbpcjkbflaaGreatDoor
open Go.RowKit
set_option linter.unusedVariables false
set_option maxRecDepth 100000
theorem nN {B : Nat} {w W : World} (h : Below B w W) (g : Nat) (hg : B ≤ g) (a b c d e : Value) : Below B w (((((W.setCell ⟨g, 0, none⟩ a).setCell ⟨g, 1, none⟩ b).setCell ⟨g, 2, none⟩ c).setCell ⟨g, 3, none⟩ d).setCell ⟨g, 4, none⟩ e) :=
 ((((h.setCell (p := ⟨g, 0, none⟩) hg _).setCell (p := ⟨g, 1, none⟩) hg _).setCell (p := ⟨g, 2, none⟩) hg _).setCell (p := ⟨g, 3, none⟩) hg _).setCell (p := ⟨g, 4, none⟩) hg _

theorem fC (f : Int) (ao : Option Addr) (n c : Nat) (w : World) (kd : Int) (ng : Bool) (dl : Nat) (ex h l cd off fl : Int)
 (kS : ∀ v : World, Below w.heap.size w v → Calls Tryz.prog 16 #[.int .i64 f, .slice ao n c] v fun e w' => ∃ a cc, e = .returned (.tuple #[.agg #[.int .i64 kd, .bool ng, .slice a dl cc, .int .i64 ex], .agg #[.int .u64 h, .int .u64 l, .int .i64 cd, .int .i64 off, .int .i64 fl], .bool true]) ∧ Below v.heap.size v w') :
 Calls Tryz.prog 7 #[.int .i64 f, .slice ao n c] w fun e w' => e = .returned (.agg #[.int .u64 h, .int .u64 l, .int .i64 cd, .int .i64 off, .int .i64 fl]) ∧ Below w.heap.size w w' := by
 have b0 : Below w.heap.size w (w.alloc (.cells iI 32)) := (Below.refl _ _).alloc (Nat.le_refl _) _
 have c0 : Cls (w.alloc (.cells iI 32)) w.heap.size iI 32 := Cls.new _ _ _
 go_enter Tryz.func7, Tryz.ntmps7
 go_wp2_with fail
 refine (kS _ b0).mono ?_
 rintro e v1 ⟨a, cc, rfl, hb⟩
 obtain ⟨cx, cp, hb2⟩ := Cls.new2 v1 #[.int .i64 kd, .bool ng, .slice a dl cc, .int .i64 ex] #[.int .u64 h, .int .u64 l, .int .i64 cd, .int .i64 off, .int .i64 fl] 46 32
 replace hb := hb.trans (hb2.mono hb.size)
 replace b0 := b0.trans (hb.mono b0.size)
 replace c0 := c0.below hb
 clear hb hb2
 go_upto_region 2 with fail
 generalize ((v1.alloc (.cells #[.int .i64 kd, .bool ng, .slice a dl cc, .int .i64 ex] 46)).alloc (.cells #[.int .u64 h, .int .u64 l, .int .i64 cd, .int .i64 off, .int .i64 fl] 32)) = v2 at *
 generalize v1.heap.size = gx at *
 have RB := hid (nN b0 _ (Nat.le_refl _) (.int .u64 h) (.int .u64 l) (.int .i64 cd) (.int .i64 off) (.int .i64 fl))
 have x0 := c0.cell 0 rfl
 have x1 := c0.cell 1 rfl
 have x2 := c0.cell 2 rfl
 have x3 := c0.cell 3 rfl
 have x4 := c0.cell 4 rfl
 have z0 := c0.frozen 0
 have z1 := c0.frozen 1
 have z2 := c0.frozen 2
 have z3 := c0.frozen 3
 have z4 := c0.frozen 4
 have y0 := cp.cell 0 rfl
 have y1 := cp.cell 1 rfl
 have y2 := cp.cell 2 rfl
 have y3 := cp.cell 3 rfl
 have y4 := cp.cell 4 rfl
 clear b0 c0 cp
 go_wp2_with fail
 exact bodyPost_ret (v := .agg #[.int .u64 h, .int .u64 l, .int .i64 cd, .int .i64 off, .int .i64 fl]) (by simp [results, Tryz.results7, go_sem, x0, x1, x2, x3, x4]) rfl ⟨rfl, RB.out⟩

theorem xL (F : M.Fm) (ng : Bool) (a b : Option Addr) (n m c d : Nat) (h l fl : Int) (ok : Bool) (w : World)
 (kR : ∀ v : World, Below w.heap.size w v → Calls Tryz.prog 96 #[dv F, .bool ng, .slice a n c, .slice b m d] v fun e w' => e = .returned (.agg #[.int .u64 h, .int .u64 l, .int .i64 fl, .bool ok]) ∧ Below v.heap.size v w') :
 Calls Tryz.prog 52 #[dv F, .bool ng, .agg #[.slice a n c, .slice b m d]] w fun e w' => e = .returned (.agg #[.int .u64 h, .int .u64 l, .int .i64 0, .int .i64 0, .int .i64 fl]) ∧ Below w.heap.size w w' := by
 simp only [dv] at kR ⊢
 obtain ⟨_, _, cr, b0⟩ := Cls.new3 w #[.int .i64 (F.p : Int), .int .i64 (1 - (F.emax : Int)), .int .i64 (F.emax : Int), .int .i64 (F.wd : Int), .int .i64 (F.e : Int), .bool F.x] #[.slice a n c, .slice b m d] iI 51 73 32
 go_enter Tryz.func52, Tryz.ntmps52
 go_wp2_with fail
 refine (kR _ b0).mono ?_
 rintro e v1 ⟨rfl, hb⟩
 have cx := Cls.new v1 #[.int .u64 h, .int .u64 l, .int .i64 fl, .bool ok] 133
 have hb2 : Below v1.heap.size v1 (v1.alloc (.cells #[.int .u64 h, .int .u64 l, .int .i64 fl, .bool ok] 133)) := (Below.refl _ _).alloc (Nat.le_refl _) _
 replace hb := hb.trans (hb2.mono hb.size)
 replace b0 := b0.trans (hb.mono b0.size)
 replace cr := cr.below hb
 clear hb hb2
 go_upto_region 2 with fail
 generalize (v1.alloc (.cells #[.int .u64 h, .int .u64 l, .int .i64 fl, .bool ok] 133)) = v2 at *
 generalize v1.heap.size = gx at *
 have RB := hid (nN b0 (w.heap.size + 1 + 1) (by omega) (.int .u64 h) (.int .u64 l) (.int .i64 0) (.int .i64 0) (.int .i64 fl))
 have x0 := cr.cell 0 rfl
 have x1 := cr.cell 1 rfl
 have x2 := cr.cell 2 rfl
 have x3 := cr.cell 3 rfl
 have x4 := cr.cell 4 rfl
 have z0 := cr.frozen 0
 have z1 := cr.frozen 1
 have z2 := cr.frozen 2
 have z3 := cr.frozen 3
 have z4 := cr.frozen 4
 have y0 := cx.cell 0 rfl
 have y1 := cx.cell 1 rfl
 have y2 := cx.cell 2 rfl
 have y3 := cx.cell 3 rfl
 clear b0 cr cx
 go_wp2_with fail
 exact bodyPost_ret (v := .agg #[.int .u64 h, .int .u64 l, .int .i64 0, .int .i64 0, .int .i64 fl]) (by simp [results, Tryz.results52, go_sem, x0, x1, x2, x3, x4]) rfl ⟨rfl, RB.out⟩

theorem jE (a b a' b' : Option Addr) (c d n m c' d' n' m' N De N' De' : Nat) (w : World) (hl : (L N).length = n) (hm : (L De).length = m) (hl' : (L N').length = n') (hm' : (L De').length = m') (hn : n ≤ 1048576) (hn2 : m ≤ 1048576) (hn' : n' ≤ 1048576) (hn2' : m' ≤ 1048576)
 (ra : Rd w a (L N)) (rb : Rd w b (L De)) (ra' : Rd w a' (L N')) (rb' : Rd w b' (L De')) :
 Calls Tryz.prog 53 #[.agg #[.slice a n c, .slice b m d], .agg #[.slice a' n' c', .slice b' m' d']] w fun e w' => RR w w' e (N * N') (De * De') := by
 go_enter Tryz.func53, Tryz.ntmps53
 go_wp2_with fail
 have b1 : Below w.heap.size w (((w.alloc (.cells #[.slice a n c, .slice b m d] 73)).alloc (.cells #[.slice a' n' c', .slice b' m' d'] 73)).alloc (.cells #[.slice none 0 0, .slice none 0 0] 73)) := (((Below.refl _ _).alloc (Nat.le_refl _) _).alloc (by simp) _).alloc (by simp; omega) _
 generalize hw1 : (((w.alloc (.cells #[.slice a n c, .slice b m d] 73)).alloc (.cells #[.slice a' n' c', .slice b' m' d'] 73)).alloc (.cells #[.slice none 0 0, .slice none 0 0] 73)) = w1 at *
 have c0 : w1.cell? ⟨w.heap.size, 0, none⟩ = some (.slice a n c) := by rw [← hw1]; simp [go_sem]
 have c1 : w1.cell? ⟨w.heap.size, 1, none⟩ = some (.slice b m d) := by rw [← hw1]; simp [go_sem]
 have c2 : w1.cell? ⟨w.heap.size + 1, 0, none⟩ = some (.slice a' n' c') := by rw [← hw1]; simp [go_sem]
 have c3 : w1.cell? ⟨w.heap.size + 1, 1, none⟩ = some (.slice b' m' d') := by rw [← hw1]; simp [go_sem]
 have r0 : w1.cell? ⟨w.heap.size + 1 + 1, 0, none⟩ = some (.slice none 0 0) := by rw [← hw1]; simp [go_sem]
 have r1 : w1.cell? ⟨w.heap.size + 1 + 1, 1, none⟩ = some (.slice none 0 0) := by rw [← hw1]; simp [go_sem]
 have z0 : w1.frozen? ⟨w.heap.size + 1 + 1, 0, none⟩ = false := by rw [← hw1]; simp [go_sem]
 have z1 : w1.frozen? ⟨w.heap.size + 1 + 1, 1, none⟩ = false := by rw [← hw1]; simp [go_sem]
 have n1 : w.heap.size + 3 ≤ w1.heap.size := by rw [← hw1]; simp
 clear hw1
 have k1 : ∀ v, Below w1.heap.size w1 v → Calls Tryz.prog 97 #[.slice a n c, .slice a' n' c'] v fun e v' => ∃ a1 c1, e = .returned (.slice a1 (L (N * N')).length c1) ∧ v'.ownsRow w1.heap.size 23 1 (.slice a1 (L (N * N')).length c1) (L (N * N')).length (U (L (N * N'))) ∧ Below w1.heap.size w1 v' := fun v hv => (jH a a' n n' c c' N N' v hl hl' hn hn' ((ra.below b1).below hv) ((ra'.below b1).below hv)).mono fun e v' ⟨a1, c1, he, ho, hb⟩ => ⟨a1, c1, he, aO ho hv.size, cB hv hb⟩
 have k2 : ∀ v a1 c1, Below w1.heap.size w1 v → v.ownsRow w1.heap.size 23 1 (.slice a1 (L (N * N')).length c1) (L (N * N')).length (U (L (N * N'))) → Calls Tryz.prog 97 #[.slice b m d, .slice b' m' d'] v fun e v' => ∃ a2 c2, e = .returned (.slice a2 (L (De * De')).length c2) ∧ (∀ x y, Rd ((v'.setCell ⟨w.heap.size + 1 + 1, 0, none⟩ x).setCell ⟨w.heap.size + 1 + 1, 1, none⟩ y) a1 (L (N * N')) ∧ Rd ((v'.setCell ⟨w.heap.size + 1 + 1, 0, none⟩ x).setCell ⟨w.heap.size + 1 + 1, 1, none⟩ y) a2 (L (De * De'))) ∧ v'.cell? ⟨w.heap.size + 1 + 1, 0, none⟩ = some (.slice none 0 0) ∧ v'.cell? ⟨w.heap.size + 1 + 1, 1, none⟩ = some (.slice none 0 0) ∧ v'.frozen? ⟨w.heap.size + 1 + 1, 0, none⟩ = false ∧ v'.frozen? ⟨w.heap.size + 1 + 1, 1, none⟩ = false ∧ Below w1.heap.size w1 v' := fun v a1 c1 hv ho1 => (jH b b' m m' d d' De De' v hm hm' hn2 hn2' ((rb.below b1).below hv) ((rb'.below b1).below hv)).mono fun e v' ⟨a2, c2, he, ho, hb⟩ => ⟨a2, c2, he, fun x y => ⟨fB (fM ho1 hb) (by omega) x y, fB ho (by have := hv.size; omega) x y⟩, ((cB hv hb).cell (by simp only; omega)).trans r0, ((cB hv hb).cell (by simp only; omega)).trans r1, ((cB hv hb).frozen (by simp only; omega)).trans z0, ((cB hv hb).frozen (by simp only; omega)).trans z1, cB hv hb⟩
 have D1 : ∀ v, Below w1.heap.size w1 v → (fun v => v.cell? ⟨w.heap.size, 0, none⟩ = some (.slice a n c) ∧ v.cell? ⟨w.heap.size, 1, none⟩ = some (.slice b m d) ∧ v.cell? ⟨w.heap.size + 1, 0, none⟩ = some (.slice a' n' c') ∧ v.cell? ⟨w.heap.size + 1, 1, none⟩ = some (.slice b' m' d')) v := fun v hv => ⟨(hv.cell (by simp only; omega)).trans c0, (hv.cell (by simp only; omega)).trans c1, (hv.cell (by simp only; omega)).trans c2, (hv.cell (by simp only; omega)).trans c3⟩
 have D2 : ∀ v x y, Below w1.heap.size w1 v → (fun v => v.cell? ⟨w.heap.size, 0, none⟩ = some (.slice a n c) ∧ v.cell? ⟨w.heap.size, 1, none⟩ = some (.slice b m d) ∧ v.cell? ⟨w.heap.size + 1, 0, none⟩ = some (.slice a' n' c') ∧ v.cell? ⟨w.heap.size + 1, 1, none⟩ = some (.slice b' m' d')) ((v.setCell ⟨w.heap.size + 1 + 1, 0, none⟩ x).setCell ⟨w.heap.size + 1 + 1, 1, none⟩ y) := fun v x y hv => ⟨((mZ v x y (by omega)).trans (hv.cell (by simp only; omega))).trans c0, ((mZ v x y (by omega)).trans (hv.cell (by simp only; omega))).trans c1, ((mZ v x y (by omega)).trans (hv.cell (by simp only; omega))).trans c2, ((mZ v x y (by omega)).trans (hv.cell (by simp only; omega))).trans c3⟩
 clear c0 c1 c2 c3 r0 r1 z0 z1 ra rb ra' rb' hl hm hl' hm'
 go_region_held3 (fun v => v.cell? ⟨w.heap.size, 0, none⟩ = some (.slice a n c) ∧ v.cell? ⟨w.heap.size, 1, none⟩ = some (.slice b m d) ∧ v.cell? ⟨w.heap.size + 1, 0, none⟩ = some (.slice a' n' c') ∧ v.cell? ⟨w.heap.size + 1, 1, none⟩ = some (.slice b' m' d')) (first | exact D1 _ (by assumption) | exact D1 _ ((Below.refl _ _).drew) | exact D2 _ _ _ (by assumption))
  (first | (have hq := hb1; go_at_call 97; refine (k2 _ _ _ hq ho1).mono ?_; rintro e w' ⟨ao2, ca2, rfl, hRd, f0, f1, f2, f3, hb2⟩; clear hb1 hq ho1) | (go_at_call 97; refine (k1 _ (Below.refl _ _).drew).mono ?_; rintro e w' ⟨ao1, ca1, rfl, ho1, hb1⟩))
 all_goals go_wp2_with fail
 all_goals exact bodyPost_ret (v := .agg #[.slice ao1 (L (N * N')).length ca1, .slice ao2 (L (De * De')).length ca2]) (by simp [results, Tryz.results53, go_sem, f0, f1]) rfl ⟨ao1, ca1, ao2, ca2, rfl, (hRd _ _).1, (hRd _ _).2, ((b1.trans (hb2.mono b1.size)).setCell (by simp only; omega) _).setCell (by simp only; omega) _⟩

theorem wO (F : M.Fm) (kd : Int) (ng : Bool) (a : Option Addr) (dl cc : Nat) (ex E : Int) (h l cd off fl : Int) (w : World) (D P Q : Nat) (hE : E = max (min ex 5200) (-5200 - (dl : Int))) (hdl : dl ≤ 10000) (lD : (L D).length ≤ 1048576) (lP : (L P).length ≤ 1048576) (lQ : (L Q).length ≤ 1048576)
 (kN : ∀ v : World, Below w.heap.size w v → Calls Tryz.prog 51 #[.slice a dl cc] v fun e w' => Ret v w' e (L D))
 (kT : ∀ v : World, Calls Tryz.prog 54 #[.int .i64 E] v fun e w' => RR v w' e P Q)
 (kP : ∀ (v : World) (a1 b1 : Option Addr) (c1 d1 : Nat), Rd v a1 (L (D * P)) → Rd v b1 (L Q) → Calls Tryz.prog 52 #[dv F, .bool ng, .agg #[.slice a1 (L (D * P)).length c1, .slice b1 (L Q).length d1]] v fun e w' => e = .returned (.agg #[.int .u64 h, .int .u64 l, .int .i64 cd, .int .i64 off, .int .i64 fl]) ∧ Below v.heap.size v w') :
 Calls Tryz.prog 17 #[.agg #[.int .i64 kd, .bool ng, .slice a dl cc, .int .i64 ex], dv F] w fun e w' => e = .returned (.agg #[.int .u64 h, .int .u64 l, .int .i64 cd, .int .i64 off, .int .i64 fl]) ∧ Below w.heap.size w w' := by
 simp only [dv] at kP ⊢
 have HE := hid hE; clear hE
 obtain ⟨cx, cd', cr, b0⟩ := Cls.new3 w #[.int .i64 kd, .bool ng, .slice a dl cc, .int .i64 ex] #[.int .i64 (F.p : Int), .int .i64 (1 - (F.emax : Int)), .int .i64 (F.emax : Int), .int .i64 (F.wd : Int), .int .i64 (F.e : Int), .bool F.x] iI 46 51 32
 go_enter Tryz.func17, Tryz.ntmps17
 go_wp2_with fail
 rw [← HE.out]
 refine (kN _ b0).mono ?_
 rintro e v1 ⟨a1, c1, rfl, ho, hb⟩
 replace b0 := b0.trans (hb.mono b0.size)
 replace cx := cx.below hb
 replace cd' := cd'.below hb
 replace cr := cr.below hb
 have rA := Rd.own ho
 clear ho hb
 go_upto_region 4 with fail
 obtain ⟨co, cv, hb⟩ := Cls.new2 v1 #[.int .u64 1] #[.slice a1 (L D).length c1, .slice (some ⟨v1.heap.size, 0, none⟩) 1 1] 23 73
 have lgv : w.heap.size + 1 + 1 < v1.heap.size := cr.lt
 replace b0 := b0.trans (hb.mono b0.size)
 replace cx := cx.below hb
 replace cd' := cd'.below hb
 replace cr := cr.below hb
 replace rA := rA.below hb
 clear hb
 generalize ((v1.alloc (.cells #[.int .u64 1] 23)).alloc (.cells #[.slice a1 (L D).length c1, .slice (some ⟨v1.heap.size, 0, none⟩) 1 1] 73)) = v2 at *
 generalize v1.heap.size = gv at *
 have rO : Rd v2 (some ⟨gv, 0, none⟩) (L 1) := by
  rw [iP]
  intro _
  refine ⟨gv, 0, rfl, fun i hi => ?_⟩
  have hi' : i = 0 := by simp at hi; omega
  subst hi'
  exact co.cell 0 rfl
 have lO : (L 1).length = 1 := by rw [iP]; rfl
 have D1 : ∀ v, Below v2.heap.size v2 v → (fun v : World => v.cell? ⟨w.heap.size, 1, none⟩ = some (.bool ng) ∧ v.cell? ⟨w.heap.size + 1, 0, none⟩ = some (.int .i64 (F.p : Int)) ∧ v.cell? ⟨w.heap.size + 1, 1, none⟩ = some (.int .i64 (1 - (F.emax : Int))) ∧ v.cell? ⟨w.heap.size + 1, 2, none⟩ = some (.int .i64 (F.emax : Int)) ∧ v.cell? ⟨w.heap.size + 1, 3, none⟩ = some (.int .i64 (F.wd : Int)) ∧ v.cell? ⟨w.heap.size + 1, 4, none⟩ = some (.int .i64 (F.e : Int)) ∧ v.cell? ⟨w.heap.size + 1, 5, none⟩ = some (.bool F.x) ∧ v.cell? ⟨gv + 1, 0, none⟩ = some (.slice a1 (L D).length c1) ∧ v.cell? ⟨gv + 1, 1, none⟩ = some (.slice (some ⟨gv, 0, none⟩) 1 1)) v := fun v hv => ⟨(cx.below hv).cell 1 rfl, (cd'.below hv).cell 0 rfl, (cd'.below hv).cell 1 rfl, (cd'.below hv).cell 2 rfl, (cd'.below hv).cell 3 rfl, (cd'.below hv).cell 4 rfl, (cd'.below hv).cell 5 rfl, (cv.below hv).cell 0 rfl, (cv.below hv).cell 1 rfl⟩
 have K3 : ∀ (v : World) u4 u5 u6 u7 u8, (fun v : World => v.cell? ⟨w.heap.size, 1, none⟩ = some (.bool ng) ∧ v.cell? ⟨w.heap.size + 1, 0, none⟩ = some (.int .i64 (F.p : Int)) ∧ v.cell? ⟨w.heap.size + 1, 1, none⟩ = some (.int .i64 (1 - (F.emax : Int))) ∧ v.cell? ⟨w.heap.size + 1, 2, none⟩ = some (.int .i64 (F.emax : Int)) ∧ v.cell? ⟨w.heap.size + 1, 3, none⟩ = some (.int .i64 (F.wd : Int)) ∧ v.cell? ⟨w.heap.size + 1, 4, none⟩ = some (.int .i64 (F.e : Int)) ∧ v.cell? ⟨w.heap.size + 1, 5, none⟩ = some (.bool F.x) ∧ v.cell? ⟨gv + 1, 0, none⟩ = some (.slice a1 (L D).length c1) ∧ v.cell? ⟨gv + 1, 1, none⟩ = some (.slice (some ⟨gv, 0, none⟩) 1 1)) v → (fun v : World => v.cell? ⟨w.heap.size, 1, none⟩ = some (.bool ng) ∧ v.cell? ⟨w.heap.size + 1, 0, none⟩ = some (.int .i64 (F.p : Int)) ∧ v.cell? ⟨w.heap.size + 1, 1, none⟩ = some (.int .i64 (1 - (F.emax : Int))) ∧ v.cell? ⟨w.heap.size + 1, 2, none⟩ = some (.int .i64 (F.emax : Int)) ∧ v.cell? ⟨w.heap.size + 1, 3, none⟩ = some (.int .i64 (F.wd : Int)) ∧ v.cell? ⟨w.heap.size + 1, 4, none⟩ = some (.int .i64 (F.e : Int)) ∧ v.cell? ⟨w.heap.size + 1, 5, none⟩ = some (.bool F.x) ∧ v.cell? ⟨gv + 1, 0, none⟩ = some (.slice a1 (L D).length c1) ∧ v.cell? ⟨gv + 1, 1, none⟩ = some (.slice (some ⟨gv, 0, none⟩) 1 1)) (((((v.setCell ⟨w.heap.size + 1 + 1, 0, none⟩ u4).setCell ⟨w.heap.size + 1 + 1, 1, none⟩ u5).setCell ⟨w.heap.size + 1 + 1, 2, none⟩ u6).setCell ⟨w.heap.size + 1 + 1, 3, none⟩ u7).setCell ⟨w.heap.size + 1 + 1, 4, none⟩ u8) := fun v u4 u5 u6 u7 u8 h => ⟨(bH (by omega)).trans h.1, (bH (by omega)).trans h.2.1, (bH (by omega)).trans h.2.2.1, (bH (by omega)).trans h.2.2.2.1, (bH (by omega)).trans h.2.2.2.2.1, (bH (by omega)).trans h.2.2.2.2.2.1, (bH (by omega)).trans h.2.2.2.2.2.2.1, (bH (by omega)).trans h.2.2.2.2.2.2.2.1, (bH (by omega)).trans h.2.2.2.2.2.2.2.2⟩
 have hdr : Below v2.heap.size v2 v2.drew := (Below.refl _ _).drew
 go_region_held3 (fun v : World => v.cell? ⟨w.heap.size, 1, none⟩ = some (.bool ng) ∧ v.cell? ⟨w.heap.size + 1, 0, none⟩ = some (.int .i64 (F.p : Int)) ∧ v.cell? ⟨w.heap.size + 1, 1, none⟩ = some (.int .i64 (1 - (F.emax : Int))) ∧ v.cell? ⟨w.heap.size + 1, 2, none⟩ = some (.int .i64 (F.emax : Int)) ∧ v.cell? ⟨w.heap.size + 1, 3, none⟩ = some (.int .i64 (F.wd : Int)) ∧ v.cell? ⟨w.heap.size + 1, 4, none⟩ = some (.int .i64 (F.e : Int)) ∧ v.cell? ⟨w.heap.size + 1, 5, none⟩ = some (.bool F.x) ∧ v.cell? ⟨gv + 1, 0, none⟩ = some (.slice a1 (L D).length c1) ∧ v.cell? ⟨gv + 1, 1, none⟩ = some (.slice (some ⟨gv, 0, none⟩) 1 1)) (first | (with_reducible exact D1 _ (by assumption)) | (with_reducible exact K3 _ _ _ _ _ _ (D1 _ (by assumption))))
  (first
    | (go_at_call 54; refine (kT _).mono ?_; rintro e t1 ⟨ta, tc, tb, td, rfl, rT, rQ, hbt'⟩; have hb1 := hdr.trans (hbt'.mono (Nat.le_refl _)); clear hbt')
    | (go_at_call 53; refine (jE a1 (some ⟨gv, 0, none⟩) ta tb c1 1 (L D).length 1 tc td (L P).length (L Q).length D 1 P Q _ rfl lO rfl rfl lD (by omega) lP lQ (rA.below hb1) (rO.below hb1) rT rQ).mono ?_; rintro e t2 ⟨ma, mc, mb, md, he, rM, rN, hbt'⟩; rw [Nat.one_mul] at he rN; subst he; have hb2 := hb1.trans (hbt'.mono hb1.size); clear hbt' hb1)
    | (go_at_call 52; refine (kP _ _ _ _ _ rM rN).mono ?_; rintro e t3 ⟨rfl, hbt'⟩; have hb3 := hb2.trans (hbt'.mono hb2.size); clear hbt' hb2; have r3 := cr.below hb3; have x0 := r3.cell 0 rfl; have x1 := r3.cell 1 rfl; have x2 := r3.cell 2 rfl; have x3 := r3.cell 3 rfl; have x4 := r3.cell 4 rfl; have z0 := r3.frozen 0; have z1 := r3.frozen 1; have z2 := r3.frozen 2; have z3 := r3.frozen 3; have z4 := r3.frozen 4))
 all_goals go_wp2_with fail
 all_goals exact bodyPost_ret (v := .agg #[.int .u64 h, .int .u64 l, .int .i64 cd, .int .i64 off, .int .i64 fl]) (by simp [results, Tryz.results17, go_sem, x0, x1, x2, x3, x4]) rfl ⟨rfl, nN (b0.trans (hb3.mono b0.size)) _ (by omega) _ _ _ _ _⟩

theorem AF (f : Int) (ao : Option Addr) (n c : Nat) (w : World) (hm : Fmt w) (F : M.Fm) (kd : Int) (ng : Bool) (dl : Nat) (ex h l cd off fl : Int) (OK : World → Option Addr → Nat → Prop) (okB : ∀ v v' a k, OK v a k → Below v.heap.size v v' → OK v' a k)
 (kS : ∀ v : World, Below w.heap.size w v → Calls Tryz.prog 16 #[.int .i64 f, .slice ao n c] v fun e w' => ∃ a cc, e = .returned (.tuple #[.agg #[.int .i64 kd, .bool ng, .slice a dl cc, .int .i64 ex], .agg #[.int .u64 0, .int .u64 0, .int .i64 0, .int .i64 0, .int .i64 0], .bool false]) ∧ OK w' a cc ∧ Below v.heap.size v w')
 (kE : ∀ v : World, Fmt v → Calls Tryz.prog 18 #[.int .i64 f] v fun e w' => e = .returned (dv F) ∧ Below v.heap.size v w')
 (kR : ∀ (v : World) a cc, OK v a cc → Calls Tryz.prog 17 #[.agg #[.int .i64 kd, .bool ng, .slice a dl cc, .int .i64 ex], dv F] v fun e w' => e = .returned (.agg #[.int .u64 h, .int .u64 l, .int .i64 cd, .int .i64 off, .int .i64 fl]) ∧ Below v.heap.size v w') :
 Calls Tryz.prog 7 #[.int .i64 f, .slice ao n c] w fun e w' => e = .returned (.agg #[.int .u64 h, .int .u64 l, .int .i64 cd, .int .i64 off, .int .i64 fl]) ∧ Below w.heap.size w w' := by
 simp only [dv] at kE kR
 have b0 : Below w.heap.size w (w.alloc (.cells iI 32)) := (Below.refl _ _).alloc (Nat.le_refl _) _
 have c0 : Cls (w.alloc (.cells iI 32)) w.heap.size iI 32 := Cls.new _ _ _
 go_enter Tryz.func7, Tryz.ntmps7
 go_wp2_with fail
 refine (kS _ b0).mono ?_
 rintro e v1 ⟨a, cc, rfl, ho, hb⟩
 obtain ⟨cx, cp, hb2⟩ := Cls.new2 v1 #[.int .i64 kd, .bool ng, .slice a dl cc, .int .i64 ex] #[.int .u64 0, .int .u64 0, .int .i64 0, .int .i64 0, .int .i64 0] 46 32
 have lg : w.heap.size < v1.heap.size := (c0.below hb).lt
 replace ho := okB _ _ _ _ ho hb2
 replace hb := hb.trans (hb2.mono hb.size)
 replace b0 := b0.trans (hb.mono b0.size)
 replace c0 := c0.below hb
 clear hb hb2 cp
 go_upto_region 2 with fail
 generalize ((v1.alloc (.cells #[.int .i64 kd, .bool ng, .slice a dl cc, .int .i64 ex] 46)).alloc (.cells #[.int .u64 0, .int .u64 0, .int .i64 0, .int .i64 0, .int .i64 0] 32)) = v2 at *
 generalize v1.heap.size = gx at *
 go_wp2_with fail
 have D1 : ∀ v, Below v2.heap.size v2 v → (fun v : World => v.cell? ⟨gx, 0, none⟩ = some (.int .i64 kd) ∧ v.cell? ⟨gx, 1, none⟩ = some (.bool ng) ∧ v.cell? ⟨gx, 2, none⟩ = some (.slice a dl cc) ∧ v.cell? ⟨gx, 3, none⟩ = some (.int .i64 ex)) v := fun v hv => ⟨(cx.below hv).cell 0 rfl, (cx.below hv).cell 1 rfl, (cx.below hv).cell 2 rfl, (cx.below hv).cell 3 rfl⟩
 have K3 : ∀ (v : World) u4 u5 u6 u7 u8, (fun v : World => v.cell? ⟨gx, 0, none⟩ = some (.int .i64 kd) ∧ v.cell? ⟨gx, 1, none⟩ = some (.bool ng) ∧ v.cell? ⟨gx, 2, none⟩ = some (.slice a dl cc) ∧ v.cell? ⟨gx, 3, none⟩ = some (.int .i64 ex)) v → (fun v : World => v.cell? ⟨gx, 0, none⟩ = some (.int .i64 kd) ∧ v.cell? ⟨gx, 1, none⟩ = some (.bool ng) ∧ v.cell? ⟨gx, 2, none⟩ = some (.slice a dl cc) ∧ v.cell? ⟨gx, 3, none⟩ = some (.int .i64 ex)) (((((v.setCell ⟨w.heap.size, 0, none⟩ u4).setCell ⟨w.heap.size, 1, none⟩ u5).setCell ⟨w.heap.size, 2, none⟩ u6).setCell ⟨w.heap.size, 3, none⟩ u7).setCell ⟨w.heap.size, 4, none⟩ u8) := fun v u4 u5 u6 u7 u8 h => ⟨(bH (by omega)).trans h.1, (bH (by omega)).trans h.2.1, (bH (by omega)).trans h.2.2.1, (bH (by omega)).trans h.2.2.2⟩
 have hdr : Below v2.heap.size v2 v2.drew := (Below.refl _ _).drew
 have m0 := hm.below b0
 go_region_held3 (fun v : World => v.cell? ⟨gx, 0, none⟩ = some (.int .i64 kd) ∧ v.cell? ⟨gx, 1, none⟩ = some (.bool ng) ∧ v.cell? ⟨gx, 2, none⟩ = some (.slice a dl cc) ∧ v.cell? ⟨gx, 3, none⟩ = some (.int .i64 ex)) (first | (with_reducible exact D1 _ (by assumption)) | (with_reducible exact K3 _ _ _ _ _ _ (D1 _ (by assumption))))
  (first
    | (go_at_call 18; refine (kE _ (m0.below hdr)).mono ?_; rintro e t1 ⟨rfl, hbt'⟩; have hb1 := hdr.trans (hbt'.mono (Nat.le_refl _)); clear hbt')
    | (go_at_call 17; refine (kR _ _ _ (okB _ _ _ _ ho hb1)).mono ?_; rintro e t3 ⟨rfl, hbt'⟩; have hb3 := hb1.trans (hbt'.mono hb1.size); clear hbt' hb1; have r3 := c0.below hb3; have x0 := r3.cell 0 rfl; have x1 := r3.cell 1 rfl; have x2 := r3.cell 2 rfl; have x3 := r3.cell 3 rfl; have x4 := r3.cell 4 rfl; have z0 := r3.frozen 0; have z1 := r3.frozen 1; have z2 := r3.frozen 2; have z3 := r3.frozen 3; have z4 := r3.frozen 4))
 all_goals go_wp2_with fail
 all_goals exact bodyPost_ret (v := .agg #[.int .u64 h, .int .u64 l, .int .i64 cd, .int .i64 off, .int .i64 fl]) (by simp [results, Tryz.results7, go_sem, x0, x1, x2, x3, x4]) rfl ⟨rfl, nN (b0.trans (hb3.mono b0.size)) _ (Nat.le_refl _) _ _ _ _ _⟩

def Fol (w : World) : Prop := 1 < w.heap.size ∧ ∀ st so, st < 10 → so < 6 → w.cell? ⟨1, st * 6 + so, none⟩ = some (.int .i64 (M.next st so : Int))

theorem Fol.below {w w' : World} (h : Fol w) (hb : Below w.heap.size w w') : Fol w' :=
 ⟨Nat.lt_of_lt_of_le h.1 hb.size, fun st so h1 h2 => (hb.cell (p := ⟨1, st * 6 + so, none⟩) h.1).trans (h.2 st so h1 h2)⟩

def G5 (w w' : World) (e : Ending) : M.Dec ⊕ Nat → Prop
 | .inl d => ∃ v, e = .returned (BP d v) ∧ OwnV w' w.heap.size v d.digits ∧ Below w.heap.size w w'
 | .inr k => e = .panicked [{ v := .iface 124 (.agg #[.int .i64 (k : Int)]), recovered := false }] ∧ Below w.heap.size w w'

theorem FV (c : Nat) : M.aF c < 6 := by
 have h := M.aN (M.low c) (M.fE c)
 rw [M.fI] at h
 omega

theorem mP (c : Nat) (h : 128 ≤ c) : M.aF c = 0 := by
 have : M.low c = c := by unfold M.low; rw [if_neg (by omega)]
 unfold M.aF
 rw [this, if_neg (by omega), if_neg (by omega), if_neg (by omega), if_neg (by omega), if_neg (by omega)]

theorem wI {st so : Nat} (h : M.next st so = 3 ∨ M.next st so = 6 ∨ M.next st so = 9) : so = 1 := by
 unfold M.next at h
 split at h <;> omega

theorem EV {st so : Nat} (h1 : 1 ≤ st) (h : M.next st so ≠ 0) : 2 ≤ M.next st so := by
 unfold M.next at h ⊢
 split at h <;> omega

theorem pM {c : Nat} (h : M.aF c = 1) : 48 ≤ c ∧ c ≤ 57 := by
 have hc := M.aN (M.low c) (M.fE c)
 rw [M.fI] at hc
 have : M.low c = c ∨ M.low c = c + 32 := by unfold M.low; split <;> omega
 have k : M.low c = c + 32 → 65 ≤ c := by unfold M.low; split <;> omega
 omega

theorem gQ (s : ByteArray) : (bG s).length = s.size := by unfold bG; rw [List.length_map, Array.length_toList]; rfl

theorem tE (s : ByteArray) (i : Nat) (h : i < s.size) : (bG s).getD i 0 = (s[i]'h).toNat := by
 unfold bG
 have : i < s.data.toList.length := by rw [Array.length_toList]; exact h
 rw [List.getD_eq_getElem?_getD, List.getElem?_map, List.getElem?_eq_getElem this]
 rfl

theorem mW (wr : World) (k : Nat) (s : ByteArray) (pos : Nat) (hk : wr.heap[k]? = some (.stringIter s pos)) (h : pos < s.size) :
 ∃ (l p' : Nat), (∀ ty, (Instr.next (.pointer (some ⟨k, 0, none⟩)) true ty).run Tryz.prog wr = .ok (.tuple #[.bool true, .int .i64 pos, .int .i32 (l : Int)]) (wr.iterAt k s p')) ∧ l ≤ 2147483647 ∧
   (((bG s).getD pos 0 < 128 ∧ l = (bG s).getD pos 0 ∧ p' = pos + 1) ∨ (128 ≤ (bG s).getD pos 0 ∧ 128 ≤ l ∧ pos < p')) := by
 refine ⟨(Utf8.decode s pos).1, pos + (Utf8.decode s pos).2, fun ty => Lib.run_next_any_at wr k s pos ty hk h, decode_le s pos, ?_⟩
 rw [tE s pos h]
 by_cases c : (s[pos]'h).toNat < 128
 · rw [decode_ascii s pos h c]; exact .inl ⟨c, rfl, rfl⟩
 · have := decode_high s pos h (by omega)
   exact .inr ⟨by omega, this.1, by omega⟩

theorem SnR.below {v v' : World} {g B : Nat} {sn : M.Sn} (h : SnR v g B sn) (hb : Below v.heap.size v v') : SnR v' g B sn := by
 obtain ⟨h1, h2, a, cap, hC, hO⟩ := h
 exact ⟨h1, Nat.le_trans h2 hb.size, a, cap, hC.below hb, nW hO hb⟩

theorem SnR.iterAt {v : World} {g B : Nat} {sn : M.Sn} (h : SnR v g B sn) (k : Nat) (hk : k < B) (hg : k ≠ g) (s : ByteArray) (p : Nat) : SnR (v.iterAt k s p) g B sn := by
 obtain ⟨h1, h2, a, cap, hC, hO⟩ := h
 refine ⟨h1, by simpa [World.iterAt] using h2, a, cap, ?_, ownsRow_iterAt hO (k := k) (by omega) s p⟩
 unfold Cls at hC ⊢
 simp only [World.iterAt]
 rw [Array.getElem?_setIfInBounds_ne (by omega)]
 exact hC

theorem Cls.iterAt {v : World} {g : Nat} {xs : Array Value} {t : TypeId} (h : Cls v g xs t) (k : Nat) (hg : k ≠ g) (s : ByteArray) (p : Nat) : Cls (v.iterAt k s p) g xs t := by
 unfold Cls at h ⊢
 simp only [World.iterAt]
 rw [Array.getElem?_setIfInBounds_ne (by omega)]
 exact h

def I9 (w wr : World) (bs : List Nat) (stv bv : Value) : Prop :=
 ∃ (st : Nat) (sn : M.Sn), stv = .int .i64 (st : Int) ∧ SnR wr (w.heap.size + 1) (w.heap.size + 3) sn ∧ Cls wr w.heap.size gA 46 ∧ Below w.heap.size w wr ∧
   ((st ≤ 9 ∧ 1 ≤ st ∧ M.aQ bs 0 1 (M.s0 false) = .fin st sn ∧ sn.digits.length ≤ 800 ∧ sn.behind ≤ 800 ∧ sn.exponent ≤ 1000000 ∧ ∀ x ∈ sn.digits, x < 256) ∨ (st = 10 ∧ ∃ b : Nat, bv = .int .i64 (b : Int) ∧ b < bs.length ∧ M.aQ bs 0 1 (M.s0 false) = .word b sn.neg))

theorem CR (st c : Nat) (s : M.Sn) (p : Nat) (h1 : s.digits.length ≤ p) (h2 : s.behind ≤ p) (h3 : s.exponent ≤ 1000000) : (M.take st c s).digits.length ≤ p + 1 ∧ (M.take st c s).behind ≤ p + 1 ∧ (M.take st c s).exponent ≤ 1000000 := by
 unfold M.take
 by_cases e2 : st = 2
 · rw [if_pos e2]; exact ⟨Nat.le_succ_of_le h1, Nat.le_succ_of_le h2, h3⟩
 · rw [if_neg e2]
   by_cases e6 : st = 6
   · rw [if_pos e6]; exact ⟨by simp; omega, by show s.behind + 1 ≤ p + 1; omega, h3⟩
   · rw [if_neg e6]
     by_cases e3 : st = 3
     · rw [if_pos e3]; exact ⟨by simp; omega, Nat.le_succ_of_le h2, h3⟩
     · rw [if_neg e3]
       by_cases e8 : st = 8
       · rw [if_pos e8]; exact ⟨Nat.le_succ_of_le h1, Nat.le_succ_of_le h2, h3⟩
       · rw [if_neg e8]
         by_cases e9 : st = 9
         · rw [if_pos e9]; exact ⟨Nat.le_succ_of_le h1, Nat.le_succ_of_le h2, by show min _ _ ≤ _; omega⟩
         · rw [if_neg e9]; exact ⟨Nat.le_succ_of_le h1, Nat.le_succ_of_le h2, h3⟩

theorem DW (st c : Nat) (s : M.Sn) (hc : c < 256) (h : ∀ x ∈ s.digits, x < 256) : ∀ x ∈ (M.take st c s).digits, x < 256 := by
 have k : ∀ x ∈ s.digits ++ [c], x < 256 := fun x hx => by
  rcases List.mem_append.1 hx with hx | hx
  · exact h x hx
  · simp at hx; omega
 unfold M.take
 by_cases e2 : st = 2
 · rw [if_pos e2]; exact h
 · rw [if_neg e2]
   by_cases e6 : st = 6
   · rw [if_pos e6]; exact k
   · rw [if_neg e6]
     by_cases e3 : st = 3
     · rw [if_pos e3]; exact k
     · rw [if_neg e3]
       by_cases e8 : st = 8
       · rw [if_pos e8]; exact h
       · rw [if_neg e8]
         by_cases e9 : st = 9
         · rw [if_pos e9]; exact h
         · rw [if_neg e9]; exact h

abbrev snZ : Array Value := #[.bool false, .slice none 0 0, .int .i64 0, .bool false, .int .i64 0]

theorem DB (w : World) (s : ByteArray) (W : World) (hW : W = (((w.alloc (.cells gA 46)).alloc (.cells snZ 146)).iter s 0)) :
 W.heap[w.heap.size + 2]? = some (.stringIter s 0) ∧ SnR W (w.heap.size + 1) (w.heap.size + 3) (M.s0 false) ∧ Cls W w.heap.size gA 46 ∧ Below w.heap.size w W := by
 have h1 : (w.alloc (.cells gA 46)).heap.size = w.heap.size + 1 := by simp
 have C1 : Cls (w.alloc (.cells gA 46)) w.heap.size gA 46 := Cls.new _ _ _
 have B1 : Below w.heap.size w (w.alloc (.cells gA 46)) := (Below.refl _ _).alloc (Nat.le_refl _) _
 generalize w.alloc (.cells gA 46) = w1 at *
 have h2 : (w1.alloc (.cells snZ 146)).heap.size = w.heap.size + 2 := by simp [h1]
 have C2 : Cls (w1.alloc (.cells snZ 146)) (w.heap.size + 1) snZ 146 := by rw [← h1]; exact Cls.new _ _ _
 have B2 : Below w1.heap.size w1 (w1.alloc (.cells snZ 146)) := (Below.refl _ _).alloc (Nat.le_refl _) _
 have C3 := C1.below B2
 have B3 := B1.trans (B2.mono B1.size)
 generalize w1.alloc (.cells snZ 146) = w2 at *
 have B4 : Below w2.heap.size w2 W := by rw [hW]; exact (Below.refl _ _).alloc (Nat.le_refl _) _
 have h4 : W.heap.size = w.heap.size + 3 := by rw [hW]; simp [World.iter, h2]
 refine ⟨?_, ⟨by omega, by omega, none, 0, C2.below B4, World.ownsRow_nil _ _ _ _⟩, C3.below B4, B3.trans (B4.mono B3.size)⟩
 rw [hW, ← h2]
 exact World.iter_heap w2 s 0

theorem tP (g B : Nat) (sn : M.Sn) (v : World) (h : SnR v g B sn) (h1 : sn.digits.length ≤ 1000) (h2 : sn.behind ≤ 1000) (h3 : sn.exponent ≤ 1000000) (hx : ∀ x ∈ sn.digits, x < 256) :
 Calls Tryz.prog 117 #[.pointer (some ⟨g, 0, none⟩)] v fun e v' => ∃ x, e = .returned (BP sn.dec x) ∧ OwnV v' B x sn.dec.digits ∧ Below v.heap.size v v' := by
 obtain ⟨hgB, hBv, a, cap, hC, hO⟩ := h
 have hV := OwnV.of_own hO hx
 have hgv := hC.lt
 have b1 : Below v.heap.size v (v.alloc (.cells gA 46)) := (Below.refl _ _).alloc (Nat.le_refl _) _
 have C1 := hC.below b1
 have R1 : Cls (v.alloc (.cells gA 46)) v.heap.size gA 46 := Cls.new _ _ _
 have V1 := hV.below b1
 have c0 := C1.cell 0 (x := .bool sn.neg) rfl
 have c1 := C1.cell 1 (x := .slice a sn.digits.length cap) rfl
 have c2 := C1.cell 2 (x := .int .i64 (sn.behind : Int)) rfl
 have c3 := C1.cell 3 (x := .bool sn.expNeg) rfl
 have c4 := C1.cell 4 (x := .int .i64 (sn.exponent : Int)) rfl
 have hdec : sn.dec = ⟨1, sn.neg, M.aT sn.digits, M.fF sn.digits ((if sn.expNeg then -(sn.exponent : Int) else sn.exponent) - sn.behind)⟩ := rfl
 have HD := hid hdec
 have hsz : (v.alloc (.cells gA 46)).heap.size = v.heap.size + 1 := by simp
 have V1H := hid V1; have R1H := hid R1; have B1H := hid b1; have HSZ := hid hsz
 have HV0 := hid hV.bv
 clear V1 R1 b1 hdec hsz hV C1
 go_enter Tryz.func117, Tryz.ntmps117
 cases hen : sn.expNeg with
 | false =>
   rw [hen] at c3 HD
   go_wp2_with fail
   go_quiet ((go_at_call 84; exact Calls.quiet_of_same (nS B a sn.digits.length cap sn.digits ((sn.exponent : Int) - sn.behind) _ rfl (by omega) (by omega) (V1H.out.below (below_drewN (Below.refl _ _) _)))))
   have bq : Below (v.alloc (.cells gA 46)).heap.size (v.alloc (.cells gA 46)) ((v.alloc (.cells gA 46)).drewN nq) := below_drewN (Below.refl _ _) nq
   have V2 := V1H.out.bv.below bq
   have R2 := R1H.out.below bq
   have B2 := B1H.out.trans (bq.mono B1H.out.size)
   have C2 := (hC.below B1H.out).below bq
   generalize (v.alloc (.cells gA 46)).drewN nq = w2 at *
   obtain ⟨a2, c2', e2, hv2⟩ := V2
   rw [e2]
   have HE2 := hid e2
   have d0 := C2.cell 0 (x := .bool sn.neg) rfl
   have y0 := R2.cell 0 (x := .int .i64 0) rfl
   have y1 := R2.cell 1 (x := .bool false) rfl
   have y2 := R2.cell 2 (x := .slice none 0 0) rfl
   have y3 := R2.cell 3 (x := .int .i64 0) rfl
   have f0 := R2.frozen 0
   have f1 := R2.frozen 1
   have f2 := R2.frozen 2
   have f3 := R2.frozen 3
   have hne : ¬ g = v.heap.size := by omega
   have hne' : ¬ v.heap.size = g := by omega
   have HR2 := hid R2; have HB2 := hid B2
   clear R2 B2 C2 hv2 e2 bq c0 c1 c2 c3 c4 hC hO
   obtain ⟨xe, hxe⟩ : ∃ xe, xe = M.fF sn.digits ((sn.exponent : Int) - (sn.behind : Int)) := ⟨_, rfl⟩
   rw [← hxe]
   have HXE := hid hxe; clear hxe
   go_wp2_with fail
   have R9 := pS HR2.out rfl (.int .i64 1) (.bool sn.neg) (.slice a2 (M.aT sn.digits).length c2') (.int .i64 xe)
   have H9 := gJ HB2.out (.int .i64 1) (.bool sn.neg) (.slice a2 (M.aT sn.digits).length c2') (.int .i64 xe)
   have O9 := HV0.out.below H9
   generalize ((((w2.setCell ⟨v.heap.size, 0, none⟩ (.int .i64 1)).setCell ⟨v.heap.size, 1, none⟩ (.bool sn.neg)).setCell ⟨v.heap.size, 2, none⟩ (.slice a2 (M.aT sn.digits).length c2')).setCell ⟨v.heap.size, 3, none⟩ (.int .i64 xe)) = w9 at R9 H9 O9 ⊢
   have z0 := R9.cell 0 (x := .int .i64 1) rfl
   have z1 := R9.cell 1 (x := .bool sn.neg) rfl
   have z2 := R9.cell 2 (x := .slice a2 (M.aT sn.digits).length c2') rfl
   have z3 := R9.cell 3 (x := .int .i64 xe) rfl
   refine bodyPost_ret (v := .agg #[.int .i64 1, .bool sn.neg, .slice a2 (M.aT sn.digits).length c2', .int .i64 xe]) (by simp [results, Tryz.results117, go_sem, z0, z1, z2, z3]) rfl ?_
   rw [HE2.out] at O9
   rw [HD.out]
   exact ⟨_, by rw [HXE.out]; rfl, O9, H9⟩
 | true =>
   rw [hen] at c3 HD
   go_wp2_with fail
   go_quiet ((go_at_call 84; exact Calls.quiet_of_same (nS B a sn.digits.length cap sn.digits (-(sn.exponent : Int) - sn.behind) _ rfl (by omega) (by omega) (V1H.out.below (below_drewN (Below.refl _ _) _)))))
   have bq : Below (v.alloc (.cells gA 46)).heap.size (v.alloc (.cells gA 46)) ((v.alloc (.cells gA 46)).drewN nq) := below_drewN (Below.refl _ _) nq
   have V2 := V1H.out.bv.below bq
   have R2 := R1H.out.below bq
   have B2 := B1H.out.trans (bq.mono B1H.out.size)
   have C2 := (hC.below B1H.out).below bq
   generalize (v.alloc (.cells gA 46)).drewN nq = w2 at *
   obtain ⟨a2, c2', e2, hv2⟩ := V2
   rw [e2]
   have HE2 := hid e2
   have d0 := C2.cell 0 (x := .bool sn.neg) rfl
   have y0 := R2.cell 0 (x := .int .i64 0) rfl
   have y1 := R2.cell 1 (x := .bool false) rfl
   have y2 := R2.cell 2 (x := .slice none 0 0) rfl
   have y3 := R2.cell 3 (x := .int .i64 0) rfl
   have f0 := R2.frozen 0
   have f1 := R2.frozen 1
   have f2 := R2.frozen 2
   have f3 := R2.frozen 3
   have hne : ¬ g = v.heap.size := by omega
   have hne' : ¬ v.heap.size = g := by omega
   have HR2 := hid R2; have HB2 := hid B2
   clear R2 B2 C2 hv2 e2 bq c0 c1 c2 c3 c4 hC hO
   obtain ⟨xe, hxe⟩ : ∃ xe, xe = M.fF sn.digits (-(sn.exponent : Int) - (sn.behind : Int)) := ⟨_, rfl⟩
   rw [← hxe]
   have HXE := hid hxe; clear hxe
   go_wp2_with fail
   have R9 := pS HR2.out rfl (.int .i64 1) (.bool sn.neg) (.slice a2 (M.aT sn.digits).length c2') (.int .i64 xe)
   have H9 := gJ HB2.out (.int .i64 1) (.bool sn.neg) (.slice a2 (M.aT sn.digits).length c2') (.int .i64 xe)
   have O9 := HV0.out.below H9
   generalize ((((w2.setCell ⟨v.heap.size, 0, none⟩ (.int .i64 1)).setCell ⟨v.heap.size, 1, none⟩ (.bool sn.neg)).setCell ⟨v.heap.size, 2, none⟩ (.slice a2 (M.aT sn.digits).length c2')).setCell ⟨v.heap.size, 3, none⟩ (.int .i64 xe)) = w9 at R9 H9 O9 ⊢
   have z0 := R9.cell 0 (x := .int .i64 1) rfl
   have z1 := R9.cell 1 (x := .bool sn.neg) rfl
   have z2 := R9.cell 2 (x := .slice a2 (M.aT sn.digits).length c2') rfl
   have z3 := R9.cell 3 (x := .int .i64 xe) rfl
   refine bodyPost_ret (v := .agg #[.int .i64 1, .bool sn.neg, .slice a2 (M.aT sn.digits).length c2', .int .i64 xe]) (by simp [results, Tryz.results117, go_sem, z0, z1, z2, z3]) rfl ?_
   rw [HE2.out] at O9
   rw [HD.out]
   exact ⟨_, by rw [HXE.out]; rfl, O9, H9⟩

theorem uX (bs ws : List Nat) (p : Nat) (h1 : p < bs.length) (h2 : p < ws.length) : M.aI (bs.drop p) (ws.drop p) = if M.low (bs.getD p 0) = ws.getD p 0 then M.aI (bs.drop (p + 1)) (ws.drop (p + 1)) + 1 else 0 := by
 rw [jA bs p h1, jA ws p h2, M.aI]

theorem jR (s t : ByteArray) (w : World) (hs : s.size ≤ 800) (ht : t.size ≤ 100) (hw : ∀ x ∈ bG t, x < 128) (k : Nat) (hk : k = M.aI (bG s) (bG t)) :
 Calls Tryz.prog 141 #[.string s, .string t] w fun e w' => e = .returned (.int .i64 (k : Int)) ∧ Below w.heap.size w w' := by
 have HK := hid hk; clear hk
 have hl := gQ s
 have hl2 := gQ t
 go_enter Tryz.func141, Tryz.ntmps141
 go_wp2_with fail
 go_loopw [4] (fun _ wr => ∃ (pos : Nat), wr.heap[w.heap.size]? = some (.stringIter s pos) ∧ pos ≤ s.size ∧ pos ≤ t.size ∧ Below w.heap.size w wr ∧ k = pos + M.aI ((bG s).drop pos) ((bG t).drop pos)) (fun _ wr => s.size - World.iterPos wr w.heap.size)
 case atStart => exact ⟨0, World.iter_heap w s 0, by omega, by omega, (Below.refl _ _).alloc (Nat.le_refl _) _, by rw [List.drop_zero, List.drop_zero, Nat.zero_add]; exact HK.out⟩
 case round =>
  rename World => wr
  obtain ⟨pos, hit, hps, hpt, hB, hC⟩ := hrel
  have hpos0 := iterPos_of hit
  by_cases hp : pos < s.size
  · obtain ⟨l, p', hnx, hlm, hll⟩ := mW wr w.heap.size s pos hit hp
    have hit2 := Lib.iterAt_heap wr w.heap.size s pos p' hit
    have hB2 := Lib.below_iterAt hB (k := w.heap.size) (Nat.le_refl _) s p'
    obtain ⟨W1, hW1⟩ : ∃ W1, W1 = wr.iterAt w.heap.size s p' := ⟨_, rfl⟩
    rw [← hW1] at hnx hit2 hB2
    clear hW1 hit hB
    have HN := hid hnx
    by_cases hq : pos < t.size
    · have hbz : ((pos : Int) == (t.size : Int)) = false := by rw [beq_eq_false_iff_ne]; omega
      have hst := uX (bG s) (bG t) pos (by omega) (by omega)
      have hg := tE t pos hq
      have hx128 : (bG t).getD pos 0 < 128 := M.bK (by omega) hw pos
      have kS := fun (u : World) => iH l hlm u _ rfl
      rw [hst] at hC
      have hlow : M.low l = (bG t).getD pos 0 ↔ M.low ((bG s).getD pos 0) = (bG t).getD pos 0 := by
       rcases hll with ⟨_, e, _⟩ | ⟨e1, e2, _⟩
       · rw [e]
       · have q1 : M.low l = l := by unfold M.low; rw [if_neg (by omega)]
         have q2 : M.low ((bG s).getD pos 0) = (bG s).getD pos 0 := by unfold M.low; rw [if_neg (by omega)]
         omega
      have hp' : M.low l = (bG t).getD pos 0 → p' = pos + 1 := by
       intro q
       rcases hll with ⟨_, _, e⟩ | ⟨e1, e2, _⟩
       · exact e
       · have q1 : M.low l = l := by unfold M.low; rw [if_neg (by omega)]
         omega
      rw [hg] at hlow hp' hC
      have HC := hid hC; have HB2 := hid hB2; have HIT2 := hid hit2; have HLW := hid hlow; have HP' := hid hp'; have HP := hid hp
      clear hC hB2 hit2 hlow hp' hll hst hg hx128 hnx
      have hnx := HN.out
      by_cases heq : M.low l = (t[pos]'hq).toNat
      · have heq' : ((M.low l : Int) == ((t[pos]'hq).toNat : Int)) = true := by rw [beq_iff_eq]; omega
        have hpp := HP'.out heq
        have hk2 : k = (pos + 1) + M.aI ((bG s).drop (pos + 1)) ((bG t).drop (pos + 1)) := by rw [HC.out, if_pos (HLW.out.1 heq)]; omega
        have HK2 := hid hk2; have HPP := hid hpp
        clear heq hk2 hpp
        go_wp2_with fail
        go_quiet ((go_at_call 140; exact Calls.quiet_of_same (kS _)))
        have hw32 : wrap32 ((t[pos]'hq).toNat : Int) = ((t[pos]'hq).toNat : Int) := by have := (t[pos]'hq).toNat_lt; simp only [wrap32]; omega
        have hne : ((M.low l : Int) != wrap32 ((t[pos]'hq).toNat : Int)) = false := by rw [hw32, bne, heq']; rfl
        rw [hne]
        have bq : Below W1.heap.size W1 (W1.drewN nq) := below_drewN (Below.refl _ _) nq
        have HB3 := hid (HB2.out.trans (bq.mono HB2.out.size))
        have HIT3 : Hid ((W1.drewN nq).heap[w.heap.size]? = some (.stringIter s p')) := hid ((bq.block _ (lt_of_block HIT2.out)).trans HIT2.out)
        generalize W1.drewN nq = W2 at *
        clear bq hne hw32 heq' kS
        go_wp2_with fail
        go_roundw
        case rel => exact ⟨pos + 1, by rw [← HPP.out]; exact HIT3.out, HP.out, by omega, HB3.out, HK2.out⟩
        case measure => rw [iterPos_of HIT3.out, hpos0, HPP.out]; have := HP.out; omega
      · have heq' : ((M.low l : Int) == ((t[pos]'hq).toNat : Int)) = false := by rw [beq_eq_false_iff_ne]; omega
        have hk2 : k = pos := by rw [HC.out, if_neg (fun e => heq (HLW.out.2 e))]; rfl
        have HK2 := hid hk2
        clear heq hk2
        go_wp2_with fail
        go_quiet ((go_at_call 140; exact Calls.quiet_of_same (kS _)))
        have hw32 : wrap32 ((t[pos]'hq).toNat : Int) = ((t[pos]'hq).toNat : Int) := by have := (t[pos]'hq).toNat_lt; simp only [wrap32]; omega
        have hne : ((M.low l : Int) != wrap32 ((t[pos]'hq).toNat : Int)) = true := by rw [hw32, bne, heq']; rfl
        rw [hne]
        have bq : Below W1.heap.size W1 (W1.drewN nq) := below_drewN (Below.refl _ _) nq
        have HB3 := hid (HB2.out.trans (bq.mono HB2.out.size))
        have HIT3 : Hid ((W1.drewN nq).heap[w.heap.size]? = some (.stringIter s p')) := hid ((bq.block _ (lt_of_block HIT2.out)).trans HIT2.out)
        generalize W1.drewN nq = W2 at *
        clear bq hne hw32 heq' kS
        go_wp2_with fail
        go_ret
        exact ⟨by rw [HK2.out]; rfl, HB3.out⟩
    · have hbz : ((pos : Int) == (t.size : Int)) = true := by rw [beq_iff_eq]; omega
      have hC0 : k = pos := by
       rw [hC, show (bG t).drop pos = [] from List.drop_eq_nil_of_le (by omega)]
       cases (bG s).drop pos <;> rfl
      have HC := hid hC0; have HB2 := hid hB2
      clear hC hB2 hit2 hll hC0
      go_wp2_with fail
      go_quiet (fail)
      go_wp2_with fail
      go_ret
      exact ⟨by rw [HC.out]; rfl, below_drewN HB2.out _⟩
  · have hend : ∀ ty, (Instr.next (.pointer (some ⟨w.heap.size, 0, none⟩)) true ty).run Tryz.prog wr = .ok (.tuple #[.bool false]) wr := fun ty => Lib.run_next_end_at wr w.heap.size s pos ty hit hp
    have hC0 : k = s.size := by
     rw [hC, show (bG s).drop pos = [] from List.drop_eq_nil_of_le (by omega)]
     show pos + 0 = _
     omega
    have HC := hid hC0; have HB := hid hB
    clear hC hB hit hC0
    go_wp2_with fail
    go_ret
    exact ⟨by rw [HC.out]; rfl, HB.out⟩

end Go.Proofs.YtdfljbpcjkbflaaGreatDoor
