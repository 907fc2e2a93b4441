import Derived.OwnWalk
import Derived.WalkMore
import Derived.Test.YtodgblbaclionaaGreatDoorrRrI1
import Derived.Test.YtodgblbaclionaaGreatDoorrBX
import Derived.Test.YtodgblbaclionaaGreatDoorrBG
import Derived.Test.YtodgblbaclionaaGreatDoorrPe2
namespace Go.Proofs.YtodgblbaclionaaGreatDoor

open Go.RowKit

set_option linter.unusedVariables false
set_option maxRecDepth 100000

theorem Cls.new2 (v : World) (xs ys : Array Value) (t s : TypeId) : Cls ((v.alloc (.cells xs t)).alloc (.cells ys s)) v.heap.size xs t ∧ Cls ((v.alloc (.cells xs t)).alloc (.cells ys s)) (v.heap.size + 1) ys s ∧ Below v.heap.size v ((v.alloc (.cells xs t)).alloc (.cells ys s)) := by
  have b1 : Below v.heap.size v (v.alloc (.cells xs t)) := (Below.refl _ _).alloc (Nat.le_refl _) _
  have b2 : Below (v.alloc (.cells xs t)).heap.size (v.alloc (.cells xs t)) ((v.alloc (.cells xs t)).alloc (.cells ys s)) := (Below.refl _ _).alloc (Nat.le_refl _) _
  refine ⟨(Cls.new v xs t).below b2, ?_, b1.trans (b2.mono b1.size)⟩
  have := Cls.new (v.alloc (.cells xs t)) ys s
  rwa [World.size_alloc] at this

theorem below5p {B : Nat} {w W : World} (h : Below B w W) (g : Nat) (hg : B ≤ g) (a b c d e : Value) : Below B w (((((W.setCell ⟨g, 0, none⟩ a).setCell ⟨g, 1, none⟩ b).setCell ⟨g, 2, none⟩ c).setCell ⟨g, 3, none⟩ d).setCell ⟨g, 4, none⟩ e) :=
  ((((h.setCell (p := ⟨g, 0, none⟩) hg _).setCell (p := ⟨g, 1, none⟩) hg _).setCell (p := ⟨g, 2, none⟩) hg _).setCell (p := ⟨g, 3, none⟩) hg _).setCell (p := ⟨g, 4, none⟩) hg _

set_option maxRecDepth 10000 in
set_option maxHeartbeats 2000000 in
theorem parse_settled (f : Int) (ao : Option Addr) (n c : Nat) (w : World) (kd : Int) (ng : Bool) (dl : Nat) (ex h l cd off fl : Int)
    (kS : ∀ v : World, Below w.heap.size w v → Calls Tryz.prog 28 #[.int .i64 f, .slice ao n c] v fun e w' => ∃ a cc, e = .returned (.tuple #[.agg #[.int .i64 kd, .bool ng, .slice a dl cc, .int .i64 ex], .agg #[.int .u64 h, .int .u64 l, .int .i64 cd, .int .i64 off, .int .i64 fl], .bool true]) ∧ Below v.heap.size v w') :
    Calls Tryz.prog 9 #[.int .i64 f, .slice ao n c] w fun e w' => e = .returned (.agg #[.int .u64 h, .int .u64 l, .int .i64 cd, .int .i64 off, .int .i64 fl]) ∧ Below w.heap.size w w' := by
  have b0 : Below w.heap.size w (w.alloc (.cells zParP 34)) := (Below.refl _ _).alloc (Nat.le_refl _) _
  have c0 : Cls (w.alloc (.cells zParP 34)) w.heap.size zParP 34 := Cls.new _ _ _
  go_enter Tryz.func9, Tryz.ntmps9
  go_wp2_with fail
  refine (kS _ b0).mono ?_
  rintro e v1 ⟨a, cc, rfl, hb⟩
  obtain ⟨cx, cp, hb2⟩ := Cls.new2 v1 #[.int .i64 kd, .bool ng, .slice a dl cc, .int .i64 ex] #[.int .u64 h, .int .u64 l, .int .i64 cd, .int .i64 off, .int .i64 fl] 61 34
  replace hb := hb.trans (hb2.mono hb.size)
  replace b0 := b0.trans (hb.mono b0.size)
  replace c0 := c0.below hb
  clear hb hb2
  go_upto_region 2 with fail
  generalize ((v1.alloc (.cells #[.int .i64 kd, .bool ng, .slice a dl cc, .int .i64 ex] 61)).alloc (.cells #[.int .u64 h, .int .u64 l, .int .i64 cd, .int .i64 off, .int .i64 fl] 34)) = v2 at *
  generalize v1.heap.size = gx at *
  have RB := hid (below5p b0 _ (Nat.le_refl _) (.int .u64 h) (.int .u64 l) (.int .i64 cd) (.int .i64 off) (.int .i64 fl))
  have x0 := c0.cell 0 rfl
  have x1 := c0.cell 1 rfl
  have x2 := c0.cell 2 rfl
  have x3 := c0.cell 3 rfl
  have x4 := c0.cell 4 rfl
  have z0 := c0.frozen 0
  have z1 := c0.frozen 1
  have z2 := c0.frozen 2
  have z3 := c0.frozen 3
  have z4 := c0.frozen 4
  have y0 := cp.cell 0 rfl
  have y1 := cp.cell 1 rfl
  have y2 := cp.cell 2 rfl
  have y3 := cp.cell 3 rfl
  have y4 := cp.cell 4 rfl
  clear b0 c0 cp
  go_wp2_with fail
  exact bodyPost_ret (v := .agg #[.int .u64 h, .int .u64 l, .int .i64 cd, .int .i64 off, .int .i64 fl]) (by simp [results, Tryz.results9, go_sem, x0, x1, x2, x3, x4]) rfl ⟨rfl, RB.out⟩

end Go.Proofs.YtodgblbaclionaaGreatDoor

namespace Go.Proofs.YtodgblbaclionaaGreatDoor

open Go.RowKit

set_option linter.unusedVariables false
set_option maxRecDepth 100000

theorem Cls.new3 (v : World) (xs ys zs : Array Value) (t s r : TypeId) : Cls (((v.alloc (.cells xs t)).alloc (.cells ys s)).alloc (.cells zs r)) v.heap.size xs t ∧ Cls (((v.alloc (.cells xs t)).alloc (.cells ys s)).alloc (.cells zs r)) (v.heap.size + 1) ys s ∧ Cls (((v.alloc (.cells xs t)).alloc (.cells ys s)).alloc (.cells zs r)) (v.heap.size + 1 + 1) zs r ∧ Below v.heap.size v (((v.alloc (.cells xs t)).alloc (.cells ys s)).alloc (.cells zs r)) := by
  obtain ⟨c1, c2, b1⟩ := Cls.new2 v xs ys t s
  have b2 : Below ((v.alloc (.cells xs t)).alloc (.cells ys s)).heap.size ((v.alloc (.cells xs t)).alloc (.cells ys s)) (((v.alloc (.cells xs t)).alloc (.cells ys s)).alloc (.cells zs r)) := (Below.refl _ _).alloc (Nat.le_refl _) _
  refine ⟨c1.below b2, c2.below b2, ?_, b1.trans (b2.mono b1.size)⟩
  have := Cls.new ((v.alloc (.cells xs t)).alloc (.cells ys s)) zs r
  rwa [World.size_alloc, World.size_alloc] at this

set_option maxRecDepth 10000 in
set_option maxHeartbeats 2000000 in
theorem parsed_any (F : M.Fm) (ng : Bool) (a b : Option Addr) (n m c d : Nat) (h l fl : Int) (ok : Bool) (w : World)
    (kR : ∀ v : World, Below w.heap.size w v → Calls Tryz.prog 78 #[dv F, .bool ng, .slice a n c, .slice b m d] v fun e w' => e = .returned (.agg #[.int .u64 h, .int .u64 l, .int .i64 fl, .bool ok]) ∧ Below v.heap.size v w') :
    Calls Tryz.prog 60 #[dv F, .bool ng, .agg #[.slice a n c, .slice b m d]] w fun e w' => e = .returned (.agg #[.int .u64 h, .int .u64 l, .int .i64 0, .int .i64 0, .int .i64 fl]) ∧ Below w.heap.size w w' := by
  simp only [dv] at kR ⊢
  obtain ⟨_, _, cr, b0⟩ := Cls.new3 w #[.int .i64 (F.p : Int), .int .i64 (1 - (F.emax : Int)), .int .i64 (F.emax : Int), .int .i64 (F.wd : Int), .int .i64 (F.e : Int), .bool F.x] #[.slice a n c, .slice b m d] zParP 47 85 34
  go_enter Tryz.func60, Tryz.ntmps60
  go_wp2_with fail
  refine (kR _ b0).mono ?_
  rintro e v1 ⟨rfl, hb⟩
  have cx := Cls.new v1 #[.int .u64 h, .int .u64 l, .int .i64 fl, .bool ok] 71
  have hb2 : Below v1.heap.size v1 (v1.alloc (.cells #[.int .u64 h, .int .u64 l, .int .i64 fl, .bool ok] 71)) := (Below.refl _ _).alloc (Nat.le_refl _) _
  replace hb := hb.trans (hb2.mono hb.size)
  replace b0 := b0.trans (hb.mono b0.size)
  replace cr := cr.below hb
  clear hb hb2
  go_upto_region 2 with fail
  generalize (v1.alloc (.cells #[.int .u64 h, .int .u64 l, .int .i64 fl, .bool ok] 71)) = v2 at *
  generalize v1.heap.size = gx at *
  have RB := hid (below5p b0 (w.heap.size + 1 + 1) (by omega) (.int .u64 h) (.int .u64 l) (.int .i64 0) (.int .i64 0) (.int .i64 fl))
  have x0 := cr.cell 0 rfl
  have x1 := cr.cell 1 rfl
  have x2 := cr.cell 2 rfl
  have x3 := cr.cell 3 rfl
  have x4 := cr.cell 4 rfl
  have z0 := cr.frozen 0
  have z1 := cr.frozen 1
  have z2 := cr.frozen 2
  have z3 := cr.frozen 3
  have z4 := cr.frozen 4
  have y0 := cx.cell 0 rfl
  have y1 := cx.cell 1 rfl
  have y2 := cx.cell 2 rfl
  have y3 := cx.cell 3 rfl
  clear b0 cr cx
  go_wp2_with fail
  exact bodyPost_ret (v := .agg #[.int .u64 h, .int .u64 l, .int .i64 0, .int .i64 0, .int .i64 fl]) (by simp [results, Tryz.results60, go_sem, x0, x1, x2, x3, x4]) rfl ⟨rfl, RB.out⟩

end Go.Proofs.YtodgblbaclionaaGreatDoor

namespace Go.Proofs.YtodgblbaclionaaGreatDoor

open Go.RowKit

set_option linter.unusedVariables false
set_option maxRecDepth 100000

theorem far2' (v : World) (x y : Value) {g b o : Nat} (h : b ≠ g) : ((v.setCell ⟨g, 0, none⟩ x).setCell ⟨g, 1, none⟩ y).cell? ⟨b, o, none⟩ = v.cell? ⟨b, o, none⟩ :=
  World.cell?_of_block (w := v) (a := ⟨b, o, none⟩) ((Below.heap_setCell _ _ _ _ h).trans (Below.heap_setCell _ _ _ _ h))

set_option maxRecDepth 10000 in
set_option maxHeartbeats 2000000 in
theorem times_any (a b a' b' : Option Addr) (c d n m c' d' n' m' N De N' De' : Nat) (w : World) (hl : (L N).length = n) (hm : (L De).length = m) (hl' : (L N').length = n') (hm' : (L De').length = m') (hn : n ≤ 1048576) (hn2 : m ≤ 1048576) (hn' : n' ≤ 1048576) (hn2' : m' ≤ 1048576)
    (ra : Rd w a (L N)) (rb : Rd w b (L De)) (ra' : Rd w a' (L N')) (rb' : Rd w b' (L De')) :
    Calls Tryz.prog 61 #[.agg #[.slice a n c, .slice b m d], .agg #[.slice a' n' c', .slice b' m' d']] w fun e w' => RR w w' e (N * N') (De * De') := by
  go_enter Tryz.func61, Tryz.ntmps61
  go_wp2_with fail
  have b1 : Below w.heap.size w (((w.alloc (.cells #[.slice a n c, .slice b m d] 85)).alloc (.cells #[.slice a' n' c', .slice b' m' d'] 85)).alloc (.cells #[.slice none 0 0, .slice none 0 0] 85)) := (((Below.refl _ _).alloc (Nat.le_refl _) _).alloc (by simp) _).alloc (by simp; omega) _
  generalize hw1 : (((w.alloc (.cells #[.slice a n c, .slice b m d] 85)).alloc (.cells #[.slice a' n' c', .slice b' m' d'] 85)).alloc (.cells #[.slice none 0 0, .slice none 0 0] 85)) = w1 at *
  have c0 : w1.cell? ⟨w.heap.size, 0, none⟩ = some (.slice a n c) := by rw [← hw1]; simp [go_sem]
  have c1 : w1.cell? ⟨w.heap.size, 1, none⟩ = some (.slice b m d) := by rw [← hw1]; simp [go_sem]
  have c2 : w1.cell? ⟨w.heap.size + 1, 0, none⟩ = some (.slice a' n' c') := by rw [← hw1]; simp [go_sem]
  have c3 : w1.cell? ⟨w.heap.size + 1, 1, none⟩ = some (.slice b' m' d') := by rw [← hw1]; simp [go_sem]
  have r0 : w1.cell? ⟨w.heap.size + 1 + 1, 0, none⟩ = some (.slice none 0 0) := by rw [← hw1]; simp [go_sem]
  have r1 : w1.cell? ⟨w.heap.size + 1 + 1, 1, none⟩ = some (.slice none 0 0) := by rw [← hw1]; simp [go_sem]
  have z0 : w1.frozen? ⟨w.heap.size + 1 + 1, 0, none⟩ = false := by rw [← hw1]; simp [go_sem]
  have z1 : w1.frozen? ⟨w.heap.size + 1 + 1, 1, none⟩ = false := by rw [← hw1]; simp [go_sem]
  have n1 : w.heap.size + 3 ≤ w1.heap.size := by rw [← hw1]; simp
  clear hw1
  have k1 : ∀ v, Below w1.heap.size w1 v → Calls Tryz.prog 79 #[.slice a n c, .slice a' n' c'] v fun e v' => ∃ a1 c1, e = .returned (.slice a1 (L (N * N')).length c1) ∧ v'.ownsRow w1.heap.size 23 1 (.slice a1 (L (N * N')).length c1) (L (N * N')).length (U (L (N * N'))) ∧ Below w1.heap.size w1 v' := fun v hv => (mul_any a a' n n' c c' N N' v hl hl' hn hn' ((ra.below b1).below hv) ((ra'.below b1).below hv)).mono fun e v' ⟨a1, c1, he, ho, hb⟩ => ⟨a1, c1, he, own_base ho hv.size, keepC1 hv hb⟩
  have k2 : ∀ v a1 c1, Below w1.heap.size w1 v → v.ownsRow w1.heap.size 23 1 (.slice a1 (L (N * N')).length c1) (L (N * N')).length (U (L (N * N'))) → Calls Tryz.prog 79 #[.slice b m d, .slice b' m' d'] v fun e v' => ∃ a2 c2, e = .returned (.slice a2 (L (De * De')).length c2) ∧ (∀ x y, Rd ((v'.setCell ⟨w.heap.size + 1 + 1, 0, none⟩ x).setCell ⟨w.heap.size + 1 + 1, 1, none⟩ y) a1 (L (N * N')) ∧ Rd ((v'.setCell ⟨w.heap.size + 1 + 1, 0, none⟩ x).setCell ⟨w.heap.size + 1 + 1, 1, none⟩ y) a2 (L (De * De'))) ∧ v'.cell? ⟨w.heap.size + 1 + 1, 0, none⟩ = some (.slice none 0 0) ∧ v'.cell? ⟨w.heap.size + 1 + 1, 1, none⟩ = some (.slice none 0 0) ∧ v'.frozen? ⟨w.heap.size + 1 + 1, 0, none⟩ = false ∧ v'.frozen? ⟨w.heap.size + 1 + 1, 1, none⟩ = false ∧ Below w1.heap.size w1 v' := fun v a1 c1 hv ho1 => (mul_any b b' m m' d d' De De' v hm hm' hn2 hn2' ((rb.below b1).below hv) ((rb'.below b1).below hv)).mono fun e v' ⟨a2, c2, he, ho, hb⟩ => ⟨a2, c2, he, fun x y => ⟨own_two (own_below ho1 hb) (by omega) x y, own_two ho (by have := hv.size; omega) x y⟩, ((keepC1 hv hb).cell (by simp only; omega)).trans r0, ((keepC1 hv hb).cell (by simp only; omega)).trans r1, ((keepC1 hv hb).frozen (by simp only; omega)).trans z0, ((keepC1 hv hb).frozen (by simp only; omega)).trans z1, keepC1 hv hb⟩
  have D1 : ∀ v, Below w1.heap.size w1 v → (fun v => v.cell? ⟨w.heap.size, 0, none⟩ = some (.slice a n c) ∧ v.cell? ⟨w.heap.size, 1, none⟩ = some (.slice b m d) ∧ v.cell? ⟨w.heap.size + 1, 0, none⟩ = some (.slice a' n' c') ∧ v.cell? ⟨w.heap.size + 1, 1, none⟩ = some (.slice b' m' d')) v := fun v hv => ⟨(hv.cell (by simp only; omega)).trans c0, (hv.cell (by simp only; omega)).trans c1, (hv.cell (by simp only; omega)).trans c2, (hv.cell (by simp only; omega)).trans c3⟩
  have D2 : ∀ v x y, Below w1.heap.size w1 v → (fun v => v.cell? ⟨w.heap.size, 0, none⟩ = some (.slice a n c) ∧ v.cell? ⟨w.heap.size, 1, none⟩ = some (.slice b m d) ∧ v.cell? ⟨w.heap.size + 1, 0, none⟩ = some (.slice a' n' c') ∧ v.cell? ⟨w.heap.size + 1, 1, none⟩ = some (.slice b' m' d')) ((v.setCell ⟨w.heap.size + 1 + 1, 0, none⟩ x).setCell ⟨w.heap.size + 1 + 1, 1, none⟩ y) := fun v x y hv => ⟨((far2' v x y (by omega)).trans (hv.cell (by simp only; omega))).trans c0, ((far2' v x y (by omega)).trans (hv.cell (by simp only; omega))).trans c1, ((far2' v x y (by omega)).trans (hv.cell (by simp only; omega))).trans c2, ((far2' v x y (by omega)).trans (hv.cell (by simp only; omega))).trans c3⟩
  clear c0 c1 c2 c3 r0 r1 z0 z1 ra rb ra' rb' hl hm hl' hm'
  go_region_held3 (fun v => v.cell? ⟨w.heap.size, 0, none⟩ = some (.slice a n c) ∧ v.cell? ⟨w.heap.size, 1, none⟩ = some (.slice b m d) ∧ v.cell? ⟨w.heap.size + 1, 0, none⟩ = some (.slice a' n' c') ∧ v.cell? ⟨w.heap.size + 1, 1, none⟩ = some (.slice b' m' d')) (first | exact D1 _ (by assumption) | exact D1 _ ((Below.refl _ _).drew) | exact D2 _ _ _ (by assumption))
    (first | (have hq := hb1; go_at_call 79; refine (k2 _ _ _ hq ho1).mono ?_; rintro e w' ⟨ao2, ca2, rfl, hRd, f0, f1, f2, f3, hb2⟩; clear hb1 hq ho1) | (go_at_call 79; refine (k1 _ (Below.refl _ _).drew).mono ?_; rintro e w' ⟨ao1, ca1, rfl, ho1, hb1⟩))
  all_goals go_wp2_with fail
  all_goals exact bodyPost_ret (v := .agg #[.slice ao1 (L (N * N')).length ca1, .slice ao2 (L (De * De')).length ca2]) (by simp [results, Tryz.results61, go_sem, f0, f1]) rfl ⟨ao1, ca1, ao2, ca2, rfl, (hRd _ _).1, (hRd _ _).2, ((b1.trans (hb2.mono b1.size)).setCell (by simp only; omega) _).setCell (by simp only; omega) _⟩

end Go.Proofs.YtodgblbaclionaaGreatDoor

namespace Go.Proofs.YtodgblbaclionaaGreatDoor

open Go.RowKit

set_option linter.unusedVariables false
set_option maxRecDepth 100000

set_option maxRecDepth 10000 in
set_option maxHeartbeats 4000000 in
theorem dround_key (F : M.Fm) (kd : Int) (ng : Bool) (a : Option Addr) (dl cc : Nat) (ex E : Int) (h l cd off fl : Int) (w : World) (D P Q : Nat) (hE : E = max (min ex 5200) (-5200 - (dl : Int))) (hdl : dl ≤ 10000) (lD : (L D).length ≤ 1048576) (lP : (L P).length ≤ 1048576) (lQ : (L Q).length ≤ 1048576)
    (kN : ∀ v : World, Below w.heap.size w v → Calls Tryz.prog 59 #[.slice a dl cc] v fun e w' => Ret v w' e (L D))
    (kT : ∀ v : World, Calls Tryz.prog 62 #[.int .i64 E] v fun e w' => RR v w' e P Q)
    (kP : ∀ (v : World) (a1 b1 : Option Addr) (c1 d1 : Nat), Rd v a1 (L (D * P)) → Rd v b1 (L Q) → Calls Tryz.prog 60 #[dv F, .bool ng, .agg #[.slice a1 (L (D * P)).length c1, .slice b1 (L Q).length d1]] v fun e w' => e = .returned (.agg #[.int .u64 h, .int .u64 l, .int .i64 cd, .int .i64 off, .int .i64 fl]) ∧ Below v.heap.size v w') :
    Calls Tryz.prog 29 #[.agg #[.int .i64 kd, .bool ng, .slice a dl cc, .int .i64 ex], dv F] w fun e w' => e = .returned (.agg #[.int .u64 h, .int .u64 l, .int .i64 cd, .int .i64 off, .int .i64 fl]) ∧ Below w.heap.size w w' := by
  simp only [dv] at kP ⊢
  have HE := hid hE; clear hE
  obtain ⟨cx, cd', cr, b0⟩ := Cls.new3 w #[.int .i64 kd, .bool ng, .slice a dl cc, .int .i64 ex] #[.int .i64 (F.p : Int), .int .i64 (1 - (F.emax : Int)), .int .i64 (F.emax : Int), .int .i64 (F.wd : Int), .int .i64 (F.e : Int), .bool F.x] zParP 61 47 34
  go_enter Tryz.func29, Tryz.ntmps29
  go_wp2_with fail
  rw [← HE.out]
  refine (kN _ b0).mono ?_
  rintro e v1 ⟨a1, c1, rfl, ho, hb⟩
  replace b0 := b0.trans (hb.mono b0.size)
  replace cx := cx.below hb
  replace cd' := cd'.below hb
  replace cr := cr.below hb
  have rA := Rd.own ho
  clear ho hb
  go_upto_region 4 with fail
  obtain ⟨co, cv, hb⟩ := Cls.new2 v1 #[.int .u64 1] #[.slice a1 (L D).length c1, .slice (some ⟨v1.heap.size, 0, none⟩) 1 1] 23 85
  have lgv : w.heap.size + 1 + 1 < v1.heap.size := cr.lt
  replace b0 := b0.trans (hb.mono b0.size)
  replace cx := cx.below hb
  replace cd' := cd'.below hb
  replace cr := cr.below hb
  replace rA := rA.below hb
  clear hb
  generalize ((v1.alloc (.cells #[.int .u64 1] 23)).alloc (.cells #[.slice a1 (L D).length c1, .slice (some ⟨v1.heap.size, 0, none⟩) 1 1] 85)) = v2 at *
  generalize v1.heap.size = gv at *
  have rO : Rd v2 (some ⟨gv, 0, none⟩) (L 1) := by
    rw [L_unit]
    intro _
    refine ⟨gv, 0, rfl, fun i hi => ?_⟩
    have hi' : i = 0 := by simp at hi; omega
    subst hi'
    exact co.cell 0 rfl
  have lO : (L 1).length = 1 := by rw [L_unit]; rfl
  have D1 : ∀ v, Below v2.heap.size v2 v → (fun v : World => v.cell? ⟨w.heap.size, 1, none⟩ = some (.bool ng) ∧ v.cell? ⟨w.heap.size + 1, 0, none⟩ = some (.int .i64 (F.p : Int)) ∧ v.cell? ⟨w.heap.size + 1, 1, none⟩ = some (.int .i64 (1 - (F.emax : Int))) ∧ v.cell? ⟨w.heap.size + 1, 2, none⟩ = some (.int .i64 (F.emax : Int)) ∧ v.cell? ⟨w.heap.size + 1, 3, none⟩ = some (.int .i64 (F.wd : Int)) ∧ v.cell? ⟨w.heap.size + 1, 4, none⟩ = some (.int .i64 (F.e : Int)) ∧ v.cell? ⟨w.heap.size + 1, 5, none⟩ = some (.bool F.x) ∧ v.cell? ⟨gv + 1, 0, none⟩ = some (.slice a1 (L D).length c1) ∧ v.cell? ⟨gv + 1, 1, none⟩ = some (.slice (some ⟨gv, 0, none⟩) 1 1)) v := fun v hv => ⟨(cx.below hv).cell 1 rfl, (cd'.below hv).cell 0 rfl, (cd'.below hv).cell 1 rfl, (cd'.below hv).cell 2 rfl, (cd'.below hv).cell 3 rfl, (cd'.below hv).cell 4 rfl, (cd'.below hv).cell 5 rfl, (cv.below hv).cell 0 rfl, (cv.below hv).cell 1 rfl⟩
  have K3 : ∀ (v : World) u4 u5 u6 u7 u8, (fun v : World => v.cell? ⟨w.heap.size, 1, none⟩ = some (.bool ng) ∧ v.cell? ⟨w.heap.size + 1, 0, none⟩ = some (.int .i64 (F.p : Int)) ∧ v.cell? ⟨w.heap.size + 1, 1, none⟩ = some (.int .i64 (1 - (F.emax : Int))) ∧ v.cell? ⟨w.heap.size + 1, 2, none⟩ = some (.int .i64 (F.emax : Int)) ∧ v.cell? ⟨w.heap.size + 1, 3, none⟩ = some (.int .i64 (F.wd : Int)) ∧ v.cell? ⟨w.heap.size + 1, 4, none⟩ = some (.int .i64 (F.e : Int)) ∧ v.cell? ⟨w.heap.size + 1, 5, none⟩ = some (.bool F.x) ∧ v.cell? ⟨gv + 1, 0, none⟩ = some (.slice a1 (L D).length c1) ∧ v.cell? ⟨gv + 1, 1, none⟩ = some (.slice (some ⟨gv, 0, none⟩) 1 1)) v → (fun v : World => v.cell? ⟨w.heap.size, 1, none⟩ = some (.bool ng) ∧ v.cell? ⟨w.heap.size + 1, 0, none⟩ = some (.int .i64 (F.p : Int)) ∧ v.cell? ⟨w.heap.size + 1, 1, none⟩ = some (.int .i64 (1 - (F.emax : Int))) ∧ v.cell? ⟨w.heap.size + 1, 2, none⟩ = some (.int .i64 (F.emax : Int)) ∧ v.cell? ⟨w.heap.size + 1, 3, none⟩ = some (.int .i64 (F.wd : Int)) ∧ v.cell? ⟨w.heap.size + 1, 4, none⟩ = some (.int .i64 (F.e : Int)) ∧ v.cell? ⟨w.heap.size + 1, 5, none⟩ = some (.bool F.x) ∧ v.cell? ⟨gv + 1, 0, none⟩ = some (.slice a1 (L D).length c1) ∧ v.cell? ⟨gv + 1, 1, none⟩ = some (.slice (some ⟨gv, 0, none⟩) 1 1)) (((((v.setCell ⟨w.heap.size + 1 + 1, 0, none⟩ u4).setCell ⟨w.heap.size + 1 + 1, 1, none⟩ u5).setCell ⟨w.heap.size + 1 + 1, 2, none⟩ u6).setCell ⟨w.heap.size + 1 + 1, 3, none⟩ u7).setCell ⟨w.heap.size + 1 + 1, 4, none⟩ u8) := fun v u4 u5 u6 u7 u8 h => ⟨(cfar5 (by omega)).trans h.1, (cfar5 (by omega)).trans h.2.1, (cfar5 (by omega)).trans h.2.2.1, (cfar5 (by omega)).trans h.2.2.2.1, (cfar5 (by omega)).trans h.2.2.2.2.1, (cfar5 (by omega)).trans h.2.2.2.2.2.1, (cfar5 (by omega)).trans h.2.2.2.2.2.2.1, (cfar5 (by omega)).trans h.2.2.2.2.2.2.2.1, (cfar5 (by omega)).trans h.2.2.2.2.2.2.2.2⟩
  have hdr : Below v2.heap.size v2 v2.drew := (Below.refl _ _).drew
  go_region_held3 (fun v : World => v.cell? ⟨w.heap.size, 1, none⟩ = some (.bool ng) ∧ v.cell? ⟨w.heap.size + 1, 0, none⟩ = some (.int .i64 (F.p : Int)) ∧ v.cell? ⟨w.heap.size + 1, 1, none⟩ = some (.int .i64 (1 - (F.emax : Int))) ∧ v.cell? ⟨w.heap.size + 1, 2, none⟩ = some (.int .i64 (F.emax : Int)) ∧ v.cell? ⟨w.heap.size + 1, 3, none⟩ = some (.int .i64 (F.wd : Int)) ∧ v.cell? ⟨w.heap.size + 1, 4, none⟩ = some (.int .i64 (F.e : Int)) ∧ v.cell? ⟨w.heap.size + 1, 5, none⟩ = some (.bool F.x) ∧ v.cell? ⟨gv + 1, 0, none⟩ = some (.slice a1 (L D).length c1) ∧ v.cell? ⟨gv + 1, 1, none⟩ = some (.slice (some ⟨gv, 0, none⟩) 1 1)) (first | (with_reducible exact D1 _ (by assumption)) | (with_reducible exact K3 _ _ _ _ _ _ (D1 _ (by assumption))))
    (first
      | (go_at_call 62; refine (kT _).mono ?_; rintro e t1 ⟨ta, tc, tb, td, rfl, rT, rQ, hbt'⟩; have hb1 := hdr.trans (hbt'.mono (Nat.le_refl _)); clear hbt')
      | (go_at_call 61; refine (times_any a1 (some ⟨gv, 0, none⟩) ta tb c1 1 (L D).length 1 tc td (L P).length (L Q).length D 1 P Q _ rfl lO rfl rfl lD (by omega) lP lQ (rA.below hb1) (rO.below hb1) rT rQ).mono ?_; rintro e t2 ⟨ma, mc, mb, md, he, rM, rN, hbt'⟩; rw [Nat.one_mul] at he rN; subst he; have hb2 := hb1.trans (hbt'.mono hb1.size); clear hbt' hb1)
      | (go_at_call 60; refine (kP _ _ _ _ _ rM rN).mono ?_; rintro e t3 ⟨rfl, hbt'⟩; have hb3 := hb2.trans (hbt'.mono hb2.size); clear hbt' hb2; have r3 := cr.below hb3; have x0 := r3.cell 0 rfl; have x1 := r3.cell 1 rfl; have x2 := r3.cell 2 rfl; have x3 := r3.cell 3 rfl; have x4 := r3.cell 4 rfl; have z0 := r3.frozen 0; have z1 := r3.frozen 1; have z2 := r3.frozen 2; have z3 := r3.frozen 3; have z4 := r3.frozen 4))
  all_goals go_wp2_with fail
  all_goals exact bodyPost_ret (v := .agg #[.int .u64 h, .int .u64 l, .int .i64 cd, .int .i64 off, .int .i64 fl]) (by simp [results, Tryz.results29, go_sem, x0, x1, x2, x3, x4]) rfl ⟨rfl, below5p (b0.trans (hb3.mono b0.size)) _ (by omega) _ _ _ _ _⟩

end Go.Proofs.YtodgblbaclionaaGreatDoor

namespace Go.Proofs.YtodgblbaclionaaGreatDoor

open Go.RowKit

set_option linter.unusedVariables false
set_option maxRecDepth 100000

set_option maxRecDepth 10000 in
set_option maxHeartbeats 2000000 in
theorem parse_fin (f : Int) (ao : Option Addr) (n c : Nat) (w : World) (hm : Fmt w) (F : M.Fm) (kd : Int) (ng : Bool) (dl : Nat) (ex h l cd off fl : Int) (OK : World → Option Addr → Nat → Prop) (okB : ∀ v v' a k, OK v a k → Below v.heap.size v v' → OK v' a k)
    (kS : ∀ v : World, Below w.heap.size w v → Calls Tryz.prog 28 #[.int .i64 f, .slice ao n c] v fun e w' => ∃ a cc, e = .returned (.tuple #[.agg #[.int .i64 kd, .bool ng, .slice a dl cc, .int .i64 ex], .agg #[.int .u64 0, .int .u64 0, .int .i64 0, .int .i64 0, .int .i64 0], .bool false]) ∧ OK w' a cc ∧ Below v.heap.size v w')
    (kE : ∀ v : World, Fmt v → Calls Tryz.prog 16 #[.int .i64 f] v fun e w' => e = .returned (dv F) ∧ Below v.heap.size v w')
    (kR : ∀ (v : World) a cc, OK v a cc → Calls Tryz.prog 29 #[.agg #[.int .i64 kd, .bool ng, .slice a dl cc, .int .i64 ex], dv F] v fun e w' => e = .returned (.agg #[.int .u64 h, .int .u64 l, .int .i64 cd, .int .i64 off, .int .i64 fl]) ∧ Below v.heap.size v w') :
    Calls Tryz.prog 9 #[.int .i64 f, .slice ao n c] w fun e w' => e = .returned (.agg #[.int .u64 h, .int .u64 l, .int .i64 cd, .int .i64 off, .int .i64 fl]) ∧ Below w.heap.size w w' := by
  simp only [dv] at kE kR
  have b0 : Below w.heap.size w (w.alloc (.cells zParP 34)) := (Below.refl _ _).alloc (Nat.le_refl _) _
  have c0 : Cls (w.alloc (.cells zParP 34)) w.heap.size zParP 34 := Cls.new _ _ _
  go_enter Tryz.func9, Tryz.ntmps9
  go_wp2_with fail
  refine (kS _ b0).mono ?_
  rintro e v1 ⟨a, cc, rfl, ho, hb⟩
  obtain ⟨cx, cp, hb2⟩ := Cls.new2 v1 #[.int .i64 kd, .bool ng, .slice a dl cc, .int .i64 ex] #[.int .u64 0, .int .u64 0, .int .i64 0, .int .i64 0, .int .i64 0] 61 34
  have lg : w.heap.size < v1.heap.size := (c0.below hb).lt
  replace ho := okB _ _ _ _ ho hb2
  replace hb := hb.trans (hb2.mono hb.size)
  replace b0 := b0.trans (hb.mono b0.size)
  replace c0 := c0.below hb
  clear hb hb2 cp
  go_upto_region 2 with fail
  generalize ((v1.alloc (.cells #[.int .i64 kd, .bool ng, .slice a dl cc, .int .i64 ex] 61)).alloc (.cells #[.int .u64 0, .int .u64 0, .int .i64 0, .int .i64 0, .int .i64 0] 34)) = v2 at *
  generalize v1.heap.size = gx at *
  go_wp2_with fail
  have D1 : ∀ v, Below v2.heap.size v2 v → (fun v : World => v.cell? ⟨gx, 0, none⟩ = some (.int .i64 kd) ∧ v.cell? ⟨gx, 1, none⟩ = some (.bool ng) ∧ v.cell? ⟨gx, 2, none⟩ = some (.slice a dl cc) ∧ v.cell? ⟨gx, 3, none⟩ = some (.int .i64 ex)) v := fun v hv => ⟨(cx.below hv).cell 0 rfl, (cx.below hv).cell 1 rfl, (cx.below hv).cell 2 rfl, (cx.below hv).cell 3 rfl⟩
  have K3 : ∀ (v : World) u4 u5 u6 u7 u8, (fun v : World => v.cell? ⟨gx, 0, none⟩ = some (.int .i64 kd) ∧ v.cell? ⟨gx, 1, none⟩ = some (.bool ng) ∧ v.cell? ⟨gx, 2, none⟩ = some (.slice a dl cc) ∧ v.cell? ⟨gx, 3, none⟩ = some (.int .i64 ex)) v → (fun v : World => v.cell? ⟨gx, 0, none⟩ = some (.int .i64 kd) ∧ v.cell? ⟨gx, 1, none⟩ = some (.bool ng) ∧ v.cell? ⟨gx, 2, none⟩ = some (.slice a dl cc) ∧ v.cell? ⟨gx, 3, none⟩ = some (.int .i64 ex)) (((((v.setCell ⟨w.heap.size, 0, none⟩ u4).setCell ⟨w.heap.size, 1, none⟩ u5).setCell ⟨w.heap.size, 2, none⟩ u6).setCell ⟨w.heap.size, 3, none⟩ u7).setCell ⟨w.heap.size, 4, none⟩ u8) := fun v u4 u5 u6 u7 u8 h => ⟨(cfar5 (by omega)).trans h.1, (cfar5 (by omega)).trans h.2.1, (cfar5 (by omega)).trans h.2.2.1, (cfar5 (by omega)).trans h.2.2.2⟩
  have hdr : Below v2.heap.size v2 v2.drew := (Below.refl _ _).drew
  have m0 := hm.below b0
  go_region_held3 (fun v : World => v.cell? ⟨gx, 0, none⟩ = some (.int .i64 kd) ∧ v.cell? ⟨gx, 1, none⟩ = some (.bool ng) ∧ v.cell? ⟨gx, 2, none⟩ = some (.slice a dl cc) ∧ v.cell? ⟨gx, 3, none⟩ = some (.int .i64 ex)) (first | (with_reducible exact D1 _ (by assumption)) | (with_reducible exact K3 _ _ _ _ _ _ (D1 _ (by assumption))))
    (first
      | (go_at_call 16; refine (kE _ (m0.below hdr)).mono ?_; rintro e t1 ⟨rfl, hbt'⟩; have hb1 := hdr.trans (hbt'.mono (Nat.le_refl _)); clear hbt')
      | (go_at_call 29; refine (kR _ _ _ (okB _ _ _ _ ho hb1)).mono ?_; rintro e t3 ⟨rfl, hbt'⟩; have hb3 := hb1.trans (hbt'.mono hb1.size); clear hbt' hb1; have r3 := c0.below hb3; have x0 := r3.cell 0 rfl; have x1 := r3.cell 1 rfl; have x2 := r3.cell 2 rfl; have x3 := r3.cell 3 rfl; have x4 := r3.cell 4 rfl; have z0 := r3.frozen 0; have z1 := r3.frozen 1; have z2 := r3.frozen 2; have z3 := r3.frozen 3; have z4 := r3.frozen 4))
  all_goals go_wp2_with fail
  all_goals exact bodyPost_ret (v := .agg #[.int .u64 h, .int .u64 l, .int .i64 cd, .int .i64 off, .int .i64 fl]) (by simp [results, Tryz.results9, go_sem, x0, x1, x2, x3, x4]) rfl ⟨rfl, below5p (b0.trans (hb3.mono b0.size)) _ (Nat.le_refl _) _ _ _ _ _⟩

end Go.Proofs.YtodgblbaclionaaGreatDoor

