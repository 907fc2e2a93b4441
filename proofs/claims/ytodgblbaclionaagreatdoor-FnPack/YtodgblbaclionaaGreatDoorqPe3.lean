import Derived.Test.YtodgblbaclionaaGreatDoorqPe2
namespace Go.Proofs.YtodgblbaclionaaGreatDoor

open Go.RowKit

set_option linter.unusedVariables false
set_option maxRecDepth 100000

theorem Cls.new2 (v : World) (xs ys : Array Value) (t s : TypeId) : Cls ((v.alloc (.cells xs t)).alloc (.cells ys s)) v.heap.size xs t ∧ Cls ((v.alloc (.cells xs t)).alloc (.cells ys s)) (v.heap.size + 1) ys s ∧ Below v.heap.size v ((v.alloc (.cells xs t)).alloc (.cells ys s)) := by
  have b1 : Below v.heap.size v (v.alloc (.cells xs t)) := (Below.refl _ _).alloc (Nat.le_refl _) _
  have b2 : Below (v.alloc (.cells xs t)).heap.size (v.alloc (.cells xs t)) ((v.alloc (.cells xs t)).alloc (.cells ys s)) := (Below.refl _ _).alloc (Nat.le_refl _) _
  refine ⟨(Cls.new v xs t).below b2, ?_, b1.trans (b2.mono b1.size)⟩
  have := Cls.new (v.alloc (.cells xs t)) ys s
  rwa [World.size_alloc] at this

theorem below5p {B : Nat} {w W : World} (h : Below B w W) (g : Nat) (hg : B ≤ g) (a b c d e : Value) : Below B w (((((W.setCell ⟨g, 0, none⟩ a).setCell ⟨g, 1, none⟩ b).setCell ⟨g, 2, none⟩ c).setCell ⟨g, 3, none⟩ d).setCell ⟨g, 4, none⟩ e) :=
  ((((h.setCell (p := ⟨g, 0, none⟩) hg _).setCell (p := ⟨g, 1, none⟩) hg _).setCell (p := ⟨g, 2, none⟩) hg _).setCell (p := ⟨g, 3, none⟩) hg _).setCell (p := ⟨g, 4, none⟩) hg _

set_option maxRecDepth 10000 in
set_option maxHeartbeats 2000000 in
theorem parse_settled (f : Int) (ao : Option Addr) (n c : Nat) (w : World) (kd : Int) (ng : Bool) (dl : Nat) (ex h l cd off fl : Int)
    (kS : ∀ v : World, Below w.heap.size w v → Calls Tryz.prog 28 #[.int .i64 f, .slice ao n c] v fun e w' => ∃ a cc, e = .returned (.tuple #[.agg #[.int .i64 kd, .bool ng, .slice a dl cc, .int .i64 ex], .agg #[.int .u64 h, .int .u64 l, .int .i64 cd, .int .i64 off, .int .i64 fl], .bool true]) ∧ Below v.heap.size v w') :
    Calls Tryz.prog 9 #[.int .i64 f, .slice ao n c] w fun e w' => e = .returned (.agg #[.int .u64 h, .int .u64 l, .int .i64 cd, .int .i64 off, .int .i64 fl]) ∧ Below w.heap.size w w' := by
  have b0 : Below w.heap.size w (w.alloc (.cells zParP 34)) := (Below.refl _ _).alloc (Nat.le_refl _) _
  have c0 : Cls (w.alloc (.cells zParP 34)) w.heap.size zParP 34 := Cls.new _ _ _
  go_enter Tryz.func9, Tryz.ntmps9
  go_wp2_with fail
  refine (kS _ b0).mono ?_
  rintro e v1 ⟨a, cc, rfl, hb⟩
  obtain ⟨cx, cp, hb2⟩ := Cls.new2 v1 #[.int .i64 kd, .bool ng, .slice a dl cc, .int .i64 ex] #[.int .u64 h, .int .u64 l, .int .i64 cd, .int .i64 off, .int .i64 fl] 61 34
  replace hb := hb.trans (hb2.mono hb.size)
  replace b0 := b0.trans (hb.mono b0.size)
  replace c0 := c0.below hb
  clear hb hb2
  go_upto_region 2 with fail
  generalize ((v1.alloc (.cells #[.int .i64 kd, .bool ng, .slice a dl cc, .int .i64 ex] 61)).alloc (.cells #[.int .u64 h, .int .u64 l, .int .i64 cd, .int .i64 off, .int .i64 fl] 34)) = v2 at *
  generalize v1.heap.size = gx at *
  have RB := hid (below5p b0 _ (Nat.le_refl _) (.int .u64 h) (.int .u64 l) (.int .i64 cd) (.int .i64 off) (.int .i64 fl))
  have x0 := c0.cell 0 rfl
  have x1 := c0.cell 1 rfl
  have x2 := c0.cell 2 rfl
  have x3 := c0.cell 3 rfl
  have x4 := c0.cell 4 rfl
  have z0 := c0.frozen 0
  have z1 := c0.frozen 1
  have z2 := c0.frozen 2
  have z3 := c0.frozen 3
  have z4 := c0.frozen 4
  have y0 := cp.cell 0 rfl
  have y1 := cp.cell 1 rfl
  have y2 := cp.cell 2 rfl
  have y3 := cp.cell 3 rfl
  have y4 := cp.cell 4 rfl
  clear b0 c0 cp
  go_wp2_with fail
  exact bodyPost_ret (v := .agg #[.int .u64 h, .int .u64 l, .int .i64 cd, .int .i64 off, .int .i64 fl]) (by simp [results, Tryz.results9, go_sem, x0, x1, x2, x3, x4]) rfl ⟨rfl, RB.out⟩

end Go.Proofs.YtodgblbaclionaaGreatDoor

