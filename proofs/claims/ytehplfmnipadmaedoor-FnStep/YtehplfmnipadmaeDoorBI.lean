import Derived.Test.YtehplfmnipadmaeDoorBH
namespace Go.Proofs.YtehplfmnipadmaeDoor

open Go.RowKit

set_option linter.unusedVariables false
set_option maxRecDepth 100000

/-- The variables of l2Span. -/
structure Cv (w v : World) (gd : Nat) (e0 e1 e2 e3 e4 : Int) (e5 : Bool) (T : M.Pt) : Prop where
  b : Below w.heap.size w v
  d : D6 v gd e0 e1 e2 e3 e4 e5
  p : P5 v w.heap.size T

theorem Cv.below {w v v' : World} {gd : Nat} {e0 e1 e2 e3 e4 : Int} {e5 : Bool} {T : M.Pt} (h : Cv w v gd e0 e1 e2 e3 e4 e5 T) (hb : Below v.heap.size v v') : Cv w v' gd e0 e1 e2 e3 e4 e5 T :=
  ⟨h.b.trans (hb.mono h.b.size), h.d.below hb, h.p.below hb⟩

end Go.Proofs.YtehplfmnipadmaeDoor

namespace Go.Proofs.YtehplfmnipadmaeDoor

open Go.RowKit

set_option linter.unusedVariables false
set_option maxRecDepth 100000

set_option maxRecDepth 100000 in
set_option maxHeartbeats 4000000 in
theorem ibnd_out (f : Int) (X : Nat) (T : M.Pt) (e0 e1 e2 e3 e4 : Int) (e5 : Bool) (w : World) (hm : Fmt w)
    (kE : ∀ v : World, Fmt v → Calls Tryd.prog 37 #[.int .i64 f] v fun e w' => e = .returned (.agg #[.int .i64 e0, .int .i64 e1, .int .i64 e2, .int .i64 e3, .int .i64 e4, .bool e5]) ∧ Below v.heap.size v w')
    (kU : ∀ v : World, Fmt v → Calls Tryd.prog 38 #[.int .i64 f, .agg #[.int .u64 (M.hiN X : Int), .int .u64 (M.loN X : Int)]] v fun e w' => e = .returned (.agg #[.int .i64 T.c, .bool T.n, .int .u64 (M.hiN T.s : Int), .int .u64 (M.loN T.s : Int), .int .i64 T.q]) ∧ Below v.heap.size v w')
    (c2 : ¬ T.c = 2) (c3 : ¬ T.c = 3) :
    Calls Tryd.prog 12 #[.int .i64 f, .agg #[.int .u64 (M.hiN X : Int), .int .u64 (M.loN X : Int)]] w fun e w' => e = .returned (.agg #[.slice none 0 0, .slice none 0 0, .slice none 0 0, .bool false, .bool false]) ∧ Below w.heap.size w w' := by
  have b0 : Below w.heap.size w ((w.alloc (.cells #[.int .u64 (M.hiN X : Int), .int .u64 (M.loN X : Int)] 25)).alloc (.cells #[.slice none 0 0, .slice none 0 0, .slice none 0 0, .bool false, .bool false] 33)) := ((Below.refl _ _).alloc (Nat.le_refl _) _).alloc (by simp) _
  have X0 : W2 ((w.alloc (.cells #[.int .u64 (M.hiN X : Int), .int .u64 (M.loN X : Int)] 25)).alloc (.cells #[.slice none 0 0, .slice none 0 0, .slice none 0 0, .bool false, .bool false] 33)) w.heap.size X := by refine ⟨?_, ?_, ?_, ?_, ?_⟩ <;> simp [go_sem]
  have R0 : I5 ((w.alloc (.cells #[.int .u64 (M.hiN X : Int), .int .u64 (M.loN X : Int)] 25)).alloc (.cells #[.slice none 0 0, .slice none 0 0, .slice none 0 0, .bool false, .bool false] 33)) (w.heap.size + 1) := by
    have := I5_new (w.alloc (.cells #[.int .u64 (M.hiN X : Int), .int .u64 (M.loN X : Int)] 25))
    simpa using this
  generalize hV : ((w.alloc (.cells #[.int .u64 (M.hiN X : Int), .int .u64 (M.loN X : Int)] 25)).alloc (.cells #[.slice none 0 0, .slice none 0 0, .slice none 0 0, .bool false, .bool false] 33)) = v0 at *
  go_enter Tryd.func12, Tryd.ntmps12
  go_upto_region 1 with fail
  clear hV
  go_wp2_with fail
  refine (kE _ (hm.below b0)).mono ?_
  rintro e v1 ⟨rfl, hb1⟩
  replace b0 := b0.trans (hb1.mono b0.size)
  replace X0 := X0.bl hb1
  replace R0 := R0.below hb1
  clear hb1 kE
  go_upto_region 2 with fail
  have bA : Below v1.heap.size v1 (v1.alloc (.cells #[.int .i64 e0, .int .i64 e1, .int .i64 e2, .int .i64 e3, .int .i64 e4, .bool e5] 56)) := (Below.refl _ _).alloc (Nat.le_refl _) _
  have D0 : D6 (v1.alloc (.cells #[.int .i64 e0, .int .i64 e1, .int .i64 e2, .int .i64 e3, .int .i64 e4, .bool e5] 56)) v1.heap.size e0 e1 e2 e3 e4 e5 := D6_new v1 _ _ _ _ _ _ _
  replace b0 := b0.trans (bA.mono b0.size)
  replace X0 := X0.bl bA
  replace R0 := R0.below bA
  clear bA
  generalize (v1.alloc (.cells #[.int .i64 e0, .int .i64 e1, .int .i64 e2, .int .i64 e3, .int .i64 e4, .bool e5] 56)) = v2 at *
  generalize v1.heap.size = gd at *
  obtain ⟨x0, x1, -⟩ := id X0
  go_wp2_with fail
  refine (kU _ (hm.below b0)).mono ?_
  rintro e v3 ⟨rfl, hb3⟩
  replace b0 := b0.trans (hb3.mono b0.size)
  replace R0 := R0.below hb3
  replace D0 := D0.below hb3
  clear hb3 kU x0 x1 X0 hm
  go_upto_region 3 with fail
  have bA : Below v3.heap.size v3 (v3.alloc (.cells #[.int .i64 T.c, .bool T.n, .int .u64 (M.hiN T.s : Int), .int .u64 (M.loN T.s : Int), .int .i64 T.q] 49)) := (Below.refl _ _).alloc (Nat.le_refl _) _
  have P0 : P5 (v3.alloc (.cells #[.int .i64 T.c, .bool T.n, .int .u64 (M.hiN T.s : Int), .int .u64 (M.loN T.s : Int), .int .i64 T.q] 49)) v3.heap.size T := P5_new v3 T
  replace b0 := b0.trans (bA.mono b0.size)
  replace R0 := R0.below bA
  replace D0 := D0.below bA
  clear bA
  generalize (v3.alloc (.cells #[.int .i64 T.c, .bool T.n, .int .u64 (M.hiN T.s : Int), .int .u64 (M.loN T.s : Int), .int .i64 T.q] 49)) = v4 at *
  generalize v3.heap.size = gp at *
  obtain ⟨p0, p1, p2, p3, p4, -⟩ := id P0
  have x2 : (T.c == 2) = false := by simp [c2]
  have x3 : (T.c == 3) = false := by simp [c3]
  have y2 : (T.c != 2) = true := by simp [c2]
  have y3 : (T.c != 3) = true := by simp [c3]
  clear P0 D0
  have HB := hid (below5 b0 (show w.heap.size ≤ w.heap.size + 1 by omega) (.slice none 0 0) (.slice none 0 0) (.slice none 0 0) (.bool false) (.bool false))
  obtain ⟨r0, r1, r2, r3, r4, f0, f1, f2, f3, f4, -⟩ := id R0
  clear b0 R0
  go_wp2_with fail
  exact bodyPost_ret (v := .agg #[.slice none 0 0, .slice none 0 0, .slice none 0 0, .bool false, .bool false]) (by simp [results, Tryd.results12, go_sem, r0, r1, r2, r3, r4]) rfl ⟨rfl, HB.out⟩

set_option maxRecDepth 100000 in
set_option maxHeartbeats 4000000 in
theorem ibnd_in2 (f : Int) (X : Nat) (T : M.Pt) (e0 e1 e2 e3 e4 : Int) (e5 : Bool) (w : World) (hm : Fmt w)
    (kE : ∀ v : World, Fmt v → Calls Tryd.prog 37 #[.int .i64 f] v fun e w' => e = .returned (.agg #[.int .i64 e0, .int .i64 e1, .int .i64 e2, .int .i64 e3, .int .i64 e4, .bool e5]) ∧ Below v.heap.size v w')
    (kU : ∀ v : World, Fmt v → Calls Tryd.prog 38 #[.int .i64 f, .agg #[.int .u64 (M.hiN X : Int), .int .u64 (M.loN X : Int)]] v fun e w' => e = .returned (.agg #[.int .i64 T.c, .bool T.n, .int .u64 (M.hiN T.s : Int), .int .u64 (M.loN T.s : Int), .int .i64 T.q]) ∧ Below v.heap.size v w')
    (A B C : Nat) (cl : Bool) (kB : ∀ v : World, Calls Tryd.prog 46 #[.agg #[.int .i64 e0, .int .i64 e1, .int .i64 e2, .int .i64 e3, .int .i64 e4, .bool e5], .agg #[.int .i64 T.c, .bool T.n, .int .u64 (M.hiN T.s : Int), .int .u64 (M.loN T.s : Int), .int .i64 T.q]] v fun e w' => Iv v w' e A B C cl) (hc : Hid (T.c = 2)) :
    Calls Tryd.prog 12 #[.int .i64 f, .agg #[.int .u64 (M.hiN X : Int), .int .u64 (M.loN X : Int)]] w fun e w' => Iv w w' e A B C cl := by
  have b0 : Below w.heap.size w ((w.alloc (.cells #[.int .u64 (M.hiN X : Int), .int .u64 (M.loN X : Int)] 25)).alloc (.cells #[.slice none 0 0, .slice none 0 0, .slice none 0 0, .bool false, .bool false] 33)) := ((Below.refl _ _).alloc (Nat.le_refl _) _).alloc (by simp) _
  have X0 : W2 ((w.alloc (.cells #[.int .u64 (M.hiN X : Int), .int .u64 (M.loN X : Int)] 25)).alloc (.cells #[.slice none 0 0, .slice none 0 0, .slice none 0 0, .bool false, .bool false] 33)) w.heap.size X := by refine ⟨?_, ?_, ?_, ?_, ?_⟩ <;> simp [go_sem]
  have R0 : I5 ((w.alloc (.cells #[.int .u64 (M.hiN X : Int), .int .u64 (M.loN X : Int)] 25)).alloc (.cells #[.slice none 0 0, .slice none 0 0, .slice none 0 0, .bool false, .bool false] 33)) (w.heap.size + 1) := by
    have := I5_new (w.alloc (.cells #[.int .u64 (M.hiN X : Int), .int .u64 (M.loN X : Int)] 25))
    simpa using this
  generalize hV : ((w.alloc (.cells #[.int .u64 (M.hiN X : Int), .int .u64 (M.loN X : Int)] 25)).alloc (.cells #[.slice none 0 0, .slice none 0 0, .slice none 0 0, .bool false, .bool false] 33)) = v0 at *
  go_enter Tryd.func12, Tryd.ntmps12
  go_upto_region 1 with fail
  clear hV
  go_wp2_with fail
  refine (kE _ (hm.below b0)).mono ?_
  rintro e v1 ⟨rfl, hb1⟩
  replace b0 := b0.trans (hb1.mono b0.size)
  replace X0 := X0.bl hb1
  replace R0 := R0.below hb1
  clear hb1 kE
  go_upto_region 2 with fail
  have bA : Below v1.heap.size v1 (v1.alloc (.cells #[.int .i64 e0, .int .i64 e1, .int .i64 e2, .int .i64 e3, .int .i64 e4, .bool e5] 56)) := (Below.refl _ _).alloc (Nat.le_refl _) _
  have D0 : D6 (v1.alloc (.cells #[.int .i64 e0, .int .i64 e1, .int .i64 e2, .int .i64 e3, .int .i64 e4, .bool e5] 56)) v1.heap.size e0 e1 e2 e3 e4 e5 := D6_new v1 _ _ _ _ _ _ _
  replace b0 := b0.trans (bA.mono b0.size)
  replace X0 := X0.bl bA
  replace R0 := R0.below bA
  clear bA
  generalize (v1.alloc (.cells #[.int .i64 e0, .int .i64 e1, .int .i64 e2, .int .i64 e3, .int .i64 e4, .bool e5] 56)) = v2 at *
  generalize v1.heap.size = gd at *
  obtain ⟨x0, x1, -⟩ := id X0
  go_wp2_with fail
  refine (kU _ (hm.below b0)).mono ?_
  rintro e v3 ⟨rfl, hb3⟩
  replace b0 := b0.trans (hb3.mono b0.size)
  replace R0 := R0.below hb3
  replace D0 := D0.below hb3
  clear hb3 kU x0 x1 X0 hm
  go_upto_region 3 with fail
  have bA : Below v3.heap.size v3 (v3.alloc (.cells #[.int .i64 T.c, .bool T.n, .int .u64 (M.hiN T.s : Int), .int .u64 (M.loN T.s : Int), .int .i64 T.q] 49)) := (Below.refl _ _).alloc (Nat.le_refl _) _
  have P0 : P5 (v3.alloc (.cells #[.int .i64 T.c, .bool T.n, .int .u64 (M.hiN T.s : Int), .int .u64 (M.loN T.s : Int), .int .i64 T.q] 49)) v3.heap.size T := P5_new v3 T
  replace b0 := b0.trans (bA.mono b0.size)
  replace R0 := R0.below bA
  replace D0 := D0.below bA
  clear bA
  generalize (v3.alloc (.cells #[.int .i64 T.c, .bool T.n, .int .u64 (M.hiN T.s : Int), .int .u64 (M.loN T.s : Int), .int .i64 T.q] 49)) = v4 at *
  generalize v3.heap.size = gp at *
  obtain ⟨p0, p1, p2, p3, p4, -⟩ := id P0
  obtain ⟨d0, d1, d2, d3, d4, d5, -⟩ := id D0
  clear P0 D0
  have hcc := hc.out
  rw [hcc] at p0 kB
  clear hcc
  go_wp2_with fail
  refine (kB _).mono ?_
  rintro e v5 ⟨a1, c1, a2, c2, a3, c3, m1, m2, rfl, g1, g2, g3, oA, oB, oC, hb5⟩
  clear kB p0 p1 p2 p3 p4 d0 d1 d2 d3 d4 d5
  have lt5 := R0.lt
  have lb5 := b0.size
  replace R0 := R0.below hb5
  have HB := hid (below5 (b0.trans (hb5.mono b0.size)) (show w.heap.size ≤ w.heap.size + 1 by omega) (.slice a1 (L A).length c1) (.slice a2 (L B).length c2) (.slice a3 (L C).length c3) (.bool cl) (.bool true))
  have HA := hid (oA.set5 (g := w.heap.size + 1) lt5 (.slice a1 (L A).length c1) (.slice a2 (L B).length c2) (.slice a3 (L C).length c3) (.bool cl) (.bool true))
  have HO := hid (oB.set5 (g := w.heap.size + 1) (Nat.lt_of_lt_of_le lt5 g1) (.slice a1 (L A).length c1) (.slice a2 (L B).length c2) (.slice a3 (L C).length c3) (.bool cl) (.bool true))
  have HC := hid (oC.set5 (g := w.heap.size + 1) (Nat.lt_of_lt_of_le lt5 (Nat.le_trans g1 g2)) (.slice a1 (L A).length c1) (.slice a2 (L B).length c2) (.slice a3 (L C).length c3) (.bool cl) (.bool true))
  have HS := hid (And.intro (Nat.le_trans lb5 g1) (And.intro g2 g3))
  have HL := hid lb5
  obtain ⟨r0, r1, r2, r3, r4, f0, f1, f2, f3, f4, -⟩ := id R0
  clear b0 R0 hb5 oA oB oC g1 g2 g3 lt5 lb5
  go_wp2_with fail
  refine bodyPost_ret (v := .agg #[.slice a1 (L A).length c1, .slice a2 (L B).length c2, .slice a3 (L C).length c3, .bool cl, .bool true]) (by simp [results, Tryd.results12, go_sem, r0, r1, r2, r3, r4]) rfl ?_
  exact ⟨a1, c1, a2, c2, a3, c3, m1, m2, rfl, HS.out.1, HS.out.2.1, by simpa using HS.out.2.2, HA.out.wide HL.out (Nat.le_refl _), HO.out, HC.out.wide (Nat.le_refl _) (by simp), HB.out⟩

set_option maxRecDepth 100000 in
set_option maxHeartbeats 4000000 in
theorem ibnd_in3 (f : Int) (X : Nat) (T : M.Pt) (e0 e1 e2 e3 e4 : Int) (e5 : Bool) (w : World) (hm : Fmt w)
    (kE : ∀ v : World, Fmt v → Calls Tryd.prog 37 #[.int .i64 f] v fun e w' => e = .returned (.agg #[.int .i64 e0, .int .i64 e1, .int .i64 e2, .int .i64 e3, .int .i64 e4, .bool e5]) ∧ Below v.heap.size v w')
    (kU : ∀ v : World, Fmt v → Calls Tryd.prog 38 #[.int .i64 f, .agg #[.int .u64 (M.hiN X : Int), .int .u64 (M.loN X : Int)]] v fun e w' => e = .returned (.agg #[.int .i64 T.c, .bool T.n, .int .u64 (M.hiN T.s : Int), .int .u64 (M.loN T.s : Int), .int .i64 T.q]) ∧ Below v.heap.size v w')
    (A B C : Nat) (cl : Bool) (kB : ∀ v : World, Calls Tryd.prog 46 #[.agg #[.int .i64 e0, .int .i64 e1, .int .i64 e2, .int .i64 e3, .int .i64 e4, .bool e5], .agg #[.int .i64 T.c, .bool T.n, .int .u64 (M.hiN T.s : Int), .int .u64 (M.loN T.s : Int), .int .i64 T.q]] v fun e w' => Iv v w' e A B C cl) (hc : Hid (T.c = 3)) :
    Calls Tryd.prog 12 #[.int .i64 f, .agg #[.int .u64 (M.hiN X : Int), .int .u64 (M.loN X : Int)]] w fun e w' => Iv w w' e A B C cl := by
  have b0 : Below w.heap.size w ((w.alloc (.cells #[.int .u64 (M.hiN X : Int), .int .u64 (M.loN X : Int)] 25)).alloc (.cells #[.slice none 0 0, .slice none 0 0, .slice none 0 0, .bool false, .bool false] 33)) := ((Below.refl _ _).alloc (Nat.le_refl _) _).alloc (by simp) _
  have X0 : W2 ((w.alloc (.cells #[.int .u64 (M.hiN X : Int), .int .u64 (M.loN X : Int)] 25)).alloc (.cells #[.slice none 0 0, .slice none 0 0, .slice none 0 0, .bool false, .bool false] 33)) w.heap.size X := by refine ⟨?_, ?_, ?_, ?_, ?_⟩ <;> simp [go_sem]
  have R0 : I5 ((w.alloc (.cells #[.int .u64 (M.hiN X : Int), .int .u64 (M.loN X : Int)] 25)).alloc (.cells #[.slice none 0 0, .slice none 0 0, .slice none 0 0, .bool false, .bool false] 33)) (w.heap.size + 1) := by
    have := I5_new (w.alloc (.cells #[.int .u64 (M.hiN X : Int), .int .u64 (M.loN X : Int)] 25))
    simpa using this
  generalize hV : ((w.alloc (.cells #[.int .u64 (M.hiN X : Int), .int .u64 (M.loN X : Int)] 25)).alloc (.cells #[.slice none 0 0, .slice none 0 0, .slice none 0 0, .bool false, .bool false] 33)) = v0 at *
  go_enter Tryd.func12, Tryd.ntmps12
  go_upto_region 1 with fail
  clear hV
  go_wp2_with fail
  refine (kE _ (hm.below b0)).mono ?_
  rintro e v1 ⟨rfl, hb1⟩
  replace b0 := b0.trans (hb1.mono b0.size)
  replace X0 := X0.bl hb1
  replace R0 := R0.below hb1
  clear hb1 kE
  go_upto_region 2 with fail
  have bA : Below v1.heap.size v1 (v1.alloc (.cells #[.int .i64 e0, .int .i64 e1, .int .i64 e2, .int .i64 e3, .int .i64 e4, .bool e5] 56)) := (Below.refl _ _).alloc (Nat.le_refl _) _
  have D0 : D6 (v1.alloc (.cells #[.int .i64 e0, .int .i64 e1, .int .i64 e2, .int .i64 e3, .int .i64 e4, .bool e5] 56)) v1.heap.size e0 e1 e2 e3 e4 e5 := D6_new v1 _ _ _ _ _ _ _
  replace b0 := b0.trans (bA.mono b0.size)
  replace X0 := X0.bl bA
  replace R0 := R0.below bA
  clear bA
  generalize (v1.alloc (.cells #[.int .i64 e0, .int .i64 e1, .int .i64 e2, .int .i64 e3, .int .i64 e4, .bool e5] 56)) = v2 at *
  generalize v1.heap.size = gd at *
  obtain ⟨x0, x1, -⟩ := id X0
  go_wp2_with fail
  refine (kU _ (hm.below b0)).mono ?_
  rintro e v3 ⟨rfl, hb3⟩
  replace b0 := b0.trans (hb3.mono b0.size)
  replace R0 := R0.below hb3
  replace D0 := D0.below hb3
  clear hb3 kU x0 x1 X0 hm
  go_upto_region 3 with fail
  have bA : Below v3.heap.size v3 (v3.alloc (.cells #[.int .i64 T.c, .bool T.n, .int .u64 (M.hiN T.s : Int), .int .u64 (M.loN T.s : Int), .int .i64 T.q] 49)) := (Below.refl _ _).alloc (Nat.le_refl _) _
  have P0 : P5 (v3.alloc (.cells #[.int .i64 T.c, .bool T.n, .int .u64 (M.hiN T.s : Int), .int .u64 (M.loN T.s : Int), .int .i64 T.q] 49)) v3.heap.size T := P5_new v3 T
  replace b0 := b0.trans (bA.mono b0.size)
  replace R0 := R0.below bA
  replace D0 := D0.below bA
  clear bA
  generalize (v3.alloc (.cells #[.int .i64 T.c, .bool T.n, .int .u64 (M.hiN T.s : Int), .int .u64 (M.loN T.s : Int), .int .i64 T.q] 49)) = v4 at *
  generalize v3.heap.size = gp at *
  obtain ⟨p0, p1, p2, p3, p4, -⟩ := id P0
  obtain ⟨d0, d1, d2, d3, d4, d5, -⟩ := id D0
  clear P0 D0
  have hcc := hc.out
  rw [hcc] at p0 kB
  clear hcc
  go_wp2_with fail
  refine (kB _).mono ?_
  rintro e v5 ⟨a1, c1, a2, c2, a3, c3, m1, m2, rfl, g1, g2, g3, oA, oB, oC, hb5⟩
  clear kB p0 p1 p2 p3 p4 d0 d1 d2 d3 d4 d5
  have lt5 := R0.lt
  have lb5 := b0.size
  replace R0 := R0.below hb5
  have HB := hid (below5 (b0.trans (hb5.mono b0.size)) (show w.heap.size ≤ w.heap.size + 1 by omega) (.slice a1 (L A).length c1) (.slice a2 (L B).length c2) (.slice a3 (L C).length c3) (.bool cl) (.bool true))
  have HA := hid (oA.set5 (g := w.heap.size + 1) lt5 (.slice a1 (L A).length c1) (.slice a2 (L B).length c2) (.slice a3 (L C).length c3) (.bool cl) (.bool true))
  have HO := hid (oB.set5 (g := w.heap.size + 1) (Nat.lt_of_lt_of_le lt5 g1) (.slice a1 (L A).length c1) (.slice a2 (L B).length c2) (.slice a3 (L C).length c3) (.bool cl) (.bool true))
  have HC := hid (oC.set5 (g := w.heap.size + 1) (Nat.lt_of_lt_of_le lt5 (Nat.le_trans g1 g2)) (.slice a1 (L A).length c1) (.slice a2 (L B).length c2) (.slice a3 (L C).length c3) (.bool cl) (.bool true))
  have HS := hid (And.intro (Nat.le_trans lb5 g1) (And.intro g2 g3))
  have HL := hid lb5
  obtain ⟨r0, r1, r2, r3, r4, f0, f1, f2, f3, f4, -⟩ := id R0
  clear b0 R0 hb5 oA oB oC g1 g2 g3 lt5 lb5
  go_wp2_with fail
  refine bodyPost_ret (v := .agg #[.slice a1 (L A).length c1, .slice a2 (L B).length c2, .slice a3 (L C).length c3, .bool cl, .bool true]) (by simp [results, Tryd.results12, go_sem, r0, r1, r2, r3, r4]) rfl ?_
  exact ⟨a1, c1, a2, c2, a3, c3, m1, m2, rfl, HS.out.1, HS.out.2.1, by simpa using HS.out.2.2, HA.out.wide HL.out (Nat.le_refl _), HO.out, HC.out.wide (Nat.le_refl _) (by simp), HB.out⟩

end Go.Proofs.YtehplfmnipadmaeDoor

