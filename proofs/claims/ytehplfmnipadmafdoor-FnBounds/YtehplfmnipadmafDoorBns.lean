import Derived.Test.YtehplfmnipadmafDoorBH
namespace Go.Proofs.YtehplfmnipadmafDoor

open Go.RowKit

set_option linter.unusedVariables false
set_option maxRecDepth 100000

set_option maxRecDepth 100000 in
set_option maxHeartbeats 4000000 in
theorem ibnd_out (f : Int) (X : Nat) (T : M.Pt) (e0 e1 e2 e3 e4 : Int) (e5 : Bool) (w : World) (hm : Fmt w)
    (kE : ∀ v : World, Fmt v → Calls Tryd.prog 23 #[.int .i64 f] v fun e w' => e = .returned (.agg #[.int .i64 e0, .int .i64 e1, .int .i64 e2, .int .i64 e3, .int .i64 e4, .bool e5]) ∧ Below v.heap.size v w')
    (kU : ∀ v : World, Fmt v → Calls Tryd.prog 16 #[.int .i64 f, .agg #[.int .u64 (M.hiN X : Int), .int .u64 (M.loN X : Int)]] v fun e w' => e = .returned (.agg #[.int .i64 T.c, .bool T.n, .int .u64 (M.hiN T.s : Int), .int .u64 (M.loN T.s : Int), .int .i64 T.q]) ∧ Below v.heap.size v w')
    (c2 : ¬ T.c = 2) (c3 : ¬ T.c = 3) :
    Calls Tryd.prog 6 #[.int .i64 f, .agg #[.int .u64 (M.hiN X : Int), .int .u64 (M.loN X : Int)]] w fun e w' => e = .returned (.agg #[.slice none 0 0, .slice none 0 0, .slice none 0 0, .bool false, .bool false]) ∧ Below w.heap.size w w' := by
  have b0 : Below w.heap.size w ((w.alloc (.cells #[.int .u64 (M.hiN X : Int), .int .u64 (M.loN X : Int)] 25)).alloc (.cells #[.slice none 0 0, .slice none 0 0, .slice none 0 0, .bool false, .bool false] 30)) := ((Below.refl _ _).alloc (Nat.le_refl _) _).alloc (by simp) _
  have X0 : W2 ((w.alloc (.cells #[.int .u64 (M.hiN X : Int), .int .u64 (M.loN X : Int)] 25)).alloc (.cells #[.slice none 0 0, .slice none 0 0, .slice none 0 0, .bool false, .bool false] 30)) w.heap.size X := by refine ⟨?_, ?_, ?_, ?_, ?_⟩ <;> simp [go_sem]
  have R0 : I5 ((w.alloc (.cells #[.int .u64 (M.hiN X : Int), .int .u64 (M.loN X : Int)] 25)).alloc (.cells #[.slice none 0 0, .slice none 0 0, .slice none 0 0, .bool false, .bool false] 30)) (w.heap.size + 1) := by
    have := I5_new (w.alloc (.cells #[.int .u64 (M.hiN X : Int), .int .u64 (M.loN X : Int)] 25))
    simpa using this
  generalize hV : ((w.alloc (.cells #[.int .u64 (M.hiN X : Int), .int .u64 (M.loN X : Int)] 25)).alloc (.cells #[.slice none 0 0, .slice none 0 0, .slice none 0 0, .bool false, .bool false] 30)) = v0 at *
  go_enter Tryd.func6, Tryd.ntmps6
  go_upto_region 1 with fail
  clear hV
  go_wp2_with fail
  refine (kE _ (hm.below b0)).mono ?_
  rintro e v1 ⟨rfl, hb1⟩
  replace b0 := b0.trans (hb1.mono b0.size)
  replace X0 := X0.bl hb1
  replace R0 := R0.below hb1
  clear hb1 kE
  go_upto_region 2 with fail
  have bA : Below v1.heap.size v1 (v1.alloc (.cells #[.int .i64 e0, .int .i64 e1, .int .i64 e2, .int .i64 e3, .int .i64 e4, .bool e5] 53)) := (Below.refl _ _).alloc (Nat.le_refl _) _
  have D0 : D6 (v1.alloc (.cells #[.int .i64 e0, .int .i64 e1, .int .i64 e2, .int .i64 e3, .int .i64 e4, .bool e5] 53)) v1.heap.size e0 e1 e2 e3 e4 e5 := D6_new v1 _ _ _ _ _ _ _
  replace b0 := b0.trans (bA.mono b0.size)
  replace X0 := X0.bl bA
  replace R0 := R0.below bA
  clear bA
  generalize (v1.alloc (.cells #[.int .i64 e0, .int .i64 e1, .int .i64 e2, .int .i64 e3, .int .i64 e4, .bool e5] 53)) = v2 at *
  generalize v1.heap.size = gd at *
  obtain ⟨x0, x1, -⟩ := id X0
  go_wp2_with fail
  refine (kU _ (hm.below b0)).mono ?_
  rintro e v3 ⟨rfl, hb3⟩
  replace b0 := b0.trans (hb3.mono b0.size)
  replace R0 := R0.below hb3
  replace D0 := D0.below hb3
  clear hb3 kU x0 x1 X0 hm
  go_upto_region 3 with fail
  have bA : Below v3.heap.size v3 (v3.alloc (.cells #[.int .i64 T.c, .bool T.n, .int .u64 (M.hiN T.s : Int), .int .u64 (M.loN T.s : Int), .int .i64 T.q] 33)) := (Below.refl _ _).alloc (Nat.le_refl _) _
  have P0 : P5 (v3.alloc (.cells #[.int .i64 T.c, .bool T.n, .int .u64 (M.hiN T.s : Int), .int .u64 (M.loN T.s : Int), .int .i64 T.q] 33)) v3.heap.size T := P5_new v3 T
  replace b0 := b0.trans (bA.mono b0.size)
  replace R0 := R0.below bA
  replace D0 := D0.below bA
  clear bA
  generalize (v3.alloc (.cells #[.int .i64 T.c, .bool T.n, .int .u64 (M.hiN T.s : Int), .int .u64 (M.loN T.s : Int), .int .i64 T.q] 33)) = v4 at *
  generalize v3.heap.size = gp at *
  obtain ⟨p0, p1, p2, p3, p4, -⟩ := id P0
  have x2 : (T.c == 2) = false := by simp [c2]
  have x3 : (T.c == 3) = false := by simp [c3]
  have y2 : (T.c != 2) = true := by simp [c2]
  have y3 : (T.c != 3) = true := by simp [c3]
  clear P0 D0
  have HB := hid (below5 b0 (show w.heap.size ≤ w.heap.size + 1 by omega) (.slice none 0 0) (.slice none 0 0) (.slice none 0 0) (.bool false) (.bool false))
  obtain ⟨r0, r1, r2, r3, r4, f0, f1, f2, f3, f4, -⟩ := id R0
  clear b0 R0
  go_wp2_with fail
  exact bodyPost_ret (v := .agg #[.slice none 0 0, .slice none 0 0, .slice none 0 0, .bool false, .bool false]) (by simp [results, Tryd.results6, go_sem, r0, r1, r2, r3, r4]) rfl ⟨rfl, HB.out⟩

set_option maxRecDepth 100000 in
set_option maxHeartbeats 4000000 in
theorem ibnd_in2 (f : Int) (X : Nat) (T : M.Pt) (e0 e1 e2 e3 e4 : Int) (e5 : Bool) (w : World) (hm : Fmt w)
    (kE : ∀ v : World, Fmt v → Calls Tryd.prog 23 #[.int .i64 f] v fun e w' => e = .returned (.agg #[.int .i64 e0, .int .i64 e1, .int .i64 e2, .int .i64 e3, .int .i64 e4, .bool e5]) ∧ Below v.heap.size v w')
    (kU : ∀ v : World, Fmt v → Calls Tryd.prog 16 #[.int .i64 f, .agg #[.int .u64 (M.hiN X : Int), .int .u64 (M.loN X : Int)]] v fun e w' => e = .returned (.agg #[.int .i64 T.c, .bool T.n, .int .u64 (M.hiN T.s : Int), .int .u64 (M.loN T.s : Int), .int .i64 T.q]) ∧ Below v.heap.size v w')
    (A B C : Nat) (cl : Bool) (kB : ∀ v : World, Calls Tryd.prog 24 #[.agg #[.int .i64 e0, .int .i64 e1, .int .i64 e2, .int .i64 e3, .int .i64 e4, .bool e5], .agg #[.int .i64 T.c, .bool T.n, .int .u64 (M.hiN T.s : Int), .int .u64 (M.loN T.s : Int), .int .i64 T.q]] v fun e w' => Iv v w' e A B C cl) (hc : Hid (T.c = 2)) :
    Calls Tryd.prog 6 #[.int .i64 f, .agg #[.int .u64 (M.hiN X : Int), .int .u64 (M.loN X : Int)]] w fun e w' => Iv w w' e A B C cl := by
  have b0 : Below w.heap.size w ((w.alloc (.cells #[.int .u64 (M.hiN X : Int), .int .u64 (M.loN X : Int)] 25)).alloc (.cells #[.slice none 0 0, .slice none 0 0, .slice none 0 0, .bool false, .bool false] 30)) := ((Below.refl _ _).alloc (Nat.le_refl _) _).alloc (by simp) _
  have X0 : W2 ((w.alloc (.cells #[.int .u64 (M.hiN X : Int), .int .u64 (M.loN X : Int)] 25)).alloc (.cells #[.slice none 0 0, .slice none 0 0, .slice none 0 0, .bool false, .bool false] 30)) w.heap.size X := by refine ⟨?_, ?_, ?_, ?_, ?_⟩ <;> simp [go_sem]
  have R0 : I5 ((w.alloc (.cells #[.int .u64 (M.hiN X : Int), .int .u64 (M.loN X : Int)] 25)).alloc (.cells #[.slice none 0 0, .slice none 0 0, .slice none 0 0, .bool false, .bool false] 30)) (w.heap.size + 1) := by
    have := I5_new (w.alloc (.cells #[.int .u64 (M.hiN X : Int), .int .u64 (M.loN X : Int)] 25))
    simpa using this
  generalize hV : ((w.alloc (.cells #[.int .u64 (M.hiN X : Int), .int .u64 (M.loN X : Int)] 25)).alloc (.cells #[.slice none 0 0, .slice none 0 0, .slice none 0 0, .bool false, .bool false] 30)) = v0 at *
  go_enter Tryd.func6, Tryd.ntmps6
  go_upto_region 1 with fail
  clear hV
  go_wp2_with fail
  refine (kE _ (hm.below b0)).mono ?_
  rintro e v1 ⟨rfl, hb1⟩
  replace b0 := b0.trans (hb1.mono b0.size)
  replace X0 := X0.bl hb1
  replace R0 := R0.below hb1
  clear hb1 kE
  go_upto_region 2 with fail
  have bA : Below v1.heap.size v1 (v1.alloc (.cells #[.int .i64 e0, .int .i64 e1, .int .i64 e2, .int .i64 e3, .int .i64 e4, .bool e5] 53)) := (Below.refl _ _).alloc (Nat.le_refl _) _
  have D0 : D6 (v1.alloc (.cells #[.int .i64 e0, .int .i64 e1, .int .i64 e2, .int .i64 e3, .int .i64 e4, .bool e5] 53)) v1.heap.size e0 e1 e2 e3 e4 e5 := D6_new v1 _ _ _ _ _ _ _
  replace b0 := b0.trans (bA.mono b0.size)
  replace X0 := X0.bl bA
  replace R0 := R0.below bA
  clear bA
  generalize (v1.alloc (.cells #[.int .i64 e0, .int .i64 e1, .int .i64 e2, .int .i64 e3, .int .i64 e4, .bool e5] 53)) = v2 at *
  generalize v1.heap.size = gd at *
  obtain ⟨x0, x1, -⟩ := id X0
  go_wp2_with fail
  refine (kU _ (hm.below b0)).mono ?_
  rintro e v3 ⟨rfl, hb3⟩
  replace b0 := b0.trans (hb3.mono b0.size)
  replace R0 := R0.below hb3
  replace D0 := D0.below hb3
  clear hb3 kU x0 x1 X0 hm
  go_upto_region 3 with fail
  have bA : Below v3.heap.size v3 (v3.alloc (.cells #[.int .i64 T.c, .bool T.n, .int .u64 (M.hiN T.s : Int), .int .u64 (M.loN T.s : Int), .int .i64 T.q] 33)) := (Below.refl _ _).alloc (Nat.le_refl _) _
  have P0 : P5 (v3.alloc (.cells #[.int .i64 T.c, .bool T.n, .int .u64 (M.hiN T.s : Int), .int .u64 (M.loN T.s : Int), .int .i64 T.q] 33)) v3.heap.size T := P5_new v3 T
  replace b0 := b0.trans (bA.mono b0.size)
  replace R0 := R0.below bA
  replace D0 := D0.below bA
  clear bA
  generalize (v3.alloc (.cells #[.int .i64 T.c, .bool T.n, .int .u64 (M.hiN T.s : Int), .int .u64 (M.loN T.s : Int), .int .i64 T.q] 33)) = v4 at *
  generalize v3.heap.size = gp at *
  obtain ⟨p0, p1, p2, p3, p4, -⟩ := id P0
  obtain ⟨d0, d1, d2, d3, d4, d5, -⟩ := id D0
  clear P0 D0
  have hcc := hc.out
  rw [hcc] at p0 kB
  clear hcc
  go_wp2_with fail
  refine (kB _).mono ?_
  rintro e v5 ⟨a1, c1, a2, c2, a3, c3, m1, m2, rfl, g1, g2, g3, oA, oB, oC, hb5⟩
  clear kB p0 p1 p2 p3 p4 d0 d1 d2 d3 d4 d5
  have lt5 := R0.lt
  have lb5 := b0.size
  replace R0 := R0.below hb5
  have HB := hid (below5 (b0.trans (hb5.mono b0.size)) (show w.heap.size ≤ w.heap.size + 1 by omega) (.slice a1 (L A).length c1) (.slice a2 (L B).length c2) (.slice a3 (L C).length c3) (.bool cl) (.bool true))
  have HA := hid (oA.set5 (g := w.heap.size + 1) lt5 (.slice a1 (L A).length c1) (.slice a2 (L B).length c2) (.slice a3 (L C).length c3) (.bool cl) (.bool true))
  have HO := hid (oB.set5 (g := w.heap.size + 1) (Nat.lt_of_lt_of_le lt5 g1) (.slice a1 (L A).length c1) (.slice a2 (L B).length c2) (.slice a3 (L C).length c3) (.bool cl) (.bool true))
  have HC := hid (oC.set5 (g := w.heap.size + 1) (Nat.lt_of_lt_of_le lt5 (Nat.le_trans g1 g2)) (.slice a1 (L A).length c1) (.slice a2 (L B).length c2) (.slice a3 (L C).length c3) (.bool cl) (.bool true))
  have HS := hid (And.intro (Nat.le_trans lb5 g1) (And.intro g2 g3))
  have HL := hid lb5
  obtain ⟨r0, r1, r2, r3, r4, f0, f1, f2, f3, f4, -⟩ := id R0
  clear b0 R0 hb5 oA oB oC g1 g2 g3 lt5 lb5
  go_wp2_with fail
  refine bodyPost_ret (v := .agg #[.slice a1 (L A).length c1, .slice a2 (L B).length c2, .slice a3 (L C).length c3, .bool cl, .bool true]) (by simp [results, Tryd.results6, go_sem, r0, r1, r2, r3, r4]) rfl ?_
  exact ⟨a1, c1, a2, c2, a3, c3, m1, m2, rfl, HS.out.1, HS.out.2.1, by simpa using HS.out.2.2, HA.out.wide HL.out (Nat.le_refl _), HO.out, HC.out.wide (Nat.le_refl _) (by simp), HB.out⟩

set_option maxRecDepth 100000 in
set_option maxHeartbeats 4000000 in
theorem ibnd_in3 (f : Int) (X : Nat) (T : M.Pt) (e0 e1 e2 e3 e4 : Int) (e5 : Bool) (w : World) (hm : Fmt w)
    (kE : ∀ v : World, Fmt v → Calls Tryd.prog 23 #[.int .i64 f] v fun e w' => e = .returned (.agg #[.int .i64 e0, .int .i64 e1, .int .i64 e2, .int .i64 e3, .int .i64 e4, .bool e5]) ∧ Below v.heap.size v w')
    (kU : ∀ v : World, Fmt v → Calls Tryd.prog 16 #[.int .i64 f, .agg #[.int .u64 (M.hiN X : Int), .int .u64 (M.loN X : Int)]] v fun e w' => e = .returned (.agg #[.int .i64 T.c, .bool T.n, .int .u64 (M.hiN T.s : Int), .int .u64 (M.loN T.s : Int), .int .i64 T.q]) ∧ Below v.heap.size v w')
    (A B C : Nat) (cl : Bool) (kB : ∀ v : World, Calls Tryd.prog 24 #[.agg #[.int .i64 e0, .int .i64 e1, .int .i64 e2, .int .i64 e3, .int .i64 e4, .bool e5], .agg #[.int .i64 T.c, .bool T.n, .int .u64 (M.hiN T.s : Int), .int .u64 (M.loN T.s : Int), .int .i64 T.q]] v fun e w' => Iv v w' e A B C cl) (hc : Hid (T.c = 3)) :
    Calls Tryd.prog 6 #[.int .i64 f, .agg #[.int .u64 (M.hiN X : Int), .int .u64 (M.loN X : Int)]] w fun e w' => Iv w w' e A B C cl := by
  have b0 : Below w.heap.size w ((w.alloc (.cells #[.int .u64 (M.hiN X : Int), .int .u64 (M.loN X : Int)] 25)).alloc (.cells #[.slice none 0 0, .slice none 0 0, .slice none 0 0, .bool false, .bool false] 30)) := ((Below.refl _ _).alloc (Nat.le_refl _) _).alloc (by simp) _
  have X0 : W2 ((w.alloc (.cells #[.int .u64 (M.hiN X : Int), .int .u64 (M.loN X : Int)] 25)).alloc (.cells #[.slice none 0 0, .slice none 0 0, .slice none 0 0, .bool false, .bool false] 30)) w.heap.size X := by refine ⟨?_, ?_, ?_, ?_, ?_⟩ <;> simp [go_sem]
  have R0 : I5 ((w.alloc (.cells #[.int .u64 (M.hiN X : Int), .int .u64 (M.loN X : Int)] 25)).alloc (.cells #[.slice none 0 0, .slice none 0 0, .slice none 0 0, .bool false, .bool false] 30)) (w.heap.size + 1) := by
    have := I5_new (w.alloc (.cells #[.int .u64 (M.hiN X : Int), .int .u64 (M.loN X : Int)] 25))
    simpa using this
  generalize hV : ((w.alloc (.cells #[.int .u64 (M.hiN X : Int), .int .u64 (M.loN X : Int)] 25)).alloc (.cells #[.slice none 0 0, .slice none 0 0, .slice none 0 0, .bool false, .bool false] 30)) = v0 at *
  go_enter Tryd.func6, Tryd.ntmps6
  go_upto_region 1 with fail
  clear hV
  go_wp2_with fail
  refine (kE _ (hm.below b0)).mono ?_
  rintro e v1 ⟨rfl, hb1⟩
  replace b0 := b0.trans (hb1.mono b0.size)
  replace X0 := X0.bl hb1
  replace R0 := R0.below hb1
  clear hb1 kE
  go_upto_region 2 with fail
  have bA : Below v1.heap.size v1 (v1.alloc (.cells #[.int .i64 e0, .int .i64 e1, .int .i64 e2, .int .i64 e3, .int .i64 e4, .bool e5] 53)) := (Below.refl _ _).alloc (Nat.le_refl _) _
  have D0 : D6 (v1.alloc (.cells #[.int .i64 e0, .int .i64 e1, .int .i64 e2, .int .i64 e3, .int .i64 e4, .bool e5] 53)) v1.heap.size e0 e1 e2 e3 e4 e5 := D6_new v1 _ _ _ _ _ _ _
  replace b0 := b0.trans (bA.mono b0.size)
  replace X0 := X0.bl bA
  replace R0 := R0.below bA
  clear bA
  generalize (v1.alloc (.cells #[.int .i64 e0, .int .i64 e1, .int .i64 e2, .int .i64 e3, .int .i64 e4, .bool e5] 53)) = v2 at *
  generalize v1.heap.size = gd at *
  obtain ⟨x0, x1, -⟩ := id X0
  go_wp2_with fail
  refine (kU _ (hm.below b0)).mono ?_
  rintro e v3 ⟨rfl, hb3⟩
  replace b0 := b0.trans (hb3.mono b0.size)
  replace R0 := R0.below hb3
  replace D0 := D0.below hb3
  clear hb3 kU x0 x1 X0 hm
  go_upto_region 3 with fail
  have bA : Below v3.heap.size v3 (v3.alloc (.cells #[.int .i64 T.c, .bool T.n, .int .u64 (M.hiN T.s : Int), .int .u64 (M.loN T.s : Int), .int .i64 T.q] 33)) := (Below.refl _ _).alloc (Nat.le_refl _) _
  have P0 : P5 (v3.alloc (.cells #[.int .i64 T.c, .bool T.n, .int .u64 (M.hiN T.s : Int), .int .u64 (M.loN T.s : Int), .int .i64 T.q] 33)) v3.heap.size T := P5_new v3 T
  replace b0 := b0.trans (bA.mono b0.size)
  replace R0 := R0.below bA
  replace D0 := D0.below bA
  clear bA
  generalize (v3.alloc (.cells #[.int .i64 T.c, .bool T.n, .int .u64 (M.hiN T.s : Int), .int .u64 (M.loN T.s : Int), .int .i64 T.q] 33)) = v4 at *
  generalize v3.heap.size = gp at *
  obtain ⟨p0, p1, p2, p3, p4, -⟩ := id P0
  obtain ⟨d0, d1, d2, d3, d4, d5, -⟩ := id D0
  clear P0 D0
  have hcc := hc.out
  rw [hcc] at p0 kB
  clear hcc
  go_wp2_with fail
  refine (kB _).mono ?_
  rintro e v5 ⟨a1, c1, a2, c2, a3, c3, m1, m2, rfl, g1, g2, g3, oA, oB, oC, hb5⟩
  clear kB p0 p1 p2 p3 p4 d0 d1 d2 d3 d4 d5
  have lt5 := R0.lt
  have lb5 := b0.size
  replace R0 := R0.below hb5
  have HB := hid (below5 (b0.trans (hb5.mono b0.size)) (show w.heap.size ≤ w.heap.size + 1 by omega) (.slice a1 (L A).length c1) (.slice a2 (L B).length c2) (.slice a3 (L C).length c3) (.bool cl) (.bool true))
  have HA := hid (oA.set5 (g := w.heap.size + 1) lt5 (.slice a1 (L A).length c1) (.slice a2 (L B).length c2) (.slice a3 (L C).length c3) (.bool cl) (.bool true))
  have HO := hid (oB.set5 (g := w.heap.size + 1) (Nat.lt_of_lt_of_le lt5 g1) (.slice a1 (L A).length c1) (.slice a2 (L B).length c2) (.slice a3 (L C).length c3) (.bool cl) (.bool true))
  have HC := hid (oC.set5 (g := w.heap.size + 1) (Nat.lt_of_lt_of_le lt5 (Nat.le_trans g1 g2)) (.slice a1 (L A).length c1) (.slice a2 (L B).length c2) (.slice a3 (L C).length c3) (.bool cl) (.bool true))
  have HS := hid (And.intro (Nat.le_trans lb5 g1) (And.intro g2 g3))
  have HL := hid lb5
  obtain ⟨r0, r1, r2, r3, r4, f0, f1, f2, f3, f4, -⟩ := id R0
  clear b0 R0 hb5 oA oB oC g1 g2 g3 lt5 lb5
  go_wp2_with fail
  refine bodyPost_ret (v := .agg #[.slice a1 (L A).length c1, .slice a2 (L B).length c2, .slice a3 (L C).length c3, .bool cl, .bool true]) (by simp [results, Tryd.results6, go_sem, r0, r1, r2, r3, r4]) rfl ?_
  exact ⟨a1, c1, a2, c2, a3, c3, m1, m2, rfl, HS.out.1, HS.out.2.1, by simpa using HS.out.2.2, HA.out.wide HL.out (Nat.le_refl _), HO.out, HC.out.wide (Nat.le_refl _) (by simp), HB.out⟩

set_option maxRecDepth 100000 in
set_option maxHeartbeats 4000000 in
theorem sbnd_out (f : Int) (X : Nat) (T : M.Pt) (e0 e1 e2 e3 e4 : Int) (e5 : Bool) (w : World) 
    (kU : ∀ v : World, Calls Tryd.prog 8 #[.int .i64 f, .agg #[.int .u64 (M.hiN X : Int), .int .u64 (M.loN X : Int)]] v fun e w' => e = .returned (.agg #[.int .i64 T.c, .bool T.n, .int .u64 (M.hiN T.s : Int), .int .u64 (M.loN T.s : Int), .int .i64 T.q]) ∧ Below v.heap.size v w')
    (c2 : ¬ T.c = 2) (c3 : ¬ T.c = 3) :
    Calls Tryd.prog 7 #[.int .i64 f, .agg #[.int .u64 (M.hiN X : Int), .int .u64 (M.loN X : Int)]] w fun e w' => e = .returned (.agg #[.slice none 0 0, .slice none 0 0, .slice none 0 0, .bool false, .bool false]) ∧ Below w.heap.size w w' := by
  have b0 : Below w.heap.size w ((w.alloc (.cells #[.int .u64 (M.hiN X : Int), .int .u64 (M.loN X : Int)] 25)).alloc (.cells #[.slice none 0 0, .slice none 0 0, .slice none 0 0, .bool false, .bool false] 30)) := ((Below.refl _ _).alloc (Nat.le_refl _) _).alloc (by simp) _
  have X0 : W2 ((w.alloc (.cells #[.int .u64 (M.hiN X : Int), .int .u64 (M.loN X : Int)] 25)).alloc (.cells #[.slice none 0 0, .slice none 0 0, .slice none 0 0, .bool false, .bool false] 30)) w.heap.size X := by refine ⟨?_, ?_, ?_, ?_, ?_⟩ <;> simp [go_sem]
  have R0 : I5 ((w.alloc (.cells #[.int .u64 (M.hiN X : Int), .int .u64 (M.loN X : Int)] 25)).alloc (.cells #[.slice none 0 0, .slice none 0 0, .slice none 0 0, .bool false, .bool false] 30)) (w.heap.size + 1) := by
    have := I5_new (w.alloc (.cells #[.int .u64 (M.hiN X : Int), .int .u64 (M.loN X : Int)] 25))
    simpa using this
  generalize hV : ((w.alloc (.cells #[.int .u64 (M.hiN X : Int), .int .u64 (M.loN X : Int)] 25)).alloc (.cells #[.slice none 0 0, .slice none 0 0, .slice none 0 0, .bool false, .bool false] 30)) = v0 at *
  go_enter Tryd.func7, Tryd.ntmps7
  go_upto_region 1 with fail
  clear hV
  obtain ⟨x0, x1, -⟩ := id X0
  go_wp2_with fail
  refine (kU _).mono ?_
  rintro e v3 ⟨rfl, hb3⟩
  replace b0 := b0.trans (hb3.mono b0.size)
  replace R0 := R0.below hb3
  have lgp : w.heap.size + 1 < v3.heap.size := R0.lt
  clear hb3 kU x0 x1 X0
  go_upto_region 2 with fail
  have bA : Below v3.heap.size v3 (v3.alloc (.cells #[.int .i64 T.c, .bool T.n, .int .u64 (M.hiN T.s : Int), .int .u64 (M.loN T.s : Int), .int .i64 T.q] 33)) := (Below.refl _ _).alloc (Nat.le_refl _) _
  have P0 : P5 (v3.alloc (.cells #[.int .i64 T.c, .bool T.n, .int .u64 (M.hiN T.s : Int), .int .u64 (M.loN T.s : Int), .int .i64 T.q] 33)) v3.heap.size T := P5_new v3 T
  replace b0 := b0.trans (bA.mono b0.size)
  replace R0 := R0.below bA
  clear bA
  generalize (v3.alloc (.cells #[.int .i64 T.c, .bool T.n, .int .u64 (M.hiN T.s : Int), .int .u64 (M.loN T.s : Int), .int .i64 T.q] 33)) = v4 at *
  generalize v3.heap.size = gp at *
  obtain ⟨p0, p1, p2, p3, p4, -⟩ := id P0
  have x2 : (T.c == 2) = false := by simp [c2]
  have x3 : (T.c == 3) = false := by simp [c3]
  have y2 : (T.c != 2) = true := by simp [c2]
  have y3 : (T.c != 3) = true := by simp [c3]
  clear P0
  have HB := hid (below5 b0 (show w.heap.size ≤ w.heap.size + 1 by omega) (.slice none 0 0) (.slice none 0 0) (.slice none 0 0) (.bool false) (.bool false))
  obtain ⟨r0, r1, r2, r3, r4, f0, f1, f2, f3, f4, -⟩ := id R0
  clear b0 R0
  go_wp2_with fail
  exact bodyPost_ret (v := .agg #[.slice none 0 0, .slice none 0 0, .slice none 0 0, .bool false, .bool false]) (by simp [results, Tryd.results7, go_sem, r0, r1, r2, r3, r4]) rfl ⟨rfl, HB.out⟩

set_option maxRecDepth 100000 in
set_option maxHeartbeats 4000000 in
theorem sbnd_in2 (f : Int) (X : Nat) (T : M.Pt) (e0 e1 e2 e3 e4 : Int) (e5 : Bool) (w : World) 
    (kU : ∀ v : World, Calls Tryd.prog 8 #[.int .i64 f, .agg #[.int .u64 (M.hiN X : Int), .int .u64 (M.loN X : Int)]] v fun e w' => e = .returned (.agg #[.int .i64 T.c, .bool T.n, .int .u64 (M.hiN T.s : Int), .int .u64 (M.loN T.s : Int), .int .i64 T.q]) ∧ Below v.heap.size v w')
    (A B C : Nat) (cl : Bool) (kP : ∀ v : World, Calls Tryd.prog 25 #[.int .i64 f, .agg #[.int .i64 T.c, .bool T.n, .int .u64 (M.hiN T.s : Int), .int .u64 (M.loN T.s : Int), .int .i64 T.q]] v fun e w' => Sp3 v w' e A B C) (kO1 : ∀ (v : World) (ao : Option Addr) (c : Nat), Rd v ao (D A) → Calls Tryd.prog 26 #[.slice ao (D A).length c] v fun e w' => Ret v w' e (L A)) (kO2 : ∀ (v : World) (ao : Option Addr) (c : Nat), Rd v ao (D B) → Calls Tryd.prog 26 #[.slice ao (D B).length c] v fun e w' => Ret v w' e (L B)) (kO3 : ∀ (v : World) (ao : Option Addr) (c : Nat), Rd v ao (D C) → Calls Tryd.prog 26 #[.slice ao (D C).length c] v fun e w' => Ret v w' e (L C)) (hcl : ((M.loN T.s : Int).tmod 2 == 0) = cl) (hc : Hid (T.c = 2)) :
    Calls Tryd.prog 7 #[.int .i64 f, .agg #[.int .u64 (M.hiN X : Int), .int .u64 (M.loN X : Int)]] w fun e w' => Iv w w' e A B C cl := by
  have b0 : Below w.heap.size w ((w.alloc (.cells #[.int .u64 (M.hiN X : Int), .int .u64 (M.loN X : Int)] 25)).alloc (.cells #[.slice none 0 0, .slice none 0 0, .slice none 0 0, .bool false, .bool false] 30)) := ((Below.refl _ _).alloc (Nat.le_refl _) _).alloc (by simp) _
  have X0 : W2 ((w.alloc (.cells #[.int .u64 (M.hiN X : Int), .int .u64 (M.loN X : Int)] 25)).alloc (.cells #[.slice none 0 0, .slice none 0 0, .slice none 0 0, .bool false, .bool false] 30)) w.heap.size X := by refine ⟨?_, ?_, ?_, ?_, ?_⟩ <;> simp [go_sem]
  have R0 : I5 ((w.alloc (.cells #[.int .u64 (M.hiN X : Int), .int .u64 (M.loN X : Int)] 25)).alloc (.cells #[.slice none 0 0, .slice none 0 0, .slice none 0 0, .bool false, .bool false] 30)) (w.heap.size + 1) := by
    have := I5_new (w.alloc (.cells #[.int .u64 (M.hiN X : Int), .int .u64 (M.loN X : Int)] 25))
    simpa using this
  generalize hV : ((w.alloc (.cells #[.int .u64 (M.hiN X : Int), .int .u64 (M.loN X : Int)] 25)).alloc (.cells #[.slice none 0 0, .slice none 0 0, .slice none 0 0, .bool false, .bool false] 30)) = v0 at *
  go_enter Tryd.func7, Tryd.ntmps7
  go_upto_region 1 with fail
  clear hV
  obtain ⟨x0, x1, -⟩ := id X0
  go_wp2_with fail
  refine (kU _).mono ?_
  rintro e v3 ⟨rfl, hb3⟩
  replace b0 := b0.trans (hb3.mono b0.size)
  replace R0 := R0.below hb3
  have lgp : w.heap.size + 1 < v3.heap.size := R0.lt
  clear hb3 kU x0 x1 X0
  go_upto_region 2 with fail
  have bA : Below v3.heap.size v3 (v3.alloc (.cells #[.int .i64 T.c, .bool T.n, .int .u64 (M.hiN T.s : Int), .int .u64 (M.loN T.s : Int), .int .i64 T.q] 33)) := (Below.refl _ _).alloc (Nat.le_refl _) _
  have P0 : P5 (v3.alloc (.cells #[.int .i64 T.c, .bool T.n, .int .u64 (M.hiN T.s : Int), .int .u64 (M.loN T.s : Int), .int .i64 T.q] 33)) v3.heap.size T := P5_new v3 T
  replace b0 := b0.trans (bA.mono b0.size)
  replace R0 := R0.below bA
  clear bA
  generalize (v3.alloc (.cells #[.int .i64 T.c, .bool T.n, .int .u64 (M.hiN T.s : Int), .int .u64 (M.loN T.s : Int), .int .i64 T.q] 33)) = v4 at *
  generalize v3.heap.size = gp at *
  obtain ⟨p0, p1, p2, p3, p4, -⟩ := id P0
  have hcc := hc.out
  rw [hcc] at p0 kP
  clear hcc
  go_wp2_with fail
  refine (kP _).mono ?_
  rintro e v5 ⟨za, zc, ya, yc, xa, xc, rfl, rz, ry, rx, hb5⟩
  replace b0 := b0.trans (hb5.mono b0.size)
  replace R0 := R0.below hb5
  replace P0 := P0.below hb5
  clear hb5 kP p0 p1 p2 p3 p4
  go_upto_region 5 with fail
  have A0 : Below v5.heap.size v5 v5.drew := (Below.refl _ _).drew
  have lt5 := R0.lt
  have lp5 := P0.2.2.2.2.2
  have npg : gp ≠ w.heap.size + 1 := by omega
  have KB : ∀ v, Below v5.heap.size v5 v → (fun v => v.cell? ⟨gp, 3, none⟩ = some (.int .u64 (M.loN T.s : Int))) v := fun v hv => (P0.below hv).2.2.2.1
  have KS : ∀ v a b c d e, Below v5.heap.size v5 v → (fun v => v.cell? ⟨gp, 3, none⟩ = some (.int .u64 (M.loN T.s : Int))) (((((v.setCell ⟨w.heap.size + 1, 0, none⟩ a).setCell ⟨w.heap.size + 1, 1, none⟩ b).setCell ⟨w.heap.size + 1, 2, none⟩ c).setCell ⟨w.heap.size + 1, 3, none⟩ d).setCell ⟨w.heap.size + 1, 4, none⟩ e) := fun v a b c d e hv => (far5c npg _ _ _ _ _ _).trans (KB v hv)
  first | (go_region_held3 (fun v => v.cell? ⟨gp, 3, none⟩ = some (.int .u64 (M.loN T.s : Int))) (first | with_reducible exact KB _ hb3 | with_reducible exact KB _ hb2 | with_reducible exact KB _ hb1 | with_reducible exact KB _ A0 | with_reducible exact KS _ _ _ _ _ _ hb3) (first | (have hq := hb2; clear hq; go_at_call 26; refine (kO3 _ _ _ (rx.below hb2)).mono ?_; rintro e u3 ⟨a3, c3, rfl, ho3, hb0⟩; have hb3 := keepC (w1 := v5) hb2 hb0; replace oA := oA.keep hb0; replace oB := oB.keep hb0; have oC := Own.of ho3; have t23 := hb0; clear hb0 ho3; obtain ⟨r0, r1, r2, r3, r4, f0, f1, f2, f3, f4, -⟩ := R0.below hb3) | (have hq := hb1; clear hq; go_at_call 26; refine (kO2 _ _ _ (ry.below hb1)).mono ?_; rintro e u2 ⟨a2, c2, rfl, ho2, hb0⟩; have hb2 := keepC (w1 := v5) hb1 hb0; replace oA := oA.keep hb0; have oB := Own.of ho2; have t12 := hb0; clear hb0 ho2) | (go_at_call 26; refine (kO1 _ _ _ (rz.below A0)).mono ?_; rintro e u1 ⟨a1, c1, rfl, ho1, hb0⟩; have hb1 := keepC (w1 := v5) A0 hb0; have oA := ownFrom A0 ho1; clear hb0 ho1))) | fail
  all_goals have lb5 := b0.size
  all_goals have HB := hid (below5 (b0.trans (hb3.mono b0.size)) (show w.heap.size ≤ w.heap.size + 1 by omega) (.slice a1 (L A).length c1) (.slice a2 (L B).length c2) (.slice a3 (L C).length c3) (.bool cl) (.bool true))
  all_goals have HA := hid (oA.set5 (g := w.heap.size + 1) lt5 (.slice a1 (L A).length c1) (.slice a2 (L B).length c2) (.slice a3 (L C).length c3) (.bool cl) (.bool true))
  all_goals have HO := hid (oB.set5 (g := w.heap.size + 1) (Nat.lt_of_lt_of_le lt5 hb1.size) (.slice a1 (L A).length c1) (.slice a2 (L B).length c2) (.slice a3 (L C).length c3) (.bool cl) (.bool true))
  all_goals have HC := hid (oC.set5 (g := w.heap.size + 1) (Nat.lt_of_lt_of_le lt5 hb2.size) (.slice a1 (L A).length c1) (.slice a2 (L B).length c2) (.slice a3 (L C).length c3) (.bool cl) (.bool true))
  all_goals have HS := hid (And.intro (Nat.le_trans lb5 hb1.size) (And.intro t12.size t23.size))
  all_goals have HL := hid lb5
  all_goals clear oA oB oC b0 R0 P0 KB KS A0 t12 t23 hb1 hb2 hb3 rx ry rz kO1 kO2 kO3 lb5
  all_goals go_wp2_with fail
  all_goals refine bodyPost_ret (v := .agg #[.slice a1 (L A).length c1, .slice a2 (L B).length c2, .slice a3 (L C).length c3, .bool cl, .bool true]) (by simp [results, Tryd.results7, go_sem, r0, r1, r2, r3, r4]) rfl ?_
  all_goals exact ⟨a1, c1, a2, c2, a3, c3, u1.heap.size, u2.heap.size, rfl, HS.out.1, HS.out.2.1, by simpa using HS.out.2.2, HA.out.wide HL.out (Nat.le_refl _), HO.out, HC.out.wide (Nat.le_refl _) (by simp), HB.out⟩

set_option maxRecDepth 100000 in
set_option maxHeartbeats 4000000 in
theorem sbnd_in3 (f : Int) (X : Nat) (T : M.Pt) (e0 e1 e2 e3 e4 : Int) (e5 : Bool) (w : World) 
    (kU : ∀ v : World, Calls Tryd.prog 8 #[.int .i64 f, .agg #[.int .u64 (M.hiN X : Int), .int .u64 (M.loN X : Int)]] v fun e w' => e = .returned (.agg #[.int .i64 T.c, .bool T.n, .int .u64 (M.hiN T.s : Int), .int .u64 (M.loN T.s : Int), .int .i64 T.q]) ∧ Below v.heap.size v w')
    (A B C : Nat) (cl : Bool) (kP : ∀ v : World, Calls Tryd.prog 25 #[.int .i64 f, .agg #[.int .i64 T.c, .bool T.n, .int .u64 (M.hiN T.s : Int), .int .u64 (M.loN T.s : Int), .int .i64 T.q]] v fun e w' => Sp3 v w' e A B C) (kO1 : ∀ (v : World) (ao : Option Addr) (c : Nat), Rd v ao (D A) → Calls Tryd.prog 26 #[.slice ao (D A).length c] v fun e w' => Ret v w' e (L A)) (kO2 : ∀ (v : World) (ao : Option Addr) (c : Nat), Rd v ao (D B) → Calls Tryd.prog 26 #[.slice ao (D B).length c] v fun e w' => Ret v w' e (L B)) (kO3 : ∀ (v : World) (ao : Option Addr) (c : Nat), Rd v ao (D C) → Calls Tryd.prog 26 #[.slice ao (D C).length c] v fun e w' => Ret v w' e (L C)) (hcl : ((M.loN T.s : Int).tmod 2 == 0) = cl) (hc : Hid (T.c = 3)) :
    Calls Tryd.prog 7 #[.int .i64 f, .agg #[.int .u64 (M.hiN X : Int), .int .u64 (M.loN X : Int)]] w fun e w' => Iv w w' e A B C cl := by
  have b0 : Below w.heap.size w ((w.alloc (.cells #[.int .u64 (M.hiN X : Int), .int .u64 (M.loN X : Int)] 25)).alloc (.cells #[.slice none 0 0, .slice none 0 0, .slice none 0 0, .bool false, .bool false] 30)) := ((Below.refl _ _).alloc (Nat.le_refl _) _).alloc (by simp) _
  have X0 : W2 ((w.alloc (.cells #[.int .u64 (M.hiN X : Int), .int .u64 (M.loN X : Int)] 25)).alloc (.cells #[.slice none 0 0, .slice none 0 0, .slice none 0 0, .bool false, .bool false] 30)) w.heap.size X := by refine ⟨?_, ?_, ?_, ?_, ?_⟩ <;> simp [go_sem]
  have R0 : I5 ((w.alloc (.cells #[.int .u64 (M.hiN X : Int), .int .u64 (M.loN X : Int)] 25)).alloc (.cells #[.slice none 0 0, .slice none 0 0, .slice none 0 0, .bool false, .bool false] 30)) (w.heap.size + 1) := by
    have := I5_new (w.alloc (.cells #[.int .u64 (M.hiN X : Int), .int .u64 (M.loN X : Int)] 25))
    simpa using this
  generalize hV : ((w.alloc (.cells #[.int .u64 (M.hiN X : Int), .int .u64 (M.loN X : Int)] 25)).alloc (.cells #[.slice none 0 0, .slice none 0 0, .slice none 0 0, .bool false, .bool false] 30)) = v0 at *
  go_enter Tryd.func7, Tryd.ntmps7
  go_upto_region 1 with fail
  clear hV
  obtain ⟨x0, x1, -⟩ := id X0
  go_wp2_with fail
  refine (kU _).mono ?_
  rintro e v3 ⟨rfl, hb3⟩
  replace b0 := b0.trans (hb3.mono b0.size)
  replace R0 := R0.below hb3
  have lgp : w.heap.size + 1 < v3.heap.size := R0.lt
  clear hb3 kU x0 x1 X0
  go_upto_region 2 with fail
  have bA : Below v3.heap.size v3 (v3.alloc (.cells #[.int .i64 T.c, .bool T.n, .int .u64 (M.hiN T.s : Int), .int .u64 (M.loN T.s : Int), .int .i64 T.q] 33)) := (Below.refl _ _).alloc (Nat.le_refl _) _
  have P0 : P5 (v3.alloc (.cells #[.int .i64 T.c, .bool T.n, .int .u64 (M.hiN T.s : Int), .int .u64 (M.loN T.s : Int), .int .i64 T.q] 33)) v3.heap.size T := P5_new v3 T
  replace b0 := b0.trans (bA.mono b0.size)
  replace R0 := R0.below bA
  clear bA
  generalize (v3.alloc (.cells #[.int .i64 T.c, .bool T.n, .int .u64 (M.hiN T.s : Int), .int .u64 (M.loN T.s : Int), .int .i64 T.q] 33)) = v4 at *
  generalize v3.heap.size = gp at *
  obtain ⟨p0, p1, p2, p3, p4, -⟩ := id P0
  have hcc := hc.out
  rw [hcc] at p0 kP
  clear hcc
  go_wp2_with fail
  refine (kP _).mono ?_
  rintro e v5 ⟨za, zc, ya, yc, xa, xc, rfl, rz, ry, rx, hb5⟩
  replace b0 := b0.trans (hb5.mono b0.size)
  replace R0 := R0.below hb5
  replace P0 := P0.below hb5
  clear hb5 kP p0 p1 p2 p3 p4
  go_upto_region 5 with fail
  have A0 : Below v5.heap.size v5 v5.drew := (Below.refl _ _).drew
  have lt5 := R0.lt
  have lp5 := P0.2.2.2.2.2
  have npg : gp ≠ w.heap.size + 1 := by omega
  have KB : ∀ v, Below v5.heap.size v5 v → (fun v => v.cell? ⟨gp, 3, none⟩ = some (.int .u64 (M.loN T.s : Int))) v := fun v hv => (P0.below hv).2.2.2.1
  have KS : ∀ v a b c d e, Below v5.heap.size v5 v → (fun v => v.cell? ⟨gp, 3, none⟩ = some (.int .u64 (M.loN T.s : Int))) (((((v.setCell ⟨w.heap.size + 1, 0, none⟩ a).setCell ⟨w.heap.size + 1, 1, none⟩ b).setCell ⟨w.heap.size + 1, 2, none⟩ c).setCell ⟨w.heap.size + 1, 3, none⟩ d).setCell ⟨w.heap.size + 1, 4, none⟩ e) := fun v a b c d e hv => (far5c npg _ _ _ _ _ _).trans (KB v hv)
  first | (go_region_held3 (fun v => v.cell? ⟨gp, 3, none⟩ = some (.int .u64 (M.loN T.s : Int))) (first | with_reducible exact KB _ hb3 | with_reducible exact KB _ hb2 | with_reducible exact KB _ hb1 | with_reducible exact KB _ A0 | with_reducible exact KS _ _ _ _ _ _ hb3) (first | (have hq := hb2; clear hq; go_at_call 26; refine (kO3 _ _ _ (rx.below hb2)).mono ?_; rintro e u3 ⟨a3, c3, rfl, ho3, hb0⟩; have hb3 := keepC (w1 := v5) hb2 hb0; replace oA := oA.keep hb0; replace oB := oB.keep hb0; have oC := Own.of ho3; have t23 := hb0; clear hb0 ho3; obtain ⟨r0, r1, r2, r3, r4, f0, f1, f2, f3, f4, -⟩ := R0.below hb3) | (have hq := hb1; clear hq; go_at_call 26; refine (kO2 _ _ _ (ry.below hb1)).mono ?_; rintro e u2 ⟨a2, c2, rfl, ho2, hb0⟩; have hb2 := keepC (w1 := v5) hb1 hb0; replace oA := oA.keep hb0; have oB := Own.of ho2; have t12 := hb0; clear hb0 ho2) | (go_at_call 26; refine (kO1 _ _ _ (rz.below A0)).mono ?_; rintro e u1 ⟨a1, c1, rfl, ho1, hb0⟩; have hb1 := keepC (w1 := v5) A0 hb0; have oA := ownFrom A0 ho1; clear hb0 ho1))) | fail
  all_goals have lb5 := b0.size
  all_goals have HB := hid (below5 (b0.trans (hb3.mono b0.size)) (show w.heap.size ≤ w.heap.size + 1 by omega) (.slice a1 (L A).length c1) (.slice a2 (L B).length c2) (.slice a3 (L C).length c3) (.bool cl) (.bool true))
  all_goals have HA := hid (oA.set5 (g := w.heap.size + 1) lt5 (.slice a1 (L A).length c1) (.slice a2 (L B).length c2) (.slice a3 (L C).length c3) (.bool cl) (.bool true))
  all_goals have HO := hid (oB.set5 (g := w.heap.size + 1) (Nat.lt_of_lt_of_le lt5 hb1.size) (.slice a1 (L A).length c1) (.slice a2 (L B).length c2) (.slice a3 (L C).length c3) (.bool cl) (.bool true))
  all_goals have HC := hid (oC.set5 (g := w.heap.size + 1) (Nat.lt_of_lt_of_le lt5 hb2.size) (.slice a1 (L A).length c1) (.slice a2 (L B).length c2) (.slice a3 (L C).length c3) (.bool cl) (.bool true))
  all_goals have HS := hid (And.intro (Nat.le_trans lb5 hb1.size) (And.intro t12.size t23.size))
  all_goals have HL := hid lb5
  all_goals clear oA oB oC b0 R0 P0 KB KS A0 t12 t23 hb1 hb2 hb3 rx ry rz kO1 kO2 kO3 lb5
  all_goals go_wp2_with fail
  all_goals refine bodyPost_ret (v := .agg #[.slice a1 (L A).length c1, .slice a2 (L B).length c2, .slice a3 (L C).length c3, .bool cl, .bool true]) (by simp [results, Tryd.results7, go_sem, r0, r1, r2, r3, r4]) rfl ?_
  all_goals exact ⟨a1, c1, a2, c2, a3, c3, u1.heap.size, u2.heap.size, rfl, HS.out.1, HS.out.2.1, by simpa using HS.out.2.2, HA.out.wide HL.out (Nat.le_refl _), HO.out, HC.out.wide (Nat.le_refl _) (by simp), HB.out⟩

end Go.Proofs.YtehplfmnipadmafDoor

