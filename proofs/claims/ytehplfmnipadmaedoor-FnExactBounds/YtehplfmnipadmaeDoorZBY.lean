import Derived.Test.YtehplfmnipadmaeDoorBnP
import Derived.Test.YtehplfmnipadmaeDoorSpP
import Derived.Test.YtehplfmnipadmaeDoorW6
import Derived.Test.YtehplfmnipadmaeDoorBnd
import Derived.Test.YtehplfmnipadmaeDoorSpn
import Derived.Test.YtehplfmnipadmaeDoorAtS
import Derived.Test.YtehplfmnipadmaeDoorSp2
import Derived.Test.YtehplfmnipadmaeDoorIU
import Derived.Test.YtehplfmnipadmaeDoorW2
import Derived.OpenShut
import Derived.Test.YtehplfmnipadmaeDoorCards
import Derived.Test.YtehplfmnipadmaeDoorTie
import Derived.Test.YtehplfmnipadmaeDoorFd1
import Derived.ProofKit
import Derived.Deep.DeepHandedRow
import Derived.Lib.LaidTab
import Derived.Lib.LaidU8
import Derived.ChangeOld
import Derived.Below
import Derived.ChangeSame
namespace Go.Proofs.YtehplfmnipadmaeDoor
open Go.RowKit
set_option linter.unusedVariables false
set_option maxRecDepth 100000

set_option maxRecDepth 100000 in
set_option maxHeartbeats 4000000 in
theorem ibnd_out (f : Int) (X : Nat) (T : M.Pt) (e0 e1 e2 e3 e4 : Int) (e5 : Bool) (w : World) (hm : Fmt w)
    (kE : ∀ v : World, Fmt v → Calls Tryd.prog 37 #[.int .i64 f] v fun e w' => e = .returned (.agg #[.int .i64 e0, .int .i64 e1, .int .i64 e2, .int .i64 e3, .int .i64 e4, .bool e5]) ∧ Below v.heap.size v w')
    (kU : ∀ v : World, Fmt v → Calls Tryd.prog 38 #[.int .i64 f, .agg #[.int .u64 (M.hiN X : Int), .int .u64 (M.loN X : Int)]] v fun e w' => e = .returned (.agg #[.int .i64 T.c, .bool T.n, .int .u64 (M.hiN T.s : Int), .int .u64 (M.loN T.s : Int), .int .i64 T.q]) ∧ Below v.heap.size v w')
    (c2 : ¬ T.c = 2) (c3 : ¬ T.c = 3) :
    Calls Tryd.prog 12 #[.int .i64 f, .agg #[.int .u64 (M.hiN X : Int), .int .u64 (M.loN X : Int)]] w fun e w' => e = .returned (.agg #[.slice none 0 0, .slice none 0 0, .slice none 0 0, .bool false, .bool false]) ∧ Below w.heap.size w w' := by
  have b0 : Below w.heap.size w ((w.alloc (.cells #[.int .u64 (M.hiN X : Int), .int .u64 (M.loN X : Int)] 25)).alloc (.cells #[.slice none 0 0, .slice none 0 0, .slice none 0 0, .bool false, .bool false] 33)) := ((Below.refl _ _).alloc (Nat.le_refl _) _).alloc (by simp) _
  have X0 : W2 ((w.alloc (.cells #[.int .u64 (M.hiN X : Int), .int .u64 (M.loN X : Int)] 25)).alloc (.cells #[.slice none 0 0, .slice none 0 0, .slice none 0 0, .bool false, .bool false] 33)) w.heap.size X := by refine ⟨?_, ?_, ?_, ?_, ?_⟩ <;> simp [go_sem]
  have R0 : I5 ((w.alloc (.cells #[.int .u64 (M.hiN X : Int), .int .u64 (M.loN X : Int)] 25)).alloc (.cells #[.slice none 0 0, .slice none 0 0, .slice none 0 0, .bool false, .bool false] 33)) (w.heap.size + 1) := by
    have := I5_new (w.alloc (.cells #[.int .u64 (M.hiN X : Int), .int .u64 (M.loN X : Int)] 25))
    simpa using this
  generalize hV : ((w.alloc (.cells #[.int .u64 (M.hiN X : Int), .int .u64 (M.loN X : Int)] 25)).alloc (.cells #[.slice none 0 0, .slice none 0 0, .slice none 0 0, .bool false, .bool false] 33)) = v0 at *
  go_enter Tryd.func12, Tryd.ntmps12
  go_upto_region 1 with fail
  clear hV
  go_wp2_with fail
  refine (kE _ (hm.below b0)).mono ?_
  rintro e v1 ⟨rfl, hb1⟩
  replace b0 := b0.trans (hb1.mono b0.size)
  replace X0 := X0.bl hb1
  replace R0 := R0.below hb1
  clear hb1 kE
  go_upto_region 2 with fail
  have bA : Below v1.heap.size v1 (v1.alloc (.cells #[.int .i64 e0, .int .i64 e1, .int .i64 e2, .int .i64 e3, .int .i64 e4, .bool e5] 56)) := (Below.refl _ _).alloc (Nat.le_refl _) _
  have D0 : D6 (v1.alloc (.cells #[.int .i64 e0, .int .i64 e1, .int .i64 e2, .int .i64 e3, .int .i64 e4, .bool e5] 56)) v1.heap.size e0 e1 e2 e3 e4 e5 := D6_new v1 _ _ _ _ _ _ _
  replace b0 := b0.trans (bA.mono b0.size)
  replace X0 := X0.bl bA
  replace R0 := R0.below bA
  clear bA
  generalize (v1.alloc (.cells #[.int .i64 e0, .int .i64 e1, .int .i64 e2, .int .i64 e3, .int .i64 e4, .bool e5] 56)) = v2 at *
  generalize v1.heap.size = gd at *
  obtain ⟨x0, x1, -⟩ := id X0
  go_wp2_with fail
  refine (kU _ (hm.below b0)).mono ?_
  rintro e v3 ⟨rfl, hb3⟩
  replace b0 := b0.trans (hb3.mono b0.size)
  replace R0 := R0.below hb3
  replace D0 := D0.below hb3
  clear hb3 kU x0 x1 X0 hm
  go_upto_region 3 with fail
  have bA : Below v3.heap.size v3 (v3.alloc (.cells #[.int .i64 T.c, .bool T.n, .int .u64 (M.hiN T.s : Int), .int .u64 (M.loN T.s : Int), .int .i64 T.q] 49)) := (Below.refl _ _).alloc (Nat.le_refl _) _
  have P0 : P5 (v3.alloc (.cells #[.int .i64 T.c, .bool T.n, .int .u64 (M.hiN T.s : Int), .int .u64 (M.loN T.s : Int), .int .i64 T.q] 49)) v3.heap.size T := P5_new v3 T
  replace b0 := b0.trans (bA.mono b0.size)
  replace R0 := R0.below bA
  replace D0 := D0.below bA
  clear bA
  generalize (v3.alloc (.cells #[.int .i64 T.c, .bool T.n, .int .u64 (M.hiN T.s : Int), .int .u64 (M.loN T.s : Int), .int .i64 T.q] 49)) = v4 at *
  generalize v3.heap.size = gp at *
  obtain ⟨p0, p1, p2, p3, p4, -⟩ := id P0
  have x2 : (T.c == 2) = false := by simp [c2]
  have x3 : (T.c == 3) = false := by simp [c3]
  have y2 : (T.c != 2) = true := by simp [c2]
  have y3 : (T.c != 3) = true := by simp [c3]
  clear P0 D0
  have HB := hid (below5 b0 (show w.heap.size ≤ w.heap.size + 1 by omega) (.slice none 0 0) (.slice none 0 0) (.slice none 0 0) (.bool false) (.bool false))
  obtain ⟨r0, r1, r2, r3, r4, f0, f1, f2, f3, f4, -⟩ := id R0
  clear b0 R0
  go_wp2_with fail
  exact bodyPost_ret (v := .agg #[.slice none 0 0, .slice none 0 0, .slice none 0 0, .bool false, .bool false]) (by simp [results, Tryd.results12, go_sem, r0, r1, r2, r3, r4]) rfl ⟨rfl, HB.out⟩

set_option maxRecDepth 100000 in
set_option maxHeartbeats 4000000 in
theorem ibnd_in2 (f : Int) (X : Nat) (T : M.Pt) (e0 e1 e2 e3 e4 : Int) (e5 : Bool) (w : World) (hm : Fmt w)
    (kE : ∀ v : World, Fmt v → Calls Tryd.prog 37 #[.int .i64 f] v fun e w' => e = .returned (.agg #[.int .i64 e0, .int .i64 e1, .int .i64 e2, .int .i64 e3, .int .i64 e4, .bool e5]) ∧ Below v.heap.size v w')
    (kU : ∀ v : World, Fmt v → Calls Tryd.prog 38 #[.int .i64 f, .agg #[.int .u64 (M.hiN X : Int), .int .u64 (M.loN X : Int)]] v fun e w' => e = .returned (.agg #[.int .i64 T.c, .bool T.n, .int .u64 (M.hiN T.s : Int), .int .u64 (M.loN T.s : Int), .int .i64 T.q]) ∧ Below v.heap.size v w')
    (A B C : Nat) (cl : Bool) (kB : ∀ v : World, Calls Tryd.prog 46 #[.agg #[.int .i64 e0, .int .i64 e1, .int .i64 e2, .int .i64 e3, .int .i64 e4, .bool e5], .agg #[.int .i64 T.c, .bool T.n, .int .u64 (M.hiN T.s : Int), .int .u64 (M.loN T.s : Int), .int .i64 T.q]] v fun e w' => Iv v w' e A B C cl) (hc : Hid (T.c = 2)) :
    Calls Tryd.prog 12 #[.int .i64 f, .agg #[.int .u64 (M.hiN X : Int), .int .u64 (M.loN X : Int)]] w fun e w' => Iv w w' e A B C cl := by
  have b0 : Below w.heap.size w ((w.alloc (.cells #[.int .u64 (M.hiN X : Int), .int .u64 (M.loN X : Int)] 25)).alloc (.cells #[.slice none 0 0, .slice none 0 0, .slice none 0 0, .bool false, .bool false] 33)) := ((Below.refl _ _).alloc (Nat.le_refl _) _).alloc (by simp) _
  have X0 : W2 ((w.alloc (.cells #[.int .u64 (M.hiN X : Int), .int .u64 (M.loN X : Int)] 25)).alloc (.cells #[.slice none 0 0, .slice none 0 0, .slice none 0 0, .bool false, .bool false] 33)) w.heap.size X := by refine ⟨?_, ?_, ?_, ?_, ?_⟩ <;> simp [go_sem]
  have R0 : I5 ((w.alloc (.cells #[.int .u64 (M.hiN X : Int), .int .u64 (M.loN X : Int)] 25)).alloc (.cells #[.slice none 0 0, .slice none 0 0, .slice none 0 0, .bool false, .bool false] 33)) (w.heap.size + 1) := by
    have := I5_new (w.alloc (.cells #[.int .u64 (M.hiN X : Int), .int .u64 (M.loN X : Int)] 25))
    simpa using this
  generalize hV : ((w.alloc (.cells #[.int .u64 (M.hiN X : Int), .int .u64 (M.loN X : Int)] 25)).alloc (.cells #[.slice none 0 0, .slice none 0 0, .slice none 0 0, .bool false, .bool false] 33)) = v0 at *
  go_enter Tryd.func12, Tryd.ntmps12
  go_upto_region 1 with fail
  clear hV
  go_wp2_with fail
  refine (kE _ (hm.below b0)).mono ?_
  rintro e v1 ⟨rfl, hb1⟩
  replace b0 := b0.trans (hb1.mono b0.size)
  replace X0 := X0.bl hb1
  replace R0 := R0.below hb1
  clear hb1 kE
  go_upto_region 2 with fail
  have bA : Below v1.heap.size v1 (v1.alloc (.cells #[.int .i64 e0, .int .i64 e1, .int .i64 e2, .int .i64 e3, .int .i64 e4, .bool e5] 56)) := (Below.refl _ _).alloc (Nat.le_refl _) _
  have D0 : D6 (v1.alloc (.cells #[.int .i64 e0, .int .i64 e1, .int .i64 e2, .int .i64 e3, .int .i64 e4, .bool e5] 56)) v1.heap.size e0 e1 e2 e3 e4 e5 := D6_new v1 _ _ _ _ _ _ _
  replace b0 := b0.trans (bA.mono b0.size)
  replace X0 := X0.bl bA
  replace R0 := R0.below bA
  clear bA
  generalize (v1.alloc (.cells #[.int .i64 e0, .int .i64 e1, .int .i64 e2, .int .i64 e3, .int .i64 e4, .bool e5] 56)) = v2 at *
  generalize v1.heap.size = gd at *
  obtain ⟨x0, x1, -⟩ := id X0
  go_wp2_with fail
  refine (kU _ (hm.below b0)).mono ?_
  rintro e v3 ⟨rfl, hb3⟩
  replace b0 := b0.trans (hb3.mono b0.size)
  replace R0 := R0.below hb3
  replace D0 := D0.below hb3
  clear hb3 kU x0 x1 X0 hm
  go_upto_region 3 with fail
  have bA : Below v3.heap.size v3 (v3.alloc (.cells #[.int .i64 T.c, .bool T.n, .int .u64 (M.hiN T.s : Int), .int .u64 (M.loN T.s : Int), .int .i64 T.q] 49)) := (Below.refl _ _).alloc (Nat.le_refl _) _
  have P0 : P5 (v3.alloc (.cells #[.int .i64 T.c, .bool T.n, .int .u64 (M.hiN T.s : Int), .int .u64 (M.loN T.s : Int), .int .i64 T.q] 49)) v3.heap.size T := P5_new v3 T
  replace b0 := b0.trans (bA.mono b0.size)
  replace R0 := R0.below bA
  replace D0 := D0.below bA
  clear bA
  generalize (v3.alloc (.cells #[.int .i64 T.c, .bool T.n, .int .u64 (M.hiN T.s : Int), .int .u64 (M.loN T.s : Int), .int .i64 T.q] 49)) = v4 at *
  generalize v3.heap.size = gp at *
  obtain ⟨p0, p1, p2, p3, p4, -⟩ := id P0
  obtain ⟨d0, d1, d2, d3, d4, d5, -⟩ := id D0
  clear P0 D0
  have hcc := hc.out
  rw [hcc] at p0 kB
  clear hcc
  go_wp2_with fail
  refine (kB _).mono ?_
  rintro e v5 ⟨a1, c1, a2, c2, a3, c3, m1, m2, rfl, g1, g2, g3, oA, oB, oC, hb5⟩
  clear kB p0 p1 p2 p3 p4 d0 d1 d2 d3 d4 d5
  have lt5 := R0.lt
  have lb5 := b0.size
  replace R0 := R0.below hb5
  have HB := hid (below5 (b0.trans (hb5.mono b0.size)) (show w.heap.size ≤ w.heap.size + 1 by omega) (.slice a1 (L A).length c1) (.slice a2 (L B).length c2) (.slice a3 (L C).length c3) (.bool cl) (.bool true))
  have HA := hid (oA.set5 (g := w.heap.size + 1) lt5 (.slice a1 (L A).length c1) (.slice a2 (L B).length c2) (.slice a3 (L C).length c3) (.bool cl) (.bool true))
  have HO := hid (oB.set5 (g := w.heap.size + 1) (Nat.lt_of_lt_of_le lt5 g1) (.slice a1 (L A).length c1) (.slice a2 (L B).length c2) (.slice a3 (L C).length c3) (.bool cl) (.bool true))
  have HC := hid (oC.set5 (g := w.heap.size + 1) (Nat.lt_of_lt_of_le lt5 (Nat.le_trans g1 g2)) (.slice a1 (L A).length c1) (.slice a2 (L B).length c2) (.slice a3 (L C).length c3) (.bool cl) (.bool true))
  have HS := hid (And.intro (Nat.le_trans lb5 g1) (And.intro g2 g3))
  have HL := hid lb5
  obtain ⟨r0, r1, r2, r3, r4, f0, f1, f2, f3, f4, -⟩ := id R0
  clear b0 R0 hb5 oA oB oC g1 g2 g3 lt5 lb5
  go_wp2_with fail
  refine bodyPost_ret (v := .agg #[.slice a1 (L A).length c1, .slice a2 (L B).length c2, .slice a3 (L C).length c3, .bool cl, .bool true]) (by simp [results, Tryd.results12, go_sem, r0, r1, r2, r3, r4]) rfl ?_
  exact ⟨a1, c1, a2, c2, a3, c3, m1, m2, rfl, HS.out.1, HS.out.2.1, by simpa using HS.out.2.2, HA.out.wide HL.out (Nat.le_refl _), HO.out, HC.out.wide (Nat.le_refl _) (by simp), HB.out⟩

set_option maxRecDepth 100000 in
set_option maxHeartbeats 4000000 in
theorem ibnd_in3 (f : Int) (X : Nat) (T : M.Pt) (e0 e1 e2 e3 e4 : Int) (e5 : Bool) (w : World) (hm : Fmt w)
    (kE : ∀ v : World, Fmt v → Calls Tryd.prog 37 #[.int .i64 f] v fun e w' => e = .returned (.agg #[.int .i64 e0, .int .i64 e1, .int .i64 e2, .int .i64 e3, .int .i64 e4, .bool e5]) ∧ Below v.heap.size v w')
    (kU : ∀ v : World, Fmt v → Calls Tryd.prog 38 #[.int .i64 f, .agg #[.int .u64 (M.hiN X : Int), .int .u64 (M.loN X : Int)]] v fun e w' => e = .returned (.agg #[.int .i64 T.c, .bool T.n, .int .u64 (M.hiN T.s : Int), .int .u64 (M.loN T.s : Int), .int .i64 T.q]) ∧ Below v.heap.size v w')
    (A B C : Nat) (cl : Bool) (kB : ∀ v : World, Calls Tryd.prog 46 #[.agg #[.int .i64 e0, .int .i64 e1, .int .i64 e2, .int .i64 e3, .int .i64 e4, .bool e5], .agg #[.int .i64 T.c, .bool T.n, .int .u64 (M.hiN T.s : Int), .int .u64 (M.loN T.s : Int), .int .i64 T.q]] v fun e w' => Iv v w' e A B C cl) (hc : Hid (T.c = 3)) :
    Calls Tryd.prog 12 #[.int .i64 f, .agg #[.int .u64 (M.hiN X : Int), .int .u64 (M.loN X : Int)]] w fun e w' => Iv w w' e A B C cl := by
  have b0 : Below w.heap.size w ((w.alloc (.cells #[.int .u64 (M.hiN X : Int), .int .u64 (M.loN X : Int)] 25)).alloc (.cells #[.slice none 0 0, .slice none 0 0, .slice none 0 0, .bool false, .bool false] 33)) := ((Below.refl _ _).alloc (Nat.le_refl _) _).alloc (by simp) _
  have X0 : W2 ((w.alloc (.cells #[.int .u64 (M.hiN X : Int), .int .u64 (M.loN X : Int)] 25)).alloc (.cells #[.slice none 0 0, .slice none 0 0, .slice none 0 0, .bool false, .bool false] 33)) w.heap.size X := by refine ⟨?_, ?_, ?_, ?_, ?_⟩ <;> simp [go_sem]
  have R0 : I5 ((w.alloc (.cells #[.int .u64 (M.hiN X : Int), .int .u64 (M.loN X : Int)] 25)).alloc (.cells #[.slice none 0 0, .slice none 0 0, .slice none 0 0, .bool false, .bool false] 33)) (w.heap.size + 1) := by
    have := I5_new (w.alloc (.cells #[.int .u64 (M.hiN X : Int), .int .u64 (M.loN X : Int)] 25))
    simpa using this
  generalize hV : ((w.alloc (.cells #[.int .u64 (M.hiN X : Int), .int .u64 (M.loN X : Int)] 25)).alloc (.cells #[.slice none 0 0, .slice none 0 0, .slice none 0 0, .bool false, .bool false] 33)) = v0 at *
  go_enter Tryd.func12, Tryd.ntmps12
  go_upto_region 1 with fail
  clear hV
  go_wp2_with fail
  refine (kE _ (hm.below b0)).mono ?_
  rintro e v1 ⟨rfl, hb1⟩
  replace b0 := b0.trans (hb1.mono b0.size)
  replace X0 := X0.bl hb1
  replace R0 := R0.below hb1
  clear hb1 kE
  go_upto_region 2 with fail
  have bA : Below v1.heap.size v1 (v1.alloc (.cells #[.int .i64 e0, .int .i64 e1, .int .i64 e2, .int .i64 e3, .int .i64 e4, .bool e5] 56)) := (Below.refl _ _).alloc (Nat.le_refl _) _
  have D0 : D6 (v1.alloc (.cells #[.int .i64 e0, .int .i64 e1, .int .i64 e2, .int .i64 e3, .int .i64 e4, .bool e5] 56)) v1.heap.size e0 e1 e2 e3 e4 e5 := D6_new v1 _ _ _ _ _ _ _
  replace b0 := b0.trans (bA.mono b0.size)
  replace X0 := X0.bl bA
  replace R0 := R0.below bA
  clear bA
  generalize (v1.alloc (.cells #[.int .i64 e0, .int .i64 e1, .int .i64 e2, .int .i64 e3, .int .i64 e4, .bool e5] 56)) = v2 at *
  generalize v1.heap.size = gd at *
  obtain ⟨x0, x1, -⟩ := id X0
  go_wp2_with fail
  refine (kU _ (hm.below b0)).mono ?_
  rintro e v3 ⟨rfl, hb3⟩
  replace b0 := b0.trans (hb3.mono b0.size)
  replace R0 := R0.below hb3
  replace D0 := D0.below hb3
  clear hb3 kU x0 x1 X0 hm
  go_upto_region 3 with fail
  have bA : Below v3.heap.size v3 (v3.alloc (.cells #[.int .i64 T.c, .bool T.n, .int .u64 (M.hiN T.s : Int), .int .u64 (M.loN T.s : Int), .int .i64 T.q] 49)) := (Below.refl _ _).alloc (Nat.le_refl _) _
  have P0 : P5 (v3.alloc (.cells #[.int .i64 T.c, .bool T.n, .int .u64 (M.hiN T.s : Int), .int .u64 (M.loN T.s : Int), .int .i64 T.q] 49)) v3.heap.size T := P5_new v3 T
  replace b0 := b0.trans (bA.mono b0.size)
  replace R0 := R0.below bA
  replace D0 := D0.below bA
  clear bA
  generalize (v3.alloc (.cells #[.int .i64 T.c, .bool T.n, .int .u64 (M.hiN T.s : Int), .int .u64 (M.loN T.s : Int), .int .i64 T.q] 49)) = v4 at *
  generalize v3.heap.size = gp at *
  obtain ⟨p0, p1, p2, p3, p4, -⟩ := id P0
  obtain ⟨d0, d1, d2, d3, d4, d5, -⟩ := id D0
  clear P0 D0
  have hcc := hc.out
  rw [hcc] at p0 kB
  clear hcc
  go_wp2_with fail
  refine (kB _).mono ?_
  rintro e v5 ⟨a1, c1, a2, c2, a3, c3, m1, m2, rfl, g1, g2, g3, oA, oB, oC, hb5⟩
  clear kB p0 p1 p2 p3 p4 d0 d1 d2 d3 d4 d5
  have lt5 := R0.lt
  have lb5 := b0.size
  replace R0 := R0.below hb5
  have HB := hid (below5 (b0.trans (hb5.mono b0.size)) (show w.heap.size ≤ w.heap.size + 1 by omega) (.slice a1 (L A).length c1) (.slice a2 (L B).length c2) (.slice a3 (L C).length c3) (.bool cl) (.bool true))
  have HA := hid (oA.set5 (g := w.heap.size + 1) lt5 (.slice a1 (L A).length c1) (.slice a2 (L B).length c2) (.slice a3 (L C).length c3) (.bool cl) (.bool true))
  have HO := hid (oB.set5 (g := w.heap.size + 1) (Nat.lt_of_lt_of_le lt5 g1) (.slice a1 (L A).length c1) (.slice a2 (L B).length c2) (.slice a3 (L C).length c3) (.bool cl) (.bool true))
  have HC := hid (oC.set5 (g := w.heap.size + 1) (Nat.lt_of_lt_of_le lt5 (Nat.le_trans g1 g2)) (.slice a1 (L A).length c1) (.slice a2 (L B).length c2) (.slice a3 (L C).length c3) (.bool cl) (.bool true))
  have HS := hid (And.intro (Nat.le_trans lb5 g1) (And.intro g2 g3))
  have HL := hid lb5
  obtain ⟨r0, r1, r2, r3, r4, f0, f1, f2, f3, f4, -⟩ := id R0
  clear b0 R0 hb5 oA oB oC g1 g2 g3 lt5 lb5
  go_wp2_with fail
  refine bodyPost_ret (v := .agg #[.slice a1 (L A).length c1, .slice a2 (L B).length c2, .slice a3 (L C).length c3, .bool cl, .bool true]) (by simp [results, Tryd.results12, go_sem, r0, r1, r2, r3, r4]) rfl ?_
  exact ⟨a1, c1, a2, c2, a3, c3, m1, m2, rfl, HS.out.1, HS.out.2.1, by simpa using HS.out.2.2, HA.out.wide HL.out (Nat.le_refl _), HO.out, HC.out.wide (Nat.le_refl _) (by simp), HB.out⟩

set_option maxRecDepth 100000 in
set_option maxHeartbeats 4000000 in
theorem sbnd_out (f : Int) (X : Nat) (T : M.Pt) (e0 e1 e2 e3 e4 : Int) (e5 : Bool) (w : World) 
    (kU : ∀ v : World, Calls Tryd.prog 22 #[.int .i64 f, .agg #[.int .u64 (M.hiN X : Int), .int .u64 (M.loN X : Int)]] v fun e w' => e = .returned (.agg #[.int .i64 T.c, .bool T.n, .int .u64 (M.hiN T.s : Int), .int .u64 (M.loN T.s : Int), .int .i64 T.q]) ∧ Below v.heap.size v w')
    (c2 : ¬ T.c = 2) (c3 : ¬ T.c = 3) :
    Calls Tryd.prog 11 #[.int .i64 f, .agg #[.int .u64 (M.hiN X : Int), .int .u64 (M.loN X : Int)]] w fun e w' => e = .returned (.agg #[.slice none 0 0, .slice none 0 0, .slice none 0 0, .bool false, .bool false]) ∧ Below w.heap.size w w' := by
  have b0 : Below w.heap.size w ((w.alloc (.cells #[.int .u64 (M.hiN X : Int), .int .u64 (M.loN X : Int)] 25)).alloc (.cells #[.slice none 0 0, .slice none 0 0, .slice none 0 0, .bool false, .bool false] 33)) := ((Below.refl _ _).alloc (Nat.le_refl _) _).alloc (by simp) _
  have X0 : W2 ((w.alloc (.cells #[.int .u64 (M.hiN X : Int), .int .u64 (M.loN X : Int)] 25)).alloc (.cells #[.slice none 0 0, .slice none 0 0, .slice none 0 0, .bool false, .bool false] 33)) w.heap.size X := by refine ⟨?_, ?_, ?_, ?_, ?_⟩ <;> simp [go_sem]
  have R0 : I5 ((w.alloc (.cells #[.int .u64 (M.hiN X : Int), .int .u64 (M.loN X : Int)] 25)).alloc (.cells #[.slice none 0 0, .slice none 0 0, .slice none 0 0, .bool false, .bool false] 33)) (w.heap.size + 1) := by
    have := I5_new (w.alloc (.cells #[.int .u64 (M.hiN X : Int), .int .u64 (M.loN X : Int)] 25))
    simpa using this
  generalize hV : ((w.alloc (.cells #[.int .u64 (M.hiN X : Int), .int .u64 (M.loN X : Int)] 25)).alloc (.cells #[.slice none 0 0, .slice none 0 0, .slice none 0 0, .bool false, .bool false] 33)) = v0 at *
  go_enter Tryd.func11, Tryd.ntmps11
  go_upto_region 1 with fail
  clear hV
  obtain ⟨x0, x1, -⟩ := id X0
  go_wp2_with fail
  refine (kU _).mono ?_
  rintro e v3 ⟨rfl, hb3⟩
  replace b0 := b0.trans (hb3.mono b0.size)
  replace R0 := R0.below hb3
  have lgp : w.heap.size + 1 < v3.heap.size := R0.lt
  clear hb3 kU x0 x1 X0
  go_upto_region 2 with fail
  have bA : Below v3.heap.size v3 (v3.alloc (.cells #[.int .i64 T.c, .bool T.n, .int .u64 (M.hiN T.s : Int), .int .u64 (M.loN T.s : Int), .int .i64 T.q] 49)) := (Below.refl _ _).alloc (Nat.le_refl _) _
  have P0 : P5 (v3.alloc (.cells #[.int .i64 T.c, .bool T.n, .int .u64 (M.hiN T.s : Int), .int .u64 (M.loN T.s : Int), .int .i64 T.q] 49)) v3.heap.size T := P5_new v3 T
  replace b0 := b0.trans (bA.mono b0.size)
  replace R0 := R0.below bA
  clear bA
  generalize (v3.alloc (.cells #[.int .i64 T.c, .bool T.n, .int .u64 (M.hiN T.s : Int), .int .u64 (M.loN T.s : Int), .int .i64 T.q] 49)) = v4 at *
  generalize v3.heap.size = gp at *
  obtain ⟨p0, p1, p2, p3, p4, -⟩ := id P0
  have x2 : (T.c == 2) = false := by simp [c2]
  have x3 : (T.c == 3) = false := by simp [c3]
  have y2 : (T.c != 2) = true := by simp [c2]
  have y3 : (T.c != 3) = true := by simp [c3]
  clear P0
  have HB := hid (below5 b0 (show w.heap.size ≤ w.heap.size + 1 by omega) (.slice none 0 0) (.slice none 0 0) (.slice none 0 0) (.bool false) (.bool false))
  obtain ⟨r0, r1, r2, r3, r4, f0, f1, f2, f3, f4, -⟩ := id R0
  clear b0 R0
  go_wp2_with fail
  exact bodyPost_ret (v := .agg #[.slice none 0 0, .slice none 0 0, .slice none 0 0, .bool false, .bool false]) (by simp [results, Tryd.results11, go_sem, r0, r1, r2, r3, r4]) rfl ⟨rfl, HB.out⟩

set_option maxRecDepth 100000 in
set_option maxHeartbeats 4000000 in
theorem sbnd_in2 (f : Int) (X : Nat) (T : M.Pt) (e0 e1 e2 e3 e4 : Int) (e5 : Bool) (w : World) 
    (kU : ∀ v : World, Calls Tryd.prog 22 #[.int .i64 f, .agg #[.int .u64 (M.hiN X : Int), .int .u64 (M.loN X : Int)]] v fun e w' => e = .returned (.agg #[.int .i64 T.c, .bool T.n, .int .u64 (M.hiN T.s : Int), .int .u64 (M.loN T.s : Int), .int .i64 T.q]) ∧ Below v.heap.size v w')
    (A B C : Nat) (cl : Bool) (kP : ∀ v : World, Calls Tryd.prog 44 #[.int .i64 f, .agg #[.int .i64 T.c, .bool T.n, .int .u64 (M.hiN T.s : Int), .int .u64 (M.loN T.s : Int), .int .i64 T.q]] v fun e w' => Sp3 v w' e A B C) (kO1 : ∀ (v : World) (ao : Option Addr) (c : Nat), Rd v ao (D A) → Calls Tryd.prog 45 #[.slice ao (D A).length c] v fun e w' => Ret v w' e (L A)) (kO2 : ∀ (v : World) (ao : Option Addr) (c : Nat), Rd v ao (D B) → Calls Tryd.prog 45 #[.slice ao (D B).length c] v fun e w' => Ret v w' e (L B)) (kO3 : ∀ (v : World) (ao : Option Addr) (c : Nat), Rd v ao (D C) → Calls Tryd.prog 45 #[.slice ao (D C).length c] v fun e w' => Ret v w' e (L C)) (hcl : ((M.loN T.s : Int).tmod 2 == 0) = cl) (hc : Hid (T.c = 2)) :
    Calls Tryd.prog 11 #[.int .i64 f, .agg #[.int .u64 (M.hiN X : Int), .int .u64 (M.loN X : Int)]] w fun e w' => Iv w w' e A B C cl := by
  have b0 : Below w.heap.size w ((w.alloc (.cells #[.int .u64 (M.hiN X : Int), .int .u64 (M.loN X : Int)] 25)).alloc (.cells #[.slice none 0 0, .slice none 0 0, .slice none 0 0, .bool false, .bool false] 33)) := ((Below.refl _ _).alloc (Nat.le_refl _) _).alloc (by simp) _
  have X0 : W2 ((w.alloc (.cells #[.int .u64 (M.hiN X : Int), .int .u64 (M.loN X : Int)] 25)).alloc (.cells #[.slice none 0 0, .slice none 0 0, .slice none 0 0, .bool false, .bool false] 33)) w.heap.size X := by refine ⟨?_, ?_, ?_, ?_, ?_⟩ <;> simp [go_sem]
  have R0 : I5 ((w.alloc (.cells #[.int .u64 (M.hiN X : Int), .int .u64 (M.loN X : Int)] 25)).alloc (.cells #[.slice none 0 0, .slice none 0 0, .slice none 0 0, .bool false, .bool false] 33)) (w.heap.size + 1) := by
    have := I5_new (w.alloc (.cells #[.int .u64 (M.hiN X : Int), .int .u64 (M.loN X : Int)] 25))
    simpa using this
  generalize hV : ((w.alloc (.cells #[.int .u64 (M.hiN X : Int), .int .u64 (M.loN X : Int)] 25)).alloc (.cells #[.slice none 0 0, .slice none 0 0, .slice none 0 0, .bool false, .bool false] 33)) = v0 at *
  go_enter Tryd.func11, Tryd.ntmps11
  go_upto_region 1 with fail
  clear hV
  obtain ⟨x0, x1, -⟩ := id X0
  go_wp2_with fail
  refine (kU _).mono ?_
  rintro e v3 ⟨rfl, hb3⟩
  replace b0 := b0.trans (hb3.mono b0.size)
  replace R0 := R0.below hb3
  have lgp : w.heap.size + 1 < v3.heap.size := R0.lt
  clear hb3 kU x0 x1 X0
  go_upto_region 2 with fail
  have bA : Below v3.heap.size v3 (v3.alloc (.cells #[.int .i64 T.c, .bool T.n, .int .u64 (M.hiN T.s : Int), .int .u64 (M.loN T.s : Int), .int .i64 T.q] 49)) := (Below.refl _ _).alloc (Nat.le_refl _) _
  have P0 : P5 (v3.alloc (.cells #[.int .i64 T.c, .bool T.n, .int .u64 (M.hiN T.s : Int), .int .u64 (M.loN T.s : Int), .int .i64 T.q] 49)) v3.heap.size T := P5_new v3 T
  replace b0 := b0.trans (bA.mono b0.size)
  replace R0 := R0.below bA
  clear bA
  generalize (v3.alloc (.cells #[.int .i64 T.c, .bool T.n, .int .u64 (M.hiN T.s : Int), .int .u64 (M.loN T.s : Int), .int .i64 T.q] 49)) = v4 at *
  generalize v3.heap.size = gp at *
  obtain ⟨p0, p1, p2, p3, p4, -⟩ := id P0
  have hcc := hc.out
  rw [hcc] at p0 kP
  clear hcc
  go_wp2_with fail
  refine (kP _).mono ?_
  rintro e v5 ⟨za, zc, ya, yc, xa, xc, rfl, rz, ry, rx, hb5⟩
  replace b0 := b0.trans (hb5.mono b0.size)
  replace R0 := R0.below hb5
  replace P0 := P0.below hb5
  clear hb5 kP p0 p1 p2 p3 p4
  go_upto_region 5 with fail
  have A0 : Below v5.heap.size v5 v5.drew := (Below.refl _ _).drew
  have lt5 := R0.lt
  have lp5 := P0.2.2.2.2.2
  have npg : gp ≠ w.heap.size + 1 := by omega
  have KB : ∀ v, Below v5.heap.size v5 v → (fun v => v.cell? ⟨gp, 3, none⟩ = some (.int .u64 (M.loN T.s : Int))) v := fun v hv => (P0.below hv).2.2.2.1
  have KS : ∀ v a b c d e, Below v5.heap.size v5 v → (fun v => v.cell? ⟨gp, 3, none⟩ = some (.int .u64 (M.loN T.s : Int))) (((((v.setCell ⟨w.heap.size + 1, 0, none⟩ a).setCell ⟨w.heap.size + 1, 1, none⟩ b).setCell ⟨w.heap.size + 1, 2, none⟩ c).setCell ⟨w.heap.size + 1, 3, none⟩ d).setCell ⟨w.heap.size + 1, 4, none⟩ e) := fun v a b c d e hv => (far5c npg _ _ _ _ _ _).trans (KB v hv)
  first | (go_region_held3 (fun v => v.cell? ⟨gp, 3, none⟩ = some (.int .u64 (M.loN T.s : Int))) (first | with_reducible exact KB _ hb3 | with_reducible exact KB _ hb2 | with_reducible exact KB _ hb1 | with_reducible exact KB _ A0 | with_reducible exact KS _ _ _ _ _ _ hb3) (first | (have hq := hb2; clear hq; go_at_call 45; refine (kO3 _ _ _ (rx.below hb2)).mono ?_; rintro e u3 ⟨a3, c3, rfl, ho3, hb0⟩; have hb3 := keepC (w1 := v5) hb2 hb0; replace oA := oA.keep hb0; replace oB := oB.keep hb0; have oC := Own.of ho3; have t23 := hb0; clear hb0 ho3; obtain ⟨r0, r1, r2, r3, r4, f0, f1, f2, f3, f4, -⟩ := R0.below hb3) | (have hq := hb1; clear hq; go_at_call 45; refine (kO2 _ _ _ (ry.below hb1)).mono ?_; rintro e u2 ⟨a2, c2, rfl, ho2, hb0⟩; have hb2 := keepC (w1 := v5) hb1 hb0; replace oA := oA.keep hb0; have oB := Own.of ho2; have t12 := hb0; clear hb0 ho2) | (go_at_call 45; refine (kO1 _ _ _ (rz.below A0)).mono ?_; rintro e u1 ⟨a1, c1, rfl, ho1, hb0⟩; have hb1 := keepC (w1 := v5) A0 hb0; have oA := ownFrom A0 ho1; clear hb0 ho1))) | fail
  all_goals have lb5 := b0.size
  all_goals have HB := hid (below5 (b0.trans (hb3.mono b0.size)) (show w.heap.size ≤ w.heap.size + 1 by omega) (.slice a1 (L A).length c1) (.slice a2 (L B).length c2) (.slice a3 (L C).length c3) (.bool cl) (.bool true))
  all_goals have HA := hid (oA.set5 (g := w.heap.size + 1) lt5 (.slice a1 (L A).length c1) (.slice a2 (L B).length c2) (.slice a3 (L C).length c3) (.bool cl) (.bool true))
  all_goals have HO := hid (oB.set5 (g := w.heap.size + 1) (Nat.lt_of_lt_of_le lt5 hb1.size) (.slice a1 (L A).length c1) (.slice a2 (L B).length c2) (.slice a3 (L C).length c3) (.bool cl) (.bool true))
  all_goals have HC := hid (oC.set5 (g := w.heap.size + 1) (Nat.lt_of_lt_of_le lt5 hb2.size) (.slice a1 (L A).length c1) (.slice a2 (L B).length c2) (.slice a3 (L C).length c3) (.bool cl) (.bool true))
  all_goals have HS := hid (And.intro (Nat.le_trans lb5 hb1.size) (And.intro t12.size t23.size))
  all_goals have HL := hid lb5
  all_goals clear oA oB oC b0 R0 P0 KB KS A0 t12 t23 hb1 hb2 hb3 rx ry rz kO1 kO2 kO3 lb5
  all_goals go_wp2_with fail
  all_goals refine bodyPost_ret (v := .agg #[.slice a1 (L A).length c1, .slice a2 (L B).length c2, .slice a3 (L C).length c3, .bool cl, .bool true]) (by simp [results, Tryd.results11, go_sem, r0, r1, r2, r3, r4]) rfl ?_
  all_goals exact ⟨a1, c1, a2, c2, a3, c3, u1.heap.size, u2.heap.size, rfl, HS.out.1, HS.out.2.1, by simpa using HS.out.2.2, HA.out.wide HL.out (Nat.le_refl _), HO.out, HC.out.wide (Nat.le_refl _) (by simp), HB.out⟩

set_option maxRecDepth 100000 in
set_option maxHeartbeats 4000000 in
theorem sbnd_in3 (f : Int) (X : Nat) (T : M.Pt) (e0 e1 e2 e3 e4 : Int) (e5 : Bool) (w : World) 
    (kU : ∀ v : World, Calls Tryd.prog 22 #[.int .i64 f, .agg #[.int .u64 (M.hiN X : Int), .int .u64 (M.loN X : Int)]] v fun e w' => e = .returned (.agg #[.int .i64 T.c, .bool T.n, .int .u64 (M.hiN T.s : Int), .int .u64 (M.loN T.s : Int), .int .i64 T.q]) ∧ Below v.heap.size v w')
    (A B C : Nat) (cl : Bool) (kP : ∀ v : World, Calls Tryd.prog 44 #[.int .i64 f, .agg #[.int .i64 T.c, .bool T.n, .int .u64 (M.hiN T.s : Int), .int .u64 (M.loN T.s : Int), .int .i64 T.q]] v fun e w' => Sp3 v w' e A B C) (kO1 : ∀ (v : World) (ao : Option Addr) (c : Nat), Rd v ao (D A) → Calls Tryd.prog 45 #[.slice ao (D A).length c] v fun e w' => Ret v w' e (L A)) (kO2 : ∀ (v : World) (ao : Option Addr) (c : Nat), Rd v ao (D B) → Calls Tryd.prog 45 #[.slice ao (D B).length c] v fun e w' => Ret v w' e (L B)) (kO3 : ∀ (v : World) (ao : Option Addr) (c : Nat), Rd v ao (D C) → Calls Tryd.prog 45 #[.slice ao (D C).length c] v fun e w' => Ret v w' e (L C)) (hcl : ((M.loN T.s : Int).tmod 2 == 0) = cl) (hc : Hid (T.c = 3)) :
    Calls Tryd.prog 11 #[.int .i64 f, .agg #[.int .u64 (M.hiN X : Int), .int .u64 (M.loN X : Int)]] w fun e w' => Iv w w' e A B C cl := by
  have b0 : Below w.heap.size w ((w.alloc (.cells #[.int .u64 (M.hiN X : Int), .int .u64 (M.loN X : Int)] 25)).alloc (.cells #[.slice none 0 0, .slice none 0 0, .slice none 0 0, .bool false, .bool false] 33)) := ((Below.refl _ _).alloc (Nat.le_refl _) _).alloc (by simp) _
  have X0 : W2 ((w.alloc (.cells #[.int .u64 (M.hiN X : Int), .int .u64 (M.loN X : Int)] 25)).alloc (.cells #[.slice none 0 0, .slice none 0 0, .slice none 0 0, .bool false, .bool false] 33)) w.heap.size X := by refine ⟨?_, ?_, ?_, ?_, ?_⟩ <;> simp [go_sem]
  have R0 : I5 ((w.alloc (.cells #[.int .u64 (M.hiN X : Int), .int .u64 (M.loN X : Int)] 25)).alloc (.cells #[.slice none 0 0, .slice none 0 0, .slice none 0 0, .bool false, .bool false] 33)) (w.heap.size + 1) := by
    have := I5_new (w.alloc (.cells #[.int .u64 (M.hiN X : Int), .int .u64 (M.loN X : Int)] 25))
    simpa using this
  generalize hV : ((w.alloc (.cells #[.int .u64 (M.hiN X : Int), .int .u64 (M.loN X : Int)] 25)).alloc (.cells #[.slice none 0 0, .slice none 0 0, .slice none 0 0, .bool false, .bool false] 33)) = v0 at *
  go_enter Tryd.func11, Tryd.ntmps11
  go_upto_region 1 with fail
  clear hV
  obtain ⟨x0, x1, -⟩ := id X0
  go_wp2_with fail
  refine (kU _).mono ?_
  rintro e v3 ⟨rfl, hb3⟩
  replace b0 := b0.trans (hb3.mono b0.size)
  replace R0 := R0.below hb3
  have lgp : w.heap.size + 1 < v3.heap.size := R0.lt
  clear hb3 kU x0 x1 X0
  go_upto_region 2 with fail
  have bA : Below v3.heap.size v3 (v3.alloc (.cells #[.int .i64 T.c, .bool T.n, .int .u64 (M.hiN T.s : Int), .int .u64 (M.loN T.s : Int), .int .i64 T.q] 49)) := (Below.refl _ _).alloc (Nat.le_refl _) _
  have P0 : P5 (v3.alloc (.cells #[.int .i64 T.c, .bool T.n, .int .u64 (M.hiN T.s : Int), .int .u64 (M.loN T.s : Int), .int .i64 T.q] 49)) v3.heap.size T := P5_new v3 T
  replace b0 := b0.trans (bA.mono b0.size)
  replace R0 := R0.below bA
  clear bA
  generalize (v3.alloc (.cells #[.int .i64 T.c, .bool T.n, .int .u64 (M.hiN T.s : Int), .int .u64 (M.loN T.s : Int), .int .i64 T.q] 49)) = v4 at *
  generalize v3.heap.size = gp at *
  obtain ⟨p0, p1, p2, p3, p4, -⟩ := id P0
  have hcc := hc.out
  rw [hcc] at p0 kP
  clear hcc
  go_wp2_with fail
  refine (kP _).mono ?_
  rintro e v5 ⟨za, zc, ya, yc, xa, xc, rfl, rz, ry, rx, hb5⟩
  replace b0 := b0.trans (hb5.mono b0.size)
  replace R0 := R0.below hb5
  replace P0 := P0.below hb5
  clear hb5 kP p0 p1 p2 p3 p4
  go_upto_region 5 with fail
  have A0 : Below v5.heap.size v5 v5.drew := (Below.refl _ _).drew
  have lt5 := R0.lt
  have lp5 := P0.2.2.2.2.2
  have npg : gp ≠ w.heap.size + 1 := by omega
  have KB : ∀ v, Below v5.heap.size v5 v → (fun v => v.cell? ⟨gp, 3, none⟩ = some (.int .u64 (M.loN T.s : Int))) v := fun v hv => (P0.below hv).2.2.2.1
  have KS : ∀ v a b c d e, Below v5.heap.size v5 v → (fun v => v.cell? ⟨gp, 3, none⟩ = some (.int .u64 (M.loN T.s : Int))) (((((v.setCell ⟨w.heap.size + 1, 0, none⟩ a).setCell ⟨w.heap.size + 1, 1, none⟩ b).setCell ⟨w.heap.size + 1, 2, none⟩ c).setCell ⟨w.heap.size + 1, 3, none⟩ d).setCell ⟨w.heap.size + 1, 4, none⟩ e) := fun v a b c d e hv => (far5c npg _ _ _ _ _ _).trans (KB v hv)
  first | (go_region_held3 (fun v => v.cell? ⟨gp, 3, none⟩ = some (.int .u64 (M.loN T.s : Int))) (first | with_reducible exact KB _ hb3 | with_reducible exact KB _ hb2 | with_reducible exact KB _ hb1 | with_reducible exact KB _ A0 | with_reducible exact KS _ _ _ _ _ _ hb3) (first | (have hq := hb2; clear hq; go_at_call 45; refine (kO3 _ _ _ (rx.below hb2)).mono ?_; rintro e u3 ⟨a3, c3, rfl, ho3, hb0⟩; have hb3 := keepC (w1 := v5) hb2 hb0; replace oA := oA.keep hb0; replace oB := oB.keep hb0; have oC := Own.of ho3; have t23 := hb0; clear hb0 ho3; obtain ⟨r0, r1, r2, r3, r4, f0, f1, f2, f3, f4, -⟩ := R0.below hb3) | (have hq := hb1; clear hq; go_at_call 45; refine (kO2 _ _ _ (ry.below hb1)).mono ?_; rintro e u2 ⟨a2, c2, rfl, ho2, hb0⟩; have hb2 := keepC (w1 := v5) hb1 hb0; replace oA := oA.keep hb0; have oB := Own.of ho2; have t12 := hb0; clear hb0 ho2) | (go_at_call 45; refine (kO1 _ _ _ (rz.below A0)).mono ?_; rintro e u1 ⟨a1, c1, rfl, ho1, hb0⟩; have hb1 := keepC (w1 := v5) A0 hb0; have oA := ownFrom A0 ho1; clear hb0 ho1))) | fail
  all_goals have lb5 := b0.size
  all_goals have HB := hid (below5 (b0.trans (hb3.mono b0.size)) (show w.heap.size ≤ w.heap.size + 1 by omega) (.slice a1 (L A).length c1) (.slice a2 (L B).length c2) (.slice a3 (L C).length c3) (.bool cl) (.bool true))
  all_goals have HA := hid (oA.set5 (g := w.heap.size + 1) lt5 (.slice a1 (L A).length c1) (.slice a2 (L B).length c2) (.slice a3 (L C).length c3) (.bool cl) (.bool true))
  all_goals have HO := hid (oB.set5 (g := w.heap.size + 1) (Nat.lt_of_lt_of_le lt5 hb1.size) (.slice a1 (L A).length c1) (.slice a2 (L B).length c2) (.slice a3 (L C).length c3) (.bool cl) (.bool true))
  all_goals have HC := hid (oC.set5 (g := w.heap.size + 1) (Nat.lt_of_lt_of_le lt5 hb2.size) (.slice a1 (L A).length c1) (.slice a2 (L B).length c2) (.slice a3 (L C).length c3) (.bool cl) (.bool true))
  all_goals have HS := hid (And.intro (Nat.le_trans lb5 hb1.size) (And.intro t12.size t23.size))
  all_goals have HL := hid lb5
  all_goals clear oA oB oC b0 R0 P0 KB KS A0 t12 t23 hb1 hb2 hb3 rx ry rz kO1 kO2 kO3 lb5
  all_goals go_wp2_with fail
  all_goals refine bodyPost_ret (v := .agg #[.slice a1 (L A).length c1, .slice a2 (L B).length c2, .slice a3 (L C).length c3, .bool cl, .bool true]) (by simp [results, Tryd.results11, go_sem, r0, r1, r2, r3, r4]) rfl ?_
  all_goals exact ⟨a1, c1, a2, c2, a3, c3, u1.heap.size, u2.heap.size, rfl, HS.out.1, HS.out.2.1, by simpa using HS.out.2.2, HA.out.wide HL.out (Nat.le_refl _), HO.out, HC.out.wide (Nat.le_refl _) (by simp), HB.out⟩

end Go.Proofs.YtehplfmnipadmaeDoor

namespace Go.Proofs.YtehplfmnipadmaeDoor
open Go.RowKit
set_option linter.unusedVariables false
set_option maxRecDepth 100000

theorem D_len_b (a j K : Nat) (h : a < 2 ^ j) (hj : j ≤ 32 * K) : (D a).length ≤ K := by
  refine M.len_of_lt (B := 4294967296) (by omega) _ _ ?_
  rw [show (4294967296 : Nat) = 2 ^ 32 by rfl, ← Nat.pow_mul]
  exact Nat.lt_of_lt_of_le h (Nat.pow_le_pow_right (by omega) hj)

theorem L_len_b (a j K : Nat) (h : a < 2 ^ j) (hj : j ≤ 64 * K) : (L a).length ≤ K := by
  refine M.len_of_lt (B := 18446744073709551616) (by omega) _ _ ?_
  rw [show (18446744073709551616 : Nat) = 2 ^ 64 by rfl, ← Nat.pow_mul]
  exact Nat.lt_of_lt_of_le h (Nat.pow_le_pow_right (by omega) hj)

theorem L_un : L 1 = [1] := by
  have h1 : (L 1).length ≤ 1 := L_len_b 1 1 1 (by omega) (by omega)
  have h2 := M.val_dig (B := 18446744073709551616) (by omega) 1
  have e : L 1 = M.dig 18446744073709551616 1 := rfl
  rw [e] at h1 ⊢
  match hd : M.dig 18446744073709551616 1, h1, h2 with
  | [], _, h2 => simp [M.val] at h2
  | [x], _, h2 => simp [M.val] at h2; rw [h2]

theorem mul_pow_lt {x u : Nat} (hx : x < 2 ^ 128) : x * 2 ^ u < 2 ^ (128 + u) := by
  rw [Nat.pow_add]
  exact Nat.mul_lt_mul_of_pos_right hx (Nat.pow_pos (by omega))

/-- The lower end, counted in quarters of the last place. -/
def bLow (F : M.Fm) (t : M.Pt) : Nat := if t.s = F.lead ∧ F.qmin < t.q then 4 * t.s - 1 else 4 * t.s - 2
def bA (F : M.Fm) (t : M.Pt) : Nat := bLow F t * 2 ^ (t.q - 2).toNat
def bB (t : M.Pt) : Nat := (4 * t.s + 2) * 2 ^ (t.q - 2).toNat
def bC (t : M.Pt) : Nat := 2 ^ (2 - t.q).toNat

/-- What is known of a finite word's parts. -/
structure Fin (F : M.Fm) (t : M.Pt) : Prop where
  s1 : 0 < t.s
  s2 : t.s < 2 * F.lead
  q1 : F.qmin ≤ t.q
  q2 : t.q + F.p - 1 ≤ F.emax
  q3 : -16600 ≤ t.q
  q4 : t.q ≤ 16400
  s3 : t.s < 2 ^ 114
  s4 : t.c = 2 → t.s < F.lead

theorem fin_of {F : M.Fm} (h : F.Ok) {t : M.Pt} (hp : F.Proper t) (hc : t.c = 2 ∨ t.c = 3) : Fin F t := by
  have p1 := h.p1
  have p2 := h.p2
  have lp := h.leadPos
  have tp := h.top2
  have hq : F.qmin = 2 - (F.emax : Int) - (F.p : Int) := rfl
  have l2 : F.lead ≤ 2 ^ 112 := Nat.pow_le_pow_right (by omega) (by omega)
  have := hp
  unfold M.Fm.Proper at this
  constructor <;> omega

theorem up_eq (q : Int) (h1 : -16600 ≤ q) (h2 : q ≤ 16400) : (if wrap64 (q - 2) < 0 then 0 else wrap64 (q - 2)) = (((q - 2).toNat : Nat) : Int) := by
  have : wrap64 (q - 2) = q - 2 := by simp only [wrap64]; omega
  rw [this]; split <;> omega
theorem dn_eq (q : Int) (h1 : -16600 ≤ q) (h2 : q ≤ 16400) : (if wrap64 (2 - q) < 0 then 0 else wrap64 (2 - q)) = (((2 - q).toNat : Nat) : Int) := by
  have : wrap64 (2 - q) = 2 - q := by simp only [wrap64]; omega
  rw [this]; split <;> omega

set_option maxHeartbeats 1000000 in
theorem dbounds (F : M.Fm) (h : F.Ok) (T : M.Pt) (hf : Fin F T) (w : World) :
    Calls Tryd.prog 46 #[.agg #[.int .i64 (F.p : Int), .int .i64 (1 - (F.emax : Int)), .int .i64 (F.emax : Int), .int .i64 (F.wd : Int), .int .i64 (F.e : Int), .bool F.x], .agg #[.int .i64 T.c, .bool T.n, .int .u64 (M.hiN T.s : Int), .int .u64 (M.loN T.s : Int), .int .i64 T.q]] w fun e w' => Iv w w' e (bA F T) (bB T) (bC T) (decide (T.s % 2 = 0)) := by
  obtain ⟨s1, s2, q1, q2, q3, q4, s3, s4⟩ := hf
  have o1 : M.hiN 2 = 0 := by decide
  have o2 : M.loN 2 = 2 := by decide
  have o3 : M.hiN 1 = 0 := by decide
  have o4 : M.loN 1 = 1 := by decide
  have lL := lead_lt h
  have l128 : (2 : Nat) < 2 ^ 128 := by decide
  have l128' : (1 : Nat) < 2 ^ 128 := by decide
  have kS : ∀ v : World, Calls Tryd.prog 70 #[.agg #[.int .u64 (M.hiN T.s : Int), .int .u64 (M.loN T.s : Int)], .int .i64 2] v fun e w' => e = .returned (.agg #[.int .u64 (M.hiN (4 * T.s) : Int), .int .u64 (M.loN (4 * T.s) : Int)]) ∧ Below v.heap.size v w' := fun v => wshl T.s 2 v (by omega) (by omega) (4 * T.s) (by rw [Nat.mod_eq_of_lt (by omega)]; omega)
  have kM := fun v : World => wminus (4 * T.s) 2 v (by omega) l128 (4 * T.s - 2) (sub_word (by omega) (by omega))
  have kN := fun v : World => wminus (4 * T.s) 1 v (by omega) l128' (4 * T.s - 1) (sub_word (by omega) (by omega))
  have kH := fun v : World => wplus (4 * T.s) 2 v (by omega) l128 (4 * T.s + 2) (by rw [Nat.mod_eq_of_lt (by omega)])
  rw [o1, o2] at kM kH
  rw [o3, o4] at kN
  have kL := fun v : World => dLead F h v
  have kQ := fun v : World => dQmin F h v
  simp only [dv] at kL kQ
  have kV := fun v : World => even_any T.s v
  have hU := up_eq T.q q3 q4
  have hW := dn_eq T.q q3 q4
  have HU := hid hU
  have HW := hid hW
  clear hU hW
  have kN1 := fun (X : Nat) (hX : X < 2 ^ 128) (v : World) => number_any X hX v
  have kS1 := fun (X : Nat) (hX : X < 2 ^ 128) (u : Nat) (hu : u ≤ 20000) (v : World) (ao : Option Addr) (c : Nat) (hr : Rd v ao (L X)) => shiftLeft_any ao _ c u X v rfl (Nat.le_trans (L_len_b X 128 2 hX (by omega)) (by omega)) (by omega) hr
  have kS3 : ∀ (v : World) (ao : Option Addr) (c : Nat), Rd v ao [1] → Calls Tryd.prog 77 #[.slice ao 1 c, .int .i64 (((2 - T.q).toNat : Nat) : Int)] v fun e w' => Ret v w' e (L (bC T)) := fun v ao c hr => by
    have := shiftLeft_any ao 1 c (2 - T.q).toNat 1 v (by rw [L_un]; rfl) (by omega) (by omega) (by rw [L_un]; exact hr)
    rw [Nat.one_mul] at this
    exact this
  have u1 : (T.q - 2).toNat ≤ 20000 := by omega
  by_cases he : T.s = F.lead
  · rw [← he] at kL
    by_cases hq : F.qmin < T.q
    · have e : bA F T = (4 * T.s - 1) * 2 ^ (T.q - 2).toNat := by unfold bA bLow; rw [if_pos ⟨he, hq⟩]
      rw [e]
      exact bndC T (4 * T.s) (4 * T.s - 2) _ _ _ _ _ _ _ _ _ _ w kS kM (4 * T.s - 1) (4 * T.s + 2) kH _ _ HU.out HW.out (kN1 _ (by omega)) (kN1 _ (by omega)) (kS1 _ (by omega) _ u1) (kS1 _ (by omega) _ u1) kS3 kV kN kL F.qmin kQ hq
    · have e : bA F T = (4 * T.s - 2) * 2 ^ (T.q - 2).toNat := by unfold bA bLow; rw [if_neg (fun hh => hq hh.2)]
      rw [e]
      exact bndB T (4 * T.s) (4 * T.s - 2) _ _ _ _ _ _ _ _ _ _ w kS kM (4 * T.s + 2) kH _ _ HU.out HW.out (kN1 _ (by omega)) (kN1 _ (by omega)) (kS1 _ (by omega) _ u1) (kS1 _ (by omega) _ u1) kS3 kV kL F.qmin kQ hq (decide_eq_false hq)
  · have e : bA F T = (4 * T.s - 2) * 2 ^ (T.q - 2).toNat := by unfold bA bLow; rw [if_neg (fun hh => he hh.1)]
    rw [e]
    by_cases hh : M.hiN T.s = M.hiN F.lead
    · have hl : ¬ M.loN T.s = M.loN F.lead := fun hl => he (M.hl_eq hh hl)
      exact bndA2 T (4 * T.s) (4 * T.s - 2) _ _ _ _ _ _ _ _ _ _ w kS kM (4 * T.s + 2) kH _ _ HU.out HW.out (kN1 _ (by omega)) (kN1 _ (by omega)) (kS1 _ (by omega) _ u1) (kS1 _ (by omega) _ u1) kS3 kV F.lead kL hh.symm (by omega) hl
    · exact bndA1 T (4 * T.s) (4 * T.s - 2) _ _ _ _ _ _ _ _ _ _ w kS kM (4 * T.s + 2) kH _ _ HU.out HW.out (kN1 _ (by omega)) (kN1 _ (by omega)) (kS1 _ (by omega) _ u1) (kS1 _ (by omega) _ u1) kS3 kV F.lead kL (by omega) hh

theorem twoL_any (s : Nat) (w : World) (hs : s ≤ 100000) :
    Calls Tryd.prog 30 #[.int .i64 (s : Int)] w fun e w' => Ret w w' e (D (2 ^ s)) := by
  go_enter Tryd.func30, Tryd.ntmps30
  go_wp2_with fail
  refine (l1Of_any 1 _ (by omega)).mono ?_
  rintro e w1 ⟨ao1, cap1, rfl, ho1, hb1⟩
  have hl : (D 1).length ≤ 6 := D_small 1 (by omega)
  go_wp2_with fail
  refine (l1Left_any ao1 _ cap1 s 1 _ rfl (by omega) (by omega) (Rd.own ho1)).mono ?_
  rw [Nat.one_mul]
  rintro e w2 ⟨ao2, cap2, rfl, ho2, hb2⟩
  go_wp2_with fail
  go_ret
  exact ⟨ao2, cap2, rfl, own_base ho2 hb1.size, hb1.trans (hb2.mono hb1.size)⟩

theorem ibounds_any (f : Nat) (hf : f < 4) (X : Nat) (hX : X < 2 ^ 128) (w : World) (hm : Fmt w) (T : M.Pt) (hT : T = (M.fm f).upk X) (hc : T.c = 2 ∨ T.c = 3) :
    Calls Tryd.prog 12 #[.int .i64 (f : Int), .agg #[.int .u64 (M.hiN X : Int), .int .u64 (M.loN X : Int)]] w fun e w' => Iv w w' e (bA (M.fm f) T) (bB T) (bC T) (decide (T.s % 2 = 0)) := by
  have kE := fun (v : World) (hv : Fmt v) => describe_ok f hf v hv
  have kU := fun (v : World) (hv : Fmt v) => iunpack_any f hf X hX v hv
  have h := M.fm_ok f
  generalize M.fm f = F at *
  have hp := h.upk_proper X
  rw [← hT] at kU hp
  have hpr : F.Proper T := by
    rcases hp with hp | hp
    · rw [hp] at hc; simp at hc
    · exact hp
  have kB := fun v : World => dbounds F h T (fin_of h hpr hc) v
  simp only [dv, pv] at kE kU
  rcases hc with hc | hc
  · exact ibnd_in2 (f : Int) X T _ _ _ _ _ _ w hm kE kU _ _ _ _ kB hc
  · exact ibnd_in3 (f : Int) X T _ _ _ _ _ _ w hm kE kU _ _ _ _ kB hc

set_option maxHeartbeats 1000000 in
theorem sspan_any (f : Nat) (hf : f < 4) (T : M.Pt) (h : (M.fm f).Ok) (hfi : Fin (M.fm f) T) (hc : T.c = 2 ∨ T.c = 3) (w : World)
    (kb : T.c = 3 → ¬ T.s = (M.fm f).lead → Calls Tryd.prog 44 #[.int .i64 (f : Int), .agg #[.int .i64 T.c, .bool T.n, .int .u64 (M.hiN T.s : Int), .int .u64 (M.loN T.s : Int), .int .i64 T.q]] w fun e w' => Sp3 w w' e (bA (M.fm f) T) (bB T) (bC T)) :
    Calls Tryd.prog 44 #[.int .i64 (f : Int), .agg #[.int .i64 T.c, .bool T.n, .int .u64 (M.hiN T.s : Int), .int .u64 (M.loN T.s : Int), .int .i64 T.q]] w fun e w' => Sp3 w w' e (bA (M.fm f) T) (bB T) (bC T) := by
  have kE := fun v : World => sdescribe_ok f hf v
  simp only [dv] at kE
  generalize M.fm f = F at *
  have p1 := h.p1
  have p2 := h.p2
  have lp := h.leadPos
  have tp := h.top2
  have hqd : F.qmin = 2 - (F.emax : Int) - (F.p : Int) := rfl
  have l2 : F.lead ≤ 2 ^ 112 := Nat.pow_le_pow_right (by omega) (by omega)
  obtain ⟨s1, s2, q1, q2, q3, q4, s3, s4⟩ := hfi
  have kO := fun v : World => l2Of_any T.s (show T.s < 2 ^ 128 by omega) v
  have kL2 : ∀ (v : World) (ao : Option Addr) (c : Nat), Rd v ao (D T.s) → Calls Tryd.prog 36 #[.slice ao (D T.s).length c, .int .i64 2] v fun e w' => Ret v w' e (D (4 * T.s)) := fun v ao c hr => by
    have := l1Left_any ao _ c 2 T.s v rfl (Nat.le_trans (D_small T.s (by omega)) (by omega)) (by omega) hr
    rw [show T.s * 2 ^ 2 = 4 * T.s by omega] at this
    exact this
  have k2 : ∀ v : World, Calls Tryd.prog 31 #[.int .u64 2] v fun e w' => Ret v w' e (D 2) := fun v => l1Of_any 2 v (by omega)
  have k1 : ∀ v : World, Calls Tryd.prog 31 #[.int .u64 1] v fun e w' => Ret v w' e (D 1) := fun v => l1Of_any 1 v (by omega)
  have dl : ∀ x : Nat, x < 2 ^ 128 → (D x).length ≤ 6 := fun x hx => D_small x (by omega)
  have kA := fun (v : World) (ao bo : Option Addr) (c d : Nat) (hr : Rd v ao (D (4 * T.s))) (hr2 : Rd v bo (D 2)) => l1Add_any ao bo _ _ c d (4 * T.s) 2 v rfl rfl (Nat.le_trans (dl _ (by omega)) (by omega)) (Nat.le_trans (dl _ (by omega)) (by omega)) hr hr2
  have kS := fun (v : World) (ao bo : Option Addr) (c d : Nat) (hr : Rd v ao (D (4 * T.s))) (hr2 : Rd v bo (D 2)) => l1Sub_any ao bo _ _ c d (4 * T.s) 2 v rfl rfl (by omega) (Nat.le_trans (dl _ (by omega)) (by omega)) hr hr2
  have kS1 := fun (v : World) (ao bo : Option Addr) (c d : Nat) (hr : Rd v ao (D (4 * T.s))) (hr2 : Rd v bo (D 1)) => l1Sub_any ao bo _ _ c d (4 * T.s) 1 v rfl rfl (by omega) (Nat.le_trans (dl _ (by omega)) (by omega)) hr hr2
  have kL := fun (x : Nat) (hx : x < 2 ^ 128) (u : Nat) (hu : u ≤ 20000) (v : World) (ao : Option Addr) (c : Nat) (hr : Rd v ao (D x)) => l1Left_any ao _ c u x v rfl (Nat.le_trans (dl _ hx) (by omega)) (by omega) hr
  have kT : ∀ (v : World) (z : Int), z = (F.p : Int) - 1 → Calls Tryd.prog 30 #[.int .i64 z] v fun e w' => Ret v w' e (D F.lead) := fun v z hz => by
    have := l2Two_any (F.p - 1) v (by omega)
    rw [show ((F.p - 1 : Nat) : Int) = z by omega] at this
    exact this
  have hz : wrap64 (T.q - 2) = T.q - 2 := by simp only [wrap64]; omega
  have HZ := hid hz
  have hqm : wrap64 (wrap64 (1 - (F.emax : Int) - (F.p : Int)) + 1) = F.qmin := by simp only [wrap64]; omega
  have hqw : IntKind.i64.wrap (IntKind.i64.wrap (1 - (F.emax : Int) - (F.p : Int)) + 1) = F.qmin := by simp only [IntKind.wrap_i64]; omega
  have HQ := hid (And.intro hqm hqw)
  clear hz hqm hqw
  by_cases hp : 0 ≤ T.q - 2
  · obtain ⟨u, hu⟩ : ∃ u : Nat, (u : Int) = T.q - 2 := ⟨(T.q - 2).toNat, by omega⟩
    have hu1 : (T.q - 2).toNat = u := by omega
    have hu2 : (2 - T.q).toNat = 0 := by omega
    have hC : bC T = 1 := by simp [bC, hu2]
    have eB : bB T = (4 * T.s + 2) * 2 ^ u := by unfold bB; rw [hu1]
    have kLx := fun (x : Nat) (hx : x < 2 ^ 128) => kL x hx u (by omega)
    rw [hu] at kLx
    rcases hc with hc | hc
    · have eA : bA F T = (4 * T.s - 2) * 2 ^ u := by unfold bA bLow; rw [if_neg (fun hh => by have := s4 hc; omega), hu1]
      rw [eA, eB]
      exact span_ap (f : Int) T _ _ _ _ _ _ _ _ _ w kE kO (4 * T.s) kL2 k2 k1 (4 * T.s + 2) (4 * T.s - 2) kA kS hc (T.q - 2) HZ.out hp (kLx _ (by omega)) (kLx _ (by omega)) hC
    · by_cases he : T.s = F.lead
      · have kC : ∀ (v : World) (ao bo : Option Addr) (c d : Nat), Rd v ao (D T.s) → Rd v bo (D F.lead) → Calls Tryd.prog 62 #[.slice ao (D T.s).length c, .slice bo (D F.lead).length d] v fun e w' => e = .returned (.int .i64 0) ∧ Below v.heap.size v w' := fun v ao bo c d hr hr2 => (l1Cmp_any ao bo _ _ c d T.s F.lead v rfl rfl (Nat.le_trans (dl _ (by omega)) (by omega)) (Nat.le_trans (dl _ (by omega)) (by omega)) hr hr2).mono fun e w' ⟨he', hw⟩ => ⟨by rw [he', he]; simp [cmpI], by rw [hw]; exact Below.refl _ _⟩
        by_cases hq : F.qmin < T.q
        · have eA : bA F T = (4 * T.s - 1) * 2 ^ u := by unfold bA bLow; rw [if_pos ⟨he, hq⟩, hu1]
          rw [eA, eB]
          exact span_dp (f : Int) T _ _ _ _ _ _ _ _ _ w kE kO (4 * T.s) kL2 k2 k1 (4 * T.s + 2) (4 * T.s - 2) kA kS hc F.lead (wp1 h) (wp2 h) kT kC F.qmin HQ.out.1 HQ.out.2 hq (4 * T.s - 1) kS1 (T.q - 2) HZ.out hp (kLx _ (by omega)) (kLx _ (by omega)) hC
        · have eA : bA F T = (4 * T.s - 2) * 2 ^ u := by unfold bA bLow; rw [if_neg (fun hh => hq hh.2), hu1]
          rw [eA, eB]
          exact span_cp (f : Int) T _ _ _ _ _ _ _ _ _ w kE kO (4 * T.s) kL2 k2 k1 (4 * T.s + 2) (4 * T.s - 2) kA kS hc F.lead (wp1 h) (wp2 h) kT kC F.qmin HQ.out.1 HQ.out.2 hq (decide_eq_false hq) (T.q - 2) HZ.out hp (kLx _ (by omega)) (kLx _ (by omega)) hC
      · exact kb hc he
  · have hu1 : (T.q - 2).toNat = 0 := by omega
    obtain ⟨u, hu⟩ : ∃ u : Nat, (u : Int) = -(T.q - 2) := ⟨(-(T.q - 2)).toNat, by omega⟩
    have hu2 : (2 - T.q).toNat = u := by omega
    have eB : bB T = 4 * T.s + 2 := by unfold bB; rw [hu1, Nat.pow_zero, Nat.mul_one]
    have kT2 : ∀ (v : World) (y : Int), y = -(T.q - 2) → Calls Tryd.prog 30 #[.int .i64 y] v fun e w' => Ret v w' e (D (bC T)) := fun v y hy => by
      have := twoL_any u v (by omega)
      rw [hu, ← hy] at this
      unfold bC
      rw [hu2]
      exact this
    have n1 : wrap64 (-(T.q - 2)) = -(T.q - 2) := by simp only [wrap64]; omega
    have n2 : IntKind.i64.wrap (-(T.q - 2)) = -(T.q - 2) := by simp only [IntKind.wrap_i64]; omega
    have HN := hid (And.intro n1 n2)
    clear n1 n2
    rcases hc with hc | hc
    · have eA : bA F T = 4 * T.s - 2 := by unfold bA bLow; rw [if_neg (fun hh => by have := s4 hc; omega), hu1, Nat.pow_zero, Nat.mul_one]
      exact span_an (f : Int) T _ _ _ _ _ _ _ _ _ w kE kO (4 * T.s) kL2 k2 k1 (4 * T.s + 2) (4 * T.s - 2) kA kS hc (T.q - 2) HZ.out hp HN.out.1 HN.out.2 kT2 eA eB
    · by_cases he : T.s = F.lead
      · have kC : ∀ (v : World) (ao bo : Option Addr) (c d : Nat), Rd v ao (D T.s) → Rd v bo (D F.lead) → Calls Tryd.prog 62 #[.slice ao (D T.s).length c, .slice bo (D F.lead).length d] v fun e w' => e = .returned (.int .i64 0) ∧ Below v.heap.size v w' := fun v ao bo c d hr hr2 => (l1Cmp_any ao bo _ _ c d T.s F.lead v rfl rfl (Nat.le_trans (dl _ (by omega)) (by omega)) (Nat.le_trans (dl _ (by omega)) (by omega)) hr hr2).mono fun e w' ⟨he', hw⟩ => ⟨by rw [he', he]; simp [cmpI], by rw [hw]; exact Below.refl _ _⟩
        by_cases hq : F.qmin < T.q
        · have eA : bA F T = 4 * T.s - 1 := by unfold bA bLow; rw [if_pos ⟨he, hq⟩, hu1, Nat.pow_zero, Nat.mul_one]
          exact span_dn (f : Int) T _ _ _ _ _ _ _ _ _ w kE kO (4 * T.s) kL2 k2 k1 (4 * T.s + 2) (4 * T.s - 2) kA kS hc F.lead (wp1 h) (wp2 h) kT kC F.qmin HQ.out.1 HQ.out.2 hq (4 * T.s - 1) kS1 (T.q - 2) HZ.out hp HN.out.1 HN.out.2 kT2 eA eB
        · have eA : bA F T = 4 * T.s - 2 := by unfold bA bLow; rw [if_neg (fun hh => hq hh.2), hu1, Nat.pow_zero, Nat.mul_one]
          exact span_cn (f : Int) T _ _ _ _ _ _ _ _ _ w kE kO (4 * T.s) kL2 k2 k1 (4 * T.s + 2) (4 * T.s - 2) kA kS hc F.lead (wp1 h) (wp2 h) kT kC F.qmin HQ.out.1 HQ.out.2 hq (decide_eq_false hq) (T.q - 2) HZ.out hp HN.out.1 HN.out.2 kT2 eA eB
      · exact kb hc he

end Go.Proofs.YtehplfmnipadmaeDoor

namespace Go.Proofs.YtehplfmnipadmaeDoor
open Go.RowKit
set_option linter.unusedVariables false
set_option maxRecDepth 100000

set_option maxRecDepth 100000 in
set_option maxHeartbeats 8000000 in
theorem span_bp (f : Int) (T : M.Pt) (e0 e1 e2 e3 e4 : Int) (e5 : Bool) (A B C : Nat) (w : World)
    (kE : ∀ v : World, Calls Tryd.prog 26 #[.int .i64 f] v fun e w' => e = .returned (.agg #[.int .i64 e0, .int .i64 e1, .int .i64 e2, .int .i64 e3, .int .i64 e4, .bool e5]) ∧ Below v.heap.size v w') (kO : ∀ (v : World), Calls Tryd.prog 32 #[.agg #[.int .u64 (M.hiN T.s : Int), .int .u64 (M.loN T.s : Int)]] v fun e w' => Ret v w' e (D T.s)) (F4 : Nat) (kL2 : ∀ (v : World) (ao : Option Addr) (c : Nat), Rd v ao (D T.s) → Calls Tryd.prog 36 #[.slice ao (D T.s).length c, .int .i64 2] v fun e w' => Ret v w' e (D F4)) (k2 : ∀ (v : World), Calls Tryd.prog 31 #[.int .u64 2] v fun e w' => Ret v w' e (D 2)) (k1 : ∀ (v : World), Calls Tryd.prog 31 #[.int .u64 1] v fun e w' => Ret v w' e (D 1)) (H X : Nat) (kA : ∀ (v : World) (ao bo : Option Addr) (c d : Nat), Rd v ao (D F4) → Rd v bo (D 2) → Calls Tryd.prog 33 #[.slice ao (D F4).length c, .slice bo (D 2).length d] v fun e w' => Ret v w' e (D H)) (kS : ∀ (v : World) (ao bo : Option Addr) (c d : Nat), Rd v ao (D F4) → Rd v bo (D 2) → Calls Tryd.prog 29 #[.slice ao (D F4).length c, .slice bo (D 2).length d] v fun e w' => Ret v w' e (D X)) (hc : Hid (T.c = 3)) (LD : Nat) (cm : Int) (he1 : wrap64 (e0 - 1) = e0 - 1) (he2 : IntKind.i64.wrap (e0 - 1) = e0 - 1) (kT : ∀ (v : World) (z : Int), z = e0 - 1 → Calls Tryd.prog 30 #[.int .i64 z] v fun e w' => Ret v w' e (D LD)) (kC : ∀ (v : World) (ao bo : Option Addr) (c d : Nat), Rd v ao (D T.s) → Rd v bo (D LD) → Calls Tryd.prog 62 #[.slice ao (D T.s).length c, .slice bo (D LD).length d] v fun e w' => e = .returned (.int .i64 cm) ∧ Below v.heap.size v w') (hcm : ¬ cm = 0) (hcm2 : (cm == 0) = false) (z : Int) (hz : wrap64 (T.q - 2) = z) (hp : 0 ≤ z) (kLx : ∀ (v : World) (ao : Option Addr) (c : Nat), Rd v ao (D X) → Calls Tryd.prog 36 #[.slice ao (D X).length c, .int .i64 z] v fun e w' => Ret v w' e (D A)) (kLh : ∀ (v : World) (ao : Option Addr) (c : Nat), Rd v ao (D H) → Calls Tryd.prog 36 #[.slice ao (D H).length c, .int .i64 z] v fun e w' => Ret v w' e (D B)) (hC : C = 1)  :
    Calls Tryd.prog 44 #[.int .i64 f, .agg #[.int .i64 T.c, .bool T.n, .int .u64 (M.hiN T.s : Int), .int .u64 (M.loN T.s : Int), .int .i64 T.q]] w fun e w' => Sp3 w w' e A B C := by
  have b0 : Below w.heap.size w (w.alloc (.cells #[.int .i64 T.c, .bool T.n, .int .u64 (M.hiN T.s : Int), .int .u64 (M.loN T.s : Int), .int .i64 T.q] 49)) := (Below.refl _ _).alloc (Nat.le_refl _) _
  have P0 : P5 (w.alloc (.cells #[.int .i64 T.c, .bool T.n, .int .u64 (M.hiN T.s : Int), .int .u64 (M.loN T.s : Int), .int .i64 T.q] 49)) w.heap.size T := P5_new w T
  generalize hV : (w.alloc (.cells #[.int .i64 T.c, .bool T.n, .int .u64 (M.hiN T.s : Int), .int .u64 (M.loN T.s : Int), .int .i64 T.q] 49)) = v0 at *
  go_enter Tryd.func44, Tryd.ntmps44
  go_upto_region 1 with fail
  clear hV
  go_wp2_with fail
  refine (kE _).mono ?_
  rintro e v1 ⟨rfl, hb1⟩
  replace b0 := b0.trans (hb1.mono b0.size)
  replace P0 := P0.below hb1
  clear hb1 kE
  go_upto_region 2 with fail
  have bA : Below v1.heap.size v1 (v1.alloc (.cells #[.int .i64 e0, .int .i64 e1, .int .i64 e2, .int .i64 e3, .int .i64 e4, .bool e5] 56)) := (Below.refl _ _).alloc (Nat.le_refl _) _
  have J0 : Cv w (v1.alloc (.cells #[.int .i64 e0, .int .i64 e1, .int .i64 e2, .int .i64 e3, .int .i64 e4, .bool e5] 56)) v1.heap.size e0 e1 e2 e3 e4 e5 T := ⟨b0.trans (bA.mono b0.size), D6_new v1 _ _ _ _ _ _ _, P0.below bA⟩
  clear bA b0 P0
  generalize (v1.alloc (.cells #[.int .i64 e0, .int .i64 e1, .int .i64 e2, .int .i64 e3, .int .i64 e4, .bool e5] 56)) = v2 at *
  generalize v1.heap.size = gd at *
  obtain ⟨p0, p1, p2, p3, p4, -⟩ := id J0.p
  go_wp2_with fail
  refine (kO _).mono ?_
  rintro e va ⟨sa, sc, rfl, ho, hb⟩
  have rs := Rd.own ho
  replace J0 := J0.below hb
  clear hb ho
  clear p0 p1 p2 p3 p4
  go_wp2_with fail
  refine (kL2 _ _ _ rs).mono ?_
  rintro e vb ⟨fa, fc, rfl, ho, hb⟩
  have rf := Rd.own ho
  replace J0 := J0.below hb
  clear hb ho
  clear rs kL2
  go_wp2_with fail
  refine (k2 _).mono ?_
  rintro e vc ⟨ta, tc, rfl, ho, hb⟩
  have rt := Rd.own ho
  replace rf := rf.below hb
  replace J0 := J0.below hb
  clear hb ho
  go_wp2_with fail
  refine (kA _ _ _ _ _ rf rt).mono ?_
  rintro e vd ⟨ha, hc0, rfl, ho, hb⟩
  have rh := Rd.own ho
  replace rf := rf.below hb
  replace J0 := J0.below hb
  clear hb ho
  clear rt kA
  go_wp2_with fail
  refine (k2 _).mono ?_
  rintro e ve ⟨ta, tc, rfl, ho, hb⟩
  have rt := Rd.own ho
  replace rf := rf.below hb
  replace rh := rh.below hb
  replace J0 := J0.below hb
  clear hb ho
  go_wp2_with fail
  refine (kS _ _ _ _ _ rf rt).mono ?_
  rintro e vf ⟨xa, xc, rfl, ho, hb⟩
  have rx := Rd.own ho
  replace rf := rf.below hb
  replace rh := rh.below hb
  replace J0 := J0.below hb
  clear hb ho
  clear rt kS
  obtain ⟨p0, p1, p2, p3, p4, -⟩ := id J0.p
  rw [hc.out] at p0
  go_upto_region 5 with fail
  clear p0 p1 p2 p3 p4
  have A0 : Below vf.heap.size vf vf.drew := (Below.refl _ _).drew
  go_cut [48] (fun z wx => z = .bool false ∧ Below vf.heap.size vf wx)
  case first =>
    obtain ⟨d0, d1, d2, d3, d4, d5, -⟩ := (J0.below A0).d
    obtain ⟨p0, p1, p2, p3, p4, -⟩ := (J0.below A0).p
    rw [hc.out] at p0
    refine wp_region_any (by kernel_rfl) ?_
    change wpAny _ _ _ _ _ _ _ (World.drew _)
    refine wpAny_take (i := 0) (v := ?_) rfl (by kernel_rfl) (by kernel_rfl) (by kernel_rfl) (fun _ _ _ h => h) (Or.inl ⟨by kernel_rfl, ?_⟩) ?_
    rotate_left
    · (intro w; first | (go_simp; done) | (go_simp; with_reducible rfl) | with_reducible rfl)
    refine wpAny_ready (rs := [1]) (by kernel_rfl) (by simp) ?_
    refine AllReady.cons rfl (fun K hK => ?_) AllReady.nil
    go_simp
    refine hK _ _ ?_
    clear hK K
    refine wpAny_take (i := 2) (v := ?_) rfl (by kernel_rfl) (by kernel_rfl) (by kernel_rfl) (fun _ _ _ h => h) (Or.inl ⟨by kernel_rfl, ?_⟩) ?_
    rotate_left
    · (intro w; first | (go_simp; done) | (go_simp; with_reducible rfl) | with_reducible rfl)
    refine wpAny_take (i := 3) (v := ?_) rfl (by kernel_rfl) (by kernel_rfl) (by kernel_rfl) (fun _ _ _ h => h) (Or.inl ⟨by kernel_rfl, ?_⟩) ?_
    rotate_left
    · (intro w; first | (go_simp; done) | (go_simp; with_reducible rfl) | with_reducible rfl)
    refine wpAny_take (i := 4) (v := ?_) rfl (by kernel_rfl) (by kernel_rfl) (by kernel_rfl) (fun _ _ _ h => h) (Or.inl ⟨by kernel_rfl, ?_⟩) ?_
    rotate_left
    · (intro w; first | (go_simp; done) | (go_simp; with_reducible rfl) | with_reducible rfl)
    refine wpAny_take (i := 7) (v := ?_) rfl (by kernel_rfl) (by kernel_rfl) (by kernel_rfl) (fun _ _ _ h => h) (Or.inl ⟨by kernel_rfl, ?_⟩) ?_
    rotate_left
    · (intro w; first | (go_simp; done) | (go_simp; with_reducible rfl) | with_reducible rfl)
    refine wpAny_ready (rs := [5, 8]) (by kernel_rfl) (by simp) ?_
    refine AllReady.cons rfl (fun K hK => ?_) (AllReady.cons rfl (fun K hK => ?_) AllReady.nil)
    · go_simp
      refine hK _ _ ?_
      clear hK K
      refine wpAny_ready (rs := [6, 8]) (by kernel_rfl) (by simp) ?_
      refine AllReady.cons rfl (fun K hK => ?_) (AllReady.cons rfl (fun K hK => ?_) AllReady.nil)
      · go_simp
        go_at_call 32; refine (kO _).mono ?_; rintro e u1 ⟨ga, gc, rfl, ho1, hb0⟩; have g1 := Rd.own ho1; have hb1 := keepC (w1 := vf) A0 hb0; clear hb0 ho1; obtain ⟨m0, m1, m2, m3, m4, m5, -⟩ := (J0.below hb1).d; obtain ⟨n0, n1, n2, n3, n4, -⟩ := (J0.below hb1).p; rw [hc.out] at n0
        go_simp
        refine hK _ _ ?_
        clear hK K
        refine wpAny_ready (rs := [8]) (by kernel_rfl) (by simp) ?_
        refine AllReady.cons rfl (fun K hK => ?_) AllReady.nil
        go_simp
        refine hK _ _ ?_
        clear hK K
        refine wpAny_take (i := 9) (v := ?_) rfl (by kernel_rfl) (by kernel_rfl) (by kernel_rfl) (fun _ _ _ h => h) (Or.inl ⟨by kernel_rfl, ?_⟩) ?_
        rotate_left
        · (intro w; first | (go_simp; done) | (go_simp; with_reducible rfl) | with_reducible rfl)
        refine wpAny_ready (rs := [10]) (by kernel_rfl) (by simp) ?_
        refine AllReady.cons rfl (fun K hK => ?_) AllReady.nil
        go_simp
        have hq := hb1; clear hq; go_at_call 30; refine (kT _ _ (by first | with_reducible rfl | with_reducible assumption)).mono ?_; rintro e u2 ⟨ha, hcp, rfl, ho2, hb0⟩; have g2 := Rd.own ho2; replace g1 := g1.below hb0; have hb2 := keepC (w1 := vf) hb1 hb0; clear hb0 ho2; obtain ⟨m0, m1, m2, m3, m4, m5, -⟩ := (J0.below hb2).d; obtain ⟨n0, n1, n2, n3, n4, -⟩ := (J0.below hb2).p; rw [hc.out] at n0
        go_simp
        refine hK _ _ ?_
        clear hK K
        refine wpAny_ready (rs := [11]) (by kernel_rfl) (by simp) ?_
        refine AllReady.cons rfl (fun K hK => ?_) AllReady.nil
        go_simp
        have hq := hb2; clear hq; go_at_call 62; refine (kC _ _ _ _ _ g1 g2).mono ?_; rintro e u3 ⟨rfl, hb0⟩; have hb3 := keepC (w1 := vf) hb2 hb0; clear hb0; obtain ⟨m0, m1, m2, m3, m4, m5, -⟩ := (J0.below hb3).d; obtain ⟨n0, n1, n2, n3, n4, -⟩ := (J0.below hb3).p; rw [hc.out] at n0
        go_simp
        refine hK _ _ ?_
        clear hK K
        refine wpAny_take (i := 12) (v := ?_) rfl (by kernel_rfl) (by kernel_rfl) (by kernel_rfl) (fun _ _ _ h => h) (Or.inl ⟨by kernel_rfl, ?_⟩) ?_
        rotate_left
        · (intro w; first | (go_simp; done) | (go_simp; with_reducible rfl) | with_reducible rfl)
        refine wpAny_take (i := 13) (v := ?_) rfl (by kernel_rfl) (by kernel_rfl) (by kernel_rfl) (fun _ _ _ h => h) (Or.inl ⟨by kernel_rfl, ?_⟩) ?_
        rotate_left
        · (intro w; first | (go_simp; done) | (go_simp; with_reducible rfl) | with_reducible rfl)
        refine wpAny_take (i := 14) (v := ?_) rfl (by kernel_rfl) (by kernel_rfl) (by kernel_rfl) (fun _ _ _ h => h) (Or.inl ⟨by kernel_rfl, ?_⟩) ?_
        rotate_left
        · (intro w; first | (go_simp; done) | (go_simp; with_reducible rfl) | with_reducible rfl)
        refine wpAny_take (i := 15) (v := undef) rfl (by kernel_rfl) (by kernel_rfl) (by kernel_rfl) (fun _ _ _ h => h) (Or.inr ⟨by kernel_rfl, rfl⟩) ?_
        refine wpAny_take (i := 16) (v := undef) rfl (by kernel_rfl) (by kernel_rfl) (by kernel_rfl) (fun _ _ _ h => h) (Or.inr ⟨by kernel_rfl, rfl⟩) ?_
        refine wpAny_take (i := 17) (v := undef) rfl (by kernel_rfl) (by kernel_rfl) (by kernel_rfl) (fun _ _ _ h => h) (Or.inr ⟨by kernel_rfl, rfl⟩) ?_
        refine wpAny_take (i := 18) (v := undef) rfl (by kernel_rfl) (by kernel_rfl) (by kernel_rfl) (fun _ _ _ h => h) (Or.inr ⟨by kernel_rfl, rfl⟩) ?_
        refine wpAny_take (i := 19) (v := undef) rfl (by kernel_rfl) (by kernel_rfl) (by kernel_rfl) (fun _ _ _ h => h) (Or.inr ⟨by kernel_rfl, rfl⟩) ?_
        refine wpAny_take (i := 20) (v := undef) rfl (by kernel_rfl) (by kernel_rfl) (by kernel_rfl) (fun _ _ _ h => h) (Or.inr ⟨by kernel_rfl, rfl⟩) ?_
        refine wpAny_take (i := 21) (v := undef) rfl (by kernel_rfl) (by kernel_rfl) (by kernel_rfl) (fun _ _ _ h => h) (Or.inr ⟨by kernel_rfl, rfl⟩) ?_
        refine wpAny_take (i := 22) (v := undef) rfl (by kernel_rfl) (by kernel_rfl) (by kernel_rfl) (fun _ _ _ h => h) (Or.inr ⟨by kernel_rfl, rfl⟩) ?_
        refine wpAny_take (i := 23) (v := undef) rfl (by kernel_rfl) (by kernel_rfl) (by kernel_rfl) (fun _ _ _ h => h) (Or.inr ⟨by kernel_rfl, rfl⟩) ?_
        refine wpAny_ready (rs := [24]) (by kernel_rfl) (by simp) ?_
        refine AllReady.cons rfl (fun K hK => ?_) AllReady.nil
        go_simp
        refine hK _ _ ?_
        clear hK K
        refine wpAny_done (by kernel_rfl) ?_ _
        go_wp2_with fail
        go_meet
        exact ⟨rfl, hb3⟩
      · go_simp
        refine hK _ _ ?_
        clear hK K
        refine wpAny_take (i := 9) (v := ?_) rfl (by kernel_rfl) (by kernel_rfl) (by kernel_rfl) (fun _ _ _ h => h) (Or.inl ⟨by kernel_rfl, ?_⟩) ?_
        rotate_left
        · (intro w; first | (go_simp; done) | (go_simp; with_reducible rfl) | with_reducible rfl)
        refine wpAny_ready (rs := [6]) (by kernel_rfl) (by simp) ?_
        refine AllReady.cons rfl (fun K hK => ?_) AllReady.nil
        go_simp
        go_at_call 32; refine (kO _).mono ?_; rintro e u1 ⟨ga, gc, rfl, ho1, hb0⟩; have g1 := Rd.own ho1; have hb1 := keepC (w1 := vf) A0 hb0; clear hb0 ho1; obtain ⟨m0, m1, m2, m3, m4, m5, -⟩ := (J0.below hb1).d; obtain ⟨n0, n1, n2, n3, n4, -⟩ := (J0.below hb1).p; rw [hc.out] at n0
        go_simp
        refine hK _ _ ?_
        clear hK K
        refine wpAny_ready (rs := [10]) (by kernel_rfl) (by simp) ?_
        refine AllReady.cons rfl (fun K hK => ?_) AllReady.nil
        go_simp
        have hq := hb1; clear hq; go_at_call 30; refine (kT _ _ (by first | with_reducible rfl | with_reducible assumption)).mono ?_; rintro e u2 ⟨ha, hcp, rfl, ho2, hb0⟩; have g2 := Rd.own ho2; replace g1 := g1.below hb0; have hb2 := keepC (w1 := vf) hb1 hb0; clear hb0 ho2; obtain ⟨m0, m1, m2, m3, m4, m5, -⟩ := (J0.below hb2).d; obtain ⟨n0, n1, n2, n3, n4, -⟩ := (J0.below hb2).p; rw [hc.out] at n0
        go_simp
        refine hK _ _ ?_
        clear hK K
        refine wpAny_ready (rs := [11]) (by kernel_rfl) (by simp) ?_
        refine AllReady.cons rfl (fun K hK => ?_) AllReady.nil
        go_simp
        have hq := hb2; clear hq; go_at_call 62; refine (kC _ _ _ _ _ g1 g2).mono ?_; rintro e u3 ⟨rfl, hb0⟩; have hb3 := keepC (w1 := vf) hb2 hb0; clear hb0; obtain ⟨m0, m1, m2, m3, m4, m5, -⟩ := (J0.below hb3).d; obtain ⟨n0, n1, n2, n3, n4, -⟩ := (J0.below hb3).p; rw [hc.out] at n0
        go_simp
        refine hK _ _ ?_
        clear hK K
        refine wpAny_take (i := 12) (v := ?_) rfl (by kernel_rfl) (by kernel_rfl) (by kernel_rfl) (fun _ _ _ h => h) (Or.inl ⟨by kernel_rfl, ?_⟩) ?_
        rotate_left
        · (intro w; first | (go_simp; done) | (go_simp; with_reducible rfl) | with_reducible rfl)
        refine wpAny_take (i := 13) (v := ?_) rfl (by kernel_rfl) (by kernel_rfl) (by kernel_rfl) (fun _ _ _ h => h) (Or.inl ⟨by kernel_rfl, ?_⟩) ?_
        rotate_left
        · (intro w; first | (go_simp; done) | (go_simp; with_reducible rfl) | with_reducible rfl)
        refine wpAny_take (i := 14) (v := ?_) rfl (by kernel_rfl) (by kernel_rfl) (by kernel_rfl) (fun _ _ _ h => h) (Or.inl ⟨by kernel_rfl, ?_⟩) ?_
        rotate_left
        · (intro w; first | (go_simp; done) | (go_simp; with_reducible rfl) | with_reducible rfl)
        refine wpAny_take (i := 15) (v := undef) rfl (by kernel_rfl) (by kernel_rfl) (by kernel_rfl) (fun _ _ _ h => h) (Or.inr ⟨by kernel_rfl, rfl⟩) ?_
        refine wpAny_take (i := 16) (v := undef) rfl (by kernel_rfl) (by kernel_rfl) (by kernel_rfl) (fun _ _ _ h => h) (Or.inr ⟨by kernel_rfl, rfl⟩) ?_
        refine wpAny_take (i := 17) (v := undef) rfl (by kernel_rfl) (by kernel_rfl) (by kernel_rfl) (fun _ _ _ h => h) (Or.inr ⟨by kernel_rfl, rfl⟩) ?_
        refine wpAny_take (i := 18) (v := undef) rfl (by kernel_rfl) (by kernel_rfl) (by kernel_rfl) (fun _ _ _ h => h) (Or.inr ⟨by kernel_rfl, rfl⟩) ?_
        refine wpAny_take (i := 19) (v := undef) rfl (by kernel_rfl) (by kernel_rfl) (by kernel_rfl) (fun _ _ _ h => h) (Or.inr ⟨by kernel_rfl, rfl⟩) ?_
        refine wpAny_take (i := 20) (v := undef) rfl (by kernel_rfl) (by kernel_rfl) (by kernel_rfl) (fun _ _ _ h => h) (Or.inr ⟨by kernel_rfl, rfl⟩) ?_
        refine wpAny_take (i := 21) (v := undef) rfl (by kernel_rfl) (by kernel_rfl) (by kernel_rfl) (fun _ _ _ h => h) (Or.inr ⟨by kernel_rfl, rfl⟩) ?_
        refine wpAny_take (i := 22) (v := undef) rfl (by kernel_rfl) (by kernel_rfl) (by kernel_rfl) (fun _ _ _ h => h) (Or.inr ⟨by kernel_rfl, rfl⟩) ?_
        refine wpAny_take (i := 23) (v := undef) rfl (by kernel_rfl) (by kernel_rfl) (by kernel_rfl) (fun _ _ _ h => h) (Or.inr ⟨by kernel_rfl, rfl⟩) ?_
        refine wpAny_ready (rs := [24]) (by kernel_rfl) (by simp) ?_
        refine AllReady.cons rfl (fun K hK => ?_) AllReady.nil
        go_simp
        refine hK _ _ ?_
        clear hK K
        refine wpAny_done (by kernel_rfl) ?_ _
        go_wp2_with fail
        go_meet
        exact ⟨rfl, hb3⟩
    · go_simp
      refine hK _ _ ?_
      clear hK K
      refine wpAny_take (i := 9) (v := ?_) rfl (by kernel_rfl) (by kernel_rfl) (by kernel_rfl) (fun _ _ _ h => h) (Or.inl ⟨by kernel_rfl, ?_⟩) ?_
      rotate_left
      · (intro w; first | (go_simp; done) | (go_simp; with_reducible rfl) | with_reducible rfl)
      refine wpAny_ready (rs := [5]) (by kernel_rfl) (by simp) ?_
      refine AllReady.cons rfl (fun K hK => ?_) AllReady.nil
      go_simp
      refine hK _ _ ?_
      clear hK K
      refine wpAny_ready (rs := [6]) (by kernel_rfl) (by simp) ?_
      refine AllReady.cons rfl (fun K hK => ?_) AllReady.nil
      go_simp
      go_at_call 32; refine (kO _).mono ?_; rintro e u1 ⟨ga, gc, rfl, ho1, hb0⟩; have g1 := Rd.own ho1; have hb1 := keepC (w1 := vf) A0 hb0; clear hb0 ho1; obtain ⟨m0, m1, m2, m3, m4, m5, -⟩ := (J0.below hb1).d; obtain ⟨n0, n1, n2, n3, n4, -⟩ := (J0.below hb1).p; rw [hc.out] at n0
      go_simp
      refine hK _ _ ?_
      clear hK K
      refine wpAny_ready (rs := [10]) (by kernel_rfl) (by simp) ?_
      refine AllReady.cons rfl (fun K hK => ?_) AllReady.nil
      go_simp
      have hq := hb1; clear hq; go_at_call 30; refine (kT _ _ (by first | with_reducible rfl | with_reducible assumption)).mono ?_; rintro e u2 ⟨ha, hcp, rfl, ho2, hb0⟩; have g2 := Rd.own ho2; replace g1 := g1.below hb0; have hb2 := keepC (w1 := vf) hb1 hb0; clear hb0 ho2; obtain ⟨m0, m1, m2, m3, m4, m5, -⟩ := (J0.below hb2).d; obtain ⟨n0, n1, n2, n3, n4, -⟩ := (J0.below hb2).p; rw [hc.out] at n0
      go_simp
      refine hK _ _ ?_
      clear hK K
      refine wpAny_ready (rs := [11]) (by kernel_rfl) (by simp) ?_
      refine AllReady.cons rfl (fun K hK => ?_) AllReady.nil
      go_simp
      have hq := hb2; clear hq; go_at_call 62; refine (kC _ _ _ _ _ g1 g2).mono ?_; rintro e u3 ⟨rfl, hb0⟩; have hb3 := keepC (w1 := vf) hb2 hb0; clear hb0; obtain ⟨m0, m1, m2, m3, m4, m5, -⟩ := (J0.below hb3).d; obtain ⟨n0, n1, n2, n3, n4, -⟩ := (J0.below hb3).p; rw [hc.out] at n0
      go_simp
      refine hK _ _ ?_
      clear hK K
      refine wpAny_take (i := 12) (v := ?_) rfl (by kernel_rfl) (by kernel_rfl) (by kernel_rfl) (fun _ _ _ h => h) (Or.inl ⟨by kernel_rfl, ?_⟩) ?_
      rotate_left
      · (intro w; first | (go_simp; done) | (go_simp; with_reducible rfl) | with_reducible rfl)
      refine wpAny_take (i := 13) (v := ?_) rfl (by kernel_rfl) (by kernel_rfl) (by kernel_rfl) (fun _ _ _ h => h) (Or.inl ⟨by kernel_rfl, ?_⟩) ?_
      rotate_left
      · (intro w; first | (go_simp; done) | (go_simp; with_reducible rfl) | with_reducible rfl)
      refine wpAny_take (i := 14) (v := ?_) rfl (by kernel_rfl) (by kernel_rfl) (by kernel_rfl) (fun _ _ _ h => h) (Or.inl ⟨by kernel_rfl, ?_⟩) ?_
      rotate_left
      · (intro w; first | (go_simp; done) | (go_simp; with_reducible rfl) | with_reducible rfl)
      refine wpAny_take (i := 15) (v := undef) rfl (by kernel_rfl) (by kernel_rfl) (by kernel_rfl) (fun _ _ _ h => h) (Or.inr ⟨by kernel_rfl, rfl⟩) ?_
      refine wpAny_take (i := 16) (v := undef) rfl (by kernel_rfl) (by kernel_rfl) (by kernel_rfl) (fun _ _ _ h => h) (Or.inr ⟨by kernel_rfl, rfl⟩) ?_
      refine wpAny_take (i := 17) (v := undef) rfl (by kernel_rfl) (by kernel_rfl) (by kernel_rfl) (fun _ _ _ h => h) (Or.inr ⟨by kernel_rfl, rfl⟩) ?_
      refine wpAny_take (i := 18) (v := undef) rfl (by kernel_rfl) (by kernel_rfl) (by kernel_rfl) (fun _ _ _ h => h) (Or.inr ⟨by kernel_rfl, rfl⟩) ?_
      refine wpAny_take (i := 19) (v := undef) rfl (by kernel_rfl) (by kernel_rfl) (by kernel_rfl) (fun _ _ _ h => h) (Or.inr ⟨by kernel_rfl, rfl⟩) ?_
      refine wpAny_take (i := 20) (v := undef) rfl (by kernel_rfl) (by kernel_rfl) (by kernel_rfl) (fun _ _ _ h => h) (Or.inr ⟨by kernel_rfl, rfl⟩) ?_
      refine wpAny_take (i := 21) (v := undef) rfl (by kernel_rfl) (by kernel_rfl) (by kernel_rfl) (fun _ _ _ h => h) (Or.inr ⟨by kernel_rfl, rfl⟩) ?_
      refine wpAny_take (i := 22) (v := undef) rfl (by kernel_rfl) (by kernel_rfl) (by kernel_rfl) (fun _ _ _ h => h) (Or.inr ⟨by kernel_rfl, rfl⟩) ?_
      refine wpAny_take (i := 23) (v := undef) rfl (by kernel_rfl) (by kernel_rfl) (by kernel_rfl) (fun _ _ _ h => h) (Or.inr ⟨by kernel_rfl, rfl⟩) ?_
      refine wpAny_ready (rs := [24]) (by kernel_rfl) (by simp) ?_
      refine AllReady.cons rfl (fun K hK => ?_) AllReady.nil
      go_simp
      refine hK _ _ ?_
      clear hK K
      refine wpAny_done (by kernel_rfl) ?_ _
      go_wp2_with fail
      go_meet
      exact ⟨rfl, hb3⟩
  rename World => vg
  obtain ⟨rfl, hbx⟩ := hcut
  replace J0 := J0.below hbx
  replace rf := rf.below hbx
  replace rh := rh.below hbx
  replace rx := rx.below hbx
  clear hbx A0
  obtain ⟨p0, p1, p2, p3, p4, -⟩ := id J0.p
  go_wp2_with fail
  refine (kLx _ _ _ rx).mono ?_
  rintro e w1 ⟨ia, ic, rfl, ho, hb⟩
  have ri := Rd.own ho
  replace rh := rh.below hb
  replace J0 := J0.below hb
  clear hb ho
  go_wp2_with fail
  refine (kLh _ _ _ rh).mono ?_
  rintro e w2 ⟨ja, jc, rfl, ho, hb⟩
  have rj := Rd.own ho
  replace ri := ri.below hb
  replace J0 := J0.below hb
  clear hb ho
  go_wp2_with fail
  refine (k1 _).mono ?_
  rintro e w3 ⟨ka, kc, rfl, ho, hb⟩
  have rk := Rd.own ho
  replace ri := ri.below hb
  replace rj := rj.below hb
  replace J0 := J0.below hb
  clear hb ho
  subst hC
  have HB := hid J0.b
  have HR := hid (And.intro ri (And.intro rj rk))
  clear J0 ri rj rk p0 p1 p2 p3 p4 rf
  go_wp2_with fail
  exact bodyPost_ret (v := .tuple #[.slice ia (D A).length ic, .slice ja (D B).length jc, .slice ka (D 1).length kc]) (by simp [results, Tryd.results44, go_sem]) rfl ⟨_, _, _, _, _, _, rfl, HR.out.1, HR.out.2.1, HR.out.2.2, HB.out⟩

end Go.Proofs.YtehplfmnipadmaeDoor

namespace Go.Proofs.YtehplfmnipadmaeDoor
open Go.RowKit
set_option linter.unusedVariables false
set_option maxRecDepth 100000

set_option maxRecDepth 100000 in
set_option maxHeartbeats 8000000 in
theorem span_bn (f : Int) (T : M.Pt) (e0 e1 e2 e3 e4 : Int) (e5 : Bool) (A B C : Nat) (w : World)
    (kE : ∀ v : World, Calls Tryd.prog 26 #[.int .i64 f] v fun e w' => e = .returned (.agg #[.int .i64 e0, .int .i64 e1, .int .i64 e2, .int .i64 e3, .int .i64 e4, .bool e5]) ∧ Below v.heap.size v w') (kO : ∀ (v : World), Calls Tryd.prog 32 #[.agg #[.int .u64 (M.hiN T.s : Int), .int .u64 (M.loN T.s : Int)]] v fun e w' => Ret v w' e (D T.s)) (F4 : Nat) (kL2 : ∀ (v : World) (ao : Option Addr) (c : Nat), Rd v ao (D T.s) → Calls Tryd.prog 36 #[.slice ao (D T.s).length c, .int .i64 2] v fun e w' => Ret v w' e (D F4)) (k2 : ∀ (v : World), Calls Tryd.prog 31 #[.int .u64 2] v fun e w' => Ret v w' e (D 2)) (k1 : ∀ (v : World), Calls Tryd.prog 31 #[.int .u64 1] v fun e w' => Ret v w' e (D 1)) (H X : Nat) (kA : ∀ (v : World) (ao bo : Option Addr) (c d : Nat), Rd v ao (D F4) → Rd v bo (D 2) → Calls Tryd.prog 33 #[.slice ao (D F4).length c, .slice bo (D 2).length d] v fun e w' => Ret v w' e (D H)) (kS : ∀ (v : World) (ao bo : Option Addr) (c d : Nat), Rd v ao (D F4) → Rd v bo (D 2) → Calls Tryd.prog 29 #[.slice ao (D F4).length c, .slice bo (D 2).length d] v fun e w' => Ret v w' e (D X)) (hc : Hid (T.c = 3)) (LD : Nat) (cm : Int) (he1 : wrap64 (e0 - 1) = e0 - 1) (he2 : IntKind.i64.wrap (e0 - 1) = e0 - 1) (kT : ∀ (v : World) (z : Int), z = e0 - 1 → Calls Tryd.prog 30 #[.int .i64 z] v fun e w' => Ret v w' e (D LD)) (kC : ∀ (v : World) (ao bo : Option Addr) (c d : Nat), Rd v ao (D T.s) → Rd v bo (D LD) → Calls Tryd.prog 62 #[.slice ao (D T.s).length c, .slice bo (D LD).length d] v fun e w' => e = .returned (.int .i64 cm) ∧ Below v.heap.size v w') (hcm : ¬ cm = 0) (hcm2 : (cm == 0) = false) (z : Int) (hz : wrap64 (T.q - 2) = z) (hp : ¬ 0 ≤ z) (hn : wrap64 (-z) = -z) (hn2 : IntKind.i64.wrap (-z) = -z) (kT2 : ∀ (v : World) (y : Int), y = -z → Calls Tryd.prog 30 #[.int .i64 y] v fun e w' => Ret v w' e (D C)) (hA : A = X) (hB : B = H)  :
    Calls Tryd.prog 44 #[.int .i64 f, .agg #[.int .i64 T.c, .bool T.n, .int .u64 (M.hiN T.s : Int), .int .u64 (M.loN T.s : Int), .int .i64 T.q]] w fun e w' => Sp3 w w' e A B C := by
  have b0 : Below w.heap.size w (w.alloc (.cells #[.int .i64 T.c, .bool T.n, .int .u64 (M.hiN T.s : Int), .int .u64 (M.loN T.s : Int), .int .i64 T.q] 49)) := (Below.refl _ _).alloc (Nat.le_refl _) _
  have P0 : P5 (w.alloc (.cells #[.int .i64 T.c, .bool T.n, .int .u64 (M.hiN T.s : Int), .int .u64 (M.loN T.s : Int), .int .i64 T.q] 49)) w.heap.size T := P5_new w T
  generalize hV : (w.alloc (.cells #[.int .i64 T.c, .bool T.n, .int .u64 (M.hiN T.s : Int), .int .u64 (M.loN T.s : Int), .int .i64 T.q] 49)) = v0 at *
  go_enter Tryd.func44, Tryd.ntmps44
  go_upto_region 1 with fail
  clear hV
  go_wp2_with fail
  refine (kE _).mono ?_
  rintro e v1 ⟨rfl, hb1⟩
  replace b0 := b0.trans (hb1.mono b0.size)
  replace P0 := P0.below hb1
  clear hb1 kE
  go_upto_region 2 with fail
  have bA : Below v1.heap.size v1 (v1.alloc (.cells #[.int .i64 e0, .int .i64 e1, .int .i64 e2, .int .i64 e3, .int .i64 e4, .bool e5] 56)) := (Below.refl _ _).alloc (Nat.le_refl _) _
  have J0 : Cv w (v1.alloc (.cells #[.int .i64 e0, .int .i64 e1, .int .i64 e2, .int .i64 e3, .int .i64 e4, .bool e5] 56)) v1.heap.size e0 e1 e2 e3 e4 e5 T := ⟨b0.trans (bA.mono b0.size), D6_new v1 _ _ _ _ _ _ _, P0.below bA⟩
  clear bA b0 P0
  generalize (v1.alloc (.cells #[.int .i64 e0, .int .i64 e1, .int .i64 e2, .int .i64 e3, .int .i64 e4, .bool e5] 56)) = v2 at *
  generalize v1.heap.size = gd at *
  obtain ⟨p0, p1, p2, p3, p4, -⟩ := id J0.p
  go_wp2_with fail
  refine (kO _).mono ?_
  rintro e va ⟨sa, sc, rfl, ho, hb⟩
  have rs := Rd.own ho
  replace J0 := J0.below hb
  clear hb ho
  clear p0 p1 p2 p3 p4
  go_wp2_with fail
  refine (kL2 _ _ _ rs).mono ?_
  rintro e vb ⟨fa, fc, rfl, ho, hb⟩
  have rf := Rd.own ho
  replace J0 := J0.below hb
  clear hb ho
  clear rs kL2
  go_wp2_with fail
  refine (k2 _).mono ?_
  rintro e vc ⟨ta, tc, rfl, ho, hb⟩
  have rt := Rd.own ho
  replace rf := rf.below hb
  replace J0 := J0.below hb
  clear hb ho
  go_wp2_with fail
  refine (kA _ _ _ _ _ rf rt).mono ?_
  rintro e vd ⟨ha, hc0, rfl, ho, hb⟩
  have rh := Rd.own ho
  replace rf := rf.below hb
  replace J0 := J0.below hb
  clear hb ho
  clear rt kA
  go_wp2_with fail
  refine (k2 _).mono ?_
  rintro e ve ⟨ta, tc, rfl, ho, hb⟩
  have rt := Rd.own ho
  replace rf := rf.below hb
  replace rh := rh.below hb
  replace J0 := J0.below hb
  clear hb ho
  go_wp2_with fail
  refine (kS _ _ _ _ _ rf rt).mono ?_
  rintro e vf ⟨xa, xc, rfl, ho, hb⟩
  have rx := Rd.own ho
  replace rf := rf.below hb
  replace rh := rh.below hb
  replace J0 := J0.below hb
  clear hb ho
  clear rt kS
  obtain ⟨p0, p1, p2, p3, p4, -⟩ := id J0.p
  rw [hc.out] at p0
  go_upto_region 5 with fail
  clear p0 p1 p2 p3 p4
  have A0 : Below vf.heap.size vf vf.drew := (Below.refl _ _).drew
  go_cut [48] (fun z wx => z = .bool false ∧ Below vf.heap.size vf wx)
  case first =>
    obtain ⟨d0, d1, d2, d3, d4, d5, -⟩ := (J0.below A0).d
    obtain ⟨p0, p1, p2, p3, p4, -⟩ := (J0.below A0).p
    rw [hc.out] at p0
    refine wp_region_any (by kernel_rfl) ?_
    change wpAny _ _ _ _ _ _ _ (World.drew _)
    refine wpAny_take (i := 0) (v := ?_) rfl (by kernel_rfl) (by kernel_rfl) (by kernel_rfl) (fun _ _ _ h => h) (Or.inl ⟨by kernel_rfl, ?_⟩) ?_
    rotate_left
    · (intro w; first | (go_simp; done) | (go_simp; with_reducible rfl) | with_reducible rfl)
    refine wpAny_ready (rs := [1]) (by kernel_rfl) (by simp) ?_
    refine AllReady.cons rfl (fun K hK => ?_) AllReady.nil
    go_simp
    refine hK _ _ ?_
    clear hK K
    refine wpAny_take (i := 2) (v := ?_) rfl (by kernel_rfl) (by kernel_rfl) (by kernel_rfl) (fun _ _ _ h => h) (Or.inl ⟨by kernel_rfl, ?_⟩) ?_
    rotate_left
    · (intro w; first | (go_simp; done) | (go_simp; with_reducible rfl) | with_reducible rfl)
    refine wpAny_take (i := 3) (v := ?_) rfl (by kernel_rfl) (by kernel_rfl) (by kernel_rfl) (fun _ _ _ h => h) (Or.inl ⟨by kernel_rfl, ?_⟩) ?_
    rotate_left
    · (intro w; first | (go_simp; done) | (go_simp; with_reducible rfl) | with_reducible rfl)
    refine wpAny_take (i := 4) (v := ?_) rfl (by kernel_rfl) (by kernel_rfl) (by kernel_rfl) (fun _ _ _ h => h) (Or.inl ⟨by kernel_rfl, ?_⟩) ?_
    rotate_left
    · (intro w; first | (go_simp; done) | (go_simp; with_reducible rfl) | with_reducible rfl)
    refine wpAny_take (i := 7) (v := ?_) rfl (by kernel_rfl) (by kernel_rfl) (by kernel_rfl) (fun _ _ _ h => h) (Or.inl ⟨by kernel_rfl, ?_⟩) ?_
    rotate_left
    · (intro w; first | (go_simp; done) | (go_simp; with_reducible rfl) | with_reducible rfl)
    refine wpAny_ready (rs := [5, 8]) (by kernel_rfl) (by simp) ?_
    refine AllReady.cons rfl (fun K hK => ?_) (AllReady.cons rfl (fun K hK => ?_) AllReady.nil)
    · go_simp
      refine hK _ _ ?_
      clear hK K
      refine wpAny_ready (rs := [6, 8]) (by kernel_rfl) (by simp) ?_
      refine AllReady.cons rfl (fun K hK => ?_) (AllReady.cons rfl (fun K hK => ?_) AllReady.nil)
      · go_simp
        go_at_call 32; refine (kO _).mono ?_; rintro e u1 ⟨ga, gc, rfl, ho1, hb0⟩; have g1 := Rd.own ho1; have hb1 := keepC (w1 := vf) A0 hb0; clear hb0 ho1; obtain ⟨m0, m1, m2, m3, m4, m5, -⟩ := (J0.below hb1).d; obtain ⟨n0, n1, n2, n3, n4, -⟩ := (J0.below hb1).p; rw [hc.out] at n0
        go_simp
        refine hK _ _ ?_
        clear hK K
        refine wpAny_ready (rs := [8]) (by kernel_rfl) (by simp) ?_
        refine AllReady.cons rfl (fun K hK => ?_) AllReady.nil
        go_simp
        refine hK _ _ ?_
        clear hK K
        refine wpAny_take (i := 9) (v := ?_) rfl (by kernel_rfl) (by kernel_rfl) (by kernel_rfl) (fun _ _ _ h => h) (Or.inl ⟨by kernel_rfl, ?_⟩) ?_
        rotate_left
        · (intro w; first | (go_simp; done) | (go_simp; with_reducible rfl) | with_reducible rfl)
        refine wpAny_ready (rs := [10]) (by kernel_rfl) (by simp) ?_
        refine AllReady.cons rfl (fun K hK => ?_) AllReady.nil
        go_simp
        have hq := hb1; clear hq; go_at_call 30; refine (kT _ _ (by first | with_reducible rfl | with_reducible assumption)).mono ?_; rintro e u2 ⟨ha, hcp, rfl, ho2, hb0⟩; have g2 := Rd.own ho2; replace g1 := g1.below hb0; have hb2 := keepC (w1 := vf) hb1 hb0; clear hb0 ho2; obtain ⟨m0, m1, m2, m3, m4, m5, -⟩ := (J0.below hb2).d; obtain ⟨n0, n1, n2, n3, n4, -⟩ := (J0.below hb2).p; rw [hc.out] at n0
        go_simp
        refine hK _ _ ?_
        clear hK K
        refine wpAny_ready (rs := [11]) (by kernel_rfl) (by simp) ?_
        refine AllReady.cons rfl (fun K hK => ?_) AllReady.nil
        go_simp
        have hq := hb2; clear hq; go_at_call 62; refine (kC _ _ _ _ _ g1 g2).mono ?_; rintro e u3 ⟨rfl, hb0⟩; have hb3 := keepC (w1 := vf) hb2 hb0; clear hb0; obtain ⟨m0, m1, m2, m3, m4, m5, -⟩ := (J0.below hb3).d; obtain ⟨n0, n1, n2, n3, n4, -⟩ := (J0.below hb3).p; rw [hc.out] at n0
        go_simp
        refine hK _ _ ?_
        clear hK K
        refine wpAny_take (i := 12) (v := ?_) rfl (by kernel_rfl) (by kernel_rfl) (by kernel_rfl) (fun _ _ _ h => h) (Or.inl ⟨by kernel_rfl, ?_⟩) ?_
        rotate_left
        · (intro w; first | (go_simp; done) | (go_simp; with_reducible rfl) | with_reducible rfl)
        refine wpAny_take (i := 13) (v := ?_) rfl (by kernel_rfl) (by kernel_rfl) (by kernel_rfl) (fun _ _ _ h => h) (Or.inl ⟨by kernel_rfl, ?_⟩) ?_
        rotate_left
        · (intro w; first | (go_simp; done) | (go_simp; with_reducible rfl) | with_reducible rfl)
        refine wpAny_take (i := 14) (v := ?_) rfl (by kernel_rfl) (by kernel_rfl) (by kernel_rfl) (fun _ _ _ h => h) (Or.inl ⟨by kernel_rfl, ?_⟩) ?_
        rotate_left
        · (intro w; first | (go_simp; done) | (go_simp; with_reducible rfl) | with_reducible rfl)
        refine wpAny_take (i := 15) (v := undef) rfl (by kernel_rfl) (by kernel_rfl) (by kernel_rfl) (fun _ _ _ h => h) (Or.inr ⟨by kernel_rfl, rfl⟩) ?_
        refine wpAny_take (i := 16) (v := undef) rfl (by kernel_rfl) (by kernel_rfl) (by kernel_rfl) (fun _ _ _ h => h) (Or.inr ⟨by kernel_rfl, rfl⟩) ?_
        refine wpAny_take (i := 17) (v := undef) rfl (by kernel_rfl) (by kernel_rfl) (by kernel_rfl) (fun _ _ _ h => h) (Or.inr ⟨by kernel_rfl, rfl⟩) ?_
        refine wpAny_take (i := 18) (v := undef) rfl (by kernel_rfl) (by kernel_rfl) (by kernel_rfl) (fun _ _ _ h => h) (Or.inr ⟨by kernel_rfl, rfl⟩) ?_
        refine wpAny_take (i := 19) (v := undef) rfl (by kernel_rfl) (by kernel_rfl) (by kernel_rfl) (fun _ _ _ h => h) (Or.inr ⟨by kernel_rfl, rfl⟩) ?_
        refine wpAny_take (i := 20) (v := undef) rfl (by kernel_rfl) (by kernel_rfl) (by kernel_rfl) (fun _ _ _ h => h) (Or.inr ⟨by kernel_rfl, rfl⟩) ?_
        refine wpAny_take (i := 21) (v := undef) rfl (by kernel_rfl) (by kernel_rfl) (by kernel_rfl) (fun _ _ _ h => h) (Or.inr ⟨by kernel_rfl, rfl⟩) ?_
        refine wpAny_take (i := 22) (v := undef) rfl (by kernel_rfl) (by kernel_rfl) (by kernel_rfl) (fun _ _ _ h => h) (Or.inr ⟨by kernel_rfl, rfl⟩) ?_
        refine wpAny_take (i := 23) (v := undef) rfl (by kernel_rfl) (by kernel_rfl) (by kernel_rfl) (fun _ _ _ h => h) (Or.inr ⟨by kernel_rfl, rfl⟩) ?_
        refine wpAny_ready (rs := [24]) (by kernel_rfl) (by simp) ?_
        refine AllReady.cons rfl (fun K hK => ?_) AllReady.nil
        go_simp
        refine hK _ _ ?_
        clear hK K
        refine wpAny_done (by kernel_rfl) ?_ _
        go_wp2_with fail
        go_meet
        exact ⟨rfl, hb3⟩
      · go_simp
        refine hK _ _ ?_
        clear hK K
        refine wpAny_take (i := 9) (v := ?_) rfl (by kernel_rfl) (by kernel_rfl) (by kernel_rfl) (fun _ _ _ h => h) (Or.inl ⟨by kernel_rfl, ?_⟩) ?_
        rotate_left
        · (intro w; first | (go_simp; done) | (go_simp; with_reducible rfl) | with_reducible rfl)
        refine wpAny_ready (rs := [6]) (by kernel_rfl) (by simp) ?_
        refine AllReady.cons rfl (fun K hK => ?_) AllReady.nil
        go_simp
        go_at_call 32; refine (kO _).mono ?_; rintro e u1 ⟨ga, gc, rfl, ho1, hb0⟩; have g1 := Rd.own ho1; have hb1 := keepC (w1 := vf) A0 hb0; clear hb0 ho1; obtain ⟨m0, m1, m2, m3, m4, m5, -⟩ := (J0.below hb1).d; obtain ⟨n0, n1, n2, n3, n4, -⟩ := (J0.below hb1).p; rw [hc.out] at n0
        go_simp
        refine hK _ _ ?_
        clear hK K
        refine wpAny_ready (rs := [10]) (by kernel_rfl) (by simp) ?_
        refine AllReady.cons rfl (fun K hK => ?_) AllReady.nil
        go_simp
        have hq := hb1; clear hq; go_at_call 30; refine (kT _ _ (by first | with_reducible rfl | with_reducible assumption)).mono ?_; rintro e u2 ⟨ha, hcp, rfl, ho2, hb0⟩; have g2 := Rd.own ho2; replace g1 := g1.below hb0; have hb2 := keepC (w1 := vf) hb1 hb0; clear hb0 ho2; obtain ⟨m0, m1, m2, m3, m4, m5, -⟩ := (J0.below hb2).d; obtain ⟨n0, n1, n2, n3, n4, -⟩ := (J0.below hb2).p; rw [hc.out] at n0
        go_simp
        refine hK _ _ ?_
        clear hK K
        refine wpAny_ready (rs := [11]) (by kernel_rfl) (by simp) ?_
        refine AllReady.cons rfl (fun K hK => ?_) AllReady.nil
        go_simp
        have hq := hb2; clear hq; go_at_call 62; refine (kC _ _ _ _ _ g1 g2).mono ?_; rintro e u3 ⟨rfl, hb0⟩; have hb3 := keepC (w1 := vf) hb2 hb0; clear hb0; obtain ⟨m0, m1, m2, m3, m4, m5, -⟩ := (J0.below hb3).d; obtain ⟨n0, n1, n2, n3, n4, -⟩ := (J0.below hb3).p; rw [hc.out] at n0
        go_simp
        refine hK _ _ ?_
        clear hK K
        refine wpAny_take (i := 12) (v := ?_) rfl (by kernel_rfl) (by kernel_rfl) (by kernel_rfl) (fun _ _ _ h => h) (Or.inl ⟨by kernel_rfl, ?_⟩) ?_
        rotate_left
        · (intro w; first | (go_simp; done) | (go_simp; with_reducible rfl) | with_reducible rfl)
        refine wpAny_take (i := 13) (v := ?_) rfl (by kernel_rfl) (by kernel_rfl) (by kernel_rfl) (fun _ _ _ h => h) (Or.inl ⟨by kernel_rfl, ?_⟩) ?_
        rotate_left
        · (intro w; first | (go_simp; done) | (go_simp; with_reducible rfl) | with_reducible rfl)
        refine wpAny_take (i := 14) (v := ?_) rfl (by kernel_rfl) (by kernel_rfl) (by kernel_rfl) (fun _ _ _ h => h) (Or.inl ⟨by kernel_rfl, ?_⟩) ?_
        rotate_left
        · (intro w; first | (go_simp; done) | (go_simp; with_reducible rfl) | with_reducible rfl)
        refine wpAny_take (i := 15) (v := undef) rfl (by kernel_rfl) (by kernel_rfl) (by kernel_rfl) (fun _ _ _ h => h) (Or.inr ⟨by kernel_rfl, rfl⟩) ?_
        refine wpAny_take (i := 16) (v := undef) rfl (by kernel_rfl) (by kernel_rfl) (by kernel_rfl) (fun _ _ _ h => h) (Or.inr ⟨by kernel_rfl, rfl⟩) ?_
        refine wpAny_take (i := 17) (v := undef) rfl (by kernel_rfl) (by kernel_rfl) (by kernel_rfl) (fun _ _ _ h => h) (Or.inr ⟨by kernel_rfl, rfl⟩) ?_
        refine wpAny_take (i := 18) (v := undef) rfl (by kernel_rfl) (by kernel_rfl) (by kernel_rfl) (fun _ _ _ h => h) (Or.inr ⟨by kernel_rfl, rfl⟩) ?_
        refine wpAny_take (i := 19) (v := undef) rfl (by kernel_rfl) (by kernel_rfl) (by kernel_rfl) (fun _ _ _ h => h) (Or.inr ⟨by kernel_rfl, rfl⟩) ?_
        refine wpAny_take (i := 20) (v := undef) rfl (by kernel_rfl) (by kernel_rfl) (by kernel_rfl) (fun _ _ _ h => h) (Or.inr ⟨by kernel_rfl, rfl⟩) ?_
        refine wpAny_take (i := 21) (v := undef) rfl (by kernel_rfl) (by kernel_rfl) (by kernel_rfl) (fun _ _ _ h => h) (Or.inr ⟨by kernel_rfl, rfl⟩) ?_
        refine wpAny_take (i := 22) (v := undef) rfl (by kernel_rfl) (by kernel_rfl) (by kernel_rfl) (fun _ _ _ h => h) (Or.inr ⟨by kernel_rfl, rfl⟩) ?_
        refine wpAny_take (i := 23) (v := undef) rfl (by kernel_rfl) (by kernel_rfl) (by kernel_rfl) (fun _ _ _ h => h) (Or.inr ⟨by kernel_rfl, rfl⟩) ?_
        refine wpAny_ready (rs := [24]) (by kernel_rfl) (by simp) ?_
        refine AllReady.cons rfl (fun K hK => ?_) AllReady.nil
        go_simp
        refine hK _ _ ?_
        clear hK K
        refine wpAny_done (by kernel_rfl) ?_ _
        go_wp2_with fail
        go_meet
        exact ⟨rfl, hb3⟩
    · go_simp
      refine hK _ _ ?_
      clear hK K
      refine wpAny_take (i := 9) (v := ?_) rfl (by kernel_rfl) (by kernel_rfl) (by kernel_rfl) (fun _ _ _ h => h) (Or.inl ⟨by kernel_rfl, ?_⟩) ?_
      rotate_left
      · (intro w; first | (go_simp; done) | (go_simp; with_reducible rfl) | with_reducible rfl)
      refine wpAny_ready (rs := [5]) (by kernel_rfl) (by simp) ?_
      refine AllReady.cons rfl (fun K hK => ?_) AllReady.nil
      go_simp
      refine hK _ _ ?_
      clear hK K
      refine wpAny_ready (rs := [6]) (by kernel_rfl) (by simp) ?_
      refine AllReady.cons rfl (fun K hK => ?_) AllReady.nil
      go_simp
      go_at_call 32; refine (kO _).mono ?_; rintro e u1 ⟨ga, gc, rfl, ho1, hb0⟩; have g1 := Rd.own ho1; have hb1 := keepC (w1 := vf) A0 hb0; clear hb0 ho1; obtain ⟨m0, m1, m2, m3, m4, m5, -⟩ := (J0.below hb1).d; obtain ⟨n0, n1, n2, n3, n4, -⟩ := (J0.below hb1).p; rw [hc.out] at n0
      go_simp
      refine hK _ _ ?_
      clear hK K
      refine wpAny_ready (rs := [10]) (by kernel_rfl) (by simp) ?_
      refine AllReady.cons rfl (fun K hK => ?_) AllReady.nil
      go_simp
      have hq := hb1; clear hq; go_at_call 30; refine (kT _ _ (by first | with_reducible rfl | with_reducible assumption)).mono ?_; rintro e u2 ⟨ha, hcp, rfl, ho2, hb0⟩; have g2 := Rd.own ho2; replace g1 := g1.below hb0; have hb2 := keepC (w1 := vf) hb1 hb0; clear hb0 ho2; obtain ⟨m0, m1, m2, m3, m4, m5, -⟩ := (J0.below hb2).d; obtain ⟨n0, n1, n2, n3, n4, -⟩ := (J0.below hb2).p; rw [hc.out] at n0
      go_simp
      refine hK _ _ ?_
      clear hK K
      refine wpAny_ready (rs := [11]) (by kernel_rfl) (by simp) ?_
      refine AllReady.cons rfl (fun K hK => ?_) AllReady.nil
      go_simp
      have hq := hb2; clear hq; go_at_call 62; refine (kC _ _ _ _ _ g1 g2).mono ?_; rintro e u3 ⟨rfl, hb0⟩; have hb3 := keepC (w1 := vf) hb2 hb0; clear hb0; obtain ⟨m0, m1, m2, m3, m4, m5, -⟩ := (J0.below hb3).d; obtain ⟨n0, n1, n2, n3, n4, -⟩ := (J0.below hb3).p; rw [hc.out] at n0
      go_simp
      refine hK _ _ ?_
      clear hK K
      refine wpAny_take (i := 12) (v := ?_) rfl (by kernel_rfl) (by kernel_rfl) (by kernel_rfl) (fun _ _ _ h => h) (Or.inl ⟨by kernel_rfl, ?_⟩) ?_
      rotate_left
      · (intro w; first | (go_simp; done) | (go_simp; with_reducible rfl) | with_reducible rfl)
      refine wpAny_take (i := 13) (v := ?_) rfl (by kernel_rfl) (by kernel_rfl) (by kernel_rfl) (fun _ _ _ h => h) (Or.inl ⟨by kernel_rfl, ?_⟩) ?_
      rotate_left
      · (intro w; first | (go_simp; done) | (go_simp; with_reducible rfl) | with_reducible rfl)
      refine wpAny_take (i := 14) (v := ?_) rfl (by kernel_rfl) (by kernel_rfl) (by kernel_rfl) (fun _ _ _ h => h) (Or.inl ⟨by kernel_rfl, ?_⟩) ?_
      rotate_left
      · (intro w; first | (go_simp; done) | (go_simp; with_reducible rfl) | with_reducible rfl)
      refine wpAny_take (i := 15) (v := undef) rfl (by kernel_rfl) (by kernel_rfl) (by kernel_rfl) (fun _ _ _ h => h) (Or.inr ⟨by kernel_rfl, rfl⟩) ?_
      refine wpAny_take (i := 16) (v := undef) rfl (by kernel_rfl) (by kernel_rfl) (by kernel_rfl) (fun _ _ _ h => h) (Or.inr ⟨by kernel_rfl, rfl⟩) ?_
      refine wpAny_take (i := 17) (v := undef) rfl (by kernel_rfl) (by kernel_rfl) (by kernel_rfl) (fun _ _ _ h => h) (Or.inr ⟨by kernel_rfl, rfl⟩) ?_
      refine wpAny_take (i := 18) (v := undef) rfl (by kernel_rfl) (by kernel_rfl) (by kernel_rfl) (fun _ _ _ h => h) (Or.inr ⟨by kernel_rfl, rfl⟩) ?_
      refine wpAny_take (i := 19) (v := undef) rfl (by kernel_rfl) (by kernel_rfl) (by kernel_rfl) (fun _ _ _ h => h) (Or.inr ⟨by kernel_rfl, rfl⟩) ?_
      refine wpAny_take (i := 20) (v := undef) rfl (by kernel_rfl) (by kernel_rfl) (by kernel_rfl) (fun _ _ _ h => h) (Or.inr ⟨by kernel_rfl, rfl⟩) ?_
      refine wpAny_take (i := 21) (v := undef) rfl (by kernel_rfl) (by kernel_rfl) (by kernel_rfl) (fun _ _ _ h => h) (Or.inr ⟨by kernel_rfl, rfl⟩) ?_
      refine wpAny_take (i := 22) (v := undef) rfl (by kernel_rfl) (by kernel_rfl) (by kernel_rfl) (fun _ _ _ h => h) (Or.inr ⟨by kernel_rfl, rfl⟩) ?_
      refine wpAny_take (i := 23) (v := undef) rfl (by kernel_rfl) (by kernel_rfl) (by kernel_rfl) (fun _ _ _ h => h) (Or.inr ⟨by kernel_rfl, rfl⟩) ?_
      refine wpAny_ready (rs := [24]) (by kernel_rfl) (by simp) ?_
      refine AllReady.cons rfl (fun K hK => ?_) AllReady.nil
      go_simp
      refine hK _ _ ?_
      clear hK K
      refine wpAny_done (by kernel_rfl) ?_ _
      go_wp2_with fail
      go_meet
      exact ⟨rfl, hb3⟩
  rename World => vg
  obtain ⟨rfl, hbx⟩ := hcut
  replace J0 := J0.below hbx
  replace rf := rf.below hbx
  replace rh := rh.below hbx
  replace rx := rx.below hbx
  clear hbx A0
  obtain ⟨p0, p1, p2, p3, p4, -⟩ := id J0.p
  go_wp2_with fail
  refine (kT2 _ _ (by first | with_reducible rfl | with_reducible assumption)).mono ?_
  rintro e w1 ⟨ka, kc, rfl, ho, hb⟩
  have rk := Rd.own ho
  replace rx := rx.below hb
  replace rh := rh.below hb
  replace J0 := J0.below hb
  clear hb ho
  subst hA
  subst hB
  have HB := hid J0.b
  have HR := hid (And.intro rx (And.intro rh rk))
  clear J0 rx rh rk p0 p1 p2 p3 p4 rf
  go_wp2_with fail
  exact bodyPost_ret (v := .tuple #[.slice xa (D A).length xc, .slice ha (D B).length hc0, .slice ka (D C).length kc]) (by simp [results, Tryd.results44, go_sem]) rfl ⟨_, _, _, _, _, _, rfl, HR.out.1, HR.out.2.1, HR.out.2.2, HB.out⟩

end Go.Proofs.YtehplfmnipadmaeDoor

namespace Go.Proofs.YtehplfmnipadmaeDoor
open Go.RowKit
set_option linter.unusedVariables false
set_option maxRecDepth 100000

/-- An interval with three lists of its own, whatever they are. -/
def Iw (w w' : World) (e : Ending) (xs ys zs : List Nat) (cl ok : Bool) : Prop :=
  ∃ (a : Option Addr) (ca : Nat) (b : Option Addr) (cb : Nat) (c : Option Addr) (cc m1 m2 : Nat), e = .returned (.agg #[.slice a xs.length ca, .slice b ys.length cb, .slice c zs.length cc, .bool cl, .bool ok]) ∧ w.heap.size ≤ m1 ∧ m1 ≤ m2 ∧ m2 ≤ w'.heap.size ∧ Own w' w.heap.size m1 a ca xs ∧ Own w' m1 m2 b cb ys ∧ Own w' m2 w'.heap.size c cc zs ∧ Below w.heap.size w w'

theorem belDrew {B : Nat} {w v : World} (h : Below B w v) (q : Nat) : Below B w (v.drewN q) := ⟨h.os, h.tape, h.output, h.size, h.block⟩

theorem marks_len3 (k n : Nat) : (marks k n).length = n := by simp [marks]

set_option maxRecDepth 100000 in
set_option maxHeartbeats 1000000 in
theorem eqIv_same (xs ys zs : List Nat) (cl ok : Bool) (la : Option Addr) (lca : Nat) (lb : Option Addr) (lcb : Nat) (lc : Option Addr) (lcc : Nat) (ra : Option Addr) (rca : Nat) (rb : Option Addr) (rcb : Nat) (rc : Option Addr) (rcc : Nat) (w : World) (h1 : xs.length ≤ 4194304) (h2 : ys.length ≤ 4194304) (h3 : zs.length ≤ 4194304) (lr1 : Rd w la xs) (lr2 : Rd w lb ys) (lr3 : Rd w lc zs) (rr1 : Rd w ra xs) (rr2 : Rd w rb ys) (rr3 : Rd w rc zs) :
    Calls Tryd.prog 13 #[.agg #[.slice la xs.length lca, .slice lb ys.length lcb, .slice lc zs.length lcc, .bool cl, .bool ok], .agg #[.slice ra xs.length rca, .slice rb ys.length rcb, .slice rc zs.length rcc, .bool cl, .bool ok]] w fun e w' => e = .returned (.bool true) ∧ Below w.heap.size w w' := by
  have b0 : Below w.heap.size w ((w.alloc (.cells #[.slice la xs.length lca, .slice lb ys.length lcb, .slice lc zs.length lcc, .bool cl, .bool ok] 33)).alloc (.cells #[.slice ra xs.length rca, .slice rb ys.length rcb, .slice rc zs.length rcc, .bool cl, .bool ok] 33)) := ((Below.refl _ _).alloc (Nat.le_refl _) _).alloc (by simp) _
  obtain ⟨v0, hV⟩ : ∃ v0, v0 = ((w.alloc (.cells #[.slice la xs.length lca, .slice lb ys.length lcb, .slice lc zs.length lcc, .bool cl, .bool ok] 33)).alloc (.cells #[.slice ra xs.length rca, .slice rb ys.length rcb, .slice rc zs.length rcc, .bool cl, .bool ok] 33)) := ⟨_, rfl⟩
  rw [← hV] at b0
  have L0 : v0.cell? ⟨w.heap.size, 0, none⟩ = some (.slice la xs.length lca) ∧ v0.cell? ⟨w.heap.size, 1, none⟩ = some (.slice lb ys.length lcb) ∧ v0.cell? ⟨w.heap.size, 2, none⟩ = some (.slice lc zs.length lcc) ∧ v0.cell? ⟨w.heap.size, 3, none⟩ = some (.bool cl) ∧ v0.cell? ⟨w.heap.size, 4, none⟩ = some (.bool ok) := by rw [hV]; refine ⟨?_, ?_, ?_, ?_, ?_⟩ <;> simp [go_sem]
  have R0 : v0.cell? ⟨w.heap.size + 1, 0, none⟩ = some (.slice ra xs.length rca) ∧ v0.cell? ⟨w.heap.size + 1, 1, none⟩ = some (.slice rb ys.length rcb) ∧ v0.cell? ⟨w.heap.size + 1, 2, none⟩ = some (.slice rc zs.length rcc) ∧ v0.cell? ⟨w.heap.size + 1, 3, none⟩ = some (.bool cl) ∧ v0.cell? ⟨w.heap.size + 1, 4, none⟩ = some (.bool ok) := by rw [hV]; refine ⟨?_, ?_, ?_, ?_, ?_⟩ <;> simp [go_sem]
  have hV' := hV.symm
  clear hV
  replace lr1 := lr1.below b0
  replace lr2 := lr2.below b0
  replace lr3 := lr3.below b0
  replace rr1 := rr1.below b0
  replace rr2 := rr2.below b0
  replace rr3 := rr3.below b0
  obtain ⟨p0, p1, p2, p3, p4⟩ := L0
  obtain ⟨q0, q1, q2, q3, q4⟩ := R0
  have n1 : (cl != cl) = false := by simp
  have n2 : (ok != ok) = false := by simp
  go_enter Tryd.func13, Tryd.ntmps13
  go_upto_region 1 with fail
  clear hV'
  go_wp2_with fail
  refine (eqU_any la ra _ _ lca rca xs xs _ rfl rfl h1 h1 lr1 rr1).mono ?_
  rintro e v1 ⟨rfl, d1, rfl⟩
  rw [show decide (xs = xs) = true by simp]
  go_wp2_with fail
  refine (eqU_any lb rb _ _ lcb rcb ys ys _ rfl rfl h2 h2 (Rd.drewN lr2 _) (Rd.drewN rr2 _)).mono ?_
  rintro e v2 ⟨rfl, d2, rfl⟩
  rw [show decide (ys = ys) = true by simp]
  go_wp2_with fail
  refine (eqU_any lc rc _ _ lcc rcc zs zs _ rfl rfl h3 h3 (Rd.drewN lr3 _) (Rd.drewN rr3 _)).mono ?_
  rintro e v3 ⟨rfl, d3, rfl⟩
  rw [show decide (zs = zs) = true by simp]
  go_wp2_with fail
  go_ret
  first | exact ⟨rfl, belDrew b0 _⟩ | exact ⟨rfl, belDrew (belDrew b0 _) _⟩ | exact ⟨rfl, belDrew (belDrew (belDrew b0 _) _) _⟩

set_option maxRecDepth 100000 in
set_option maxHeartbeats 1000000 in
theorem markIv (xs ys zs : List Nat) (cl ok : Bool) (la : Option Addr) (lca : Nat) (lb : Option Addr) (lcb : Nat) (lc : Option Addr) (lcc : Nat) (w : World) (l0 m1 m2 l3 k1 k2 k3 : Nat) (h1 : xs.length ≤ 2000000) (h2 : ys.length ≤ 2000000) (h3 : zs.length ≤ 2000000) (hk1 : k1 = 1 + xs.length) (hk2 : k2 = k1 + ys.length) (hk3 : k3 = k2 + zs.length) (hl3 : l3 ≤ w.heap.size) (h01 : l0 ≤ m1) (h12 : m1 ≤ m2) (h23 : m2 ≤ l3)
    (oA : Own w l0 m1 la lca xs) (oB : Own w m1 m2 lb lcb ys) (oC : Own w m2 l3 lc lcc zs) :
    Calls Tryd.prog 14 #[.agg #[.slice la xs.length lca, .slice lb ys.length lcb, .slice lc zs.length lcc, .bool cl, .bool ok], .int .i64 1] w fun e w' => e = .returned (.int .i64 (k3 : Int)) ∧ Rd w' la (marks 1 xs.length) ∧ Rd w' lb (marks k1 ys.length) ∧ Rd w' lc (marks k2 zs.length) ∧ Below l0 w w' ∧ ∃ u0 u1 u2, Below w.heap.size w u0 ∧ u0.grownBy u1 (Value.slice la xs.length lca).ownBlock ∧ u1.grownBy u2 (Value.slice lb ys.length lcb).ownBlock ∧ u2.grownBy w' (Value.slice lc zs.length lcc).ownBlock := by
  obtain ⟨v0, hV⟩ : ∃ v0, v0 = (w.alloc (.cells #[.slice la xs.length lca, .slice lb ys.length lcb, .slice lc zs.length lcc, .bool cl, .bool ok] 33)) := ⟨_, rfl⟩
  have b0 : Below w.heap.size w v0 := by rw [hV]; exact (Below.refl _ _).alloc (Nat.le_refl _) _
  have P0 : v0.cell? ⟨w.heap.size, 0, none⟩ = some (.slice la xs.length lca) ∧ v0.cell? ⟨w.heap.size, 1, none⟩ = some (.slice lb ys.length lcb) ∧ v0.cell? ⟨w.heap.size, 2, none⟩ = some (.slice lc zs.length lcc) := by rw [hV]; refine ⟨?_, ?_, ?_⟩ <;> simp [go_sem]
  have lv : w.heap.size < v0.heap.size := by rw [hV]; simp
  have hV' := hV.symm
  clear hV
  replace oA := oA.keep b0
  replace oB := oB.keep b0
  replace oC := oC.keep b0
  have HK1 := hid hk1
  have HK2 := hid hk2
  have HK3 := hid hk3
  have hk1b : k1 ≤ 2000001 := by omega
  have hk2b : k2 ≤ 4000001 := by omega
  clear hk1 hk2 hk3
  go_enter Tryd.func14, Tryd.ntmps14
  go_upto_region 1 with fail
  clear hV'
  obtain ⟨p0, p1, p2⟩ := id P0
  go_wp2_with fail
  refine (mark_any 0 la xs.length lca 1 xs _ k1 HK1.out (by omega) (by omega) oA.row).mono ?_
  rintro e v1 ⟨rfl, hm1, hg1⟩
  have nb1 : ∀ k, w.heap.size ≤ k → (Value.slice la xs.length lca).ownBlock ≠ some k := fun k hk e => by have := (oA.place k e).2; omega
  have P1 : v1.cell? ⟨w.heap.size, 0, none⟩ = some (.slice la xs.length lca) ∧ v1.cell? ⟨w.heap.size, 1, none⟩ = some (.slice lb ys.length lcb) ∧ v1.cell? ⟨w.heap.size, 2, none⟩ = some (.slice lc zs.length lcc) := by
    have hh := hg1.block w.heap.size lv (fun e => nb1 _ (Nat.le_refl _) e.symm)
    exact ⟨(World.cell?_of_block (a := ⟨w.heap.size, 0, none⟩) hh).trans P0.1, (World.cell?_of_block (a := ⟨w.heap.size, 1, none⟩) hh).trans P0.2.1, (World.cell?_of_block (a := ⟨w.heap.size, 2, none⟩) hh).trans P0.2.2⟩
  have oB1 := oB.grown hg1 (fun k h1 h2 e => by have := (oA.place k e).2; omega)
  have oC1 := oC.grown hg1 (fun k h1 h2 e => by have := (oA.place k e).2; omega)
  have oA1 : Own v1 l0 m1 la lca (marks 1 xs.length) := ⟨by rw [marks_len3]; exact hm1, by rw [marks_len3]; exact oA.place⟩
  have bb1 : Below l0 w v1 := ((b0.mono (by omega)).grown hg1 (by omega) (fun k e => (oA.place k e).1))
  have lv1 : w.heap.size < v1.heap.size := Nat.lt_of_lt_of_le lv hg1.size
  have HG1 := hid hg1
  have HB0 := hid b0
  clear oA oB oC hm1 hg1 P0 p0 p1 p2 nb1 b0 lv
  obtain ⟨p0, p1, p2⟩ := id P1
  go_wp2_with fail
  refine (mark_any 0 lb ys.length lcb k1 ys _ k2 HK2.out (by omega) (by omega) oB1.row).mono ?_
  rintro e v2 ⟨rfl, hm2, hg2⟩
  have nb2 : ∀ k, w.heap.size ≤ k → (Value.slice lb ys.length lcb).ownBlock ≠ some k := fun k hk e => by have := (oB1.place k e).2; omega
  have P2 : v2.cell? ⟨w.heap.size, 2, none⟩ = some (.slice lc zs.length lcc) := by
    have hh := hg2.block w.heap.size lv1 (fun e => nb2 _ (Nat.le_refl _) e.symm)
    exact (World.cell?_of_block (a := ⟨w.heap.size, 2, none⟩) hh).trans P1.2.2
  have oC2 := oC1.grown hg2 (fun k h1 h2 e => by have := (oB1.place k e).2; omega)
  have oA2 := oA1.grown hg2 (fun k h1 h2 e => by have := (oB1.place k e).1; omega)
  have oB2 : Own v2 m1 m2 lb lcb (marks k1 ys.length) := ⟨by rw [marks_len3]; exact hm2, by rw [marks_len3]; exact oB1.place⟩
  have bb2 : Below l0 w v2 := bb1.grown hg2 (by have := bb1.size; omega) (fun k e => by have := (oB1.place k e).1; omega)
  have HG2 := hid hg2
  clear oA1 oB1 oC1 hm2 hg2 P1 p0 p1 p2 nb2 bb1 lv1
  go_wp2_with fail
  refine (mark_any 0 lc zs.length lcc k2 zs _ k3 HK3.out (by omega) (by omega) oC2.row).mono ?_
  rintro e v3 ⟨rfl, hm3, hg3⟩
  have oA3 := oA2.grown hg3 (fun k h1 h2 e => by have := (oC2.place k e).1; omega)
  have oB3 := oB2.grown hg3 (fun k h1 h2 e => by have := (oC2.place k e).1; omega)
  have bb3 : Below l0 w v3 := bb2.grown hg3 (by have := bb2.size; omega) (fun k e => by have := (oC2.place k e).1; omega)
  have HR := hid (And.intro oA3.rd (And.intro oB3.rd (Rd.own hm3)))
  have HB := hid bb3
  have HG3 := hid hg3
  clear oA2 oB2 oC2 oA3 oB3 hm3 hg3 bb2 bb3 P2
  go_wp2_with fail
  go_ret
  exact ⟨rfl, HR.out.1, HR.out.2.1, HR.out.2.2, HB.out, _, _, _, HB0.out, HG1.out, HG2.out, HG3.out⟩

set_option maxRecDepth 100000 in
set_option maxHeartbeats 1000000 in
theorem heldIv (xs ys zs : List Nat) (cl ok : Bool) (la : Option Addr) (lca : Nat) (lb : Option Addr) (lcb : Nat) (lc : Option Addr) (lcc : Nat) (w : World) (k1 k2 k3 : Nat) (h1 : xs.length ≤ 2000000) (h2 : ys.length ≤ 2000000) (h3 : zs.length ≤ 2000000) (hk1 : k1 = 1 + xs.length) (hk2 : k2 = k1 + ys.length) (hk3 : k3 = k2 + zs.length) (r1 : Rd w la (marks 1 xs.length)) (r2 : Rd w lb (marks k1 ys.length)) (r3 : Rd w lc (marks k2 zs.length)) :
    Calls Tryd.prog 15 #[.agg #[.slice la xs.length lca, .slice lb ys.length lcb, .slice lc zs.length lcc, .bool cl, .bool ok], .int .i64 1] w fun e w' => e = .returned (.int .i64 (k3 : Int)) ∧ Below w.heap.size w w' := by
  obtain ⟨v0, hV⟩ : ∃ v0, v0 = (w.alloc (.cells #[.slice la xs.length lca, .slice lb ys.length lcb, .slice lc zs.length lcc, .bool cl, .bool ok] 33)) := ⟨_, rfl⟩
  have b0 : Below w.heap.size w v0 := by rw [hV]; exact (Below.refl _ _).alloc (Nat.le_refl _) _
  have P0 : v0.cell? ⟨w.heap.size, 0, none⟩ = some (.slice la xs.length lca) ∧ v0.cell? ⟨w.heap.size, 1, none⟩ = some (.slice lb ys.length lcb) ∧ v0.cell? ⟨w.heap.size, 2, none⟩ = some (.slice lc zs.length lcc) := by rw [hV]; refine ⟨?_, ?_, ?_⟩ <;> simp [go_sem]
  have hV' := hV.symm
  clear hV
  replace r1 := r1.below b0
  replace r2 := r2.below b0
  replace r3 := r3.below b0
  have HK1 := hid hk1
  have HK2 := hid hk2
  have HK3 := hid hk3
  have hk1b : k1 ≤ 2000001 := by omega
  have hk2b : k2 ≤ 4000001 := by omega
  clear hk1 hk2 hk3
  have n1 : ¬ (k1 : Int) < 0 := by omega
  have n2 : ¬ (k2 : Int) < 0 := by omega
  have n3 : ¬ (k3 : Int) < 0 := by omega
  go_enter Tryd.func15, Tryd.ntmps15
  go_upto_region 1 with fail
  clear hV'
  obtain ⟨p0, p1, p2⟩ := id P0
  go_wp2_with fail
  refine (held_any la xs.length lca 1 _ k1 HK1.out (by omega) (by omega) r1).mono ?_
  rintro e v1 ⟨rfl, rfl⟩
  go_wp2_with fail
  refine (held_any lb ys.length lcb k1 _ k2 HK2.out (by omega) (by omega) r2).mono ?_
  rintro e v1 ⟨rfl, rfl⟩
  go_wp2_with fail
  refine (held_any lc zs.length lcc k2 _ k3 HK3.out (by omega) (by omega) r3).mono ?_
  rintro e v1 ⟨rfl, rfl⟩
  go_wp2_with fail
  go_ret
  exact ⟨rfl, b0⟩

/-- An interval's variable, filled. -/
def J5 (v : World) (g : Nat) (xs ys zs : List Nat) (cl ok : Bool) (a : Option Addr) (ca : Nat) (b : Option Addr) (cb : Nat) (c : Option Addr) (cc : Nat) : Prop :=
  v.cell? ⟨g, 0, none⟩ = some (.slice a xs.length ca) ∧ v.cell? ⟨g, 1, none⟩ = some (.slice b ys.length cb) ∧ v.cell? ⟨g, 2, none⟩ = some (.slice c zs.length cc) ∧ v.cell? ⟨g, 3, none⟩ = some (.bool cl) ∧ v.cell? ⟨g, 4, none⟩ = some (.bool ok) ∧ g < v.heap.size

theorem J5_new (v : World) (xs ys zs : List Nat) (cl ok : Bool) (a : Option Addr) (ca : Nat) (b : Option Addr) (cb : Nat) (c : Option Addr) (cc : Nat) : J5 (v.alloc (.cells #[.slice a xs.length ca, .slice b ys.length cb, .slice c zs.length cc, .bool cl, .bool ok] 33)) v.heap.size xs ys zs cl ok a ca b cb c cc := by
  refine ⟨?_, ?_, ?_, ?_, ?_, ?_⟩ <;> simp [go_sem]

theorem J5.same {v v' : World} {g : Nat} {xs ys zs : List Nat} {cl ok : Bool} {a : Option Addr} {ca : Nat} {b : Option Addr} {cb : Nat} {c : Option Addr} {cc : Nat} (h : J5 v g xs ys zs cl ok a ca b cb c cc) (hs : v.heap.size ≤ v'.heap.size) (hh : v'.heap[g]? = v.heap[g]?) : J5 v' g xs ys zs cl ok a ca b cb c cc :=
  ⟨(World.cell?_of_block (a := ⟨g, 0, none⟩) hh).trans h.1, (World.cell?_of_block (a := ⟨g, 1, none⟩) hh).trans h.2.1, (World.cell?_of_block (a := ⟨g, 2, none⟩) hh).trans h.2.2.1, (World.cell?_of_block (a := ⟨g, 3, none⟩) hh).trans h.2.2.2.1, (World.cell?_of_block (a := ⟨g, 4, none⟩) hh).trans h.2.2.2.2.1, Nat.lt_of_lt_of_le h.2.2.2.2.2 hs⟩

theorem J5.below {v v' : World} {g : Nat} {xs ys zs : List Nat} {cl ok : Bool} {a : Option Addr} {ca : Nat} {b : Option Addr} {cb : Nat} {c : Option Addr} {cc : Nat} (h : J5 v g xs ys zs cl ok a ca b cb c cc) (hb : Below v.heap.size v v') : J5 v' g xs ys zs cl ok a ca b cb c cc := h.same hb.size (hb.block g h.2.2.2.2.2)

set_option maxRecDepth 100000 in
set_option maxHeartbeats 8000000 in
theorem lawBndKey (f a b : Int) (xs ys zs : List Nat) (cl ok : Bool) (w : World) (h : Fmt w) (h1 : xs.length ≤ 2000000) (h2 : ys.length ≤ 2000000) (h3 : zs.length ≤ 2000000)
    (hS : ∀ v : World, Calls Tryd.prog 11 #[.int .i64 f, .agg #[.int .u64 a, .int .u64 b]] v fun e w' => Iw v w' e xs ys zs cl ok)
    (hI : ∀ v : World, Fmt v → Calls Tryd.prog 12 #[.int .i64 f, .agg #[.int .u64 a, .int .u64 b]] v fun e w' => Iw v w' e xs ys zs cl ok) :
    Calls Tryd.prog 4 #[.int .i64 f, .agg #[.int .u64 a, .int .u64 b]] w fun e w' => e = .returned (.bool true) ∧ Below w.heap.size w w' := by
  have b0 := (Below.refl w.heap.size w).alloc (Nat.le_refl _) (.cells #[.int .u64 a, .int .u64 b] 24)
  go_enter Tryd.func4, Tryd.ntmps4
  go_wp2_with fail
  refine (toWord_any a b _).mono ?_
  rintro e v1 ⟨rfl, hb⟩
  have x0 : v1.cell? ⟨w.heap.size, 0, none⟩ = some (.int .u64 a) := (hb.cell (by simp)).trans (by simp [go_sem])
  have x1 : v1.cell? ⟨w.heap.size, 1, none⟩ = some (.int .u64 b) := (hb.cell (by simp)).trans (by simp [go_sem])
  have l0 : w.heap.size < v1.heap.size := by have := hb.size; simp at this; omega
  replace b0 := b0.trans (hb.mono b0.size)
  clear hb
  go_wp2_with fail
  refine (hS _).mono ?_
  rintro e v2 ⟨wa, wca, wb, wcb, wc, wcc, wm1, wm2, rfl, wg1, wg2, wg3, oWa, oWb, oWc, hb⟩
  replace x0 := (hb.cell (p := ⟨w.heap.size, 0, none⟩) l0).trans x0
  replace x1 := (hb.cell (p := ⟨w.heap.size, 1, none⟩) l0).trans x1
  have lv1 := hb.size
  replace b0 := b0.trans (hb.mono b0.size)
  clear hb hS
  go_upto_region 2 with fail
  have bA := (Below.refl v2.heap.size v2).alloc (Nat.le_refl _) (.cells #[.slice wa xs.length wca, .slice wb ys.length wcb, .slice wc zs.length wcc, .bool cl, .bool ok] 33)
  have W0 := J5_new v2 xs ys zs cl ok wa wca wb wcb wc wcc
  replace x0 := (bA.cell (p := ⟨w.heap.size, 0, none⟩) (Nat.lt_of_lt_of_le l0 lv1)).trans x0
  replace x1 := (bA.cell (p := ⟨w.heap.size, 1, none⟩) (Nat.lt_of_lt_of_le l0 lv1)).trans x1
  replace oWa := oWa.keep bA
  replace oWb := oWb.keep bA
  replace oWc := oWc.keep bA
  replace b0 := b0.trans (bA.mono b0.size)
  clear bA
  generalize v2.alloc (.cells #[.slice wa xs.length wca, .slice wb ys.length wcb, .slice wc zs.length wcc, .bool cl, .bool ok] 33) = v3 at *
  obtain ⟨gw, hgw⟩ : ∃ gw, gw = v2.heap.size := ⟨_, rfl⟩
  rw [← hgw] at W0 wg3 oWc lv1 ⊢
  clear hgw
  go_wp2_with fail
  refine (toWord_any a b _).mono ?_
  rintro e v4 ⟨rfl, hb⟩
  have lw4 : gw < v4.heap.size := Nat.lt_of_lt_of_le W0.2.2.2.2.2 hb.size
  have lx4 : w.heap.size < v4.heap.size := by omega
  replace x0 := (hb.cell (p := ⟨w.heap.size, 0, none⟩) (by have := W0.2.2.2.2.2; simp only; omega)).trans x0
  replace x1 := (hb.cell (p := ⟨w.heap.size, 1, none⟩) (by have := W0.2.2.2.2.2; simp only; omega)).trans x1
  replace W0 := W0.below hb
  replace oWa := oWa.keep hb
  replace oWb := oWb.keep hb
  replace oWc := oWc.keep hb
  replace b0 := b0.trans (hb.mono b0.size)
  clear hb
  go_wp2_with fail
  refine (hI _ (h.below b0)).mono ?_
  rintro e v5 ⟨ga, gca, gb, gcb, gc, gcc, gm1, gm2, rfl, gg1, gg2, gg3, oGa, oGb, oGc, hb⟩
  replace x0 := (hb.cell (p := ⟨w.heap.size, 0, none⟩) lx4).trans x0
  replace x1 := (hb.cell (p := ⟨w.heap.size, 1, none⟩) lx4).trans x1
  replace W0 := W0.below hb
  replace oWa := oWa.keep hb
  replace oWb := oWb.keep hb
  replace oWc := oWc.keep hb
  replace b0 := b0.trans (hb.mono b0.size)
  have lv45 := hb.size
  clear hb
  go_upto_region 3 with fail
  have bA := (Below.refl v5.heap.size v5).alloc (Nat.le_refl _) (.cells #[.slice ga xs.length gca, .slice gb ys.length gcb, .slice gc zs.length gcc, .bool cl, .bool ok] 33)
  have G0 := J5_new v5 xs ys zs cl ok ga gca gb gcb gc gcc
  replace x0 := (bA.cell (p := ⟨w.heap.size, 0, none⟩) (Nat.lt_of_lt_of_le lx4 lv45)).trans x0
  replace x1 := (bA.cell (p := ⟨w.heap.size, 1, none⟩) (Nat.lt_of_lt_of_le lx4 lv45)).trans x1
  replace W0 := W0.below bA
  replace oWa := oWa.keep bA
  replace oWb := oWb.keep bA
  replace oWc := oWc.keep bA
  replace oGa := oGa.keep bA
  replace oGb := oGb.keep bA
  replace oGc := oGc.keep bA
  replace b0 := b0.trans (bA.mono b0.size)
  clear bA
  generalize v5.alloc (.cells #[.slice ga xs.length gca, .slice gb ys.length gcb, .slice gc zs.length gcc, .bool cl, .bool ok] 33) = v6 at *
  obtain ⟨gg, hgg⟩ : ∃ gg, gg = v5.heap.size := ⟨_, rfl⟩
  rw [← hgg] at G0 gg3 oGc lv45 ⊢
  clear hgg
  obtain ⟨p0, p1, p2, p3, p4, -⟩ := id G0
  obtain ⟨q0, q1, q2, q3, q4, -⟩ := id W0
  go_wp2_with fail
  refine (eqIv_same xs ys zs cl ok ga gca gb gcb gc gcc wa wca wb wcb wc wcc _ (by omega) (by omega) (by omega) oGa.rd oGb.rd oGc.rd oWa.rd oWb.rd oWc.rd).mono ?_
  rintro e v7 ⟨rfl, hb⟩
  have lg6 : gg < v6.heap.size := G0.2.2.2.2.2
  replace x0 := (hb.cell (p := ⟨w.heap.size, 0, none⟩) (by simp only; omega)).trans x0
  replace x1 := (hb.cell (p := ⟨w.heap.size, 1, none⟩) (by simp only; omega)).trans x1
  replace W0 := W0.below hb
  replace G0 := G0.below hb
  replace oWa := oWa.keep hb
  replace oWb := oWb.keep hb
  replace oWc := oWc.keep hb
  replace oGa := oGa.keep hb
  replace oGb := oGb.keep hb
  replace oGc := oGc.keep hb
  replace b0 := b0.trans (hb.mono b0.size)
  clear hb p0 p1 p2 p3 p4 q0 q1 q2 q3 q4
  obtain ⟨p0, p1, p2, p3, p4, -⟩ := id G0
  obtain ⟨k1, hk1⟩ : ∃ k : Nat, k = 1 + xs.length := ⟨_, rfl⟩
  obtain ⟨k2, hk2⟩ : ∃ k : Nat, k = k1 + ys.length := ⟨_, rfl⟩
  obtain ⟨k3, hk3⟩ : ∃ k : Nat, k = k2 + zs.length := ⟨_, rfl⟩
  have HK := hid (And.intro hk1 (And.intro hk2 hk3))
  clear hk1 hk2 hk3
  have lg7 : gg < v7.heap.size := G0.2.2.2.2.2
  go_wp2_with fail
  refine (markIv xs ys zs cl ok ga gca gb gcb gc gcc _ v4.heap.size gm1 gm2 gg k1 k2 k3 h1 h2 h3 HK.out.1 HK.out.2.1 HK.out.2.2 (Nat.le_of_lt lg7) gg1 gg2 gg3 oGa oGb oGc).mono ?_
  rintro e v8 ⟨rfl, m1, m2, m3, bm, u0, u1, u2, c0, c1, c2, c3⟩
  have s0 := c0.size
  have s1 := c1.size
  have s2 := c2.size
  have s3 := c3.size
  have hG : v8.heap[gg]? = v7.heap[gg]? := (c3.block gg (by omega) (fun e => by have := (oGc.place gg e.symm).2; omega)).trans ((c2.block gg (by omega) (fun e => by have := (oGb.place gg e.symm).2; omega)).trans ((c1.block gg (by omega) (fun e => by have := (oGa.place gg e.symm).2; omega)).trans (c0.block gg lg7)))
  replace G0 := G0.same (by omega) hG
  replace W0 := W0.same (v' := v8) (by omega) (bm.block gw lw4)
  replace oWa := ((((oWa.keep c0).grown c1 (fun k h1 h2 e => by have := (oGa.place k e).1; omega)).grown c2 (fun k h1 h2 e => by have := (oGb.place k e).1; omega)).grown c3 (fun k h1 h2 e => by have := (oGc.place k e).1; omega))
  replace oWb := ((((oWb.keep c0).grown c1 (fun k h1 h2 e => by have := (oGa.place k e).1; omega)).grown c2 (fun k h1 h2 e => by have := (oGb.place k e).1; omega)).grown c3 (fun k h1 h2 e => by have := (oGc.place k e).1; omega))
  replace oWc := ((((oWc.keep c0).grown c1 (fun k h1 h2 e => by have := (oGa.place k e).1; omega)).grown c2 (fun k h1 h2 e => by have := (oGb.place k e).1; omega)).grown c3 (fun k h1 h2 e => by have := (oGc.place k e).1; omega))
  replace x0 := (bm.cell (p := ⟨w.heap.size, 0, none⟩) lx4).trans x0
  replace x1 := (bm.cell (p := ⟨w.heap.size, 1, none⟩) lx4).trans x1
  replace b0 := b0.trans (bm.mono (Nat.le_of_lt lx4))
  have lw8 : w.heap.size < v8.heap.size := by omega
  clear c0 c1 c2 c3 s0 s1 s2 s3 hG bm oGa oGb oGc p0 p1 p2 p3 p4 lg7 lg6
  obtain ⟨p0, p1, p2, p3, p4, -⟩ := id G0
  have n3 : ¬ (k3 : Int) < 0 := by omega
  have hne : ((k3 : Int) != (k3 : Int)) = false := by simp
  go_wp2_with fail
  refine (heldIv xs ys zs cl ok ga gca gb gcb gc gcc _ k1 k2 k3 h1 h2 h3 HK.out.1 HK.out.2.1 HK.out.2.2 m1 m2 m3).mono ?_
  rintro e v9 ⟨rfl, hb⟩
  replace x0 := (hb.cell (p := ⟨w.heap.size, 0, none⟩) lw8).trans x0
  replace x1 := (hb.cell (p := ⟨w.heap.size, 1, none⟩) lw8).trans x1
  replace W0 := W0.below hb
  replace oWa := oWa.keep hb
  replace oWb := oWb.keep hb
  replace oWc := oWc.keep hb
  replace b0 := b0.trans (hb.mono b0.size)
  clear hb p0 p1 p2 p3 p4 G0 m1 m2 m3
  go_wp2_with fail
  refine (toWord_any a b _).mono ?_
  rintro e v10 ⟨rfl, hb⟩
  replace W0 := W0.below hb
  replace oWa := oWa.keep hb
  replace oWb := oWb.keep hb
  replace oWc := oWc.keep hb
  replace b0 := b0.trans (hb.mono b0.size)
  clear hb x0 x1
  go_wp2_with fail
  refine (hI _ (h.below b0)).mono ?_
  rintro e v11 ⟨ha, hca, hhb, hcb, hhc, hcc, hm1, hm2, rfl, hg1, hg2, hg3, oHa, oHb, oHc, hb⟩
  replace W0 := W0.below hb
  replace oWa := oWa.keep hb
  replace oWb := oWb.keep hb
  replace oWc := oWc.keep hb
  replace b0 := b0.trans (hb.mono b0.size)
  clear hb hg1 hg2 hg3

  go_upto_region 14 with fail
  have bA := (Below.refl v11.heap.size v11).alloc (Nat.le_refl _) (.cells #[.slice ha xs.length hca, .slice hhb ys.length hcb, .slice hhc zs.length hcc, .bool cl, .bool ok] 33)
  have H0 := J5_new v11 xs ys zs cl ok ha hca hhb hcb hhc hcc
  replace W0 := W0.below bA
  replace oWa := oWa.keep bA
  replace oWb := oWb.keep bA
  replace oWc := oWc.keep bA
  replace oHa := oHa.keep bA
  replace oHb := oHb.keep bA
  replace oHc := oHc.keep bA
  replace b0 := b0.trans (bA.mono b0.size)
  clear bA
  generalize v11.alloc (.cells #[.slice ha xs.length hca, .slice hhb ys.length hcb, .slice hhc zs.length hcc, .bool cl, .bool ok] 33) = v12 at *
  obtain ⟨p0, p1, p2, p3, p4, -⟩ := id H0
  obtain ⟨q0, q1, q2, q3, q4, -⟩ := id W0
  generalize v11.heap.size = gh at *
  go_wp2_with fail
  refine (eqIv_same xs ys zs cl ok ha hca hhb hcb hhc hcc wa wca wb wcb wc wcc _ (by omega) (by omega) (by omega) oHa.rd oHb.rd oHc.rd oWa.rd oWb.rd oWc.rd).mono ?_
  rintro e v13 ⟨rfl, hb⟩
  have HB := hid (b0.trans (hb.mono b0.size))
  clear hb b0
  go_wp2_with fail
  go_ret
  exact ⟨rfl, HB.out⟩

end Go.Proofs.YtehplfmnipadmaeDoor

namespace Go.Proofs.YtehplfmnipadmaeDoor
open Go.RowKit
set_option linter.unusedVariables false
set_option maxRecDepth 100000

theorem cmp_ne {a b : Nat} (h : ¬ a = b) : ¬ cmpI a b = 0 := by
  unfold cmpI
  split
  · omega
  · split <;> omega

set_option maxHeartbeats 1000000 in
theorem sspanB (f : Nat) (hf : f < 4) (T : M.Pt) (h : (M.fm f).Ok) (hfi : Fin (M.fm f) T) (hc : T.c = 3) (he : ¬ T.s = (M.fm f).lead) (w : World) :
    Calls Tryd.prog 44 #[.int .i64 (f : Int), .agg #[.int .i64 T.c, .bool T.n, .int .u64 (M.hiN T.s : Int), .int .u64 (M.loN T.s : Int), .int .i64 T.q]] w fun e w' => Sp3 w w' e (bA (M.fm f) T) (bB T) (bC T) := by
  have kE := fun v : World => sdescribe_ok f hf v
  simp only [dv] at kE
  generalize M.fm f = F at *
  have p1 := h.p1
  have p2 := h.p2
  have lp := h.leadPos
  have tp := h.top2
  have l2 : F.lead ≤ 2 ^ 112 := Nat.pow_le_pow_right (by omega) (by omega)
  obtain ⟨s1, s2, q1, q2, q3, q4, s3, s4⟩ := hfi
  have kO := fun v : World => l2Of_any T.s (show T.s < 2 ^ 128 by omega) v
  have kL2 : ∀ (v : World) (ao : Option Addr) (c : Nat), Rd v ao (D T.s) → Calls Tryd.prog 36 #[.slice ao (D T.s).length c, .int .i64 2] v fun e w' => Ret v w' e (D (4 * T.s)) := fun v ao c hr => by
    have := l1Left_any ao _ c 2 T.s v rfl (Nat.le_trans (D_small T.s (by omega)) (by omega)) (by omega) hr
    rw [show T.s * 2 ^ 2 = 4 * T.s by omega] at this
    exact this
  have k2 : ∀ v : World, Calls Tryd.prog 31 #[.int .u64 2] v fun e w' => Ret v w' e (D 2) := fun v => l1Of_any 2 v (by omega)
  have k1 : ∀ v : World, Calls Tryd.prog 31 #[.int .u64 1] v fun e w' => Ret v w' e (D 1) := fun v => l1Of_any 1 v (by omega)
  have dl : ∀ x : Nat, x < 2 ^ 128 → (D x).length ≤ 6 := fun x hx => D_small x (by omega)
  have kA := fun (v : World) (ao bo : Option Addr) (c d : Nat) (hr : Rd v ao (D (4 * T.s))) (hr2 : Rd v bo (D 2)) => l1Add_any ao bo _ _ c d (4 * T.s) 2 v rfl rfl (Nat.le_trans (dl _ (by omega)) (by omega)) (Nat.le_trans (dl _ (by omega)) (by omega)) hr hr2
  have kS := fun (v : World) (ao bo : Option Addr) (c d : Nat) (hr : Rd v ao (D (4 * T.s))) (hr2 : Rd v bo (D 2)) => l1Sub_any ao bo _ _ c d (4 * T.s) 2 v rfl rfl (by omega) (Nat.le_trans (dl _ (by omega)) (by omega)) hr hr2
  have kL := fun (x : Nat) (hx : x < 2 ^ 128) (u : Nat) (hu : u ≤ 20000) (v : World) (ao : Option Addr) (c : Nat) (hr : Rd v ao (D x)) => l1Left_any ao _ c u x v rfl (Nat.le_trans (dl _ hx) (by omega)) (by omega) hr
  have kT : ∀ (v : World) (z : Int), z = (F.p : Int) - 1 → Calls Tryd.prog 30 #[.int .i64 z] v fun e w' => Ret v w' e (D F.lead) := fun v z hz => by
    have := l2Two_any (F.p - 1) v (by omega)
    rw [show ((F.p - 1 : Nat) : Int) = z by omega] at this
    exact this
  have kC : ∀ (v : World) (ao bo : Option Addr) (c d : Nat), Rd v ao (D T.s) → Rd v bo (D F.lead) → Calls Tryd.prog 62 #[.slice ao (D T.s).length c, .slice bo (D F.lead).length d] v fun e w' => e = .returned (.int .i64 (cmpI T.s F.lead)) ∧ Below v.heap.size v w' := fun v ao bo c d hr hr2 => (l1Cmp_any ao bo _ _ c d T.s F.lead v rfl rfl (Nat.le_trans (dl _ (by omega)) (by omega)) (Nat.le_trans (dl _ (by omega)) (by omega)) hr hr2).mono fun e w' ⟨he', hw⟩ => ⟨he', by rw [hw]; exact Below.refl _ _⟩
  have hcm := cmp_ne he
  have hcm2 : (cmpI T.s F.lead == 0) = false := by simp [hcm]
  have hz : wrap64 (T.q - 2) = T.q - 2 := by simp only [wrap64]; omega
  have HZ := hid hz
  clear hz
  by_cases hp : 0 ≤ T.q - 2
  · obtain ⟨u, hu⟩ : ∃ u : Nat, (u : Int) = T.q - 2 := ⟨(T.q - 2).toNat, by omega⟩
    have hu1 : (T.q - 2).toNat = u := by omega
    have hu2 : (2 - T.q).toNat = 0 := by omega
    have hC : bC T = 1 := by simp [bC, hu2]
    have eB : bB T = (4 * T.s + 2) * 2 ^ u := by unfold bB; rw [hu1]
    have kLx := fun (x : Nat) (hx : x < 2 ^ 128) => kL x hx u (by omega)
    rw [hu] at kLx
    have eA : bA F T = (4 * T.s - 2) * 2 ^ u := by unfold bA bLow; rw [if_neg (fun hh => he hh.1), hu1]
    rw [eA, eB]
    exact span_bp (f : Int) T _ _ _ _ _ _ _ _ _ w kE kO (4 * T.s) kL2 k2 k1 (4 * T.s + 2) (4 * T.s - 2) kA kS hc F.lead _ (wp1 h) (wp2 h) kT kC hcm hcm2 (T.q - 2) HZ.out hp (kLx _ (by omega)) (kLx _ (by omega)) hC
  · have hu1 : (T.q - 2).toNat = 0 := by omega
    obtain ⟨u, hu⟩ : ∃ u : Nat, (u : Int) = -(T.q - 2) := ⟨(-(T.q - 2)).toNat, by omega⟩
    have hu2 : (2 - T.q).toNat = u := by omega
    have eB : bB T = 4 * T.s + 2 := by unfold bB; rw [hu1, Nat.pow_zero, Nat.mul_one]
    have kT2 : ∀ (v : World) (y : Int), y = -(T.q - 2) → Calls Tryd.prog 30 #[.int .i64 y] v fun e w' => Ret v w' e (D (bC T)) := fun v y hy => by
      have := twoL_any u v (by omega)
      rw [hu, ← hy] at this
      unfold bC
      rw [hu2]
      exact this
    have n1 : wrap64 (-(T.q - 2)) = -(T.q - 2) := by simp only [wrap64]; omega
    have n2 : IntKind.i64.wrap (-(T.q - 2)) = -(T.q - 2) := by simp only [IntKind.wrap_i64]; omega
    have HN := hid (And.intro n1 n2)
    clear n1 n2
    have eA : bA F T = 4 * T.s - 2 := by unfold bA bLow; rw [if_neg (fun hh => he hh.1), hu1, Nat.pow_zero, Nat.mul_one]
    exact span_bn (f : Int) T _ _ _ _ _ _ _ _ _ w kE kO (4 * T.s) kL2 k2 k1 (4 * T.s + 2) (4 * T.s - 2) kA kS hc F.lead _ (wp1 h) (wp2 h) kT kC hcm hcm2 (T.q - 2) HZ.out hp HN.out.1 HN.out.2 kT2 eA eB

theorem bnd_lt {F : M.Fm} {T : M.Pt} (hf : Fin F T) : bA F T < 2 ^ (128 + (T.q - 2).toNat) ∧ bB T < 2 ^ (128 + (T.q - 2).toNat) ∧ bC T < 2 ^ (128 + (2 - T.q).toNat) ∧ (T.q - 2).toNat ≤ 17000 ∧ (2 - T.q).toNat ≤ 17000 := by
  obtain ⟨s1, s2, q1, q2, q3, q4, s3, s4⟩ := hf
  refine ⟨mul_pow_lt ?_, mul_pow_lt (by omega), ?_, by omega, by omega⟩
  · unfold bLow; split <;> omega
  · unfold bC
    exact Nat.pow_lt_pow_right (by omega) (by omega)

theorem sbounds_any (f : Nat) (hf : f < 4) (X : Nat) (hX : X < 2 ^ 128) (w : World) (T : M.Pt) (hT : T = (M.fm f).upk X) (hc : T.c = 2 ∨ T.c = 3) :
    Calls Tryd.prog 11 #[.int .i64 (f : Int), .agg #[.int .u64 (M.hiN X : Int), .int .u64 (M.loN X : Int)]] w fun e w' => Iv w w' e (bA (M.fm f) T) (bB T) (bC T) (decide (T.s % 2 = 0)) := by
  have kU := fun v : World => sunpack_any f hf X hX v
  have h := M.fm_ok f
  have hp := h.upk_proper X
  rw [← hT] at kU hp
  have hpr : (M.fm f).Proper T := by
    rcases hp with hp | hp
    · rw [hp] at hc; simp at hc
    · exact hp
  have hfi := fin_of h hpr hc
  have kP := fun v : World => sspan_any f hf T h hfi hc v (fun h3 he => sspanB f hf T h hfi h3 he v)
  have hl := bnd_lt hfi
  simp only [pv] at kU
  have kO := fun (A j : Nat) (hA : A < 2 ^ (128 + j)) (hj : j ≤ 17000) (v : World) (ao : Option Addr) (c : Nat) (hr : Rd v ao (D A)) => l1Out_any ao _ c A v rfl (Nat.le_trans (D_len_b A (128 + j) 1000 hA (by omega)) (by omega)) hr
  have hcl : ((M.loN T.s : Int).tmod 2 == 0) = decide (T.s % 2 = 0) := by
    have e1 : (M.loN T.s : Int).tmod 2 = ((M.loN T.s % 2 : Nat) : Int) := rfl
    have e2 : M.loN T.s % 2 = T.s % 2 := by unfold M.loN; omega
    rw [e1, e2]
    by_cases h : T.s % 2 = 0
    · simp [h]
    · have h2 : T.s % 2 = 1 := by omega
      simp [h2]
  rcases hc with hc | hc
  · exact sbnd_in2 (f : Int) X T 0 0 0 0 0 false w kU _ _ _ _ kP (kO _ _ hl.1 hl.2.2.2.1) (kO _ _ hl.2.1 hl.2.2.2.1) (kO _ _ hl.2.2.1 hl.2.2.2.2) hcl hc
  · exact sbnd_in3 (f : Int) X T 0 0 0 0 0 false w kU _ _ _ _ kP (kO _ _ hl.1 hl.2.2.2.1) (kO _ _ hl.2.1 hl.2.2.2.1) (kO _ _ hl.2.2.1 hl.2.2.2.2) hcl hc

theorem own_none (v : World) (lo hi : Nat) : Own v lo hi none 0 [] := ⟨World.ownsRow_nil _ _ _ _, fun k hk => by simp [Value.ownBlock] at hk⟩

theorem Iw_zero {w w' : World} {e : Ending} (h : e = .returned (.agg #[.slice none 0 0, .slice none 0 0, .slice none 0 0, .bool false, .bool false]) ∧ Below w.heap.size w w') : Iw w w' e [] [] [] false false :=
  ⟨none, 0, none, 0, none, 0, w.heap.size, w.heap.size, h.1, Nat.le_refl _, Nat.le_refl _, h.2.size, own_none _ _ _, own_none _ _ _, own_none _ _ _, h.2⟩

theorem Iw_of {w w' : World} {e : Ending} {A B C : Nat} {cl : Bool} (h : Iv w w' e A B C cl) : Iw w w' e (L A) (L B) (L C) cl true := h

theorem lawBounds (f a b : Int) (w : World) (wf0 : (Lit.int .i64 f).wf = true) (wa : (Lit.int .u64 a).wf = true) (wb : (Lit.int .u64 b).wf = true) (h : Fmt w) :
    Calls Tryd.prog 4 #[.int .i64 f, .agg #[.int .u64 a, .int .u64 b]] w fun e w' => e = .returned (.bool true) ∧ Below w.heap.size w w' := by
  have ha := bounds_u64 wa
  have hb := bounds_u64 wb
  obtain ⟨x, rfl⟩ : ∃ x : Nat, a = (x : Int) := ⟨a.toNat, by omega⟩
  obtain ⟨y, rfl⟩ : ∃ y : Nat, b = (y : Int) := ⟨b.toNat, by omega⟩
  obtain ⟨X, hX, e1, e2⟩ : ∃ X : Nat, X < 2 ^ 128 ∧ (x : Int) = (M.hiN X : Int) ∧ (y : Int) = (M.loN X : Int) := ⟨x * 18446744073709551616 + y, by omega, by rw [M.hiOf x y (by omega)], by rw [M.loOf x y (by omega)]⟩
  rw [e1, e2]
  by_cases hf : 0 ≤ f ∧ f < 4
  · obtain ⟨k, rfl⟩ : ∃ k : Nat, f = (k : Int) := ⟨f.toNat, by omega⟩
    have hk : k < 4 := by omega
    obtain ⟨T, hT⟩ : ∃ T, T = (M.fm k).upk X := ⟨_, rfl⟩
    by_cases hc : T.c = 2 ∨ T.c = 3
    · have h' := M.fm_ok k
      have hp := h'.upk_proper X
      rw [← hT] at hp
      have hpr : (M.fm k).Proper T := by
        rcases hp with hp | hp
        · rw [hp] at hc; simp at hc
        · exact hp
      have hl := bnd_lt (fin_of h' hpr hc)
      exact lawBndKey _ _ _ _ _ _ _ _ w h (Nat.le_trans (L_len_b _ _ 1000 hl.1 (by have := hl.2.2.2.1; omega)) (by omega)) (Nat.le_trans (L_len_b _ _ 1000 hl.2.1 (by have := hl.2.2.2.1; omega)) (by omega)) (Nat.le_trans (L_len_b _ _ 1000 hl.2.2.1 (by have := hl.2.2.2.2; omega)) (by omega))
        (fun v => (sbounds_any k hk X hX v T hT hc).mono fun e w' q => Iw_of q) (fun v hv => (ibounds_any k hk X hX v hv T hT hc).mono fun e w' q => Iw_of q)
    · have c2 : ¬ T.c = 2 := fun q => hc (Or.inl q)
      have c3 : ¬ T.c = 3 := fun q => hc (Or.inr q)
      have kE := fun (v : World) (hv : Fmt v) => describe_ok k hk v hv
      have kU := fun (v : World) (hv : Fmt v) => iunpack_any k hk X hX v hv
      have kV := fun (v : World) => sunpack_any k hk X hX v
      rw [← hT] at kU kV
      simp only [dv, pv] at kE kU kV
      exact lawBndKey _ _ _ [] [] [] false false w h (by simp) (by simp) (by simp)
        (fun v => (sbnd_out (k : Int) X T 0 0 0 0 0 false v kV c2 c3).mono fun e w' q => Iw_zero q) (fun v hv => (ibnd_out (k : Int) X T _ _ _ _ _ _ v hv kE kU c2 c3).mono fun e w' q => Iw_zero q)
  · have hn : f < 0 ∨ 4 ≤ f := by omega
    have kU : ∀ v : World, Fmt v → Calls Tryd.prog 38 #[.int .i64 f, .agg #[.int .u64 (M.hiN X : Int), .int .u64 (M.loN X : Int)]] v fun e w' => e = .returned (.agg #[.int .i64 (⟨0, false, 0, 0⟩ : M.Pt).c, .bool (⟨0, false, 0, 0⟩ : M.Pt).n, .int .u64 (M.hiN (⟨0, false, 0, 0⟩ : M.Pt).s : Int), .int .u64 (M.loN (⟨0, false, 0, 0⟩ : M.Pt).s : Int), .int .i64 (⟨0, false, 0, 0⟩ : M.Pt).q]) ∧ Below v.heap.size v w' := fun v hv => by
      have := iunpack_no f hn (M.hiN X : Int) (M.loN X : Int) v
      simpa [hi0, lo0] using this
    have kV : ∀ v : World, Calls Tryd.prog 22 #[.int .i64 f, .agg #[.int .u64 (M.hiN X : Int), .int .u64 (M.loN X : Int)]] v fun e w' => e = .returned (.agg #[.int .i64 (⟨0, false, 0, 0⟩ : M.Pt).c, .bool (⟨0, false, 0, 0⟩ : M.Pt).n, .int .u64 (M.hiN (⟨0, false, 0, 0⟩ : M.Pt).s : Int), .int .u64 (M.loN (⟨0, false, 0, 0⟩ : M.Pt).s : Int), .int .i64 (⟨0, false, 0, 0⟩ : M.Pt).q]) ∧ Below v.heap.size v w' := fun v => by
      have := sunpack_no f hn (M.hiN X : Int) (M.loN X : Int) v
      simpa [hi0, lo0] using this
    exact lawBndKey _ _ _ [] [] [] false false w h (by simp) (by simp) (by simp)
      (fun v => (sbnd_out f X ⟨0, false, 0, 0⟩ 0 0 0 0 0 false v kV (by simp) (by simp)).mono fun e w' q => Iw_zero q) (fun v hv => (ibnd_out f X ⟨0, false, 0, 0⟩ _ _ _ _ _ _ v hv (fun v hv => describeNo f v hn) kU (by simp) (by simp)).mono fun e w' q => Iw_zero q)

end Go.Proofs.YtehplfmnipadmaeDoor

namespace Go.Proofs.YtehplfmnipadmaeDoor
open Go.ChangeShapes Go.WideShapes Go.ChangeAt Go.RowKit
set_option linter.unusedVariables false
set_option maxRecDepth 100000

theorem Tryd.own : ownKnob Tryd.prog.godebug = none := by kernel_rfl
theorem Tryd.gFmt : Tryd.prog.globalNamed "loop.example/s01493/impl.formats" = some 0 := by kernel_rfl
theorem Tryd.gFmtType : (Tryd.prog.globals[0]?).map (·.type) = some 88 := by kernel_rfl
theorem Tryd.cellsInt : Tryd.prog.cellsOf 3 = 1 := by kernel_rfl
theorem Tryd.cellsBool : Tryd.prog.cellsOf 4 = 1 := by kernel_rfl
theorem Tryd.cellsDesc : Tryd.prog.cellsOf 56 = 6 := by kernel_rfl
theorem Tryd.cellsFmts : Tryd.prog.cellsOf 88 = 24 := by kernel_rfl

theorem take1 {l : List Value} {k : Nat} {v : Value} (h : (l.drop k).take 1 = [v]) : l[k]? = some v := by
  have := congrArg (·[0]?) h
  simpa [List.getElem?_take, List.getElem?_drop] using this

/-- A description that reads so holds it, cell for cell. -/
theorem desc6 {H : Type} {enc : TypeId × Value → H} {w : World} {base : Nat} {sp : Nat → Bool} {held : Bool} {fuel : Nat} {l : List Value} {a b c d e : Int} {x : Bool} {p : List MemPlace}
    (h : DataW.trod enc Tryd.prog w base sp held fuel 56 l = some (.agg [.lit (.int .i64 a), .lit (.int .i64 b), .lit (.int .i64 c), .lit (.int .i64 d), .lit (.int .i64 e), .lit (.bool x)], p)) :
    l = [.int .i64 a, .int .i64 b, .int .i64 c, .int .i64 d, .int .i64 e, .bool x] := by
  obtain ⟨xs, n, rfl, hx, hl, hxl, hall⟩ := DataW.trod_struct Tryd.underlying56 h
  rw [Tryd.cellsDesc] at hl
  have f0 : DataW.trod enc Tryd.prog w base sp held n 3 ((l.drop 0).take (Tryd.prog.cellsOf 3)) = xs[0]? := hall 0 _ rfl
  have f1 : DataW.trod enc Tryd.prog w base sp held n 3 ((l.drop 1).take (Tryd.prog.cellsOf 3)) = xs[1]? := hall 1 _ rfl
  have f2 : DataW.trod enc Tryd.prog w base sp held n 3 ((l.drop 2).take (Tryd.prog.cellsOf 3)) = xs[2]? := hall 2 _ rfl
  have f3 : DataW.trod enc Tryd.prog w base sp held n 3 ((l.drop 3).take (Tryd.prog.cellsOf 3)) = xs[3]? := hall 3 _ rfl
  have f4 : DataW.trod enc Tryd.prog w base sp held n 3 ((l.drop 4).take (Tryd.prog.cellsOf 3)) = xs[4]? := hall 4 _ rfl
  have f5 : DataW.trod enc Tryd.prog w base sp held n 4 ((l.drop 5).take (Tryd.prog.cellsOf 4)) = xs[5]? := hall 5 _ rfl
  match xs, hxl, hx, f0, f1, f2, f3, f4, f5 with
  | [x0, x1, x2, x3, x4, x5], _, hx, f0, f1, f2, f3, f4, f5 =>
    simp only [List.map_cons, List.map_nil, Prod.mk.injEq, DataW.agg.injEq, List.cons.injEq, and_true] at hx
    obtain ⟨⟨g0, g1, g2, g3, g4, g5⟩, _⟩ := hx
    rw [Tryd.cellsInt] at f0 f1 f2 f3 f4
    rw [Tryd.cellsBool] at f5
    obtain ⟨z0, e0, y0, _⟩ := DataW.trod_int Tryd.underlying3 f0
    obtain ⟨z1, e1, y1, _⟩ := DataW.trod_int Tryd.underlying3 f1
    obtain ⟨z2, e2, y2, _⟩ := DataW.trod_int Tryd.underlying3 f2
    obtain ⟨z3, e3, y3, _⟩ := DataW.trod_int Tryd.underlying3 f3
    obtain ⟨z4, e4, y4, _⟩ := DataW.trod_int Tryd.underlying3 f4
    obtain ⟨z5, e5, y5⟩ := DataW.trod_bool Tryd.underlying4 f5
    subst y0; subst y1; subst y2; subst y3; subst y4; subst y5
    simp only [DataW.lit.injEq, Lit.int.injEq, Lit.bool.injEq, true_and] at g0 g1 g2 g3 g4 g5
    subst g0; subst g1; subst g2; subst g3; subst g4; subst g5
    match l, hl with
    | [l0, l1, l2, l3, l4, l5], _ =>
      simp at e0 e1 e2 e3 e4 e5
      rw [e0, e1, e2, e3, e4, e5]

/-- What the row's list gives: the variable's cells. -/
theorem var_of_laid {W : World} (h : laidMetH Tryd.prog [("loop.example/s01493/impl.formats", Rows.laid_loop_example_s01493_impl_formats)] W) :
    W.var? Tryd.prog "loop.example/s01493/impl.formats" = some fmtC := by
  rw [MakeChecks.laidMetH_plain _ _ _ (by kernel_rfl)] at h
  obtain ⟨g, t, cs, fuel, p, h1, h2, h3, h4⟩ := Lib.laidMet.reads h (List.mem_singleton.2 rfl)
  obtain rfl := Option.some.inj (Tryd.gFmt.symm.trans h1)
  obtain rfl := Option.some.inj (Tryd.gFmtType.symm.trans h2)
  rw [h3]
  have hlen : cs.toList.length = 24 := by
    obtain ⟨xs, m, rfl, hx, hl, hn, hel⟩ := DataW.trod_array Tryd.underlying88 h4
    rw [hl, Tryd.cellsFmts]
  obtain ⟨f0, d0, q0, e0, t0⟩ := Lib.array_elem Tryd.underlying88 h4 0 (by decide)
  obtain ⟨f1, d1, q1, e1, t1⟩ := Lib.array_elem Tryd.underlying88 h4 1 (by decide)
  obtain ⟨f2, d2, q2, e2, t2⟩ := Lib.array_elem Tryd.underlying88 h4 2 (by decide)
  obtain ⟨f3, d3, q3, e3, t3⟩ := Lib.array_elem Tryd.underlying88 h4 3 (by decide)
  rw [Tryd.cellsDesc] at t0 t1 t2 t3
  obtain rfl := Option.some.inj e0
  obtain rfl := Option.some.inj e1
  obtain rfl := Option.some.inj e2
  obtain rfl := Option.some.inj e3
  have k0 := desc6 t0
  have k1 := desc6 t1
  have k2 := desc6 t2
  have k3 := desc6 t3
  clear t0 t1 t2 t3 h4 h1 h2 h3 h e0 e1 e2 e3
  obtain ⟨l⟩ := cs
  simp only at hlen k0 k1 k2 k3
  have e : l = l.take 6 ++ ((l.drop 6).take 6 ++ ((l.drop 12).take 6 ++ (l.drop 18).take 6)) := by
    have a1 : (l.drop 18).take 6 = l.drop 18 := List.take_of_length_le (by simp; omega)
    have a2 : l.drop 18 = (l.drop 12).drop 6 := by simp
    have a3 : l.drop 12 = (l.drop 6).drop 6 := by simp
    rw [a1, a2, List.take_append_drop, a3, List.take_append_drop, List.take_append_drop]
  simp at k0 k1 k2 k3
  rw [k0, k1, k2, k3] at e
  rw [e]
  rfl

theorem fmt_of_var {W : World} (h : W.var? Tryd.prog "loop.example/s01493/impl.formats" = some fmtC) : Fmt W := by
  have hc := fun i => World.var?_cell Tryd.gFmt h i
  refine ⟨?_, fun j hj => hc j⟩
  exact World.block_lt_of_cell? W ⟨0, 0, none⟩ (hc 0)

/-- How the variable reads, in every world that holds it. -/
theorem fmt_reads {H : Type} (enc : TypeId × Value → H) (W : World) (sp : Nat → Bool) (held : Bool) :
    DataW.trod enc Tryd.prog W 0 sp held 8 88 fmtC.toList = some (Rows.laid_loop_example_s01493_impl_formats, []) := by kernel_rfl

theorem fmt_vars {H : Type} (enc : TypeId × Value → H) {W : World} (h : W.var? Tryd.prog "loop.example/s01493/impl.formats" = some fmtC) (sp : Nat → Bool) :
    DataW.TrodVars enc Tryd.prog W sp ["loop.example/s01493/impl.formats"] [Rows.laid_loop_example_s01493_impl_formats] (MemPlace.row ⟨0, 0, none⟩ 24 ++ [] ++ []) :=
  ⟨0, 88, fmtC, 8, [], [], Tryd.gFmt, Tryd.gFmtType, h, fmt_reads enc W sp true, rfl, rfl⟩

theorem var_below {W W' : World} (h : W.var? Tryd.prog "loop.example/s01493/impl.formats" = some fmtC) (hb : Below W.heap.size W W') : W'.var? Tryd.prog "loop.example/s01493/impl.formats" = some fmtC := by
  have hlt := (fmt_of_var h).1
  unfold World.var? at h ⊢
  simp only [Tryd.gFmt, Option.bind_some] at h ⊢
  rw [hb.block 0 hlt]
  exact h

/-- A world for the witness: the settled one, the table holding what its initialiser lays. -/
noncomputable def laidWorld (os : Os) : World :=
  { World.holding Tryd.prog os ⟨#[], #[], []⟩ with heap := (World.holding Tryd.prog os ⟨#[], #[], []⟩).heap.modify 0 fun
      | .cells _ t frozen => .cells fmtC t frozen
      | o => o }

end Go.Proofs.YtehplfmnipadmaeDoor

namespace Go.Proofs.YtehplfmnipadmaeDoor
open Go.ChangeShapes Go.WideShapes Go.ChangeAt Go.RowKit
set_option linter.unusedVariables false
set_option maxRecDepth 100000

theorem Tryd.cellsU64 : Tryd.prog.cellsOf 22 = 1 := by kernel_rfl
theorem Tryd.cellsLWord : Tryd.prog.cellsOf 24 = 2 := by kernel_rfl

theorem agg_of_cells {v : Value} {l : List Value} (h : v.cells.toList = l) (hl : 2 ≤ l.length) : v = .agg l.toArray := by
  subst h
  cases v <;> first | (simp [Value.cells] at hl; done) | simp [Value.cells]

theorem open_word {H : Type} {enc : TypeId × Value → H} {w : World} {base : Nat} {sp : Nat → Bool} {held : Bool} {v : Value} {d : DataW H} {ps : List MemPlace} (h : DataW.Trod enc Tryd.prog w base sp held 24 v d ps) :
    ∃ a b : Int, v = .agg #[.int .u64 a, .int .u64 b] ∧ d = .agg [.lit (.int .u64 a), .lit (.int .u64 b)] ∧ ps = [] ∧ (Lit.int .u64 a).wf = true ∧ (Lit.int .u64 b).wf = true := by
  obtain ⟨fuel, hf⟩ := h
  obtain ⟨xs, n, rfl, hx, hl, hxl, hall⟩ := DataW.trod_struct Tryd.underlying24 hf
  rw [Tryd.cellsLWord] at hl
  have f0 : DataW.trod enc Tryd.prog w base sp held n 22 ((v.cells.toList.drop 0).take (Tryd.prog.cellsOf 22)) = xs[0]? := hall 0 _ rfl
  have f1 : DataW.trod enc Tryd.prog w base sp held n 22 ((v.cells.toList.drop 1).take (Tryd.prog.cellsOf 22)) = xs[1]? := hall 1 _ rfl
  rw [Tryd.cellsU64] at f0 f1
  match xs, hxl, hx, f0, f1 with
  | [x0, x1], _, hx, f0, f1 =>
    obtain ⟨z0, e0, y0, k0⟩ := DataW.trod_int Tryd.underlying22 f0
    obtain ⟨z1, e1, y1, k1⟩ := DataW.trod_int Tryd.underlying22 f1
    subst y0; subst y1
    have hv : v.cells.toList = [.int .u64 z0, .int .u64 z1] := by
      generalize v.cells.toList = l at *
      match l, hl with
      | [l0, l1], _ =>
        simp at e0 e1
        rw [e0, e1]
    have := agg_of_cells hv (by simp)
    simp at hx
    exact ⟨z0, z1, this, hx.1, hx.2, k0, k1⟩

theorem shut_word {H : Type} {enc : TypeId × Value → H} {w : World} {base : Nat} {sp : Nat → Bool} {held : Bool} {a b : Int} (ha : (Lit.int .u64 a).wf = true) (hb : (Lit.int .u64 b).wf = true) :
    DataW.Trod enc Tryd.prog w base sp held 24 (.agg #[.int .u64 a, .int .u64 b]) (.agg [.lit (.int .u64 a), .lit (.int .u64 b)]) [] := by
  refine ⟨2, ?_⟩
  refine trod_struct_mk (xs := [(.lit (.int .u64 a), []), (.lit (.int .u64 b), [])]) Tryd.underlying24 (by rw [Tryd.cellsLWord]; rfl) ?_
  simp [DataW.trod, Tryd.underlying22, Tryd.cellsU64, Value.cells, ha, hb]

end Go.Proofs.YtehplfmnipadmaeDoor
