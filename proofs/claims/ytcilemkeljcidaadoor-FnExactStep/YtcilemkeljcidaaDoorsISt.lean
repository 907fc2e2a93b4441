import Derived.Test.YtcilemkeljcidaaDoorsAtR
import Derived.Test.YtcilemkeljcidaaDoorsIoA
set_option maxHeartbeats 4000000
set_option maxRecDepth 100000
namespace Go.Proofs.YtcilemkeljcidaaDoor
open Go.RowKit
set_option linter.unusedVariables false
set_option maxRecDepth 100000
structure Sv (w v : World) (gd gp : Nat) (e0 e1 e2 e3 e4 : Int) (e5 : Bool) (T : M.Pt) : Prop where
 b : Below w.heap.size w v
 d : D6 v gd e0 e1 e2 e3 e4 e5
 p : P5 v gp T
 r : W2 v (w.heap.size + 1) 0
 l : w.heap.size + 1 < gd
 k : gd < gp

theorem Sv.below {w v v' : World} {gd gp : Nat} {e0 e1 e2 e3 e4 : Int} {e5 : Bool} {T : M.Pt} (h : Sv w v gd gp e0 e1 e2 e3 e4 e5 T) (hb : Below v.heap.size v v') : Sv w v' gd gp e0 e1 e2 e3 e4 e5 T :=
 ⟨h.b.trans (hb.mono h.b.size), h.d.below hb, h.p.below hb, h.r.bl hb, h.l, h.k⟩

theorem istep0 (f : Int) (X : Nat) (up : Bool) (T : M.Pt) (e0 e1 e2 e3 e4 : Int) (e5 : Bool) (w : World) (hm : Fmt w)
 (kE : ∀ v : World, Fmt v → Calls Tryd.prog 9 #[.int .i64 f] v fun e w' => e = .returned (.agg #[.int .i64 e0, .int .i64 e1, .int .i64 e2, .int .i64 e3, .int .i64 e4, .bool e5]) ∧ Below v.heap.size v w')
 (kU : ∀ v : World, Fmt v → Calls Tryd.prog 13 #[.int .i64 f, .agg #[.int .u64 (M.hiN X : Int), .int .u64 (M.loN X : Int)]] v fun e w' => e = .returned (.agg #[.int .i64 T.c, .bool T.n, .int .u64 (M.hiN T.s : Int), .int .u64 (M.loN T.s : Int), .int .i64 T.q]) ∧ Below v.heap.size v w')
 (kV : ∀ v : World, Calls Tryd.prog 34 #[.agg #[.int .i64 T.c, .bool T.n, .int .u64 (M.hiN T.s : Int), .int .u64 (M.loN T.s : Int), .int .i64 T.q]] v fun e w' => e = .returned (.bool false) ∧ Below v.heap.size v w') :
 Calls Tryd.prog 22 #[.int .i64 f, .agg #[.int .u64 (M.hiN X : Int), .int .u64 (M.loN X : Int)], .bool up] w fun e w' => e = .returned (.tuple #[.agg #[.int .u64 0, .int .u64 0], .bool false]) ∧ Below w.heap.size w w' := by
 have b0 : Below w.heap.size w ((w.alloc (.cells #[.int .u64 (M.hiN X : Int), .int .u64 (M.loN X : Int)] 30)).alloc (.cells #[.int .u64 0, .int .u64 0] 30)) := ((Below.refl _ _).alloc (Nat.le_refl _) _).alloc (by simp) _
 have X0 : W2 ((w.alloc (.cells #[.int .u64 (M.hiN X : Int), .int .u64 (M.loN X : Int)] 30)).alloc (.cells #[.int .u64 0, .int .u64 0] 30)) w.heap.size X := by refine ⟨?_, ?_, ?_, ?_, ?_⟩ <;> simp [go_sem]
 have R0 : W2 ((w.alloc (.cells #[.int .u64 (M.hiN X : Int), .int .u64 (M.loN X : Int)] 30)).alloc (.cells #[.int .u64 0, .int .u64 0] 30)) (w.heap.size + 1) 0 := by refine ⟨?_, ?_, ?_, ?_, ?_⟩ <;> simp [go_sem, hi0, lo0]
 generalize hV : ((w.alloc (.cells #[.int .u64 (M.hiN X : Int), .int .u64 (M.loN X : Int)] 30)).alloc (.cells #[.int .u64 0, .int .u64 0] 30)) = v0 at *
 go_enter Tryd.func22, Tryd.ntmps22
 go_upto_region 1 with fail
 clear hV
 go_wp2_with fail
 refine (kE _ (hm.below b0)).mono ?_
 rintro e v1 ⟨rfl, hb1⟩
 replace b0 := b0.trans (hb1.mono b0.size)
 replace X0 := X0.bl hb1
 replace R0 := R0.bl hb1
 have l0 : w.heap.size + 1 < v1.heap.size := R0.2.2.2.2
 clear hb1 kE
 go_upto_region 2 with fail
 have bA : Below v1.heap.size v1 (v1.alloc (.cells #[.int .i64 e0, .int .i64 e1, .int .i64 e2, .int .i64 e3, .int .i64 e4, .bool e5] 23)) := (Below.refl _ _).alloc (Nat.le_refl _) _
 have D0 : D6 (v1.alloc (.cells #[.int .i64 e0, .int .i64 e1, .int .i64 e2, .int .i64 e3, .int .i64 e4, .bool e5] 23)) v1.heap.size e0 e1 e2 e3 e4 e5 := D6_new v1 _ _ _ _ _ _ _
 replace b0 := b0.trans (bA.mono b0.size)
 replace X0 := X0.bl bA
 replace R0 := R0.bl bA
 clear bA
 generalize (v1.alloc (.cells #[.int .i64 e0, .int .i64 e1, .int .i64 e2, .int .i64 e3, .int .i64 e4, .bool e5] 23)) = v2 at *
 generalize v1.heap.size = gd at *
 obtain ⟨x0, x1, -⟩ := id X0
 go_wp2_with fail
 refine (kU _ (hm.below b0)).mono ?_
 rintro e v3 ⟨rfl, hb3⟩
 replace b0 := b0.trans (hb3.mono b0.size)
 replace R0 := R0.bl hb3
 replace D0 := D0.below hb3
 have l1 : gd < v3.heap.size := D0.2.2.2.2.2.2
 clear hb3 kU x0 x1 X0 hm
 go_upto_region 3 with fail
 have bA : Below v3.heap.size v3 (v3.alloc (.cells #[.int .i64 T.c, .bool T.n, .int .u64 (M.hiN T.s : Int), .int .u64 (M.loN T.s : Int), .int .i64 T.q] 32)) := (Below.refl _ _).alloc (Nat.le_refl _) _
 have Q0 : Sv w (v3.alloc (.cells #[.int .i64 T.c, .bool T.n, .int .u64 (M.hiN T.s : Int), .int .u64 (M.loN T.s : Int), .int .i64 T.q] 32)) gd v3.heap.size e0 e1 e2 e3 e4 e5 T := ⟨b0.trans (bA.mono b0.size), D0.below bA, P5_new v3 T, R0.bl bA, l0, l1⟩
 clear bA b0 D0 R0 l0 l1
 generalize (v3.alloc (.cells #[.int .i64 T.c, .bool T.n, .int .u64 (M.hiN T.s : Int), .int .u64 (M.loN T.s : Int), .int .i64 T.q] 32)) = v4 at *
 generalize v3.heap.size = gp at *
 obtain ⟨p0, p1, p2, p3, p4, -⟩ := id Q0.p
 go_wp2_with fail
 refine (kV _).mono ?_
 rintro e v5 ⟨rfl, hb5⟩
 replace Q0 := Q0.below hb5
 clear hb5 p0 p1 p2 p3 p4 kV
 obtain ⟨r0, r1, r2, r3, -⟩ := id Q0.r
 have bb := (Q0.b.setCell (p := ⟨w.heap.size + 1, 0, none⟩) (by simp only; omega) (.int .u64 0)).setCell (p := ⟨w.heap.size + 1, 1, none⟩) (by simp only; omega) (.int .u64 0)
 have HB := hid bb
 clear bb Q0
 go_wp2_with fail
 exact bodyPost_ret (v := .tuple #[.agg #[.int .u64 0, .int .u64 0], .bool false]) (by simp [results, Tryd.results22, go_sem, r0, r1]) rfl ⟨rfl, HB.out⟩

theorem istep1 (f : Int) (X : Nat) (up : Bool) (T : M.Pt) (e0 e1 e2 e3 e4 : Int) (e5 : Bool) (w : World) (hm : Fmt w)
 (kE : ∀ v : World, Fmt v → Calls Tryd.prog 9 #[.int .i64 f] v fun e w' => e = .returned (.agg #[.int .i64 e0, .int .i64 e1, .int .i64 e2, .int .i64 e3, .int .i64 e4, .bool e5]) ∧ Below v.heap.size v w')
 (kU : ∀ v : World, Fmt v → Calls Tryd.prog 13 #[.int .i64 f, .agg #[.int .u64 (M.hiN X : Int), .int .u64 (M.loN X : Int)]] v fun e w' => e = .returned (.agg #[.int .i64 T.c, .bool T.n, .int .u64 (M.hiN T.s : Int), .int .u64 (M.loN T.s : Int), .int .i64 T.q]) ∧ Below v.heap.size v w')
 (kV : ∀ v : World, Calls Tryd.prog 34 #[.agg #[.int .i64 T.c, .bool T.n, .int .u64 (M.hiN T.s : Int), .int .u64 (M.loN T.s : Int), .int .i64 T.q]] v fun e w' => e = .returned (.bool true) ∧ Below v.heap.size v w') (hc : Hid (T.c = 1)) (J : Nat)
 (kA : ∀ v : World, Calls Tryd.prog 45 #[.agg #[.int .i64 e0, .int .i64 e1, .int .i64 e2, .int .i64 e3, .int .i64 e4, .bool e5], .bool (!up), .agg #[.int .u64 0, .int .u64 1]] v fun e w' => e = .returned (.agg #[.int .u64 (M.hiN J : Int), .int .u64 (M.loN J : Int)]) ∧ Below v.heap.size v w') :
 Calls Tryd.prog 22 #[.int .i64 f, .agg #[.int .u64 (M.hiN X : Int), .int .u64 (M.loN X : Int)], .bool up] w fun e w' => e = .returned (.tuple #[.agg #[.int .u64 (M.hiN J : Int), .int .u64 (M.loN J : Int)], .bool true]) ∧ Below w.heap.size w w' := by
 have b0 : Below w.heap.size w ((w.alloc (.cells #[.int .u64 (M.hiN X : Int), .int .u64 (M.loN X : Int)] 30)).alloc (.cells #[.int .u64 0, .int .u64 0] 30)) := ((Below.refl _ _).alloc (Nat.le_refl _) _).alloc (by simp) _
 have X0 : W2 ((w.alloc (.cells #[.int .u64 (M.hiN X : Int), .int .u64 (M.loN X : Int)] 30)).alloc (.cells #[.int .u64 0, .int .u64 0] 30)) w.heap.size X := by refine ⟨?_, ?_, ?_, ?_, ?_⟩ <;> simp [go_sem]
 have R0 : W2 ((w.alloc (.cells #[.int .u64 (M.hiN X : Int), .int .u64 (M.loN X : Int)] 30)).alloc (.cells #[.int .u64 0, .int .u64 0] 30)) (w.heap.size + 1) 0 := by refine ⟨?_, ?_, ?_, ?_, ?_⟩ <;> simp [go_sem, hi0, lo0]
 generalize hV : ((w.alloc (.cells #[.int .u64 (M.hiN X : Int), .int .u64 (M.loN X : Int)] 30)).alloc (.cells #[.int .u64 0, .int .u64 0] 30)) = v0 at *
 go_enter Tryd.func22, Tryd.ntmps22
 go_upto_region 1 with fail
 clear hV
 go_wp2_with fail
 refine (kE _ (hm.below b0)).mono ?_
 rintro e v1 ⟨rfl, hb1⟩
 replace b0 := b0.trans (hb1.mono b0.size)
 replace X0 := X0.bl hb1
 replace R0 := R0.bl hb1
 have l0 : w.heap.size + 1 < v1.heap.size := R0.2.2.2.2
 clear hb1 kE
 go_upto_region 2 with fail
 have bA : Below v1.heap.size v1 (v1.alloc (.cells #[.int .i64 e0, .int .i64 e1, .int .i64 e2, .int .i64 e3, .int .i64 e4, .bool e5] 23)) := (Below.refl _ _).alloc (Nat.le_refl _) _
 have D0 : D6 (v1.alloc (.cells #[.int .i64 e0, .int .i64 e1, .int .i64 e2, .int .i64 e3, .int .i64 e4, .bool e5] 23)) v1.heap.size e0 e1 e2 e3 e4 e5 := D6_new v1 _ _ _ _ _ _ _
 replace b0 := b0.trans (bA.mono b0.size)
 replace X0 := X0.bl bA
 replace R0 := R0.bl bA
 clear bA
 generalize (v1.alloc (.cells #[.int .i64 e0, .int .i64 e1, .int .i64 e2, .int .i64 e3, .int .i64 e4, .bool e5] 23)) = v2 at *
 generalize v1.heap.size = gd at *
 obtain ⟨x0, x1, -⟩ := id X0
 go_wp2_with fail
 refine (kU _ (hm.below b0)).mono ?_
 rintro e v3 ⟨rfl, hb3⟩
 replace b0 := b0.trans (hb3.mono b0.size)
 replace R0 := R0.bl hb3
 replace D0 := D0.below hb3
 have l1 : gd < v3.heap.size := D0.2.2.2.2.2.2
 clear hb3 kU x0 x1 X0 hm
 go_upto_region 3 with fail
 have bA : Below v3.heap.size v3 (v3.alloc (.cells #[.int .i64 T.c, .bool T.n, .int .u64 (M.hiN T.s : Int), .int .u64 (M.loN T.s : Int), .int .i64 T.q] 32)) := (Below.refl _ _).alloc (Nat.le_refl _) _
 have Q0 : Sv w (v3.alloc (.cells #[.int .i64 T.c, .bool T.n, .int .u64 (M.hiN T.s : Int), .int .u64 (M.loN T.s : Int), .int .i64 T.q] 32)) gd v3.heap.size e0 e1 e2 e3 e4 e5 T := ⟨b0.trans (bA.mono b0.size), D0.below bA, P5_new v3 T, R0.bl bA, l0, l1⟩
 clear bA b0 D0 R0 l0 l1
 generalize (v3.alloc (.cells #[.int .i64 T.c, .bool T.n, .int .u64 (M.hiN T.s : Int), .int .u64 (M.loN T.s : Int), .int .i64 T.q] 32)) = v4 at *
 generalize v3.heap.size = gp at *
 obtain ⟨p0, p1, p2, p3, p4, -⟩ := id Q0.p
 go_wp2_with fail
 refine (kV _).mono ?_
 rintro e v5 ⟨rfl, hb5⟩
 replace Q0 := Q0.below hb5
 clear hb5 p0 p1 p2 p3 p4 kV
 obtain ⟨p0, p1, p2, p3, p4, -⟩ := id Q0.p
 rw [hc.out] at p0
 obtain ⟨d0, d1, d2, d3, d4, d5, -⟩ := id Q0.d
 go_wp2_with fail
 refine (kA _).mono ?_
 rintro e v6 ⟨rfl, hb6⟩
 replace Q0 := Q0.below hb6
 clear hb6 p0 p1 p2 p3 p4 d0 d1 d2 d3 d4 d5
 obtain ⟨r0, r1, r2, r3, -⟩ := id Q0.r
 have bb := (Q0.b.setCell (p := ⟨w.heap.size + 1, 0, none⟩) (by simp only; omega) (.int .u64 (M.hiN J : Int))).setCell (p := ⟨w.heap.size + 1, 1, none⟩) (by simp only; omega) (.int .u64 (M.loN J : Int))
 have HB := hid bb
 clear bb Q0
 go_wp2_with fail
 exact bodyPost_ret (v := .tuple #[.agg #[.int .u64 (M.hiN J : Int), .int .u64 (M.loN J : Int)], .bool true]) (by simp [results, Tryd.results22, go_sem, r0, r1]) rfl ⟨rfl, HB.out⟩

theorem istep2 (f : Int) (X : Nat) (up : Bool) (T : M.Pt) (e0 e1 e2 e3 e4 : Int) (e5 : Bool) (w : World) (hm : Fmt w)
 (kE : ∀ v : World, Fmt v → Calls Tryd.prog 9 #[.int .i64 f] v fun e w' => e = .returned (.agg #[.int .i64 e0, .int .i64 e1, .int .i64 e2, .int .i64 e3, .int .i64 e4, .bool e5]) ∧ Below v.heap.size v w')
 (kU : ∀ v : World, Fmt v → Calls Tryd.prog 13 #[.int .i64 f, .agg #[.int .u64 (M.hiN X : Int), .int .u64 (M.loN X : Int)]] v fun e w' => e = .returned (.agg #[.int .i64 T.c, .bool T.n, .int .u64 (M.hiN T.s : Int), .int .u64 (M.loN T.s : Int), .int .i64 T.q]) ∧ Below v.heap.size v w')
 (kV : ∀ v : World, Calls Tryd.prog 34 #[.agg #[.int .i64 T.c, .bool T.n, .int .u64 (M.hiN T.s : Int), .int .u64 (M.loN T.s : Int), .int .i64 T.q]] v fun e w' => e = .returned (.bool true) ∧ Below v.heap.size v w') (hc : ¬ T.c = 1) (R Z J : Nat)
 (kR : ∀ v : World, Calls Tryd.prog 36 #[.agg #[.int .i64 e0, .int .i64 e1, .int .i64 e2, .int .i64 e3, .int .i64 e4, .bool e5], .agg #[.int .i64 T.c, .bool T.n, .int .u64 (M.hiN T.s : Int), .int .u64 (M.loN T.s : Int), .int .i64 T.q]] v fun e w' => e = .returned (.agg #[.int .u64 (M.hiN R : Int), .int .u64 (M.loN R : Int)]) ∧ Below v.heap.size v w')
 (kM : ∀ v : World, Calls Tryd.prog 46 #[.agg #[.int .u64 (M.hiN R : Int), .int .u64 (M.loN R : Int)], .agg #[.int .u64 0, .int .u64 1]] v fun e w' => e = .returned (.agg #[.int .u64 (M.hiN Z : Int), .int .u64 (M.loN Z : Int)]) ∧ Below v.heap.size v w')
 (kA : ∀ v : World, Calls Tryd.prog 45 #[.agg #[.int .i64 e0, .int .i64 e1, .int .i64 e2, .int .i64 e3, .int .i64 e4, .bool e5], .bool T.n, .agg #[.int .u64 (M.hiN Z : Int), .int .u64 (M.loN Z : Int)]] v fun e w' => e = .returned (.agg #[.int .u64 (M.hiN J : Int), .int .u64 (M.loN J : Int)]) ∧ Below v.heap.size v w') (hn : (up == T.n) = true) :
 Calls Tryd.prog 22 #[.int .i64 f, .agg #[.int .u64 (M.hiN X : Int), .int .u64 (M.loN X : Int)], .bool up] w fun e w' => e = .returned (.tuple #[.agg #[.int .u64 (M.hiN J : Int), .int .u64 (M.loN J : Int)], .bool true]) ∧ Below w.heap.size w w' := by
 have b0 : Below w.heap.size w ((w.alloc (.cells #[.int .u64 (M.hiN X : Int), .int .u64 (M.loN X : Int)] 30)).alloc (.cells #[.int .u64 0, .int .u64 0] 30)) := ((Below.refl _ _).alloc (Nat.le_refl _) _).alloc (by simp) _
 have X0 : W2 ((w.alloc (.cells #[.int .u64 (M.hiN X : Int), .int .u64 (M.loN X : Int)] 30)).alloc (.cells #[.int .u64 0, .int .u64 0] 30)) w.heap.size X := by refine ⟨?_, ?_, ?_, ?_, ?_⟩ <;> simp [go_sem]
 have R0 : W2 ((w.alloc (.cells #[.int .u64 (M.hiN X : Int), .int .u64 (M.loN X : Int)] 30)).alloc (.cells #[.int .u64 0, .int .u64 0] 30)) (w.heap.size + 1) 0 := by refine ⟨?_, ?_, ?_, ?_, ?_⟩ <;> simp [go_sem, hi0, lo0]
 generalize hV : ((w.alloc (.cells #[.int .u64 (M.hiN X : Int), .int .u64 (M.loN X : Int)] 30)).alloc (.cells #[.int .u64 0, .int .u64 0] 30)) = v0 at *
 go_enter Tryd.func22, Tryd.ntmps22
 go_upto_region 1 with fail
 clear hV
 go_wp2_with fail
 refine (kE _ (hm.below b0)).mono ?_
 rintro e v1 ⟨rfl, hb1⟩
 replace b0 := b0.trans (hb1.mono b0.size)
 replace X0 := X0.bl hb1
 replace R0 := R0.bl hb1
 have l0 : w.heap.size + 1 < v1.heap.size := R0.2.2.2.2
 clear hb1 kE
 go_upto_region 2 with fail
 have bA : Below v1.heap.size v1 (v1.alloc (.cells #[.int .i64 e0, .int .i64 e1, .int .i64 e2, .int .i64 e3, .int .i64 e4, .bool e5] 23)) := (Below.refl _ _).alloc (Nat.le_refl _) _
 have D0 : D6 (v1.alloc (.cells #[.int .i64 e0, .int .i64 e1, .int .i64 e2, .int .i64 e3, .int .i64 e4, .bool e5] 23)) v1.heap.size e0 e1 e2 e3 e4 e5 := D6_new v1 _ _ _ _ _ _ _
 replace b0 := b0.trans (bA.mono b0.size)
 replace X0 := X0.bl bA
 replace R0 := R0.bl bA
 clear bA
 generalize (v1.alloc (.cells #[.int .i64 e0, .int .i64 e1, .int .i64 e2, .int .i64 e3, .int .i64 e4, .bool e5] 23)) = v2 at *
 generalize v1.heap.size = gd at *
 obtain ⟨x0, x1, -⟩ := id X0
 go_wp2_with fail
 refine (kU _ (hm.below b0)).mono ?_
 rintro e v3 ⟨rfl, hb3⟩
 replace b0 := b0.trans (hb3.mono b0.size)
 replace R0 := R0.bl hb3
 replace D0 := D0.below hb3
 have l1 : gd < v3.heap.size := D0.2.2.2.2.2.2
 clear hb3 kU x0 x1 X0 hm
 go_upto_region 3 with fail
 have bA : Below v3.heap.size v3 (v3.alloc (.cells #[.int .i64 T.c, .bool T.n, .int .u64 (M.hiN T.s : Int), .int .u64 (M.loN T.s : Int), .int .i64 T.q] 32)) := (Below.refl _ _).alloc (Nat.le_refl _) _
 have Q0 : Sv w (v3.alloc (.cells #[.int .i64 T.c, .bool T.n, .int .u64 (M.hiN T.s : Int), .int .u64 (M.loN T.s : Int), .int .i64 T.q] 32)) gd v3.heap.size e0 e1 e2 e3 e4 e5 T := ⟨b0.trans (bA.mono b0.size), D0.below bA, P5_new v3 T, R0.bl bA, l0, l1⟩
 clear bA b0 D0 R0 l0 l1
 generalize (v3.alloc (.cells #[.int .i64 T.c, .bool T.n, .int .u64 (M.hiN T.s : Int), .int .u64 (M.loN T.s : Int), .int .i64 T.q] 32)) = v4 at *
 generalize v3.heap.size = gp at *
 obtain ⟨p0, p1, p2, p3, p4, -⟩ := id Q0.p
 go_wp2_with fail
 refine (kV _).mono ?_
 rintro e v5 ⟨rfl, hb5⟩
 replace Q0 := Q0.below hb5
 clear hb5 p0 p1 p2 p3 p4 kV
 obtain ⟨p0, p1, p2, p3, p4, -⟩ := id Q0.p
 obtain ⟨d0, d1, d2, d3, d4, d5, -⟩ := id Q0.d
 have hc1 : (T.c == 1) = false := by simp [hc]
 go_wp2_with fail
 refine (kR _).mono ?_
 rintro e v6 ⟨rfl, hb6⟩
 replace Q0 := Q0.below hb6
 clear hb6 p0 p1 p2 p3 p4 d0 d1 d2 d3 d4 d5
 go_upto_region 8 with fail
 have bA : Below v6.heap.size v6 (v6.alloc (.cells #[.int .u64 (M.hiN R : Int), .int .u64 (M.loN R : Int)] 30)) := (Below.refl _ _).alloc (Nat.le_refl _) _
 have lg : gp < v6.heap.size := Q0.p.2.2.2.2.2
 replace Q0 := Q0.below bA
 have K0 : W2 (v6.alloc (.cells #[.int .u64 (M.hiN R : Int), .int .u64 (M.loN R : Int)] 30)) v6.heap.size R := W2_new v6 R _
 clear bA
 generalize (v6.alloc (.cells #[.int .u64 (M.hiN R : Int), .int .u64 (M.loN R : Int)] 30)) = v7 at *
 generalize v6.heap.size = gr at *
 obtain ⟨p0, p1, p2, p3, p4, -⟩ := id Q0.p
 go_upto_region 9 with fail
 clear p0 p1 p2 p3 p4
 have A0 : Below v7.heap.size v7 v7.drew := (Below.refl _ _).drew
 have lw := Q0.l
 have lk := Q0.k
 have KB : ∀ v, Below v7.heap.size v7 v → (fun v => v.cell? ⟨gd, 0, none⟩ = some (.int .i64 e0) ∧ v.cell? ⟨gd, 1, none⟩ = some (.int .i64 e1) ∧ v.cell? ⟨gd, 2, none⟩ = some (.int .i64 e2) ∧ v.cell? ⟨gd, 3, none⟩ = some (.int .i64 e3) ∧ v.cell? ⟨gd, 4, none⟩ = some (.int .i64 e4) ∧ v.cell? ⟨gd, 5, none⟩ = some (.bool e5) ∧ v.cell? ⟨gp, 1, none⟩ = some (.bool T.n) ∧ v.cell? ⟨gr, 0, none⟩ = some (.int .u64 (M.hiN R : Int)) ∧ v.cell? ⟨gr, 1, none⟩ = some (.int .u64 (M.loN R : Int))) v := fun v hv => by
  obtain ⟨d0, d1, d2, d3, d4, d5, -⟩ := (Q0.below hv).d
  obtain ⟨p0, p1, -⟩ := (Q0.below hv).p
  obtain ⟨k0, k1, -⟩ := K0.bl hv
  exact ⟨d0, d1, d2, d3, d4, d5, p1, k0, k1⟩
 have KS : ∀ v x y, Below v7.heap.size v7 v → (fun v => v.cell? ⟨gd, 0, none⟩ = some (.int .i64 e0) ∧ v.cell? ⟨gd, 1, none⟩ = some (.int .i64 e1) ∧ v.cell? ⟨gd, 2, none⟩ = some (.int .i64 e2) ∧ v.cell? ⟨gd, 3, none⟩ = some (.int .i64 e3) ∧ v.cell? ⟨gd, 4, none⟩ = some (.int .i64 e4) ∧ v.cell? ⟨gd, 5, none⟩ = some (.bool e5) ∧ v.cell? ⟨gp, 1, none⟩ = some (.bool T.n) ∧ v.cell? ⟨gr, 0, none⟩ = some (.int .u64 (M.hiN R : Int)) ∧ v.cell? ⟨gr, 1, none⟩ = some (.int .u64 (M.loN R : Int))) ((v.setCell ⟨w.heap.size + 1, 0, none⟩ x).setCell ⟨w.heap.size + 1, 1, none⟩ y) := fun v x y hv => by
  obtain ⟨d0, d1, d2, d3, d4, d5, p1, k0, k1⟩ := KB v hv
  exact ⟨(far2 v _ _ (by omega)).trans d0, (far2 v _ _ (by omega)).trans d1, (far2 v _ _ (by omega)).trans d2, (far2 v _ _ (by omega)).trans d3, (far2 v _ _ (by omega)).trans d4, (far2 v _ _ (by omega)).trans d5, (far2 v _ _ (by omega)).trans p1, (far2 v _ _ (by omega)).trans k0, (far2 v _ _ (by omega)).trans k1⟩
 go_region_held3 (fun v => v.cell? ⟨gd, 0, none⟩ = some (.int .i64 e0) ∧ v.cell? ⟨gd, 1, none⟩ = some (.int .i64 e1) ∧ v.cell? ⟨gd, 2, none⟩ = some (.int .i64 e2) ∧ v.cell? ⟨gd, 3, none⟩ = some (.int .i64 e3) ∧ v.cell? ⟨gd, 4, none⟩ = some (.int .i64 e4) ∧ v.cell? ⟨gd, 5, none⟩ = some (.bool e5) ∧ v.cell? ⟨gp, 1, none⟩ = some (.bool T.n) ∧ v.cell? ⟨gr, 0, none⟩ = some (.int .u64 (M.hiN R : Int)) ∧ v.cell? ⟨gr, 1, none⟩ = some (.int .u64 (M.loN R : Int))) (first | with_reducible exact KB _ hb2 | with_reducible exact KB _ hb1 | with_reducible exact KB _ A0 | with_reducible exact KS _ _ _ hb2)
  (first | (have hq := hb1; clear hq; go_at_call 45; refine (kA _).mono ?_; rintro e v8 ⟨rfl, hb0⟩; have hb2 := keepC (w1 := v7) hb1 hb0; clear hb0; obtain ⟨r0, r1, r2, r3, -⟩ := (Q0.below hb2).r) | (go_at_call 46; refine (kM _).mono ?_; rintro e u1 ⟨rfl, hb0⟩; have hb1 := keepC (w1 := v7) A0 hb0; clear hb0))
 have Q8 := Q0.below hb2
 clear Q0 KB KS A0 K0
 obtain ⟨r0, r1, r2, r3, -⟩ := id Q8.r
 have bb := (Q8.b.setCell (p := ⟨w.heap.size + 1, 0, none⟩) (by simp only; omega) (.int .u64 (M.hiN J : Int))).setCell (p := ⟨w.heap.size + 1, 1, none⟩) (by simp only; omega) (.int .u64 (M.loN J : Int))
 have HB := hid bb
 clear bb Q8
 all_goals go_wp2_with fail
 all_goals exact bodyPost_ret (v := .tuple #[.agg #[.int .u64 (M.hiN J : Int), .int .u64 (M.loN J : Int)], .bool true]) (by simp [results, Tryd.results22, go_sem, r0, r1]) rfl ⟨rfl, HB.out⟩

theorem istep3 (f : Int) (X : Nat) (up : Bool) (T : M.Pt) (e0 e1 e2 e3 e4 : Int) (e5 : Bool) (w : World) (hm : Fmt w)
 (kE : ∀ v : World, Fmt v → Calls Tryd.prog 9 #[.int .i64 f] v fun e w' => e = .returned (.agg #[.int .i64 e0, .int .i64 e1, .int .i64 e2, .int .i64 e3, .int .i64 e4, .bool e5]) ∧ Below v.heap.size v w')
 (kU : ∀ v : World, Fmt v → Calls Tryd.prog 13 #[.int .i64 f, .agg #[.int .u64 (M.hiN X : Int), .int .u64 (M.loN X : Int)]] v fun e w' => e = .returned (.agg #[.int .i64 T.c, .bool T.n, .int .u64 (M.hiN T.s : Int), .int .u64 (M.loN T.s : Int), .int .i64 T.q]) ∧ Below v.heap.size v w')
 (kV : ∀ v : World, Calls Tryd.prog 34 #[.agg #[.int .i64 T.c, .bool T.n, .int .u64 (M.hiN T.s : Int), .int .u64 (M.loN T.s : Int), .int .i64 T.q]] v fun e w' => e = .returned (.bool true) ∧ Below v.heap.size v w') (hc : ¬ T.c = 1) (R Z J : Nat)
 (kR : ∀ v : World, Calls Tryd.prog 36 #[.agg #[.int .i64 e0, .int .i64 e1, .int .i64 e2, .int .i64 e3, .int .i64 e4, .bool e5], .agg #[.int .i64 T.c, .bool T.n, .int .u64 (M.hiN T.s : Int), .int .u64 (M.loN T.s : Int), .int .i64 T.q]] v fun e w' => e = .returned (.agg #[.int .u64 (M.hiN R : Int), .int .u64 (M.loN R : Int)]) ∧ Below v.heap.size v w') (hn : (up == T.n) = false) (hc4 : Hid (T.c = 4)) :
 Calls Tryd.prog 22 #[.int .i64 f, .agg #[.int .u64 (M.hiN X : Int), .int .u64 (M.loN X : Int)], .bool up] w fun e w' => e = .returned (.tuple #[.agg #[.int .u64 0, .int .u64 0], .bool false]) ∧ Below w.heap.size w w' := by
 have b0 : Below w.heap.size w ((w.alloc (.cells #[.int .u64 (M.hiN X : Int), .int .u64 (M.loN X : Int)] 30)).alloc (.cells #[.int .u64 0, .int .u64 0] 30)) := ((Below.refl _ _).alloc (Nat.le_refl _) _).alloc (by simp) _
 have X0 : W2 ((w.alloc (.cells #[.int .u64 (M.hiN X : Int), .int .u64 (M.loN X : Int)] 30)).alloc (.cells #[.int .u64 0, .int .u64 0] 30)) w.heap.size X := by refine ⟨?_, ?_, ?_, ?_, ?_⟩ <;> simp [go_sem]
 have R0 : W2 ((w.alloc (.cells #[.int .u64 (M.hiN X : Int), .int .u64 (M.loN X : Int)] 30)).alloc (.cells #[.int .u64 0, .int .u64 0] 30)) (w.heap.size + 1) 0 := by refine ⟨?_, ?_, ?_, ?_, ?_⟩ <;> simp [go_sem, hi0, lo0]
 generalize hV : ((w.alloc (.cells #[.int .u64 (M.hiN X : Int), .int .u64 (M.loN X : Int)] 30)).alloc (.cells #[.int .u64 0, .int .u64 0] 30)) = v0 at *
 go_enter Tryd.func22, Tryd.ntmps22
 go_upto_region 1 with fail
 clear hV
 go_wp2_with fail
 refine (kE _ (hm.below b0)).mono ?_
 rintro e v1 ⟨rfl, hb1⟩
 replace b0 := b0.trans (hb1.mono b0.size)
 replace X0 := X0.bl hb1
 replace R0 := R0.bl hb1
 have l0 : w.heap.size + 1 < v1.heap.size := R0.2.2.2.2
 clear hb1 kE
 go_upto_region 2 with fail
 have bA : Below v1.heap.size v1 (v1.alloc (.cells #[.int .i64 e0, .int .i64 e1, .int .i64 e2, .int .i64 e3, .int .i64 e4, .bool e5] 23)) := (Below.refl _ _).alloc (Nat.le_refl _) _
 have D0 : D6 (v1.alloc (.cells #[.int .i64 e0, .int .i64 e1, .int .i64 e2, .int .i64 e3, .int .i64 e4, .bool e5] 23)) v1.heap.size e0 e1 e2 e3 e4 e5 := D6_new v1 _ _ _ _ _ _ _
 replace b0 := b0.trans (bA.mono b0.size)
 replace X0 := X0.bl bA
 replace R0 := R0.bl bA
 clear bA
 generalize (v1.alloc (.cells #[.int .i64 e0, .int .i64 e1, .int .i64 e2, .int .i64 e3, .int .i64 e4, .bool e5] 23)) = v2 at *
 generalize v1.heap.size = gd at *
 obtain ⟨x0, x1, -⟩ := id X0
 go_wp2_with fail
 refine (kU _ (hm.below b0)).mono ?_
 rintro e v3 ⟨rfl, hb3⟩
 replace b0 := b0.trans (hb3.mono b0.size)
 replace R0 := R0.bl hb3
 replace D0 := D0.below hb3
 have l1 : gd < v3.heap.size := D0.2.2.2.2.2.2
 clear hb3 kU x0 x1 X0 hm
 go_upto_region 3 with fail
 have bA : Below v3.heap.size v3 (v3.alloc (.cells #[.int .i64 T.c, .bool T.n, .int .u64 (M.hiN T.s : Int), .int .u64 (M.loN T.s : Int), .int .i64 T.q] 32)) := (Below.refl _ _).alloc (Nat.le_refl _) _
 have Q0 : Sv w (v3.alloc (.cells #[.int .i64 T.c, .bool T.n, .int .u64 (M.hiN T.s : Int), .int .u64 (M.loN T.s : Int), .int .i64 T.q] 32)) gd v3.heap.size e0 e1 e2 e3 e4 e5 T := ⟨b0.trans (bA.mono b0.size), D0.below bA, P5_new v3 T, R0.bl bA, l0, l1⟩
 clear bA b0 D0 R0 l0 l1
 generalize (v3.alloc (.cells #[.int .i64 T.c, .bool T.n, .int .u64 (M.hiN T.s : Int), .int .u64 (M.loN T.s : Int), .int .i64 T.q] 32)) = v4 at *
 generalize v3.heap.size = gp at *
 obtain ⟨p0, p1, p2, p3, p4, -⟩ := id Q0.p
 go_wp2_with fail
 refine (kV _).mono ?_
 rintro e v5 ⟨rfl, hb5⟩
 replace Q0 := Q0.below hb5
 clear hb5 p0 p1 p2 p3 p4 kV
 obtain ⟨p0, p1, p2, p3, p4, -⟩ := id Q0.p
 obtain ⟨d0, d1, d2, d3, d4, d5, -⟩ := id Q0.d
 have hc1 : (T.c == 1) = false := by simp [hc]
 go_wp2_with fail
 refine (kR _).mono ?_
 rintro e v6 ⟨rfl, hb6⟩
 replace Q0 := Q0.below hb6
 clear hb6 p0 p1 p2 p3 p4 d0 d1 d2 d3 d4 d5
 go_upto_region 8 with fail
 have bA : Below v6.heap.size v6 (v6.alloc (.cells #[.int .u64 (M.hiN R : Int), .int .u64 (M.loN R : Int)] 30)) := (Below.refl _ _).alloc (Nat.le_refl _) _
 have lg : gp < v6.heap.size := Q0.p.2.2.2.2.2
 replace Q0 := Q0.below bA
 have K0 : W2 (v6.alloc (.cells #[.int .u64 (M.hiN R : Int), .int .u64 (M.loN R : Int)] 30)) v6.heap.size R := W2_new v6 R _
 clear bA
 generalize (v6.alloc (.cells #[.int .u64 (M.hiN R : Int), .int .u64 (M.loN R : Int)] 30)) = v7 at *
 generalize v6.heap.size = gr at *
 obtain ⟨p0, p1, p2, p3, p4, -⟩ := id Q0.p
 rw [hc4.out] at p0
 clear K0
 obtain ⟨r0, r1, r2, r3, -⟩ := id Q0.r
 have bb := (Q0.b.setCell (p := ⟨w.heap.size + 1, 0, none⟩) (by simp only; omega) (.int .u64 0)).setCell (p := ⟨w.heap.size + 1, 1, none⟩) (by simp only; omega) (.int .u64 0)
 have HB := hid bb
 clear bb Q0
 go_wp2_with fail
 exact bodyPost_ret (v := .tuple #[.agg #[.int .u64 0, .int .u64 0], .bool false]) (by simp [results, Tryd.results22, go_sem, r0, r1]) rfl ⟨rfl, HB.out⟩

theorem istep4 (f : Int) (X : Nat) (up : Bool) (T : M.Pt) (e0 e1 e2 e3 e4 : Int) (e5 : Bool) (w : World) (hm : Fmt w)
 (kE : ∀ v : World, Fmt v → Calls Tryd.prog 9 #[.int .i64 f] v fun e w' => e = .returned (.agg #[.int .i64 e0, .int .i64 e1, .int .i64 e2, .int .i64 e3, .int .i64 e4, .bool e5]) ∧ Below v.heap.size v w')
 (kU : ∀ v : World, Fmt v → Calls Tryd.prog 13 #[.int .i64 f, .agg #[.int .u64 (M.hiN X : Int), .int .u64 (M.loN X : Int)]] v fun e w' => e = .returned (.agg #[.int .i64 T.c, .bool T.n, .int .u64 (M.hiN T.s : Int), .int .u64 (M.loN T.s : Int), .int .i64 T.q]) ∧ Below v.heap.size v w')
 (kV : ∀ v : World, Calls Tryd.prog 34 #[.agg #[.int .i64 T.c, .bool T.n, .int .u64 (M.hiN T.s : Int), .int .u64 (M.loN T.s : Int), .int .i64 T.q]] v fun e w' => e = .returned (.bool true) ∧ Below v.heap.size v w') (hc : ¬ T.c = 1) (R Z J : Nat)
 (kR : ∀ v : World, Calls Tryd.prog 36 #[.agg #[.int .i64 e0, .int .i64 e1, .int .i64 e2, .int .i64 e3, .int .i64 e4, .bool e5], .agg #[.int .i64 T.c, .bool T.n, .int .u64 (M.hiN T.s : Int), .int .u64 (M.loN T.s : Int), .int .i64 T.q]] v fun e w' => e = .returned (.agg #[.int .u64 (M.hiN R : Int), .int .u64 (M.loN R : Int)]) ∧ Below v.heap.size v w')
 (kP : ∀ v : World, Calls Tryd.prog 47 #[.agg #[.int .u64 (M.hiN R : Int), .int .u64 (M.loN R : Int)], .agg #[.int .u64 0, .int .u64 1]] v fun e w' => e = .returned (.agg #[.int .u64 (M.hiN Z : Int), .int .u64 (M.loN Z : Int)]) ∧ Below v.heap.size v w')
 (kA : ∀ v : World, Calls Tryd.prog 45 #[.agg #[.int .i64 e0, .int .i64 e1, .int .i64 e2, .int .i64 e3, .int .i64 e4, .bool e5], .bool T.n, .agg #[.int .u64 (M.hiN Z : Int), .int .u64 (M.loN Z : Int)]] v fun e w' => e = .returned (.agg #[.int .u64 (M.hiN J : Int), .int .u64 (M.loN J : Int)]) ∧ Below v.heap.size v w') (hn : (up == T.n) = false) (hc4 : ¬ T.c = 4) :
 Calls Tryd.prog 22 #[.int .i64 f, .agg #[.int .u64 (M.hiN X : Int), .int .u64 (M.loN X : Int)], .bool up] w fun e w' => e = .returned (.tuple #[.agg #[.int .u64 (M.hiN J : Int), .int .u64 (M.loN J : Int)], .bool true]) ∧ Below w.heap.size w w' := by
 have b0 : Below w.heap.size w ((w.alloc (.cells #[.int .u64 (M.hiN X : Int), .int .u64 (M.loN X : Int)] 30)).alloc (.cells #[.int .u64 0, .int .u64 0] 30)) := ((Below.refl _ _).alloc (Nat.le_refl _) _).alloc (by simp) _
 have X0 : W2 ((w.alloc (.cells #[.int .u64 (M.hiN X : Int), .int .u64 (M.loN X : Int)] 30)).alloc (.cells #[.int .u64 0, .int .u64 0] 30)) w.heap.size X := by refine ⟨?_, ?_, ?_, ?_, ?_⟩ <;> simp [go_sem]
 have R0 : W2 ((w.alloc (.cells #[.int .u64 (M.hiN X : Int), .int .u64 (M.loN X : Int)] 30)).alloc (.cells #[.int .u64 0, .int .u64 0] 30)) (w.heap.size + 1) 0 := by refine ⟨?_, ?_, ?_, ?_, ?_⟩ <;> simp [go_sem, hi0, lo0]
 generalize hV : ((w.alloc (.cells #[.int .u64 (M.hiN X : Int), .int .u64 (M.loN X : Int)] 30)).alloc (.cells #[.int .u64 0, .int .u64 0] 30)) = v0 at *
 go_enter Tryd.func22, Tryd.ntmps22
 go_upto_region 1 with fail
 clear hV
 go_wp2_with fail
 refine (kE _ (hm.below b0)).mono ?_
 rintro e v1 ⟨rfl, hb1⟩
 replace b0 := b0.trans (hb1.mono b0.size)
 replace X0 := X0.bl hb1
 replace R0 := R0.bl hb1
 have l0 : w.heap.size + 1 < v1.heap.size := R0.2.2.2.2
 clear hb1 kE
 go_upto_region 2 with fail
 have bA : Below v1.heap.size v1 (v1.alloc (.cells #[.int .i64 e0, .int .i64 e1, .int .i64 e2, .int .i64 e3, .int .i64 e4, .bool e5] 23)) := (Below.refl _ _).alloc (Nat.le_refl _) _
 have D0 : D6 (v1.alloc (.cells #[.int .i64 e0, .int .i64 e1, .int .i64 e2, .int .i64 e3, .int .i64 e4, .bool e5] 23)) v1.heap.size e0 e1 e2 e3 e4 e5 := D6_new v1 _ _ _ _ _ _ _
 replace b0 := b0.trans (bA.mono b0.size)
 replace X0 := X0.bl bA
 replace R0 := R0.bl bA
 clear bA
 generalize (v1.alloc (.cells #[.int .i64 e0, .int .i64 e1, .int .i64 e2, .int .i64 e3, .int .i64 e4, .bool e5] 23)) = v2 at *
 generalize v1.heap.size = gd at *
 obtain ⟨x0, x1, -⟩ := id X0
 go_wp2_with fail
 refine (kU _ (hm.below b0)).mono ?_
 rintro e v3 ⟨rfl, hb3⟩
 replace b0 := b0.trans (hb3.mono b0.size)
 replace R0 := R0.bl hb3
 replace D0 := D0.below hb3
 have l1 : gd < v3.heap.size := D0.2.2.2.2.2.2
 clear hb3 kU x0 x1 X0 hm
 go_upto_region 3 with fail
 have bA : Below v3.heap.size v3 (v3.alloc (.cells #[.int .i64 T.c, .bool T.n, .int .u64 (M.hiN T.s : Int), .int .u64 (M.loN T.s : Int), .int .i64 T.q] 32)) := (Below.refl _ _).alloc (Nat.le_refl _) _
 have Q0 : Sv w (v3.alloc (.cells #[.int .i64 T.c, .bool T.n, .int .u64 (M.hiN T.s : Int), .int .u64 (M.loN T.s : Int), .int .i64 T.q] 32)) gd v3.heap.size e0 e1 e2 e3 e4 e5 T := ⟨b0.trans (bA.mono b0.size), D0.below bA, P5_new v3 T, R0.bl bA, l0, l1⟩
 clear bA b0 D0 R0 l0 l1
 generalize (v3.alloc (.cells #[.int .i64 T.c, .bool T.n, .int .u64 (M.hiN T.s : Int), .int .u64 (M.loN T.s : Int), .int .i64 T.q] 32)) = v4 at *
 generalize v3.heap.size = gp at *
 obtain ⟨p0, p1, p2, p3, p4, -⟩ := id Q0.p
 go_wp2_with fail
 refine (kV _).mono ?_
 rintro e v5 ⟨rfl, hb5⟩
 replace Q0 := Q0.below hb5
 clear hb5 p0 p1 p2 p3 p4 kV
 obtain ⟨p0, p1, p2, p3, p4, -⟩ := id Q0.p
 obtain ⟨d0, d1, d2, d3, d4, d5, -⟩ := id Q0.d
 have hc1 : (T.c == 1) = false := by simp [hc]
 go_wp2_with fail
 refine (kR _).mono ?_
 rintro e v6 ⟨rfl, hb6⟩
 replace Q0 := Q0.below hb6
 clear hb6 p0 p1 p2 p3 p4 d0 d1 d2 d3 d4 d5
 go_upto_region 8 with fail
 have bA : Below v6.heap.size v6 (v6.alloc (.cells #[.int .u64 (M.hiN R : Int), .int .u64 (M.loN R : Int)] 30)) := (Below.refl _ _).alloc (Nat.le_refl _) _
 have lg : gp < v6.heap.size := Q0.p.2.2.2.2.2
 replace Q0 := Q0.below bA
 have K0 : W2 (v6.alloc (.cells #[.int .u64 (M.hiN R : Int), .int .u64 (M.loN R : Int)] 30)) v6.heap.size R := W2_new v6 R _
 clear bA
 generalize (v6.alloc (.cells #[.int .u64 (M.hiN R : Int), .int .u64 (M.loN R : Int)] 30)) = v7 at *
 generalize v6.heap.size = gr at *
 obtain ⟨p0, p1, p2, p3, p4, -⟩ := id Q0.p
 have hc2 : (T.c == 4) = false := by simp [hc4]
 go_upto_region 12 with fail
 clear p0 p1 p2 p3 p4
 have A0 : Below v7.heap.size v7 v7.drew := (Below.refl _ _).drew
 have lw := Q0.l
 have lk := Q0.k
 have KB : ∀ v, Below v7.heap.size v7 v → (fun v => v.cell? ⟨gd, 0, none⟩ = some (.int .i64 e0) ∧ v.cell? ⟨gd, 1, none⟩ = some (.int .i64 e1) ∧ v.cell? ⟨gd, 2, none⟩ = some (.int .i64 e2) ∧ v.cell? ⟨gd, 3, none⟩ = some (.int .i64 e3) ∧ v.cell? ⟨gd, 4, none⟩ = some (.int .i64 e4) ∧ v.cell? ⟨gd, 5, none⟩ = some (.bool e5) ∧ v.cell? ⟨gp, 1, none⟩ = some (.bool T.n) ∧ v.cell? ⟨gr, 0, none⟩ = some (.int .u64 (M.hiN R : Int)) ∧ v.cell? ⟨gr, 1, none⟩ = some (.int .u64 (M.loN R : Int))) v := fun v hv => by
  obtain ⟨d0, d1, d2, d3, d4, d5, -⟩ := (Q0.below hv).d
  obtain ⟨p0, p1, -⟩ := (Q0.below hv).p
  obtain ⟨k0, k1, -⟩ := K0.bl hv
  exact ⟨d0, d1, d2, d3, d4, d5, p1, k0, k1⟩
 have KS : ∀ v x y, Below v7.heap.size v7 v → (fun v => v.cell? ⟨gd, 0, none⟩ = some (.int .i64 e0) ∧ v.cell? ⟨gd, 1, none⟩ = some (.int .i64 e1) ∧ v.cell? ⟨gd, 2, none⟩ = some (.int .i64 e2) ∧ v.cell? ⟨gd, 3, none⟩ = some (.int .i64 e3) ∧ v.cell? ⟨gd, 4, none⟩ = some (.int .i64 e4) ∧ v.cell? ⟨gd, 5, none⟩ = some (.bool e5) ∧ v.cell? ⟨gp, 1, none⟩ = some (.bool T.n) ∧ v.cell? ⟨gr, 0, none⟩ = some (.int .u64 (M.hiN R : Int)) ∧ v.cell? ⟨gr, 1, none⟩ = some (.int .u64 (M.loN R : Int))) ((v.setCell ⟨w.heap.size + 1, 0, none⟩ x).setCell ⟨w.heap.size + 1, 1, none⟩ y) := fun v x y hv => by
  obtain ⟨d0, d1, d2, d3, d4, d5, p1, k0, k1⟩ := KB v hv
  exact ⟨(far2 v _ _ (by omega)).trans d0, (far2 v _ _ (by omega)).trans d1, (far2 v _ _ (by omega)).trans d2, (far2 v _ _ (by omega)).trans d3, (far2 v _ _ (by omega)).trans d4, (far2 v _ _ (by omega)).trans d5, (far2 v _ _ (by omega)).trans p1, (far2 v _ _ (by omega)).trans k0, (far2 v _ _ (by omega)).trans k1⟩
 go_region_held3 (fun v => v.cell? ⟨gd, 0, none⟩ = some (.int .i64 e0) ∧ v.cell? ⟨gd, 1, none⟩ = some (.int .i64 e1) ∧ v.cell? ⟨gd, 2, none⟩ = some (.int .i64 e2) ∧ v.cell? ⟨gd, 3, none⟩ = some (.int .i64 e3) ∧ v.cell? ⟨gd, 4, none⟩ = some (.int .i64 e4) ∧ v.cell? ⟨gd, 5, none⟩ = some (.bool e5) ∧ v.cell? ⟨gp, 1, none⟩ = some (.bool T.n) ∧ v.cell? ⟨gr, 0, none⟩ = some (.int .u64 (M.hiN R : Int)) ∧ v.cell? ⟨gr, 1, none⟩ = some (.int .u64 (M.loN R : Int))) (first | with_reducible exact KB _ hb2 | with_reducible exact KB _ hb1 | with_reducible exact KB _ A0 | with_reducible exact KS _ _ _ hb2)
  (first | (have hq := hb1; clear hq; go_at_call 45; refine (kA _).mono ?_; rintro e v8 ⟨rfl, hb0⟩; have hb2 := keepC (w1 := v7) hb1 hb0; clear hb0; obtain ⟨r0, r1, r2, r3, -⟩ := (Q0.below hb2).r) | (go_at_call 47; refine (kP _).mono ?_; rintro e u1 ⟨rfl, hb0⟩; have hb1 := keepC (w1 := v7) A0 hb0; clear hb0))
 have Q8 := Q0.below hb2
 clear Q0 KB KS A0 K0
 obtain ⟨r0, r1, r2, r3, -⟩ := id Q8.r
 have bb := (Q8.b.setCell (p := ⟨w.heap.size + 1, 0, none⟩) (by simp only; omega) (.int .u64 (M.hiN J : Int))).setCell (p := ⟨w.heap.size + 1, 1, none⟩) (by simp only; omega) (.int .u64 (M.loN J : Int))
 have HB := hid bb
 clear bb Q8
 all_goals go_wp2_with fail
 all_goals exact bodyPost_ret (v := .tuple #[.agg #[.int .u64 (M.hiN J : Int), .int .u64 (M.loN J : Int)], .bool true]) (by simp [results, Tryd.results22, go_sem, r0, r1]) rfl ⟨rfl, HB.out⟩

end Go.Proofs.YtcilemkeljcidaaDoor
