import Derived.Lib.BitFns
import Derived.Test.YtcilemkeljcidaaDoorsCom
import Derived.Test.YtcilemkeljcidaaDoorsAtR
import Derived.Test.YtcilemkeljcidaaDoorsIoA
set_option maxHeartbeats 8000000
set_option maxRecDepth 100000
namespace Go.Proofs.YtcilemkeljcidaaDoor
open Go.RowKit
set_option linter.unusedVariables false
set_option maxRecDepth 100000
structure Tv (w v : World) (gp gd : Nat) (e0 e1 e2 e3 e4 : Int) (e5 : Bool) (T : M.Pt) : Prop where
 b : Below w.heap.size w v
 d : D6 v gd e0 e1 e2 e3 e4 e5
 p : P5 v gp T
 r : W2 v (w.heap.size + 1) 0
 l : w.heap.size + 1 < gp
 k : gp < gd

theorem Tv.below {w v v' : World} {gp gd : Nat} {e0 e1 e2 e3 e4 : Int} {e5 : Bool} {T : M.Pt} (h : Tv w v gp gd e0 e1 e2 e3 e4 e5 T) (hb : Below v.heap.size v v') : Tv w v' gp gd e0 e1 e2 e3 e4 e5 T :=
 ⟨h.b.trans (hb.mono h.b.size), h.d.below hb, h.p.below hb, h.r.bl hb, h.l, h.k⟩

theorem sstepA (f : Int) (X : Nat) (up : Bool) (T : M.Pt) (e0 e1 e2 e3 e4 : Int) (e5 : Bool) (w : World)
 (kE : ∀ v : World, Calls Tryd.prog 8 #[.int .i64 f] v fun e w' => e = .returned (.agg #[.int .i64 e0, .int .i64 e1, .int .i64 e2, .int .i64 e3, .int .i64 e4, .bool e5]) ∧ Below v.heap.size v w')
 (kU : ∀ v : World, Calls Tryd.prog 11 #[.int .i64 f, .agg #[.int .u64 (M.hiN X : Int), .int .u64 (M.loN X : Int)]] v fun e w' => e = .returned (.agg #[.int .i64 T.c, .bool T.n, .int .u64 (M.hiN T.s : Int), .int .u64 (M.loN T.s : Int), .int .i64 T.q]) ∧ Below v.heap.size v w')
 (hc : Hid (T.c = 0)) :
 Calls Tryd.prog 21 #[.int .i64 f, .agg #[.int .u64 (M.hiN X : Int), .int .u64 (M.loN X : Int)], .bool up] w fun e w' => e = .returned (.tuple #[.agg #[.int .u64 0, .int .u64 0], .bool false]) ∧ Below w.heap.size w w' := by
 have b0 : Below w.heap.size w ((w.alloc (.cells #[.int .u64 (M.hiN X : Int), .int .u64 (M.loN X : Int)] 30)).alloc (.cells #[.int .u64 0, .int .u64 0] 30)) := ((Below.refl _ _).alloc (Nat.le_refl _) _).alloc (by simp) _
 have X0 : W2 ((w.alloc (.cells #[.int .u64 (M.hiN X : Int), .int .u64 (M.loN X : Int)] 30)).alloc (.cells #[.int .u64 0, .int .u64 0] 30)) w.heap.size X := by refine ⟨?_, ?_, ?_, ?_, ?_⟩ <;> simp [go_sem]
 have R0 : W2 ((w.alloc (.cells #[.int .u64 (M.hiN X : Int), .int .u64 (M.loN X : Int)] 30)).alloc (.cells #[.int .u64 0, .int .u64 0] 30)) (w.heap.size + 1) 0 := by refine ⟨?_, ?_, ?_, ?_, ?_⟩ <;> simp [go_sem, hi0, lo0]
 generalize hV : ((w.alloc (.cells #[.int .u64 (M.hiN X : Int), .int .u64 (M.loN X : Int)] 30)).alloc (.cells #[.int .u64 0, .int .u64 0] 30)) = v0 at *
 go_enter Tryd.func21, Tryd.ntmps21
 go_upto_region 1 with fail
 clear hV
 obtain ⟨x0, x1, -⟩ := id X0
 go_wp2_with fail
 refine (kU _).mono ?_
 rintro e v1 ⟨rfl, hb1⟩
 replace b0 := b0.trans (hb1.mono b0.size)
 replace R0 := R0.bl hb1
 have l0 : w.heap.size + 1 < v1.heap.size := R0.2.2.2.2
 clear hb1 kU x0 x1 X0
 go_upto_region 2 with fail
 have bA : Below v1.heap.size v1 (v1.alloc (.cells #[.int .i64 T.c, .bool T.n, .int .u64 (M.hiN T.s : Int), .int .u64 (M.loN T.s : Int), .int .i64 T.q] 32)) := (Below.refl _ _).alloc (Nat.le_refl _) _
 have P0 : P5 (v1.alloc (.cells #[.int .i64 T.c, .bool T.n, .int .u64 (M.hiN T.s : Int), .int .u64 (M.loN T.s : Int), .int .i64 T.q] 32)) v1.heap.size T := P5_new v1 T
 replace b0 := b0.trans (bA.mono b0.size)
 replace R0 := R0.bl bA
 clear bA
 generalize (v1.alloc (.cells #[.int .i64 T.c, .bool T.n, .int .u64 (M.hiN T.s : Int), .int .u64 (M.loN T.s : Int), .int .i64 T.q] 32)) = v2 at *
 generalize v1.heap.size = gp at *
 go_wp2_with fail
 refine (kE _).mono ?_
 rintro e v3 ⟨rfl, hb3⟩
 replace b0 := b0.trans (hb3.mono b0.size)
 replace R0 := R0.bl hb3
 replace P0 := P0.below hb3
 have l1 : gp < v3.heap.size := P0.2.2.2.2.2
 clear hb3 kE
 go_upto_region 3 with fail
 have bA : Below v3.heap.size v3 (v3.alloc (.cells #[.int .i64 e0, .int .i64 e1, .int .i64 e2, .int .i64 e3, .int .i64 e4, .bool e5] 23)) := (Below.refl _ _).alloc (Nat.le_refl _) _
 have Q0 : Tv w (v3.alloc (.cells #[.int .i64 e0, .int .i64 e1, .int .i64 e2, .int .i64 e3, .int .i64 e4, .bool e5] 23)) gp v3.heap.size e0 e1 e2 e3 e4 e5 T := ⟨b0.trans (bA.mono b0.size), D6_new v3 _ _ _ _ _ _ _, P0.below bA, R0.bl bA, l0, l1⟩
 clear bA b0 P0 R0 l0 l1
 generalize (v3.alloc (.cells #[.int .i64 e0, .int .i64 e1, .int .i64 e2, .int .i64 e3, .int .i64 e4, .bool e5] 23)) = v4 at *
 generalize v3.heap.size = gd at *
 obtain ⟨p0, p1, p2, p3, p4, -⟩ := id Q0.p
 obtain ⟨d0, d1, d2, d3, d4, d5, -⟩ := id Q0.d
 rw [hc.out] at p0
 obtain ⟨r0, r1, r2, r3, -⟩ := id Q0.r
 have bb := (Q0.b.setCell (p := ⟨w.heap.size + 1, 0, none⟩) (by simp only; omega) (.int .u64 0)).setCell (p := ⟨w.heap.size + 1, 1, none⟩) (by simp only; omega) (.int .u64 0)
 have HB := hid bb
 clear bb Q0
 go_wp2_with fail
 exact bodyPost_ret (v := .tuple #[.agg #[.int .u64 0, .int .u64 0], .bool false]) (by simp [results, Tryd.results21, go_sem, r0, r1]) rfl ⟨rfl, HB.out⟩

theorem sstepB (f : Int) (X : Nat) (up : Bool) (T : M.Pt) (e0 e1 e2 e3 e4 : Int) (e5 : Bool) (w : World)
 (kE : ∀ v : World, Calls Tryd.prog 8 #[.int .i64 f] v fun e w' => e = .returned (.agg #[.int .i64 e0, .int .i64 e1, .int .i64 e2, .int .i64 e3, .int .i64 e4, .bool e5]) ∧ Below v.heap.size v w')
 (kU : ∀ v : World, Calls Tryd.prog 11 #[.int .i64 f, .agg #[.int .u64 (M.hiN X : Int), .int .u64 (M.loN X : Int)]] v fun e w' => e = .returned (.agg #[.int .i64 T.c, .bool T.n, .int .u64 (M.hiN T.s : Int), .int .u64 (M.loN T.s : Int), .int .i64 T.q]) ∧ Below v.heap.size v w')
 (hc : Hid (T.c = 5)) :
 Calls Tryd.prog 21 #[.int .i64 f, .agg #[.int .u64 (M.hiN X : Int), .int .u64 (M.loN X : Int)], .bool up] w fun e w' => e = .returned (.tuple #[.agg #[.int .u64 0, .int .u64 0], .bool false]) ∧ Below w.heap.size w w' := by
 have b0 : Below w.heap.size w ((w.alloc (.cells #[.int .u64 (M.hiN X : Int), .int .u64 (M.loN X : Int)] 30)).alloc (.cells #[.int .u64 0, .int .u64 0] 30)) := ((Below.refl _ _).alloc (Nat.le_refl _) _).alloc (by simp) _
 have X0 : W2 ((w.alloc (.cells #[.int .u64 (M.hiN X : Int), .int .u64 (M.loN X : Int)] 30)).alloc (.cells #[.int .u64 0, .int .u64 0] 30)) w.heap.size X := by refine ⟨?_, ?_, ?_, ?_, ?_⟩ <;> simp [go_sem]
 have R0 : W2 ((w.alloc (.cells #[.int .u64 (M.hiN X : Int), .int .u64 (M.loN X : Int)] 30)).alloc (.cells #[.int .u64 0, .int .u64 0] 30)) (w.heap.size + 1) 0 := by refine ⟨?_, ?_, ?_, ?_, ?_⟩ <;> simp [go_sem, hi0, lo0]
 generalize hV : ((w.alloc (.cells #[.int .u64 (M.hiN X : Int), .int .u64 (M.loN X : Int)] 30)).alloc (.cells #[.int .u64 0, .int .u64 0] 30)) = v0 at *
 go_enter Tryd.func21, Tryd.ntmps21
 go_upto_region 1 with fail
 clear hV
 obtain ⟨x0, x1, -⟩ := id X0
 go_wp2_with fail
 refine (kU _).mono ?_
 rintro e v1 ⟨rfl, hb1⟩
 replace b0 := b0.trans (hb1.mono b0.size)
 replace R0 := R0.bl hb1
 have l0 : w.heap.size + 1 < v1.heap.size := R0.2.2.2.2
 clear hb1 kU x0 x1 X0
 go_upto_region 2 with fail
 have bA : Below v1.heap.size v1 (v1.alloc (.cells #[.int .i64 T.c, .bool T.n, .int .u64 (M.hiN T.s : Int), .int .u64 (M.loN T.s : Int), .int .i64 T.q] 32)) := (Below.refl _ _).alloc (Nat.le_refl _) _
 have P0 : P5 (v1.alloc (.cells #[.int .i64 T.c, .bool T.n, .int .u64 (M.hiN T.s : Int), .int .u64 (M.loN T.s : Int), .int .i64 T.q] 32)) v1.heap.size T := P5_new v1 T
 replace b0 := b0.trans (bA.mono b0.size)
 replace R0 := R0.bl bA
 clear bA
 generalize (v1.alloc (.cells #[.int .i64 T.c, .bool T.n, .int .u64 (M.hiN T.s : Int), .int .u64 (M.loN T.s : Int), .int .i64 T.q] 32)) = v2 at *
 generalize v1.heap.size = gp at *
 go_wp2_with fail
 refine (kE _).mono ?_
 rintro e v3 ⟨rfl, hb3⟩
 replace b0 := b0.trans (hb3.mono b0.size)
 replace R0 := R0.bl hb3
 replace P0 := P0.below hb3
 have l1 : gp < v3.heap.size := P0.2.2.2.2.2
 clear hb3 kE
 go_upto_region 3 with fail
 have bA : Below v3.heap.size v3 (v3.alloc (.cells #[.int .i64 e0, .int .i64 e1, .int .i64 e2, .int .i64 e3, .int .i64 e4, .bool e5] 23)) := (Below.refl _ _).alloc (Nat.le_refl _) _
 have Q0 : Tv w (v3.alloc (.cells #[.int .i64 e0, .int .i64 e1, .int .i64 e2, .int .i64 e3, .int .i64 e4, .bool e5] 23)) gp v3.heap.size e0 e1 e2 e3 e4 e5 T := ⟨b0.trans (bA.mono b0.size), D6_new v3 _ _ _ _ _ _ _, P0.below bA, R0.bl bA, l0, l1⟩
 clear bA b0 P0 R0 l0 l1
 generalize (v3.alloc (.cells #[.int .i64 e0, .int .i64 e1, .int .i64 e2, .int .i64 e3, .int .i64 e4, .bool e5] 23)) = v4 at *
 generalize v3.heap.size = gd at *
 obtain ⟨p0, p1, p2, p3, p4, -⟩ := id Q0.p
 obtain ⟨d0, d1, d2, d3, d4, d5, -⟩ := id Q0.d
 rw [hc.out] at p0
 obtain ⟨r0, r1, r2, r3, -⟩ := id Q0.r
 have bb := (Q0.b.setCell (p := ⟨w.heap.size + 1, 0, none⟩) (by simp only; omega) (.int .u64 0)).setCell (p := ⟨w.heap.size + 1, 1, none⟩) (by simp only; omega) (.int .u64 0)
 have HB := hid bb
 clear bb Q0
 go_wp2_with fail
 exact bodyPost_ret (v := .tuple #[.agg #[.int .u64 0, .int .u64 0], .bool false]) (by simp [results, Tryd.results21, go_sem, r0, r1]) rfl ⟨rfl, HB.out⟩

theorem sstep1 (f : Int) (X : Nat) (up : Bool) (T : M.Pt) (e0 e1 e2 e3 e4 : Int) (e5 : Bool) (w : World)
 (kE : ∀ v : World, Calls Tryd.prog 8 #[.int .i64 f] v fun e w' => e = .returned (.agg #[.int .i64 e0, .int .i64 e1, .int .i64 e2, .int .i64 e3, .int .i64 e4, .bool e5]) ∧ Below v.heap.size v w')
 (kU : ∀ v : World, Calls Tryd.prog 11 #[.int .i64 f, .agg #[.int .u64 (M.hiN X : Int), .int .u64 (M.loN X : Int)]] v fun e w' => e = .returned (.agg #[.int .i64 T.c, .bool T.n, .int .u64 (M.hiN T.s : Int), .int .u64 (M.loN T.s : Int), .int .i64 T.q]) ∧ Below v.heap.size v w')
 (hc : Hid (T.c = 1)) (qm : Int) (hq : wrap64 (wrap64 (e1 - e0) + 1) = qm) (R : Nat) (ok : Bool) (kP : ∀ v : World, Calls Tryd.prog 17 #[.int .i64 f, .agg #[.int .i64 2, .bool (!up), .int .u64 0, .int .u64 1, .int .i64 qm]] v fun e w' => e = .returned (.tuple #[.agg #[.int .u64 (M.hiN R : Int), .int .u64 (M.loN R : Int)], .bool ok]) ∧ Below v.heap.size v w') :
 Calls Tryd.prog 21 #[.int .i64 f, .agg #[.int .u64 (M.hiN X : Int), .int .u64 (M.loN X : Int)], .bool up] w fun e w' => e = .returned (.tuple #[.agg #[.int .u64 (M.hiN R : Int), .int .u64 (M.loN R : Int)], .bool ok]) ∧ Below w.heap.size w w' := by
 have b0 : Below w.heap.size w ((w.alloc (.cells #[.int .u64 (M.hiN X : Int), .int .u64 (M.loN X : Int)] 30)).alloc (.cells #[.int .u64 0, .int .u64 0] 30)) := ((Below.refl _ _).alloc (Nat.le_refl _) _).alloc (by simp) _
 have X0 : W2 ((w.alloc (.cells #[.int .u64 (M.hiN X : Int), .int .u64 (M.loN X : Int)] 30)).alloc (.cells #[.int .u64 0, .int .u64 0] 30)) w.heap.size X := by refine ⟨?_, ?_, ?_, ?_, ?_⟩ <;> simp [go_sem]
 have R0 : W2 ((w.alloc (.cells #[.int .u64 (M.hiN X : Int), .int .u64 (M.loN X : Int)] 30)).alloc (.cells #[.int .u64 0, .int .u64 0] 30)) (w.heap.size + 1) 0 := by refine ⟨?_, ?_, ?_, ?_, ?_⟩ <;> simp [go_sem, hi0, lo0]
 generalize hV : ((w.alloc (.cells #[.int .u64 (M.hiN X : Int), .int .u64 (M.loN X : Int)] 30)).alloc (.cells #[.int .u64 0, .int .u64 0] 30)) = v0 at *
 go_enter Tryd.func21, Tryd.ntmps21
 go_upto_region 1 with fail
 clear hV
 obtain ⟨x0, x1, -⟩ := id X0
 go_wp2_with fail
 refine (kU _).mono ?_
 rintro e v1 ⟨rfl, hb1⟩
 replace b0 := b0.trans (hb1.mono b0.size)
 replace R0 := R0.bl hb1
 have l0 : w.heap.size + 1 < v1.heap.size := R0.2.2.2.2
 clear hb1 kU x0 x1 X0
 go_upto_region 2 with fail
 have bA : Below v1.heap.size v1 (v1.alloc (.cells #[.int .i64 T.c, .bool T.n, .int .u64 (M.hiN T.s : Int), .int .u64 (M.loN T.s : Int), .int .i64 T.q] 32)) := (Below.refl _ _).alloc (Nat.le_refl _) _
 have P0 : P5 (v1.alloc (.cells #[.int .i64 T.c, .bool T.n, .int .u64 (M.hiN T.s : Int), .int .u64 (M.loN T.s : Int), .int .i64 T.q] 32)) v1.heap.size T := P5_new v1 T
 replace b0 := b0.trans (bA.mono b0.size)
 replace R0 := R0.bl bA
 clear bA
 generalize (v1.alloc (.cells #[.int .i64 T.c, .bool T.n, .int .u64 (M.hiN T.s : Int), .int .u64 (M.loN T.s : Int), .int .i64 T.q] 32)) = v2 at *
 generalize v1.heap.size = gp at *
 go_wp2_with fail
 refine (kE _).mono ?_
 rintro e v3 ⟨rfl, hb3⟩
 replace b0 := b0.trans (hb3.mono b0.size)
 replace R0 := R0.bl hb3
 replace P0 := P0.below hb3
 have l1 : gp < v3.heap.size := P0.2.2.2.2.2
 clear hb3 kE
 go_upto_region 3 with fail
 have bA : Below v3.heap.size v3 (v3.alloc (.cells #[.int .i64 e0, .int .i64 e1, .int .i64 e2, .int .i64 e3, .int .i64 e4, .bool e5] 23)) := (Below.refl _ _).alloc (Nat.le_refl _) _
 have Q0 : Tv w (v3.alloc (.cells #[.int .i64 e0, .int .i64 e1, .int .i64 e2, .int .i64 e3, .int .i64 e4, .bool e5] 23)) gp v3.heap.size e0 e1 e2 e3 e4 e5 T := ⟨b0.trans (bA.mono b0.size), D6_new v3 _ _ _ _ _ _ _, P0.below bA, R0.bl bA, l0, l1⟩
 clear bA b0 P0 R0 l0 l1
 generalize (v3.alloc (.cells #[.int .i64 e0, .int .i64 e1, .int .i64 e2, .int .i64 e3, .int .i64 e4, .bool e5] 23)) = v4 at *
 generalize v3.heap.size = gd at *
 obtain ⟨p0, p1, p2, p3, p4, -⟩ := id Q0.p
 obtain ⟨d0, d1, d2, d3, d4, d5, -⟩ := id Q0.d
 rw [hc.out] at p0
 go_wp2_with fail
 refine (kP _).mono ?_
 rintro e v6 ⟨rfl, hb6⟩
 replace Q0 := Q0.below hb6
 clear hb6
 clear p0 p1 p2 p3 p4 d0 d1 d2 d3 d4 d5
 obtain ⟨r0, r1, r2, r3, -⟩ := id Q0.r
 have bb := (Q0.b.setCell (p := ⟨w.heap.size + 1, 0, none⟩) (by simp only; omega) (.int .u64 (M.hiN R : Int))).setCell (p := ⟨w.heap.size + 1, 1, none⟩) (by simp only; omega) (.int .u64 (M.loN R : Int))
 have HB := hid bb
 clear bb Q0
 go_wp2_with fail
 exact bodyPost_ret (v := .tuple #[.agg #[.int .u64 (M.hiN R : Int), .int .u64 (M.loN R : Int)], .bool ok]) (by simp [results, Tryd.results21, go_sem, r0, r1]) rfl ⟨rfl, HB.out⟩

theorem sstep4g (f : Int) (X : Nat) (up : Bool) (T : M.Pt) (e0 e1 e2 e3 e4 : Int) (e5 : Bool) (w : World)
 (kE : ∀ v : World, Calls Tryd.prog 8 #[.int .i64 f] v fun e w' => e = .returned (.agg #[.int .i64 e0, .int .i64 e1, .int .i64 e2, .int .i64 e3, .int .i64 e4, .bool e5]) ∧ Below v.heap.size v w')
 (kU : ∀ v : World, Calls Tryd.prog 11 #[.int .i64 f, .agg #[.int .u64 (M.hiN X : Int), .int .u64 (M.loN X : Int)]] v fun e w' => e = .returned (.agg #[.int .i64 T.c, .bool T.n, .int .u64 (M.hiN T.s : Int), .int .u64 (M.loN T.s : Int), .int .i64 T.q]) ∧ Below v.heap.size v w')
 (hc : Hid (T.c = 4)) (qm : Int) (hq : wrap64 (wrap64 (e1 - e0) + 1) = qm) (hg : (up == T.n) = false) :
 Calls Tryd.prog 21 #[.int .i64 f, .agg #[.int .u64 (M.hiN X : Int), .int .u64 (M.loN X : Int)], .bool up] w fun e w' => e = .returned (.tuple #[.agg #[.int .u64 0, .int .u64 0], .bool false]) ∧ Below w.heap.size w w' := by
 have b0 : Below w.heap.size w ((w.alloc (.cells #[.int .u64 (M.hiN X : Int), .int .u64 (M.loN X : Int)] 30)).alloc (.cells #[.int .u64 0, .int .u64 0] 30)) := ((Below.refl _ _).alloc (Nat.le_refl _) _).alloc (by simp) _
 have X0 : W2 ((w.alloc (.cells #[.int .u64 (M.hiN X : Int), .int .u64 (M.loN X : Int)] 30)).alloc (.cells #[.int .u64 0, .int .u64 0] 30)) w.heap.size X := by refine ⟨?_, ?_, ?_, ?_, ?_⟩ <;> simp [go_sem]
 have R0 : W2 ((w.alloc (.cells #[.int .u64 (M.hiN X : Int), .int .u64 (M.loN X : Int)] 30)).alloc (.cells #[.int .u64 0, .int .u64 0] 30)) (w.heap.size + 1) 0 := by refine ⟨?_, ?_, ?_, ?_, ?_⟩ <;> simp [go_sem, hi0, lo0]
 generalize hV : ((w.alloc (.cells #[.int .u64 (M.hiN X : Int), .int .u64 (M.loN X : Int)] 30)).alloc (.cells #[.int .u64 0, .int .u64 0] 30)) = v0 at *
 go_enter Tryd.func21, Tryd.ntmps21
 go_upto_region 1 with fail
 clear hV
 obtain ⟨x0, x1, -⟩ := id X0
 go_wp2_with fail
 refine (kU _).mono ?_
 rintro e v1 ⟨rfl, hb1⟩
 replace b0 := b0.trans (hb1.mono b0.size)
 replace R0 := R0.bl hb1
 have l0 : w.heap.size + 1 < v1.heap.size := R0.2.2.2.2
 clear hb1 kU x0 x1 X0
 go_upto_region 2 with fail
 have bA : Below v1.heap.size v1 (v1.alloc (.cells #[.int .i64 T.c, .bool T.n, .int .u64 (M.hiN T.s : Int), .int .u64 (M.loN T.s : Int), .int .i64 T.q] 32)) := (Below.refl _ _).alloc (Nat.le_refl _) _
 have P0 : P5 (v1.alloc (.cells #[.int .i64 T.c, .bool T.n, .int .u64 (M.hiN T.s : Int), .int .u64 (M.loN T.s : Int), .int .i64 T.q] 32)) v1.heap.size T := P5_new v1 T
 replace b0 := b0.trans (bA.mono b0.size)
 replace R0 := R0.bl bA
 clear bA
 generalize (v1.alloc (.cells #[.int .i64 T.c, .bool T.n, .int .u64 (M.hiN T.s : Int), .int .u64 (M.loN T.s : Int), .int .i64 T.q] 32)) = v2 at *
 generalize v1.heap.size = gp at *
 go_wp2_with fail
 refine (kE _).mono ?_
 rintro e v3 ⟨rfl, hb3⟩
 replace b0 := b0.trans (hb3.mono b0.size)
 replace R0 := R0.bl hb3
 replace P0 := P0.below hb3
 have l1 : gp < v3.heap.size := P0.2.2.2.2.2
 clear hb3 kE
 go_upto_region 3 with fail
 have bA : Below v3.heap.size v3 (v3.alloc (.cells #[.int .i64 e0, .int .i64 e1, .int .i64 e2, .int .i64 e3, .int .i64 e4, .bool e5] 23)) := (Below.refl _ _).alloc (Nat.le_refl _) _
 have Q0 : Tv w (v3.alloc (.cells #[.int .i64 e0, .int .i64 e1, .int .i64 e2, .int .i64 e3, .int .i64 e4, .bool e5] 23)) gp v3.heap.size e0 e1 e2 e3 e4 e5 T := ⟨b0.trans (bA.mono b0.size), D6_new v3 _ _ _ _ _ _ _, P0.below bA, R0.bl bA, l0, l1⟩
 clear bA b0 P0 R0 l0 l1
 generalize (v3.alloc (.cells #[.int .i64 e0, .int .i64 e1, .int .i64 e2, .int .i64 e3, .int .i64 e4, .bool e5] 23)) = v4 at *
 generalize v3.heap.size = gd at *
 obtain ⟨p0, p1, p2, p3, p4, -⟩ := id Q0.p
 obtain ⟨d0, d1, d2, d3, d4, d5, -⟩ := id Q0.d
 rw [hc.out] at p0
 obtain ⟨r0, r1, r2, r3, -⟩ := id Q0.r
 have bb := (Q0.b.setCell (p := ⟨w.heap.size + 1, 0, none⟩) (by simp only; omega) (.int .u64 0)).setCell (p := ⟨w.heap.size + 1, 1, none⟩) (by simp only; omega) (.int .u64 0)
 have HB := hid bb
 clear bb Q0
 go_wp2_with fail
 exact bodyPost_ret (v := .tuple #[.agg #[.int .u64 0, .int .u64 0], .bool false]) (by simp [results, Tryd.results21, go_sem, r0, r1]) rfl ⟨rfl, HB.out⟩

theorem sstep4i (f : Int) (X : Nat) (up : Bool) (T : M.Pt) (e0 e1 e2 e3 e4 : Int) (e5 : Bool) (w : World)
 (kE : ∀ v : World, Calls Tryd.prog 8 #[.int .i64 f] v fun e w' => e = .returned (.agg #[.int .i64 e0, .int .i64 e1, .int .i64 e2, .int .i64 e3, .int .i64 e4, .bool e5]) ∧ Below v.heap.size v w')
 (kU : ∀ v : World, Calls Tryd.prog 11 #[.int .i64 f, .agg #[.int .u64 (M.hiN X : Int), .int .u64 (M.loN X : Int)]] v fun e w' => e = .returned (.agg #[.int .i64 T.c, .bool T.n, .int .u64 (M.hiN T.s : Int), .int .u64 (M.loN T.s : Int), .int .i64 T.q]) ∧ Below v.heap.size v w')
 (hc : Hid (T.c = 4)) (qm : Int) (hq : wrap64 (wrap64 (e1 - e0) + 1) = qm) (hg : (up == T.n) = true) (q2 : Int) (hq2 : wrap64 (wrap64 (e2 - e0) + 1) = q2) (H A : Nat) (k2 : ∀ (v : World), Calls Tryd.prog 29 #[.int .i64 e0] v fun e w' => Ret v w' e (D H)) (kO : ∀ (v : World), Calls Tryd.prog 42 #[.int .u64 1] v fun e w' => Ret v w' e (D 1)) (kS : ∀ (v : World) (ao bo : Option Addr) (c d : Nat), Rd v ao (D H) → Rd v bo (D 1) → Calls Tryd.prog 41 #[.slice ao (D H).length c, .slice bo (D 1).length d] v fun e w' => Ret v w' e (D A)) (kW : ∀ (v : World) (ao : Option Addr) (c : Nat), Rd v ao (D A) → Calls Tryd.prog 27 #[.slice ao (D A).length c] v fun e w' => e = .returned (.agg #[.int .u64 (M.hiN A : Int), .int .u64 (M.loN A : Int)]) ∧ Below v.heap.size v w') (R : Nat) (ok : Bool) (kP : ∀ v : World, Calls Tryd.prog 17 #[.int .i64 f, .agg #[.int .i64 3, .bool T.n, .int .u64 (M.hiN A : Int), .int .u64 (M.loN A : Int), .int .i64 q2]] v fun e w' => e = .returned (.tuple #[.agg #[.int .u64 (M.hiN R : Int), .int .u64 (M.loN R : Int)], .bool ok]) ∧ Below v.heap.size v w') :
 Calls Tryd.prog 21 #[.int .i64 f, .agg #[.int .u64 (M.hiN X : Int), .int .u64 (M.loN X : Int)], .bool up] w fun e w' => e = .returned (.tuple #[.agg #[.int .u64 (M.hiN R : Int), .int .u64 (M.loN R : Int)], .bool ok]) ∧ Below w.heap.size w w' := by
 have b0 : Below w.heap.size w ((w.alloc (.cells #[.int .u64 (M.hiN X : Int), .int .u64 (M.loN X : Int)] 30)).alloc (.cells #[.int .u64 0, .int .u64 0] 30)) := ((Below.refl _ _).alloc (Nat.le_refl _) _).alloc (by simp) _
 have X0 : W2 ((w.alloc (.cells #[.int .u64 (M.hiN X : Int), .int .u64 (M.loN X : Int)] 30)).alloc (.cells #[.int .u64 0, .int .u64 0] 30)) w.heap.size X := by refine ⟨?_, ?_, ?_, ?_, ?_⟩ <;> simp [go_sem]
 have R0 : W2 ((w.alloc (.cells #[.int .u64 (M.hiN X : Int), .int .u64 (M.loN X : Int)] 30)).alloc (.cells #[.int .u64 0, .int .u64 0] 30)) (w.heap.size + 1) 0 := by refine ⟨?_, ?_, ?_, ?_, ?_⟩ <;> simp [go_sem, hi0, lo0]
 generalize hV : ((w.alloc (.cells #[.int .u64 (M.hiN X : Int), .int .u64 (M.loN X : Int)] 30)).alloc (.cells #[.int .u64 0, .int .u64 0] 30)) = v0 at *
 go_enter Tryd.func21, Tryd.ntmps21
 go_upto_region 1 with fail
 clear hV
 obtain ⟨x0, x1, -⟩ := id X0
 go_wp2_with fail
 refine (kU _).mono ?_
 rintro e v1 ⟨rfl, hb1⟩
 replace b0 := b0.trans (hb1.mono b0.size)
 replace R0 := R0.bl hb1
 have l0 : w.heap.size + 1 < v1.heap.size := R0.2.2.2.2
 clear hb1 kU x0 x1 X0
 go_upto_region 2 with fail
 have bA : Below v1.heap.size v1 (v1.alloc (.cells #[.int .i64 T.c, .bool T.n, .int .u64 (M.hiN T.s : Int), .int .u64 (M.loN T.s : Int), .int .i64 T.q] 32)) := (Below.refl _ _).alloc (Nat.le_refl _) _
 have P0 : P5 (v1.alloc (.cells #[.int .i64 T.c, .bool T.n, .int .u64 (M.hiN T.s : Int), .int .u64 (M.loN T.s : Int), .int .i64 T.q] 32)) v1.heap.size T := P5_new v1 T
 replace b0 := b0.trans (bA.mono b0.size)
 replace R0 := R0.bl bA
 clear bA
 generalize (v1.alloc (.cells #[.int .i64 T.c, .bool T.n, .int .u64 (M.hiN T.s : Int), .int .u64 (M.loN T.s : Int), .int .i64 T.q] 32)) = v2 at *
 generalize v1.heap.size = gp at *
 go_wp2_with fail
 refine (kE _).mono ?_
 rintro e v3 ⟨rfl, hb3⟩
 replace b0 := b0.trans (hb3.mono b0.size)
 replace R0 := R0.bl hb3
 replace P0 := P0.below hb3
 have l1 : gp < v3.heap.size := P0.2.2.2.2.2
 clear hb3 kE
 go_upto_region 3 with fail
 have bA : Below v3.heap.size v3 (v3.alloc (.cells #[.int .i64 e0, .int .i64 e1, .int .i64 e2, .int .i64 e3, .int .i64 e4, .bool e5] 23)) := (Below.refl _ _).alloc (Nat.le_refl _) _
 have Q0 : Tv w (v3.alloc (.cells #[.int .i64 e0, .int .i64 e1, .int .i64 e2, .int .i64 e3, .int .i64 e4, .bool e5] 23)) gp v3.heap.size e0 e1 e2 e3 e4 e5 T := ⟨b0.trans (bA.mono b0.size), D6_new v3 _ _ _ _ _ _ _, P0.below bA, R0.bl bA, l0, l1⟩
 clear bA b0 P0 R0 l0 l1
 generalize (v3.alloc (.cells #[.int .i64 e0, .int .i64 e1, .int .i64 e2, .int .i64 e3, .int .i64 e4, .bool e5] 23)) = v4 at *
 generalize v3.heap.size = gd at *
 obtain ⟨p0, p1, p2, p3, p4, -⟩ := id Q0.p
 obtain ⟨d0, d1, d2, d3, d4, d5, -⟩ := id Q0.d
 rw [hc.out] at p0
 go_wp2_with fail
 refine (k2 _).mono ?_
 rintro e v6 ⟨ao, cap, rfl, hoA, hb6⟩
 have rA := Rd.own hoA
 replace Q0 := Q0.below hb6
 clear hb6 k2 hoA
 go_wp2_with fail
 refine (kO _).mono ?_
 rintro e v7 ⟨bo, cbp, rfl, hoB, hb7⟩
 have rB := Rd.own hoB
 replace rA := rA.below hb7
 replace Q0 := Q0.below hb7
 clear hb7 kO hoB
 go_wp2_with fail
 refine (kS _ _ _ _ _ rA rB).mono ?_
 rintro e v8 ⟨co, ccp, rfl, hoC, hb8⟩
 have rC := Rd.own hoC
 replace Q0 := Q0.below hb8
 clear hb8 kS hoC rA rB
 go_wp2_with fail
 refine (kW _ _ _ rC).mono ?_
 rintro e v9 ⟨rfl, hb9⟩
 replace Q0 := Q0.below hb9
 clear hb9 kW rC p0 p1 p2 p3 p4 d0 d1 d2 d3 d4 d5
 go_upto_region 13 with fail
 have bA : Below v9.heap.size v9 (v9.alloc (.cells #[.int .u64 (M.hiN A : Int), .int .u64 (M.loN A : Int)] 30)) := (Below.refl _ _).alloc (Nat.le_refl _) _
 have K0 : W2 (v9.alloc (.cells #[.int .u64 (M.hiN A : Int), .int .u64 (M.loN A : Int)] 30)) v9.heap.size A := W2_new v9 A _
 replace Q0 := Q0.below bA
 clear bA
 generalize (v9.alloc (.cells #[.int .u64 (M.hiN A : Int), .int .u64 (M.loN A : Int)] 30)) = va at *
 generalize v9.heap.size = ga at *
 obtain ⟨p0, p1, p2, p3, p4, -⟩ := id Q0.p
 obtain ⟨d0, d1, d2, d3, d4, d5, -⟩ := id Q0.d
 obtain ⟨k0, k1, -⟩ := id K0
 go_wp2_with fail
 refine (kP _).mono ?_
 rintro e vb ⟨rfl, hbb⟩
 replace Q0 := Q0.below hbb
 clear hbb
 clear p0 p1 p2 p3 p4 d0 d1 d2 d3 d4 d5
 obtain ⟨r0, r1, r2, r3, -⟩ := id Q0.r
 have bb := (Q0.b.setCell (p := ⟨w.heap.size + 1, 0, none⟩) (by simp only; omega) (.int .u64 (M.hiN R : Int))).setCell (p := ⟨w.heap.size + 1, 1, none⟩) (by simp only; omega) (.int .u64 (M.loN R : Int))
 have HB := hid bb
 clear bb Q0
 go_wp2_with fail
 exact bodyPost_ret (v := .tuple #[.agg #[.int .u64 (M.hiN R : Int), .int .u64 (M.loN R : Int)], .bool ok]) (by simp [results, Tryd.results21, go_sem, r0, r1]) rfl ⟨rfl, HB.out⟩

end Go.Proofs.YtcilemkeljcidaaDoor
