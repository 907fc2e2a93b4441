import Derived.Test.YtogkkecnmlnajaaDoorqDR
set_option maxHeartbeats 8000000
set_option maxRecDepth 100000
namespace Go.Proofs.YtogkkecnmlnajaaDoor
open Go.RowKit
set_option linter.unusedVariables false
set_option maxRecDepth 100000
theorem span_ap (f : Int) (T : M.Pt) (e0 e1 e2 e3 e4 : Int) (e5 : Bool) (A B C : Nat) (w : World)
 (kE : ∀ v : World, Calls Tryd.prog 25 #[.int .i64 f] v fun e w' => e = .returned (.agg #[.int .i64 e0, .int .i64 e1, .int .i64 e2, .int .i64 e3, .int .i64 e4, .bool e5]) ∧ Below v.heap.size v w') (kO : ∀ (v : World), Calls Tryd.prog 45 #[.agg #[.int .u64 (M.hiN T.s : Int), .int .u64 (M.loN T.s : Int)]] v fun e w' => Ret v w' e (D T.s)) (F4 : Nat) (kL2 : ∀ (v : World) (ao : Option Addr) (c : Nat), Rd v ao (D T.s) → Calls Tryd.prog 20 #[.slice ao (D T.s).length c, .int .i64 2] v fun e w' => Ret v w' e (D F4)) (k2 : ∀ (v : World), Calls Tryd.prog 21 #[.int .u64 2] v fun e w' => Ret v w' e (D 2)) (k1 : ∀ (v : World), Calls Tryd.prog 21 #[.int .u64 1] v fun e w' => Ret v w' e (D 1)) (H X : Nat) (kA : ∀ (v : World) (ao bo : Option Addr) (c d : Nat), Rd v ao (D F4) → Rd v bo (D 2) → Calls Tryd.prog 19 #[.slice ao (D F4).length c, .slice bo (D 2).length d] v fun e w' => Ret v w' e (D H)) (kS : ∀ (v : World) (ao bo : Option Addr) (c d : Nat), Rd v ao (D F4) → Rd v bo (D 2) → Calls Tryd.prog 22 #[.slice ao (D F4).length c, .slice bo (D 2).length d] v fun e w' => Ret v w' e (D X)) (hc : Hid (T.c = 2)) (z : Int) (hz : wrap64 (T.q - 2) = z) (hp : 0 ≤ z) (kLx : ∀ (v : World) (ao : Option Addr) (c : Nat), Rd v ao (D X) → Calls Tryd.prog 20 #[.slice ao (D X).length c, .int .i64 z] v fun e w' => Ret v w' e (D A)) (kLh : ∀ (v : World) (ao : Option Addr) (c : Nat), Rd v ao (D H) → Calls Tryd.prog 20 #[.slice ao (D H).length c, .int .i64 z] v fun e w' => Ret v w' e (D B)) (hC : C = 1)  :
 Calls Tryd.prog 18 #[.int .i64 f, .agg #[.int .i64 T.c, .bool T.n, .int .u64 (M.hiN T.s : Int), .int .u64 (M.loN T.s : Int), .int .i64 T.q]] w fun e w' => Sp3 w w' e A B C := by
 have b0 : Below w.heap.size w (w.alloc (.cells #[.int .i64 T.c, .bool T.n, .int .u64 (M.hiN T.s : Int), .int .u64 (M.loN T.s : Int), .int .i64 T.q] 33)) := (Below.refl _ _).alloc (Nat.le_refl _) _
 have P0 : P5 (w.alloc (.cells #[.int .i64 T.c, .bool T.n, .int .u64 (M.hiN T.s : Int), .int .u64 (M.loN T.s : Int), .int .i64 T.q] 33)) w.heap.size T := P5_new w T
 generalize hV : (w.alloc (.cells #[.int .i64 T.c, .bool T.n, .int .u64 (M.hiN T.s : Int), .int .u64 (M.loN T.s : Int), .int .i64 T.q] 33)) = v0 at *
 go_enter Tryd.func18, Tryd.ntmps18
 go_upto_region 1 with fail
 clear hV
 go_wp2_with fail
 refine (kE _).mono ?_
 rintro e v1 ⟨rfl, hb1⟩
 replace b0 := b0.trans (hb1.mono b0.size)
 replace P0 := P0.below hb1
 clear hb1 kE
 go_upto_region 2 with fail
 have bA : Below v1.heap.size v1 (v1.alloc (.cells #[.int .i64 e0, .int .i64 e1, .int .i64 e2, .int .i64 e3, .int .i64 e4, .bool e5] 56)) := (Below.refl _ _).alloc (Nat.le_refl _) _
 have J0 : Cv w (v1.alloc (.cells #[.int .i64 e0, .int .i64 e1, .int .i64 e2, .int .i64 e3, .int .i64 e4, .bool e5] 56)) v1.heap.size e0 e1 e2 e3 e4 e5 T := ⟨b0.trans (bA.mono b0.size), D6_new v1 _ _ _ _ _ _ _, P0.below bA⟩
 clear bA b0 P0
 generalize (v1.alloc (.cells #[.int .i64 e0, .int .i64 e1, .int .i64 e2, .int .i64 e3, .int .i64 e4, .bool e5] 56)) = v2 at *
 generalize v1.heap.size = gd at *
 obtain ⟨p0, p1, p2, p3, p4, -⟩ := id J0.p
 go_wp2_with fail
 refine (kO _).mono ?_
 rintro e va ⟨sa, sc, rfl, ho, hb⟩
 have rs := Rd.own ho
 replace J0 := J0.below hb
 clear hb ho
 clear p0 p1 p2 p3 p4
 go_wp2_with fail
 refine (kL2 _ _ _ rs).mono ?_
 rintro e vb ⟨fa, fc, rfl, ho, hb⟩
 have rf := Rd.own ho
 replace J0 := J0.below hb
 clear hb ho
 clear rs kL2
 go_wp2_with fail
 refine (k2 _).mono ?_
 rintro e vc ⟨ta, tc, rfl, ho, hb⟩
 have rt := Rd.own ho
 replace rf := rf.below hb
 replace J0 := J0.below hb
 clear hb ho
 go_wp2_with fail
 refine (kA _ _ _ _ _ rf rt).mono ?_
 rintro e vd ⟨ha, hc0, rfl, ho, hb⟩
 have rh := Rd.own ho
 replace rf := rf.below hb
 replace J0 := J0.below hb
 clear hb ho
 clear rt kA
 go_wp2_with fail
 refine (k2 _).mono ?_
 rintro e ve ⟨ta, tc, rfl, ho, hb⟩
 have rt := Rd.own ho
 replace rf := rf.below hb
 replace rh := rh.below hb
 replace J0 := J0.below hb
 clear hb ho
 go_wp2_with fail
 refine (kS _ _ _ _ _ rf rt).mono ?_
 rintro e vf ⟨xa, xc, rfl, ho, hb⟩
 have rx := Rd.own ho
 replace rf := rf.below hb
 replace rh := rh.below hb
 replace J0 := J0.below hb
 clear hb ho
 clear rt kS
 obtain ⟨p0, p1, p2, p3, p4, -⟩ := id J0.p
 rw [hc.out] at p0
 go_upto_region 5 with fail
 go_quiet (fail)
 clear p0 p1 p2 p3 p4
 have A0 : Below vf.heap.size vf (vf.drewN nq) := ⟨rfl, rfl, rfl, Nat.le_refl _, fun _ _ => rfl⟩
 replace J0 := J0.below A0
 replace rf := rf.below A0
 replace rh := rh.below A0
 replace rx := rx.below A0
 clear A0
 generalize vf.drewN nq = vg at *
 obtain ⟨p0, p1, p2, p3, p4, -⟩ := id J0.p
 go_wp2_with fail
 refine (kLx _ _ _ rx).mono ?_
 rintro e w1 ⟨ia, ic, rfl, ho, hb⟩
 have ri := Rd.own ho
 replace rh := rh.below hb
 replace J0 := J0.below hb
 clear hb ho
 go_wp2_with fail
 refine (kLh _ _ _ rh).mono ?_
 rintro e w2 ⟨ja, jc, rfl, ho, hb⟩
 have rj := Rd.own ho
 replace ri := ri.below hb
 replace J0 := J0.below hb
 clear hb ho
 go_wp2_with fail
 refine (k1 _).mono ?_
 rintro e w3 ⟨ka, kc, rfl, ho, hb⟩
 have rk := Rd.own ho
 replace ri := ri.below hb
 replace rj := rj.below hb
 replace J0 := J0.below hb
 clear hb ho
 subst hC
 have HB := hid J0.b
 have HR := hid (And.intro ri (And.intro rj rk))
 clear J0 ri rj rk p0 p1 p2 p3 p4 rf
 go_wp2_with fail
 exact bodyPost_ret (v := .tuple #[.slice ia (D A).length ic, .slice ja (D B).length jc, .slice ka (D 1).length kc]) (by simp [results, Tryd.results18, go_sem]) rfl ⟨_, _, _, _, _, _, rfl, HR.out.1, HR.out.2.1, HR.out.2.2, HB.out⟩

theorem span_an (f : Int) (T : M.Pt) (e0 e1 e2 e3 e4 : Int) (e5 : Bool) (A B C : Nat) (w : World)
 (kE : ∀ v : World, Calls Tryd.prog 25 #[.int .i64 f] v fun e w' => e = .returned (.agg #[.int .i64 e0, .int .i64 e1, .int .i64 e2, .int .i64 e3, .int .i64 e4, .bool e5]) ∧ Below v.heap.size v w') (kO : ∀ (v : World), Calls Tryd.prog 45 #[.agg #[.int .u64 (M.hiN T.s : Int), .int .u64 (M.loN T.s : Int)]] v fun e w' => Ret v w' e (D T.s)) (F4 : Nat) (kL2 : ∀ (v : World) (ao : Option Addr) (c : Nat), Rd v ao (D T.s) → Calls Tryd.prog 20 #[.slice ao (D T.s).length c, .int .i64 2] v fun e w' => Ret v w' e (D F4)) (k2 : ∀ (v : World), Calls Tryd.prog 21 #[.int .u64 2] v fun e w' => Ret v w' e (D 2)) (k1 : ∀ (v : World), Calls Tryd.prog 21 #[.int .u64 1] v fun e w' => Ret v w' e (D 1)) (H X : Nat) (kA : ∀ (v : World) (ao bo : Option Addr) (c d : Nat), Rd v ao (D F4) → Rd v bo (D 2) → Calls Tryd.prog 19 #[.slice ao (D F4).length c, .slice bo (D 2).length d] v fun e w' => Ret v w' e (D H)) (kS : ∀ (v : World) (ao bo : Option Addr) (c d : Nat), Rd v ao (D F4) → Rd v bo (D 2) → Calls Tryd.prog 22 #[.slice ao (D F4).length c, .slice bo (D 2).length d] v fun e w' => Ret v w' e (D X)) (hc : Hid (T.c = 2)) (z : Int) (hz : wrap64 (T.q - 2) = z) (hp : ¬ 0 ≤ z) (hn : wrap64 (-z) = -z) (hn2 : IntKind.i64.wrap (-z) = -z) (kT2 : ∀ (v : World) (y : Int), y = -z → Calls Tryd.prog 50 #[.int .i64 y] v fun e w' => Ret v w' e (D C)) (hA : A = X) (hB : B = H)  :
 Calls Tryd.prog 18 #[.int .i64 f, .agg #[.int .i64 T.c, .bool T.n, .int .u64 (M.hiN T.s : Int), .int .u64 (M.loN T.s : Int), .int .i64 T.q]] w fun e w' => Sp3 w w' e A B C := by
 have b0 : Below w.heap.size w (w.alloc (.cells #[.int .i64 T.c, .bool T.n, .int .u64 (M.hiN T.s : Int), .int .u64 (M.loN T.s : Int), .int .i64 T.q] 33)) := (Below.refl _ _).alloc (Nat.le_refl _) _
 have P0 : P5 (w.alloc (.cells #[.int .i64 T.c, .bool T.n, .int .u64 (M.hiN T.s : Int), .int .u64 (M.loN T.s : Int), .int .i64 T.q] 33)) w.heap.size T := P5_new w T
 generalize hV : (w.alloc (.cells #[.int .i64 T.c, .bool T.n, .int .u64 (M.hiN T.s : Int), .int .u64 (M.loN T.s : Int), .int .i64 T.q] 33)) = v0 at *
 go_enter Tryd.func18, Tryd.ntmps18
 go_upto_region 1 with fail
 clear hV
 go_wp2_with fail
 refine (kE _).mono ?_
 rintro e v1 ⟨rfl, hb1⟩
 replace b0 := b0.trans (hb1.mono b0.size)
 replace P0 := P0.below hb1
 clear hb1 kE
 go_upto_region 2 with fail
 have bA : Below v1.heap.size v1 (v1.alloc (.cells #[.int .i64 e0, .int .i64 e1, .int .i64 e2, .int .i64 e3, .int .i64 e4, .bool e5] 56)) := (Below.refl _ _).alloc (Nat.le_refl _) _
 have J0 : Cv w (v1.alloc (.cells #[.int .i64 e0, .int .i64 e1, .int .i64 e2, .int .i64 e3, .int .i64 e4, .bool e5] 56)) v1.heap.size e0 e1 e2 e3 e4 e5 T := ⟨b0.trans (bA.mono b0.size), D6_new v1 _ _ _ _ _ _ _, P0.below bA⟩
 clear bA b0 P0
 generalize (v1.alloc (.cells #[.int .i64 e0, .int .i64 e1, .int .i64 e2, .int .i64 e3, .int .i64 e4, .bool e5] 56)) = v2 at *
 generalize v1.heap.size = gd at *
 obtain ⟨p0, p1, p2, p3, p4, -⟩ := id J0.p
 go_wp2_with fail
 refine (kO _).mono ?_
 rintro e va ⟨sa, sc, rfl, ho, hb⟩
 have rs := Rd.own ho
 replace J0 := J0.below hb
 clear hb ho
 clear p0 p1 p2 p3 p4
 go_wp2_with fail
 refine (kL2 _ _ _ rs).mono ?_
 rintro e vb ⟨fa, fc, rfl, ho, hb⟩
 have rf := Rd.own ho
 replace J0 := J0.below hb
 clear hb ho
 clear rs kL2
 go_wp2_with fail
 refine (k2 _).mono ?_
 rintro e vc ⟨ta, tc, rfl, ho, hb⟩
 have rt := Rd.own ho
 replace rf := rf.below hb
 replace J0 := J0.below hb
 clear hb ho
 go_wp2_with fail
 refine (kA _ _ _ _ _ rf rt).mono ?_
 rintro e vd ⟨ha, hc0, rfl, ho, hb⟩
 have rh := Rd.own ho
 replace rf := rf.below hb
 replace J0 := J0.below hb
 clear hb ho
 clear rt kA
 go_wp2_with fail
 refine (k2 _).mono ?_
 rintro e ve ⟨ta, tc, rfl, ho, hb⟩
 have rt := Rd.own ho
 replace rf := rf.below hb
 replace rh := rh.below hb
 replace J0 := J0.below hb
 clear hb ho
 go_wp2_with fail
 refine (kS _ _ _ _ _ rf rt).mono ?_
 rintro e vf ⟨xa, xc, rfl, ho, hb⟩
 have rx := Rd.own ho
 replace rf := rf.below hb
 replace rh := rh.below hb
 replace J0 := J0.below hb
 clear hb ho
 clear rt kS
 obtain ⟨p0, p1, p2, p3, p4, -⟩ := id J0.p
 rw [hc.out] at p0
 go_upto_region 5 with fail
 go_quiet (fail)
 clear p0 p1 p2 p3 p4
 have A0 : Below vf.heap.size vf (vf.drewN nq) := ⟨rfl, rfl, rfl, Nat.le_refl _, fun _ _ => rfl⟩
 replace J0 := J0.below A0
 replace rf := rf.below A0
 replace rh := rh.below A0
 replace rx := rx.below A0
 clear A0
 generalize vf.drewN nq = vg at *
 obtain ⟨p0, p1, p2, p3, p4, -⟩ := id J0.p
 go_wp2_with fail
 refine (kT2 _ _ (by first | with_reducible rfl | with_reducible assumption)).mono ?_
 rintro e w1 ⟨ka, kc, rfl, ho, hb⟩
 have rk := Rd.own ho
 replace rx := rx.below hb
 replace rh := rh.below hb
 replace J0 := J0.below hb
 clear hb ho
 subst hA
 subst hB
 have HB := hid J0.b
 have HR := hid (And.intro rx (And.intro rh rk))
 clear J0 rx rh rk p0 p1 p2 p3 p4 rf
 go_wp2_with fail
 exact bodyPost_ret (v := .tuple #[.slice xa (D A).length xc, .slice ha (D B).length hc0, .slice ka (D C).length kc]) (by simp [results, Tryd.results18, go_sem]) rfl ⟨_, _, _, _, _, _, rfl, HR.out.1, HR.out.2.1, HR.out.2.2, HB.out⟩

theorem span_cp (f : Int) (T : M.Pt) (e0 e1 e2 e3 e4 : Int) (e5 : Bool) (A B C : Nat) (w : World)
 (kE : ∀ v : World, Calls Tryd.prog 25 #[.int .i64 f] v fun e w' => e = .returned (.agg #[.int .i64 e0, .int .i64 e1, .int .i64 e2, .int .i64 e3, .int .i64 e4, .bool e5]) ∧ Below v.heap.size v w') (kO : ∀ (v : World), Calls Tryd.prog 45 #[.agg #[.int .u64 (M.hiN T.s : Int), .int .u64 (M.loN T.s : Int)]] v fun e w' => Ret v w' e (D T.s)) (F4 : Nat) (kL2 : ∀ (v : World) (ao : Option Addr) (c : Nat), Rd v ao (D T.s) → Calls Tryd.prog 20 #[.slice ao (D T.s).length c, .int .i64 2] v fun e w' => Ret v w' e (D F4)) (k2 : ∀ (v : World), Calls Tryd.prog 21 #[.int .u64 2] v fun e w' => Ret v w' e (D 2)) (k1 : ∀ (v : World), Calls Tryd.prog 21 #[.int .u64 1] v fun e w' => Ret v w' e (D 1)) (H X : Nat) (kA : ∀ (v : World) (ao bo : Option Addr) (c d : Nat), Rd v ao (D F4) → Rd v bo (D 2) → Calls Tryd.prog 19 #[.slice ao (D F4).length c, .slice bo (D 2).length d] v fun e w' => Ret v w' e (D H)) (kS : ∀ (v : World) (ao bo : Option Addr) (c d : Nat), Rd v ao (D F4) → Rd v bo (D 2) → Calls Tryd.prog 22 #[.slice ao (D F4).length c, .slice bo (D 2).length d] v fun e w' => Ret v w' e (D X)) (hc : Hid (T.c = 3)) (LD : Nat) (he1 : wrap64 (e0 - 1) = e0 - 1) (he2 : IntKind.i64.wrap (e0 - 1) = e0 - 1) (kT : ∀ (v : World) (z : Int), z = e0 - 1 → Calls Tryd.prog 50 #[.int .i64 z] v fun e w' => Ret v w' e (D LD)) (kC : ∀ (v : World) (ao bo : Option Addr) (c d : Nat), Rd v ao (D T.s) → Rd v bo (D LD) → Calls Tryd.prog 44 #[.slice ao (D T.s).length c, .slice bo (D LD).length d] v fun e w' => e = .returned (.int .i64 0) ∧ Below v.heap.size v w') (qm : Int) (hq : wrap64 (wrap64 (e1 - e0) + 1) = qm) (hqw : IntKind.i64.wrap (IntKind.i64.wrap (e1 - e0) + 1) = qm) (hqq : ¬ qm < T.q) (hqq1 : decide (qm < T.q) = false) (z : Int) (hz : wrap64 (T.q - 2) = z) (hp : 0 ≤ z) (kLx : ∀ (v : World) (ao : Option Addr) (c : Nat), Rd v ao (D X) → Calls Tryd.prog 20 #[.slice ao (D X).length c, .int .i64 z] v fun e w' => Ret v w' e (D A)) (kLh : ∀ (v : World) (ao : Option Addr) (c : Nat), Rd v ao (D H) → Calls Tryd.prog 20 #[.slice ao (D H).length c, .int .i64 z] v fun e w' => Ret v w' e (D B)) (hC : C = 1)  :
 Calls Tryd.prog 18 #[.int .i64 f, .agg #[.int .i64 T.c, .bool T.n, .int .u64 (M.hiN T.s : Int), .int .u64 (M.loN T.s : Int), .int .i64 T.q]] w fun e w' => Sp3 w w' e A B C := by
 have b0 : Below w.heap.size w (w.alloc (.cells #[.int .i64 T.c, .bool T.n, .int .u64 (M.hiN T.s : Int), .int .u64 (M.loN T.s : Int), .int .i64 T.q] 33)) := (Below.refl _ _).alloc (Nat.le_refl _) _
 have P0 : P5 (w.alloc (.cells #[.int .i64 T.c, .bool T.n, .int .u64 (M.hiN T.s : Int), .int .u64 (M.loN T.s : Int), .int .i64 T.q] 33)) w.heap.size T := P5_new w T
 generalize hV : (w.alloc (.cells #[.int .i64 T.c, .bool T.n, .int .u64 (M.hiN T.s : Int), .int .u64 (M.loN T.s : Int), .int .i64 T.q] 33)) = v0 at *
 go_enter Tryd.func18, Tryd.ntmps18
 go_upto_region 1 with fail
 clear hV
 go_wp2_with fail
 refine (kE _).mono ?_
 rintro e v1 ⟨rfl, hb1⟩
 replace b0 := b0.trans (hb1.mono b0.size)
 replace P0 := P0.below hb1
 clear hb1 kE
 go_upto_region 2 with fail
 have bA : Below v1.heap.size v1 (v1.alloc (.cells #[.int .i64 e0, .int .i64 e1, .int .i64 e2, .int .i64 e3, .int .i64 e4, .bool e5] 56)) := (Below.refl _ _).alloc (Nat.le_refl _) _
 have J0 : Cv w (v1.alloc (.cells #[.int .i64 e0, .int .i64 e1, .int .i64 e2, .int .i64 e3, .int .i64 e4, .bool e5] 56)) v1.heap.size e0 e1 e2 e3 e4 e5 T := ⟨b0.trans (bA.mono b0.size), D6_new v1 _ _ _ _ _ _ _, P0.below bA⟩
 clear bA b0 P0
 generalize (v1.alloc (.cells #[.int .i64 e0, .int .i64 e1, .int .i64 e2, .int .i64 e3, .int .i64 e4, .bool e5] 56)) = v2 at *
 generalize v1.heap.size = gd at *
 obtain ⟨p0, p1, p2, p3, p4, -⟩ := id J0.p
 go_wp2_with fail
 refine (kO _).mono ?_
 rintro e va ⟨sa, sc, rfl, ho, hb⟩
 have rs := Rd.own ho
 replace J0 := J0.below hb
 clear hb ho
 clear p0 p1 p2 p3 p4
 go_wp2_with fail
 refine (kL2 _ _ _ rs).mono ?_
 rintro e vb ⟨fa, fc, rfl, ho, hb⟩
 have rf := Rd.own ho
 replace J0 := J0.below hb
 clear hb ho
 clear rs kL2
 go_wp2_with fail
 refine (k2 _).mono ?_
 rintro e vc ⟨ta, tc, rfl, ho, hb⟩
 have rt := Rd.own ho
 replace rf := rf.below hb
 replace J0 := J0.below hb
 clear hb ho
 go_wp2_with fail
 refine (kA _ _ _ _ _ rf rt).mono ?_
 rintro e vd ⟨ha, hc0, rfl, ho, hb⟩
 have rh := Rd.own ho
 replace rf := rf.below hb
 replace J0 := J0.below hb
 clear hb ho
 clear rt kA
 go_wp2_with fail
 refine (k2 _).mono ?_
 rintro e ve ⟨ta, tc, rfl, ho, hb⟩
 have rt := Rd.own ho
 replace rf := rf.below hb
 replace rh := rh.below hb
 replace J0 := J0.below hb
 clear hb ho
 go_wp2_with fail
 refine (kS _ _ _ _ _ rf rt).mono ?_
 rintro e vf ⟨xa, xc, rfl, ho, hb⟩
 have rx := Rd.own ho
 replace rf := rf.below hb
 replace rh := rh.below hb
 replace J0 := J0.below hb
 clear hb ho
 clear rt kS
 obtain ⟨p0, p1, p2, p3, p4, -⟩ := id J0.p
 rw [hc.out] at p0
 go_upto_region 5 with fail
 clear p0 p1 p2 p3 p4
 have A0 : Below vf.heap.size vf vf.drew := (Below.refl _ _).drew
 go_cut [48] (fun z wx => z = .bool false ∧ Below vf.heap.size vf wx)
 case first =>
  have KB : ∀ v, Below vf.heap.size vf v → (fun v => v.cell? ⟨gd, 0, none⟩ = some (.int .i64 e0) ∧ v.cell? ⟨gd, 1, none⟩ = some (.int .i64 e1) ∧ v.cell? ⟨gd, 2, none⟩ = some (.int .i64 e2) ∧ v.cell? ⟨gd, 3, none⟩ = some (.int .i64 e3) ∧ v.cell? ⟨gd, 4, none⟩ = some (.int .i64 e4) ∧ v.cell? ⟨gd, 5, none⟩ = some (.bool e5) ∧ v.cell? ⟨w.heap.size, 0, none⟩ = some (.int .i64 3) ∧ v.cell? ⟨w.heap.size, 1, none⟩ = some (.bool T.n) ∧ v.cell? ⟨w.heap.size, 2, none⟩ = some (.int .u64 (M.hiN T.s : Int)) ∧ v.cell? ⟨w.heap.size, 3, none⟩ = some (.int .u64 (M.loN T.s : Int)) ∧ v.cell? ⟨w.heap.size, 4, none⟩ = some (.int .i64 T.q)) v := fun v hv => by
   obtain ⟨d0, d1, d2, d3, d4, d5, -⟩ := (J0.below hv).d
   obtain ⟨p0, p1, p2, p3, p4, -⟩ := (J0.below hv).p
   rw [hc.out] at p0
   exact ⟨d0, d1, d2, d3, d4, d5, p0, p1, p2, p3, p4⟩
  first | (go_region_held3 (fun v => v.cell? ⟨gd, 0, none⟩ = some (.int .i64 e0) ∧ v.cell? ⟨gd, 1, none⟩ = some (.int .i64 e1) ∧ v.cell? ⟨gd, 2, none⟩ = some (.int .i64 e2) ∧ v.cell? ⟨gd, 3, none⟩ = some (.int .i64 e3) ∧ v.cell? ⟨gd, 4, none⟩ = some (.int .i64 e4) ∧ v.cell? ⟨gd, 5, none⟩ = some (.bool e5) ∧ v.cell? ⟨w.heap.size, 0, none⟩ = some (.int .i64 3) ∧ v.cell? ⟨w.heap.size, 1, none⟩ = some (.bool T.n) ∧ v.cell? ⟨w.heap.size, 2, none⟩ = some (.int .u64 (M.hiN T.s : Int)) ∧ v.cell? ⟨w.heap.size, 3, none⟩ = some (.int .u64 (M.loN T.s : Int)) ∧ v.cell? ⟨w.heap.size, 4, none⟩ = some (.int .i64 T.q)) (first | with_reducible exact KB _ hb3 | with_reducible exact KB _ hb2 | with_reducible exact KB _ hb1 | with_reducible exact KB _ A0) (first | (have hq := hb2; clear hq; go_at_call 44; refine (kC _ _ _ _ _ g1 g2).mono ?_; rintro e u3 ⟨rfl, hb0⟩; have hb3 := keepC (w1 := vf) hb2 hb0; clear hb0) | (have hq := hb1; clear hq; go_at_call 50; refine (kT _ _ (by first | with_reducible rfl | with_reducible assumption)).mono ?_; rintro e u2 ⟨ha, hcp, rfl, ho2, hb0⟩; have g2 := Rd.own ho2; replace g1 := g1.below hb0; have hb2 := keepC (w1 := vf) hb1 hb0; clear hb0 ho2) | (go_at_call 45; refine (kO _).mono ?_; rintro e u1 ⟨ga, gc, rfl, ho1, hb0⟩; have g1 := Rd.own ho1; have hb1 := keepC (w1 := vf) A0 hb0; clear hb0 ho1))) | fail
  all_goals go_wp2_with fail
  all_goals go_meet
  all_goals first | exact ⟨rfl, hb3⟩ | exact ⟨by rw [hqw]; simp; omega, hb3⟩
 rename World => vg
 obtain ⟨rfl, hbx⟩ := hcut
 replace J0 := J0.below hbx
 replace rf := rf.below hbx
 replace rh := rh.below hbx
 replace rx := rx.below hbx
 clear hbx A0
 obtain ⟨p0, p1, p2, p3, p4, -⟩ := id J0.p
 go_wp2_with fail
 refine (kLx _ _ _ rx).mono ?_
 rintro e w1 ⟨ia, ic, rfl, ho, hb⟩
 have ri := Rd.own ho
 replace rh := rh.below hb
 replace J0 := J0.below hb
 clear hb ho
 go_wp2_with fail
 refine (kLh _ _ _ rh).mono ?_
 rintro e w2 ⟨ja, jc, rfl, ho, hb⟩
 have rj := Rd.own ho
 replace ri := ri.below hb
 replace J0 := J0.below hb
 clear hb ho
 go_wp2_with fail
 refine (k1 _).mono ?_
 rintro e w3 ⟨ka, kc, rfl, ho, hb⟩
 have rk := Rd.own ho
 replace ri := ri.below hb
 replace rj := rj.below hb
 replace J0 := J0.below hb
 clear hb ho
 subst hC
 have HB := hid J0.b
 have HR := hid (And.intro ri (And.intro rj rk))
 clear J0 ri rj rk p0 p1 p2 p3 p4 rf
 go_wp2_with fail
 exact bodyPost_ret (v := .tuple #[.slice ia (D A).length ic, .slice ja (D B).length jc, .slice ka (D 1).length kc]) (by simp [results, Tryd.results18, go_sem]) rfl ⟨_, _, _, _, _, _, rfl, HR.out.1, HR.out.2.1, HR.out.2.2, HB.out⟩

theorem span_cn (f : Int) (T : M.Pt) (e0 e1 e2 e3 e4 : Int) (e5 : Bool) (A B C : Nat) (w : World)
 (kE : ∀ v : World, Calls Tryd.prog 25 #[.int .i64 f] v fun e w' => e = .returned (.agg #[.int .i64 e0, .int .i64 e1, .int .i64 e2, .int .i64 e3, .int .i64 e4, .bool e5]) ∧ Below v.heap.size v w') (kO : ∀ (v : World), Calls Tryd.prog 45 #[.agg #[.int .u64 (M.hiN T.s : Int), .int .u64 (M.loN T.s : Int)]] v fun e w' => Ret v w' e (D T.s)) (F4 : Nat) (kL2 : ∀ (v : World) (ao : Option Addr) (c : Nat), Rd v ao (D T.s) → Calls Tryd.prog 20 #[.slice ao (D T.s).length c, .int .i64 2] v fun e w' => Ret v w' e (D F4)) (k2 : ∀ (v : World), Calls Tryd.prog 21 #[.int .u64 2] v fun e w' => Ret v w' e (D 2)) (k1 : ∀ (v : World), Calls Tryd.prog 21 #[.int .u64 1] v fun e w' => Ret v w' e (D 1)) (H X : Nat) (kA : ∀ (v : World) (ao bo : Option Addr) (c d : Nat), Rd v ao (D F4) → Rd v bo (D 2) → Calls Tryd.prog 19 #[.slice ao (D F4).length c, .slice bo (D 2).length d] v fun e w' => Ret v w' e (D H)) (kS : ∀ (v : World) (ao bo : Option Addr) (c d : Nat), Rd v ao (D F4) → Rd v bo (D 2) → Calls Tryd.prog 22 #[.slice ao (D F4).length c, .slice bo (D 2).length d] v fun e w' => Ret v w' e (D X)) (hc : Hid (T.c = 3)) (LD : Nat) (he1 : wrap64 (e0 - 1) = e0 - 1) (he2 : IntKind.i64.wrap (e0 - 1) = e0 - 1) (kT : ∀ (v : World) (z : Int), z = e0 - 1 → Calls Tryd.prog 50 #[.int .i64 z] v fun e w' => Ret v w' e (D LD)) (kC : ∀ (v : World) (ao bo : Option Addr) (c d : Nat), Rd v ao (D T.s) → Rd v bo (D LD) → Calls Tryd.prog 44 #[.slice ao (D T.s).length c, .slice bo (D LD).length d] v fun e w' => e = .returned (.int .i64 0) ∧ Below v.heap.size v w') (qm : Int) (hq : wrap64 (wrap64 (e1 - e0) + 1) = qm) (hqw : IntKind.i64.wrap (IntKind.i64.wrap (e1 - e0) + 1) = qm) (hqq : ¬ qm < T.q) (hqq1 : decide (qm < T.q) = false) (z : Int) (hz : wrap64 (T.q - 2) = z) (hp : ¬ 0 ≤ z) (hn : wrap64 (-z) = -z) (hn2 : IntKind.i64.wrap (-z) = -z) (kT2 : ∀ (v : World) (y : Int), y = -z → Calls Tryd.prog 50 #[.int .i64 y] v fun e w' => Ret v w' e (D C)) (hA : A = X) (hB : B = H)  :
 Calls Tryd.prog 18 #[.int .i64 f, .agg #[.int .i64 T.c, .bool T.n, .int .u64 (M.hiN T.s : Int), .int .u64 (M.loN T.s : Int), .int .i64 T.q]] w fun e w' => Sp3 w w' e A B C := by
 have b0 : Below w.heap.size w (w.alloc (.cells #[.int .i64 T.c, .bool T.n, .int .u64 (M.hiN T.s : Int), .int .u64 (M.loN T.s : Int), .int .i64 T.q] 33)) := (Below.refl _ _).alloc (Nat.le_refl _) _
 have P0 : P5 (w.alloc (.cells #[.int .i64 T.c, .bool T.n, .int .u64 (M.hiN T.s : Int), .int .u64 (M.loN T.s : Int), .int .i64 T.q] 33)) w.heap.size T := P5_new w T
 generalize hV : (w.alloc (.cells #[.int .i64 T.c, .bool T.n, .int .u64 (M.hiN T.s : Int), .int .u64 (M.loN T.s : Int), .int .i64 T.q] 33)) = v0 at *
 go_enter Tryd.func18, Tryd.ntmps18
 go_upto_region 1 with fail
 clear hV
 go_wp2_with fail
 refine (kE _).mono ?_
 rintro e v1 ⟨rfl, hb1⟩
 replace b0 := b0.trans (hb1.mono b0.size)
 replace P0 := P0.below hb1
 clear hb1 kE
 go_upto_region 2 with fail
 have bA : Below v1.heap.size v1 (v1.alloc (.cells #[.int .i64 e0, .int .i64 e1, .int .i64 e2, .int .i64 e3, .int .i64 e4, .bool e5] 56)) := (Below.refl _ _).alloc (Nat.le_refl _) _
 have J0 : Cv w (v1.alloc (.cells #[.int .i64 e0, .int .i64 e1, .int .i64 e2, .int .i64 e3, .int .i64 e4, .bool e5] 56)) v1.heap.size e0 e1 e2 e3 e4 e5 T := ⟨b0.trans (bA.mono b0.size), D6_new v1 _ _ _ _ _ _ _, P0.below bA⟩
 clear bA b0 P0
 generalize (v1.alloc (.cells #[.int .i64 e0, .int .i64 e1, .int .i64 e2, .int .i64 e3, .int .i64 e4, .bool e5] 56)) = v2 at *
 generalize v1.heap.size = gd at *
 obtain ⟨p0, p1, p2, p3, p4, -⟩ := id J0.p
 go_wp2_with fail
 refine (kO _).mono ?_
 rintro e va ⟨sa, sc, rfl, ho, hb⟩
 have rs := Rd.own ho
 replace J0 := J0.below hb
 clear hb ho
 clear p0 p1 p2 p3 p4
 go_wp2_with fail
 refine (kL2 _ _ _ rs).mono ?_
 rintro e vb ⟨fa, fc, rfl, ho, hb⟩
 have rf := Rd.own ho
 replace J0 := J0.below hb
 clear hb ho
 clear rs kL2
 go_wp2_with fail
 refine (k2 _).mono ?_
 rintro e vc ⟨ta, tc, rfl, ho, hb⟩
 have rt := Rd.own ho
 replace rf := rf.below hb
 replace J0 := J0.below hb
 clear hb ho
 go_wp2_with fail
 refine (kA _ _ _ _ _ rf rt).mono ?_
 rintro e vd ⟨ha, hc0, rfl, ho, hb⟩
 have rh := Rd.own ho
 replace rf := rf.below hb
 replace J0 := J0.below hb
 clear hb ho
 clear rt kA
 go_wp2_with fail
 refine (k2 _).mono ?_
 rintro e ve ⟨ta, tc, rfl, ho, hb⟩
 have rt := Rd.own ho
 replace rf := rf.below hb
 replace rh := rh.below hb
 replace J0 := J0.below hb
 clear hb ho
 go_wp2_with fail
 refine (kS _ _ _ _ _ rf rt).mono ?_
 rintro e vf ⟨xa, xc, rfl, ho, hb⟩
 have rx := Rd.own ho
 replace rf := rf.below hb
 replace rh := rh.below hb
 replace J0 := J0.below hb
 clear hb ho
 clear rt kS
 obtain ⟨p0, p1, p2, p3, p4, -⟩ := id J0.p
 rw [hc.out] at p0
 go_upto_region 5 with fail
 clear p0 p1 p2 p3 p4
 have A0 : Below vf.heap.size vf vf.drew := (Below.refl _ _).drew
 go_cut [48] (fun z wx => z = .bool false ∧ Below vf.heap.size vf wx)
 case first =>
  have KB : ∀ v, Below vf.heap.size vf v → (fun v => v.cell? ⟨gd, 0, none⟩ = some (.int .i64 e0) ∧ v.cell? ⟨gd, 1, none⟩ = some (.int .i64 e1) ∧ v.cell? ⟨gd, 2, none⟩ = some (.int .i64 e2) ∧ v.cell? ⟨gd, 3, none⟩ = some (.int .i64 e3) ∧ v.cell? ⟨gd, 4, none⟩ = some (.int .i64 e4) ∧ v.cell? ⟨gd, 5, none⟩ = some (.bool e5) ∧ v.cell? ⟨w.heap.size, 0, none⟩ = some (.int .i64 3) ∧ v.cell? ⟨w.heap.size, 1, none⟩ = some (.bool T.n) ∧ v.cell? ⟨w.heap.size, 2, none⟩ = some (.int .u64 (M.hiN T.s : Int)) ∧ v.cell? ⟨w.heap.size, 3, none⟩ = some (.int .u64 (M.loN T.s : Int)) ∧ v.cell? ⟨w.heap.size, 4, none⟩ = some (.int .i64 T.q)) v := fun v hv => by
   obtain ⟨d0, d1, d2, d3, d4, d5, -⟩ := (J0.below hv).d
   obtain ⟨p0, p1, p2, p3, p4, -⟩ := (J0.below hv).p
   rw [hc.out] at p0
   exact ⟨d0, d1, d2, d3, d4, d5, p0, p1, p2, p3, p4⟩
  first | (go_region_held3 (fun v => v.cell? ⟨gd, 0, none⟩ = some (.int .i64 e0) ∧ v.cell? ⟨gd, 1, none⟩ = some (.int .i64 e1) ∧ v.cell? ⟨gd, 2, none⟩ = some (.int .i64 e2) ∧ v.cell? ⟨gd, 3, none⟩ = some (.int .i64 e3) ∧ v.cell? ⟨gd, 4, none⟩ = some (.int .i64 e4) ∧ v.cell? ⟨gd, 5, none⟩ = some (.bool e5) ∧ v.cell? ⟨w.heap.size, 0, none⟩ = some (.int .i64 3) ∧ v.cell? ⟨w.heap.size, 1, none⟩ = some (.bool T.n) ∧ v.cell? ⟨w.heap.size, 2, none⟩ = some (.int .u64 (M.hiN T.s : Int)) ∧ v.cell? ⟨w.heap.size, 3, none⟩ = some (.int .u64 (M.loN T.s : Int)) ∧ v.cell? ⟨w.heap.size, 4, none⟩ = some (.int .i64 T.q)) (first | with_reducible exact KB _ hb3 | with_reducible exact KB _ hb2 | with_reducible exact KB _ hb1 | with_reducible exact KB _ A0) (first | (have hq := hb2; clear hq; go_at_call 44; refine (kC _ _ _ _ _ g1 g2).mono ?_; rintro e u3 ⟨rfl, hb0⟩; have hb3 := keepC (w1 := vf) hb2 hb0; clear hb0) | (have hq := hb1; clear hq; go_at_call 50; refine (kT _ _ (by first | with_reducible rfl | with_reducible assumption)).mono ?_; rintro e u2 ⟨ha, hcp, rfl, ho2, hb0⟩; have g2 := Rd.own ho2; replace g1 := g1.below hb0; have hb2 := keepC (w1 := vf) hb1 hb0; clear hb0 ho2) | (go_at_call 45; refine (kO _).mono ?_; rintro e u1 ⟨ga, gc, rfl, ho1, hb0⟩; have g1 := Rd.own ho1; have hb1 := keepC (w1 := vf) A0 hb0; clear hb0 ho1))) | fail
  all_goals go_wp2_with fail
  all_goals go_meet
  all_goals first | exact ⟨rfl, hb3⟩ | exact ⟨by rw [hqw]; simp; omega, hb3⟩
 rename World => vg
 obtain ⟨rfl, hbx⟩ := hcut
 replace J0 := J0.below hbx
 replace rf := rf.below hbx
 replace rh := rh.below hbx
 replace rx := rx.below hbx
 clear hbx A0
 obtain ⟨p0, p1, p2, p3, p4, -⟩ := id J0.p
 go_wp2_with fail
 refine (kT2 _ _ (by first | with_reducible rfl | with_reducible assumption)).mono ?_
 rintro e w1 ⟨ka, kc, rfl, ho, hb⟩
 have rk := Rd.own ho
 replace rx := rx.below hb
 replace rh := rh.below hb
 replace J0 := J0.below hb
 clear hb ho
 subst hA
 subst hB
 have HB := hid J0.b
 have HR := hid (And.intro rx (And.intro rh rk))
 clear J0 rx rh rk p0 p1 p2 p3 p4 rf
 go_wp2_with fail
 exact bodyPost_ret (v := .tuple #[.slice xa (D A).length xc, .slice ha (D B).length hc0, .slice ka (D C).length kc]) (by simp [results, Tryd.results18, go_sem]) rfl ⟨_, _, _, _, _, _, rfl, HR.out.1, HR.out.2.1, HR.out.2.2, HB.out⟩

theorem span_dp (f : Int) (T : M.Pt) (e0 e1 e2 e3 e4 : Int) (e5 : Bool) (A B C : Nat) (w : World)
 (kE : ∀ v : World, Calls Tryd.prog 25 #[.int .i64 f] v fun e w' => e = .returned (.agg #[.int .i64 e0, .int .i64 e1, .int .i64 e2, .int .i64 e3, .int .i64 e4, .bool e5]) ∧ Below v.heap.size v w') (kO : ∀ (v : World), Calls Tryd.prog 45 #[.agg #[.int .u64 (M.hiN T.s : Int), .int .u64 (M.loN T.s : Int)]] v fun e w' => Ret v w' e (D T.s)) (F4 : Nat) (kL2 : ∀ (v : World) (ao : Option Addr) (c : Nat), Rd v ao (D T.s) → Calls Tryd.prog 20 #[.slice ao (D T.s).length c, .int .i64 2] v fun e w' => Ret v w' e (D F4)) (k2 : ∀ (v : World), Calls Tryd.prog 21 #[.int .u64 2] v fun e w' => Ret v w' e (D 2)) (k1 : ∀ (v : World), Calls Tryd.prog 21 #[.int .u64 1] v fun e w' => Ret v w' e (D 1)) (H X : Nat) (kA : ∀ (v : World) (ao bo : Option Addr) (c d : Nat), Rd v ao (D F4) → Rd v bo (D 2) → Calls Tryd.prog 19 #[.slice ao (D F4).length c, .slice bo (D 2).length d] v fun e w' => Ret v w' e (D H)) (kS : ∀ (v : World) (ao bo : Option Addr) (c d : Nat), Rd v ao (D F4) → Rd v bo (D 2) → Calls Tryd.prog 22 #[.slice ao (D F4).length c, .slice bo (D 2).length d] v fun e w' => Ret v w' e (D X)) (hc : Hid (T.c = 3)) (LD : Nat) (he1 : wrap64 (e0 - 1) = e0 - 1) (he2 : IntKind.i64.wrap (e0 - 1) = e0 - 1) (kT : ∀ (v : World) (z : Int), z = e0 - 1 → Calls Tryd.prog 50 #[.int .i64 z] v fun e w' => Ret v w' e (D LD)) (kC : ∀ (v : World) (ao bo : Option Addr) (c d : Nat), Rd v ao (D T.s) → Rd v bo (D LD) → Calls Tryd.prog 44 #[.slice ao (D T.s).length c, .slice bo (D LD).length d] v fun e w' => e = .returned (.int .i64 0) ∧ Below v.heap.size v w') (qm : Int) (hq : wrap64 (wrap64 (e1 - e0) + 1) = qm) (hqw : IntKind.i64.wrap (IntKind.i64.wrap (e1 - e0) + 1) = qm) (hqq : qm < T.q) (Y : Nat) (kS1 : ∀ (v : World) (ao bo : Option Addr) (c d : Nat), Rd v ao (D F4) → Rd v bo (D 1) → Calls Tryd.prog 22 #[.slice ao (D F4).length c, .slice bo (D 1).length d] v fun e w' => Ret v w' e (D Y)) (z : Int) (hz : wrap64 (T.q - 2) = z) (hp : 0 ≤ z) (kLx : ∀ (v : World) (ao : Option Addr) (c : Nat), Rd v ao (D Y) → Calls Tryd.prog 20 #[.slice ao (D Y).length c, .int .i64 z] v fun e w' => Ret v w' e (D A)) (kLh : ∀ (v : World) (ao : Option Addr) (c : Nat), Rd v ao (D H) → Calls Tryd.prog 20 #[.slice ao (D H).length c, .int .i64 z] v fun e w' => Ret v w' e (D B)) (hC : C = 1)  :
 Calls Tryd.prog 18 #[.int .i64 f, .agg #[.int .i64 T.c, .bool T.n, .int .u64 (M.hiN T.s : Int), .int .u64 (M.loN T.s : Int), .int .i64 T.q]] w fun e w' => Sp3 w w' e A B C := by
 have b0 : Below w.heap.size w (w.alloc (.cells #[.int .i64 T.c, .bool T.n, .int .u64 (M.hiN T.s : Int), .int .u64 (M.loN T.s : Int), .int .i64 T.q] 33)) := (Below.refl _ _).alloc (Nat.le_refl _) _
 have P0 : P5 (w.alloc (.cells #[.int .i64 T.c, .bool T.n, .int .u64 (M.hiN T.s : Int), .int .u64 (M.loN T.s : Int), .int .i64 T.q] 33)) w.heap.size T := P5_new w T
 generalize hV : (w.alloc (.cells #[.int .i64 T.c, .bool T.n, .int .u64 (M.hiN T.s : Int), .int .u64 (M.loN T.s : Int), .int .i64 T.q] 33)) = v0 at *
 go_enter Tryd.func18, Tryd.ntmps18
 go_upto_region 1 with fail
 clear hV
 go_wp2_with fail
 refine (kE _).mono ?_
 rintro e v1 ⟨rfl, hb1⟩
 replace b0 := b0.trans (hb1.mono b0.size)
 replace P0 := P0.below hb1
 clear hb1 kE
 go_upto_region 2 with fail
 have bA : Below v1.heap.size v1 (v1.alloc (.cells #[.int .i64 e0, .int .i64 e1, .int .i64 e2, .int .i64 e3, .int .i64 e4, .bool e5] 56)) := (Below.refl _ _).alloc (Nat.le_refl _) _
 have J0 : Cv w (v1.alloc (.cells #[.int .i64 e0, .int .i64 e1, .int .i64 e2, .int .i64 e3, .int .i64 e4, .bool e5] 56)) v1.heap.size e0 e1 e2 e3 e4 e5 T := ⟨b0.trans (bA.mono b0.size), D6_new v1 _ _ _ _ _ _ _, P0.below bA⟩
 clear bA b0 P0
 generalize (v1.alloc (.cells #[.int .i64 e0, .int .i64 e1, .int .i64 e2, .int .i64 e3, .int .i64 e4, .bool e5] 56)) = v2 at *
 generalize v1.heap.size = gd at *
 obtain ⟨p0, p1, p2, p3, p4, -⟩ := id J0.p
 go_wp2_with fail
 refine (kO _).mono ?_
 rintro e va ⟨sa, sc, rfl, ho, hb⟩
 have rs := Rd.own ho
 replace J0 := J0.below hb
 clear hb ho
 clear p0 p1 p2 p3 p4
 go_wp2_with fail
 refine (kL2 _ _ _ rs).mono ?_
 rintro e vb ⟨fa, fc, rfl, ho, hb⟩
 have rf := Rd.own ho
 replace J0 := J0.below hb
 clear hb ho
 clear rs kL2
 go_wp2_with fail
 refine (k2 _).mono ?_
 rintro e vc ⟨ta, tc, rfl, ho, hb⟩
 have rt := Rd.own ho
 replace rf := rf.below hb
 replace J0 := J0.below hb
 clear hb ho
 go_wp2_with fail
 refine (kA _ _ _ _ _ rf rt).mono ?_
 rintro e vd ⟨ha, hc0, rfl, ho, hb⟩
 have rh := Rd.own ho
 replace rf := rf.below hb
 replace J0 := J0.below hb
 clear hb ho
 clear rt kA
 go_wp2_with fail
 refine (k2 _).mono ?_
 rintro e ve ⟨ta, tc, rfl, ho, hb⟩
 have rt := Rd.own ho
 replace rf := rf.below hb
 replace rh := rh.below hb
 replace J0 := J0.below hb
 clear hb ho
 go_wp2_with fail
 refine (kS _ _ _ _ _ rf rt).mono ?_
 rintro e vf ⟨xa, xc, rfl, ho, hb⟩
 have rx := Rd.own ho
 replace rf := rf.below hb
 replace rh := rh.below hb
 replace J0 := J0.below hb
 clear hb ho
 clear rt kS
 obtain ⟨p0, p1, p2, p3, p4, -⟩ := id J0.p
 rw [hc.out] at p0
 go_upto_region 5 with fail
 clear p0 p1 p2 p3 p4
 have A0 : Below vf.heap.size vf vf.drew := (Below.refl _ _).drew
 go_cut [48] (fun z wx => z = .bool true ∧ Below vf.heap.size vf wx)
 case first =>
  have KB : ∀ v, Below vf.heap.size vf v → (fun v => v.cell? ⟨gd, 0, none⟩ = some (.int .i64 e0) ∧ v.cell? ⟨gd, 1, none⟩ = some (.int .i64 e1) ∧ v.cell? ⟨gd, 2, none⟩ = some (.int .i64 e2) ∧ v.cell? ⟨gd, 3, none⟩ = some (.int .i64 e3) ∧ v.cell? ⟨gd, 4, none⟩ = some (.int .i64 e4) ∧ v.cell? ⟨gd, 5, none⟩ = some (.bool e5) ∧ v.cell? ⟨w.heap.size, 0, none⟩ = some (.int .i64 3) ∧ v.cell? ⟨w.heap.size, 1, none⟩ = some (.bool T.n) ∧ v.cell? ⟨w.heap.size, 2, none⟩ = some (.int .u64 (M.hiN T.s : Int)) ∧ v.cell? ⟨w.heap.size, 3, none⟩ = some (.int .u64 (M.loN T.s : Int)) ∧ v.cell? ⟨w.heap.size, 4, none⟩ = some (.int .i64 T.q)) v := fun v hv => by
   obtain ⟨d0, d1, d2, d3, d4, d5, -⟩ := (J0.below hv).d
   obtain ⟨p0, p1, p2, p3, p4, -⟩ := (J0.below hv).p
   rw [hc.out] at p0
   exact ⟨d0, d1, d2, d3, d4, d5, p0, p1, p2, p3, p4⟩
  first | (go_region_held3 (fun v => v.cell? ⟨gd, 0, none⟩ = some (.int .i64 e0) ∧ v.cell? ⟨gd, 1, none⟩ = some (.int .i64 e1) ∧ v.cell? ⟨gd, 2, none⟩ = some (.int .i64 e2) ∧ v.cell? ⟨gd, 3, none⟩ = some (.int .i64 e3) ∧ v.cell? ⟨gd, 4, none⟩ = some (.int .i64 e4) ∧ v.cell? ⟨gd, 5, none⟩ = some (.bool e5) ∧ v.cell? ⟨w.heap.size, 0, none⟩ = some (.int .i64 3) ∧ v.cell? ⟨w.heap.size, 1, none⟩ = some (.bool T.n) ∧ v.cell? ⟨w.heap.size, 2, none⟩ = some (.int .u64 (M.hiN T.s : Int)) ∧ v.cell? ⟨w.heap.size, 3, none⟩ = some (.int .u64 (M.loN T.s : Int)) ∧ v.cell? ⟨w.heap.size, 4, none⟩ = some (.int .i64 T.q)) (first | with_reducible exact KB _ hb3 | with_reducible exact KB _ hb2 | with_reducible exact KB _ hb1 | with_reducible exact KB _ A0) (first | (have hq := hb2; clear hq; go_at_call 44; refine (kC _ _ _ _ _ g1 g2).mono ?_; rintro e u3 ⟨rfl, hb0⟩; have hb3 := keepC (w1 := vf) hb2 hb0; clear hb0) | (have hq := hb1; clear hq; go_at_call 50; refine (kT _ _ (by first | with_reducible rfl | with_reducible assumption)).mono ?_; rintro e u2 ⟨ha, hcp, rfl, ho2, hb0⟩; have g2 := Rd.own ho2; replace g1 := g1.below hb0; have hb2 := keepC (w1 := vf) hb1 hb0; clear hb0 ho2) | (go_at_call 45; refine (kO _).mono ?_; rintro e u1 ⟨ga, gc, rfl, ho1, hb0⟩; have g1 := Rd.own ho1; have hb1 := keepC (w1 := vf) A0 hb0; clear hb0 ho1))) | fail
  all_goals go_wp2_with fail
  all_goals go_meet
  all_goals first | exact ⟨rfl, hb3⟩ | exact ⟨by rw [hqw]; simp; omega, hb3⟩
 rename World => vg
 obtain ⟨rfl, hbx⟩ := hcut
 replace J0 := J0.below hbx
 replace rf := rf.below hbx
 replace rh := rh.below hbx
 replace rx := rx.below hbx
 clear hbx A0
 go_wp2_with fail
 refine (k1 _).mono ?_
 rintro e vh ⟨ta, tc, rfl, ho, hb⟩
 have rt := Rd.own ho
 replace rf := rf.below hb
 replace rh := rh.below hb
 replace rx := rx.below hb
 replace J0 := J0.below hb
 clear hb ho
 go_wp2_with fail
 refine (kS1 _ _ _ _ _ rf rt).mono ?_
 rintro e vi ⟨ya, yc, rfl, ho, hb⟩
 have ry := Rd.own ho
 replace rh := rh.below hb
 replace J0 := J0.below hb
 clear hb ho
 clear rt rx kS1
 obtain ⟨p0, p1, p2, p3, p4, -⟩ := id J0.p
 go_wp2_with fail
 refine (kLx _ _ _ ry).mono ?_
 rintro e w1 ⟨ia, ic, rfl, ho, hb⟩
 have ri := Rd.own ho
 replace rh := rh.below hb
 replace J0 := J0.below hb
 clear hb ho
 go_wp2_with fail
 refine (kLh _ _ _ rh).mono ?_
 rintro e w2 ⟨ja, jc, rfl, ho, hb⟩
 have rj := Rd.own ho
 replace ri := ri.below hb
 replace J0 := J0.below hb
 clear hb ho
 go_wp2_with fail
 refine (k1 _).mono ?_
 rintro e w3 ⟨ka, kc, rfl, ho, hb⟩
 have rk := Rd.own ho
 replace ri := ri.below hb
 replace rj := rj.below hb
 replace J0 := J0.below hb
 clear hb ho
 subst hC
 have HB := hid J0.b
 have HR := hid (And.intro ri (And.intro rj rk))
 clear J0 ri rj rk p0 p1 p2 p3 p4 rf
 go_wp2_with fail
 exact bodyPost_ret (v := .tuple #[.slice ia (D A).length ic, .slice ja (D B).length jc, .slice ka (D 1).length kc]) (by simp [results, Tryd.results18, go_sem]) rfl ⟨_, _, _, _, _, _, rfl, HR.out.1, HR.out.2.1, HR.out.2.2, HB.out⟩

theorem span_dn (f : Int) (T : M.Pt) (e0 e1 e2 e3 e4 : Int) (e5 : Bool) (A B C : Nat) (w : World)
 (kE : ∀ v : World, Calls Tryd.prog 25 #[.int .i64 f] v fun e w' => e = .returned (.agg #[.int .i64 e0, .int .i64 e1, .int .i64 e2, .int .i64 e3, .int .i64 e4, .bool e5]) ∧ Below v.heap.size v w') (kO : ∀ (v : World), Calls Tryd.prog 45 #[.agg #[.int .u64 (M.hiN T.s : Int), .int .u64 (M.loN T.s : Int)]] v fun e w' => Ret v w' e (D T.s)) (F4 : Nat) (kL2 : ∀ (v : World) (ao : Option Addr) (c : Nat), Rd v ao (D T.s) → Calls Tryd.prog 20 #[.slice ao (D T.s).length c, .int .i64 2] v fun e w' => Ret v w' e (D F4)) (k2 : ∀ (v : World), Calls Tryd.prog 21 #[.int .u64 2] v fun e w' => Ret v w' e (D 2)) (k1 : ∀ (v : World), Calls Tryd.prog 21 #[.int .u64 1] v fun e w' => Ret v w' e (D 1)) (H X : Nat) (kA : ∀ (v : World) (ao bo : Option Addr) (c d : Nat), Rd v ao (D F4) → Rd v bo (D 2) → Calls Tryd.prog 19 #[.slice ao (D F4).length c, .slice bo (D 2).length d] v fun e w' => Ret v w' e (D H)) (kS : ∀ (v : World) (ao bo : Option Addr) (c d : Nat), Rd v ao (D F4) → Rd v bo (D 2) → Calls Tryd.prog 22 #[.slice ao (D F4).length c, .slice bo (D 2).length d] v fun e w' => Ret v w' e (D X)) (hc : Hid (T.c = 3)) (LD : Nat) (he1 : wrap64 (e0 - 1) = e0 - 1) (he2 : IntKind.i64.wrap (e0 - 1) = e0 - 1) (kT : ∀ (v : World) (z : Int), z = e0 - 1 → Calls Tryd.prog 50 #[.int .i64 z] v fun e w' => Ret v w' e (D LD)) (kC : ∀ (v : World) (ao bo : Option Addr) (c d : Nat), Rd v ao (D T.s) → Rd v bo (D LD) → Calls Tryd.prog 44 #[.slice ao (D T.s).length c, .slice bo (D LD).length d] v fun e w' => e = .returned (.int .i64 0) ∧ Below v.heap.size v w') (qm : Int) (hq : wrap64 (wrap64 (e1 - e0) + 1) = qm) (hqw : IntKind.i64.wrap (IntKind.i64.wrap (e1 - e0) + 1) = qm) (hqq : qm < T.q) (Y : Nat) (kS1 : ∀ (v : World) (ao bo : Option Addr) (c d : Nat), Rd v ao (D F4) → Rd v bo (D 1) → Calls Tryd.prog 22 #[.slice ao (D F4).length c, .slice bo (D 1).length d] v fun e w' => Ret v w' e (D Y)) (z : Int) (hz : wrap64 (T.q - 2) = z) (hp : ¬ 0 ≤ z) (hn : wrap64 (-z) = -z) (hn2 : IntKind.i64.wrap (-z) = -z) (kT2 : ∀ (v : World) (y : Int), y = -z → Calls Tryd.prog 50 #[.int .i64 y] v fun e w' => Ret v w' e (D C)) (hA : A = Y) (hB : B = H)  :
 Calls Tryd.prog 18 #[.int .i64 f, .agg #[.int .i64 T.c, .bool T.n, .int .u64 (M.hiN T.s : Int), .int .u64 (M.loN T.s : Int), .int .i64 T.q]] w fun e w' => Sp3 w w' e A B C := by
 have b0 : Below w.heap.size w (w.alloc (.cells #[.int .i64 T.c, .bool T.n, .int .u64 (M.hiN T.s : Int), .int .u64 (M.loN T.s : Int), .int .i64 T.q] 33)) := (Below.refl _ _).alloc (Nat.le_refl _) _
 have P0 : P5 (w.alloc (.cells #[.int .i64 T.c, .bool T.n, .int .u64 (M.hiN T.s : Int), .int .u64 (M.loN T.s : Int), .int .i64 T.q] 33)) w.heap.size T := P5_new w T
 generalize hV : (w.alloc (.cells #[.int .i64 T.c, .bool T.n, .int .u64 (M.hiN T.s : Int), .int .u64 (M.loN T.s : Int), .int .i64 T.q] 33)) = v0 at *
 go_enter Tryd.func18, Tryd.ntmps18
 go_upto_region 1 with fail
 clear hV
 go_wp2_with fail
 refine (kE _).mono ?_
 rintro e v1 ⟨rfl, hb1⟩
 replace b0 := b0.trans (hb1.mono b0.size)
 replace P0 := P0.below hb1
 clear hb1 kE
 go_upto_region 2 with fail
 have bA : Below v1.heap.size v1 (v1.alloc (.cells #[.int .i64 e0, .int .i64 e1, .int .i64 e2, .int .i64 e3, .int .i64 e4, .bool e5] 56)) := (Below.refl _ _).alloc (Nat.le_refl _) _
 have J0 : Cv w (v1.alloc (.cells #[.int .i64 e0, .int .i64 e1, .int .i64 e2, .int .i64 e3, .int .i64 e4, .bool e5] 56)) v1.heap.size e0 e1 e2 e3 e4 e5 T := ⟨b0.trans (bA.mono b0.size), D6_new v1 _ _ _ _ _ _ _, P0.below bA⟩
 clear bA b0 P0
 generalize (v1.alloc (.cells #[.int .i64 e0, .int .i64 e1, .int .i64 e2, .int .i64 e3, .int .i64 e4, .bool e5] 56)) = v2 at *
 generalize v1.heap.size = gd at *
 obtain ⟨p0, p1, p2, p3, p4, -⟩ := id J0.p
 go_wp2_with fail
 refine (kO _).mono ?_
 rintro e va ⟨sa, sc, rfl, ho, hb⟩
 have rs := Rd.own ho
 replace J0 := J0.below hb
 clear hb ho
 clear p0 p1 p2 p3 p4
 go_wp2_with fail
 refine (kL2 _ _ _ rs).mono ?_
 rintro e vb ⟨fa, fc, rfl, ho, hb⟩
 have rf := Rd.own ho
 replace J0 := J0.below hb
 clear hb ho
 clear rs kL2
 go_wp2_with fail
 refine (k2 _).mono ?_
 rintro e vc ⟨ta, tc, rfl, ho, hb⟩
 have rt := Rd.own ho
 replace rf := rf.below hb
 replace J0 := J0.below hb
 clear hb ho
 go_wp2_with fail
 refine (kA _ _ _ _ _ rf rt).mono ?_
 rintro e vd ⟨ha, hc0, rfl, ho, hb⟩
 have rh := Rd.own ho
 replace rf := rf.below hb
 replace J0 := J0.below hb
 clear hb ho
 clear rt kA
 go_wp2_with fail
 refine (k2 _).mono ?_
 rintro e ve ⟨ta, tc, rfl, ho, hb⟩
 have rt := Rd.own ho
 replace rf := rf.below hb
 replace rh := rh.below hb
 replace J0 := J0.below hb
 clear hb ho
 go_wp2_with fail
 refine (kS _ _ _ _ _ rf rt).mono ?_
 rintro e vf ⟨xa, xc, rfl, ho, hb⟩
 have rx := Rd.own ho
 replace rf := rf.below hb
 replace rh := rh.below hb
 replace J0 := J0.below hb
 clear hb ho
 clear rt kS
 obtain ⟨p0, p1, p2, p3, p4, -⟩ := id J0.p
 rw [hc.out] at p0
 go_upto_region 5 with fail
 clear p0 p1 p2 p3 p4
 have A0 : Below vf.heap.size vf vf.drew := (Below.refl _ _).drew
 go_cut [48] (fun z wx => z = .bool true ∧ Below vf.heap.size vf wx)
 case first =>
  have KB : ∀ v, Below vf.heap.size vf v → (fun v => v.cell? ⟨gd, 0, none⟩ = some (.int .i64 e0) ∧ v.cell? ⟨gd, 1, none⟩ = some (.int .i64 e1) ∧ v.cell? ⟨gd, 2, none⟩ = some (.int .i64 e2) ∧ v.cell? ⟨gd, 3, none⟩ = some (.int .i64 e3) ∧ v.cell? ⟨gd, 4, none⟩ = some (.int .i64 e4) ∧ v.cell? ⟨gd, 5, none⟩ = some (.bool e5) ∧ v.cell? ⟨w.heap.size, 0, none⟩ = some (.int .i64 3) ∧ v.cell? ⟨w.heap.size, 1, none⟩ = some (.bool T.n) ∧ v.cell? ⟨w.heap.size, 2, none⟩ = some (.int .u64 (M.hiN T.s : Int)) ∧ v.cell? ⟨w.heap.size, 3, none⟩ = some (.int .u64 (M.loN T.s : Int)) ∧ v.cell? ⟨w.heap.size, 4, none⟩ = some (.int .i64 T.q)) v := fun v hv => by
   obtain ⟨d0, d1, d2, d3, d4, d5, -⟩ := (J0.below hv).d
   obtain ⟨p0, p1, p2, p3, p4, -⟩ := (J0.below hv).p
   rw [hc.out] at p0
   exact ⟨d0, d1, d2, d3, d4, d5, p0, p1, p2, p3, p4⟩
  first | (go_region_held3 (fun v => v.cell? ⟨gd, 0, none⟩ = some (.int .i64 e0) ∧ v.cell? ⟨gd, 1, none⟩ = some (.int .i64 e1) ∧ v.cell? ⟨gd, 2, none⟩ = some (.int .i64 e2) ∧ v.cell? ⟨gd, 3, none⟩ = some (.int .i64 e3) ∧ v.cell? ⟨gd, 4, none⟩ = some (.int .i64 e4) ∧ v.cell? ⟨gd, 5, none⟩ = some (.bool e5) ∧ v.cell? ⟨w.heap.size, 0, none⟩ = some (.int .i64 3) ∧ v.cell? ⟨w.heap.size, 1, none⟩ = some (.bool T.n) ∧ v.cell? ⟨w.heap.size, 2, none⟩ = some (.int .u64 (M.hiN T.s : Int)) ∧ v.cell? ⟨w.heap.size, 3, none⟩ = some (.int .u64 (M.loN T.s : Int)) ∧ v.cell? ⟨w.heap.size, 4, none⟩ = some (.int .i64 T.q)) (first | with_reducible exact KB _ hb3 | with_reducible exact KB _ hb2 | with_reducible exact KB _ hb1 | with_reducible exact KB _ A0) (first | (have hq := hb2; clear hq; go_at_call 44; refine (kC _ _ _ _ _ g1 g2).mono ?_; rintro e u3 ⟨rfl, hb0⟩; have hb3 := keepC (w1 := vf) hb2 hb0; clear hb0) | (have hq := hb1; clear hq; go_at_call 50; refine (kT _ _ (by first | with_reducible rfl | with_reducible assumption)).mono ?_; rintro e u2 ⟨ha, hcp, rfl, ho2, hb0⟩; have g2 := Rd.own ho2; replace g1 := g1.below hb0; have hb2 := keepC (w1 := vf) hb1 hb0; clear hb0 ho2) | (go_at_call 45; refine (kO _).mono ?_; rintro e u1 ⟨ga, gc, rfl, ho1, hb0⟩; have g1 := Rd.own ho1; have hb1 := keepC (w1 := vf) A0 hb0; clear hb0 ho1))) | fail
  all_goals go_wp2_with fail
  all_goals go_meet
  all_goals first | exact ⟨rfl, hb3⟩ | exact ⟨by rw [hqw]; simp; omega, hb3⟩
 rename World => vg
 obtain ⟨rfl, hbx⟩ := hcut
 replace J0 := J0.below hbx
 replace rf := rf.below hbx
 replace rh := rh.below hbx
 replace rx := rx.below hbx
 clear hbx A0
 go_wp2_with fail
 refine (k1 _).mono ?_
 rintro e vh ⟨ta, tc, rfl, ho, hb⟩
 have rt := Rd.own ho
 replace rf := rf.below hb
 replace rh := rh.below hb
 replace rx := rx.below hb
 replace J0 := J0.below hb
 clear hb ho
 go_wp2_with fail
 refine (kS1 _ _ _ _ _ rf rt).mono ?_
 rintro e vi ⟨ya, yc, rfl, ho, hb⟩
 have ry := Rd.own ho
 replace rh := rh.below hb
 replace J0 := J0.below hb
 clear hb ho
 clear rt rx kS1
 obtain ⟨p0, p1, p2, p3, p4, -⟩ := id J0.p
 go_wp2_with fail
 refine (kT2 _ _ (by first | with_reducible rfl | with_reducible assumption)).mono ?_
 rintro e w1 ⟨ka, kc, rfl, ho, hb⟩
 have rk := Rd.own ho
 replace ry := ry.below hb
 replace rh := rh.below hb
 replace J0 := J0.below hb
 clear hb ho
 subst hA
 subst hB
 have HB := hid J0.b
 have HR := hid (And.intro ry (And.intro rh rk))
 clear J0 ry rh rk p0 p1 p2 p3 p4 rf
 go_wp2_with fail
 exact bodyPost_ret (v := .tuple #[.slice ya (D A).length yc, .slice ha (D B).length hc0, .slice ka (D C).length kc]) (by simp [results, Tryd.results18, go_sem]) rfl ⟨_, _, _, _, _, _, rfl, HR.out.1, HR.out.2.1, HR.out.2.2, HB.out⟩

end Go.Proofs.YtogkkecnmlnajaaDoor
