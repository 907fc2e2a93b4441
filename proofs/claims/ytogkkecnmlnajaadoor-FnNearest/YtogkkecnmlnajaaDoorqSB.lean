import Derived.Test.YtogkkecnmlnajaaDoorqBnZ
set_option maxHeartbeats 8000000
set_option maxRecDepth 100000
namespace Go.Proofs.YtogkkecnmlnajaaDoor
open Go.RowKit
set_option linter.unusedVariables false
set_option maxRecDepth 100000
theorem span_bp (f : Int) (T : M.Pt) (e0 e1 e2 e3 e4 : Int) (e5 : Bool) (A B C : Nat) (w : World)
 (kE : ∀ v : World, Calls Tryd.prog 25 #[.int .i64 f] v fun e w' => e = .returned (.agg #[.int .i64 e0, .int .i64 e1, .int .i64 e2, .int .i64 e3, .int .i64 e4, .bool e5]) ∧ Below v.heap.size v w') (kO : ∀ (v : World), Calls Tryd.prog 45 #[.agg #[.int .u64 (M.hiN T.s : Int), .int .u64 (M.loN T.s : Int)]] v fun e w' => Ret v w' e (D T.s)) (F4 : Nat) (kL2 : ∀ (v : World) (ao : Option Addr) (c : Nat), Rd v ao (D T.s) → Calls Tryd.prog 20 #[.slice ao (D T.s).length c, .int .i64 2] v fun e w' => Ret v w' e (D F4)) (k2 : ∀ (v : World), Calls Tryd.prog 21 #[.int .u64 2] v fun e w' => Ret v w' e (D 2)) (k1 : ∀ (v : World), Calls Tryd.prog 21 #[.int .u64 1] v fun e w' => Ret v w' e (D 1)) (H X : Nat) (kA : ∀ (v : World) (ao bo : Option Addr) (c d : Nat), Rd v ao (D F4) → Rd v bo (D 2) → Calls Tryd.prog 19 #[.slice ao (D F4).length c, .slice bo (D 2).length d] v fun e w' => Ret v w' e (D H)) (kS : ∀ (v : World) (ao bo : Option Addr) (c d : Nat), Rd v ao (D F4) → Rd v bo (D 2) → Calls Tryd.prog 22 #[.slice ao (D F4).length c, .slice bo (D 2).length d] v fun e w' => Ret v w' e (D X)) (hc : Hid (T.c = 3)) (LD : Nat) (cm : Int) (he1 : wrap64 (e0 - 1) = e0 - 1) (he2 : IntKind.i64.wrap (e0 - 1) = e0 - 1) (kT : ∀ (v : World) (z : Int), z = e0 - 1 → Calls Tryd.prog 50 #[.int .i64 z] v fun e w' => Ret v w' e (D LD)) (kC : ∀ (v : World) (ao bo : Option Addr) (c d : Nat), Rd v ao (D T.s) → Rd v bo (D LD) → Calls Tryd.prog 44 #[.slice ao (D T.s).length c, .slice bo (D LD).length d] v fun e w' => e = .returned (.int .i64 cm) ∧ Below v.heap.size v w') (hcm : ¬ cm = 0) (hcm2 : (cm == 0) = false) (z : Int) (hz : wrap64 (T.q - 2) = z) (hp : 0 ≤ z) (kLx : ∀ (v : World) (ao : Option Addr) (c : Nat), Rd v ao (D X) → Calls Tryd.prog 20 #[.slice ao (D X).length c, .int .i64 z] v fun e w' => Ret v w' e (D A)) (kLh : ∀ (v : World) (ao : Option Addr) (c : Nat), Rd v ao (D H) → Calls Tryd.prog 20 #[.slice ao (D H).length c, .int .i64 z] v fun e w' => Ret v w' e (D B)) (hC : C = 1)  :
 Calls Tryd.prog 18 #[.int .i64 f, .agg #[.int .i64 T.c, .bool T.n, .int .u64 (M.hiN T.s : Int), .int .u64 (M.loN T.s : Int), .int .i64 T.q]] w fun e w' => Sp3 w w' e A B C := by
 have b0 : Below w.heap.size w (w.alloc (.cells #[.int .i64 T.c, .bool T.n, .int .u64 (M.hiN T.s : Int), .int .u64 (M.loN T.s : Int), .int .i64 T.q] 33)) := (Below.refl _ _).alloc (Nat.le_refl _) _
 have P0 : P5 (w.alloc (.cells #[.int .i64 T.c, .bool T.n, .int .u64 (M.hiN T.s : Int), .int .u64 (M.loN T.s : Int), .int .i64 T.q] 33)) w.heap.size T := P5_new w T
 generalize hV : (w.alloc (.cells #[.int .i64 T.c, .bool T.n, .int .u64 (M.hiN T.s : Int), .int .u64 (M.loN T.s : Int), .int .i64 T.q] 33)) = v0 at *
 go_enter Tryd.func18, Tryd.ntmps18
 go_upto_region 1 with fail
 clear hV
 go_wp2_with fail
 refine (kE _).mono ?_
 rintro e v1 ⟨rfl, hb1⟩
 replace b0 := b0.trans (hb1.mono b0.size)
 replace P0 := P0.below hb1
 clear hb1 kE
 go_upto_region 2 with fail
 have bA : Below v1.heap.size v1 (v1.alloc (.cells #[.int .i64 e0, .int .i64 e1, .int .i64 e2, .int .i64 e3, .int .i64 e4, .bool e5] 56)) := (Below.refl _ _).alloc (Nat.le_refl _) _
 have J0 : Cv w (v1.alloc (.cells #[.int .i64 e0, .int .i64 e1, .int .i64 e2, .int .i64 e3, .int .i64 e4, .bool e5] 56)) v1.heap.size e0 e1 e2 e3 e4 e5 T := ⟨b0.trans (bA.mono b0.size), D6_new v1 _ _ _ _ _ _ _, P0.below bA⟩
 clear bA b0 P0
 generalize (v1.alloc (.cells #[.int .i64 e0, .int .i64 e1, .int .i64 e2, .int .i64 e3, .int .i64 e4, .bool e5] 56)) = v2 at *
 generalize v1.heap.size = gd at *
 obtain ⟨p0, p1, p2, p3, p4, -⟩ := id J0.p
 go_wp2_with fail
 refine (kO _).mono ?_
 rintro e va ⟨sa, sc, rfl, ho, hb⟩
 have rs := Rd.own ho
 replace J0 := J0.below hb
 clear hb ho
 clear p0 p1 p2 p3 p4
 go_wp2_with fail
 refine (kL2 _ _ _ rs).mono ?_
 rintro e vb ⟨fa, fc, rfl, ho, hb⟩
 have rf := Rd.own ho
 replace J0 := J0.below hb
 clear hb ho
 clear rs kL2
 go_wp2_with fail
 refine (k2 _).mono ?_
 rintro e vc ⟨ta, tc, rfl, ho, hb⟩
 have rt := Rd.own ho
 replace rf := rf.below hb
 replace J0 := J0.below hb
 clear hb ho
 go_wp2_with fail
 refine (kA _ _ _ _ _ rf rt).mono ?_
 rintro e vd ⟨ha, hc0, rfl, ho, hb⟩
 have rh := Rd.own ho
 replace rf := rf.below hb
 replace J0 := J0.below hb
 clear hb ho
 clear rt kA
 go_wp2_with fail
 refine (k2 _).mono ?_
 rintro e ve ⟨ta, tc, rfl, ho, hb⟩
 have rt := Rd.own ho
 replace rf := rf.below hb
 replace rh := rh.below hb
 replace J0 := J0.below hb
 clear hb ho
 go_wp2_with fail
 refine (kS _ _ _ _ _ rf rt).mono ?_
 rintro e vf ⟨xa, xc, rfl, ho, hb⟩
 have rx := Rd.own ho
 replace rf := rf.below hb
 replace rh := rh.below hb
 replace J0 := J0.below hb
 clear hb ho
 clear rt kS
 obtain ⟨p0, p1, p2, p3, p4, -⟩ := id J0.p
 rw [hc.out] at p0
 go_upto_region 5 with fail
 clear p0 p1 p2 p3 p4
 have A0 : Below vf.heap.size vf vf.drew := (Below.refl _ _).drew
 go_cut [48] (fun z wx => z = .bool false ∧ Below vf.heap.size vf wx)
 case first =>
  obtain ⟨d0, d1, d2, d3, d4, d5, -⟩ := (J0.below A0).d
  obtain ⟨p0, p1, p2, p3, p4, -⟩ := (J0.below A0).p
  rw [hc.out] at p0
  refine wp_region_any (by kernel_rfl) ?_
  change wpAny _ _ _ _ _ _ _ (World.drew _)
  refine wpAny_take (i := 0) (v := ?_) rfl (by kernel_rfl) (by kernel_rfl) (by kernel_rfl) (fun _ _ _ h => h) (Or.inl ⟨by kernel_rfl, ?_⟩) ?_
  rotate_left
  · (intro w; first | (go_simp; done) | (go_simp; with_reducible rfl) | with_reducible rfl)
  refine wpAny_ready (rs := [1]) (by kernel_rfl) (by simp) ?_
  refine AllReady.cons rfl (fun K hK => ?_) AllReady.nil
  go_simp
  refine hK _ _ ?_
  clear hK K
  refine wpAny_take (i := 2) (v := ?_) rfl (by kernel_rfl) (by kernel_rfl) (by kernel_rfl) (fun _ _ _ h => h) (Or.inl ⟨by kernel_rfl, ?_⟩) ?_
  rotate_left
  · (intro w; first | (go_simp; done) | (go_simp; with_reducible rfl) | with_reducible rfl)
  refine wpAny_take (i := 3) (v := ?_) rfl (by kernel_rfl) (by kernel_rfl) (by kernel_rfl) (fun _ _ _ h => h) (Or.inl ⟨by kernel_rfl, ?_⟩) ?_
  rotate_left
  · (intro w; first | (go_simp; done) | (go_simp; with_reducible rfl) | with_reducible rfl)
  refine wpAny_take (i := 4) (v := ?_) rfl (by kernel_rfl) (by kernel_rfl) (by kernel_rfl) (fun _ _ _ h => h) (Or.inl ⟨by kernel_rfl, ?_⟩) ?_
  rotate_left
  · (intro w; first | (go_simp; done) | (go_simp; with_reducible rfl) | with_reducible rfl)
  refine wpAny_take (i := 7) (v := ?_) rfl (by kernel_rfl) (by kernel_rfl) (by kernel_rfl) (fun _ _ _ h => h) (Or.inl ⟨by kernel_rfl, ?_⟩) ?_
  rotate_left
  · (intro w; first | (go_simp; done) | (go_simp; with_reducible rfl) | with_reducible rfl)
  refine wpAny_ready (rs := [5, 8]) (by kernel_rfl) (by simp) ?_
  refine AllReady.cons rfl (fun K hK => ?_) (AllReady.cons rfl (fun K hK => ?_) AllReady.nil)
  · go_simp
    refine hK _ _ ?_
    clear hK K
    refine wpAny_ready (rs := [6, 8]) (by kernel_rfl) (by simp) ?_
    refine AllReady.cons rfl (fun K hK => ?_) (AllReady.cons rfl (fun K hK => ?_) AllReady.nil)
    · go_simp
      go_at_call 45; refine (kO _).mono ?_; rintro e u1 ⟨ga, gc, rfl, ho1, hb0⟩; have g1 := Rd.own ho1; have hb1 := keepC (w1 := vf) A0 hb0; clear hb0 ho1; obtain ⟨m0, m1, m2, m3, m4, m5, -⟩ := (J0.below hb1).d; obtain ⟨n0, n1, n2, n3, n4, -⟩ := (J0.below hb1).p; rw [hc.out] at n0
      go_simp
      refine hK _ _ ?_
      clear hK K
      refine wpAny_ready (rs := [8]) (by kernel_rfl) (by simp) ?_
      refine AllReady.cons rfl (fun K hK => ?_) AllReady.nil
      go_simp
      refine hK _ _ ?_
      clear hK K
      refine wpAny_take (i := 9) (v := ?_) rfl (by kernel_rfl) (by kernel_rfl) (by kernel_rfl) (fun _ _ _ h => h) (Or.inl ⟨by kernel_rfl, ?_⟩) ?_
      rotate_left
      · (intro w; first | (go_simp; done) | (go_simp; with_reducible rfl) | with_reducible rfl)
      refine wpAny_ready (rs := [10]) (by kernel_rfl) (by simp) ?_
      refine AllReady.cons rfl (fun K hK => ?_) AllReady.nil
      go_simp
      have hq := hb1; clear hq; go_at_call 50; refine (kT _ _ (by first | with_reducible rfl | with_reducible assumption)).mono ?_; rintro e u2 ⟨ha, hcp, rfl, ho2, hb0⟩; have g2 := Rd.own ho2; replace g1 := g1.below hb0; have hb2 := keepC (w1 := vf) hb1 hb0; clear hb0 ho2; obtain ⟨m0, m1, m2, m3, m4, m5, -⟩ := (J0.below hb2).d; obtain ⟨n0, n1, n2, n3, n4, -⟩ := (J0.below hb2).p; rw [hc.out] at n0
      go_simp
      refine hK _ _ ?_
      clear hK K
      refine wpAny_ready (rs := [11]) (by kernel_rfl) (by simp) ?_
      refine AllReady.cons rfl (fun K hK => ?_) AllReady.nil
      go_simp
      have hq := hb2; clear hq; go_at_call 44; refine (kC _ _ _ _ _ g1 g2).mono ?_; rintro e u3 ⟨rfl, hb0⟩; have hb3 := keepC (w1 := vf) hb2 hb0; clear hb0; obtain ⟨m0, m1, m2, m3, m4, m5, -⟩ := (J0.below hb3).d; obtain ⟨n0, n1, n2, n3, n4, -⟩ := (J0.below hb3).p; rw [hc.out] at n0
      go_simp
      refine hK _ _ ?_
      clear hK K
      refine wpAny_take (i := 12) (v := ?_) rfl (by kernel_rfl) (by kernel_rfl) (by kernel_rfl) (fun _ _ _ h => h) (Or.inl ⟨by kernel_rfl, ?_⟩) ?_
      rotate_left
      · (intro w; first | (go_simp; done) | (go_simp; with_reducible rfl) | with_reducible rfl)
      refine wpAny_take (i := 13) (v := ?_) rfl (by kernel_rfl) (by kernel_rfl) (by kernel_rfl) (fun _ _ _ h => h) (Or.inl ⟨by kernel_rfl, ?_⟩) ?_
      rotate_left
      · (intro w; first | (go_simp; done) | (go_simp; with_reducible rfl) | with_reducible rfl)
      refine wpAny_take (i := 14) (v := ?_) rfl (by kernel_rfl) (by kernel_rfl) (by kernel_rfl) (fun _ _ _ h => h) (Or.inl ⟨by kernel_rfl, ?_⟩) ?_
      rotate_left
      · (intro w; first | (go_simp; done) | (go_simp; with_reducible rfl) | with_reducible rfl)
      refine wpAny_take (i := 15) (v := undef) rfl (by kernel_rfl) (by kernel_rfl) (by kernel_rfl) (fun _ _ _ h => h) (Or.inr ⟨by kernel_rfl, rfl⟩) ?_
      refine wpAny_take (i := 16) (v := undef) rfl (by kernel_rfl) (by kernel_rfl) (by kernel_rfl) (fun _ _ _ h => h) (Or.inr ⟨by kernel_rfl, rfl⟩) ?_
      refine wpAny_take (i := 17) (v := undef) rfl (by kernel_rfl) (by kernel_rfl) (by kernel_rfl) (fun _ _ _ h => h) (Or.inr ⟨by kernel_rfl, rfl⟩) ?_
      refine wpAny_take (i := 18) (v := undef) rfl (by kernel_rfl) (by kernel_rfl) (by kernel_rfl) (fun _ _ _ h => h) (Or.inr ⟨by kernel_rfl, rfl⟩) ?_
      refine wpAny_take (i := 19) (v := undef) rfl (by kernel_rfl) (by kernel_rfl) (by kernel_rfl) (fun _ _ _ h => h) (Or.inr ⟨by kernel_rfl, rfl⟩) ?_
      refine wpAny_take (i := 20) (v := undef) rfl (by kernel_rfl) (by kernel_rfl) (by kernel_rfl) (fun _ _ _ h => h) (Or.inr ⟨by kernel_rfl, rfl⟩) ?_
      refine wpAny_take (i := 21) (v := undef) rfl (by kernel_rfl) (by kernel_rfl) (by kernel_rfl) (fun _ _ _ h => h) (Or.inr ⟨by kernel_rfl, rfl⟩) ?_
      refine wpAny_take (i := 22) (v := undef) rfl (by kernel_rfl) (by kernel_rfl) (by kernel_rfl) (fun _ _ _ h => h) (Or.inr ⟨by kernel_rfl, rfl⟩) ?_
      refine wpAny_take (i := 23) (v := undef) rfl (by kernel_rfl) (by kernel_rfl) (by kernel_rfl) (fun _ _ _ h => h) (Or.inr ⟨by kernel_rfl, rfl⟩) ?_
      refine wpAny_ready (rs := [24]) (by kernel_rfl) (by simp) ?_
      refine AllReady.cons rfl (fun K hK => ?_) AllReady.nil
      go_simp
      refine hK _ _ ?_
      clear hK K
      refine wpAny_done (by kernel_rfl) ?_ _
      go_wp2_with fail
      go_meet
      exact ⟨rfl, hb3⟩
    · go_simp
      refine hK _ _ ?_
      clear hK K
      refine wpAny_take (i := 9) (v := ?_) rfl (by kernel_rfl) (by kernel_rfl) (by kernel_rfl) (fun _ _ _ h => h) (Or.inl ⟨by kernel_rfl, ?_⟩) ?_
      rotate_left
      · (intro w; first | (go_simp; done) | (go_simp; with_reducible rfl) | with_reducible rfl)
      refine wpAny_ready (rs := [6]) (by kernel_rfl) (by simp) ?_
      refine AllReady.cons rfl (fun K hK => ?_) AllReady.nil
      go_simp
      go_at_call 45; refine (kO _).mono ?_; rintro e u1 ⟨ga, gc, rfl, ho1, hb0⟩; have g1 := Rd.own ho1; have hb1 := keepC (w1 := vf) A0 hb0; clear hb0 ho1; obtain ⟨m0, m1, m2, m3, m4, m5, -⟩ := (J0.below hb1).d; obtain ⟨n0, n1, n2, n3, n4, -⟩ := (J0.below hb1).p; rw [hc.out] at n0
      go_simp
      refine hK _ _ ?_
      clear hK K
      refine wpAny_ready (rs := [10]) (by kernel_rfl) (by simp) ?_
      refine AllReady.cons rfl (fun K hK => ?_) AllReady.nil
      go_simp
      have hq := hb1; clear hq; go_at_call 50; refine (kT _ _ (by first | with_reducible rfl | with_reducible assumption)).mono ?_; rintro e u2 ⟨ha, hcp, rfl, ho2, hb0⟩; have g2 := Rd.own ho2; replace g1 := g1.below hb0; have hb2 := keepC (w1 := vf) hb1 hb0; clear hb0 ho2; obtain ⟨m0, m1, m2, m3, m4, m5, -⟩ := (J0.below hb2).d; obtain ⟨n0, n1, n2, n3, n4, -⟩ := (J0.below hb2).p; rw [hc.out] at n0
      go_simp
      refine hK _ _ ?_
      clear hK K
      refine wpAny_ready (rs := [11]) (by kernel_rfl) (by simp) ?_
      refine AllReady.cons rfl (fun K hK => ?_) AllReady.nil
      go_simp
      have hq := hb2; clear hq; go_at_call 44; refine (kC _ _ _ _ _ g1 g2).mono ?_; rintro e u3 ⟨rfl, hb0⟩; have hb3 := keepC (w1 := vf) hb2 hb0; clear hb0; obtain ⟨m0, m1, m2, m3, m4, m5, -⟩ := (J0.below hb3).d; obtain ⟨n0, n1, n2, n3, n4, -⟩ := (J0.below hb3).p; rw [hc.out] at n0
      go_simp
      refine hK _ _ ?_
      clear hK K
      refine wpAny_take (i := 12) (v := ?_) rfl (by kernel_rfl) (by kernel_rfl) (by kernel_rfl) (fun _ _ _ h => h) (Or.inl ⟨by kernel_rfl, ?_⟩) ?_
      rotate_left
      · (intro w; first | (go_simp; done) | (go_simp; with_reducible rfl) | with_reducible rfl)
      refine wpAny_take (i := 13) (v := ?_) rfl (by kernel_rfl) (by kernel_rfl) (by kernel_rfl) (fun _ _ _ h => h) (Or.inl ⟨by kernel_rfl, ?_⟩) ?_
      rotate_left
      · (intro w; first | (go_simp; done) | (go_simp; with_reducible rfl) | with_reducible rfl)
      refine wpAny_take (i := 14) (v := ?_) rfl (by kernel_rfl) (by kernel_rfl) (by kernel_rfl) (fun _ _ _ h => h) (Or.inl ⟨by kernel_rfl, ?_⟩) ?_
      rotate_left
      · (intro w; first | (go_simp; done) | (go_simp; with_reducible rfl) | with_reducible rfl)
      refine wpAny_take (i := 15) (v := undef) rfl (by kernel_rfl) (by kernel_rfl) (by kernel_rfl) (fun _ _ _ h => h) (Or.inr ⟨by kernel_rfl, rfl⟩) ?_
      refine wpAny_take (i := 16) (v := undef) rfl (by kernel_rfl) (by kernel_rfl) (by kernel_rfl) (fun _ _ _ h => h) (Or.inr ⟨by kernel_rfl, rfl⟩) ?_
      refine wpAny_take (i := 17) (v := undef) rfl (by kernel_rfl) (by kernel_rfl) (by kernel_rfl) (fun _ _ _ h => h) (Or.inr ⟨by kernel_rfl, rfl⟩) ?_
      refine wpAny_take (i := 18) (v := undef) rfl (by kernel_rfl) (by kernel_rfl) (by kernel_rfl) (fun _ _ _ h => h) (Or.inr ⟨by kernel_rfl, rfl⟩) ?_
      refine wpAny_take (i := 19) (v := undef) rfl (by kernel_rfl) (by kernel_rfl) (by kernel_rfl) (fun _ _ _ h => h) (Or.inr ⟨by kernel_rfl, rfl⟩) ?_
      refine wpAny_take (i := 20) (v := undef) rfl (by kernel_rfl) (by kernel_rfl) (by kernel_rfl) (fun _ _ _ h => h) (Or.inr ⟨by kernel_rfl, rfl⟩) ?_
      refine wpAny_take (i := 21) (v := undef) rfl (by kernel_rfl) (by kernel_rfl) (by kernel_rfl) (fun _ _ _ h => h) (Or.inr ⟨by kernel_rfl, rfl⟩) ?_
      refine wpAny_take (i := 22) (v := undef) rfl (by kernel_rfl) (by kernel_rfl) (by kernel_rfl) (fun _ _ _ h => h) (Or.inr ⟨by kernel_rfl, rfl⟩) ?_
      refine wpAny_take (i := 23) (v := undef) rfl (by kernel_rfl) (by kernel_rfl) (by kernel_rfl) (fun _ _ _ h => h) (Or.inr ⟨by kernel_rfl, rfl⟩) ?_
      refine wpAny_ready (rs := [24]) (by kernel_rfl) (by simp) ?_
      refine AllReady.cons rfl (fun K hK => ?_) AllReady.nil
      go_simp
      refine hK _ _ ?_
      clear hK K
      refine wpAny_done (by kernel_rfl) ?_ _
      go_wp2_with fail
      go_meet
      exact ⟨rfl, hb3⟩
  · go_simp
    refine hK _ _ ?_
    clear hK K
    refine wpAny_take (i := 9) (v := ?_) rfl (by kernel_rfl) (by kernel_rfl) (by kernel_rfl) (fun _ _ _ h => h) (Or.inl ⟨by kernel_rfl, ?_⟩) ?_
    rotate_left
    · (intro w; first | (go_simp; done) | (go_simp; with_reducible rfl) | with_reducible rfl)
    refine wpAny_ready (rs := [5]) (by kernel_rfl) (by simp) ?_
    refine AllReady.cons rfl (fun K hK => ?_) AllReady.nil
    go_simp
    refine hK _ _ ?_
    clear hK K
    refine wpAny_ready (rs := [6]) (by kernel_rfl) (by simp) ?_
    refine AllReady.cons rfl (fun K hK => ?_) AllReady.nil
    go_simp
    go_at_call 45; refine (kO _).mono ?_; rintro e u1 ⟨ga, gc, rfl, ho1, hb0⟩; have g1 := Rd.own ho1; have hb1 := keepC (w1 := vf) A0 hb0; clear hb0 ho1; obtain ⟨m0, m1, m2, m3, m4, m5, -⟩ := (J0.below hb1).d; obtain ⟨n0, n1, n2, n3, n4, -⟩ := (J0.below hb1).p; rw [hc.out] at n0
    go_simp
    refine hK _ _ ?_
    clear hK K
    refine wpAny_ready (rs := [10]) (by kernel_rfl) (by simp) ?_
    refine AllReady.cons rfl (fun K hK => ?_) AllReady.nil
    go_simp
    have hq := hb1; clear hq; go_at_call 50; refine (kT _ _ (by first | with_reducible rfl | with_reducible assumption)).mono ?_; rintro e u2 ⟨ha, hcp, rfl, ho2, hb0⟩; have g2 := Rd.own ho2; replace g1 := g1.below hb0; have hb2 := keepC (w1 := vf) hb1 hb0; clear hb0 ho2; obtain ⟨m0, m1, m2, m3, m4, m5, -⟩ := (J0.below hb2).d; obtain ⟨n0, n1, n2, n3, n4, -⟩ := (J0.below hb2).p; rw [hc.out] at n0
    go_simp
    refine hK _ _ ?_
    clear hK K
    refine wpAny_ready (rs := [11]) (by kernel_rfl) (by simp) ?_
    refine AllReady.cons rfl (fun K hK => ?_) AllReady.nil
    go_simp
    have hq := hb2; clear hq; go_at_call 44; refine (kC _ _ _ _ _ g1 g2).mono ?_; rintro e u3 ⟨rfl, hb0⟩; have hb3 := keepC (w1 := vf) hb2 hb0; clear hb0; obtain ⟨m0, m1, m2, m3, m4, m5, -⟩ := (J0.below hb3).d; obtain ⟨n0, n1, n2, n3, n4, -⟩ := (J0.below hb3).p; rw [hc.out] at n0
    go_simp
    refine hK _ _ ?_
    clear hK K
    refine wpAny_take (i := 12) (v := ?_) rfl (by kernel_rfl) (by kernel_rfl) (by kernel_rfl) (fun _ _ _ h => h) (Or.inl ⟨by kernel_rfl, ?_⟩) ?_
    rotate_left
    · (intro w; first | (go_simp; done) | (go_simp; with_reducible rfl) | with_reducible rfl)
    refine wpAny_take (i := 13) (v := ?_) rfl (by kernel_rfl) (by kernel_rfl) (by kernel_rfl) (fun _ _ _ h => h) (Or.inl ⟨by kernel_rfl, ?_⟩) ?_
    rotate_left
    · (intro w; first | (go_simp; done) | (go_simp; with_reducible rfl) | with_reducible rfl)
    refine wpAny_take (i := 14) (v := ?_) rfl (by kernel_rfl) (by kernel_rfl) (by kernel_rfl) (fun _ _ _ h => h) (Or.inl ⟨by kernel_rfl, ?_⟩) ?_
    rotate_left
    · (intro w; first | (go_simp; done) | (go_simp; with_reducible rfl) | with_reducible rfl)
    refine wpAny_take (i := 15) (v := undef) rfl (by kernel_rfl) (by kernel_rfl) (by kernel_rfl) (fun _ _ _ h => h) (Or.inr ⟨by kernel_rfl, rfl⟩) ?_
    refine wpAny_take (i := 16) (v := undef) rfl (by kernel_rfl) (by kernel_rfl) (by kernel_rfl) (fun _ _ _ h => h) (Or.inr ⟨by kernel_rfl, rfl⟩) ?_
    refine wpAny_take (i := 17) (v := undef) rfl (by kernel_rfl) (by kernel_rfl) (by kernel_rfl) (fun _ _ _ h => h) (Or.inr ⟨by kernel_rfl, rfl⟩) ?_
    refine wpAny_take (i := 18) (v := undef) rfl (by kernel_rfl) (by kernel_rfl) (by kernel_rfl) (fun _ _ _ h => h) (Or.inr ⟨by kernel_rfl, rfl⟩) ?_
    refine wpAny_take (i := 19) (v := undef) rfl (by kernel_rfl) (by kernel_rfl) (by kernel_rfl) (fun _ _ _ h => h) (Or.inr ⟨by kernel_rfl, rfl⟩) ?_
    refine wpAny_take (i := 20) (v := undef) rfl (by kernel_rfl) (by kernel_rfl) (by kernel_rfl) (fun _ _ _ h => h) (Or.inr ⟨by kernel_rfl, rfl⟩) ?_
    refine wpAny_take (i := 21) (v := undef) rfl (by kernel_rfl) (by kernel_rfl) (by kernel_rfl) (fun _ _ _ h => h) (Or.inr ⟨by kernel_rfl, rfl⟩) ?_
    refine wpAny_take (i := 22) (v := undef) rfl (by kernel_rfl) (by kernel_rfl) (by kernel_rfl) (fun _ _ _ h => h) (Or.inr ⟨by kernel_rfl, rfl⟩) ?_
    refine wpAny_take (i := 23) (v := undef) rfl (by kernel_rfl) (by kernel_rfl) (by kernel_rfl) (fun _ _ _ h => h) (Or.inr ⟨by kernel_rfl, rfl⟩) ?_
    refine wpAny_ready (rs := [24]) (by kernel_rfl) (by simp) ?_
    refine AllReady.cons rfl (fun K hK => ?_) AllReady.nil
    go_simp
    refine hK _ _ ?_
    clear hK K
    refine wpAny_done (by kernel_rfl) ?_ _
    go_wp2_with fail
    go_meet
    exact ⟨rfl, hb3⟩
 rename World => vg
 obtain ⟨rfl, hbx⟩ := hcut
 replace J0 := J0.below hbx
 replace rf := rf.below hbx
 replace rh := rh.below hbx
 replace rx := rx.below hbx
 clear hbx A0
 obtain ⟨p0, p1, p2, p3, p4, -⟩ := id J0.p
 go_wp2_with fail
 refine (kLx _ _ _ rx).mono ?_
 rintro e w1 ⟨ia, ic, rfl, ho, hb⟩
 have ri := Rd.own ho
 replace rh := rh.below hb
 replace J0 := J0.below hb
 clear hb ho
 go_wp2_with fail
 refine (kLh _ _ _ rh).mono ?_
 rintro e w2 ⟨ja, jc, rfl, ho, hb⟩
 have rj := Rd.own ho
 replace ri := ri.below hb
 replace J0 := J0.below hb
 clear hb ho
 go_wp2_with fail
 refine (k1 _).mono ?_
 rintro e w3 ⟨ka, kc, rfl, ho, hb⟩
 have rk := Rd.own ho
 replace ri := ri.below hb
 replace rj := rj.below hb
 replace J0 := J0.below hb
 clear hb ho
 subst hC
 have HB := hid J0.b
 have HR := hid (And.intro ri (And.intro rj rk))
 clear J0 ri rj rk p0 p1 p2 p3 p4 rf
 go_wp2_with fail
 exact bodyPost_ret (v := .tuple #[.slice ia (D A).length ic, .slice ja (D B).length jc, .slice ka (D 1).length kc]) (by simp [results, Tryd.results18, go_sem]) rfl ⟨_, _, _, _, _, _, rfl, HR.out.1, HR.out.2.1, HR.out.2.2, HB.out⟩

theorem span_bn (f : Int) (T : M.Pt) (e0 e1 e2 e3 e4 : Int) (e5 : Bool) (A B C : Nat) (w : World)
 (kE : ∀ v : World, Calls Tryd.prog 25 #[.int .i64 f] v fun e w' => e = .returned (.agg #[.int .i64 e0, .int .i64 e1, .int .i64 e2, .int .i64 e3, .int .i64 e4, .bool e5]) ∧ Below v.heap.size v w') (kO : ∀ (v : World), Calls Tryd.prog 45 #[.agg #[.int .u64 (M.hiN T.s : Int), .int .u64 (M.loN T.s : Int)]] v fun e w' => Ret v w' e (D T.s)) (F4 : Nat) (kL2 : ∀ (v : World) (ao : Option Addr) (c : Nat), Rd v ao (D T.s) → Calls Tryd.prog 20 #[.slice ao (D T.s).length c, .int .i64 2] v fun e w' => Ret v w' e (D F4)) (k2 : ∀ (v : World), Calls Tryd.prog 21 #[.int .u64 2] v fun e w' => Ret v w' e (D 2)) (k1 : ∀ (v : World), Calls Tryd.prog 21 #[.int .u64 1] v fun e w' => Ret v w' e (D 1)) (H X : Nat) (kA : ∀ (v : World) (ao bo : Option Addr) (c d : Nat), Rd v ao (D F4) → Rd v bo (D 2) → Calls Tryd.prog 19 #[.slice ao (D F4).length c, .slice bo (D 2).length d] v fun e w' => Ret v w' e (D H)) (kS : ∀ (v : World) (ao bo : Option Addr) (c d : Nat), Rd v ao (D F4) → Rd v bo (D 2) → Calls Tryd.prog 22 #[.slice ao (D F4).length c, .slice bo (D 2).length d] v fun e w' => Ret v w' e (D X)) (hc : Hid (T.c = 3)) (LD : Nat) (cm : Int) (he1 : wrap64 (e0 - 1) = e0 - 1) (he2 : IntKind.i64.wrap (e0 - 1) = e0 - 1) (kT : ∀ (v : World) (z : Int), z = e0 - 1 → Calls Tryd.prog 50 #[.int .i64 z] v fun e w' => Ret v w' e (D LD)) (kC : ∀ (v : World) (ao bo : Option Addr) (c d : Nat), Rd v ao (D T.s) → Rd v bo (D LD) → Calls Tryd.prog 44 #[.slice ao (D T.s).length c, .slice bo (D LD).length d] v fun e w' => e = .returned (.int .i64 cm) ∧ Below v.heap.size v w') (hcm : ¬ cm = 0) (hcm2 : (cm == 0) = false) (z : Int) (hz : wrap64 (T.q - 2) = z) (hp : ¬ 0 ≤ z) (hn : wrap64 (-z) = -z) (hn2 : IntKind.i64.wrap (-z) = -z) (kT2 : ∀ (v : World) (y : Int), y = -z → Calls Tryd.prog 50 #[.int .i64 y] v fun e w' => Ret v w' e (D C)) (hA : A = X) (hB : B = H)  :
 Calls Tryd.prog 18 #[.int .i64 f, .agg #[.int .i64 T.c, .bool T.n, .int .u64 (M.hiN T.s : Int), .int .u64 (M.loN T.s : Int), .int .i64 T.q]] w fun e w' => Sp3 w w' e A B C := by
 have b0 : Below w.heap.size w (w.alloc (.cells #[.int .i64 T.c, .bool T.n, .int .u64 (M.hiN T.s : Int), .int .u64 (M.loN T.s : Int), .int .i64 T.q] 33)) := (Below.refl _ _).alloc (Nat.le_refl _) _
 have P0 : P5 (w.alloc (.cells #[.int .i64 T.c, .bool T.n, .int .u64 (M.hiN T.s : Int), .int .u64 (M.loN T.s : Int), .int .i64 T.q] 33)) w.heap.size T := P5_new w T
 generalize hV : (w.alloc (.cells #[.int .i64 T.c, .bool T.n, .int .u64 (M.hiN T.s : Int), .int .u64 (M.loN T.s : Int), .int .i64 T.q] 33)) = v0 at *
 go_enter Tryd.func18, Tryd.ntmps18
 go_upto_region 1 with fail
 clear hV
 go_wp2_with fail
 refine (kE _).mono ?_
 rintro e v1 ⟨rfl, hb1⟩
 replace b0 := b0.trans (hb1.mono b0.size)
 replace P0 := P0.below hb1
 clear hb1 kE
 go_upto_region 2 with fail
 have bA : Below v1.heap.size v1 (v1.alloc (.cells #[.int .i64 e0, .int .i64 e1, .int .i64 e2, .int .i64 e3, .int .i64 e4, .bool e5] 56)) := (Below.refl _ _).alloc (Nat.le_refl _) _
 have J0 : Cv w (v1.alloc (.cells #[.int .i64 e0, .int .i64 e1, .int .i64 e2, .int .i64 e3, .int .i64 e4, .bool e5] 56)) v1.heap.size e0 e1 e2 e3 e4 e5 T := ⟨b0.trans (bA.mono b0.size), D6_new v1 _ _ _ _ _ _ _, P0.below bA⟩
 clear bA b0 P0
 generalize (v1.alloc (.cells #[.int .i64 e0, .int .i64 e1, .int .i64 e2, .int .i64 e3, .int .i64 e4, .bool e5] 56)) = v2 at *
 generalize v1.heap.size = gd at *
 obtain ⟨p0, p1, p2, p3, p4, -⟩ := id J0.p
 go_wp2_with fail
 refine (kO _).mono ?_
 rintro e va ⟨sa, sc, rfl, ho, hb⟩
 have rs := Rd.own ho
 replace J0 := J0.below hb
 clear hb ho
 clear p0 p1 p2 p3 p4
 go_wp2_with fail
 refine (kL2 _ _ _ rs).mono ?_
 rintro e vb ⟨fa, fc, rfl, ho, hb⟩
 have rf := Rd.own ho
 replace J0 := J0.below hb
 clear hb ho
 clear rs kL2
 go_wp2_with fail
 refine (k2 _).mono ?_
 rintro e vc ⟨ta, tc, rfl, ho, hb⟩
 have rt := Rd.own ho
 replace rf := rf.below hb
 replace J0 := J0.below hb
 clear hb ho
 go_wp2_with fail
 refine (kA _ _ _ _ _ rf rt).mono ?_
 rintro e vd ⟨ha, hc0, rfl, ho, hb⟩
 have rh := Rd.own ho
 replace rf := rf.below hb
 replace J0 := J0.below hb
 clear hb ho
 clear rt kA
 go_wp2_with fail
 refine (k2 _).mono ?_
 rintro e ve ⟨ta, tc, rfl, ho, hb⟩
 have rt := Rd.own ho
 replace rf := rf.below hb
 replace rh := rh.below hb
 replace J0 := J0.below hb
 clear hb ho
 go_wp2_with fail
 refine (kS _ _ _ _ _ rf rt).mono ?_
 rintro e vf ⟨xa, xc, rfl, ho, hb⟩
 have rx := Rd.own ho
 replace rf := rf.below hb
 replace rh := rh.below hb
 replace J0 := J0.below hb
 clear hb ho
 clear rt kS
 obtain ⟨p0, p1, p2, p3, p4, -⟩ := id J0.p
 rw [hc.out] at p0
 go_upto_region 5 with fail
 clear p0 p1 p2 p3 p4
 have A0 : Below vf.heap.size vf vf.drew := (Below.refl _ _).drew
 go_cut [48] (fun z wx => z = .bool false ∧ Below vf.heap.size vf wx)
 case first =>
  obtain ⟨d0, d1, d2, d3, d4, d5, -⟩ := (J0.below A0).d
  obtain ⟨p0, p1, p2, p3, p4, -⟩ := (J0.below A0).p
  rw [hc.out] at p0
  refine wp_region_any (by kernel_rfl) ?_
  change wpAny _ _ _ _ _ _ _ (World.drew _)
  refine wpAny_take (i := 0) (v := ?_) rfl (by kernel_rfl) (by kernel_rfl) (by kernel_rfl) (fun _ _ _ h => h) (Or.inl ⟨by kernel_rfl, ?_⟩) ?_
  rotate_left
  · (intro w; first | (go_simp; done) | (go_simp; with_reducible rfl) | with_reducible rfl)
  refine wpAny_ready (rs := [1]) (by kernel_rfl) (by simp) ?_
  refine AllReady.cons rfl (fun K hK => ?_) AllReady.nil
  go_simp
  refine hK _ _ ?_
  clear hK K
  refine wpAny_take (i := 2) (v := ?_) rfl (by kernel_rfl) (by kernel_rfl) (by kernel_rfl) (fun _ _ _ h => h) (Or.inl ⟨by kernel_rfl, ?_⟩) ?_
  rotate_left
  · (intro w; first | (go_simp; done) | (go_simp; with_reducible rfl) | with_reducible rfl)
  refine wpAny_take (i := 3) (v := ?_) rfl (by kernel_rfl) (by kernel_rfl) (by kernel_rfl) (fun _ _ _ h => h) (Or.inl ⟨by kernel_rfl, ?_⟩) ?_
  rotate_left
  · (intro w; first | (go_simp; done) | (go_simp; with_reducible rfl) | with_reducible rfl)
  refine wpAny_take (i := 4) (v := ?_) rfl (by kernel_rfl) (by kernel_rfl) (by kernel_rfl) (fun _ _ _ h => h) (Or.inl ⟨by kernel_rfl, ?_⟩) ?_
  rotate_left
  · (intro w; first | (go_simp; done) | (go_simp; with_reducible rfl) | with_reducible rfl)
  refine wpAny_take (i := 7) (v := ?_) rfl (by kernel_rfl) (by kernel_rfl) (by kernel_rfl) (fun _ _ _ h => h) (Or.inl ⟨by kernel_rfl, ?_⟩) ?_
  rotate_left
  · (intro w; first | (go_simp; done) | (go_simp; with_reducible rfl) | with_reducible rfl)
  refine wpAny_ready (rs := [5, 8]) (by kernel_rfl) (by simp) ?_
  refine AllReady.cons rfl (fun K hK => ?_) (AllReady.cons rfl (fun K hK => ?_) AllReady.nil)
  · go_simp
    refine hK _ _ ?_
    clear hK K
    refine wpAny_ready (rs := [6, 8]) (by kernel_rfl) (by simp) ?_
    refine AllReady.cons rfl (fun K hK => ?_) (AllReady.cons rfl (fun K hK => ?_) AllReady.nil)
    · go_simp
      go_at_call 45; refine (kO _).mono ?_; rintro e u1 ⟨ga, gc, rfl, ho1, hb0⟩; have g1 := Rd.own ho1; have hb1 := keepC (w1 := vf) A0 hb0; clear hb0 ho1; obtain ⟨m0, m1, m2, m3, m4, m5, -⟩ := (J0.below hb1).d; obtain ⟨n0, n1, n2, n3, n4, -⟩ := (J0.below hb1).p; rw [hc.out] at n0
      go_simp
      refine hK _ _ ?_
      clear hK K
      refine wpAny_ready (rs := [8]) (by kernel_rfl) (by simp) ?_
      refine AllReady.cons rfl (fun K hK => ?_) AllReady.nil
      go_simp
      refine hK _ _ ?_
      clear hK K
      refine wpAny_take (i := 9) (v := ?_) rfl (by kernel_rfl) (by kernel_rfl) (by kernel_rfl) (fun _ _ _ h => h) (Or.inl ⟨by kernel_rfl, ?_⟩) ?_
      rotate_left
      · (intro w; first | (go_simp; done) | (go_simp; with_reducible rfl) | with_reducible rfl)
      refine wpAny_ready (rs := [10]) (by kernel_rfl) (by simp) ?_
      refine AllReady.cons rfl (fun K hK => ?_) AllReady.nil
      go_simp
      have hq := hb1; clear hq; go_at_call 50; refine (kT _ _ (by first | with_reducible rfl | with_reducible assumption)).mono ?_; rintro e u2 ⟨ha, hcp, rfl, ho2, hb0⟩; have g2 := Rd.own ho2; replace g1 := g1.below hb0; have hb2 := keepC (w1 := vf) hb1 hb0; clear hb0 ho2; obtain ⟨m0, m1, m2, m3, m4, m5, -⟩ := (J0.below hb2).d; obtain ⟨n0, n1, n2, n3, n4, -⟩ := (J0.below hb2).p; rw [hc.out] at n0
      go_simp
      refine hK _ _ ?_
      clear hK K
      refine wpAny_ready (rs := [11]) (by kernel_rfl) (by simp) ?_
      refine AllReady.cons rfl (fun K hK => ?_) AllReady.nil
      go_simp
      have hq := hb2; clear hq; go_at_call 44; refine (kC _ _ _ _ _ g1 g2).mono ?_; rintro e u3 ⟨rfl, hb0⟩; have hb3 := keepC (w1 := vf) hb2 hb0; clear hb0; obtain ⟨m0, m1, m2, m3, m4, m5, -⟩ := (J0.below hb3).d; obtain ⟨n0, n1, n2, n3, n4, -⟩ := (J0.below hb3).p; rw [hc.out] at n0
      go_simp
      refine hK _ _ ?_
      clear hK K
      refine wpAny_take (i := 12) (v := ?_) rfl (by kernel_rfl) (by kernel_rfl) (by kernel_rfl) (fun _ _ _ h => h) (Or.inl ⟨by kernel_rfl, ?_⟩) ?_
      rotate_left
      · (intro w; first | (go_simp; done) | (go_simp; with_reducible rfl) | with_reducible rfl)
      refine wpAny_take (i := 13) (v := ?_) rfl (by kernel_rfl) (by kernel_rfl) (by kernel_rfl) (fun _ _ _ h => h) (Or.inl ⟨by kernel_rfl, ?_⟩) ?_
      rotate_left
      · (intro w; first | (go_simp; done) | (go_simp; with_reducible rfl) | with_reducible rfl)
      refine wpAny_take (i := 14) (v := ?_) rfl (by kernel_rfl) (by kernel_rfl) (by kernel_rfl) (fun _ _ _ h => h) (Or.inl ⟨by kernel_rfl, ?_⟩) ?_
      rotate_left
      · (intro w; first | (go_simp; done) | (go_simp; with_reducible rfl) | with_reducible rfl)
      refine wpAny_take (i := 15) (v := undef) rfl (by kernel_rfl) (by kernel_rfl) (by kernel_rfl) (fun _ _ _ h => h) (Or.inr ⟨by kernel_rfl, rfl⟩) ?_
      refine wpAny_take (i := 16) (v := undef) rfl (by kernel_rfl) (by kernel_rfl) (by kernel_rfl) (fun _ _ _ h => h) (Or.inr ⟨by kernel_rfl, rfl⟩) ?_
      refine wpAny_take (i := 17) (v := undef) rfl (by kernel_rfl) (by kernel_rfl) (by kernel_rfl) (fun _ _ _ h => h) (Or.inr ⟨by kernel_rfl, rfl⟩) ?_
      refine wpAny_take (i := 18) (v := undef) rfl (by kernel_rfl) (by kernel_rfl) (by kernel_rfl) (fun _ _ _ h => h) (Or.inr ⟨by kernel_rfl, rfl⟩) ?_
      refine wpAny_take (i := 19) (v := undef) rfl (by kernel_rfl) (by kernel_rfl) (by kernel_rfl) (fun _ _ _ h => h) (Or.inr ⟨by kernel_rfl, rfl⟩) ?_
      refine wpAny_take (i := 20) (v := undef) rfl (by kernel_rfl) (by kernel_rfl) (by kernel_rfl) (fun _ _ _ h => h) (Or.inr ⟨by kernel_rfl, rfl⟩) ?_
      refine wpAny_take (i := 21) (v := undef) rfl (by kernel_rfl) (by kernel_rfl) (by kernel_rfl) (fun _ _ _ h => h) (Or.inr ⟨by kernel_rfl, rfl⟩) ?_
      refine wpAny_take (i := 22) (v := undef) rfl (by kernel_rfl) (by kernel_rfl) (by kernel_rfl) (fun _ _ _ h => h) (Or.inr ⟨by kernel_rfl, rfl⟩) ?_
      refine wpAny_take (i := 23) (v := undef) rfl (by kernel_rfl) (by kernel_rfl) (by kernel_rfl) (fun _ _ _ h => h) (Or.inr ⟨by kernel_rfl, rfl⟩) ?_
      refine wpAny_ready (rs := [24]) (by kernel_rfl) (by simp) ?_
      refine AllReady.cons rfl (fun K hK => ?_) AllReady.nil
      go_simp
      refine hK _ _ ?_
      clear hK K
      refine wpAny_done (by kernel_rfl) ?_ _
      go_wp2_with fail
      go_meet
      exact ⟨rfl, hb3⟩
    · go_simp
      refine hK _ _ ?_
      clear hK K
      refine wpAny_take (i := 9) (v := ?_) rfl (by kernel_rfl) (by kernel_rfl) (by kernel_rfl) (fun _ _ _ h => h) (Or.inl ⟨by kernel_rfl, ?_⟩) ?_
      rotate_left
      · (intro w; first | (go_simp; done) | (go_simp; with_reducible rfl) | with_reducible rfl)
      refine wpAny_ready (rs := [6]) (by kernel_rfl) (by simp) ?_
      refine AllReady.cons rfl (fun K hK => ?_) AllReady.nil
      go_simp
      go_at_call 45; refine (kO _).mono ?_; rintro e u1 ⟨ga, gc, rfl, ho1, hb0⟩; have g1 := Rd.own ho1; have hb1 := keepC (w1 := vf) A0 hb0; clear hb0 ho1; obtain ⟨m0, m1, m2, m3, m4, m5, -⟩ := (J0.below hb1).d; obtain ⟨n0, n1, n2, n3, n4, -⟩ := (J0.below hb1).p; rw [hc.out] at n0
      go_simp
      refine hK _ _ ?_
      clear hK K
      refine wpAny_ready (rs := [10]) (by kernel_rfl) (by simp) ?_
      refine AllReady.cons rfl (fun K hK => ?_) AllReady.nil
      go_simp
      have hq := hb1; clear hq; go_at_call 50; refine (kT _ _ (by first | with_reducible rfl | with_reducible assumption)).mono ?_; rintro e u2 ⟨ha, hcp, rfl, ho2, hb0⟩; have g2 := Rd.own ho2; replace g1 := g1.below hb0; have hb2 := keepC (w1 := vf) hb1 hb0; clear hb0 ho2; obtain ⟨m0, m1, m2, m3, m4, m5, -⟩ := (J0.below hb2).d; obtain ⟨n0, n1, n2, n3, n4, -⟩ := (J0.below hb2).p; rw [hc.out] at n0
      go_simp
      refine hK _ _ ?_
      clear hK K
      refine wpAny_ready (rs := [11]) (by kernel_rfl) (by simp) ?_
      refine AllReady.cons rfl (fun K hK => ?_) AllReady.nil
      go_simp
      have hq := hb2; clear hq; go_at_call 44; refine (kC _ _ _ _ _ g1 g2).mono ?_; rintro e u3 ⟨rfl, hb0⟩; have hb3 := keepC (w1 := vf) hb2 hb0; clear hb0; obtain ⟨m0, m1, m2, m3, m4, m5, -⟩ := (J0.below hb3).d; obtain ⟨n0, n1, n2, n3, n4, -⟩ := (J0.below hb3).p; rw [hc.out] at n0
      go_simp
      refine hK _ _ ?_
      clear hK K
      refine wpAny_take (i := 12) (v := ?_) rfl (by kernel_rfl) (by kernel_rfl) (by kernel_rfl) (fun _ _ _ h => h) (Or.inl ⟨by kernel_rfl, ?_⟩) ?_
      rotate_left
      · (intro w; first | (go_simp; done) | (go_simp; with_reducible rfl) | with_reducible rfl)
      refine wpAny_take (i := 13) (v := ?_) rfl (by kernel_rfl) (by kernel_rfl) (by kernel_rfl) (fun _ _ _ h => h) (Or.inl ⟨by kernel_rfl, ?_⟩) ?_
      rotate_left
      · (intro w; first | (go_simp; done) | (go_simp; with_reducible rfl) | with_reducible rfl)
      refine wpAny_take (i := 14) (v := ?_) rfl (by kernel_rfl) (by kernel_rfl) (by kernel_rfl) (fun _ _ _ h => h) (Or.inl ⟨by kernel_rfl, ?_⟩) ?_
      rotate_left
      · (intro w; first | (go_simp; done) | (go_simp; with_reducible rfl) | with_reducible rfl)
      refine wpAny_take (i := 15) (v := undef) rfl (by kernel_rfl) (by kernel_rfl) (by kernel_rfl) (fun _ _ _ h => h) (Or.inr ⟨by kernel_rfl, rfl⟩) ?_
      refine wpAny_take (i := 16) (v := undef) rfl (by kernel_rfl) (by kernel_rfl) (by kernel_rfl) (fun _ _ _ h => h) (Or.inr ⟨by kernel_rfl, rfl⟩) ?_
      refine wpAny_take (i := 17) (v := undef) rfl (by kernel_rfl) (by kernel_rfl) (by kernel_rfl) (fun _ _ _ h => h) (Or.inr ⟨by kernel_rfl, rfl⟩) ?_
      refine wpAny_take (i := 18) (v := undef) rfl (by kernel_rfl) (by kernel_rfl) (by kernel_rfl) (fun _ _ _ h => h) (Or.inr ⟨by kernel_rfl, rfl⟩) ?_
      refine wpAny_take (i := 19) (v := undef) rfl (by kernel_rfl) (by kernel_rfl) (by kernel_rfl) (fun _ _ _ h => h) (Or.inr ⟨by kernel_rfl, rfl⟩) ?_
      refine wpAny_take (i := 20) (v := undef) rfl (by kernel_rfl) (by kernel_rfl) (by kernel_rfl) (fun _ _ _ h => h) (Or.inr ⟨by kernel_rfl, rfl⟩) ?_
      refine wpAny_take (i := 21) (v := undef) rfl (by kernel_rfl) (by kernel_rfl) (by kernel_rfl) (fun _ _ _ h => h) (Or.inr ⟨by kernel_rfl, rfl⟩) ?_
      refine wpAny_take (i := 22) (v := undef) rfl (by kernel_rfl) (by kernel_rfl) (by kernel_rfl) (fun _ _ _ h => h) (Or.inr ⟨by kernel_rfl, rfl⟩) ?_
      refine wpAny_take (i := 23) (v := undef) rfl (by kernel_rfl) (by kernel_rfl) (by kernel_rfl) (fun _ _ _ h => h) (Or.inr ⟨by kernel_rfl, rfl⟩) ?_
      refine wpAny_ready (rs := [24]) (by kernel_rfl) (by simp) ?_
      refine AllReady.cons rfl (fun K hK => ?_) AllReady.nil
      go_simp
      refine hK _ _ ?_
      clear hK K
      refine wpAny_done (by kernel_rfl) ?_ _
      go_wp2_with fail
      go_meet
      exact ⟨rfl, hb3⟩
  · go_simp
    refine hK _ _ ?_
    clear hK K
    refine wpAny_take (i := 9) (v := ?_) rfl (by kernel_rfl) (by kernel_rfl) (by kernel_rfl) (fun _ _ _ h => h) (Or.inl ⟨by kernel_rfl, ?_⟩) ?_
    rotate_left
    · (intro w; first | (go_simp; done) | (go_simp; with_reducible rfl) | with_reducible rfl)
    refine wpAny_ready (rs := [5]) (by kernel_rfl) (by simp) ?_
    refine AllReady.cons rfl (fun K hK => ?_) AllReady.nil
    go_simp
    refine hK _ _ ?_
    clear hK K
    refine wpAny_ready (rs := [6]) (by kernel_rfl) (by simp) ?_
    refine AllReady.cons rfl (fun K hK => ?_) AllReady.nil
    go_simp
    go_at_call 45; refine (kO _).mono ?_; rintro e u1 ⟨ga, gc, rfl, ho1, hb0⟩; have g1 := Rd.own ho1; have hb1 := keepC (w1 := vf) A0 hb0; clear hb0 ho1; obtain ⟨m0, m1, m2, m3, m4, m5, -⟩ := (J0.below hb1).d; obtain ⟨n0, n1, n2, n3, n4, -⟩ := (J0.below hb1).p; rw [hc.out] at n0
    go_simp
    refine hK _ _ ?_
    clear hK K
    refine wpAny_ready (rs := [10]) (by kernel_rfl) (by simp) ?_
    refine AllReady.cons rfl (fun K hK => ?_) AllReady.nil
    go_simp
    have hq := hb1; clear hq; go_at_call 50; refine (kT _ _ (by first | with_reducible rfl | with_reducible assumption)).mono ?_; rintro e u2 ⟨ha, hcp, rfl, ho2, hb0⟩; have g2 := Rd.own ho2; replace g1 := g1.below hb0; have hb2 := keepC (w1 := vf) hb1 hb0; clear hb0 ho2; obtain ⟨m0, m1, m2, m3, m4, m5, -⟩ := (J0.below hb2).d; obtain ⟨n0, n1, n2, n3, n4, -⟩ := (J0.below hb2).p; rw [hc.out] at n0
    go_simp
    refine hK _ _ ?_
    clear hK K
    refine wpAny_ready (rs := [11]) (by kernel_rfl) (by simp) ?_
    refine AllReady.cons rfl (fun K hK => ?_) AllReady.nil
    go_simp
    have hq := hb2; clear hq; go_at_call 44; refine (kC _ _ _ _ _ g1 g2).mono ?_; rintro e u3 ⟨rfl, hb0⟩; have hb3 := keepC (w1 := vf) hb2 hb0; clear hb0; obtain ⟨m0, m1, m2, m3, m4, m5, -⟩ := (J0.below hb3).d; obtain ⟨n0, n1, n2, n3, n4, -⟩ := (J0.below hb3).p; rw [hc.out] at n0
    go_simp
    refine hK _ _ ?_
    clear hK K
    refine wpAny_take (i := 12) (v := ?_) rfl (by kernel_rfl) (by kernel_rfl) (by kernel_rfl) (fun _ _ _ h => h) (Or.inl ⟨by kernel_rfl, ?_⟩) ?_
    rotate_left
    · (intro w; first | (go_simp; done) | (go_simp; with_reducible rfl) | with_reducible rfl)
    refine wpAny_take (i := 13) (v := ?_) rfl (by kernel_rfl) (by kernel_rfl) (by kernel_rfl) (fun _ _ _ h => h) (Or.inl ⟨by kernel_rfl, ?_⟩) ?_
    rotate_left
    · (intro w; first | (go_simp; done) | (go_simp; with_reducible rfl) | with_reducible rfl)
    refine wpAny_take (i := 14) (v := ?_) rfl (by kernel_rfl) (by kernel_rfl) (by kernel_rfl) (fun _ _ _ h => h) (Or.inl ⟨by kernel_rfl, ?_⟩) ?_
    rotate_left
    · (intro w; first | (go_simp; done) | (go_simp; with_reducible rfl) | with_reducible rfl)
    refine wpAny_take (i := 15) (v := undef) rfl (by kernel_rfl) (by kernel_rfl) (by kernel_rfl) (fun _ _ _ h => h) (Or.inr ⟨by kernel_rfl, rfl⟩) ?_
    refine wpAny_take (i := 16) (v := undef) rfl (by kernel_rfl) (by kernel_rfl) (by kernel_rfl) (fun _ _ _ h => h) (Or.inr ⟨by kernel_rfl, rfl⟩) ?_
    refine wpAny_take (i := 17) (v := undef) rfl (by kernel_rfl) (by kernel_rfl) (by kernel_rfl) (fun _ _ _ h => h) (Or.inr ⟨by kernel_rfl, rfl⟩) ?_
    refine wpAny_take (i := 18) (v := undef) rfl (by kernel_rfl) (by kernel_rfl) (by kernel_rfl) (fun _ _ _ h => h) (Or.inr ⟨by kernel_rfl, rfl⟩) ?_
    refine wpAny_take (i := 19) (v := undef) rfl (by kernel_rfl) (by kernel_rfl) (by kernel_rfl) (fun _ _ _ h => h) (Or.inr ⟨by kernel_rfl, rfl⟩) ?_
    refine wpAny_take (i := 20) (v := undef) rfl (by kernel_rfl) (by kernel_rfl) (by kernel_rfl) (fun _ _ _ h => h) (Or.inr ⟨by kernel_rfl, rfl⟩) ?_
    refine wpAny_take (i := 21) (v := undef) rfl (by kernel_rfl) (by kernel_rfl) (by kernel_rfl) (fun _ _ _ h => h) (Or.inr ⟨by kernel_rfl, rfl⟩) ?_
    refine wpAny_take (i := 22) (v := undef) rfl (by kernel_rfl) (by kernel_rfl) (by kernel_rfl) (fun _ _ _ h => h) (Or.inr ⟨by kernel_rfl, rfl⟩) ?_
    refine wpAny_take (i := 23) (v := undef) rfl (by kernel_rfl) (by kernel_rfl) (by kernel_rfl) (fun _ _ _ h => h) (Or.inr ⟨by kernel_rfl, rfl⟩) ?_
    refine wpAny_ready (rs := [24]) (by kernel_rfl) (by simp) ?_
    refine AllReady.cons rfl (fun K hK => ?_) AllReady.nil
    go_simp
    refine hK _ _ ?_
    clear hK K
    refine wpAny_done (by kernel_rfl) ?_ _
    go_wp2_with fail
    go_meet
    exact ⟨rfl, hb3⟩
 rename World => vg
 obtain ⟨rfl, hbx⟩ := hcut
 replace J0 := J0.below hbx
 replace rf := rf.below hbx
 replace rh := rh.below hbx
 replace rx := rx.below hbx
 clear hbx A0
 obtain ⟨p0, p1, p2, p3, p4, -⟩ := id J0.p
 go_wp2_with fail
 refine (kT2 _ _ (by first | with_reducible rfl | with_reducible assumption)).mono ?_
 rintro e w1 ⟨ka, kc, rfl, ho, hb⟩
 have rk := Rd.own ho
 replace rx := rx.below hb
 replace rh := rh.below hb
 replace J0 := J0.below hb
 clear hb ho
 subst hA
 subst hB
 have HB := hid J0.b
 have HR := hid (And.intro rx (And.intro rh rk))
 clear J0 rx rh rk p0 p1 p2 p3 p4 rf
 go_wp2_with fail
 exact bodyPost_ret (v := .tuple #[.slice xa (D A).length xc, .slice ha (D B).length hc0, .slice ka (D C).length kc]) (by simp [results, Tryd.results18, go_sem]) rfl ⟨_, _, _, _, _, _, rfl, HR.out.1, HR.out.2.1, HR.out.2.2, HB.out⟩

theorem cmp_ne {a b : Nat} (h : ¬ a = b) : ¬ cmpI a b = 0 := by
 unfold cmpI
 split
 · omega
 · split <;> omega

theorem sspanB (f : Nat) (hf : f < 4) (T : M.Pt) (h : (M.fm f).Ok) (hfi : Fin (M.fm f) T) (hc : T.c = 3) (he : ¬ T.s = (M.fm f).lead) (w : World) :
 Calls Tryd.prog 18 #[.int .i64 (f : Int), .agg #[.int .i64 T.c, .bool T.n, .int .u64 (M.hiN T.s : Int), .int .u64 (M.loN T.s : Int), .int .i64 T.q]] w fun e w' => Sp3 w w' e (bA (M.fm f) T) (bB T) (bC T) := by
 have kE := fun v : World => sdescribe_ok f hf v
 simp only [dv] at kE
 generalize M.fm f = F at *
 have p1 := h.p1
 have p2 := h.p2
 have lp := h.leadPos
 have tp := h.top2
 have l2 : F.lead ≤ 2 ^ 112 := Nat.pow_le_pow_right (by omega) (by omega)
 obtain ⟨s1, s2, q1, q2, q3, q4, s3, s4⟩ := hfi
 have kO := fun v : World => l2Of_any T.s (show T.s < 2 ^ 128 by omega) v
 have kL2 : ∀ (v : World) (ao : Option Addr) (c : Nat), Rd v ao (D T.s) → Calls Tryd.prog 20 #[.slice ao (D T.s).length c, .int .i64 2] v fun e w' => Ret v w' e (D (4 * T.s)) := fun v ao c hr => by
  have := l1Left_any ao _ c 2 T.s v rfl (Nat.le_trans (D_small T.s (by omega)) (by omega)) (by omega) hr
  rw [show T.s * 2 ^ 2 = 4 * T.s by omega] at this
  exact this
 have k2 : ∀ v : World, Calls Tryd.prog 21 #[.int .u64 2] v fun e w' => Ret v w' e (D 2) := fun v => l1Of_any 2 v (by omega)
 have k1 : ∀ v : World, Calls Tryd.prog 21 #[.int .u64 1] v fun e w' => Ret v w' e (D 1) := fun v => l1Of_any 1 v (by omega)
 have dl : ∀ x : Nat, x < 2 ^ 128 → (D x).length ≤ 6 := fun x hx => D_small x (by omega)
 have kA := fun (v : World) (ao bo : Option Addr) (c d : Nat) (hr : Rd v ao (D (4 * T.s))) (hr2 : Rd v bo (D 2)) => l1Add_any ao bo _ _ c d (4 * T.s) 2 v rfl rfl (Nat.le_trans (dl _ (by omega)) (by omega)) (Nat.le_trans (dl _ (by omega)) (by omega)) hr hr2
 have kS := fun (v : World) (ao bo : Option Addr) (c d : Nat) (hr : Rd v ao (D (4 * T.s))) (hr2 : Rd v bo (D 2)) => l1Sub_any ao bo _ _ c d (4 * T.s) 2 v rfl rfl (by omega) (Nat.le_trans (dl _ (by omega)) (by omega)) hr hr2
 have kL := fun (x : Nat) (hx : x < 2 ^ 128) (u : Nat) (hu : u ≤ 20000) (v : World) (ao : Option Addr) (c : Nat) (hr : Rd v ao (D x)) => l1Left_any ao _ c u x v rfl (Nat.le_trans (dl _ hx) (by omega)) (by omega) hr
 have kT : ∀ (v : World) (z : Int), z = (F.p : Int) - 1 → Calls Tryd.prog 50 #[.int .i64 z] v fun e w' => Ret v w' e (D F.lead) := fun v z hz => by
  have := l2Two_any (F.p - 1) v (by omega)
  rw [show ((F.p - 1 : Nat) : Int) = z by omega] at this
  exact this
 have kC : ∀ (v : World) (ao bo : Option Addr) (c d : Nat), Rd v ao (D T.s) → Rd v bo (D F.lead) → Calls Tryd.prog 44 #[.slice ao (D T.s).length c, .slice bo (D F.lead).length d] v fun e w' => e = .returned (.int .i64 (cmpI T.s F.lead)) ∧ Below v.heap.size v w' := fun v ao bo c d hr hr2 => (l1Cmp_any ao bo _ _ c d T.s F.lead v rfl rfl (Nat.le_trans (dl _ (by omega)) (by omega)) (Nat.le_trans (dl _ (by omega)) (by omega)) hr hr2).mono fun e w' ⟨he', hw⟩ => ⟨he', by rw [hw]; exact Below.refl _ _⟩
 have hcm := cmp_ne he
 have hcm2 : (cmpI T.s F.lead == 0) = false := by simp [hcm]
 have hz : wrap64 (T.q - 2) = T.q - 2 := by simp only [wrap64]; omega
 have HZ := hid hz
 clear hz
 by_cases hp : 0 ≤ T.q - 2
 · obtain ⟨u, hu⟩ : ∃ u : Nat, (u : Int) = T.q - 2 := ⟨(T.q - 2).toNat, by omega⟩
   have hu1 : (T.q - 2).toNat = u := by omega
   have hu2 : (2 - T.q).toNat = 0 := by omega
   have hC : bC T = 1 := by simp [bC, hu2]
   have eB : bB T = (4 * T.s + 2) * 2 ^ u := by unfold bB; rw [hu1]
   have kLx := fun (x : Nat) (hx : x < 2 ^ 128) => kL x hx u (by omega)
   rw [hu] at kLx
   have eA : bA F T = (4 * T.s - 2) * 2 ^ u := by unfold bA bLow; rw [if_neg (fun hh => he hh.1), hu1]
   rw [eA, eB]
   exact span_bp (f : Int) T _ _ _ _ _ _ _ _ _ w kE kO (4 * T.s) kL2 k2 k1 (4 * T.s + 2) (4 * T.s - 2) kA kS hc F.lead _ (wp1 h) (wp2 h) kT kC hcm hcm2 (T.q - 2) HZ.out hp (kLx _ (by omega)) (kLx _ (by omega)) hC
 · have hu1 : (T.q - 2).toNat = 0 := by omega
   obtain ⟨u, hu⟩ : ∃ u : Nat, (u : Int) = -(T.q - 2) := ⟨(-(T.q - 2)).toNat, by omega⟩
   have hu2 : (2 - T.q).toNat = u := by omega
   have eB : bB T = 4 * T.s + 2 := by unfold bB; rw [hu1, Nat.pow_zero, Nat.mul_one]
   have kT2 : ∀ (v : World) (y : Int), y = -(T.q - 2) → Calls Tryd.prog 50 #[.int .i64 y] v fun e w' => Ret v w' e (D (bC T)) := fun v y hy => by
    have := twoL_any u v (by omega)
    rw [hu, ← hy] at this
    unfold bC
    rw [hu2]
    exact this
   have n1 : wrap64 (-(T.q - 2)) = -(T.q - 2) := by simp only [wrap64]; omega
   have n2 : IntKind.i64.wrap (-(T.q - 2)) = -(T.q - 2) := by simp only [IntKind.wrap_i64]; omega
   have HN := hid (And.intro n1 n2)
   clear n1 n2
   have eA : bA F T = 4 * T.s - 2 := by unfold bA bLow; rw [if_neg (fun hh => he hh.1), hu1, Nat.pow_zero, Nat.mul_one]
   exact span_bn (f : Int) T _ _ _ _ _ _ _ _ _ w kE kO (4 * T.s) kL2 k2 k1 (4 * T.s + 2) (4 * T.s - 2) kA kS hc F.lead _ (wp1 h) (wp2 h) kT kC hcm hcm2 (T.q - 2) HZ.out hp HN.out.1 HN.out.2 kT2 eA eB

theorem bnd_lt {F : M.Fm} {T : M.Pt} (hf : Fin F T) : bA F T < 2 ^ (128 + (T.q - 2).toNat) ∧ bB T < 2 ^ (128 + (T.q - 2).toNat) ∧ bC T < 2 ^ (128 + (2 - T.q).toNat) ∧ (T.q - 2).toNat ≤ 17000 ∧ (2 - T.q).toNat ≤ 17000 := by
 obtain ⟨s1, s2, q1, q2, q3, q4, s3, s4⟩ := hf
 refine ⟨mul_pow_lt ?_, mul_pow_lt (by omega), ?_, by omega, by omega⟩
 · unfold bLow; split <;> omega
 · unfold bC
   exact Nat.pow_lt_pow_right (by omega) (by omega)

end Go.Proofs.YtogkkecnmlnajaaDoor
