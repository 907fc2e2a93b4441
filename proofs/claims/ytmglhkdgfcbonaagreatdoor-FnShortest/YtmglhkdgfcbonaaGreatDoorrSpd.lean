import Derived.Test.YtmglhkdgfcbonaaGreatDoorrSP
set_option maxHeartbeats 8000000
set_option maxRecDepth 100000
namespace Go.Proofs.YtmglhkdgfcbonaaGreatDoor
open Go.RowKit
set_option linter.unusedVariables false
set_option maxRecDepth 100000
theorem span_bn (f : Int) (T : M.Pt) (e0 e1 e2 e3 e4 : Int) (e5 : Bool) (A B C : Nat) (w : World)
 (kE : ∀ v : World, Calls Tryz.prog 29 #[.int .i64 f] v fun e w' => e = .returned (.agg #[.int .i64 e0, .int .i64 e1, .int .i64 e2, .int .i64 e3, .int .i64 e4, .bool e5]) ∧ Below v.heap.size v w') (kO : ∀ (v : World), Calls Tryz.prog 32 #[.agg #[.int .u64 (M.hiN T.s : Int), .int .u64 (M.loN T.s : Int)]] v fun e w' => Ret v w' e (D T.s)) (F4 : Nat) (kL2 : ∀ (v : World) (ao : Option Addr) (c : Nat), Rd v ao (D T.s) → Calls Tryz.prog 31 #[.slice ao (D T.s).length c, .int .i64 2] v fun e w' => Ret v w' e (D F4)) (k2 : ∀ (v : World), Calls Tryz.prog 39 #[.int .u64 2] v fun e w' => Ret v w' e (D 2)) (k1 : ∀ (v : World), Calls Tryz.prog 39 #[.int .u64 1] v fun e w' => Ret v w' e (D 1)) (H X : Nat) (kA : ∀ (v : World) (ao bo : Option Addr) (c d : Nat), Rd v ao (D F4) → Rd v bo (D 2) → Calls Tryz.prog 38 #[.slice ao (D F4).length c, .slice bo (D 2).length d] v fun e w' => Ret v w' e (D H)) (kS : ∀ (v : World) (ao bo : Option Addr) (c d : Nat), Rd v ao (D F4) → Rd v bo (D 2) → Calls Tryz.prog 69 #[.slice ao (D F4).length c, .slice bo (D 2).length d] v fun e w' => Ret v w' e (D X)) (hc : Hid (T.c = 3)) (LD : Nat) (cm : Int) (he1 : wrap64 (e0 - 1) = e0 - 1) (he2 : IntKind.i64.wrap (e0 - 1) = e0 - 1) (kT : ∀ (v : World) (z : Int), z = e0 - 1 → Calls Tryz.prog 60 #[.int .i64 z] v fun e w' => Ret v w' e (D LD)) (kC : ∀ (v : World) (ao bo : Option Addr) (c d : Nat), Rd v ao (D T.s) → Rd v bo (D LD) → Calls Tryz.prog 68 #[.slice ao (D T.s).length c, .slice bo (D LD).length d] v fun e w' => e = .returned (.int .i64 cm) ∧ Below v.heap.size v w') (hcm : ¬ cm = 0) (hcm2 : (cm == 0) = false) (z : Int) (hz : wrap64 (T.q - 2) = z) (hp : ¬ 0 ≤ z) (hn : wrap64 (-z) = -z) (hn2 : IntKind.i64.wrap (-z) = -z) (kT2 : ∀ (v : World) (y : Int), y = -z → Calls Tryz.prog 60 #[.int .i64 y] v fun e w' => Ret v w' e (D C)) (hA : A = X) (hB : B = H)  :
 Calls Tryz.prog 30 #[.int .i64 f, .agg #[.int .i64 T.c, .bool T.n, .int .u64 (M.hiN T.s : Int), .int .u64 (M.loN T.s : Int), .int .i64 T.q]] w fun e w' => Sp3 w w' e A B C := by
 have b0 : Below w.heap.size w (w.alloc (.cells #[.int .i64 T.c, .bool T.n, .int .u64 (M.hiN T.s : Int), .int .u64 (M.loN T.s : Int), .int .i64 T.q] 42)) := (Below.refl _ _).alloc (Nat.le_refl _) _
 have P0 : P5 (w.alloc (.cells #[.int .i64 T.c, .bool T.n, .int .u64 (M.hiN T.s : Int), .int .u64 (M.loN T.s : Int), .int .i64 T.q] 42)) w.heap.size T := P5_new w T
 generalize hV : (w.alloc (.cells #[.int .i64 T.c, .bool T.n, .int .u64 (M.hiN T.s : Int), .int .u64 (M.loN T.s : Int), .int .i64 T.q] 42)) = v0 at *
 go_enter Tryz.func30, Tryz.ntmps30
 go_upto_region 1 with fail
 clear hV
 go_wp2_with fail
 refine (kE _).mono ?_
 rintro e v1 ⟨rfl, hb1⟩
 replace b0 := b0.trans (hb1.mono b0.size)
 replace P0 := P0.below hb1
 clear hb1 kE
 go_upto_region 2 with fail
 have bA : Below v1.heap.size v1 (v1.alloc (.cells #[.int .i64 e0, .int .i64 e1, .int .i64 e2, .int .i64 e3, .int .i64 e4, .bool e5] 61)) := (Below.refl _ _).alloc (Nat.le_refl _) _
 have J0 : Cv w (v1.alloc (.cells #[.int .i64 e0, .int .i64 e1, .int .i64 e2, .int .i64 e3, .int .i64 e4, .bool e5] 61)) v1.heap.size e0 e1 e2 e3 e4 e5 T := ⟨b0.trans (bA.mono b0.size), D6_new v1 _ _ _ _ _ _ _, P0.below bA⟩
 clear bA b0 P0
 generalize (v1.alloc (.cells #[.int .i64 e0, .int .i64 e1, .int .i64 e2, .int .i64 e3, .int .i64 e4, .bool e5] 61)) = v2 at *
 generalize v1.heap.size = gd at *
 obtain ⟨p0, p1, p2, p3, p4, -⟩ := id J0.p
 go_wp2_with fail
 refine (kO _).mono ?_
 rintro e va ⟨sa, sc, rfl, ho, hb⟩
 have rs := Rd.own ho
 replace J0 := J0.below hb
 clear hb ho
 clear p0 p1 p2 p3 p4
 go_wp2_with fail
 refine (kL2 _ _ _ rs).mono ?_
 rintro e vb ⟨fa, fc, rfl, ho, hb⟩
 have rf := Rd.own ho
 replace J0 := J0.below hb
 clear hb ho
 clear rs kL2
 go_wp2_with fail
 refine (k2 _).mono ?_
 rintro e vc ⟨ta, tc, rfl, ho, hb⟩
 have rt := Rd.own ho
 replace rf := rf.below hb
 replace J0 := J0.below hb
 clear hb ho
 go_wp2_with fail
 refine (kA _ _ _ _ _ rf rt).mono ?_
 rintro e vd ⟨ha, hc0, rfl, ho, hb⟩
 have rh := Rd.own ho
 replace rf := rf.below hb
 replace J0 := J0.below hb
 clear hb ho
 clear rt kA
 go_wp2_with fail
 refine (k2 _).mono ?_
 rintro e ve ⟨ta, tc, rfl, ho, hb⟩
 have rt := Rd.own ho
 replace rf := rf.below hb
 replace rh := rh.below hb
 replace J0 := J0.below hb
 clear hb ho
 go_wp2_with fail
 refine (kS _ _ _ _ _ rf rt).mono ?_
 rintro e vf ⟨xa, xc, rfl, ho, hb⟩
 have rx := Rd.own ho
 replace rf := rf.below hb
 replace rh := rh.below hb
 replace J0 := J0.below hb
 clear hb ho
 clear rt kS
 obtain ⟨p0, p1, p2, p3, p4, -⟩ := id J0.p
 rw [hc.out] at p0
 go_upto_region 5 with fail
 clear p0 p1 p2 p3 p4
 have A0 : Below vf.heap.size vf vf.drew := (Below.refl _ _).drew
 go_cut [48] (fun z wx => z = .bool false ∧ Below vf.heap.size vf wx)
 case first =>
  obtain ⟨d0, d1, d2, d3, d4, d5, -⟩ := (J0.below A0).d
  obtain ⟨p0, p1, p2, p3, p4, -⟩ := (J0.below A0).p
  rw [hc.out] at p0
  refine wp_region_any (by kernel_rfl) ?_
  change wpAny _ _ _ _ _ _ _ (World.drew _)
  refine wpAny_take (i := 0) (v := ?_) rfl (by kernel_rfl) (by kernel_rfl) (by kernel_rfl) (fun _ _ _ h => h) (Or.inl ⟨by kernel_rfl, ?_⟩) ?_
  rotate_left
  · (intro w; first | (go_simp; done) | (go_simp; with_reducible rfl) | with_reducible rfl)
  refine wpAny_ready (rs := [1]) (by kernel_rfl) (by simp) ?_
  refine AllReady.cons rfl (fun K hK => ?_) AllReady.nil
  go_simp
  refine hK _ _ ?_
  clear hK K
  refine wpAny_take (i := 2) (v := ?_) rfl (by kernel_rfl) (by kernel_rfl) (by kernel_rfl) (fun _ _ _ h => h) (Or.inl ⟨by kernel_rfl, ?_⟩) ?_
  rotate_left
  · (intro w; first | (go_simp; done) | (go_simp; with_reducible rfl) | with_reducible rfl)
  refine wpAny_take (i := 3) (v := ?_) rfl (by kernel_rfl) (by kernel_rfl) (by kernel_rfl) (fun _ _ _ h => h) (Or.inl ⟨by kernel_rfl, ?_⟩) ?_
  rotate_left
  · (intro w; first | (go_simp; done) | (go_simp; with_reducible rfl) | with_reducible rfl)
  refine wpAny_take (i := 4) (v := ?_) rfl (by kernel_rfl) (by kernel_rfl) (by kernel_rfl) (fun _ _ _ h => h) (Or.inl ⟨by kernel_rfl, ?_⟩) ?_
  rotate_left
  · (intro w; first | (go_simp; done) | (go_simp; with_reducible rfl) | with_reducible rfl)
  refine wpAny_take (i := 7) (v := ?_) rfl (by kernel_rfl) (by kernel_rfl) (by kernel_rfl) (fun _ _ _ h => h) (Or.inl ⟨by kernel_rfl, ?_⟩) ?_
  rotate_left
  · (intro w; first | (go_simp; done) | (go_simp; with_reducible rfl) | with_reducible rfl)
  refine wpAny_ready (rs := [5, 8]) (by kernel_rfl) (by simp) ?_
  refine AllReady.cons rfl (fun K hK => ?_) (AllReady.cons rfl (fun K hK => ?_) AllReady.nil)
  · go_simp
    refine hK _ _ ?_
    clear hK K
    refine wpAny_ready (rs := [6, 8]) (by kernel_rfl) (by simp) ?_
    refine AllReady.cons rfl (fun K hK => ?_) (AllReady.cons rfl (fun K hK => ?_) AllReady.nil)
    · go_simp
      go_at_call 32; refine (kO _).mono ?_; rintro e u1 ⟨ga, gc, rfl, ho1, hb0⟩; have g1 := Rd.own ho1; have hb1 := keepC (w1 := vf) A0 hb0; clear hb0 ho1; obtain ⟨m0, m1, m2, m3, m4, m5, -⟩ := (J0.below hb1).d; obtain ⟨n0, n1, n2, n3, n4, -⟩ := (J0.below hb1).p; rw [hc.out] at n0
      go_simp
      refine hK _ _ ?_
      clear hK K
      refine wpAny_ready (rs := [8]) (by kernel_rfl) (by simp) ?_
      refine AllReady.cons rfl (fun K hK => ?_) AllReady.nil
      go_simp
      refine hK _ _ ?_
      clear hK K
      refine wpAny_take (i := 9) (v := ?_) rfl (by kernel_rfl) (by kernel_rfl) (by kernel_rfl) (fun _ _ _ h => h) (Or.inl ⟨by kernel_rfl, ?_⟩) ?_
      rotate_left
      · (intro w; first | (go_simp; done) | (go_simp; with_reducible rfl) | with_reducible rfl)
      refine wpAny_ready (rs := [10]) (by kernel_rfl) (by simp) ?_
      refine AllReady.cons rfl (fun K hK => ?_) AllReady.nil
      go_simp
      have hq := hb1; clear hq; go_at_call 60; refine (kT _ _ (by first | with_reducible rfl | with_reducible assumption)).mono ?_; rintro e u2 ⟨ha, hcp, rfl, ho2, hb0⟩; have g2 := Rd.own ho2; replace g1 := g1.below hb0; have hb2 := keepC (w1 := vf) hb1 hb0; clear hb0 ho2; obtain ⟨m0, m1, m2, m3, m4, m5, -⟩ := (J0.below hb2).d; obtain ⟨n0, n1, n2, n3, n4, -⟩ := (J0.below hb2).p; rw [hc.out] at n0
      go_simp
      refine hK _ _ ?_
      clear hK K
      refine wpAny_ready (rs := [11]) (by kernel_rfl) (by simp) ?_
      refine AllReady.cons rfl (fun K hK => ?_) AllReady.nil
      go_simp
      have hq := hb2; clear hq; go_at_call 68; refine (kC _ _ _ _ _ g1 g2).mono ?_; rintro e u3 ⟨rfl, hb0⟩; have hb3 := keepC (w1 := vf) hb2 hb0; clear hb0; obtain ⟨m0, m1, m2, m3, m4, m5, -⟩ := (J0.below hb3).d; obtain ⟨n0, n1, n2, n3, n4, -⟩ := (J0.below hb3).p; rw [hc.out] at n0
      go_simp
      refine hK _ _ ?_
      clear hK K
      refine wpAny_take (i := 12) (v := ?_) rfl (by kernel_rfl) (by kernel_rfl) (by kernel_rfl) (fun _ _ _ h => h) (Or.inl ⟨by kernel_rfl, ?_⟩) ?_
      rotate_left
      · (intro w; first | (go_simp; done) | (go_simp; with_reducible rfl) | with_reducible rfl)
      refine wpAny_take (i := 13) (v := ?_) rfl (by kernel_rfl) (by kernel_rfl) (by kernel_rfl) (fun _ _ _ h => h) (Or.inl ⟨by kernel_rfl, ?_⟩) ?_
      rotate_left
      · (intro w; first | (go_simp; done) | (go_simp; with_reducible rfl) | with_reducible rfl)
      refine wpAny_take (i := 14) (v := ?_) rfl (by kernel_rfl) (by kernel_rfl) (by kernel_rfl) (fun _ _ _ h => h) (Or.inl ⟨by kernel_rfl, ?_⟩) ?_
      rotate_left
      · (intro w; first | (go_simp; done) | (go_simp; with_reducible rfl) | with_reducible rfl)
      refine wpAny_take (i := 15) (v := undef) rfl (by kernel_rfl) (by kernel_rfl) (by kernel_rfl) (fun _ _ _ h => h) (Or.inr ⟨by kernel_rfl, rfl⟩) ?_
      refine wpAny_take (i := 16) (v := undef) rfl (by kernel_rfl) (by kernel_rfl) (by kernel_rfl) (fun _ _ _ h => h) (Or.inr ⟨by kernel_rfl, rfl⟩) ?_
      refine wpAny_take (i := 17) (v := undef) rfl (by kernel_rfl) (by kernel_rfl) (by kernel_rfl) (fun _ _ _ h => h) (Or.inr ⟨by kernel_rfl, rfl⟩) ?_
      refine wpAny_take (i := 18) (v := undef) rfl (by kernel_rfl) (by kernel_rfl) (by kernel_rfl) (fun _ _ _ h => h) (Or.inr ⟨by kernel_rfl, rfl⟩) ?_
      refine wpAny_take (i := 19) (v := undef) rfl (by kernel_rfl) (by kernel_rfl) (by kernel_rfl) (fun _ _ _ h => h) (Or.inr ⟨by kernel_rfl, rfl⟩) ?_
      refine wpAny_take (i := 20) (v := undef) rfl (by kernel_rfl) (by kernel_rfl) (by kernel_rfl) (fun _ _ _ h => h) (Or.inr ⟨by kernel_rfl, rfl⟩) ?_
      refine wpAny_take (i := 21) (v := undef) rfl (by kernel_rfl) (by kernel_rfl) (by kernel_rfl) (fun _ _ _ h => h) (Or.inr ⟨by kernel_rfl, rfl⟩) ?_
      refine wpAny_take (i := 22) (v := undef) rfl (by kernel_rfl) (by kernel_rfl) (by kernel_rfl) (fun _ _ _ h => h) (Or.inr ⟨by kernel_rfl, rfl⟩) ?_
      refine wpAny_take (i := 23) (v := undef) rfl (by kernel_rfl) (by kernel_rfl) (by kernel_rfl) (fun _ _ _ h => h) (Or.inr ⟨by kernel_rfl, rfl⟩) ?_
      refine wpAny_ready (rs := [24]) (by kernel_rfl) (by simp) ?_
      refine AllReady.cons rfl (fun K hK => ?_) AllReady.nil
      go_simp
      refine hK _ _ ?_
      clear hK K
      refine wpAny_done (by kernel_rfl) ?_ _
      go_wp2_with fail
      go_meet
      exact ⟨rfl, hb3⟩
    · go_simp
      refine hK _ _ ?_
      clear hK K
      refine wpAny_take (i := 9) (v := ?_) rfl (by kernel_rfl) (by kernel_rfl) (by kernel_rfl) (fun _ _ _ h => h) (Or.inl ⟨by kernel_rfl, ?_⟩) ?_
      rotate_left
      · (intro w; first | (go_simp; done) | (go_simp; with_reducible rfl) | with_reducible rfl)
      refine wpAny_ready (rs := [6]) (by kernel_rfl) (by simp) ?_
      refine AllReady.cons rfl (fun K hK => ?_) AllReady.nil
      go_simp
      go_at_call 32; refine (kO _).mono ?_; rintro e u1 ⟨ga, gc, rfl, ho1, hb0⟩; have g1 := Rd.own ho1; have hb1 := keepC (w1 := vf) A0 hb0; clear hb0 ho1; obtain ⟨m0, m1, m2, m3, m4, m5, -⟩ := (J0.below hb1).d; obtain ⟨n0, n1, n2, n3, n4, -⟩ := (J0.below hb1).p; rw [hc.out] at n0
      go_simp
      refine hK _ _ ?_
      clear hK K
      refine wpAny_ready (rs := [10]) (by kernel_rfl) (by simp) ?_
      refine AllReady.cons rfl (fun K hK => ?_) AllReady.nil
      go_simp
      have hq := hb1; clear hq; go_at_call 60; refine (kT _ _ (by first | with_reducible rfl | with_reducible assumption)).mono ?_; rintro e u2 ⟨ha, hcp, rfl, ho2, hb0⟩; have g2 := Rd.own ho2; replace g1 := g1.below hb0; have hb2 := keepC (w1 := vf) hb1 hb0; clear hb0 ho2; obtain ⟨m0, m1, m2, m3, m4, m5, -⟩ := (J0.below hb2).d; obtain ⟨n0, n1, n2, n3, n4, -⟩ := (J0.below hb2).p; rw [hc.out] at n0
      go_simp
      refine hK _ _ ?_
      clear hK K
      refine wpAny_ready (rs := [11]) (by kernel_rfl) (by simp) ?_
      refine AllReady.cons rfl (fun K hK => ?_) AllReady.nil
      go_simp
      have hq := hb2; clear hq; go_at_call 68; refine (kC _ _ _ _ _ g1 g2).mono ?_; rintro e u3 ⟨rfl, hb0⟩; have hb3 := keepC (w1 := vf) hb2 hb0; clear hb0; obtain ⟨m0, m1, m2, m3, m4, m5, -⟩ := (J0.below hb3).d; obtain ⟨n0, n1, n2, n3, n4, -⟩ := (J0.below hb3).p; rw [hc.out] at n0
      go_simp
      refine hK _ _ ?_
      clear hK K
      refine wpAny_take (i := 12) (v := ?_) rfl (by kernel_rfl) (by kernel_rfl) (by kernel_rfl) (fun _ _ _ h => h) (Or.inl ⟨by kernel_rfl, ?_⟩) ?_
      rotate_left
      · (intro w; first | (go_simp; done) | (go_simp; with_reducible rfl) | with_reducible rfl)
      refine wpAny_take (i := 13) (v := ?_) rfl (by kernel_rfl) (by kernel_rfl) (by kernel_rfl) (fun _ _ _ h => h) (Or.inl ⟨by kernel_rfl, ?_⟩) ?_
      rotate_left
      · (intro w; first | (go_simp; done) | (go_simp; with_reducible rfl) | with_reducible rfl)
      refine wpAny_take (i := 14) (v := ?_) rfl (by kernel_rfl) (by kernel_rfl) (by kernel_rfl) (fun _ _ _ h => h) (Or.inl ⟨by kernel_rfl, ?_⟩) ?_
      rotate_left
      · (intro w; first | (go_simp; done) | (go_simp; with_reducible rfl) | with_reducible rfl)
      refine wpAny_take (i := 15) (v := undef) rfl (by kernel_rfl) (by kernel_rfl) (by kernel_rfl) (fun _ _ _ h => h) (Or.inr ⟨by kernel_rfl, rfl⟩) ?_
      refine wpAny_take (i := 16) (v := undef) rfl (by kernel_rfl) (by kernel_rfl) (by kernel_rfl) (fun _ _ _ h => h) (Or.inr ⟨by kernel_rfl, rfl⟩) ?_
      refine wpAny_take (i := 17) (v := undef) rfl (by kernel_rfl) (by kernel_rfl) (by kernel_rfl) (fun _ _ _ h => h) (Or.inr ⟨by kernel_rfl, rfl⟩) ?_
      refine wpAny_take (i := 18) (v := undef) rfl (by kernel_rfl) (by kernel_rfl) (by kernel_rfl) (fun _ _ _ h => h) (Or.inr ⟨by kernel_rfl, rfl⟩) ?_
      refine wpAny_take (i := 19) (v := undef) rfl (by kernel_rfl) (by kernel_rfl) (by kernel_rfl) (fun _ _ _ h => h) (Or.inr ⟨by kernel_rfl, rfl⟩) ?_
      refine wpAny_take (i := 20) (v := undef) rfl (by kernel_rfl) (by kernel_rfl) (by kernel_rfl) (fun _ _ _ h => h) (Or.inr ⟨by kernel_rfl, rfl⟩) ?_
      refine wpAny_take (i := 21) (v := undef) rfl (by kernel_rfl) (by kernel_rfl) (by kernel_rfl) (fun _ _ _ h => h) (Or.inr ⟨by kernel_rfl, rfl⟩) ?_
      refine wpAny_take (i := 22) (v := undef) rfl (by kernel_rfl) (by kernel_rfl) (by kernel_rfl) (fun _ _ _ h => h) (Or.inr ⟨by kernel_rfl, rfl⟩) ?_
      refine wpAny_take (i := 23) (v := undef) rfl (by kernel_rfl) (by kernel_rfl) (by kernel_rfl) (fun _ _ _ h => h) (Or.inr ⟨by kernel_rfl, rfl⟩) ?_
      refine wpAny_ready (rs := [24]) (by kernel_rfl) (by simp) ?_
      refine AllReady.cons rfl (fun K hK => ?_) AllReady.nil
      go_simp
      refine hK _ _ ?_
      clear hK K
      refine wpAny_done (by kernel_rfl) ?_ _
      go_wp2_with fail
      go_meet
      exact ⟨rfl, hb3⟩
  · go_simp
    refine hK _ _ ?_
    clear hK K
    refine wpAny_take (i := 9) (v := ?_) rfl (by kernel_rfl) (by kernel_rfl) (by kernel_rfl) (fun _ _ _ h => h) (Or.inl ⟨by kernel_rfl, ?_⟩) ?_
    rotate_left
    · (intro w; first | (go_simp; done) | (go_simp; with_reducible rfl) | with_reducible rfl)
    refine wpAny_ready (rs := [5]) (by kernel_rfl) (by simp) ?_
    refine AllReady.cons rfl (fun K hK => ?_) AllReady.nil
    go_simp
    refine hK _ _ ?_
    clear hK K
    refine wpAny_ready (rs := [6]) (by kernel_rfl) (by simp) ?_
    refine AllReady.cons rfl (fun K hK => ?_) AllReady.nil
    go_simp
    go_at_call 32; refine (kO _).mono ?_; rintro e u1 ⟨ga, gc, rfl, ho1, hb0⟩; have g1 := Rd.own ho1; have hb1 := keepC (w1 := vf) A0 hb0; clear hb0 ho1; obtain ⟨m0, m1, m2, m3, m4, m5, -⟩ := (J0.below hb1).d; obtain ⟨n0, n1, n2, n3, n4, -⟩ := (J0.below hb1).p; rw [hc.out] at n0
    go_simp
    refine hK _ _ ?_
    clear hK K
    refine wpAny_ready (rs := [10]) (by kernel_rfl) (by simp) ?_
    refine AllReady.cons rfl (fun K hK => ?_) AllReady.nil
    go_simp
    have hq := hb1; clear hq; go_at_call 60; refine (kT _ _ (by first | with_reducible rfl | with_reducible assumption)).mono ?_; rintro e u2 ⟨ha, hcp, rfl, ho2, hb0⟩; have g2 := Rd.own ho2; replace g1 := g1.below hb0; have hb2 := keepC (w1 := vf) hb1 hb0; clear hb0 ho2; obtain ⟨m0, m1, m2, m3, m4, m5, -⟩ := (J0.below hb2).d; obtain ⟨n0, n1, n2, n3, n4, -⟩ := (J0.below hb2).p; rw [hc.out] at n0
    go_simp
    refine hK _ _ ?_
    clear hK K
    refine wpAny_ready (rs := [11]) (by kernel_rfl) (by simp) ?_
    refine AllReady.cons rfl (fun K hK => ?_) AllReady.nil
    go_simp
    have hq := hb2; clear hq; go_at_call 68; refine (kC _ _ _ _ _ g1 g2).mono ?_; rintro e u3 ⟨rfl, hb0⟩; have hb3 := keepC (w1 := vf) hb2 hb0; clear hb0; obtain ⟨m0, m1, m2, m3, m4, m5, -⟩ := (J0.below hb3).d; obtain ⟨n0, n1, n2, n3, n4, -⟩ := (J0.below hb3).p; rw [hc.out] at n0
    go_simp
    refine hK _ _ ?_
    clear hK K
    refine wpAny_take (i := 12) (v := ?_) rfl (by kernel_rfl) (by kernel_rfl) (by kernel_rfl) (fun _ _ _ h => h) (Or.inl ⟨by kernel_rfl, ?_⟩) ?_
    rotate_left
    · (intro w; first | (go_simp; done) | (go_simp; with_reducible rfl) | with_reducible rfl)
    refine wpAny_take (i := 13) (v := ?_) rfl (by kernel_rfl) (by kernel_rfl) (by kernel_rfl) (fun _ _ _ h => h) (Or.inl ⟨by kernel_rfl, ?_⟩) ?_
    rotate_left
    · (intro w; first | (go_simp; done) | (go_simp; with_reducible rfl) | with_reducible rfl)
    refine wpAny_take (i := 14) (v := ?_) rfl (by kernel_rfl) (by kernel_rfl) (by kernel_rfl) (fun _ _ _ h => h) (Or.inl ⟨by kernel_rfl, ?_⟩) ?_
    rotate_left
    · (intro w; first | (go_simp; done) | (go_simp; with_reducible rfl) | with_reducible rfl)
    refine wpAny_take (i := 15) (v := undef) rfl (by kernel_rfl) (by kernel_rfl) (by kernel_rfl) (fun _ _ _ h => h) (Or.inr ⟨by kernel_rfl, rfl⟩) ?_
    refine wpAny_take (i := 16) (v := undef) rfl (by kernel_rfl) (by kernel_rfl) (by kernel_rfl) (fun _ _ _ h => h) (Or.inr ⟨by kernel_rfl, rfl⟩) ?_
    refine wpAny_take (i := 17) (v := undef) rfl (by kernel_rfl) (by kernel_rfl) (by kernel_rfl) (fun _ _ _ h => h) (Or.inr ⟨by kernel_rfl, rfl⟩) ?_
    refine wpAny_take (i := 18) (v := undef) rfl (by kernel_rfl) (by kernel_rfl) (by kernel_rfl) (fun _ _ _ h => h) (Or.inr ⟨by kernel_rfl, rfl⟩) ?_
    refine wpAny_take (i := 19) (v := undef) rfl (by kernel_rfl) (by kernel_rfl) (by kernel_rfl) (fun _ _ _ h => h) (Or.inr ⟨by kernel_rfl, rfl⟩) ?_
    refine wpAny_take (i := 20) (v := undef) rfl (by kernel_rfl) (by kernel_rfl) (by kernel_rfl) (fun _ _ _ h => h) (Or.inr ⟨by kernel_rfl, rfl⟩) ?_
    refine wpAny_take (i := 21) (v := undef) rfl (by kernel_rfl) (by kernel_rfl) (by kernel_rfl) (fun _ _ _ h => h) (Or.inr ⟨by kernel_rfl, rfl⟩) ?_
    refine wpAny_take (i := 22) (v := undef) rfl (by kernel_rfl) (by kernel_rfl) (by kernel_rfl) (fun _ _ _ h => h) (Or.inr ⟨by kernel_rfl, rfl⟩) ?_
    refine wpAny_take (i := 23) (v := undef) rfl (by kernel_rfl) (by kernel_rfl) (by kernel_rfl) (fun _ _ _ h => h) (Or.inr ⟨by kernel_rfl, rfl⟩) ?_
    refine wpAny_ready (rs := [24]) (by kernel_rfl) (by simp) ?_
    refine AllReady.cons rfl (fun K hK => ?_) AllReady.nil
    go_simp
    refine hK _ _ ?_
    clear hK K
    refine wpAny_done (by kernel_rfl) ?_ _
    go_wp2_with fail
    go_meet
    exact ⟨rfl, hb3⟩
 rename World => vg
 obtain ⟨rfl, hbx⟩ := hcut
 replace J0 := J0.below hbx
 replace rf := rf.below hbx
 replace rh := rh.below hbx
 replace rx := rx.below hbx
 clear hbx A0
 obtain ⟨p0, p1, p2, p3, p4, -⟩ := id J0.p
 go_wp2_with fail
 refine (kT2 _ _ (by first | with_reducible rfl | with_reducible assumption)).mono ?_
 rintro e w1 ⟨ka, kc, rfl, ho, hb⟩
 have rk := Rd.own ho
 replace rx := rx.below hb
 replace rh := rh.below hb
 replace J0 := J0.below hb
 clear hb ho
 subst hA
 subst hB
 have HB := hid J0.b
 have HR := hid (And.intro rx (And.intro rh rk))
 clear J0 rx rh rk p0 p1 p2 p3 p4 rf
 go_wp2_with fail
 exact bodyPost_ret (v := .tuple #[.slice xa (D A).length xc, .slice ha (D B).length hc0, .slice ka (D C).length kc]) (by simp [results, Tryz.results30, go_sem]) rfl ⟨_, _, _, _, _, _, rfl, HR.out.1, HR.out.2.1, HR.out.2.2, HB.out⟩

end Go.Proofs.YtmglhkdgfcbonaaGreatDoor
