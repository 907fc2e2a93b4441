import Derived.Test.YtfdgkleoaehjaaaGreatDoorsGBD
set_option maxHeartbeats 16000000
set_option maxRecDepth 100000
namespace Go.Proofs.YtfdgkleoaehjaaaGreatDoor
open Go.RowKit
set_option linter.unusedVariables false
set_option maxRecDepth 100000
structure NJ (v w0 : World) (cs : List (Nat × Array Value × TypeId)) (l : List (Option Addr × Nat)) : Prop where
 rd : ∀ p ∈ l, Rd v p.1 (D p.2)
 cl : ∀ c ∈ cs, Cls v c.1 c.2.1 c.2.2
 b0 : Below w0.heap.size w0 v

theorem NJ.below {v w0 v' : World} {cs : List (Nat × Array Value × TypeId)} {l : List (Option Addr × Nat)} (h : NJ v w0 cs l) (hb : Below v.heap.size v v') : NJ v' w0 cs l := ⟨fun p hp => (h.rd p hp).below hb, fun c hc => (h.cl c hc).below hb, h.b0.trans (hb.mono h.b0.size)⟩

theorem NJ.own {v w0 v' : World} {cs : List (Nat × Array Value × TypeId)} {l : List (Option Addr × Nat)} (h : NJ v w0 cs l) {a : Option Addr} {N c : Nat} (o : v'.ownsRow v.heap.size 25 1 (.slice a (D N).length c) (D N).length (U (D N))) (hb : Below v.heap.size v v') : NJ v' w0 cs ((a, N) :: l) :=
 ⟨fun p hp => by rcases List.mem_cons.1 hp with rfl | hp; exact Rd.own o; exact (h.below hb).rd p hp, (h.below hb).cl, (h.below hb).b0⟩

theorem NJ.sub {v w0 : World} {cs : List (Nat × Array Value × TypeId)} {l m : List (Option Addr × Nat)} (h : NJ v w0 cs l) (hm : ∀ p ∈ m, p ∈ l) : NJ v w0 cs m := ⟨fun p hp => h.rd p (hm p hp), h.cl, h.b0⟩

theorem qR (s : Nat) (w : World) (hs : s <= 100000) :
 Calls Tryz.prog 43 #[.int .i64 (s : Int)] w fun e w' => Ret w w' e (D (2 ^ s)) := by
 go_enter Tryz.func43, Tryz.ntmps43;go_wp2_with fail;refine (bQ 1 _ (by omega)).mono ?_;rintro e v ⟨a, c, rfl, ho, hb⟩;have k := aT a _ c s 1 v rfl (by have := dC ho; have : (D 1).length <= 1 := aJ 1 1 1 (by omega) (by omega); omega) hs (Rd.own ho);rw [Nat.one_mul] at k;go_wp2_with fail;refine k.mono ?_;rintro e v2 ⟨a2, c2, rfl, ho2, hb2⟩;have B := hid (And.intro (aP ho2 hb.size) (hb.trans (hb2.mono hb.size)));clear ho2 hb2 k ho hb;go_wp2_with fail;go_ret;exact ⟨_, _, rfl, B.out.1, B.out.2⟩

theorem FZ (f : Int) (T : M.Pt) (F : M.Fm) (C : Nat) (w : World) (hs1 : 1 <= T.s) (hs : T.s < 2 ^ 128) (hq1 : -16700 <= T.q) (hq2 : T.q <= 16700) (hp1 : 2 <= F.p) (hp2 : F.p <= 113) (hm : F.emax <= 20000) (hC : C = 2 ^ (2 - T.q).toNat)
 (kE : ∀ v : World, Calls Tryz.prog 9 #[.int .i64 f] v fun e w' => e = .returned (dv F) /\ Below v.heap.size v w') :
 Calls Tryz.prog 119 #[.int .i64 f, pv T] w fun e w' => ∃ A B, (1 <= A /\ 1 <= B) /\ (D A).length <= 1500 /\ (D B).length <= 1500 /\ Sp3 w w' e A B C := by
 obtain ⟨cls, tn, ts, tq⟩ := T;simp only [dv, pv] at *;have hp1' : (2 : Int) <= (F.p : Int) := by omega
 have hp2' : (F.p : Int) <= 113 := by omega
 have hm1 : -20000 <= 1 - (F.emax : Int) := by omega
 have hm2 : 1 - (F.emax : Int) <= 1 := by omega
 generalize 1 - (F.emax : Int) = e1 at *;generalize (F.emax : Int) = e2 at *;generalize (F.wd : Int) = e3 at *;generalize (F.e : Int) = e4 at *;generalize F.x = e5 at *;generalize he0 : (F.p : Int) = e0 at *;have HE0 := hid he0;clear he0 hm;obtain ⟨P, hP⟩ : ∃ P : Array Value, P = #[.int .i64 cls, .bool tn, .int .u64 (M.hiN ts : Int), .int .u64 (M.loN ts : Int), .int .i64 tq] := ⟨_, rfl⟩;obtain ⟨Q, hQ⟩ : ∃ P : Array Value, P = #[.int .i64 e0, .int .i64 e1, .int .i64 e2, .int .i64 e3, .int .i64 e4, .bool e5] := ⟨_, rfl⟩;obtain ⟨v0, hv0⟩ : ∃ v, v = w.alloc (.cells P 67) := ⟨_, rfl⟩;have b0 : Below w.heap.size w v0 := by rw [hv0]; exact (Below.refl _ _).alloc (Nat.le_refl _) _
 have c0 : Cls v0 w.heap.size P 67 := by rw [hv0]; exact Cls.new _ _ _
 have HP := hid hP; have HQ := hid hQ; have HC := hid hC;obtain ⟨FO, hFO⟩ : ∃ x, ts * 2 ^ 2 = x := ⟨_, rfl⟩;have fo1 : 4 <= FO := by rw [<- hFO]; omega
 have fo2 : FO < 2 ^ 130 := by rw [<- hFO]; omega
 have lf : (D FO).length <= 5 := aJ FO 130 5 fo2 (by omega);have lh : (D (FO + 2)).length <= 5 := aJ _ 131 5 (by omega) (by omega);have ls : (D ts).length <= 4 := aJ _ 128 4 hs (by omega);have HFO := hid hFO; have HF2 := hid fo2
 have k1 := hid (fun v : World => bQ 1 v (by omega))
 have k2 := hid (fun v : World => bQ 2 v (by omega))
 have l1 : (D 1).length <= 1 := aJ 1 1 1 (by omega) (by omega);have l2 : (D 2).length <= 1 := aJ 2 2 1 (by omega) (by omega);rw [hP] at hv0;clear hP hQ hC hFO fo2;go_enter Tryz.func119, Tryz.ntmps119;go_upto_region 1 with fail;rw [<- hv0];clear hv0;go_wp2_with fail;refine (kE _).mono ?_;rintro e v1 ⟨rfl, hb⟩;obtain ⟨v2, hv2⟩ : ∃ v, v = v1.alloc (.cells Q 37) := ⟨_, rfl⟩;have b2 : Below v1.heap.size v1 v2 := by rw [hv2]; exact (Below.refl _ _).alloc (Nat.le_refl _) _
 have c2 : Cls v2 v1.heap.size Q 37 := by rw [hv2]; exact Cls.new _ _ _
 have J := hid (show NJ v2 w [(w.heap.size, P, 67), (v1.heap.size, Q, 37)] [] from ⟨fun p hp => (by cases hp), fun c hc => by
  simp at hc
  rcases hc with rfl | rfl
  . exact (c0.below hb).below b2
  . exact c2, (b0.trans (hb.mono b0.size)).trans (b2.mono (Nat.le_trans b0.size hb.size))⟩)
 rw [HQ.out] at hv2;clear hb b0 c0 b2 c2 kE;go_upto_region 2 with fail;rw [<- hv2];clear hv2;generalize v1.heap.size = gd at *
 have CP := hid (fun (v : World) (l : List (Option Addr × Nat)) (h : NJ v w [(w.heap.size, P, 67), (gd, Q, 37)] l) => show Cls v w.heap.size #[.int .i64 cls, .bool tn, .int .u64 (M.hiN ts : Int), .int .u64 (M.loN ts : Int), .int .i64 tq] 67 from by have := h.cl (w.heap.size, P, 67) (by simp); rw [HP.out] at this; exact this)
 have CD := hid (fun (v : World) (l : List (Option Addr × Nat)) (h : NJ v w [(w.heap.size, P, 67), (gd, Q, 37)] l) => show Cls v gd #[.int .i64 e0, .int .i64 e1, .int .i64 e2, .int .i64 e3, .int .i64 e4, .bool e5] 37 from by have := h.cl (gd, Q, 37) (by simp); rw [HQ.out] at this; exact this)
 have p2 := (CP.out _ _ J.out).cell 2 rfl; have p3 := (CP.out _ _ J.out).cell 3 rfl;go_wp2_with fail;refine (fR ts hs _).mono ?_;rintro e v3 ⟨sa, sc, rfl, o, hb⟩;have J := hid (J.out.own o hb);clear o hb p2 p3;go_wp2_with fail;refine (aT sa _ sc 2 ts _ rfl (by omega) (by omega) (J.out.rd (sa, ts) (by simp))).mono ?_;rw [HFO.out];rintro e v4 ⟨fa, fc, rfl, o, hb⟩;have J := hid (J.out.own o hb);clear o hb;go_wp2_with fail;refine (k2.out _).mono ?_;rintro e v5 ⟨oa, oc, rfl, o, hb⟩;have J := hid (J.out.own o hb);clear o hb;go_wp2_with fail;refine (cT fa oa _ _ fc oc FO 2 _ rfl rfl (by omega) (by omega) (J.out.rd (fa, FO) (by simp)) (J.out.rd (oa, 2) (by simp))).mono ?_;rintro e v6 ⟨ha, hc, rfl, o, hb⟩;have J := hid (J.out.own o hb);clear o hb;go_wp2_with fail;refine (k2.out _).mono ?_;rintro e v7 ⟨oa2, oc2, rfl, o, hb⟩;have J := hid (J.out.own o hb);clear o hb;go_wp2_with fail;refine (gJ fa oa2 _ _ fc oc2 FO 2 _ rfl rfl (by omega) (by omega) (J.out.rd (fa, FO) (by simp)) (J.out.rd (oa2, 2) (by simp))).mono ?_;rintro e v8 ⟨la, lc, rfl, o, hb⟩;have J := hid ((J.out.own o hb).sub (m := [(la, FO - 2), (ha, FO + 2), (fa, FO)]) (by simp));clear o hb;go_upto_region 5 with fail
 go_cut [48] (fun z wx => (∃ b : Bool, z = .bool b) /\ NJ wx w [(w.heap.size, P, 67), (gd, Q, 37)] [(la, FO - 2), (ha, FO + 2), (fa, FO)])
 case first =>
  as_aux_lemma =>
  have p0 := (CP.out _ _ J.out).cell 0 rfl
  by_cases hc3 : cls = 3
  . subst hc3;have A0 : Below v8.heap.size v8 v8.drew := (Below.refl _ _).drew
    have KB := hid (fun v (hv : Below v8.heap.size v8 v) => show (fun v => v.cell? ⟨gd, 0, none⟩ = some (.int .i64 e0) /\ v.cell? ⟨gd, 1, none⟩ = some (.int .i64 e1) /\ v.cell? ⟨w.heap.size, 0, none⟩ = some (.int .i64 3) /\ v.cell? ⟨w.heap.size, 2, none⟩ = some (.int .u64 (M.hiN ts : Int)) /\ v.cell? ⟨w.heap.size, 3, none⟩ = some (.int .u64 (M.loN ts : Int)) /\ v.cell? ⟨w.heap.size, 4, none⟩ = some (.int .i64 tq)) v from ⟨(CD.out _ _ (J.out.below hv)).cell 0 rfl, (CD.out _ _ (J.out.below hv)).cell 1 rfl, (CP.out _ _ (J.out.below hv)).cell 0 rfl, (CP.out _ _ (J.out.below hv)).cell 2 rfl, (CP.out _ _ (J.out.below hv)).cell 3 rfl, (CP.out _ _ (J.out.below hv)).cell 4 rfl⟩)
    have wp : IntKind.i64.wrap (e0 - 1) = e0 - 1 := by simp only [IntKind.wrap_i64]; omega
    have w1 : IntKind.i64.wrap (e1 - e0) = e1 - e0 := by simp only [IntKind.wrap_i64]; omega
    have w2 : IntKind.i64.wrap (e1 - e0 + 1) = e1 - e0 + 1 := by simp only [IntKind.wrap_i64]; omega
    obtain ⟨LE, hLE⟩ : ∃ x, 2 ^ (F.p - 1) = x := ⟨_, rfl⟩;have lLE : (D LE).length <= 4 := by rw [<- hLE]; exact aJ _ 113 4 (Nat.pow_lt_pow_right (by omega) (by omega)) (by omega)
    have kT := hid (fun v : World => show Calls Tryz.prog 43 #[.int .i64 (e0 - 1)] v fun e w' => Ret v w' e (D LE) from by
     have k := qR (F.p - 1) v (by omega)
     rw [show ((F.p - 1 : Nat) : Int) = e0 - 1 by have := HE0.out; omega, hLE] at k; exact k)
    obtain ⟨cz, hcz⟩ : ∃ x, aY (ts : Int) (LE : Int) = x := ⟨_, rfl⟩
    have kC := hid (fun (a b : Option Addr) (c d : Nat) (v : World) (r1 : Rd v a (D ts)) (r2 : Rd v b (D LE)) => show Calls Tryz.prog 59 #[.slice a (D ts).length c, .slice b (D LE).length d] v fun e w' => e = .returned (.int .i64 cz) /\ Below v.heap.size v w' from by
     have k := dL a b _ _ c d ts LE v rfl rfl (by omega) (by omega) r1 r2;rw [hcz] at k;refine k.mono ?_;rintro e w' ⟨rfl, rfl⟩
     exact ⟨rfl, Below.refl _ _⟩)
    have HJ := hid (fun u (hu : Below v8.heap.size v8 u) => J.out.below hu)
    clear p0 J hLE hcz CP CD
    by_cases c0 : cz = 0
    . subst c0
      first | (go_region_held3 (fun v => v.cell? ⟨gd, 0, none⟩ = some (.int .i64 e0) /\ v.cell? ⟨gd, 1, none⟩ = some (.int .i64 e1) /\ v.cell? ⟨w.heap.size, 0, none⟩ = some (.int .i64 3) /\ v.cell? ⟨w.heap.size, 2, none⟩ = some (.int .u64 (M.hiN ts : Int)) /\ v.cell? ⟨w.heap.size, 3, none⟩ = some (.int .u64 (M.loN ts : Int)) /\ v.cell? ⟨w.heap.size, 4, none⟩ = some (.int .i64 tq)) (first | with_reducible exact KB.out _ hb3 | with_reducible exact KB.out _ hb2 | with_reducible exact KB.out _ hb1 | with_reducible exact KB.out _ A0) (first | (have hq := hb2; clear hq; go_at_call 59; refine (kC.out _ _ _ _ _ g1 g2).mono ?_; rintro e u3 ⟨rfl, hb0⟩; have hb3 := aC (w1 := v8) hb2 hb0; clear hb0) | (have hq := hb1; clear hq; go_at_call 43; refine (kT.out _).mono ?_; rintro e u2 ⟨ha9, hcp, rfl, ho2, hb0⟩; have g2 := Rd.own ho2; replace g1 := g1.below hb0; have hb2 := aC (w1 := v8) hb1 hb0; clear hb0 ho2) | (go_at_call 63; refine (fR ts hs _).mono ?_; rintro e u1 ⟨ga, gc, rfl, ho1, hb0⟩; have g1 := Rd.own ho1; have hb1 := aC (w1 := v8) A0 hb0; clear hb0 ho1))) | fail
      all_goals go_wp2_with fail
      all_goals go_meet
      all_goals exact ⟨⟨_, rfl⟩, HJ.out _ hb3⟩
    . have c0' : (cz == 0) = false := by simpa using c0
      obtain ⟨d0, d1, p0, p2, p3, p4⟩ := KB.out _ A0;refine wp_region_any (by kernel_rfl) ?_;change wpAny _ _ _ _ _ _ _ (World.drew _)
      refine wpAny_take (i := 0) (v := ?_) rfl (by kernel_rfl) (by kernel_rfl) (by kernel_rfl) (fun _ _ _ h => h) (Or.inl ⟨by kernel_rfl, ?_⟩) ?_
      rotate_left
      . (intro w; first | (go_simp; done) | (go_simp; with_reducible rfl) | with_reducible rfl)
      change wpAny _ _ _ _ _ _ (Act.put _ (some 24) _) _;simp only [Act.put, List.setIfInBounds_toArray, List.set_cons_zero, List.set_cons_succ];refine wpAny_ready (rs := [1]) (by kernel_rfl) (by simp) ?_
      refine AllReady.cons rfl (fun K hK => ?_) AllReady.nil
      go_simp;refine hK _ _ ?_;clear hK K
      refine wpAny_take (i := 2) (v := ?_) rfl (by kernel_rfl) (by kernel_rfl) (by kernel_rfl) (fun _ _ _ h => h) (Or.inl ⟨by kernel_rfl, ?_⟩) ?_
      rotate_left
      . (intro w; first | (go_simp; done) | (go_simp; with_reducible rfl) | with_reducible rfl)
      change wpAny _ _ _ _ _ _ (Act.put _ (some 26) _) _;simp only [Act.put, List.setIfInBounds_toArray, List.set_cons_zero, List.set_cons_succ]
      refine wpAny_take (i := 3) (v := ?_) rfl (by kernel_rfl) (by kernel_rfl) (by kernel_rfl) (fun _ _ _ h => h) (Or.inl ⟨by kernel_rfl, ?_⟩) ?_
      rotate_left
      . (intro w; first | (go_simp; done) | (go_simp; with_reducible rfl) | with_reducible rfl)
      change wpAny _ _ _ _ _ _ (Act.put _ (some 27) _) _;simp only [Act.put, List.setIfInBounds_toArray, List.set_cons_zero, List.set_cons_succ]
      refine wpAny_take (i := 4) (v := ?_) rfl (by kernel_rfl) (by kernel_rfl) (by kernel_rfl) (fun _ _ _ h => h) (Or.inl ⟨by kernel_rfl, ?_⟩) ?_
      rotate_left
      . (intro w; first | (go_simp; done) | (go_simp; with_reducible rfl) | with_reducible rfl)
      change wpAny _ _ _ _ _ _ (Act.put _ (some 28) _) _;simp only [Act.put, List.setIfInBounds_toArray, List.set_cons_zero, List.set_cons_succ]
      refine wpAny_take (i := 7) (v := ?_) rfl (by kernel_rfl) (by kernel_rfl) (by kernel_rfl) (fun _ _ _ h => h) (Or.inl ⟨by kernel_rfl, ?_⟩) ?_
      rotate_left
      . (intro w; first | (go_simp; done) | (go_simp; with_reducible rfl) | with_reducible rfl)
      change wpAny _ _ _ _ _ _ (Act.put _ (some 31) _) _;simp only [Act.put, List.setIfInBounds_toArray, List.set_cons_zero, List.set_cons_succ];refine wpAny_ready (rs := [5, 8]) (by kernel_rfl) (by simp) ?_
      refine AllReady.cons rfl (fun K hK => ?_) (AllReady.cons rfl (fun K hK => ?_) AllReady.nil)
      go_simp;refine hK _ _ ?_;clear hK K;refine wpAny_ready (rs := [6, 8]) (by kernel_rfl) (by simp) ?_
      refine AllReady.cons rfl (fun K hK => ?_) (AllReady.cons rfl (fun K hK => ?_) AllReady.nil)
      go_simp
      go_at_call 63; refine (fR ts hs _).mono ?_; rintro e u1 ⟨ga, gc, rfl, ho1, hb0⟩; have g1 := Rd.own ho1; have hb1 := aC (w1 := v8) A0 hb0; clear hb0 ho1; obtain ⟨m0, m1, n0, n2, n3, n4⟩ := KB.out _ hb1
      go_simp;refine hK _ _ ?_;clear hK K;refine wpAny_ready (rs := [8]) (by kernel_rfl) (by simp) ?_
      refine AllReady.cons rfl (fun K hK => ?_) AllReady.nil
      go_simp;refine hK _ _ ?_;clear hK K
      refine wpAny_take (i := 9) (v := ?_) rfl (by kernel_rfl) (by kernel_rfl) (by kernel_rfl) (fun _ _ _ h => h) (Or.inl ⟨by kernel_rfl, ?_⟩) ?_
      rotate_left
      . (intro w; first | (go_simp; done) | (go_simp; with_reducible rfl) | with_reducible rfl)
      change wpAny _ _ _ _ _ _ (Act.put _ (some 33) _) _;simp only [Act.put, List.setIfInBounds_toArray, List.set_cons_zero, List.set_cons_succ];refine wpAny_ready (rs := [10]) (by kernel_rfl) (by simp) ?_
      refine AllReady.cons rfl (fun K hK => ?_) AllReady.nil
      go_simp;have hq := hb1; clear hq; go_at_call 43; refine (kT.out _).mono ?_; rintro e u2 ⟨ha9, hcp, rfl, ho2, hb0⟩; have g2 := Rd.own ho2; replace g1 := g1.below hb0; have hb2 := aC (w1 := v8) hb1 hb0; clear hb0 ho2; obtain ⟨m0, m1, n0, n2, n3, n4⟩ := KB.out _ hb2;go_simp;refine hK _ _ ?_;clear hK K;refine wpAny_ready (rs := [11]) (by kernel_rfl) (by simp) ?_
      refine AllReady.cons rfl (fun K hK => ?_) AllReady.nil
      go_simp;have hq := hb2; clear hq; go_at_call 59; refine (kC.out _ _ _ _ _ g1 g2).mono ?_; rintro e u3 ⟨rfl, hb0⟩; have hb3 := aC (w1 := v8) hb2 hb0; clear hb0; obtain ⟨m0, m1, n0, n2, n3, n4⟩ := KB.out _ hb3;go_simp;refine hK _ _ ?_;clear hK K;rotate_left;go_simp;refine hK _ _ ?_;clear hK K
      refine wpAny_take (i := 9) (v := ?_) rfl (by kernel_rfl) (by kernel_rfl) (by kernel_rfl) (fun _ _ _ h => h) (Or.inl ⟨by kernel_rfl, ?_⟩) ?_
      rotate_left
      . (intro w; first | (go_simp; done) | (go_simp; with_reducible rfl) | with_reducible rfl)
      change wpAny _ _ _ _ _ _ (Act.put _ (some 33) _) _;simp only [Act.put, List.setIfInBounds_toArray, List.set_cons_zero, List.set_cons_succ];refine wpAny_ready (rs := [6]) (by kernel_rfl) (by simp) ?_
      refine AllReady.cons rfl (fun K hK => ?_) AllReady.nil
      go_simp
      go_at_call 63; refine (fR ts hs _).mono ?_; rintro e u1 ⟨ga, gc, rfl, ho1, hb0⟩; have g1 := Rd.own ho1; have hb1 := aC (w1 := v8) A0 hb0; clear hb0 ho1; obtain ⟨m0, m1, n0, n2, n3, n4⟩ := KB.out _ hb1
      go_simp;refine hK _ _ ?_;clear hK K;refine wpAny_ready (rs := [10]) (by kernel_rfl) (by simp) ?_
      refine AllReady.cons rfl (fun K hK => ?_) AllReady.nil
      go_simp;have hq := hb1; clear hq; go_at_call 43; refine (kT.out _).mono ?_; rintro e u2 ⟨ha9, hcp, rfl, ho2, hb0⟩; have g2 := Rd.own ho2; replace g1 := g1.below hb0; have hb2 := aC (w1 := v8) hb1 hb0; clear hb0 ho2; obtain ⟨m0, m1, n0, n2, n3, n4⟩ := KB.out _ hb2;go_simp;refine hK _ _ ?_;clear hK K;refine wpAny_ready (rs := [11]) (by kernel_rfl) (by simp) ?_
      refine AllReady.cons rfl (fun K hK => ?_) AllReady.nil
      go_simp;have hq := hb2; clear hq; go_at_call 59; refine (kC.out _ _ _ _ _ g1 g2).mono ?_; rintro e u3 ⟨rfl, hb0⟩; have hb3 := aC (w1 := v8) hb2 hb0; clear hb0; obtain ⟨m0, m1, n0, n2, n3, n4⟩ := KB.out _ hb3;go_simp;refine hK _ _ ?_;clear hK K;rotate_left;go_simp;refine hK _ _ ?_;clear hK K
      refine wpAny_take (i := 9) (v := ?_) rfl (by kernel_rfl) (by kernel_rfl) (by kernel_rfl) (fun _ _ _ h => h) (Or.inl ⟨by kernel_rfl, ?_⟩) ?_
      rotate_left
      . (intro w; first | (go_simp; done) | (go_simp; with_reducible rfl) | with_reducible rfl)
      change wpAny _ _ _ _ _ _ (Act.put _ (some 33) _) _;simp only [Act.put, List.setIfInBounds_toArray, List.set_cons_zero, List.set_cons_succ];refine wpAny_ready (rs := [5]) (by kernel_rfl) (by simp) ?_
      refine AllReady.cons rfl (fun K hK => ?_) AllReady.nil
      go_simp;refine hK _ _ ?_;clear hK K;refine wpAny_ready (rs := [6]) (by kernel_rfl) (by simp) ?_
      refine AllReady.cons rfl (fun K hK => ?_) AllReady.nil
      go_simp
      go_at_call 63; refine (fR ts hs _).mono ?_; rintro e u1 ⟨ga, gc, rfl, ho1, hb0⟩; have g1 := Rd.own ho1; have hb1 := aC (w1 := v8) A0 hb0; clear hb0 ho1; obtain ⟨m0, m1, n0, n2, n3, n4⟩ := KB.out _ hb1
      go_simp;refine hK _ _ ?_;clear hK K;refine wpAny_ready (rs := [10]) (by kernel_rfl) (by simp) ?_
      refine AllReady.cons rfl (fun K hK => ?_) AllReady.nil
      go_simp;have hq := hb1; clear hq; go_at_call 43; refine (kT.out _).mono ?_; rintro e u2 ⟨ha9, hcp, rfl, ho2, hb0⟩; have g2 := Rd.own ho2; replace g1 := g1.below hb0; have hb2 := aC (w1 := v8) hb1 hb0; clear hb0 ho2; obtain ⟨m0, m1, n0, n2, n3, n4⟩ := KB.out _ hb2;go_simp;refine hK _ _ ?_;clear hK K;refine wpAny_ready (rs := [11]) (by kernel_rfl) (by simp) ?_
      refine AllReady.cons rfl (fun K hK => ?_) AllReady.nil
      go_simp;have hq := hb2; clear hq; go_at_call 59; refine (kC.out _ _ _ _ _ g1 g2).mono ?_; rintro e u3 ⟨rfl, hb0⟩; have hb3 := aC (w1 := v8) hb2 hb0; clear hb0; obtain ⟨m0, m1, n0, n2, n3, n4⟩ := KB.out _ hb3;go_simp;refine hK _ _ ?_;clear hK K;rotate_left
      all_goals
       refine wpAny_take (i := 12) (v := .bool false) rfl (by kernel_rfl) (by kernel_rfl) (by kernel_rfl) (fun _ _ _ h => h) (Or.inl ⟨by kernel_rfl, ?_⟩) ?_
       . (intro w; first | (go_simp; done) | (go_simp; with_reducible rfl) | with_reducible rfl)
       change wpAny _ _ _ _ _ _ (Act.put _ (some 36) _) _;simp only [Act.put, List.setIfInBounds_toArray, List.set_cons_zero, List.set_cons_succ]
       refine wpAny_take (i := 13) (v := .bool false) rfl (by kernel_rfl) (by kernel_rfl) (by kernel_rfl) (fun _ _ _ h => h) (Or.inl ⟨by kernel_rfl, ?_⟩) ?_
       . (intro w; first | (go_simp; done) | (go_simp; with_reducible rfl) | with_reducible rfl)
       change wpAny _ _ _ _ _ _ (Act.put _ (some 37) _) _;simp only [Act.put, List.setIfInBounds_toArray, List.set_cons_zero, List.set_cons_succ]
       refine wpAny_take (i := 14) (v := .bool false) rfl (by kernel_rfl) (by kernel_rfl) (by kernel_rfl) (fun _ _ _ h => h) (Or.inl ⟨by kernel_rfl, ?_⟩) ?_
       . (intro w; first | (go_simp; done) | (go_simp; with_reducible rfl) | with_reducible rfl)
       change wpAny _ _ _ _ _ _ (Act.put _ (some 38) _) _;simp only [Act.put, List.setIfInBounds_toArray, List.set_cons_zero, List.set_cons_succ]
       refine wpAny_take (i := 15) (v := undef) rfl (by kernel_rfl) (by kernel_rfl) (by kernel_rfl) (fun _ _ _ h => h) (Or.inr ⟨by kernel_rfl, rfl⟩) ?_
       change wpAny _ _ _ _ _ _ (Act.put _ (some 39) _) _;simp only [Act.put, List.setIfInBounds_toArray, List.set_cons_zero, List.set_cons_succ]
       refine wpAny_take (i := 16) (v := undef) rfl (by kernel_rfl) (by kernel_rfl) (by kernel_rfl) (fun _ _ _ h => h) (Or.inr ⟨by kernel_rfl, rfl⟩) ?_
       change wpAny _ _ _ _ _ _ (Act.put _ (some 40) _) _;simp only [Act.put, List.setIfInBounds_toArray, List.set_cons_zero, List.set_cons_succ]
       refine wpAny_take (i := 17) (v := undef) rfl (by kernel_rfl) (by kernel_rfl) (by kernel_rfl) (fun _ _ _ h => h) (Or.inr ⟨by kernel_rfl, rfl⟩) ?_
       change wpAny _ _ _ _ _ _ (Act.put _ (some 41) _) _;simp only [Act.put, List.setIfInBounds_toArray, List.set_cons_zero, List.set_cons_succ]
       refine wpAny_take (i := 18) (v := undef) rfl (by kernel_rfl) (by kernel_rfl) (by kernel_rfl) (fun _ _ _ h => h) (Or.inr ⟨by kernel_rfl, rfl⟩) ?_
       change wpAny _ _ _ _ _ _ (Act.put _ (some 42) _) _;simp only [Act.put, List.setIfInBounds_toArray, List.set_cons_zero, List.set_cons_succ]
       refine wpAny_take (i := 19) (v := undef) rfl (by kernel_rfl) (by kernel_rfl) (by kernel_rfl) (fun _ _ _ h => h) (Or.inr ⟨by kernel_rfl, rfl⟩) ?_
       change wpAny _ _ _ _ _ _ (Act.put _ (some 43) _) _;simp only [Act.put, List.setIfInBounds_toArray, List.set_cons_zero, List.set_cons_succ]
       refine wpAny_take (i := 20) (v := undef) rfl (by kernel_rfl) (by kernel_rfl) (by kernel_rfl) (fun _ _ _ h => h) (Or.inr ⟨by kernel_rfl, rfl⟩) ?_
       change wpAny _ _ _ _ _ _ (Act.put _ (some 44) _) _;simp only [Act.put, List.setIfInBounds_toArray, List.set_cons_zero, List.set_cons_succ]
       refine wpAny_take (i := 21) (v := undef) rfl (by kernel_rfl) (by kernel_rfl) (by kernel_rfl) (fun _ _ _ h => h) (Or.inr ⟨by kernel_rfl, rfl⟩) ?_
       change wpAny _ _ _ _ _ _ (Act.put _ (some 45) _) _;simp only [Act.put, List.setIfInBounds_toArray, List.set_cons_zero, List.set_cons_succ]
       refine wpAny_take (i := 22) (v := undef) rfl (by kernel_rfl) (by kernel_rfl) (by kernel_rfl) (fun _ _ _ h => h) (Or.inr ⟨by kernel_rfl, rfl⟩) ?_
       change wpAny _ _ _ _ _ _ (Act.put _ (some 46) _) _;simp only [Act.put, List.setIfInBounds_toArray, List.set_cons_zero, List.set_cons_succ]
       refine wpAny_take (i := 23) (v := undef) rfl (by kernel_rfl) (by kernel_rfl) (by kernel_rfl) (fun _ _ _ h => h) (Or.inr ⟨by kernel_rfl, rfl⟩) ?_
       change wpAny _ _ _ _ _ _ (Act.put _ (some 47) _) _;simp only [Act.put, List.setIfInBounds_toArray, List.set_cons_zero, List.set_cons_succ];refine wpAny_ready (rs := [24]) (by kernel_rfl) (by simp) ?_
       refine AllReady.cons rfl (fun K hK => ?_) AllReady.nil
       go_simp;refine hK _ _ ?_;clear hK K;refine wpAny_done (by kernel_rfl) ?_ _;go_wp2_with fail;go_meet;exact ⟨⟨_, rfl⟩, HJ.out _ hb3⟩
  . have hc3' : (cls == 3) = false := by simpa using hc3
    go_quiet (fail)
    have J := hid (J.out.below (show Below v8.heap.size v8 (v8.drewN nq) from ⟨rfl, rfl, rfl, Nat.le_refl _, fun _ _ => rfl⟩))
    go_wp2_with fail;go_meet;exact ⟨⟨_, rfl⟩, J.out⟩
 case rest =>
 as_aux_lemma =>
 rename World => v9
 obtain ⟨⟨b, rfl⟩, j⟩ := hcut;have J := hid j;clear j;go_upto_if 48 with fail
 go_cut [10, 48] (fun lv _ wx => ∃ la2 lc2 LO, lv = .slice la2 (D LO).length lc2 /\ 1 <= LO /\ LO < 2 ^ 130 /\ NJ wx w [(w.heap.size, P, 67), (gd, Q, 37)] [(la2, LO), (ha, FO + 2)])
 case first =>
  as_aux_lemma =>
  cases b with
  | true =>
    go_wp2_with fail;refine (k1.out _).mono ?_;rintro e z1 ⟨oa3, oc3, rfl, o, hb⟩;have J := hid (J.out.own o hb);clear o hb;go_wp2_with fail;refine (gJ fa oa3 _ _ fc oc3 FO 1 _ rfl rfl (by omega) (by omega) (J.out.rd (fa, FO) (by simp)) (J.out.rd (oa3, 1) (by simp))).mono ?_;rintro e z2 ⟨la2, lc2, rfl, o, hb⟩;have J := hid ((J.out.own o hb).sub (m := [(la2, FO - 1), (ha, FO + 2)]) (by simp));clear o hb;go_wp2_with fail;go_meet;exact ⟨la2, lc2, FO - 1, rfl, by omega, Nat.lt_of_le_of_lt (Nat.sub_le _ _) HF2.out, J.out⟩
  | false =>
    go_wp2_with fail;go_meet;exact ⟨la, lc, FO - 2, rfl, by omega, Nat.lt_of_le_of_lt (Nat.sub_le _ _) HF2.out, J.out.sub (by simp)⟩
 case rest =>
 as_aux_lemma =>
 rename World => va
 obtain ⟨la2, lc2, LO, rfl, hLO1, hLO, j⟩ := hcut;have J := hid j;have lLO : (D LO).length <= 5 := aJ LO 130 5 hLO (by omega);have HLO := hid hLO;have wq : IntKind.i64.wrap (tq - 2) = tq - 2 := by simp only [IntKind.wrap_i64]; omega
 have wn : IntKind.i64.wrap (-(tq - 2)) = -(tq - 2) := by simp only [IntKind.wrap_i64]; omega
 have p4 := (CP.out _ _ J.out).cell 4 rfl;clear j hLO
 by_cases hq : 0 <= tq - 2
 . have K9 := hid (fun (N : Nat) (a : Option Addr) (c : Nat) (v : World) (h : (D N).length <= 5) (r : Rd v a (D N)) => show Calls Tryz.prog 42 #[.slice a (D N).length c, .int .i64 (tq - 2)] v fun e w' => Ret v w' e (D (N * 2 ^ (tq - 2).toNat)) from by
    have k := aT a _ c (tq - 2).toNat N v rfl (by omega) (by omega) r
    rw [show (((tq - 2).toNat : Nat) : Int) = tq - 2 by omega] at k; exact k)
   have big : ∀ N, N < 2 ^ 131 -> (D (N * 2 ^ (tq - 2).toNat)).length <= 1500 := fun N hN => aJ _ (131 + (tq - 2).toNat) 1500 (by rw [Nat.pow_add]; exact Nat.mul_lt_mul_of_pos_right hN (Nat.pow_pos (by omega))) (by omega)
   have BG := hid big;have c1 : 1 = C := by rw [HC.out, show (2 - tq).toNat = 0 by omega, Nat.pow_zero]
   have HC1 := hid c1;clear big c1;go_wp2_with fail;refine (K9.out LO _ _ _ lLO (J.out.rd (la2, LO) (by simp))).mono ?_;rintro e z1 ⟨xa, xc, rfl, o, hb⟩;have J := hid (J.out.own o hb);clear o hb p4;go_wp2_with fail;refine (K9.out (FO + 2) _ _ _ lh (J.out.rd (ha, FO + 2) (by simp))).mono ?_;rintro e z2 ⟨ya, yc, rfl, o, hb⟩;have J := hid (J.out.own o hb);clear o hb;go_wp2_with fail;refine (k1.out _).mono ?_;rintro e z3 ⟨ka, kc, rfl, o, hb⟩;have J := hid (J.out.own o hb);clear o hb;go_wp2_with fail;refine bodyPost_ret (v := .tuple #[.slice xa (D (LO * 2 ^ (tq - 2).toNat)).length xc, .slice ya (D ((FO + 2) * 2 ^ (tq - 2).toNat)).length yc, .slice ka (D 1).length kc]) (by simp [results, Tryz.results119, go_sem]) rfl ?_;refine ⟨_, _, ⟨Nat.mul_pos hLO1 (Nat.pow_pos (by omega)), Nat.mul_pos (by omega) (Nat.pow_pos (by omega))⟩, BG.out LO (Nat.lt_trans HLO.out (by omega)), BG.out (FO + 2) (by have := HF2.out; omega), xa, xc, ya, yc, ka, kc, by rw [<- HC1.out], J.out.rd (xa, LO * 2 ^ (tq - 2).toNat) (by simp), J.out.rd (ya, (FO + 2) * 2 ^ (tq - 2).toNat) (by simp), by rw [<- HC1.out]; exact J.out.rd (ka, 1) (by simp), J.out.b0⟩
 . have hqd : decide (0 <= tq - 2) = false := decide_eq_false hq
   have kT := hid (fun v : World => show Calls Tryz.prog 43 #[.int .i64 (-(tq - 2))] v fun e w' => Ret v w' e (D C) from by
    have k := qR (2 - tq).toNat v (by omega)
    rw [show (((2 - tq).toNat : Nat) : Int) = -(tq - 2) by omega, <- HC.out] at k; exact k)
   go_wp2_with fail;refine (kT.out _).mono ?_;rintro e z1 ⟨ka, kc, rfl, o, hb⟩;have J := hid (J.out.own o hb);clear o hb p4;go_wp2_with fail;refine bodyPost_ret (v := .tuple #[.slice la2 (D LO).length lc2, .slice ha (D (FO + 2)).length hc, .slice ka (D C).length kc]) (by simp [results, Tryz.results119, go_sem]) rfl ?_;exact ⟨LO, FO + 2, ⟨hLO1, by omega⟩, by omega, by omega, la2, lc2, ha, hc, ka, kc, rfl, J.out.rd (la2, LO) (by simp), J.out.rd (ha, FO + 2) (by simp), J.out.rd (ka, C) (by simp), J.out.b0⟩

theorem JT (f : Int) (T : M.Pt) (F : M.Fm) (C : Nat) (w : World) (hs1 : 1 <= T.s) (hs : T.s < 2 ^ 128) (hq1 : -16700 <= T.q) (hq2 : T.q <= 16700) (hp1 : 2 <= F.p) (hp2 : F.p <= 113) (hm : F.emax <= 20000) (hC : C = 2 ^ (2 - T.q).toNat)
 (kE : ∀ v : World, Calls Tryz.prog 9 #[.int .i64 f] v fun e w' => e = .returned (dv F) /\ Below v.heap.size v w') :
 Calls Tryz.prog 119 #[.int .i64 f, pv T] w fun e w' => ∃ A B, (D A).length <= 1500 /\ (D B).length <= 1500 /\ Sp3 w w' e A B C := by
 refine (FZ f T F C w hs1 hs hq1 hq2 hp1 hp2 hm hC kE).mono ?_;rintro e w' ⟨A, B, -, h⟩;exact ⟨A, B, h⟩

end Go.Proofs.YtfdgkleoaehjaaaGreatDoor
