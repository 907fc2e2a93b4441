import Derived.Test.YtmglhkdgfcbonaaGreatDoorrSM
set_option maxHeartbeats 16000000
namespace Go.Proofs.YtmglhkdgfcbonaaGreatDoor
open Go.RowKit
set_option linter.unusedVariables false
set_option maxRecDepth 100000
theorem lawSsKey (ao : Option Addr) (n c : Nat) (w : World) (h : Fmt w) (hn : n ≤ 1048576)
 (kD : Calls Tryz.prog 17 #[.slice ao n c] w fun e w' => ∃ (f : Int) (X : Nat), X < 2 ^ 128 ∧ e = .returned (.tuple #[.int .i64 f, .agg #[.int .u64 (M.hiN X : Int), .int .u64 (M.loN X : Int)]]) ∧ Below w.heap.size w w')
 (kF : ∀ (f : Int) (X : Nat), X < 2 ^ 128 → ∃ (tc : Int) (tn : Bool) (th tl tq : Int) (ds : List Nat) (xx : Int) (ng : Bool) (kk : Int),
   (∀ v : World, Calls Tryz.prog 18 #[.int .i64 f, .agg #[.int .u64 (M.hiN X : Int), .int .u64 (M.loN X : Int)]] v fun e w' => e = .returned (.agg #[.int .i64 tc, .bool tn, .int .u64 th, .int .u64 tl, .int .i64 tq]) ∧ Below v.heap.size v w') ∧
   (∀ v : World, Fmt v → Calls Tryz.prog 8 #[.int .i64 f, .agg #[.int .u64 (M.hiN X : Int), .int .u64 (M.loN X : Int)]] v fun e w' => ShO v w' e ds xx ng kk) ∧
   ((tc ≠ 2 ∧ tc ≠ 3 ∧ ds = []) ∨ ((tc = 2 ∨ tc = 3) ∧ ∃ (cl : Bool) (N lo hi md u lo1 hi1 md1 u1 A B C : Nat), Fx ds xx cl N lo hi md u lo1 hi1 u1 ∧
     (∀ (v : World) (ao : Option Addr) (c : Nat), ds.length ≤ c → c ≤ 9223372036854775807 → RdB v ao ds → Calls Tryz.prog 19 #[.slice ao ds.length c] v fun e w' => ∃ na nc, e = .returned (.tuple #[.slice na (L N).length nc, .bool true]) ∧ Rd w' na (L N) ∧ Below v.heap.size v w') ∧
     (∀ v : World, Calls Tryz.prog 20 #[.int .i64 f, .agg #[.int .u64 (M.hiN X : Int), .int .u64 (M.loN X : Int)]] v fun e w' => Iv v w' e A B C cl) ∧
     (∀ v : World, Calls Tryz.prog 21 #[.int .i64 f, .agg #[.int .u64 (M.hiN X : Int), .int .u64 (M.loN X : Int)], .int .i64 xx] v fun e w' => S4 v w' e lo hi md u) ∧
     (∀ v : World, Calls Tryz.prog 21 #[.int .i64 f, .agg #[.int .u64 (M.hiN X : Int), .int .u64 (M.loN X : Int)], .int .i64 (xx + 1)] v fun e w' => S4 v w' e lo1 hi1 md1 u1)))) :
 Calls Tryz.prog 5 #[.slice ao n c] w fun e w' => e = .returned (.bool true) ∧ Below w.heap.size w w' := by
 have n0 : ¬ (1048576 : Int) < (n : Int) := by omega
 have fc := fld_c
 have fi := fld_cl
 go_enter Tryz.func5, Tryz.ntmps5
 go_wp2_with fail
 refine kD.mono ?_
 rintro e v1 ⟨f, X, hX, rfl, b0⟩
 obtain ⟨tc, tn, th, tl, tq, ds, xx, ng, kk, kU, kI, hcase⟩ := kF f X hX
 have HC := hid hcase
 clear hcase kF kD
 generalize (M.hiN X : Int) = xh at *
 generalize (M.loN X : Int) = xl at *
 go_upto_region 4 with fail
 have bA := (Below.refl v1.heap.size v1).alloc (Nat.le_refl _) (.cells #[.int .u64 xh, .int .u64 xl] 29)
 have cw := Cls.new v1 #[.int .u64 xh, .int .u64 xl] 29
 replace b0 := b0.trans (bA.mono b0.size)
 clear bA
 generalize v1.alloc (.cells #[.int .u64 xh, .int .u64 xl] 29) = v2 at *
 obtain ⟨gw, hgw⟩ : ∃ gw, gw = v1.heap.size := ⟨_, rfl⟩
 rw [← hgw] at cw ⊢
 clear hgw
 have x0 := cw.cell 0 rfl
 have x1 := cw.cell 1 rfl
 go_wp2_with fail
 refine (kU _).mono ?_
 rintro e v3 ⟨rfl, hb⟩
 replace cw := cw.below hb
 replace b0 := b0.trans (hb.mono b0.size)
 clear hb x0 x1
 have x0 := cw.cell 0 rfl
 have x1 := cw.cell 1 rfl
 go_wp2_with fail
 refine (kI _ (h.below b0)).mono ?_
 rintro e v4 ⟨sa, sc, rfl, oS, hb⟩
 replace cw := cw.below hb
 replace b0 := b0.trans (hb.mono b0.size)
 clear hb x0 x1
 go_upto_region 6 with fail
 have bA := (Below.refl v4.heap.size v4).alloc (Nat.le_refl _) (.cells #[.slice sa ds.length sc, .int .i64 xx, .bool ng, .int .i64 kk] 27)
 have cs := Cls.new v4 #[.slice sa ds.length sc, .int .i64 xx, .bool ng, .int .i64 kk] 27
 replace cw := cw.below bA
 replace oS := oS.below bA
 replace b0 := b0.trans (bA.mono b0.size)
 clear bA
 generalize v4.alloc (.cells #[.slice sa ds.length sc, .int .i64 xx, .bool ng, .int .i64 kk] 27) = v5 at *
 obtain ⟨gs, hgs⟩ : ∃ gs, gs = v4.heap.size := ⟨_, rfl⟩
 rw [← hgs] at cs ⊢
 clear hgs
 have p0 := cs.cell 0 rfl
 rcases HC.out with ⟨c2, c3, hds⟩ | ⟨hc23, cl, N, lo, hi, md, u, lo1, hi1, md1, u1, A, B, C, fx, kN, kB, kS0, kS1⟩
 · have e2 : (tc != 2) = true := by simpa using c2
   have e3 : (tc != 3) = true := by simpa using c3
   have HB := hid b0
   subst hds
   go_wp2_with fail
   go_ret
   exact ⟨rfl, HB.out⟩
 go_cut [49] (fun z wx => z = .bool false ∧ v5 = wx)
 case first =>
  rcases hc23 with rfl | rfl
  · go_wp2_with fail
    go_meet
    case rel => exact ⟨rfl, rfl⟩
  · go_wp2_with fail
    go_meet
    case rel => exact ⟨rfl, rfl⟩
 case rest =>
 obtain ⟨rfl, rfl⟩ := hcut
 clear HC hc23 kU kI fc
 have hrd := oS.rd
 obtain ⟨sa', sc', es, hcap, hcm, hno, h256, hblk⟩ := oS
 cases es
 have dl := fx.dl
 obtain ⟨sb, so, cur, rfl, _, _, _⟩ := hblk (by omega)
 clear hblk hno h256
 go_wp2_with fail
 refine (kN _ _ _ hcap hcm hrd).mono ?_
 rintro e v6 ⟨na, nc, rfl, rN, hb⟩
 replace cw := cw.below hb
 replace cs := cs.below hb
 replace hrd := hrd.below hb
 replace b0 := b0.trans (hb.mono b0.size)
 clear hb p0 kN
 obtain ⟨sb', so', es, hcell⟩ := hrd.2 (by omega)
 cases es
 have c0 := hcell 0 (by omega)
 have c1 := hcell (ds.length - 1) (by omega)
 rw [Nat.add_zero] at c0
 have d0 : (((ds.getD 0 0 : Nat) : Int) == 48) = false := beq_eq_false_iff_ne.2 (by have := fx.d0; omega)
 have d1 : (((ds.getD (ds.length - 1) 0 : Nat) : Int) == 48) = false := beq_eq_false_iff_ne.2 (by have := fx.d1; omega)
 generalize ds.getD 0 0 = y0 at *
 generalize ds.getD (ds.length - 1) 0 = y1 at *
 have xr := fx.xr
 have q1 : ¬ 6000 < xx := by omega
 have q2 : ¬ xx < -6000 := by omega
 have wl : 1 < ds.length → ∀ k, wJ (k * u1) lo1 hi1 cl = false := fx.w1
 have w0 := fx.w0
 have nr := fx.nr
 have n1 := fx.n1
 have up := fx.up
 obtain ⟨ln0, ln1, ln2⟩ := fx.ln
 obtain ⟨ll0, ll1, ll2, ll3⟩ := fx.ll
 obtain ⟨l10, l11, l12⟩ := fx.l1
 have lk := fx.lk
 obtain ⟨lq0, lq1, lq2, lq3⟩ := fx.lq
 have HW0 := hid w0; have HWL := hid wl; have HNR := hid nr; have HLK := hid lk
 clear fx w0 wl nr lk hrd hcell
 generalize hgm : ds.length = m at *
 have m0 : (0 : Int) < (m : Int) := by omega
 have hw1 : IntKind.i64.wrap ((m : Int) - 1) = ((m - 1 : Nat) : Int) := by rw [IntKind.wrap_i64]; omega
 have m1 : ((m - 1 : Nat) : Int) < (m : Int) := by omega
 have m2 : (0 : Int) ≤ ((m - 1 : Nat) : Int) := by omega
 clear hgm
 have p0 := cs.cell 0 rfl
 have p1 := cs.cell 1 rfl
 have x0 := cw.cell 0 rfl
 have x1 := cw.cell 1 rfl
 go_wp2_with fail
 refine (kB _).mono ?_
 rintro e v7 ⟨ia, ica, ib, icb, ic, icc, im1, im2, rfl, _, _, _, _, _, _, hb⟩
 replace cw := cw.below hb
 replace cs := cs.below hb
 replace rN := rN.below hb
 replace b0 := b0.trans (hb.mono b0.size)
 clear hb p0 p1 x0 x1 c0 c1 kB
 have p1 := cs.cell 1 rfl
 have x0 := cw.cell 0 rfl
 have x1 := cw.cell 1 rfl
 go_wp2_with fail
 refine (kS0 _).mono ?_
 rintro e v8 ⟨la, lca, ha, hca, ma, mca, ua, uca, rfl, rl, rh, rm, ru, hb⟩
 replace cw := cw.below hb
 replace cs := cs.below hb
 replace rN := rN.below hb
 replace b0 := b0.trans (hb.mono b0.size)
 clear hb p1 x0 x1 kS0
 go_wp2_with fail
 refine (natMul N u na ua nc uca v8 (by omega) (by omega) rN ru).mono ?_
 rintro e v9 ⟨ta, tca, rfl, rt, hb⟩
 replace cw := cw.below hb
 replace cs := cs.below hb
 replace rN := rN.below hb
 replace rl := rl.below hb
 replace rh := rh.below hb
 replace rm := rm.below hb
 replace ru := ru.below hb
 replace b0 := b0.trans (hb.mono b0.size)
 clear hb
 have lNu := (HLK.out N (by omega)).1
 go_wp2_with fail
 refine (within_any (N * u) lo hi cl ta la ha tca lca hca v9 (by omega) (by omega) (by omega) rt rl rh).mono ?_
 rintro e v10 ⟨rfl, hb⟩
 rw [HW0.out]
 replace cw := cw.below hb
 replace cs := cs.below hb
 replace rN := rN.below hb
 replace rl := rl.below hb
 replace rh := rh.below hb
 replace rm := rm.below hb
 replace ru := ru.below hb
 replace rt := rt.below hb
 replace b0 := b0.trans (hb.mono b0.size)
 clear hb
 have p0 := cs.cell 0 rfl
 go_upto_if 116 with fail
 go_cut [22] (fun z wx => Below v10.heap.size v10 wx)
 case first =>
  by_cases hm : 1 < m
  · have hm' : (1 : Int) < (m : Int) := by omega
    have hwx : IntKind.i64.wrap (xx + 1) = xx + 1 := by rw [IntKind.wrap_i64]; omega
    have p1 := cs.cell 1 rfl
    have x0 := cw.cell 0 rfl
    have x1 := cw.cell 1 rfl
    go_wp2_with fail
    refine (kS1 _).mono ?_
    rintro e w1 ⟨oa, oca, qa, qca, za, zca, va, vca, rfl, ro, rq, rz, rv, hb1⟩
    go_wp2_with fail
    refine (natDiv lo1 u1 up oa va oca vca w1 (by omega) (by omega) ro rv).mono ?_
    rintro e w2 ⟨da, dca, ea, eca, rfl, rd, re, hb⟩
    replace ro := ro.below hb
    replace rq := rq.below hb
    replace rv := rv.below hb
    replace hb1 := hb1.trans (hb.mono hb1.size)
    clear hb
    go_wp2_with fail
    refine (natMul (lo1 / u1) u1 da va dca vca w2 (by omega) (by omega) rd rv).mono ?_
    rintro e w3 ⟨fa, fca, rfl, rf, hb⟩
    replace ro := ro.below hb
    replace rq := rq.below hb
    replace rv := rv.below hb
    replace rd := rd.below hb
    replace hb1 := hb1.trans (hb.mono hb1.size)
    clear hb
    go_upto_region 20 with fail
    go_cut [144] (fun z wx => ∃ b : Bool, z = .bool b ∧ w3 = wx)
    case first =>
     generalize (L (lo1 % u1)).length = lr at *
     by_cases hr : 0 < lr
     · have hr' : (0 : Int) < (lr : Int) := by omega
       go_wp2_with fail
       go_meet
       case rel => exact ⟨_, rfl, rfl⟩
     · have hr' : ¬ (0 : Int) < (lr : Int) := by omega
       go_wp2_with fail
       go_meet
       case rel => exact ⟨_, rfl, rfl⟩
    case rest =>
    obtain ⟨bb, rfl, rfl⟩ := hcut
    go_upto_if 144 with fail
    go_cut [22] (fun z wx => ∃ ga gca k, z = .slice ga (L (k * u1)).length gca ∧ (L (k * u1)).length ≤ 1000 ∧ Rd wx ga (L (k * u1)) ∧ Below w3.heap.size w3 wx)
    case first =>
     cases bb
     · go_wp2_with fail
       go_meet
       case rel => exact ⟨fa, fca, lo1 / u1, rfl, lq2, rf, Below.refl _ _⟩
     · have e1 : (L 1).length = 1 := by rw [L_unit]; rfl
       have bA := (Below.refl w3.heap.size w3).alloc (Nat.le_refl _) (.cells #[.int .u64 1] 22)
       have r1 : Rd (w3.alloc (.cells #[.int .u64 1] 22)) (some ⟨w3.heap.size, 0, none⟩) (L 1) := by rw [L_unit]; exact (blk_lit w3 [1]).rd0
       have kA := natAdd (lo1 / u1) 1 da (some ⟨w3.heap.size, 0, none⟩) dca 1 _ (by omega) (by omega) (rd.below bA) r1
       rw [e1] at kA
       have HBA := hid bA
       clear e1 r1 bA
       go_wp2_with fail
       refine kA.mono ?_
       rintro e w4 ⟨ya, yca, rfl, ry, hb⟩
       have B4 := HBA.out.trans (hb.mono HBA.out.size)
       clear hb kA
       go_wp2_with fail
       refine (natMul (lo1 / u1 + 1) u1 ya va yca vca w4 (by omega) (by omega) ry (rv.below B4)).mono ?_
       rintro e w5 ⟨fa2, fca2, rfl, rf2, hb⟩
       go_wp2_with fail
       go_meet
       case rel => exact ⟨fa2, fca2, lo1 / u1 + 1, rfl, lq3, rf2, B4.trans (hb.mono B4.size)⟩
    case rest =>
    rename World => w6
    obtain ⟨ga, gca, k, rfl, lkk, rg, hb⟩ := hcut
    go_wp2_with fail
    refine (within_any (k * u1) lo1 hi1 cl ga oa qa gca oca qca w6 (by omega) (by omega) (by omega) rg (ro.below hb) (rq.below hb)).mono ?_
    rintro e w7 ⟨rfl, hb7⟩
    rw [HWL.out hm k]
    have HB7 := hid ((hb1.trans (hb.mono hb1.size)).trans (hb7.mono (hb1.trans (hb.mono hb1.size)).size))
    clear hb hb7 hb1
    go_wp2_with fail
    go_meet
    case rel => exact HB7.out
  · have hm' : ¬ (1 : Int) < (m : Int) := by omega
    go_wp2_with fail
    go_meet
    case rel => exact Below.refl _ _
 case rest =>
 rename World => v11
 replace rN := rN.below hcut
 replace rl := rl.below hcut
 replace rh := rh.below hcut
 replace rm := rm.below hcut
 replace ru := ru.below hcut
 replace rt := rt.below hcut
 replace b0 := b0.trans (hcut.mono b0.size)
 clear hcut p0 cs cw kS1 HWL HW0
 have e1 : (L 1).length = 1 := by rw [L_unit]; rfl
 have bA := (Below.refl v11.heap.size v11).alloc (Nat.le_refl _) (.cells #[.int .u64 1] 22)
 have r1 : Rd (v11.alloc (.cells #[.int .u64 1] 22)) (some ⟨v11.heap.size, 0, none⟩) (L 1) := by rw [L_unit]; exact (blk_lit v11 [1]).rd0
 have kA := natSub N 1 na (some ⟨v11.heap.size, 0, none⟩) nc 1 _ (by omega) (by omega) (rN.below bA) r1
 rw [e1] at kA
 simp only [n1, decide_true, if_true] at kA
 have HBA := hid bA
 clear r1 bA
 go_wp2_with fail
 refine kA.mono ?_
 rintro e v12 ⟨xa, xca, rfl, rx, hb⟩
 have B12 := HBA.out.trans (hb.mono HBA.out.size)
 replace rN := rN.below B12
 replace rl := rl.below B12
 replace rh := rh.below B12
 replace rm := rm.below B12
 replace ru := ru.below B12
 replace rt := rt.below B12
 replace b0 := b0.trans (B12.mono b0.size)
 clear hb kA HBA B12
 have bA := (Below.refl v12.heap.size v12).alloc (Nat.le_refl _) (.cells #[.int .u64 1] 22)
 have r1 : Rd (v12.alloc (.cells #[.int .u64 1] 22)) (some ⟨v12.heap.size, 0, none⟩) (L 1) := by rw [L_unit]; exact (blk_lit v12 [1]).rd0
 have kA := natAdd N 1 na (some ⟨v12.heap.size, 0, none⟩) nc 1 _ (by omega) (by omega) (rN.below bA) r1
 rw [e1] at kA
 have HBA := hid bA
 clear r1 bA e1
 go_wp2_with fail
 refine kA.mono ?_
 rintro e v13 ⟨ya, yca, rfl, ry, hb⟩
 have B13 := HBA.out.trans (hb.mono HBA.out.size)
 replace rN := rN.below B13
 replace rl := rl.below B13
 replace rh := rh.below B13
 replace rm := rm.below B13
 replace ru := ru.below B13
 replace rt := rt.below B13
 replace rx := rx.below B13
 replace b0 := b0.trans (B13.mono b0.size)
 clear hb kA HBA B13
 have bA := (Below.refl v13.heap.size v13).alloc (Nat.le_refl _) (.cells #[.slice xa (L (N - 1)).length xca, .slice ya (L (N + 1)).length yca] 44)
 have cL := Cls.new v13 #[.slice xa (L (N - 1)).length xca, .slice ya (L (N + 1)).length yca] 44
 replace rN := rN.below bA
 replace rl := rl.below bA
 replace rh := rh.below bA
 replace rm := rm.below bA
 replace ru := ru.below bA
 replace rt := rt.below bA
 replace rx := rx.below bA
 replace ry := ry.below bA
 replace b0 := b0.trans (bA.mono b0.size)
 clear bA
 go_wp2_with fail
 generalize v13.alloc (.cells #[.slice xa (L (N - 1)).length xca, .slice ya (L (N + 1)).length yca] 44) = v14 at *
 obtain ⟨gl, hgl⟩ : ∃ gl, gl = v13.heap.size := ⟨_, rfl⟩
 rw [← hgl] at cL ⊢
 clear hgl
 have lNd := (HLK.out N (by omega)).2
 have lN0 := L_len_pos N n1
 have lN1 : (0 : Int) < ((L N).length : Int) := by omega
 obtain ⟨nb, no, rfl, _⟩ := rN lN0
 go_loopw [26, 27, 28, 167] (fun s26 s27 s28 iv wx => ∃ i : Nat, i ≤ 2 ∧ iv = .int .i64 (i : Int) ∧ (∃ c, s26 = c) ∧ (∃ c, s27 = c) ∧ (∃ c, s28 = c) ∧ Below v14.heap.size v14 wx) (fun _ _ _ iv _ => 2 - (intOf iv).toNat)
 case atStart => exact ⟨0, by omega, rfl, ⟨_, rfl⟩, ⟨_, rfl⟩, ⟨_, rfl⟩, Below.refl _ _⟩
 case round =>
  rename World => wx
  obtain ⟨i, hi2, rfl, ⟨s26, rfl⟩, ⟨s27, rfl⟩, ⟨s28, rfl⟩, hb⟩ := hrel
  by_cases hlt : i < 2
  · have hlt' : (i : Int) < 2 := by omega
    have hi0 : (0 : Int) ≤ (i : Int) := by omega
    obtain ⟨ka, kc, kk, hcell, rk, hk, lk0⟩ : ∃ ka kc kk, wx.cell? ⟨gl, i, none⟩ = some (.slice ka (L kk).length kc) ∧ Rd wx ka (L kk) ∧ (kk = N - 1 ∨ kk = N + 1) ∧ (L kk).length ≤ 10 := by
     have cL2 := cL.below hb
     rcases (show i = 0 ∨ i = 1 by omega) with rfl | rfl
     · exact ⟨xa, xca, N - 1, cL2.cell 0 rfl, rx.below hb, .inl rfl, ln1⟩
     · exact ⟨ya, yca, N + 1, cL2.cell 1 rfl, ry.below hb, .inr rfl, ln2⟩
    obtain ⟨lku, lkd⟩ := HLK.out kk (by omega)
    have HK := hid hk; clear hk
    go_wp2_with fail
    refine (natMul kk u ka ua kc uca wx (by omega) (by omega) rk (ru.below hb)).mono ?_
    rintro e w1 ⟨oa, oca, rfl, ro, hb1⟩
    have B1 := hb.trans (hb1.mono hb.size)
    clear hcell rk
    go_wp2_with fail
    refine (within_any (kk * u) lo hi cl oa la ha oca lca hca w1 (by omega) (by omega) (by omega) ro (rl.below B1) (rh.below B1)).mono ?_
    rintro e w2 ⟨rfl, hb2⟩
    have HB5 := hid (B1.trans (hb2.mono B1.size))
    replace ro := ro.below hb2
    clear hb2 hb1 B1
    cases hwj : wJ (kk * u) lo hi cl
    · clear hwj
      go_wp2_with fail
      go_roundw
      case rel => exact ⟨i + 1, by omega, by go_num, ⟨_, rfl⟩, ⟨_, rfl⟩, ⟨_, rfl⟩, HB5.out⟩
      case measure => simp [intOf]; omega
    · obtain ⟨g1, g2⟩ := HNR.out kk HK.out hwj
      have G1 := hid g1; have G2 := hid g2
      clear g1 g2 hwj
      have kp : Calls Tryz.prog 28 #[.slice ta (L (N * u)).length tca, .slice ma (L md).length mca] w2 fun e w' => Sn w2 w' e (dF md u N) := apart_any (N * u) md ta ma tca mca w2 (by omega) (by omega) (rt.below HB5.out) (rm.below HB5.out)
      go_wp2_with fail
      refine kp.mono ?_
      rintro e w3 ⟨pa, pca, rfl, rp, hb3⟩
      have kq : Calls Tryz.prog 28 #[.slice oa (L (kk * u)).length oca, .slice ma (L md).length mca] w3 fun e w' => Sn w3 w' e (dF md u kk) := apart_any (kk * u) md oa ma oca mca w3 (by omega) (by omega) (ro.below hb3) ((rm.below HB5.out).below hb3)
      replace HB5 := hid (HB5.out.trans (hb3.mono HB5.out.size))
      clear hb3 kp
      go_wp2_with fail
      refine kq.mono ?_
      rintro e w4 ⟨qa, qca, rfl, rq, hb4⟩
      replace rp := rp.below hb4
      replace HB5 := hid (HB5.out.trans (hb4.mono HB5.out.size))
      clear hb4 kq
      go_wp2_with fail
      refine (natCmp (dF md u N) (dF md u kk) pa qa pca qca w4 (by omega) (by omega) rp rq).mono ?_
      rintro e w5 ⟨rfl, hb5⟩
      replace HB5 := hid (HB5.out.trans (hb5.mono HB5.out.size))
      clear hb5 rp rq
      obtain ⟨nb', no', en, hnc⟩ := (rN.below HB5.out) lN0
      cases en
      have c0 := hnc 0 lN0
      rw [Nat.add_zero] at c0
      have ey : (L N).getD 0 0 = N % 18446744073709551616 := by rw [L_get, Nat.pow_zero, Nat.div_one]
      obtain ⟨y, hy⟩ : ∃ y, y = (L N).getD 0 0 := ⟨_, rfl⟩
      rw [← hy] at c0 ey
      clear hnc hy
      rcases cmpI_or (dF md u N : Int) (dF md u kk : Int) with hcmp | hcmp | hcmp
      · rw [hcmp]
        clear hcmp ey
        go_wp2_with fail
        go_roundw
        case rel => exact ⟨i + 1, by omega, by go_num, ⟨_, rfl⟩, ⟨_, rfl⟩, ⟨_, rfl⟩, HB5.out⟩
        case measure => simp [intOf]; omega
      · have hev := G2.out hcmp
        have hr0 : ((y : Nat) : Int).tmod 2 = 0 := by
         have : ((y : Nat) : Int).tmod 2 = ((y % 2 : Nat) : Int) := rfl
         rw [this]; omega
        rw [hcmp]
        clear hcmp ey hev
        go_wp2_with fail
        go_roundw
        case rel => exact ⟨i + 1, by omega, by go_num, ⟨_, rfl⟩, ⟨_, rfl⟩, ⟨_, rfl⟩, HB5.out⟩
        case measure => simp [intOf]; omega
      · exact absurd hcmp G1.out
  · have hlt' : ¬ (i : Int) < 2 := by omega
    have HB := hid (b0.trans (hb.mono b0.size))
    clear hb
    go_wp2_with fail
    go_ret
    exact ⟨rfl, HB.out⟩

end Go.Proofs.YtmglhkdgfcbonaaGreatDoor
