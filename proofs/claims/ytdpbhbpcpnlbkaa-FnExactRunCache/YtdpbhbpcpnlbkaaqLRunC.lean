import Derived.Test.YtdpbhbpcpnlbkaaqGF
set_option maxHeartbeats 8000000
namespace Go.Proofs.Ytdpbhbpcpnlbkaa
open Go.RowKit Go.Maps
set_option linter.unusedVariables false
set_option maxRecDepth 100000
theorem rep_new (v : World) (D : RD) (tv ov sv : Value) : Cls (v.alloc (.cells (RDv D tv ov sv) 32)) v.heap.size (RDv D tv ov sv) 32 := Cls.new v _ _

theorem TS.sl {B g n : Nat} {len : Nat → Nat} {x : Nat → Nat → Int × Int} {kb : Nat → Nat} {w : World} (h : TS B g n len x kb n w) : Sl w (some ⟨g, 0, none⟩) n (fun t => .slice (some ⟨kb t, 0, none⟩) (len t) (len t)) ∧ ∀ t, t < n → Sl w (some ⟨kb t, 0, none⟩) (len t * 2) (kf (x t)) :=
 ⟨Sl.of (h.1.congr (fun t ht => by rw [if_pos ht])), fun t ht => Sl.of (h.2.1 t ht).1⟩

theorem lawRunCache (a b : Int) (ao : Option Addr) (n c : Nat) (len ac : Nat → Nat) (ax : Nat → Option Addr) (x : Nat → Nat → Int × Int) (po : Option Addr) (pn pc : Nat) (p : Nat → Int) (w : World) (hn : (n : Int) < 9223372036854775808) (hln : ∀ t, t < n → (len t : Int) < 9223372036854775808) (hpn : (pn : Int) < 9223372036854775808) (ha : Sl w ao n (fun t => .slice (ax t) (len t) (ac t))) (hb : ∀ t, t < n → Sl w (ax t) (len t * 2) (kf (x t))) (hp : Sl w po pn (fun i => .int .i64 (p i))) :
 Calls Try.prog 5 #[.agg #[.int .i64 a, .int .i64 b], .slice ao n c, .slice po pn pc] w fun e w' => e = .returned (.bool true) ∧ Below w.heap.size w w' := by
 obtain ⟨U, hU⟩ : ∃ U, U = w.alloc (.cells #[.int .i64 a, .int .i64 b] 41) := ⟨_, rfl⟩
 have bU : Below w.heap.size w U := by rw [hU]; exact (Below.refl _ _).alloc (Nat.le_refl _) _
 have cU : Cls U w.heap.size #[.int .i64 a, .int .i64 b] 41 := by rw [hU]; exact Cls.new w _ _
 by_cases h20 : pn ≤ 1048576
 · have f20 : ¬ (1048576 : Int) < (pn : Int) := by omega
   have f20' : decide ((1048576 : Int) < (pn : Int)) = false := decide_eq_false f20
   have kZ := hidQ (szKeySS_any ao n c len ax ac U hn hln (ha.below bU))
   have HA := hidQ (fun (v : World) (hv : Below U.heap.size U v) => (ha.below bU).below hv)
   have HBK := hidQ (fun (v : World) (hv : Below U.heap.size U v) t (ht : t < n) => ((hb t ht).below bU).below hv)
   have HP := hidQ (fun (v : World) (hv : Below U.heap.size U v) => (hp.below bU).below hv)
   have CU := hidQ (fun (v : World) (hv : Below U.heap.size U v) => And.intro ((cU.below hv).cell 0 rfl) ((cU.below hv).cell 1 rfl))
   have BU := hidQ bU
   have kT := hidQ (fun v : World => toCacheConfig_any a b v)
   clear ha hb hp bU cU hln hn hpn
   go_enter Try.func5, Try.ntmps5
   go_upto_region 1 with fail
   rw [← hU]
   clear hU
   go_wp2_with fail
   refine kZ.out.mono ?_
   rintro e u0 ⟨r, rfl, hr, rfl⟩
   have HRR := hidQ hr
   clear hr
   by_cases hr0 : r < 0
   · go_wp2_with fail
     go_ret
     exact ⟨rfl, BU.out⟩
   · have hr0' : decide (r < 0) = false := decide_eq_false hr0
     obtain ⟨hn2, hl2⟩ : n ≤ 1048576 ∧ ∀ t, t < n → len t ≤ 1048576 := by
      rcases HRR.out with h | h
      · exact absurd h hr0
      · exact h
     have HL2 := hidQ hl2
     clear hl2 HRR kZ
     have kK := hidQ (fun (v : World) (hv : Below u0.heap.size u0 v) => toKeySS_any ao n c len ax ac x v hn2 HL2.out (HA.out v hv) (HBK.out v hv))
     have kI := hidQ (fun (v : World) (hv : Below u0.heap.size u0 v) => toIntS_any po pn pc p v h20 (HP.out v hv))
     obtain ⟨D, hD⟩ : ∃ D, D = rcD a b (tOf n len x) (pOf pn p) := ⟨_, rfl⟩
     have dk : RDok D := by rw [hD]; exact rcD_ok _ _ _ _
     have hpl : (pOf pn p).length = pn := by simp [pOf]
     have kSp := hidQ (fun (v : World) (B g gp : Nat) (kb : Nat → Nat) (hT : TS B g n len x kb n v) (hB : Bf v gp 3 pn (fun i => .int .i64 (p i))) => show Calls Try.prog 8 #[.agg #[.int .i64 a, .int .i64 b], .slice (some ⟨g, 0, none⟩) n n, .slice (some ⟨gp, 0, none⟩) pn pn] v fun e w' => ∃ v', e = .returned v' ∧ GRp w' v.heap.size v' D ∧ Below v.heap.size v w' from by
      have := srun_any a b n n pn (some ⟨g, 0, none⟩) (some ⟨gp, 0, none⟩) (tOf n len x) (pOf pn p) _ _ v (tOf_len _ _ _) hn2 (tOf_big HL2.out) (tkIn_of hT) (rdI_of hB) (fun b' off e => by injection e with e; injection e with e; rw [← e]; exact hB.lt)
      rw [hpl, ← hD] at this; exact this)
     have kIm := hidQ (fun (v : World) (B g gp : Nat) (kb : Nat → Nat) (hT : TS B g n len x kb n v) (hB : Bf v gp 3 pn (fun i => .int .i64 (p i))) => show Calls Try.prog 7 #[.agg #[.int .i64 a, .int .i64 b], .slice (some ⟨g, 0, none⟩) n n, .slice (some ⟨gp, 0, none⟩) pn pn] v fun e w' => ∃ v', e = .returned v' ∧ GRp w' v.heap.size v' D ∧ Below v.heap.size v w' from by
      have := irun_any a b n n pn (some ⟨g, 0, none⟩) (some ⟨gp, 0, none⟩) (tOf n len x) (pOf pn p) _ _ v (tOf_len _ _ _) hn2 (tOf_big HL2.out) (tkIn_of hT) (rdI_of hB) (fun b' off e => by injection e with e; injection e with e; rw [← e]; exact hB.lt)
      rw [hpl, ← hD] at this; exact this)
     have DK := hidQ dk
     clear hD hpl dk HA HBK HP
     obtain ⟨ca, cb⟩ := CU.out u0 (Below.refl _ _)
     go_wp2_with fail
     refine (kT.out _).mono ?_
     rintro e v1 ⟨rfl, b1⟩
     have B1 := hidQ b1
     clear b1 ca cb
     go_wp2_with fail
     refine (kK.out _ B1.out).mono ?_
     rintro e v2 ⟨kb2, rfl, t2, b2⟩
     have T2 := hidQ t2; have B2 := hidQ (keepC1 B1.out b2)
     clear t2 b2
     go_wp2_with fail
     refine (kI.out _ B2.out).mono ?_
     rintro e v3 ⟨rfl, i3, b3⟩
     have I3 := hidQ i3; have T3 := hidQ (T2.out.below b3); have B3 := hidQ (keepC1 B2.out b3)
     clear i3 b3
     go_wp2_with fail
     refine (kSp.out _ _ _ _ _ T3.out I3.out).mono ?_
     rintro e v4 ⟨vS, rfl, gS, b4⟩
     obtain ⟨taS, tcS, oaS, ocS, saS, scS, obS, rfl, GS⟩ := gS.named
     have G4 := hidQ GS; have B4 := hidQ (keepC1 B3.out b4)
     clear GS gS b4 T2 T3 I3
     obtain ⟨v5, hv5⟩ : ∃ v5, v5 = v4.alloc (.cells (RDv D (.slice taS D.T tcS) (.slice oaS D.T ocS) (.slice saS D.vs.length scS)) 32) := ⟨_, rfl⟩
     have C5 := hidQ (show Cls v5 v4.heap.size (RDv D (.slice taS D.T tcS) (.slice oaS D.T ocS) (.slice saS D.vs.length scS)) 32 from by rw [hv5]; exact rep_new _ _ _ _ _)
     have b45 : Below v4.heap.size v4 v5 := by rw [hv5]; exact (Below.refl _ _).alloc (Nat.le_refl _) _
     have B5 := hidQ (keepC1 B4.out b45)
     have R5 := hidQ (G4.out.read.below b45)
     clear b45
     unfold RDv at hv5
     unfold RDv
     go_upto_region 8 with fail
     rw [← hv5]
     clear hv5
     go_wp2_with fail
     refine (kK.out _ B5.out).mono ?_
     rintro e v6 ⟨kb6, rfl, t6, b6⟩
     have T6 := hidQ t6; have B6 := hidQ (keepC1 B5.out b6); have B56 := hidQ b6
     clear t6 b6
     go_wp2_with fail
     refine (kI.out _ B6.out).mono ?_
     rintro e v7 ⟨rfl, i7, b7⟩
     have I7 := hidQ i7; have T7 := hidQ (T6.out.below b7); have B7 := hidQ (keepC1 B6.out b7); have B57 := hidQ (keepC1 B56.out b7)
     clear i7 b7 T6
     obtain ⟨ca, cb⟩ := CU.out v7 B7.out
     go_wp2_with fail
     refine (kT.out _).mono ?_
     rintro e v8 ⟨rfl, b8⟩
     have I8 := hidQ (I7.out.below b8); have T8 := hidQ (T7.out.below b8); have B8 := hidQ (keepC1 B7.out b8); have B58 := hidQ (keepC1 B57.out b8)
     clear b8 ca cb I7 T7
     go_wp2_with fail
     refine (kIm.out _ _ _ _ _ T8.out I8.out).mono ?_
     rintro e v9 ⟨vI, rfl, gI, b9⟩
     obtain ⟨taI, tcI, oaI, ocI, saI, scI, obI, rfl, GI⟩ := gI.named
     have G9 := hidQ GI; have B9 := hidQ (keepC1 B8.out b9); have B59 := hidQ (keepC1 B58.out b9); have I9 := hidQ (I8.out.below b9); have T9 := hidQ (T8.out.below b9); have B89 := hidQ b9
     clear GI gI b9
     obtain ⟨v10, hv10⟩ : ∃ v10, v10 = v9.alloc (.cells (RDv D (.slice taI D.T tcI) (.slice oaI D.T ocI) (.slice saI D.vs.length scI)) 32) := ⟨_, rfl⟩
     have C10 := hidQ (show Cls v10 v9.heap.size (RDv D (.slice taI D.T tcI) (.slice oaI D.T ocI) (.slice saI D.vs.length scI)) 32 from by rw [hv10]; exact rep_new _ _ _ _ _)
     have b910 : Below v9.heap.size v9 v10 := by rw [hv10]; exact (Below.refl _ _).alloc (Nat.le_refl _) _
     have B10 := hidQ (keepC1 B9.out b910)
     have B510 := hidQ (keepC1 B59.out b910)
     have G10 := hidQ (G9.out.below b910); have T10 := hidQ (T9.out.below b910); have I10 := hidQ (I9.out.below b910)
     have R10 := hidQ (R5.out.below B510.out); have C510 := hidQ (C5.out.below B510.out)
     clear b910
     unfold RDv at hv10
     unfold RDv
     go_upto_region 11 with fail
     rw [← hv10]
     clear hv10
     have kE := hidQ (fun (v : World) (r1 : RRp v D taI oaI saI obI) (r2 : RRp v D taS oaS saS obS) => show Calls Try.prog 14 #[.agg #[.bool D.ok, .bool D.dn, .int .i64 (D.n : Int), .slice taI D.T tcI, .slice oaI D.T ocI, .int .i64 (D.h : Int), .int .i64 (D.md : Int), .int .i64 (D.pb : Int), .int .i64 (D.ev : Int), .int .i64 (D.ls : Int), .slice saI D.vs.length scI], .agg #[.bool D.ok, .bool D.dn, .int .i64 (D.n : Int), .slice taS D.T tcS, .slice oaS D.T ocS, .int .i64 (D.h : Int), .int .i64 (D.md : Int), .int .i64 (D.pb : Int), .int .i64 (D.ev : Int), .int .i64 (D.ls : Int), .slice saS D.vs.length scS]] v fun e w' => e = .returned (.bool true) ∧ Below v.heap.size v w' from eqRep_any D DK.out taI oaI saI taS oaS saS tcI ocI scI tcS ocS scS obI obS v r1 r2)
     have ci : Cls v10 v9.heap.size #[.bool D.ok, .bool D.dn, .int .i64 (D.n : Int), .slice taI D.T tcI, .slice oaI D.T ocI, .int .i64 (D.h : Int), .int .i64 (D.md : Int), .int .i64 (D.pb : Int), .int .i64 (D.ev : Int), .int .i64 (D.ls : Int), .slice saI D.vs.length scI] 32 := C10.out
     have cs : Cls v10 v4.heap.size #[.bool D.ok, .bool D.dn, .int .i64 (D.n : Int), .slice taS D.T tcS, .slice oaS D.T ocS, .int .i64 (D.h : Int), .int .i64 (D.md : Int), .int .i64 (D.pb : Int), .int .i64 (D.ev : Int), .int .i64 (D.ls : Int), .slice saS D.vs.length scS] 32 := C510.out
     have i0 := ci.cell 0 rfl; have i1 := ci.cell 1 rfl; have i2 := ci.cell 2 rfl; have i3 := ci.cell 3 rfl; have i4 := ci.cell 4 rfl; have i5 := ci.cell 5 rfl; have i6 := ci.cell 6 rfl; have i7 := ci.cell 7 rfl; have i8 := ci.cell 8 rfl; have i9 := ci.cell 9 rfl; have i10 := ci.cell 10 rfl
     have s0 := cs.cell 0 rfl; have s1 := cs.cell 1 rfl; have s2 := cs.cell 2 rfl; have s3 := cs.cell 3 rfl; have s4 := cs.cell 4 rfl; have s5 := cs.cell 5 rfl; have s6 := cs.cell 6 rfl; have s7 := cs.cell 7 rfl; have s8 := cs.cell 8 rfl; have s9 := cs.cell 9 rfl; have s10 := cs.cell 10 rfl
     clear ci cs
     go_wp2_with fail
     refine (kE.out _ G10.out.read R10.out).mono ?_
     rintro e v11 ⟨rfl, b11⟩
     have B11 := hidQ (keepC1 B10.out b11); have B1011 := hidQ b11
     clear b11 i0 i1 i2 i3 i4 i5 i6 i7 i8 i9 i10 s0 s1 s2 s3 s4 s5 s6 s7 s8 s9 s10
     go_wp2_with fail
     refine (kK.out _ B11.out).mono ?_
     rintro e v12 ⟨kb12, rfl, t12, b12⟩
     have T12 := hidQ t12; have B12 := hidQ (keepC1 B11.out b12); have B1012 := hidQ (keepC1 B1011.out b12)
     clear t12 b12
     have kQ := hidQ (eqKeySS_any (some ⟨v5.heap.size, 0, none⟩) (some ⟨v11.heap.size, 0, none⟩) n n n len (fun t => some ⟨kb6 t, 0, none⟩) (fun t => some ⟨kb12 t, 0, none⟩) len len x v12 hn2 HL2.out (T10.out.below B1012.out).sl.1 T12.out.sl.1 (T10.out.below B1012.out).sl.2 T12.out.sl.2)
     go_wp2_with fail
     refine kQ.out.mono ?_
     rintro e v13 ⟨rfl, b13⟩
     have B13 := hidQ (keepC1 B12.out b13); have B1013 := hidQ (keepC1 B1012.out b13)
     clear b13 kQ T12
     go_wp2_with fail
     refine (kI.out _ B13.out).mono ?_
     rintro e v14 ⟨rfl, i14, b14⟩
     have B14 := hidQ (keepC1 B13.out b14); have B1014 := hidQ (keepC1 B1013.out b14)
     have kQ := hidQ (eqIntS_any (some ⟨v6.heap.size, 0, none⟩) (some ⟨v13.heap.size, 0, none⟩) pn pn pn p v14 h20 (Sl.of (I10.out.below B1014.out)) (Sl.of i14))
     clear b14 i14
     go_wp2_with fail
     refine kQ.out.mono ?_
     rintro e v15 ⟨rfl, q15⟩
     have B15 := hidQ (keepC1 B14.out (q15.below _)); have B1015 := hidQ (keepC1 B1014.out (q15.below _))
     clear q15 kQ
     have T15 := hidQ (T10.out.below B1015.out); have I15 := hidQ (I10.out.below B1015.out)
     have hsum : sumL len n ≤ 1099511627776 := Nat.le_trans (sumL_le len n 1048576 HL2.out) (by have := Nat.mul_le_mul hn2 (Nat.le_refl 1048576); omega)
     have kM := hidQ (markKeySS_any (some ⟨v5.heap.size, 0, none⟩) n n 1 len len kb6 v15 hn2 (by omega) T15.out.sl.1 (fun b' off e t ht e2 => by injection e with e; injection e with e; exact T15.out.1.ne (T15.out.2.1 t ht).1 (by decide) (e.trans e2)) (fun t ht => ⟨_, (T15.out.2.1 t ht).1⟩) T15.out.2.2)
     go_wp2_with fail
     refine kM.out.mono ?_
     rintro e v16 ⟨rfl, m16⟩
     have M16 := hidQ m16
     have i16 := I15.out.tn m16 (fun ⟨t, ht, e⟩ => I15.out.ne (T15.out.2.1 t ht).1 (by decide) e)
     clear m16
     obtain ⟨kn, hkn⟩ : ∃ kn, 1 + sumL len n * 2 = kn := ⟨_, rfl⟩
     rw [hkn]
     have kM2 := hidQ (markIntS_any v6.heap.size pn pn pn kn _ v16 (Nat.le_refl _) (by omega) i16)
     clear i16 kM
     go_wp2_with fail
     refine kM2.out.mono ?_
     rintro e v17 ⟨rfl, -, m17⟩
     have kb6lt : ∀ t, t < n → v5.heap.size ≤ kb6 t ∧ kb6 t < v8.heap.size := fun t ht => ⟨(T8.out.2.1 t ht).2, (T8.out.2.1 t ht).1.lt⟩
     have i6lt : v5.heap.size ≤ v6.heap.size ∧ v6.heap.size < v8.heap.size := ⟨B56.out.size, I8.out.lt⟩
     have TT := hidQ (show Tn (fun g => v5.heap.size ≤ g ∧ g < v8.heap.size) v10 v17 from (Tn.below _ B1015.out).trans ((M16.out.mono (fun g _ ⟨t, ht, e⟩ => by rw [e]; exact kb6lt t ht)).trans (m17.mono (fun g _ e => by rw [e]; exact i6lt))))
     clear m17 M16 kM2 kb6lt i6lt
     have s89 := B89.out.size
     have s510 := B510.out.size
     have s59 := B59.out.size
     have B17 := hidQ (B10.out.trans (TT.out.under _ B10.out.size (fun g e => by have := B5.out.size; omega)))
     have B517 := hidQ (B510.out.trans (TT.out.under _ s510 (fun g e => e.1)))
     have G17 := hidQ (G10.out.tn TT.out (fun g h e => by omega))
     have R17 := hidQ (R5.out.below B517.out)
     have ci : Cls v17 v9.heap.size #[.bool D.ok, .bool D.dn, .int .i64 (D.n : Int), .slice taI D.T tcI, .slice oaI D.T ocI, .int .i64 (D.h : Int), .int .i64 (D.md : Int), .int .i64 (D.pb : Int), .int .i64 (D.ev : Int), .int .i64 (D.ls : Int), .slice saI D.vs.length scI] 32 := (TT.out.block _ C10.out.lt (fun e => by omega)).trans C10.out
     have cs : Cls v17 v4.heap.size #[.bool D.ok, .bool D.dn, .int .i64 (D.n : Int), .slice taS D.T tcS, .slice oaS D.T ocS, .int .i64 (D.h : Int), .int .i64 (D.md : Int), .int .i64 (D.pb : Int), .int .i64 (D.ev : Int), .int .i64 (D.ls : Int), .slice saS D.vs.length scS] 32 := C5.out.below B517.out
     have C17 := hidQ ci
     have i0 := ci.cell 0 rfl; have i1 := ci.cell 1 rfl; have i2 := ci.cell 2 rfl; have i3 := ci.cell 3 rfl; have i4 := ci.cell 4 rfl; have i5 := ci.cell 5 rfl; have i6 := ci.cell 6 rfl; have i7 := ci.cell 7 rfl; have i8 := ci.cell 8 rfl; have i9 := ci.cell 9 rfl; have i10 := ci.cell 10 rfl
     have s0 := cs.cell 0 rfl; have s1 := cs.cell 1 rfl; have s2 := cs.cell 2 rfl; have s3 := cs.cell 3 rfl; have s4 := cs.cell 4 rfl; have s5 := cs.cell 5 rfl; have s6 := cs.cell 6 rfl; have s7 := cs.cell 7 rfl; have s8 := cs.cell 8 rfl; have s9 := cs.cell 9 rfl; have s10 := cs.cell 10 rfl
     clear ci cs
     obtain ⟨kn2, hkn2⟩ : ∃ kn2, kn + pn = kn2 := ⟨_, rfl⟩
     rw [hkn2]
     have hk2 : ¬ (kn2 : Int) < 0 := by omega
     have hk2' : decide ((kn2 : Int) < 0) = false := decide_eq_false hk2
     clear hkn hkn2
     go_wp2_with fail
     refine (kE.out _ G17.out.read R17.out).mono ?_
     rintro e v18 ⟨rfl, b18⟩
     have B18 := hidQ (keepC1 B17.out b18); have B518 := hidQ (keepC1 B517.out b18); have G18 := hidQ (G17.out.below b18)
     have ci : Cls v18 v9.heap.size #[.bool D.ok, .bool D.dn, .int .i64 (D.n : Int), .slice taI D.T tcI, .slice oaI D.T ocI, .int .i64 (D.h : Int), .int .i64 (D.md : Int), .int .i64 (D.pb : Int), .int .i64 (D.ev : Int), .int .i64 (D.ls : Int), .slice saI D.vs.length scI] 32 := C17.out.below b18
     have C18 := hidQ ci
     have s1718 := b18.size
     have sz18 : v8.heap.size ≤ v18.heap.size := by have := TT.out.size; have := C10.out.lt; omega
     clear b18 i0 i1 i2 i3 i4 i5 i6 i7 i8 i9 i10 s0 s1 s2 s3 s4 s5 s6 s7 s8 s9 s10
     have i0 := ci.cell 0 rfl; have i1 := ci.cell 1 rfl; have i2 := ci.cell 2 rfl; have i3 := ci.cell 3 rfl; have i4 := ci.cell 4 rfl; have i5 := ci.cell 5 rfl; have i6 := ci.cell 6 rfl; have i7 := ci.cell 7 rfl; have i8 := ci.cell 8 rfl; have i9 := ci.cell 9 rfl; have i10 := ci.cell 10 rfl
     clear ci
     have kMk := hidQ (show Calls Try.prog 19 #[.agg #[.bool D.ok, .bool D.dn, .int .i64 (D.n : Int), .slice taI D.T tcI, .slice oaI D.T ocI, .int .i64 (D.h : Int), .int .i64 (D.md : Int), .int .i64 (D.pb : Int), .int .i64 (D.ev : Int), .int .i64 (D.ls : Int), .slice saI D.vs.length scI], .int .i64 1] v18 fun e w' => e = .returned (.int .i64 (mTot D : Int)) ∧ MRp w' D taI oaI saI obI ∧ Tn (fun g => v8.heap.size ≤ g ∧ g < v9.heap.size) v18 w' from G9.out.mark G18.out DK.out sz18)
     go_wp2_with fail
     refine kMk.out.mono ?_
     rintro e v19 ⟨rfl, mr, t19⟩
     have MR := hidQ mr
     have ci : Cls v19 v9.heap.size #[.bool D.ok, .bool D.dn, .int .i64 (D.n : Int), .slice taI D.T tcI, .slice oaI D.T ocI, .int .i64 (D.h : Int), .int .i64 (D.md : Int), .int .i64 (D.pb : Int), .int .i64 (D.ev : Int), .int .i64 (D.ls : Int), .slice saI D.vs.length scI] 32 := (t19.block _ C18.out.lt (fun e => by omega)).trans C18.out
     have B19 := hidQ (B18.out.trans (t19.under _ B18.out.size (fun g e => by have := B8.out.size; omega)))
     have B519 := hidQ (B518.out.trans (t19.under _ B518.out.size (fun g e => by have := B58.out.size; omega)))
     clear mr t19 i0 i1 i2 i3 i4 i5 i6 i7 i8 i9 i10 kMk
     have i0 := ci.cell 0 rfl; have i1 := ci.cell 1 rfl; have i2 := ci.cell 2 rfl; have i3 := ci.cell 3 rfl; have i4 := ci.cell 4 rfl; have i5 := ci.cell 5 rfl; have i6 := ci.cell 6 rfl; have i7 := ci.cell 7 rfl; have i8 := ci.cell 8 rfl; have i9 := ci.cell 9 rfl; have i10 := ci.cell 10 rfl
     clear ci
     have kHd := hidQ (show Calls Try.prog 20 #[.agg #[.bool D.ok, .bool D.dn, .int .i64 (D.n : Int), .slice taI D.T tcI, .slice oaI D.T ocI, .int .i64 (D.h : Int), .int .i64 (D.md : Int), .int .i64 (D.pb : Int), .int .i64 (D.ev : Int), .int .i64 (D.ls : Int), .slice saI D.vs.length scI], .int .i64 1] v19 fun e w' => e = .returned (.int .i64 (mTot D : Int)) ∧ Below v19.heap.size v19 w' from heldRep_any D DK.out taI oaI saI tcI ocI scI obI v19 MR.out)
     go_wp2_with fail
     refine kHd.out.mono ?_
     rintro e v20 ⟨rfl, b20⟩
     have B20 := hidQ (keepC1 B19.out b20); have B520 := hidQ (keepC1 B519.out b20)
     clear b20 i0 i1 i2 i3 i4 i5 i6 i7 i8 i9 i10 kHd
     obtain ⟨mt, hmt⟩ : ∃ mt, mTot D = mt := ⟨_, rfl⟩
     rw [hmt]
     have hm0 : ¬ (mt : Int) < 0 := by omega
     have hm0' : decide ((mt : Int) < 0) = false := decide_eq_false hm0
     clear hmt
     obtain ⟨ca, cb⟩ := CU.out v20 B20.out
     go_wp2_with fail
     refine (kT.out _).mono ?_
     rintro e v21 ⟨rfl, b21⟩
     have B21 := hidQ (keepC1 B20.out b21); have B521 := hidQ (keepC1 B520.out b21)
     clear b21 ca cb
     go_wp2_with fail
     refine (kK.out _ B21.out).mono ?_
     rintro e v22 ⟨kb22, rfl, t22, b22⟩
     have T22 := hidQ t22; have B22 := hidQ (keepC1 B21.out b22); have B522 := hidQ (keepC1 B521.out b22)
     clear t22 b22
     go_wp2_with fail
     refine (kI.out _ B22.out).mono ?_
     rintro e v23 ⟨rfl, i23, b23⟩
     have I23 := hidQ i23; have T23 := hidQ (T22.out.below b23); have B23 := hidQ (keepC1 B22.out b23); have B523 := hidQ (keepC1 B522.out b23)
     clear i23 b23
     go_wp2_with fail
     refine (kIm.out _ _ _ _ _ T23.out I23.out).mono ?_
     rintro e v24 ⟨vH, rfl, gH, b24⟩
     obtain ⟨taH, tcH, oaH, ocH, saH, scH, obH, rfl, GH⟩ := gH.named
     have G24 := hidQ GH; have B24 := hidQ (keepC1 B23.out b24); have B524 := hidQ (keepC1 B523.out b24)
     clear GH gH b24 T22 T23 I23
     obtain ⟨v25, hv25⟩ : ∃ v25, v25 = v24.alloc (.cells (RDv D (.slice taH D.T tcH) (.slice oaH D.T ocH) (.slice saH D.vs.length scH)) 32) := ⟨_, rfl⟩
     have ci : Cls v25 v24.heap.size #[.bool D.ok, .bool D.dn, .int .i64 (D.n : Int), .slice taH D.T tcH, .slice oaH D.T ocH, .int .i64 (D.h : Int), .int .i64 (D.md : Int), .int .i64 (D.pb : Int), .int .i64 (D.ev : Int), .int .i64 (D.ls : Int), .slice saH D.vs.length scH] 32 := by rw [hv25]; exact rep_new _ _ _ _ _
     have b2425 : Below v24.heap.size v24 v25 := by rw [hv25]; exact (Below.refl _ _).alloc (Nat.le_refl _) _
     have B25 := hidQ (keepC1 B24.out b2425); have B525 := hidQ (keepC1 B524.out b2425); have G25 := hidQ (G24.out.below b2425)
     have cs : Cls v25 v4.heap.size #[.bool D.ok, .bool D.dn, .int .i64 (D.n : Int), .slice taS D.T tcS, .slice oaS D.T ocS, .int .i64 (D.h : Int), .int .i64 (D.md : Int), .int .i64 (D.pb : Int), .int .i64 (D.ev : Int), .int .i64 (D.ls : Int), .slice saS D.vs.length scS] 32 := C5.out.below B525.out
     have kE2 := hidQ (show Calls Try.prog 14 #[.agg #[.bool D.ok, .bool D.dn, .int .i64 (D.n : Int), .slice taH D.T tcH, .slice oaH D.T ocH, .int .i64 (D.h : Int), .int .i64 (D.md : Int), .int .i64 (D.pb : Int), .int .i64 (D.ev : Int), .int .i64 (D.ls : Int), .slice saH D.vs.length scH], .agg #[.bool D.ok, .bool D.dn, .int .i64 (D.n : Int), .slice taS D.T tcS, .slice oaS D.T ocS, .int .i64 (D.h : Int), .int .i64 (D.md : Int), .int .i64 (D.pb : Int), .int .i64 (D.ev : Int), .int .i64 (D.ls : Int), .slice saS D.vs.length scS]] v25 fun e w' => e = .returned (.bool true) ∧ Below v25.heap.size v25 w' from eqRep_any D DK.out taH oaH saH taS oaS saS tcH ocH scH tcS ocS scS obH obS v25 G25.out.read (R5.out.below B525.out))
     have i0 := ci.cell 0 rfl; have i1 := ci.cell 1 rfl; have i2 := ci.cell 2 rfl; have i3 := ci.cell 3 rfl; have i4 := ci.cell 4 rfl; have i5 := ci.cell 5 rfl; have i6 := ci.cell 6 rfl; have i7 := ci.cell 7 rfl; have i8 := ci.cell 8 rfl; have i9 := ci.cell 9 rfl; have i10 := ci.cell 10 rfl
     have s0 := cs.cell 0 rfl; have s1 := cs.cell 1 rfl; have s2 := cs.cell 2 rfl; have s3 := cs.cell 3 rfl; have s4 := cs.cell 4 rfl; have s5 := cs.cell 5 rfl; have s6 := cs.cell 6 rfl; have s7 := cs.cell 7 rfl; have s8 := cs.cell 8 rfl; have s9 := cs.cell 9 rfl; have s10 := cs.cell 10 rfl
     clear b2425 ci cs
     unfold RDv at hv25
     unfold RDv
     go_upto_region 31 with fail
     rw [← hv25]
     clear hv25
     go_wp2_with fail
     refine kE2.out.mono ?_
     rintro e v26 ⟨rfl, b26⟩
     have B26 := hidQ (keepC1 B25.out b26)
     clear b26 i0 i1 i2 i3 i4 i5 i6 i7 i8 i9 i10 s0 s1 s2 s3 s4 s5 s6 s7 s8 s9 s10
     go_wp2_with fail
     go_ret
     exact ⟨rfl, BU.out.trans (B26.out.mono BU.out.size)⟩
 · have f20 : (1048576 : Int) < (pn : Int) := by omega
   have BU := hidQ bU
   clear ha hb hp bU cU hln hn hpn
   go_enter Try.func5, Try.ntmps5
   go_upto_region 1 with fail
   rw [← hU]
   clear hU
   go_wp2_with fail
   go_ret
   exact ⟨rfl, BU.out⟩

end Go.Proofs.Ytdpbhbpcpnlbkaa
