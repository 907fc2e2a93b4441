import Derived.Test.YtdpbhbpcpnlbkaaaGK
set_option maxHeartbeats 2000000
namespace Go.Proofs.Ytdpbhbpcpnlbkaa
open Go.RowKit Go.Maps
set_option linter.unusedVariables false
set_option maxRecDepth 100000
theorem drc_any {w : World} {ao : Option Addr} {n c : Nat} {f : Nat → Nat} (hs : Sl w ao n (fun j => .int .u8 (f j : Int))) (hn : n ≤ 1048576) (hf : ∀ j, f j < 256) :
 Calls Try.prog 6 #[.slice ao n c] w fun e w' => ∃ tv pv rv, e = .returned (.tuple #[.agg #[.int .i64 (drF n f).1.1, .int .i64 (drF n f).1.2], tv, pv]) ∧ KR w' w.heap.size tv (drF n f).2.1 rv ∧ w'.ownsRow w.heap.size 3 1 pv (drF n f).2.2.length ((drF n f).2.2.map fun z => .int .i64 z) ∧ Below w.heap.size w w' := by
 obtain ⟨U, hU⟩ : ∃ U, U = (w.alloc (.cells #[.int .i64 0, .int .i64 0] 24)).alloc (.cells #[.slice ao n c, .int .i64 0] 56) := ⟨_, rfl⟩
 have bU : Below w.heap.size w U := by rw [hU]; exact ((Below.refl _ _).alloc (Nat.le_refl _) _).alloc (by simp) _
 have zU : Cls U w.heap.size #[.int .i64 0, .int .i64 0] 24 := by rw [hU]; exact (Cls.new w _ _).below ((Below.refl _ _).alloc (Nat.le_refl _) _)
 have rU : Rx U (w.heap.size + 1) ao n c f 0 := ⟨by rw [hU]; have := Cls.new (w.alloc (.cells #[.int .i64 0, .int .i64 0] 24)) #[.slice ao n c, .int .i64 ((0 : Nat) : Int)] 56; simpa using this, hs.below bU, fun h0 b off e => by obtain ⟨b2, o2, e2, hl, -⟩ := hs h0; rw [e2] at e; injection e with e; injection e with e; omega, by omega, hn, hf⟩
 have kC := hidQ (config_any rU)
 have BU := hidQ bU; have ZU := hidQ zU
 obtain ⟨F, hF⟩ : ∃ F, drF n f = F := ⟨_, rfl⟩
 rw [hF]
 unfold drF at hF
 obtain ⟨CF, hCF⟩ : ∃ x, cfF (nx n f 0) = x := ⟨_, rfl⟩
 obtain ⟨cf1, cf2⟩ := CF
 obtain ⟨i1, hi1⟩ : ∃ x, ad n 0 = x := ⟨_, rfl⟩
 rw [hCF] at kC hF
 rw [hi1] at kC hF
 obtain ⟨k, hkk⟩ : ∃ x, nx n f i1 = x := ⟨_, rfl⟩
 obtain ⟨i2, hi2⟩ : ∃ x, ad n i1 = x := ⟨_, rfl⟩
 have hk := nx_lt hf (n := n) i1
 rw [hkk, hi2] at hF
 rw [hkk] at hk
 have HF := hidQ hF; have HK := hidQ hkk; have HI2 := hidQ hi2; have HFb := hidQ hf
 clear hF bU zU rU hCF hi1 hkk hi2 hf hs
 go_enter Try.func6, Try.ntmps6
 go_upto_region 2 with fail
 rw [← hU]
 clear hU
 dsimp only at kC
 go_wp2_with fail
 refine kC.out.mono ?_
 rintro e v ⟨rfl, hr, ht⟩
 have bV : Below v.heap.size v (v.alloc (.cells #[.int .i64 cf1, .int .i64 cf2] 24)) := (Below.refl _ _).alloc (Nat.le_refl _) _
 have yV := Cls.new v #[.int .i64 cf1, .int .i64 cf2] 24
 have zV : Cls v w.heap.size #[.int .i64 0, .int .i64 0] 24 := (ht.block _ ZU.out.lt (by omega)).trans ZU.out
 have kN := hidQ (by have := next_any (hr.below bV); rwa [HK.out, HI2.out] at this)
 have TV := hidQ ((Tn.below (fun b => b = w.heap.size + 1) BU.out).trans (ht.trans (Tn.below _ bV)))
 have YV := hidQ yV; have ZV := hidQ (zV.below bV)
 have lv := hr.r.lt
 clear hr ht bV yV zV
 go_wp2_with fail
 refine kN.out.mono ?_
 rintro e v2 ⟨rfl, hr, ht⟩
 have Y2 := hidQ (show Cls v2 v.heap.size #[.int .i64 cf1, .int .i64 cf2] 24 from (ht.block _ YV.out.lt (by omega)).trans YV.out)
 have Z2 := hidQ (show Cls v2 w.heap.size #[.int .i64 0, .int .i64 0] 24 from (ht.block _ ZV.out.lt (by omega)).trans ZV.out)
 have T2 := hidQ (TV.out.trans ht)
 have R2 := hidQ hr
 have l2 := Y2.out.lt
 clear hr ht kN kC TV YV ZV BU ZU HK HI2
 obtain ⟨a5, h5⟩ : ∃ a, k % 5 = a := ⟨_, rfl⟩
 have i5 : (k : Int) % 5 = (a5 : Int) := by rw [← h5]; simp
 have hb5 : a5 < 5 := by omega
 have H5 := hidQ h5
 have lw2 : w.heap.size + 1 < v2.heap.size := R2.out.r.lt
 obtain ⟨E0, he⟩ := elKs
 have HE := hidQ he
 clear h5 he
 go_wp2_with fail
 rw [i5]
 clear i5
 go_loopg [8, 9, 10, 11] a5 (fun gk tv nv _ _ wr => ∃ t rv, t + gk = a5 ∧ nv = .int .i64 (gk : Int) ∧ KR wr v2.heap.size tv (tkL n f k i2 t).1 rv ∧ Rx wr (w.heap.size + 1) ao n c f (tkL n f k i2 t).2 ∧ Tn (fun b => b = w.heap.size + 1) v2 wr)
 case atStart => exact ⟨0, _, by omega, rfl, KR.nil _ _, R2.out, Tn.refl _ _⟩
 case round =>
  rename World => wr
  obtain ⟨t, rv, htg, rfl, hkr, hr, ht⟩ := hrel
  obtain ⟨G, rfl⟩ : ∃ G, G = gk := ⟨_, rfl⟩
  have wG : 0 < G → IntKind.i64.wrap ((G : Int) - 1) = (G : Int) - 1 := fun _ => by simp only [IntKind.wrap_i64]; omega
  obtain ⟨ta, tc, rfl⟩ := own_any hkr.own
  have HKR := hidQ hkr; have HRW := hidQ hr; have HTW := hidQ ht
  by_cases g0 : 0 < G
  · have g0' : (0 : Int) < (G : Int) := by omega
    have wG := wG g0
    obtain ⟨q, hq⟩ : ∃ q, (tkL n f k i2 t).2 = q := ⟨_, rfl⟩
    rw [hq] at hr
    have kN := hidQ (next_any hr)
    have LE := hidQ (show tkL n f k i2 (t + 1) = ((tkL n f k i2 t).1 ++ [(tkF n f k q).1], (tkF n f k q).2) from by rw [tkL, hq])
    obtain ⟨M, p0, hM⟩ : ∃ M p0, tkF n f k q = kyL n f p0 M ∧ (if 248 ≤ k then M = 59 + nx n f (ad n q) % 3 ∧ p0 = ad n (ad n q) else M = nx n f q % 9 ∧ p0 = ad n q) := by
     unfold tkF
     split
     · exact ⟨_, _, rfl, rfl, rfl⟩
     · exact ⟨_, _, rfl, rfl, rfl⟩
    obtain ⟨hTF, hM⟩ := hM
    have HTF := hidQ hTF; have HM := hidQ hM
    have hx1 := nx_lt HFb.out (n := n) q
    have hx2 := nx_lt HFb.out (n := n) (ad n q)
    have hMb : M ≤ 61 := by split at hM <;> omega
    clear hkr hr ht hq hTF hM
    go_wp2_with fail
    refine kN.out.mono ?_
    rintro e u ⟨rfl, hr, ht⟩
    have HRU := hidQ hr; have HTU := hidQ ht
    have kN2 := hidQ (next_any hr)
    obtain ⟨x, hxx⟩ : ∃ x, nx n f q = x := ⟨_, rfl⟩
    obtain ⟨y, hyy⟩ : ∃ x, nx n f (ad n q) = x := ⟨_, rfl⟩
    rw [hxx] at hx1 ⊢
    rw [hyy] at hx2 kN2
    have HM := hidQ (by have := HM.out; rwa [hxx, hyy] at this)
    obtain ⟨x9, h9⟩ : ∃ a, x % 9 = a := ⟨_, rfl⟩
    obtain ⟨y3, h3⟩ : ∃ a, y % 3 = a := ⟨_, rfl⟩
    have ix : (x : Int) % 9 = (x9 : Int) := by rw [← h9]; simp
    have iy : (y : Int) % 3 = (y3 : Int) := by rw [← h3]; simp
    have wy : IntKind.i64.wrap (59 + (y3 : Int)) = 59 + (y3 : Int) := by simp only [IntKind.wrap_i64]; omega
    have HM := hidQ (by have := HM.out; rwa [h9, h3] at this)
    clear hr ht hxx hyy h9 h3 kN
    go_upto_if 29 with fail
    go_cut [11] (fun mv wz => mv = .int .i64 (M : Int) ∧ Rx wz (w.heap.size + 1) ao n c f p0 ∧ Tn (fun b => b = w.heap.size + 1) wr wz)
    case first =>
     by_cases c1 : 248 ≤ k
     · have c1' : (248 : Int) ≤ (k : Int) := by omega
       have E := hidQ (by have := HM.out; rwa [if_pos c1] at this)
       go_wp2_with fail
       refine kN2.out.mono ?_
       rintro e u2 ⟨rfl, hr2, ht2⟩
       have A := hidQ hr2; have B := hidQ ht2
       clear hr2 ht2
       go_wp2_with fail
       go_meet
       exact ⟨by rw [E.out.1]; simp, by rw [E.out.2]; exact A.out, HTU.out.trans B.out⟩
     · have c1' : ¬ (248 : Int) ≤ (k : Int) := by omega
       have E := hidQ (by have := HM.out; rwa [if_neg c1] at this)
       go_wp2_with fail
       go_meet
       exact ⟨by rw [E.out.1], by rw [E.out.2]; exact HRU.out, HTU.out⟩
    case rest =>
     rename World => wz
     obtain ⟨rfl, hrz, htz⟩ := hcut
     have HRZ := hidQ hrz; have HTZ := hidQ htz
     have lz : w.heap.size + 1 < wz.heap.size := hrz.r.lt
     have lv2 : v2.heap.size ≤ wz.heap.size := Nat.le_trans HTW.out.size htz.size
     clear hrz htz kN2 HRU HTU HM
     go_wp2_with fail
     go_loopg [10, 11] M (fun gm kv mv wy => ∃ j, j + gm = M ∧ mv = .int .i64 (gm : Int) ∧ wy.ownsRow wz.heap.size 36 2 kv (kyL n f p0 j).1.length (KyL (kyL n f p0 j).1) ∧ Rx wy (w.heap.size + 1) ao n c f (kyL n f p0 j).2 ∧ Tn (fun b => b = w.heap.size + 1) wz wy)
     case atStart => exact ⟨0, by omega, rfl, World.ownsRow_nil _ _ _ _, HRZ.out, Tn.refl _ _⟩
     case round =>
      rename World => wy
      obtain ⟨j, hjg, rfl, hok, hry, hty⟩ := hrel
      obtain ⟨ka, kc, rfl⟩ := own_any hok
      have HOK := hidQ hok; have HRY := hidQ hry; have HTY := hidQ hty
      by_cases g1 : 0 < gk
      · have g1' : (0 : Int) < (gk : Int) := by omega
        have KD := hidQ (key_draw hry)
        have LK := hidQ (show kyL n f p0 (j + 1) = ((kyL n f p0 j).1 ++ [(keF n f (kyL n f p0 j).2).1], (keF n f (kyL n f p0 j).2).2) from rfl)
        have wg : IntKind.i64.wrap ((gk : Int) - 1) = (gk : Int) - 1 := by simp only [IntKind.wrap_i64]; omega
        have ll := kyL_len n f p0 j
        obtain ⟨KE, hKE⟩ : ∃ x, keF n f (kyL n f p0 j).2 = x := ⟨_, rfl⟩
        rw [hKE] at KD LK
        obtain ⟨⟨k1, k2⟩, p1⟩ := KE
        have LL := hidQ ll
        clear hok hry hty hKE ll
        dsimp only at KD LK
        go_wp2_with fail
        refine KD.out.mono ?_
        rintro e u ⟨rfl, hru, htu⟩
        have bA : Below u.heap.size u (u.alloc (.cells #[.int .i64 k1, .int .i64 k2] 36)) := (Below.refl _ _).alloc (Nat.le_refl _) _
        have oU := own_tn HOK.out htu (fun b e e2 => by have := (own_lt HOK.out e).2; omega)
        have OA := hidQ (own_tn oU (Tn.below (fun _ => False) bA) (fun _ _ e => e))
        have RA := hidQ (hru.below bA)
        have TA := hidQ ((HTY.out.trans htu).trans (Tn.below _ bA))
        clear hru htu bA oU
        go_wp2_with (at_builtin; refine apK_list rfl _ _ rfl _ wz.heap.size (.slice ka (kyL n f p0 j).1.length kc) (kyL n f p0 j).1 rfl OA.out u.heap.size 1 rfl (k1, k2) ?c1 ?c2 ?c3 ?c4 ?_)
        case c3 => rw [LL.out]; omega
        case c4 => exact TA.out.size
        intro g2 cap w1 own1 t1 at1 lt1
        obtain ⟨R1, T1⟩ := rx_own t1 (fun b e => (own_lt OA.out e).2) RA.out TA.out lz
        have HR1 := hidQ R1; have HT1 := hidQ T1; have HO1 := hidQ own1
        clear R1 T1 own1 t1
        go_wp2_with fail
        go_roundg (gk - 1)
        case measure => omega
        case rel => exact ⟨j + 1, by omega, by congr 1; omega, by rw [LK.out]; simpa using HO1.out, by rw [LK.out]; exact HR1.out, HT1.out⟩
      · have g1' : ¬ (0 : Int) < (gk : Int) := by omega
        have ej : j = M := by omega
        subst ej
        have LL := hidQ (kyL_len n f p0 j); have TL := hidQ (tkL_len n f k i2 t)
        have kr2 := (HKR.out.tn HTZ.out (fun b h1 h2 e => by omega)).tn hty (fun b h1 h2 e => by omega)
        have bA : Below wy.heap.size wy (wy.alloc (.cells #[.slice ka (kyL n f p0 j).1.length kc] 34)) := (Below.refl _ _).alloc (Nat.le_refl _) _
        have KA := hidQ (kr2.below bA)
        have RA := hidQ (hry.below bA)
        have TA := hidQ ((HTW.out.trans (HTZ.out.trans hty)).trans (Tn.below _ bA))
        have OA := hidQ (own_mono (own_tn hok (Tn.below (fun _ => False) bA) (fun _ _ e => e)) lv2)
        clear hok hry hty kr2 bA
        go_wp2_with (at_builtin; refine ap_list HE.out rfl _ _ rfl _ v2.heap.size (.slice ta (tkL n f k i2 t).1.length tc) (tkL n f k i2 t).1.length _ rfl KA.out.own wy.heap.size 1 rfl (.slice ka (kyL n f p0 j).1.length kc) ?c5 rfl ?c6 ?c7 ?_)
        case c6 => rw [TL.out]; omega
        case c7 => have := TA.out.size; simpa using this
        intro g2 cap w1 own1 t1 at1 lt1
        obtain ⟨R1, T1⟩ := rx_own t1 (fun b e => (own_lt KA.out.own e).2) RA.out TA.out lw2
        have HR1 := hidQ R1; have HT1 := hidQ T1; have HO1 := hidQ (KA.out.push OA.out t1 own1)
        clear R1 T1 own1 t1
        go_wp2_with fail
        go_roundg (G - 1)
        case measure => omega
        case rel => exact ⟨t + 1, _, by omega, by congr 1; omega, by rw [LE.out, HTF.out]; simpa using HO1.out, by rw [LE.out, HTF.out]; exact HR1.out, HT1.out⟩
  · have g0' : ¬ (0 : Int) < (G : Int) := by omega
    have et : t = a5 := by omega
    subst et
    obtain ⟨b31, h31⟩ : ∃ a, k % 32 = a := ⟨_, rfl⟩
    obtain ⟨d, hd⟩ : ∃ a, k / 128 = a := ⟨_, rfl⟩
    have i31 : (k : Int) % 32 = (b31 : Int) := by rw [← h31]; simp
    have id' : (k : Int) / 128 = (d : Int) := by rw [← hd]; simp
    have hdb : d ≤ 1 := by omega
    have wd : IntKind.i64.wrap (8 + (d : Int)) = 8 + (d : Int) := by simp only [IntKind.wrap_i64]; omega
    have TSF := hidQ (show tsF n f k i2 = if b31 = 31 then exL (tkL n f k i2 t).1 (8 + d - t) else (tkL n f k i2 t).1 from by unfold tsF; rw [h31, hd, H5.out])
    clear hkr hr ht h31 hd
    go_upto_if 49 with fail
    go_cut [8, 48, 49] (fun tv _ _ wz => ∃ rv, KR wz v2.heap.size tv (tsF n f k i2) rv ∧ Rx wz (w.heap.size + 1) ao n c f (tkL n f k i2 t).2 ∧ Tn (fun b => b = w.heap.size + 1) v2 wz)
    case first =>
     by_cases c31 : b31 = 31
     · subst c31
       have E := hidQ (by have := TSF.out; rwa [if_pos rfl] at this)
       go_wp2_with fail
       go_loopg [8] (8 + d - t) (fun gk tv wy => ∃ m rv, m + gk = 8 + d - t ∧ KR wy v2.heap.size tv (exL (tkL n f k i2 t).1 m) rv ∧ Rx wy (w.heap.size + 1) ao n c f (tkL n f k i2 t).2 ∧ Tn (fun b => b = w.heap.size + 1) v2 wy)
       case atStart => exact ⟨0, _, by omega, HKR.out, HRW.out, HTW.out⟩
       case round =>
        rename World => wy
        obtain ⟨m, rv', hmg, hkr, hr, ht⟩ := hrel
        obtain ⟨tb, tc', rfl⟩ := own_any hkr.own
        have XL := exL_len (tkL n f k i2 t).1 m
        rw [tkL_len] at XL
        obtain ⟨L, hL⟩ : ∃ L, (exL (tkL n f k i2 t).1 m).length = L := ⟨_, rfl⟩
        have hLe : L = t + m := by omega
        have HLe := hidQ hLe; have HL := hidQ hL
        have TL := hidQ (tkL_len n f k i2 t)
        have lt2 := ht.size
        by_cases g1 : 0 < gk
        · have g1' : (L : Int) < 8 + (d : Int) := by omega
          have hL9 : L < 100 := by omega
          have XE := hidQ (show exL (tkL n f k i2 t).1 (m + 1) = exL (tkL n f k i2 t).1 m ++ [[(((L : Nat) : Int), 64)]] from by rw [hLe, exL, tkL_len])
          rw [hL]
          have bA : Below wy.heap.size wy (wy.alloc (.cells #[.int .i64 (L : Int), .int .i64 64] 36)) := (Below.refl _ _).alloc (Nat.le_refl _) _
          have oA : (wy.alloc (.cells #[.int .i64 (L : Int), .int .i64 64] 36)).ownsRow v2.heap.size 36 2 (.slice (some ⟨wy.heap.size, 0, none⟩) 1 1) 1 _ := World.ownsRow_lit wy #[.int .i64 (L : Int), .int .i64 64] 1 lt2 (by decide) rfl
          have bB : Below (wy.alloc (.cells #[.int .i64 (L : Int), .int .i64 64] 36)).heap.size (wy.alloc (.cells #[.int .i64 (L : Int), .int .i64 64] 36)) ((wy.alloc (.cells #[.int .i64 (L : Int), .int .i64 64] 36)).alloc (.cells #[.slice (some ⟨wy.heap.size, 0, none⟩) 1 1] 34)) := (Below.refl _ _).alloc (Nat.le_refl _) _
          have KA := hidQ (show KR ((wy.alloc (.cells #[.int .i64 (L : Int), .int .i64 64] 36)).alloc (.cells #[.slice (some ⟨wy.heap.size, 0, none⟩) 1 1] 34)) v2.heap.size (.slice tb L tc') (exL (tkL n f k i2 t).1 m) rv' from by have := (hkr.below bA).below bB; rwa [hL] at this)
          have RA := hidQ ((hr.below bA).below bB)
          have TA := hidQ ((ht.trans (Tn.below _ bA)).trans (Tn.below _ bB))
          have OA := hidQ (own_tn oA (Tn.below (fun _ => False) bB) (fun _ _ e => e))
          clear hkr hr ht bA bB oA XL hL hLe HLe
          go_wp2_with (at_builtin; refine ap_list HE.out rfl _ _ rfl _ v2.heap.size (.slice tb L tc') L _ rfl (by have := KA.out.own; rw [HL.out] at this; exact this) (wy.heap.size + 1) 1 rfl (.slice (some ⟨wy.heap.size, 0, none⟩) 1 1) ?d5 rfl ?d6 ?d7 ?_)
          case d6 => omega
          case d7 => have := TA.out.size; simpa using this
          intro g2 cap w1 own1 t1 at1 lt1
          obtain ⟨R1, T1⟩ := rx_own t1 (fun b e => (own_lt KA.out.own e).2) RA.out TA.out lw2
          have HO1 := hidQ (KA.out.push (ks := [((L : Int), 64)]) OA.out t1 (by rw [HL.out]; exact own1))
          have HR1 := hidQ R1; have HT1 := hidQ T1
          clear R1 T1 own1 t1
          go_wp2_with fail
          go_roundg (gk - 1)
          case measure => omega
          case rel => exact ⟨m + 1, _, by omega, by rw [XE.out]; exact HO1.out, HR1.out, HT1.out⟩
        · have g1' : ¬ (L : Int) < 8 + (d : Int) := by omega
          have em : m = 8 + d - t := by omega
          rw [hL]
          have KA := hidQ (show KR wy v2.heap.size (.slice tb L tc') (tsF n f k i2) rv' from by rw [E.out, ← em]; rwa [hL] at hkr)
          have RA := hidQ hr; have TA := hidQ ht
          clear hkr hr ht hL hLe XL em
          go_wp2_with fail
          go_meet
          exact ⟨_, KA.out, RA.out, TA.out⟩
     · have c31' : ¬ (b31 : Int) = 31 := by omega
       have c31'' : ((b31 : Int) == 31) = false := by simp; omega
       have E := hidQ (by have := TSF.out; rwa [if_neg c31] at this)
       go_wp2_with fail
       go_meet
       exact ⟨_, by rw [E.out]; exact HKR.out, HRW.out, HTW.out⟩
    case rest =>
     rename World => wz
     obtain ⟨rv', hkr, hr, ht⟩ := hcut
     obtain ⟨tb, tc', rfl⟩ := own_any hkr.own
     have HK9 := hidQ hkr; have HR9 := hidQ hr; have HT9 := hidQ ht
     have y9 : Cls wz v.heap.size #[.int .i64 cf1, .int .i64 cf2] 24 := (ht.block _ Y2.out.lt (by omega)).trans Y2.out
     have z9 : Cls wz w.heap.size #[.int .i64 0, .int .i64 0] 24 := (ht.block _ Z2.out.lt (by omega)).trans Z2.out
     have kP := hidQ (fun (u : World) (hu : Qt wz u) => picks_draw (hr.below (hu.below _)))
     have FIN := hidQ (fun (u u' : World) (hu : Qt wz u) (x : Value) (hp : u'.ownsRow u.heap.size 3 1 x (pkF n f (tkL n f k i2 t).2).1.length ((pkF n f (tkL n f k i2 t).2).1.map fun z => .int .i64 z)) (hr2 : Rx u' (w.heap.size + 1) ao n c f (pkF n f (tkL n f k i2 t).2).2) (ht2 : Tn (fun b => b = w.heap.size + 1) u u') => show KR ((u'.setCell ⟨w.heap.size, 0, none⟩ (.int .i64 cf1)).setCell ⟨w.heap.size, 1, none⟩ (.int .i64 cf2)) w.heap.size (.slice tb (tsF n f k i2).length tc') (tsF n f k i2) rv' ∧ ((u'.setCell ⟨w.heap.size, 0, none⟩ (.int .i64 cf1)).setCell ⟨w.heap.size, 1, none⟩ (.int .i64 cf2)).ownsRow w.heap.size 3 1 x (pkF n f (tkL n f k i2 t).2).1.length ((pkF n f (tkL n f k i2 t).2).1.map fun z => .int .i64 z) ∧ Below w.heap.size w ((u'.setCell ⟨w.heap.size, 0, none⟩ (.int .i64 cf1)).setCell ⟨w.heap.size, 1, none⟩ (.int .i64 cf2)) from by
      have us : u.heap.size = wz.heap.size := by rw [hu.heap]
      have t1 : Tn (fun b => b = w.heap.size) u' ((u'.setCell ⟨w.heap.size, 0, none⟩ (.int .i64 cf1)).setCell ⟨w.heap.size, 1, none⟩ (.int .i64 cf2)) := (Tn.set (fun b => b = w.heap.size) _ _ _ rfl).trans (Tn.set (fun b => b = w.heap.size) _ _ _ rfl)
      have s2 := HT9.out.size
      refine ⟨?_, own_mono (own_tn hp t1 (fun g e e2 => by have := (own_lt hp e).2; omega)) (by omega), ?_⟩
      · have k1 := ((HK9.out.tn (Tn.qt (fun _ => False) hu) (fun _ _ _ e => e)).tn ht2 (fun b h1 h2 e => by omega)).tn t1 (fun b h1 h2 e => by omega)
        exact ⟨own_mono k1.own (by omega), fun t' h' => own_mono (k1.keys t' h') (by omega)⟩
      · have q := (T2.out.trans HT9.out).trans ((Tn.qt _ hu).trans ht2)
        have b1 := q.under w.heap.size (Nat.le_refl _) (fun k' e => by omega)
        exact ⟨t1.os.trans b1.os, t1.tape.trans b1.tape, t1.output.trans b1.output, Nat.le_trans b1.size t1.size, fun k' hk' => (t1.block k' (Nat.lt_of_lt_of_le hk' b1.size) (by omega)).trans (b1.block k' hk')⟩)
     have y0 := y9.cell 0 rfl; have y1 := y9.cell 1 rfl
     have z0 := z9.cell 0 rfl; have z1 := z9.cell 1 rfl; have zf := z9.frozen
     have KY := hidQ (fun (u : World) (hu : Tn (fun b => b = w.heap.size + 1) wz u) => show Cls u v.heap.size #[.int .i64 cf1, .int .i64 cf2] 24 ∧ Cls u w.heap.size #[.int .i64 0, .int .i64 0] 24 from ⟨(hu.block _ y9.lt (by omega)).trans y9, (hu.block _ z9.lt (by omega)).trans z9⟩)
     have nvw : v.heap.size ≠ w.heap.size := by omega
     clear hkr hr ht HKR HRW HTW y9 z9
     go_upto_region 19 with fail
     go_region_with (go_at_call 24; refine (kP.out _ (Qt.drew _)).mono ?_; rintro e u ⟨px, rfl, hpo, hpr, hpt⟩; have KX := KY.out u ((Tn.qt _ (Qt.drew _)).trans hpt); have a0 := KX.1.cell 0 rfl; have a1 := KX.1.cell 1 rfl; have a2 := KX.2.cell 0 rfl; have a3 := KX.2.cell 1 rfl; have a4 := KX.2.frozen; clear KX)
     all_goals
      have c2 : ((u.setCell ⟨w.heap.size, 0, none⟩ (.int .i64 cf1)).setCell ⟨w.heap.size, 1, none⟩ (.int .i64 cf2)).cell? ⟨w.heap.size, 0, none⟩ = some (.int .i64 cf1) ∧ ((u.setCell ⟨w.heap.size, 0, none⟩ (.int .i64 cf1)).setCell ⟨w.heap.size, 1, none⟩ (.int .i64 cf2)).cell? ⟨w.heap.size, 1, none⟩ = some (.int .i64 cf2) := by
       have c3 := ((KY.out u ((Tn.qt _ (Qt.drew _)).trans hpt)).2.set 0 (.int .i64 cf1) #[.int .i64 cf1, .int .i64 0] (by simp)).set 1 (.int .i64 cf2) #[.int .i64 cf1, .int .i64 cf2] (by simp)
       exact ⟨c3.cell 0 (by simp), c3.cell 1 (by simp)⟩
      have FN := hidQ (FIN.out _ u (Qt.drew _) px hpo hpr hpt)
      clear hpo hpr hpt
      go_wp2_with fail
      refine bodyPost_ret (v := .tuple #[.agg #[.int .i64 cf1, .int .i64 cf2], .slice tb (tsF n f k i2).length tc', px]) (by simp [results, Try.results6, go_sem, c2.1, c2.2]) rfl ?_
      refine ⟨.slice tb (tsF n f k i2).length tc', px, rv', ?_, ?_, ?_, FN.out.2.2⟩
      · rw [← HF.out]
      · rw [← HF.out]; exact FN.out.1
      · rw [← HF.out, H5.out]; exact FN.out.2.1

end Go.Proofs.Ytdpbhbpcpnlbkaa
