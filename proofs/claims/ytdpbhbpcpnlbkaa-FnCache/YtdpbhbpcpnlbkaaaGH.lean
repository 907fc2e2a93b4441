import Derived.Test.YtdpbhbpcpnlbkaaaCaS
set_option maxHeartbeats 4000000
namespace Go.Proofs.Ytdpbhbpcpnlbkaa
open Go.RowKit Go.Maps
set_option linter.unusedVariables false
set_option maxRecDepth 100000
theorem set_al (v : World) (b i : Nat) (x : Value) (o : Obj) (h : b < v.heap.size) : (v.alloc o).setCell ⟨b, i, none⟩ x = (v.setCell ⟨b, i, none⟩ x).alloc o := by
 simp [go_sem, h]

theorem infoPs : (Try.prog.info? 66).map (fun i => (i.zero, i.size, i.bytes)) = some (some (.pointer none), 1, 8) := by kernel_rfl

theorem keysIn_of {w : World} {base : Nat} {tasks : List (List (Int × Int))} {kx : Nat → Option Addr} (h : ∀ t, t < tasks.length → RdK w (kx t) (tasks.getD t [])) (hb : ∀ t b off, t < tasks.length → 0 < (tasks.getD t []).length → kx t = some ⟨b, off, none⟩ → b < base) : KeysIn w base tasks kx := by
 intro t i ht hi
 have hi' : i < (tasks.getD t []).length := hi
 obtain ⟨b, off, e, hbl, hc⟩ := h t ht (by omega)
 have := hc i hi'
 refine ⟨b, off, e, hb t b off ht (by omega) e, ?_⟩
 unfold Q.keyAt
 generalize tasks.getD t [] = ks at *
 rw [getElem!_pos ks i hi'] at this
 rw [List.getD_eq_getElem?_getD, List.getElem?_eq_getElem hi']
 exact this

theorem keysOk_of {tasks : List (List (Int × Int))} (h : tasks.all tOk = true) : KeysOk tasks ∧ ∀ t, Q.lenAt tasks t ≤ 60 := by
 rw [List.all_eq_true] at h
 have g : ∀ t, t < tasks.length → tOk (tasks.getD t []) = true := fun t ht => by
  rw [List.getD_eq_getElem?_getD, List.getElem?_eq_getElem ht]; exact h _ (List.getElem_mem ht)
 constructor
 · intro t i ht hi
   have := g t ht
   unfold tOk at this
   rw [Bool.and_eq_true] at this
   have h2 := this.2
   unfold Q.keyAt
   have hi' : i < (tasks.getD t []).length := hi
   generalize tasks.getD t [] = ks at *
   rw [List.getD_eq_getElem?_getD, List.getElem?_eq_getElem hi']
   simp only [Bool.not_eq_true', List.any_eq_false] at h2
   have := h2 ks[i] (List.getElem_mem hi')
   simpa using this
 · intro t
   rcases Nat.lt_or_ge t tasks.length with ht | ht
   · have := g t ht
     unfold tOk at this
     rw [Bool.and_eq_true] at this
     exact of_decide_eq_true this.1
   · unfold Q.lenAt; rw [List.getD_eq_getElem?_getD, List.getElem?_eq_none ht]; simp

theorem irun_good (N S n tc pc : Nat) (ta pa : Option Addr) (tasks : List (List (Int × Int))) (picks : List Int) (kx : Nat → Option Addr) (kc : Nat → Nat) (w : World) (dN : 0 < N ∧ N ≤ 16) (dS : 0 < S ∧ S ≤ 64) (hn : tasks.length = n) (hn8 : n ≤ 8) (hok : tasks.all tOk = true) (hp : picks.length ≤ 20000) (hT : TkIn w ta tasks kx kc) (hP : RdI w pa picks) (hPb : ∀ b off, pa = some ⟨b, off, none⟩ → b < w.heap.size) :
 Calls Try.prog 7 #[.agg #[.int .i64 N, .int .i64 S], .slice ta n tc, .slice pa picks.length pc] w fun e w' => ∃ m v, e = .returned v ∧ (Q.liv tasks (Q.run N S tasks picks m) = [] ∨ m = 40000) ∧ m ≤ 40000 ∧ (∀ m', m' < m → Q.liv tasks (Q.run N S tasks picks m') ≠ []) ∧ Rpt w' w.heap.size v (decide (Q.liv tasks (Q.run N S tasks picks m) = [])) m (Q.run N S tasks picks m).c n (Q.run N S tasks picks m).ts (Q.lenAt tasks) (Q.run N S tasks picks m).out (Q.vws S (Q.run N S tasks picks m).c (N * S)) ∧ Below w.heap.size w w' := by
 obtain ⟨kok, klen⟩ := keysOk_of hok
 have hcfg : cfgOk (N : Int) (S : Int) := ⟨by omega, by omega, by omega, by omega⟩
 have kG := fun v : World => iconfig_any (N : Int) (S : Int) v
 have kT := hidQ (fun (v : World) (hv : Below w.heap.size w v) => good_tasks ta n tc tasks kx kc v hn (by omega) (fun t => by have := klen t; omega) (show TkIn v ta tasks kx kc from fun h0 => by
  obtain ⟨b, off, e, hc⟩ := hT h0
  refine ⟨b, off, e, fun t ht => ?_⟩
  obtain ⟨h1, h2, h3⟩ := hc t ht
  exact ⟨(hv.cell (p := ⟨b, off + t, none⟩) h3).trans h1, h2.below hv, Nat.lt_of_lt_of_le h3 hv.size⟩))
 rw [decide_eq_true hcfg] at kG
 rw [decide_eq_true hn8, hok] at kT
 have kN := hidQ (fun v : World => newCache_any N S dN dS v)
 obtain ⟨i0, hi, hz0, hz1, hz2⟩ := info_parts infoPs
 have hmk := fun (wx : World) => run_make (P := Try.prog) wx 65 66 i0 (.pointer none) Try.underlying65 hi hz0 .i64 .i64 ((n : Nat) : Int) ((n : Nat) : Int) (by omega) (Int.le_refl _) (by rw [hz2]; omega) (by omega)
 simp only [Int.toNat_natCast, hz1, Value.cells] at hmk
 have HT := hidQ hT; have HP := hidQ hP
 have f0 : ¬ (20000 : Int) < (picks.length : Int) := by omega
 have f0' : decide ((20000 : Int) < (picks.length : Int)) = false := decide_eq_false f0
 clear hi hz0 hz1 hz2 hT hP hcfg
 obtain ⟨W0, hW0⟩ : ∃ W, W = (w.alloc (.cells #[.int .i64 (N : Int), .int .i64 (S : Int)] 24)).alloc (.cells zrp 32) := ⟨_, rfl⟩
 have bW : Below w.heap.size w W0 := by rw [hW0]; exact ((Below.refl _ _).alloc (Nat.le_refl _) _).alloc (by simp) _
 have cW : Cls W0 w.heap.size #[.int .i64 (N : Int), .int .i64 (S : Int)] 24 := by rw [hW0]; exact (Cls.new w _ _).below ((Below.refl _ _).alloc (Nat.le_refl _) _)
 have zW : Cls W0 (w.heap.size + 1) zrp 32 := by rw [hW0]; have := Cls.new (w.alloc (.cells #[.int .i64 (N : Int), .int .i64 (S : Int)] 24)) zrp 32; simpa using this
 unfold zrp at hW0
 have x0 := cW.cell 0 rfl
 have x1 := cW.cell 1 rfl
 have BW := hidQ bW; have CW := hidQ cW; have ZW := hidQ zW
 clear bW cW zW
 go_enter Try.func7, Try.ntmps7
 go_upto_region 1 with fail
 rw [← hW0]
 clear hW0
 go_wp2_with fail
 refine (kG _).mono ?_
 rintro e u1 ⟨rfl, b1⟩
 go_wp2_with fail
 refine (kT.out _ (BW.out.trans (b1.mono BW.out.size))).mono ?_
 rintro e u2 ⟨rfl, b2⟩
 have B2 : Below W0.heap.size W0 u2 := keepC1 b1 b2
 have y0 := (CW.out.below B2).cell 0 rfl
 have y1 := (CW.out.below B2).cell 1 rfl
 go_wp2_with fail
 refine (kN.out _).mono ?_
 rintro e u3 ⟨cb, mb, hb, rfl, nk⟩
 have NKU := hidQ nk
 clear nk
 obtain ⟨wA, hwA⟩ : ∃ wA, wA = u3.alloc (.cells (madeCells #[.pointer none] n) 66) := ⟨_, rfl⟩
 have b3 : Below u2.heap.size u2 u3 := by obtain ⟨_, _, _, _, _, _, _, _, _, h, _⟩ := NKU.out; exact h
 have W3 : Below w.heap.size w u3 := (BW.out.trans (B2.mono BW.out.size)).trans (b3.mono (Nat.le_trans BW.out.size B2.size))
 have bA : Below u3.heap.size u3 wA := by rw [hwA]; exact (Below.refl _ _).alloc (Nat.le_refl _) _
 have gA : Bf wA u3.heap.size 66 n (fun _ => .pointer none) := by
  rw [hwA]; exact ⟨_, heap_alloc_new _ _, size_madeCells _ _, fun i hi => by simp only [madeCells]; rw [Array.getElem?_map, Array.getElem?_eq_getElem (by simpa using hi)]; simp [Nat.mod_one]⟩
 have SK0 := hidQ (show SK wA u3.heap.size cb n kx kc (Q.lenAt tasks) 0 wA from ⟨fun _ => 0, fun _ => 0, gA.congr (fun t ht => by simp), fun t ht => by omega, fun i j hi => by omega, fun i j hi => by omega, Tn.refl _ _⟩)
 have WA : Below w.heap.size w wA := W3.trans (bA.mono W3.size)
 have UND := hidQ (fun (v : World) k (h : SK wA u3.heap.size cb n kx kc (Q.lenAt tasks) k v) => show Below w.heap.size w v from by
  obtain ⟨_, _, _, _, _, _, tn⟩ := h
  exact WA.trans (tn.under _ WA.size (fun k e => by rw [e]; exact W3.size)))
 have HWA := hidQ WA; have HBA := hidQ bA; have HGA := hidQ gA; have H3 := hidQ W3; have HB2 := hidQ B2; have HB3 := hidQ b3
 clear WA bA gA W3 B2 b3 y0 y1 x0 x1 b1 b2 kG kT kN
 go_upto_region 5 with fail
 rw [← hwA]
 clear hwA hmk
 go_wp2_with fail
 go_loopw [34] (fun i wr => ∃ k : Nat, k ≤ n ∧ i = .int .i64 k ∧ SK wA u3.heap.size cb n kx kc (Q.lenAt tasks) k wr) (fun i _ => n - (intOf i).toNat)
 case atStart => exact ⟨0, by omega, rfl, SK0.out⟩
 case round =>
  obtain ⟨k, hk, rfl, sk⟩ := hrel
  have SKK := hidQ sk
  by_cases hlt : k < n
  · obtain ⟨b, off, rfl, hc⟩ := HT.out (by omega)
    obtain ⟨h1, h2, h3⟩ := hc k (by omega)
    have hbw := UND.out wr k sk
    have e1 := (hbw.cell (p := ⟨b, off + k, none⟩) h3).trans h1
    have kS := newSeeker_any cb (Q.lenAt tasks k) (kc k) (kx k) (by have := klen k; omega) wr
    have gk : wr.cell? ⟨u3.heap.size, k, none⟩ = some (.pointer none) ∧ (∀ v, Below wr.heap.size wr v → v.frozen? ⟨u3.heap.size, k, none⟩ = false) ∧ u3.heap.size < wr.heap.size := by
     obtain ⟨kb, ob, hG, _⟩ := sk
     exact ⟨(hG.cell k hlt).trans (by simp), fun v b => (hG.below b).frozen k, hG.lt⟩
    have f1 : IntKind.i64.wrap ((k : Int) + 1) = (k : Int) + 1 := by simp only [IntKind.wrap_i64]; omega
    have stp := hidQ (fun u q => SK.step (u := u) sk hlt q)
    have m0 := (((Below.refl wr.heap.size wr).alloc (Nat.le_refl _) (.cells (madeCells #[.int .i64 0] (Q.lenAt tasks k)) 3)).alloc (by simp) (.cells #[.pointer (some ⟨cb, 0, none⟩), .slice (kx k) (Q.lenAt tasks k) (kc k), .slice (some ⟨wr.heap.size, 0, none⟩) (Q.lenAt tasks k) (Q.lenAt tasks k), .int .i64 0, .pointer none, .int .i64 0] 116))
    obtain ⟨g1, g2, g3⟩ := gk
    have g4 := (m0.cell (p := ⟨u3.heap.size, k, none⟩) g3).trans g1
    have g5 := g2 _ m0
    clear g2
    generalize Q.lenAt tasks k = ln at e1 kS stp g4 g5 m0
    clear sk hbw h1 h2 h3 hc m0 SKK
    go_wp2_with fail
    refine kS.mono ?_
    rintro e v ⟨rfl, rfl⟩
    go_wp2_with fail
    go_roundw
    case rel =>
     refine ⟨k + 1, by omega, by simp, stp.out _ ?_⟩
     rw [set_al _ _ _ _ _ (by simp; omega), set_al _ _ _ _ _ g3]
     exact Qt.refl _
    case measure => simp [intOf]; omega
  · have hkn : k = n := by omega
    subst hkn
    have fst : ∃ L : Lay, L.base = u2.heap.size ∧ L.cb = cb ∧ L.N = N ∧ L.S = S ∧ L.T = k ∧ L.len = Q.lenAt tasks ∧ Mem wr L tasks kx kc Q.Rst.init 0 ∧ Below u2.heap.size u2 wr ∧ Bf wr u3.heap.size 66 k (fun t => .pointer (some ⟨L.kb t, 0, none⟩)) := by
     subst hn; exact run_first NKU.out HGA.out HBA.out (Nat.le_refl _) sk
    obtain ⟨L, lb, lcb, lN, lS, lT, lln, mem0, bw2, gbf⟩ := fst
    obtain ⟨uS, hUS⟩ : ∃ u, u = wr.alloc (.cells #[.slice pa picks.length pc, .int .i64 40000, .int .i64 0] 69) := ⟨_, rfl⟩
    have bS : Below wr.heap.size wr uS := by rw [hUS]; exact (Below.refl _ _).alloc (Nat.le_refl _) _
    have sS : Bf uS wr.heap.size 69 3 (fsc pa picks.length pc 0) := by
     rw [hUS]; refine (Bf.of_new wr #[.slice pa picks.length pc, .int .i64 40000, .int .i64 0] 69).congr ?_
     intro i hi
     match i, hi with
     | 0, _ => rfl
     | 1, _ => rfl
     | 2, _ => rfl
    have szS : uS.heap.size = wr.heap.size + 1 := by rw [hUS]; simp
    have kl := live_key u3.heap.size k k L.kb (fun t => decide (0 < Q.lenAt tasks t)) uS (by omega) (gbf.below bS).lt (fun t ht => (gbf.below bS).cell t ht) (fun t ht v hv => by
     obtain ⟨L', R, le, ri, lt, -, -⟩ := mem0.below bS
     have K := (ri.k t (by rw [le.T, lT]; exact ht)).below hv
     rw [le.kb] at K
     refine live_any (L.kb t) (Q.lenAt tasks t) (kc t) (kx t) ((0 : Nat) : Int) v ((K.cell 1 (by omega)).trans (congrArg some ?_)) ((K.cell 3 (by omega)).trans (congrArg some (lt.k3 t (by rw [le.T, lT]; exact ht)))) _ ?_
     · rw [lt.k1 t (by rw [le.T, lT]; exact ht), le.len, lln]
     · simp)
    have KL := hidQ kl
    have M0 := hidQ mem0; have BW2 := hidQ bw2; have GBF := hidQ gbf; have BS := hidQ bS; have SS := hidQ sS
    clear sk kl mem0 bw2 gbf bS sS
    go_upto_region 11 with fail
    rw [← hUS]
    clear hUS
    go_wp2_with fail
    refine KL.out.mono ?_
    rintro e uL ⟨v0, rfl, lv0, bL⟩
    obtain ⟨va, vc, rfl⟩ := own_any lv0
    have b0L : Below u2.heap.size u2 uL := (BW2.out.trans (BS.out.mono BW2.out.size)).trans (bL.mono (Nat.le_trans BW2.out.size BS.out.size))
    have wu2 : w.heap.size + 2 ≤ u2.heap.size := by have := ZW.out.lt; have := HB2.out.size; omega
    have wW : Below w.heap.size w uL := (BW.out.trans (HB2.out.mono BW.out.size)).trans (b0L.mono (by omega))
    have kr := run_mem (L := L) (tasks := tasks) (picks := picks) (kx := kx) (kc := kc) (sg := wr.heap.size) (pa := pa) (pc := pc) (w := uL) (v0 := .slice va (lvk L.kb (fun t => decide (0 < Q.lenAt tasks t)) k).length vc)
     ⟨by rw [lN]; exact dN, by rw [lS]; exact dS⟩ (by rw [lT, hn]) (by omega) (fun t ht => ⟨by rw [lln], by rw [lln]; have := klen t; omega⟩) kok ?_ ?_ ?_ ?_ (M0.out.below (BS.out.trans (bL.mono BS.out.size))) (SS.out.below bL) ?_
    rotate_left
    · refine keysIn_of (fun t ht => ?_) (fun t b off ht h0 e => ?_)
      · obtain ⟨b, off, _, hc⟩ := HT.out (by omega)
        exact (hc t ht).2.1.below wW
      · obtain ⟨b', off', _, hc⟩ := HT.out (by omega)
        obtain ⟨b2, off2, e2, h2, _⟩ := (hc t ht).2.1 h0
        rw [e] at e2; simp at e2; rw [lb]; omega
    · intro h0
      obtain ⟨b, off, e, hc⟩ := HP.out h0
      exact ⟨b, off, e, fun i hi => (wW.cell (p := ⟨b, off + i, none⟩) (hPb b off e)).trans (hc i hi)⟩
    · intro b off e; have := hPb b off e; rw [lb]; omega
    · rw [lb]; exact BW2.out.size
    · have el : lvk L.kb (fun t => decide (0 < Q.lenAt tasks t)) k = lvs L tasks Q.Rst.init := by
       subst hn; rfl
      rw [← el]
      exact own_mono lv0 (by rw [lb, szS]; have := BW2.out.size; omega)
    have KR := hidQ kr
    clear kr
    go_wp2_with fail
    refine KR.out.mono ?_
    rintro e uR ⟨m, hm, rfl, vv, jn⟩
    have jS := (jn.sch.cell 2 (by omega))
    have JN := hidQ jn
    have j2 : uR.cell? ⟨wr.heap.size, 2, none⟩ = some (.int .i64 (m : Int)) := jS
    clear jn jS
    obtain ⟨r, hr⟩ : ∃ r, r = Q.run L.N L.S tasks picks m := ⟨_, rfl⟩
    have kp : Calls Try.prog 31 #[.pointer (some ⟨cb, 0, none⟩), .slice (some ⟨u3.heap.size, 0, none⟩) k k, .int .i64 m, .bool (decide (Q.liv tasks r = []))] uR fun e w' => ∃ (tv ov sv : Value) (ob : Nat → Nat), e = .returned (.agg (rpc (decide (Q.liv tasks r = [])) m tv ov r.c sv)) ∧ w'.ownsRow uR.heap.size 3 1 tv k ((List.range k).map fun t => .int .i64 (r.ts t)) ∧ w'.ownsRow uR.heap.size 26 1 ov k ((List.range k).map fun t => .slice (some ⟨ob t, 0, none⟩) (Q.lenAt tasks t) (Q.lenAt tasks t)) ∧ OwV w' uR.heap.size sv (Q.vws S r.c (N * S)) ∧ Below uR.heap.size uR w' ∧ (∀ t, t < k → Bf uR (ob t) 3 (Q.lenAt tasks t) (fun i => .int .i64 (r.out t i)) ∧ u2.heap.size ≤ ob t) ∧ (∀ t t', t < k → t' < k → ob t = ob t' → t = t') := by
     obtain ⟨L', R, le, ri, lt, hks, hb⟩ := JN.out.mem
     rw [← hr] at lt
     have gk : Bf uR u3.heap.size 66 k (fun t => .pointer (some ⟨L.kb t, 0, none⟩)) := by
      have g1 := (GBF.out.below BS.out).below bL
      obtain ⟨A, hA, hs⟩ := g1
      exact ⟨A, (JN.out.keep _ _ _ hA).trans hA, hs⟩
     have m4 := JN.out.le40
     have rp := report_any (L := L') (R := R) (c := r.c) ⟨by rw [le.N, lN]; exact dN, by rw [le.S, lS]; exact dS⟩ ri lt.lc (by omega) u3.heap.size k m (decide (Q.liv tasks r = [])) gk.lt (by rw [le.T, lT]; omega) (fun t ht => by rw [le.kb]; exact gk.cell t (by rw [← lT, ← le.T]; exact ht)) r.ts lt.k2 lt.k5
     rw [le.cb, lcb] at rp
     have eT : L'.T = k := by rw [le.T, lT]
     rw [eT] at rp
     refine rp.mono ?_
     rintro e w' ⟨tv, ov, sv, rfl, h1, h2, h3, h4⟩
     rw [le.len, lln] at h2
     rw [le.S, le.N, lS, lN] at h3
     refine ⟨tv, ov, sv, L'.ob, rfl, h1, h2, h3, h4, fun t ht => ⟨?_, ?_⟩, fun t t' ht ht' => ri.oi t t' (by rw [le.T, lT]; exact ht) (by rw [le.T, lT]; exact ht')⟩
     · have ht' : t < L'.T := by rw [le.T, lT]; exact ht
       have o := ri.o t ht'
       rw [le.len, lln] at o
       exact o.congr (fun i hi => lt.o t i ht' (by rw [le.len, lln]; exact hi))
     · have := ri.bo t (by rw [le.T, lT]; exact ht)
       rw [le.base, lb] at this; exact this
    rw [← hr] at hm
    have HM := hidQ hm
    clear hm
    have KP := hidQ kp
    have bRR := JN.out.below
    have BR := hidQ bRR
    have LIV := hidQ JN.out.live
    have m4 := JN.out.le40
    rw [← hr]
    rw [lN, lS] at LIV
    clear kp bRR
    generalize hdn : decide (Q.liv tasks r = []) = dn at KP ⊢
    have HDN := hidQ hdn
    clear hdn
    have er : r = Q.run N S tasks picks m := by rw [hr, lN, lS]
    have HER := hidQ er
    clear er hr
    go_wp2_with fail
    refine KP.out.mono ?_
    rintro e uF ⟨tv, ov, sv, ob, rfl, h1, h2, h3, h4, h5, h6⟩
    obtain ⟨ta', tc', rfl⟩ := own_any h1
    obtain ⟨oa', oc', rfl⟩ := own_any h2
    obtain ⟨sa', sc', rfl⟩ := own_any h3
    have bRF : Below u2.heap.size u2 uF := ((b0L.trans ((lb ▸ BR.out).mono (Nat.le_refl _))).trans (h4.mono (Nat.le_trans b0L.size BR.out.size)))
    have z : Cls uF (w.heap.size + 1) zrp 32 := (ZW.out.below HB2.out).below bRF
    have z' : Cls uF (w.heap.size + 1) #[.bool false, .bool false, .int .i64 0, .slice none 0 0, .slice none 0 0, .int .i64 0, .int .i64 0, .int .i64 0, .int .i64 0, .int .i64 0, .slice none 0 0] 32 := z
    have z0 := z'.cell 0 rfl; have z1 := z'.cell 1 rfl; have z2 := z'.cell 2 rfl; have z3 := z'.cell 3 rfl; have z4 := z'.cell 4 rfl; have z5 := z'.cell 5 rfl; have z6 := z'.cell 6 rfl; have z7 := z'.cell 7 rfl; have z8 := z'.cell 8 rfl; have z9 := z'.cell 9 rfl; have z10 := z'.cell 10 rfl
    have zf := z'.frozen
    have HX := hidQ (And.intro h1 (And.intro h2 (And.intro h3 (And.intro h4 (And.intro h5 h6)))))
    clear h1 h2 h3 h4 h5 h6 z z'
    unfold rpc
    go_wp2_with fail
    refine bodyPost_ret (v := .agg (rpc dn m (.slice ta' k tc') (.slice oa' k oc') r.c (.slice sa' (Q.vws S r.c (N * S)).length sc'))) (by simp [results, Try.results7, go_sem, rpc, z0, z1, z2, z3, z4, z5, z6, z7, z8, z9, z10]) rfl ?_
    obtain ⟨h1, h2, h3, h4, h5, h6⟩ := HX.out
    have sR : u2.heap.size ≤ uR.heap.size := Nat.le_trans b0L.size BR.out.size
    have T := fun x0 x1 x2 x3 x4 x5 x6 x7 x8 x9 x10 => tn11 uF (w.heap.size + 1) x0 x1 x2 x3 x4 x5 x6 x7 x8 x9 x10
    have er := HER.out
    refine ⟨m, _, rfl, ?_, m4, LIV.out, ?_, ?_⟩
    · rw [← er]; exact HM.out
    · rw [← er, HDN.out]
      refine ⟨_, _, _, ob, rfl, own_mono (own_tn h1 (T _ _ _ _ _ _ _ _ _ _ _) (fun g e e2 => ?_)) (by omega), own_mono (own_tn h2 (T _ _ _ _ _ _ _ _ _ _ _) (fun g e e2 => ?_)) (by omega), own_mono (own_tn h3 (T _ _ _ _ _ _ _ _ _ _ _) (fun g e e2 => ?_)) (by omega), fun t ht => ⟨?_, ?_, ?_⟩, h6⟩
      · have := (own_lt h1 e).2; omega
      · have := (own_lt h2 e).2; omega
      · have := (own_lt h3 e).2; omega
      · refine ((h5 t ht).1.below h4).tn (T _ _ _ _ _ _ _ _ _ _ _) (fun e => ?_)
        have := (h5 t ht).2; omega
      · have := (h5 t ht).2; omega
      · intro e; have := (own_lt h1 e).2; have := (h5 t ht).1.lt; omega
    · refine below11 ?_ (by omega) _ _ _ _ _ _ _ _ _ _ _
      exact (BW.out.trans (HB2.out.mono BW.out.size)).trans (bRF.mono (by omega))

theorem irun_bad (a b : Int) (n tc pc pn : Nat) (ta pa : Option Addr) (tasks : List (List (Int × Int))) (kx : Nat → Option Addr) (kc : Nat → Nat) (w : World) (hn : tasks.length = n) (hn2 : n ≤ 1048576) (hl : ∀ t, Q.lenAt tasks t ≤ 1048576) (hT : TkIn w ta tasks kx kc) (hbad : ¬ (cfgOk a b ∧ (decide (n ≤ 8) && tasks.all tOk) = true ∧ pn ≤ 20000)) :
 Calls Try.prog 7 #[.agg #[.int .i64 a, .int .i64 b], .slice ta n tc, .slice pa pn pc] w fun e w' => e = .returned (.agg zrp) ∧ Below w.heap.size w w' := by
 have kG := fun v : World => iconfig_any a b v
 have kT := hidQ (fun (v : World) (hv : Below w.heap.size w v) => good_tasks ta n tc tasks kx kc v hn hn2 hl (show TkIn v ta tasks kx kc from fun h0 => by
  obtain ⟨b, off, e, hc⟩ := hT h0
  refine ⟨b, off, e, fun t ht => ?_⟩
  obtain ⟨h1, h2, h3⟩ := hc t ht
  exact ⟨(hv.cell (p := ⟨b, off + t, none⟩) h3).trans h1, h2.below hv, Nat.lt_of_lt_of_le h3 hv.size⟩))
 generalize (decide (n ≤ 8) && tasks.all tOk) = tg at kT hbad
 obtain ⟨W0, hW0⟩ : ∃ W, W = (w.alloc (.cells #[.int .i64 a, .int .i64 b] 24)).alloc (.cells zrp 32) := ⟨_, rfl⟩
 have bW : Below w.heap.size w W0 := by rw [hW0]; exact ((Below.refl _ _).alloc (Nat.le_refl _) _).alloc (by simp) _
 have cW : Cls W0 w.heap.size #[.int .i64 a, .int .i64 b] 24 := by rw [hW0]; exact (Cls.new w _ _).below ((Below.refl _ _).alloc (Nat.le_refl _) _)
 have zW : Cls W0 (w.heap.size + 1) zrp 32 := by rw [hW0]; have := Cls.new (w.alloc (.cells #[.int .i64 a, .int .i64 b] 24)) zrp 32; simpa using this
 unfold zrp at hW0
 have x0 := cW.cell 0 rfl
 have x1 := cW.cell 1 rfl
 have BW := hidQ bW; have ZW := hidQ zW
 have FIN := hidQ (fun (u : World) (hu : Below W0.heap.size W0 u) => show (Cls u (w.heap.size + 1) #[.bool false, .bool false, .int .i64 0, .slice none 0 0, .slice none 0 0, .int .i64 0, .int .i64 0, .int .i64 0, .int .i64 0, .int .i64 0, .slice none 0 0] 32) ∧ Below w.heap.size w u from ⟨zW.below hu, bW.trans (hu.mono bW.size)⟩)
 clear bW cW zW hT hn hn2 hl
 have HBAD := hidQ hbad
 clear hbad
 by_cases hc : cfgOk a b
 · rw [decide_eq_true hc] at kG
   cases tg with
   | true =>
     have hp : (20000 : Int) < (pn : Int) := by
      rcases Nat.lt_or_ge 20000 pn with h | h
      · omega
      · exact absurd ⟨hc, rfl, h⟩ HBAD.out
     clear hc
     go_enter Try.func7, Try.ntmps7
     go_upto_region 1 with fail
     rw [← hW0]
     clear hW0
     go_wp2_with fail
     refine (kG _).mono ?_
     rintro e u1 ⟨rfl, b1⟩
     go_wp2_with fail
     refine (kT.out _ (BW.out.trans (b1.mono BW.out.size))).mono ?_
     rintro e u2 ⟨rfl, b2⟩
     obtain ⟨zc, bf⟩ := FIN.out u2 (keepC1 b1 b2)
     have z0 := zc.cell 0 rfl; have z1 := zc.cell 1 rfl; have z2 := zc.cell 2 rfl; have z3 := zc.cell 3 rfl; have z4 := zc.cell 4 rfl; have z5 := zc.cell 5 rfl; have z6 := zc.cell 6 rfl; have z7 := zc.cell 7 rfl; have z8 := zc.cell 8 rfl; have z9 := zc.cell 9 rfl; have z10 := zc.cell 10 rfl
     have zf := zc.frozen
     clear zc
     go_wp2_with fail
     refine bodyPost_ret (v := .agg zrp) (by simp [results, Try.results7, go_sem, zrp, z0, z1, z2, z3, z4, z5, z6, z7, z8, z9, z10]) rfl ⟨rfl, below11 bf (by omega) _ _ _ _ _ _ _ _ _ _ _⟩
   | false =>
     clear hc
     go_enter Try.func7, Try.ntmps7
     go_upto_region 1 with fail
     rw [← hW0]
     clear hW0
     go_wp2_with fail
     refine (kG _).mono ?_
     rintro e u1 ⟨rfl, b1⟩
     go_wp2_with fail
     refine (kT.out _ (BW.out.trans (b1.mono BW.out.size))).mono ?_
     rintro e u2 ⟨rfl, b2⟩
     obtain ⟨zc, bf⟩ := FIN.out u2 (keepC1 b1 b2)
     have z0 := zc.cell 0 rfl; have z1 := zc.cell 1 rfl; have z2 := zc.cell 2 rfl; have z3 := zc.cell 3 rfl; have z4 := zc.cell 4 rfl; have z5 := zc.cell 5 rfl; have z6 := zc.cell 6 rfl; have z7 := zc.cell 7 rfl; have z8 := zc.cell 8 rfl; have z9 := zc.cell 9 rfl; have z10 := zc.cell 10 rfl
     have zf := zc.frozen
     clear zc
     go_wp2_with fail
     refine bodyPost_ret (v := .agg zrp) (by simp [results, Try.results7, go_sem, zrp, z0, z1, z2, z3, z4, z5, z6, z7, z8, z9, z10]) rfl ⟨rfl, below11 bf (by omega) _ _ _ _ _ _ _ _ _ _ _⟩
 · rw [decide_eq_false hc] at kG
   clear hc
   go_enter Try.func7, Try.ntmps7
   go_upto_region 1 with fail
   rw [← hW0]
   clear hW0
   go_wp2_with fail
   refine (kG _).mono ?_
   rintro e u2 ⟨rfl, b1⟩
   obtain ⟨zc, bf⟩ := FIN.out u2 b1
   have z0 := zc.cell 0 rfl; have z1 := zc.cell 1 rfl; have z2 := zc.cell 2 rfl; have z3 := zc.cell 3 rfl; have z4 := zc.cell 4 rfl; have z5 := zc.cell 5 rfl; have z6 := zc.cell 6 rfl; have z7 := zc.cell 7 rfl; have z8 := zc.cell 8 rfl; have z9 := zc.cell 9 rfl; have z10 := zc.cell 10 rfl
   have zf := zc.frozen
   clear zc
   go_wp2_with fail
   refine bodyPost_ret (v := .agg zrp) (by simp [results, Try.results7, go_sem, zrp, z0, z1, z2, z3, z4, z5, z6, z7, z8, z9, z10]) rfl ⟨rfl, below11 bf (by omega) _ _ _ _ _ _ _ _ _ _ _⟩

end Go.Proofs.Ytdpbhbpcpnlbkaa
