import Derived.Test.YtdpbhbpcpnlbkaaaCs5
import Derived.Test.YtdpbhbpcpnlbkaaaGH
import Derived.Test.YtdpbhbpcpnlbkaaaGE
set_option maxHeartbeats 8000000
namespace Go.Proofs.Ytdpbhbpcpnlbkaa
open Go.RowKit Go.Maps
set_option linter.unusedVariables false
set_option maxRecDepth 100000
theorem srun_good (N S n tc pc : Nat) (ta pa : Option Addr) (tasks : List (List (Int × Int))) (picks : List Int) (kx : Nat → Option Addr) (kc : Nat → Nat) (w : World) (dN : 0 < N ∧ N ≤ 16) (dS : 0 < S ∧ S ≤ 64) (hn : tasks.length = n) (hn8 : n ≤ 8) (hok : tasks.all tOk = true) (hp : picks.length ≤ 20000) (hT : TkIn w ta tasks kx kc) (hP : RdI w pa picks) (hPb : ∀ b off, pa = some ⟨b, off, none⟩ → b < w.heap.size) :
 Calls Try.prog 8 #[.agg #[.int .i64 N, .int .i64 S], .slice ta n tc, .slice pa picks.length pc] w fun e w' => ∃ m v, e = .returned v ∧ (Q.liv tasks (Q.run N S tasks picks m) = [] ∨ m = 40000) ∧ m ≤ 40000 ∧ (∀ m', m' < m → Q.liv tasks (Q.run N S tasks picks m') ≠ []) ∧ Rpt w' w.heap.size v (decide (Q.liv tasks (Q.run N S tasks picks m) = [])) m (Q.run N S tasks picks m).c n (Q.run N S tasks picks m).ts (Q.lenAt tasks) (Q.run N S tasks picks m).out (Q.vws S (Q.run N S tasks picks m).c (N * S)) ∧ Below w.heap.size w w' := by
 obtain ⟨kok, klen⟩ := keysOk_of hok
 have hcfg : cfgOk (N : Int) (S : Int) := ⟨by omega, by omega, by omega, by omega⟩
 have kG := fun v : World => sconfig_any (N : Int) (S : Int) v
 rw [decide_eq_true hcfg] at kG
 obtain ⟨ii, EI⟩ := elI
 obtain ⟨is, ES⟩ := elS
 have HEI := hidQ EI; have HES := hidQ ES
 obtain ⟨i0, hi, hz0, hz1, hz2⟩ := info_parts infoI
 have hmkI := hidQ (fun (ln : Nat) (hl : ln ≤ 1000) (wx : World) => (by
  have := run_make (P := Try.prog) wx 26 3 i0 (.int .i64 0) Try.underlying26 hi hz0 .i64 .i64 ((ln : Nat) : Int) ((ln : Nat) : Int) (by omega) (Int.le_refl _) (by rw [hz2]; omega) (by omega)
  simp only [Int.toNat_natCast, hz1, Nat.mul_one, Value.cells] at this
  exact this : (Instr.makeSlice 26 (.int .i64 (ln : Int)) (.int .i64 (ln : Int))).run Try.prog wx = .ok (.slice (some ⟨wx.heap.size, 0, none⟩) ln ln) (wx.alloc (.cells (madeCells #[.int .i64 0] ln) 3))))
 have HT := hidQ hT; have HP := hidQ hP
 have f8 : ¬ (8 : Int) < (n : Int) := by omega
 have f8' : decide ((8 : Int) < (n : Int)) = false := decide_eq_false f8
 have f0 : ¬ (20000 : Int) < (picks.length : Int) := by omega
 have f0' : decide ((20000 : Int) < (picks.length : Int)) = false := decide_eq_false f0
 have kNew := hidQ (fun v : World => l4New_any N S dN dS v)
 obtain ⟨i6, hi6, hy0, hy1, hy2⟩ := info_parts infoSe
 have hmkS := hidQ (fun (wx : World) => (by
  have := run_make (P := Try.prog) wx 81 84 i6 _ Try.underlying81 hi6 hy0 .i64 .i64 ((n : Nat) : Int) ((n : Nat) : Int) (by omega) (Int.le_refl _) (by rw [hy2]; omega) (by omega)
  simp only [Int.toNat_natCast, hy1, Value.cells] at this
  exact this : (Instr.makeSlice 81 (.int .i64 (n : Int)) (.int .i64 (n : Int))).run Try.prog wx = .ok (.slice (some ⟨wx.heap.size, 0, none⟩) n n) (wx.alloc (.cells (madeCells #[.int .i64 0, .int .i64 0, .int .i64 0, .int .i64 0, .int .i64 0, .int .i64 0] (n * 6)) 84))))
 clear hT hP hcfg EI ES hi hz0 hz1 hz2 hi6 hy0 hy1 hy2
 obtain ⟨W0, hW0⟩ : ∃ W, W = (w.alloc (.cells #[.int .i64 (N : Int), .int .i64 (S : Int)] 24)).alloc (.cells zrp 32) := ⟨_, rfl⟩
 have bW : Below w.heap.size w W0 := by rw [hW0]; exact ((Below.refl _ _).alloc (Nat.le_refl _) _).alloc (by simp) _
 have cW : Cls W0 w.heap.size #[.int .i64 (N : Int), .int .i64 (S : Int)] 24 := by rw [hW0]; exact (Cls.new w _ _).below ((Below.refl _ _).alloc (Nat.le_refl _) _)
 have zW : Cls W0 (w.heap.size + 1) zrp 32 := by rw [hW0]; have := Cls.new (w.alloc (.cells #[.int .i64 (N : Int), .int .i64 (S : Int)] 24)) zrp 32; simpa using this
 unfold zrp at hW0
 have x0 := cW.cell 0 rfl
 have x1 := cW.cell 1 rfl
 have BW := hidQ bW; have CW := hidQ cW; have ZW := hidQ zW
 clear bW cW zW
 go_enter Try.func8, Try.ntmps8
 go_upto_region 1 with fail
 rw [← hW0]
 clear hW0
 go_wp2_with fail
 refine (kG _).mono ?_
 rintro e u1 ⟨rfl, b1⟩
 have HB1 := hidQ b1
 clear kG b1 x0 x1
 have W1 := hidQ (BW.out.trans (HB1.out.mono BW.out.size))
 have j0 : J1 u1 u1.heap.size (Q.lenAt tasks) 0 0 (.slice none 0 0) (.slice none 0 0) (fun _ => 0) (u1.alloc (.cells #[.bool true, .bool false, .int .i64 0, .slice none 0 0, .slice none 0 0, .int .i64 0, .int .i64 0, .int .i64 0, .int .i64 0, .int .i64 0, .slice none 0 0] 32)) :=
  ⟨⟨Cls.new u1 _ _, World.ownsRow_nil _ _ _ _, World.ownsRow_nil _ _ _ _, World.ownsRow_nil _ _ _ _, (Below.refl _ _).alloc (Nat.le_refl _) _⟩, fun t ht => by omega, fun t t' ht => by omega⟩
 have J0 := hidQ j0
 clear j0
 go_wp2_with fail
 go_loopw [37] (fun i wr => ∃ (k : Nat) (tv ov : Value) (ob : Nat → Nat), k ≤ n ∧ i = .int .i64 k ∧ J1 u1 u1.heap.size (Q.lenAt tasks) k k tv ov ob wr) (fun i _ => n - (intOf i).toNat)
 case atStart => exact ⟨0, _, _, _, by omega, rfl, J0.out⟩
 case round =>
  obtain ⟨k, tv, ov, ob, hk, rfl, j1⟩ := hrel
  have JJ := hidQ j1
  have bl := j1.1.2.2.2.2
  have BL := hidQ bl
  by_cases hlt : k < n
  · obtain ⟨b, off, rfl, hc⟩ := HT.out (by omega)
    obtain ⟨h1, h2, h3⟩ := hc k (by omega)
    have wwr : Below w.heap.size w wr := W1.out.trans (bl.mono W1.out.size)
    have e1 := (wwr.cell (p := ⟨b, off + k, none⟩) h3).trans h1
    have KR := hidQ (fun (v : World) (hv : Below wr.heap.size wr v) i (hi : i < Q.lenAt tasks k) => show ∃ xb xo, kx k = some ⟨xb, xo, none⟩ ∧ v.cell? ⟨xb, xo + i * 2, none⟩ = some (.int .i64 (Q.keyAt tasks k i).1) ∧ v.cell? ⟨xb, xo + i * 2 + 1, none⟩ = some (.int .i64 (Q.keyAt tasks k i).2) from by
     have ki := keysIn_of (w := wr) (base := wr.heap.size) (tasks := tasks) (kx := kx) (fun t ht => (hc t (by omega)).2.1.below wwr) (fun t b' off' ht h0 e => by
      obtain ⟨b2, off2, e2, hb2, _⟩ := (hc t (by omega)).2.1 h0
      rw [e] at e2; simp at e2; have := wwr.size; omega)
     obtain ⟨xb, xo, e, hb, c0, c1⟩ := ki k i (by omega) hi
     exact ⟨xb, xo, e, (hv.cell (p := ⟨xb, _, none⟩) hb).trans c0, (hv.cell (p := ⟨xb, _, none⟩) hb).trans c1⟩)
    have kok' := hidQ (fun i hi => kok k i (by omega) hi)
    have l60 := klen k
    have mk := hidQ (hmkI.out (Q.lenAt tasks k) (by omega))
    have HLN := hidQ (rfl : Q.lenAt tasks k = Q.lenAt tasks k)
    obtain ⟨ln, hln⟩ : ∃ ln, ln = Q.lenAt tasks k := ⟨_, rfl⟩
    rw [← hln] at e1 l60 mk KR kok'
    have f60 : ¬ (60 : Int) < (ln : Int) := by omega
    have f60' : decide ((60 : Int) < (ln : Int)) = false := decide_eq_false f60
    have HN := hidQ hln
    clear hln hc h1 h2 h3 bl j1 wwr HLN
    go_wp2_with fail
    go_loopw [47] (fun i wq => ∃ j : Nat, j ≤ ln ∧ i = .int .i64 j ∧ Below wr.heap.size wr wq) (fun i _ => ln - (intOf i).toNat)
    case atStart => exact ⟨0, by omega, rfl, Below.refl _ _⟩
    case round =>
     rename World => wq
     obtain ⟨j, hj, rfl, hbq⟩ := hrel
     have HBQ := hidQ hbq
     by_cases hjl : j < ln
     · obtain ⟨xb, xo, ex, c0, c1⟩ := KR.out wq hbq j hjl
       have ck := kok'.out j hjl
       have kK := fun v : World => skey_any (Q.keyAt tasks k j).1 (Q.keyAt tasks k j).2 v
       rw [decide_eq_true ck] at kK
       have fj : IntKind.i64.wrap ((j : Int) + 1) = (j : Int) + 1 := by simp only [IntKind.wrap_i64]; omega
       generalize Q.keyAt tasks k j = kk at c0 c1 kK
       rw [ex] at *
       clear hbq ck
       go_wp2_with fail
       refine (kK _).mono ?_
       rintro e v ⟨rfl, hv⟩
       go_wp2_with fail
       go_roundw
       case rel =>
        refine ⟨j + 1, by omega, by simp, ?_⟩
        have ba := HBQ.out.alloc HBQ.out.size (.cells #[.int .i64 kk.1, .int .i64 kk.2] 36)
        exact ba.trans (hv.mono ba.size)
       case measure => simp [intOf]; omega
     · have hjn : j = ln := by omega
       clear hbq
       have jq := JJ.out.below HBQ.out
       have HJQ := hidQ jq
       obtain ⟨⟨hC, ht, ho, hv, hb⟩, hob⟩ := jq
       obtain ⟨ta', tc', rfl⟩ := own_any ht
       obtain ⟨oa', oc', rfl⟩ := own_any ho
       have hC2 : Cls wq u1.heap.size #[.bool true, .bool false, .int .i64 0, .slice ta' k tc', .slice oa' k oc', .int .i64 0, .int .i64 0, .int .i64 0, .int .i64 0, .int .i64 0, .slice none 0 0] 32 := hC
       have q3 := hC2.cell 3 rfl
       have bU1 : Below wq.heap.size wq (wq.alloc (.cells #[.int .i64 0] 3)) := (Below.refl _ _).alloc (Nat.le_refl _) _
       have uU := hidQ (own_tn ht (Tn.below (fun _ => False) bU1) (fun _ _ h => h))
       have nT := hidQ (own_ty ht (Bf.cls hC) (by decide))
       have cU := hidQ (hC2.below bU1)
       have BU1 := hidQ bU1
       have hbs := hb.size
       clear ht ho hv hb hob hC hC2 bU1
       go_wp2_with (at_builtin; refine ap_list HEI.out rfl _ _ rfl _ u1.heap.size (.slice ta' k tc') k ((List.range k).map fun t => .int .i64 ((0 : Nat) : Int)) rfl uU.out wq.heap.size 1 rfl (.int .i64 0) ?c1 ?c2 ?c3 ?c4 ?_)
       case c2 => rfl
       case c3 => omega
       case c4 => omega
       intro g cap w1 own1 t1 at1 lt1
       have c1 : Cls w1 u1.heap.size #[.bool true, .bool false, .int .i64 0, .slice ta' k tc', .slice oa' k oc', .int .i64 0, .int .i64 0, .int .i64 0, .int .i64 0, .int .i64 0, .slice none 0 0] 32 := (t1.block _ cU.out.lt nT.out).trans cU.out
       have p3 := c1.cell 3 rfl
       have pf := c1.frozen 3
       have J5 := hidQ (J1.step5 HJQ.out BU1.out t1 own1 (at1.imp id (fun h => by rw [h]; simp)) (Nat.le_refl _))
       clear c1 own1 t1 at1 q3 uU nT cU BU1 hbs HJQ
       go_upto_region 16 with fail
       obtain ⟨wy, hwy⟩ : ∃ wy, wy = w1.setCell ⟨u1.heap.size, 3, none⟩ (.slice (some ⟨g, 0, none⟩) (k + 1) cap) := ⟨_, rfl⟩
       rw [← hwy] at J5 ⊢
       clear hwy
       have j5 := J5.out
       obtain ⟨⟨hC, ht, ho, hv, hb⟩, hob⟩ := j5
       have hC2 : Cls wy u1.heap.size #[.bool true, .bool false, .int .i64 0, .slice (some ⟨g, 0, none⟩) (k + 1) cap, .slice oa' k oc', .int .i64 0, .int .i64 0, .int .i64 0, .int .i64 0, .int .i64 0, .slice none 0 0] 32 := hC
       have mkv := mk.out
       have q4 := hC2.cell 4 rfl
       have bA : Below wy.heap.size wy (wy.alloc (.cells (madeCells #[.int .i64 0] ln) 3)) := (Below.refl _ _).alloc (Nat.le_refl _) _
       have q4a := (hC2.below bA).cell 4 rfl
       have bB : Below wy.heap.size wy ((wy.alloc (.cells (madeCells #[.int .i64 0] ln) 3)).alloc (.cells #[.slice (some ⟨wy.heap.size, 0, none⟩) ln ln] 26)) := bA.alloc bA.size _
       have q4b := (hC2.below bB).cell 4 rfl
       obtain ⟨U, hU⟩ : ∃ U, U = ((wy.alloc (.cells (madeCells #[.int .i64 0] ln) 3)).alloc (.cells #[.slice (some ⟨wy.heap.size, 0, none⟩) ln ln] 26)).drew := ⟨_, rfl⟩
       have bU : Below wy.heap.size wy U := by rw [hU]; exact bB.drew
       have uU : U.ownsRow u1.heap.size 26 1 (.slice oa' k oc') k ((List.range k).map fun t => .slice (some ⟨ob t, 0, none⟩) (Q.lenAt tasks t) (Q.lenAt tasks t)) := own_tn ho (Tn.below (fun _ => False) bU) (fun _ _ h => h)
       have cU := hC2.below bU
       have nO := own_ty ho (Bf.cls hC) (by decide)
       have nI : Bf U wy.heap.size 3 ln (fun _ => .int .i64 0) := by rw [hU]; exact out_new wy ln _
       have xU : U.cell? ⟨wy.heap.size + 1, 0, none⟩ = some (.slice (some ⟨wy.heap.size, 0, none⟩) ln ln) := by rw [hU]; simp [go_sem]
       have hbs : u1.heap.size ≤ U.heap.size := Nat.le_trans hb.size bU.size
       have HU := hidQ hU
       have f1 : IntKind.i64.wrap ((k : Int) + 1) = (k : Int) + 1 := by simp only [IntKind.wrap_i64]; omega
       have AFT := hidQ (fun (g1 cap1 : Nat) (w1 : World) (own1 : w1.ownsRow u1.heap.size 26 1 (.slice (some ⟨g1, 0, none⟩) (k + 1) cap1) (k + 1) (((List.range k).map fun t => .slice (some ⟨ob t, 0, none⟩) (Q.lenAt tasks t) (Q.lenAt tasks t)) ++ [.slice (some ⟨wy.heap.size, 0, none⟩) ln ln])) (t1 : Tn (fun k' => Value.ownBlock (.slice oa' k oc') = some k') U w1) =>
        show (w1.cell? ⟨u1.heap.size, 4, none⟩ = some (.slice oa' k oc') ∧ w1.frozen? ⟨u1.heap.size, 4, none⟩ = false) ∧ J1 u1 u1.heap.size (Q.lenAt tasks) (k + 1) (k + 1) (.slice (some ⟨g, 0, none⟩) (k + 1) cap) (.slice (some ⟨g1, 0, none⟩) (k + 1) cap1) (fun t => if t = k then wy.heap.size else ob t) (w1.setCell ⟨u1.heap.size, 4, none⟩ (.slice (some ⟨g1, 0, none⟩) (k + 1) cap1)) from by
         have c1 : Cls w1 u1.heap.size #[.bool true, .bool false, .int .i64 0, .slice (some ⟨g, 0, none⟩) (k + 1) cap, .slice oa' k oc', .int .i64 0, .int .i64 0, .int .i64 0, .int .i64 0, .int .i64 0, .slice none 0 0] 32 := (t1.block _ cU.lt nO).trans cU
         refine ⟨⟨c1.cell 4 rfl, c1.frozen 4⟩, ?_⟩
         have e := HN.out
         rw [e] at nI own1
         exact J1.step6 J5.out bU t1 (Nat.le_refl _) nI own1 (Nat.le_refl _))
       clear ht ho hv hb hC hC2 hU hob bA bB cU nO nI bU
       go_region_law (refine ap_step HES.out rfl _ _ rfl _ u1.heap.size (.slice oa' k oc') k _ (by simp [Act.eval]) (by with_reducible exact HU.out ▸ uU) (wy.heap.size + 1) 1 (by simp [Act.eval]) (.slice (some ⟨wy.heap.size, 0, none⟩) ln ln) (HU.out ▸ xU) rfl (by omega) (HU.out ▸ hbs) ?_; intro g1 cap1 w1 own1 t1 at1 lt1; obtain ⟨⟨x7, x8⟩, fin⟩ := AFT.out g1 cap1 w1 own1 (HU.out ▸ t1); have FIN := hidQ fin; clear fin)
       all_goals go_wp2_with fail
       all_goals exact ⟨⟨k + 1, _, _, _, by omega, by simp, FIN.out⟩, by simp [intOf]; omega⟩
  · have hkn : k = n := by omega
    subst hkn
    have cc := (CW.out.below HB1.out).below bl
    have y0 := cc.cell 0 rfl
    have y1 := cc.cell 1 rfl
    clear cc j1 bl
    go_wp2_with fail
    refine (kNew.out _).mono ?_
    rintro e u4 ⟨qb, sb, hb, rfl, hq, hs, hh, lq, ls, lh, b4⟩
    obtain ⟨u5, h5⟩ : ∃ u, u = ((u4.alloc (.cells #[.slice pa picks.length pc, .int .i64 0, .int .i64 0] 80)).alloc (.cells (madeCells #[.int .i64 0] k) 3)).alloc (.cells (madeCells #[.int .i64 0, .int .i64 0, .int .i64 0, .int .i64 0, .int .i64 0, .int .i64 0] (k * 6)) 84) := ⟨_, rfl⟩
    obtain ⟨l, hl, sok, mj0⟩ := mj_first (pa := pa) (pn := picks.length) (pc := pc) hn JJ.out b4 hq hs hh lq ls lh u5 h5
    have MJ0 := hidQ mj0; have SOK0 := hidQ sok; have HL := hidQ hl
    have mkA := hmkI.out k (by omega)
    have mkS := hmkS.out
    clear hq hs hh lq ls lh b4 hl sok mj0 y0 y1
    go_upto_block 4 with fail
    rw [← h5]
    clear h5 mkA mkS
    have lL : l.L = ⟨qb, sb, hb, u4.heap.size + 1 + 1, N, S, k⟩ := by rw [HL.out]
    have lab : l.ab = u4.heap.size + 1 := by rw [HL.out]
    have ltb : l.tb = u4.heap.size := by rw [HL.out]
    have lrb : l.rb = u1.heap.size := by rw [HL.out]
    have llen : l.len = Q.lenAt tasks := by rw [HL.out]
    have lT : l.L.T = k := by rw [lL]
    have TK := hidQ (fun (v : World) (hv : Below u1.heap.size u1 v) => show TkIn v ta tasks kx kc from fun h0 => by
     obtain ⟨b, off, e, hc⟩ := HT.out h0
     have wv : Below w.heap.size w v := W1.out.trans (hv.mono W1.out.size)
     refine ⟨b, off, e, fun t ht => ?_⟩
     obtain ⟨h1, h2, h3⟩ := hc t ht
     exact ⟨(wv.cell (p := ⟨b, off + t, none⟩) h3).trans h1, h2.below wv, Nat.lt_of_lt_of_le h3 wv.size⟩)
    have HLL := hidQ (And.intro lL (And.intro lab (And.intro ltb (And.intro lrb (And.intro llen lT)))))
    clear lL lab ltb lrb llen lT
    go_cut [] (fun wx => ∃ m, TL u1 l pa pc N S tasks picks m wx)
    case first =>
     go_wp2_with fail
     go_loopg [] 40000 (fun gk wz => ∃ m : Nat, m + gk = 40000 ∧ (∀ m', m' < m → Q.liv tasks (Q.run N S tasks picks m') ≠ []) ∧ MJ u1 l pa picks.length pc (zOf tasks m (Q.run N S tasks picks m)) wz)
     case atStart => exact ⟨0, by omega, fun m' h => by omega, MJ0.out⟩
     case round =>
      rename World => wz
      obtain ⟨m, hgk, hlv, mj⟩ := hrel
      obtain ⟨r, hr⟩ : ∃ r, Q.run N S tasks picks m = r := ⟨_, rfl⟩
      rw [hr] at mj
      have HMJ := hidQ mj; have HR := hidQ hr; have HGK := hidQ hgk; have HLV := hidQ hlv
      obtain ⟨lL, lab, ltb, lrb, llen, lT⟩ := HLL.out
      have fin0 := mj.fin
      rw [lab, lT] at fin0
      have AT := hidQ (fun (v : World) (hv : Below wz.heap.size wz v) t (ht : t < k) => show v.cell? ⟨u4.heap.size + 1, t, none⟩ = some (.int .i64 (r.fin t : Int)) from (fin0.below hv).cell t ht)
      have UZ := hidQ mj.bl
      clear mj hr hgk hlv lL lab ltb lrb llen lT fin0
      go_wp2_with fail
      go_loopw [16, 83] (fun v i wq => ∃ j : Nat, j ≤ k ∧ i = .int .i64 j ∧ OwI wq wz.heap.size v (lI tasks r j) ∧ Below wz.heap.size wz wq) (fun _ i _ => k - (intOf i).toNat)
      case atStart => exact ⟨0, by omega, rfl, World.ownsRow_nil _ _ _ _, Below.refl _ _⟩
      case round =>
       rename World => wq
       obtain ⟨j, hj, rfl, hv, hb0⟩ := hrel
       obtain ⟨va, vc, rfl⟩ := own_any hv
       have HV := hidQ hv; have HB := hidQ hb0
       by_cases hjl : j < k
       · obtain ⟨b, off, rfl, hc⟩ := TK.out wq (UZ.out.trans (hb0.mono UZ.out.size)) (by omega)
         obtain ⟨h1, -, -⟩ := hc j (by omega)
         have a1 := AT.out wq hb0 j hjl
         have fj : IntKind.i64.wrap ((j : Int) + 1) = (j : Int) + 1 := by simp only [IntKind.wrap_i64]; omega
         have ll := lI_len tasks r j
         by_cases hfl : r.fin j < Q.lenAt tasks j
         · have yes := hidQ (lI_yes hfl)
           have hfl' : (r.fin j : Int) < (Q.lenAt tasks j : Int) := by omega
           generalize r.fin j = fj0 at *
           generalize Q.lenAt tasks j = ln at *
           clear hv hb0 hc
           go_upto_region 26 with fail
           go_quiet (fail)
           generalize hw2 : World.drewN wq _ = w2
           have hq2 : Qt wq w2 := by rw [← hw2]; exact Qt.drewN _ _
           clear hw2
           have b2 : Below w2.heap.size w2 (w2.alloc (.cells #[.int .i64 (j : Int)] 3)) := (Below.refl _ _).alloc (Nat.le_refl _) _
           have HL2 := hidQ (show (w2.alloc (.cells #[.int .i64 (j : Int)] 3)).ownsRow wz.heap.size 3 1 (.slice va (lI tasks r j).length vc) (lI tasks r j).length ((lI tasks r j).map fun t : Nat => Value.int .i64 (t : Int)) from OwI.below (OwI.below HV.out (hq2.below _)) b2)
           have wzw : Below wz.heap.size wz w2 := HB.out.trans ((hq2.below _).mono HB.out.size)
           have wza := hidQ (wzw.trans (b2.mono wzw.size))
           have szz := wzw.size
           clear b2 wzw hq2
           go_wp2_with (at_builtin; refine ap_list HEI.out rfl _ _ rfl _ wz.heap.size (.slice va (lI tasks r j).length vc) (lI tasks r j).length ((lI tasks r j).map fun t : Nat => Value.int .i64 (t : Int)) rfl HL2.out w2.heap.size 1 rfl (.int .i64 (j : Int)) ?d1 ?d2 ?d3 ?d4 ?_)
           all_goals try (first | rfl | omega | exact wza.out.size | (simp [go_sem]; done))
           intro g cap w1 own1 t1 at1 lt1
           have R1 := hidQ (And.intro own1 t1)
           clear own1 t1 at1 lt1
           go_wp2_with fail
           go_roundw
           case rel =>
            obtain ⟨own1, t1⟩ := R1.out
            refine ⟨j + 1, by omega, by simp, ?_, wza.out.trans (t1.under _ wza.out.size (fun g e => (own_lt HL2.out e).2))⟩
            rw [yes.out]
            unfold OwI
            rw [List.length_append, List.map_append]
            exact own1
           case measure => simp [intOf]; omega
         · have no := hidQ (lI_no hfl)
           have hfl' : ¬ (r.fin j : Int) < (Q.lenAt tasks j : Int) := by omega
           have hfl2 : decide ((r.fin j : Int) < (Q.lenAt tasks j : Int)) = false := decide_eq_false hfl'
           generalize r.fin j = fj0 at *
           generalize Q.lenAt tasks j = ln at *
           clear hv hb0 hc
           go_wp2_with fail
           go_quiet (fail)
           go_wp2_with fail
           go_roundw
           case rel => exact ⟨j + 1, by omega, by simp, by rw [no.out]; exact OwI.below HV.out ((Qt.drewN _ _).below _), HB.out.trans (((Qt.drewN _ _).below _).mono HB.out.size)⟩
           case measure => simp [intOf]; omega
       · have hjn : j = k := by omega
         subst hjn
         have el : lI tasks r j = Q.liv tasks r := by unfold lI Q.liv; rw [hn]
         obtain ⟨ll, hll⟩ : ∃ ll, (Q.liv tasks r).length = ll := ⟨_, rfl⟩
         rw [el, hll] at HV ⊢
         have HLL2 := hidQ hll
         have mq := HMJ.out.tn HB.out
         have HMQ := hidQ mq
         have rp := mq.rep1
         obtain ⟨lL, lab, ltb, lrb, llen, lT⟩ := HLL.out
         rw [lrb] at rp
         by_cases hnil : Q.liv tasks r = []
         · have h0 : ll = 0 := by rw [← hll, hnil]; rfl
           have q1 := rp.cell 1 rfl
           have qf := rp.frozen 1
           have MD := hidQ (mq.done SOK0.out (mq.ne SOK0.out))
           rw [lrb] at MD
           have HNIL := hidQ hnil
           clear hv hb0 mq rp lL lab ltb lrb llen lT el hnil hll HLL2
           subst h0
           go_wp2_with fail
           go_meet
           case rel =>
            refine ⟨m, .inl ?_, ?_, HLV.out, ?_⟩
            · rw [HR.out]; exact HNIL.out
            · have := HGK.out; omega
            · rw [HR.out, decide_eq_true HNIL.out]; exact MD.out
         · by_cases hm4 : m = 40000
           · have q2 := rp.cell 2 rfl
             have e2 : ((zOf tasks m r).ns : Int) = 40000 := by show (m : Int) = 40000; omega
             rw [e2] at q2
             have hlen : 0 < ll := by rw [← hll]; exact List.length_pos_iff.2 hnil
             have hl1 : ¬ (ll : Int) = 0 := by omega
             have HNIL := hidQ hnil; have HM4 := hidQ hm4
             clear hv hb0 mq rp lL lab ltb lrb llen lT el hnil hm4 e2 hll HLL2
             go_wp2_with fail
             go_meet
             case rel =>
              refine ⟨m, .inr HM4.out, by have := HM4.out; omega, HLV.out, ?_⟩
              rw [HR.out, decide_eq_false HNIL.out]; exact HMQ.out
           · have q2 : wq.cell? ⟨u1.heap.size, 2, none⟩ = some (.int .i64 (m : Int)) := rp.cell 2 rfl
             have hlen : 0 < ll := by rw [← hll]; exact List.length_pos_iff.2 hnil
             have hl1 : ¬ (ll : Int) = 0 := by omega
             have hm4' : ¬ (m : Int) = 40000 := by omega
             have hp := Q.plc_lt picks m ll hlen
             obtain ⟨p, hpp⟩ : ∃ p, p = Q.plc picks m ll := ⟨_, rfl⟩
             obtain ⟨t, htt⟩ : ∃ t, (Q.liv tasks r)[p]? = some t := ⟨_, List.getElem?_eq_getElem (by omega)⟩
             have htm := Q.liv_mem.1 (List.mem_of_getElem? htt)
             have htk : t < j := by rw [← hn]; exact htm.1
             have rok := Q.run_ok (N := N) dS.1 tasks picks m HLV.out
             rw [HR.out] at rok
             have hrun : Q.run N S tasks picks (m + 1) = Q.stepR N S tasks t r := by
              show Q.stepR N S tasks ((Q.liv tasks (Q.run N S tasks picks m)).getD (Q.plc picks m (Q.liv tasks (Q.run N S tasks picks m)).length) 0) (Q.run N S tasks picks m) = _
              rw [HR.out, hll, ← hpp, List.getD_eq_getElem?_getD, htt]; rfl
             have llj : ll ≤ j := by rw [← hll, ← el]; exact lI_len tasks r j
             have uzq : Below u1.heap.size u1 wq := UZ.out.trans (HB.out.mono UZ.out.size)
             have wq1 : Below w.heap.size w wq := W1.out.trans (uzq.mono W1.out.size)
             have rdp : RdI wq pa picks := fun h0 => by
              obtain ⟨b, off, e, hc⟩ := HP.out h0
              exact ⟨b, off, e, fun i hi => (wq1.cell (p := ⟨b, off + i, none⟩) (hPb b off e)).trans (hc i hi)⟩
             have kc0 := choose_mj mq SOK0.out (show (zOf tasks m r).nt < 100000 by show m < 100000; have := HGK.out; omega) rdp ll hlen (by omega)
             rw [ltb] at kc0
             have kc1 : Calls Try.prog 35 #[.pointer (some ⟨u4.heap.size, 0, none⟩), .int .i64 ll] wq fun e w' => e = .returned (.int .i64 (p : Int)) ∧ MJ u1 l pa picks.length pc { zOf tasks m r with nt := m + 1 } w' ∧ Tn (fun g => g = u4.heap.size) wq w' := by rw [hpp]; exact kc0
             obtain ⟨g, cap, eg, hc⟩ := OwI.at HV.out p t htt
             rw [hll] at eg
             injection eg with eg1 eg2 eg3
             subst eg1; subst eg3
             have gblk : g < wq.heap.size ∧ wz.heap.size ≤ g := own_lt HV.out rfl
             have tbz : u4.heap.size < wz.heap.size := by have := HMJ.out.tu.lt; rw [ltb] at this; exact this
             have hp' : (p : Int) < (ll : Int) := by omega
             have ROW := hidQ (fun (v : World) (tn : Tn (fun g => g = u4.heap.size) wq v) => show v.cell? ⟨g, p, none⟩ = some (.int .i64 (t : Int)) from (tn.cell p gblk.1 (by omega)).trans hc)
             have KC1 := hidQ kc1; have HNIL := hidQ hnil; have HM4 := hidQ hm4; have HROK := hidQ rok; have HRUN := hidQ hrun; have HTM := hidQ htm
             have HLLT := hidQ (And.intro lL (And.intro lab (And.intro ltb (And.intro lrb (And.intro llen lT)))))
             clear hv hb0 mq rp lL lab ltb lrb llen lT el hnil hm4 hll HLL2 kc0 kc1 hc rok hrun rdp wq1 uzq hpp htt gblk hp htm
             go_wp2_with fail
             refine KC1.out.mono ?_
             rintro e w2 ⟨rfl, m2, tn2⟩
             have rw2 := ROW.out w2 tn2
             have M2 := hidQ m2
             clear tn2
             obtain ⟨lL, lab, ltb, lrb, llen, lT⟩ := HLLT.out
             have at2 : w2.cell? ⟨u4.heap.size + 1, t, none⟩ = some (.int .i64 (r.fin t : Int)) := by
              have := m2.fin; rw [lab, lT] at this; exact this.cell t htk
             obtain ⟨b, off, rfl, hc⟩ := TK.out w2 m2.bl (by omega)
             have tk2 := (hc t (by omega)).1
             have ki := keysIn_of (w := w2) (base := w2.heap.size) (tasks := tasks) (kx := kx) (fun t ht => (hc t ht).2.1) (fun t b' off' ht h0 e => by
              obtain ⟨b2, off2, e2, hb2, _⟩ := (hc t ht).2.1 h0
              rw [e] at e2; simp at e2; omega)
             obtain ⟨xb, xo, ex, -, kc2, kd2⟩ := ki t (r.fin t) (by omega) HTM.out.2
             rw [ex] at tk2
             obtain ⟨R, si2, -, -⟩ := m2.si
             have n2 := si2.n
             rw [lL] at n2
             have nn0 := n2.cell (t * 6) (by simp only; omega)
             have nn1 := n2.cell (t * 6 + 1) (by simp only; omega)
             have nnf := n2.frozen
             simp only at nn0 nn1 nnf
             have fl : (r.fin t : Int) < (Q.lenAt tasks t : Int) := by have := HTM.out.2; omega
             obtain ⟨kk, hkk⟩ : ∃ kk, Q.keyAt tasks t (r.fin t) = kk := ⟨_, rfl⟩
             rw [hkk] at kc2 kd2
             have HKK := hidQ hkk
             have kok2 := kok t (r.fin t) (by omega) HTM.out.2
             rw [hkk] at kok2
             obtain ⟨X, hX⟩ : ∃ X, X = Q.stp S kk (Q.shd N kk) (Q.hom S kk) r.c (r.cur t) := ⟨_, rfl⟩
             have HX := hidQ hX
             have ks := hidQ (fun (v : World) (q : Qt ((w2.setCell ⟨u4.heap.size + 1 + 1, t * 6, none⟩ (.int .i64 kk.1)).setCell ⟨u4.heap.size + 1 + 1, t * 6 + 1, none⟩ (.int .i64 kk.2)) v) => show Calls Try.prog 36 #[.pointer (some ⟨qb, 0, none⟩), .pointer (some ⟨u4.heap.size + 1 + 1, t * 6, none⟩)] v fun e w' => e = .returned (.int .i64 (X.2.2 : Int)) ∧ MJ u1 l pa picks.length pc { zOf tasks m r with nt := m + 1, c := X.1, cur := Q.updN r.cur t X.2.1, g := fun t' => if t' = t then decide (X.2.2 = 0) else true } w' from by
              have d : SD l.L := by rw [lL]; exact ⟨dN, dS⟩
              have st := step_mj (n := m) (v := v) (t := t) (kk := kk) m2 SOK0.out d (by rw [lT]; exact htk) rfl hkk kok2 (by rw [lL]; exact HROK.out.c) (by rw [lL]; exact HROK.out.q t) (by have := HGK.out; omega) (by rw [lL]; exact q) X (by rw [lL]; exact hX)
              rw [lL] at st
              exact st)
             obtain ⟨fn, hfn⟩ : ∃ fn, r.fin t = fn := ⟨_, rfl⟩
             obtain ⟨ln, hln⟩ : ∃ ln, Q.lenAt tasks t = ln := ⟨_, rfl⟩
             rw [hfn] at at2 kc2 kd2 fl
             rw [hln] at tk2 fl
             have HFN := hidQ hfn; have HLN := hidQ hln
             clear hfn hln
             clear m2 hc ki si2 n2 hkk kok2 hX lL lab ltb lrb llen lT
             go_upto_region 33 with fail
             go_region
             go_wp2_with fail
             refine (ks.out _ (Qt.drew _)).mono ?_
             rintro e w4 ⟨rfl, m4⟩
             obtain ⟨lL, lab, ltb, lrb, llen, lT⟩ := HLLT.out
             have nn4 := m4.ne SOK0.out
             have rp4 := m4.rep1
             rw [lrb] at rp4
             obtain ⟨⟨g3, cap3, etv, ct3, cf3⟩, -⟩ := m4.rows t (by rw [lT]; exact htk)
             rw [lT] at etv
             rw [etv] at rp4
             have p2 : w4.cell? ⟨u1.heap.size, 2, none⟩ = some (.int .i64 (m : Int)) := rp4.cell 2 rfl
             have p3 := rp4.cell 3 rfl
             have pf := rp4.frozen
             have hg3 : g3 ≠ u1.heap.size := fun e => nn4.tr (by rw [etv, lrb, e]; rfl)
             have hg3' := Ne.symm hg3
             have tsl := HROK.out.ts t
             have f2 : IntKind.i64.wrap ((m : Int) + 1) = (m : Int) + 1 := by have := HGK.out; simp only [IntKind.wrap_i64]; omega
             have f3 : IntKind.i64.wrap ((r.ts t : Int) + 1) = (r.ts t : Int) + 1 := by have := HGK.out; simp only [IntKind.wrap_i64]; omega
             have htj : (t : Int) < (j : Int) := by omega
             have ct3' : w4.cell? ⟨g3, t, none⟩ = some (.int .i64 (r.ts t : Int)) := ct3
             have m5 := m4.steps SOK0.out nn4 (.int .i64 ((m : Int) + 1)) rfl
             have m6 := m5.tss SOK0.out nn4 g3 cap3 t (by rw [lT]; exact etv) (.int .i64 ((r.ts t : Int) + 1)) rfl
             rw [lrb] at m6
             have M6 := hidQ m6; have NN := hidQ nn4
             obtain ⟨w6, hw6⟩ : ∃ w6, w6 = (w4.setCell ⟨u1.heap.size, 2, none⟩ (.int .i64 ((m : Int) + 1))).setCell ⟨g3, t, none⟩ (.int .i64 ((r.ts t : Int) + 1)) := ⟨_, rfl⟩
             rw [← hw6] at M6
             obtain ⟨oc, hoc⟩ : ∃ oc, X.2.2 = oc := ⟨_, rfl⟩
             rw [hoc] at M6 ⊢
             have HOC := hidQ hoc
             clear m4 nn4 rp4 m5 m6 etv ct3 lL lab ltb lrb llen lT hoc
             by_cases h0 : oc = 0
             · subst h0
               go_wp2_with fail
               go_roundg (gk - 1)
               case rel =>
                refine ⟨m + 1, by have := HGK.out; have := HM4.out; omega, fun m' h => ?_, ?_⟩
                · rcases Nat.lt_or_ge m' m with h1 | h1
                  · exact HLV.out m' h1
                  · have : m' = m := by omega
                    rw [this, HR.out]; exact HNIL.out
                · rw [HRUN.out, z_on (x := X) (by rw [HKK.out]; exact HX.out) HOC.out, HOC.out, ← hw6]; exact M6.out
               case measure => have := HGK.out; have := HM4.out; omega
             · have h0' : ¬ (oc : Int) = 0 := by omega
               go_upto_region 38 with fail
               rw [← hw6]
               clear hw6 p2 p3 pf ct3' cf3 hg3 hg3' f2 f3
               obtain ⟨lL, lab, ltb, lrb, llen, lT⟩ := HLLT.out
               have m6 := M6.out
               have rp6 := m6.rep1
               rw [lrb] at rp6
               obtain ⟨-, g4, cap4, eov, co4⟩ := m6.rows t (by rw [lT]; exact htk)
               rw [lT] at eov
               rw [eov] at rp6
               have p4 := rp6.cell 4 rfl
               have at6 : w6.cell? ⟨u4.heap.size + 1, t, none⟩ = some (.int .i64 (fn : Int)) := by
                have := m6.fin; rw [lab, lT] at this; exact (this.cell t htk).trans (congrArg some (by rw [← HFN.out]; rfl))
               have oo6 := m6.oo t (by rw [lT]; exact htk)
               rw [llen, HLN.out] at oo6 co4
               have hfl : fn < ln := by omega
               have co6 := oo6.cell fn hfl
               have cf6 := oo6.frozen fn
               have m7 := m6.outs SOK0.out NN.out t fn oc (by rw [lT]; exact htk)
               have M7 := hidQ m7
               clear m6 m7 rp6 oo6 eov lL lab ltb lrb llen lT
               generalize l.ob t = obt at *
               go_region
               go_upto_region 39 with fail
               obtain ⟨w7, hw7⟩ : ∃ w7, w7 = (w6.setCell ⟨obt, fn, none⟩ (.int .i64 (oc : Int))).drew := ⟨_, rfl⟩
               rw [← hw7]
               have m7 := M7.out.qt (wv := w7) (by rw [hw7]; exact Qt.drew _)
               obtain ⟨lL, lab, ltb, lrb, llen, lT⟩ := HLLT.out
               have at7 : w7.cell? ⟨u4.heap.size + 1, t, none⟩ = some (.int .i64 (fn : Int)) := by
                have := m7.fin; rw [lab, lT] at this; exact (this.cell t htk).trans (congrArg some (by rw [← HFN.out]; rfl))
               have af7 : w7.frozen? ⟨u4.heap.size + 1, t, none⟩ = false := by have := m7.fin; rw [lab] at this; exact this.frozen t
               have f4 : IntKind.i64.wrap ((fn : Int) + 1) = (fn : Int) + 1 := by have := klen t; have := HLN.out; simp only [IntKind.wrap_i64]; omega
               have m8 := m7.fins SOK0.out NN.out t (by rw [lT]; exact htk) (by simp [h0]) (.int .i64 ((fn : Int) + 1)) (by rw [← HFN.out]; rfl) (fun a => Q.keyAt tasks a (Q.updN r.fin t (r.fin t + 1) a)) (fun a ha => by simp [zOf, Q.updN, ha])
               have m9 := m8.news SOK0.out NN.out t (by rw [lT]; exact htk)
               rw [lab, lL] at m9
               simp only at m9
               have M9 := hidQ m9
               obtain ⟨R7, si7, -, -⟩ := m7.si
               have n7 := si7.n
               rw [lL] at n7
               simp only at n7
               have d0 := n7.cell (t * 6) (by omega)
               have d1 := n7.cell (t * 6 + 1) (by omega)
               have d2 := n7.cell (t * 6 + 2) (by omega)
               have d3 := n7.cell (t * 6 + 3) (by omega)
               have d4 := n7.cell (t * 6 + 4) (by omega)
               have d5 := n7.cell (t * 6 + 5) (by omega)
               have df := n7.frozen
               have hna : u4.heap.size + 1 + 1 ≠ u4.heap.size + 1 := by omega
               clear hw7 m7 m8 m9 si7 n7 lL lab ltb lrb llen lT co6 cf6 at6 p4 co4
               go_wp2_with fail
               go_roundg (gk - 1)
               case rel =>
                refine ⟨m + 1, by have := HGK.out; have := HM4.out; omega, fun m' h => ?_, ?_⟩
                · rcases Nat.lt_or_ge m' m with h1 | h1
                  · exact HLV.out m' h1
                  · have : m' = m := by omega
                    rw [this, HR.out]; exact HNIL.out
                · rw [HRUN.out, z_end (x := X) (by rw [HKK.out]; exact HX.out) (by rw [HOC.out]; exact h0) rfl rfl, HOC.out]
                  rw [show Q.updN (r.out t) (r.fin t) oc = Q.updN (r.out t) fn oc from by rw [HFN.out]]
                  exact M9.out
               case measure => have := HGK.out; have := HM4.out; omega
    case rest =>
     rename World => wx
     obtain ⟨m, hm1, hm2, hm3, mj⟩ := hcut
     obtain ⟨lL, lab, ltb, lrb, llen, lT⟩ := HLL.out
     have nn := mj.ne SOK0.out
     have d : SD l.L := by rw [lL]; exact ⟨dN, dS⟩
     obtain ⟨r, hr⟩ : ∃ r, Q.run N S tasks picks m = r := ⟨_, rfl⟩
     rw [hr] at mj hm1
     obtain ⟨dn, hdn⟩ : ∃ dn, decide (Q.liv tasks r = []) = dn := ⟨_, rfl⟩
     rw [hdn] at mj
     obtain ⟨R, si, sc, -⟩ := mj.si
     have rp : Cls wx u1.heap.size #[.bool true, .bool dn, .int .i64 (m : Int), l.tv, l.ov, .int .i64 0, .int .i64 0, .int .i64 0, .int .i64 0, .int .i64 0, .slice none 0 0] 32 := by rw [← lrb]; exact mj.rep1
     have qbl : l.L.qb = qb := by rw [lL]
     have c4 : wx.cell? ⟨qb, 4, none⟩ = some (.int .i64 (r.c.hits : Int)) := by rw [← qbl]; exact (si.q.cell 4 (by omega)).trans (congrArg some sc.q4)
     have c5 : wx.cell? ⟨qb, 5, none⟩ = some (.int .i64 (r.c.made : Int)) := by rw [← qbl]; exact (si.q.cell 5 (by omega)).trans (congrArg some sc.q5)
     have c6 : wx.cell? ⟨qb, 6, none⟩ = some (.int .i64 (r.c.pub : Int)) := by rw [← qbl]; exact (si.q.cell 6 (by omega)).trans (congrArg some sc.q6)
     have c7 : wx.cell? ⟨qb, 7, none⟩ = some (.int .i64 (r.c.ev : Int)) := by rw [← qbl]; exact (si.q.cell 7 (by omega)).trans (congrArg some sc.q7)
     have c8 : wx.cell? ⟨qb, 8, none⟩ = some (.int .i64 (r.c.lost : Int)) := by rw [← qbl]; exact (si.q.cell 8 (by omega)).trans (congrArg some sc.q8)
     have hqr : qb ≠ u1.heap.size := by rw [← qbl, ← lrb]; exact nn.qr
     have hqr' := Ne.symm hqr
     have r5 := rp.cell 5 rfl; have r6 := rp.cell 6 rfl; have r7 := rp.cell 7 rfl; have r8 := rp.cell 8 rfl; have r9 := rp.cell 9 rfl
     have rf := rp.frozen
     obtain ⟨wv, hwv⟩ : ∃ wv, wv = ((((wx.setCell ⟨u1.heap.size, 5, none⟩ (.int .i64 (r.c.hits : Int))).setCell ⟨u1.heap.size, 6, none⟩ (.int .i64 (r.c.made : Int))).setCell ⟨u1.heap.size, 7, none⟩ (.int .i64 (r.c.pub : Int))).setCell ⟨u1.heap.size, 8, none⟩ (.int .i64 (r.c.ev : Int))).setCell ⟨u1.heap.size, 9, none⟩ (.int .i64 (r.c.lost : Int)) := ⟨_, rfl⟩
     have tV : Tn (fun g => g = u1.heap.size) wx wv := by
      rw [hwv]; exact ((((Tn.set (w := wx) (fun g => g = u1.heap.size) _ 5 _ rfl).trans (Tn.set _ _ 6 _ rfl)).trans (Tn.set _ _ 7 _ rfl)).trans (Tn.set _ _ 8 _ rfl)).trans (Tn.set _ _ 9 _ rfl)
     have cV : Cls wv u1.heap.size #[.bool true, .bool dn, .int .i64 (m : Int), l.tv, l.ov, .int .i64 (r.c.hits : Int), .int .i64 (r.c.made : Int), .int .i64 (r.c.pub : Int), .int .i64 (r.c.ev : Int), .int .i64 (r.c.lost : Int), .slice none 0 0] 32 := by
      rw [hwv]; exact ((((rp.set 5 _ _ rfl).set 6 _ _ rfl).set 7 _ _ rfl).set 8 _ _ rfl).set 9 _ _ rfl
     have siV : SI wv l.L R := si.tn tV (by rw [← lrb]; exact nn.qr) (by rw [← lrb]; exact nn.sr) (by rw [← lrb]; exact nn.hr) (by rw [← lrb]; exact nn.nr)
     have kv := sview_any d siV sc
     rw [lL] at kv
     simp only at kv
     have KV := hidQ kv
     have TV := hidQ tV; have CV := hidQ cV; have MJX := hidQ mj; have NN := hidQ nn
     have HM1 := hidQ hm1; have HM3 := hidQ hm3; have HR := hidQ hr; have HDN := hidQ hdn
     obtain ⟨tva, tvc, htv⟩ := own_any mj.tv
     obtain ⟨ova, ovc, hov⟩ := own_any mj.ov
     have HTV := hidQ htv; have HOV := hidQ hov
     clear kv tV cV siV mj nn rp si sc lL lab ltb lrb llen lT hm1 hm3 hr hdn d qbl htv hov
     go_upto_region 46 with fail
     rw [← hwv]
     clear hwv c4 c5 c6 c7 c8 r5 r6 r7 r8 r9 rf
     go_wp2_with fail
     refine KV.out.mono ?_
     rintro e u8 ⟨sv, rfl, hsv, b8⟩
     obtain ⟨sva, svc, rfl⟩ := own_any hsv
     have c8 := CV.out.below b8
     rw [HTV.out, HOV.out] at c8
     have zU : Below u1.heap.size u1 u8 := (MJX.out.bl.trans (TV.out.under _ MJX.out.bl.size (fun g e => by omega))).trans (b8.mono (Nat.le_trans MJX.out.bl.size TV.out.size))
     have z8 : Cls u8 (w.heap.size + 1) #[.bool false, .bool false, .int .i64 0, .slice none 0 0, .slice none 0 0, .int .i64 0, .int .i64 0, .int .i64 0, .int .i64 0, .int .i64 0, .slice none 0 0] 32 := (ZW.out.below HB1.out).below zU
     have hlt1 : w.heap.size + 1 < u1.heap.size := by have := ZW.out.lt; have := HB1.out.size; omega
     have hne1 : w.heap.size + 1 ≠ u1.heap.size := by omega
     have hne2 := Ne.symm hne1
     have q0 := c8.cell 0 rfl; have q1 := c8.cell 1 rfl; have q2 := c8.cell 2 rfl; have q3 := c8.cell 3 rfl; have q4 := c8.cell 4 rfl; have q5 := c8.cell 5 rfl; have q6 := c8.cell 6 rfl; have q7 := c8.cell 7 rfl; have q8 := c8.cell 8 rfl; have q9 := c8.cell 9 rfl; have q10 := c8.cell 10 rfl
     have qf := c8.frozen
     have z0 := z8.cell 0 rfl; have z1 := z8.cell 1 rfl; have z2 := z8.cell 2 rfl; have z3 := z8.cell 3 rfl; have z4 := z8.cell 4 rfl; have z5 := z8.cell 5 rfl; have z6 := z8.cell 6 rfl; have z7 := z8.cell 7 rfl; have z8' := z8.cell 8 rfl; have z9 := z8.cell 9 rfl; have z10 := z8.cell 10 rfl
     have zf := z8.frozen
     have HSV := hidQ hsv; have HB8 := hidQ b8; have ZU := hidQ zU
     clear hsv b8 zU c8 z8
     go_wp2_with fail
     obtain ⟨lL, lab, ltb, lrb, llen, lT⟩ := HLL.out
     rw [lT]
     refine bodyPost_ret (v := .agg (rpc dn m (.slice tva k tvc) (.slice ova k ovc) r.c (.slice sva (Q.vws S r.c (N * S)).length svc))) (by simp [results, Try.results8, go_sem, rpc, zOf, z0, z1, z2, z3, z4, z5, z6, z7, z8', z9, z10]) rfl ?_
     have T := fun y x0 x1 x2 x3 x4 x5 x6 x7 x8 x9 x10 => fin_tn u8 u1.heap.size (w.heap.size + 1) y x0 x1 x2 x3 x4 x5 x6 x7 x8 x9 x10
     have T0 : Tn (fun g => g = u1.heap.size ∨ g = w.heap.size + 1) wx u8 := (TV.out.mono (fun g _ e => .inl e)).trans (Tn.below _ HB8.out)
     have mj := MJX.out
     have nn := NN.out
     have kB := SOK0.out.B
     have h1 := mj.tv
     have h2 := mj.ov
     have n1 : ∀ g, l.tv.ownBlock = some g → ¬ (g = u1.heap.size ∨ g = w.heap.size + 1) := by
      rintro g e (e2 | e2)
      · exact nn.tr (by rw [lrb, ← e2]; exact e)
      · have := (own_lt h1 e).2; omega
     have n2 : ∀ g, l.ov.ownBlock = some g → ¬ (g = u1.heap.size ∨ g = w.heap.size + 1) := by
      rintro g e (e2 | e2)
      · exact nn.vr (by rw [lrb, ← e2]; exact e)
      · have := (own_lt h2 e).2; omega
     refine ⟨m, _, rfl, ?_, hm2, HM3.out, ?_, ?_⟩
     · rw [HR.out]; exact HM1.out
     · rw [HR.out, HDN.out]
       have k1 : ∀ F : World, Tn (fun g => g = u1.heap.size ∨ g = w.heap.size + 1) u8 F → F.ownsRow l.B 3 1 (.slice tva k tvc) k ((List.range k).map fun t => .int .i64 (r.ts t : Int)) := fun F tF => by
        have := own_tn h1 (T0.trans tF) n1
        rw [HTV.out, lT] at this; exact this
       have k2 : ∀ F : World, Tn (fun g => g = u1.heap.size ∨ g = w.heap.size + 1) u8 F → F.ownsRow l.B 26 1 (.slice ova k ovc) k ((List.range k).map fun t => .slice (some ⟨l.ob t, 0, none⟩) (Q.lenAt tasks t) (Q.lenAt tasks t)) := fun F tF => by
        have := own_tn h2 (T0.trans tF) n2
        rw [HOV.out, lT, llen] at this; exact this
       refine ⟨_, _, _, l.ob, rfl, own_mono (k1 _ (T _ _ _ _ _ _ _ _ _ _ _ _)) (by omega), own_mono (k2 _ (T _ _ _ _ _ _ _ _ _ _ _ _)) (by omega), own_mono (own_tn HSV.out (T _ _ _ _ _ _ _ _ _ _ _ _) ?_) (by have := MJX.out.bl.size; have := TV.out.size; omega), fun t ht => ⟨?_, ?_, ?_⟩, fun t t' ht ht' => nn.oi t t' (by rw [lT]; exact ht) (by rw [lT]; exact ht')⟩
       · intro g e e2
         have hg := (own_lt HSV.out e).2
         have := MJX.out.rep.lt
         have := TV.out.size
         rw [lrb] at *
         omega
       · have o := mj.oo t (by rw [lT]; exact ht)
         rw [llen] at o
         refine o.tn (T0.trans (T _ _ _ _ _ _ _ _ _ _ _ _)) ?_
         rintro (e2 | e2)
         · exact nn.or t (by rw [lT]; exact ht) (by rw [lrb]; exact e2)
         · have := SOK0.out.bo t (by rw [lT]; exact ht); omega
       · have := SOK0.out.bo t (by rw [lT]; exact ht); omega
       · have := nn.tto t (by rw [lT]; exact ht)
         rw [HTV.out, lT] at this; exact this
     · have b8 : Below w.heap.size w u8 := W1.out.trans (ZU.out.mono W1.out.size)
       exact b8.trans ((T _ _ _ _ _ _ _ _ _ _ _ _).under _ b8.size (fun g e => by omega))

end Go.Proofs.Ytdpbhbpcpnlbkaa
