import Derived.Test.YtdpbhbpcpnlbkaaaGH
import Derived.Test.YtdpbhbpcpnlbkaaaGE
set_option maxHeartbeats 8000000
namespace Go.Proofs.Ytdpbhbpcpnlbkaa
open Go.RowKit Go.Maps
set_option linter.unusedVariables false
set_option maxRecDepth 100000
theorem first_bad {tasks : List (List (Int × Int))} (h : tasks.all tOk = false) : ∃ k, k < tasks.length ∧ tOk (tasks.getD k []) = false := by
 rw [List.all_eq_false] at h
 obtain ⟨x, hx, hb⟩ := h
 obtain ⟨i, hi, rfl⟩ := List.getElem_of_mem hx
 exact ⟨i, hi, by rw [List.getD_eq_getElem?_getD, List.getElem?_eq_getElem hi]; simpa using hb⟩

theorem tOk_keys {ks : List (Int × Int)} : tOk ks = true ↔ ks.length ≤ 60 ∧ ∀ i, i < ks.length → keyOk (ks.getD i (0, 0)).1 (ks.getD i (0, 0)).2 := by
 unfold tOk
 rw [Bool.and_eq_true]
 simp only [decide_eq_true_eq, Bool.not_eq_true', List.any_eq_false]
 constructor
 · rintro ⟨a, b⟩
   refine ⟨a, fun i hi => ?_⟩
   rw [List.getD_eq_getElem?_getD, List.getElem?_eq_getElem hi]
   have := b ks[i] (List.getElem_mem hi)
   simpa using this
 · rintro ⟨a, b⟩
   refine ⟨a, fun x hx => ?_⟩
   obtain ⟨i, hi, rfl⟩ := List.getElem_of_mem hx
   have := b i hi
   rw [List.getD_eq_getElem?_getD, List.getElem?_eq_getElem hi] at this
   simpa using this

theorem srun_bad (a b : Int) (n tc pc pn : Nat) (ta pa : Option Addr) (tasks : List (List (Int × Int))) (kx : Nat → Option Addr) (kc : Nat → Nat) (w : World) (hn : tasks.length = n) (hn2 : n ≤ 1048576) (hl : ∀ t, Q.lenAt tasks t ≤ 1048576) (hT : TkIn w ta tasks kx kc) (hbad : ¬ (cfgOk a b ∧ (decide (n ≤ 8) && tasks.all tOk) = true ∧ pn ≤ 20000)) :
 Calls Try.prog 8 #[.agg #[.int .i64 a, .int .i64 b], .slice ta n tc, .slice pa pn pc] w fun e w' => e = .returned (.agg zrp) ∧ Below w.heap.size w w' := by
 have kG := fun v : World => sconfig_any a b v
 obtain ⟨W0, hW0⟩ : ∃ W, W = (w.alloc (.cells #[.int .i64 a, .int .i64 b] 24)).alloc (.cells zrp 32) := ⟨_, rfl⟩
 have bW : Below w.heap.size w W0 := by rw [hW0]; exact ((Below.refl _ _).alloc (Nat.le_refl _) _).alloc (by simp) _
 have cW : Cls W0 w.heap.size #[.int .i64 a, .int .i64 b] 24 := by rw [hW0]; exact (Cls.new w _ _).below ((Below.refl _ _).alloc (Nat.le_refl _) _)
 have zW : Cls W0 (w.heap.size + 1) zrp 32 := by rw [hW0]; have := Cls.new (w.alloc (.cells #[.int .i64 a, .int .i64 b] 24)) zrp 32; simpa using this
 unfold zrp at hW0
 have x0 := cW.cell 0 rfl
 have x1 := cW.cell 1 rfl
 have BW := hidQ bW; have ZW := hidQ zW
 have FIN := hidQ (fun (u : World) (hu : Below W0.heap.size W0 u) => show (Cls u (w.heap.size + 1) #[.bool false, .bool false, .int .i64 0, .slice none 0 0, .slice none 0 0, .int .i64 0, .int .i64 0, .int .i64 0, .int .i64 0, .int .i64 0, .slice none 0 0] 32) ∧ Below w.heap.size w u from ⟨zW.below hu, bW.trans (hu.mono bW.size)⟩)
 clear bW cW zW
 by_cases hc : cfgOk a b
 · rw [decide_eq_true hc] at kG
   by_cases h8 : n ≤ 8
   · have f8 : ¬ (8 : Int) < (n : Int) := by omega
     have f8' : decide ((8 : Int) < (n : Int)) = false := decide_eq_false f8
     by_cases hpn : pn ≤ 20000
     · have f0 : ¬ (20000 : Int) < (pn : Int) := by omega
       have f0' : decide ((20000 : Int) < (pn : Int)) = false := decide_eq_false f0
       have hall : tasks.all tOk = false := by
        rcases Bool.eq_false_or_eq_true (tasks.all tOk) with h | h
        · exact absurd ⟨hc, by rw [decide_eq_true h8, h]; rfl, hpn⟩ hbad
        · exact h
       obtain ⟨kb, hkb, hkf⟩ := first_bad hall
       obtain ⟨ii, EI⟩ := elI
       obtain ⟨is, ES⟩ := elS
       have HEI := hidQ EI; have HES := hidQ ES
       obtain ⟨i0, hi, hz0, hz1, hz2⟩ := info_parts infoI
       have hmkI := hidQ (fun (ln : Nat) (hl : ln ≤ 1000) (wx : World) => (by
        have := run_make (P := Try.prog) wx 26 3 i0 (.int .i64 0) Try.underlying26 hi hz0 .i64 .i64 ((ln : Nat) : Int) ((ln : Nat) : Int) (by omega) (Int.le_refl _) (by rw [hz2]; omega) (by omega)
        simp only [Int.toNat_natCast, hz1, Nat.mul_one, Value.cells] at this
        exact this : (Instr.makeSlice 26 (.int .i64 (ln : Int)) (.int .i64 (ln : Int))).run Try.prog wx = .ok (.slice (some ⟨wx.heap.size, 0, none⟩) ln ln) (wx.alloc (.cells (madeCells #[.int .i64 0] ln) 3))))
       have HT := hidQ hT; have HKF := hidQ hkf; have HLL := hidQ hl
       clear hT hkf hl hbad hc EI ES hi hz0 hz1 hz2 hall
       go_enter Try.func8, Try.ntmps8
       go_upto_region 1 with fail
       rw [← hW0]
       clear hW0
       go_wp2_with fail
       refine (kG _).mono ?_
       rintro e u1 ⟨rfl, b1⟩
       have HB1 := hidQ b1
       clear kG b1 x0 x1
       have W1 := hidQ (BW.out.trans (HB1.out.mono BW.out.size))
       have j0 : J1 u1 u1.heap.size (Q.lenAt tasks) 0 0 (.slice none 0 0) (.slice none 0 0) (fun _ => 0) (u1.alloc (.cells #[.bool true, .bool false, .int .i64 0, .slice none 0 0, .slice none 0 0, .int .i64 0, .int .i64 0, .int .i64 0, .int .i64 0, .int .i64 0, .slice none 0 0] 32)) :=
        ⟨⟨Cls.new u1 _ _, World.ownsRow_nil _ _ _ _, World.ownsRow_nil _ _ _ _, World.ownsRow_nil _ _ _ _, (Below.refl _ _).alloc (Nat.le_refl _) _⟩, fun t ht => by omega, fun t t' ht => by omega⟩
       have J0 := hidQ j0
       clear j0
       go_wp2_with fail
       go_loopw [37] (fun i wr => ∃ (k : Nat) (tv ov : Value) (ob : Nat → Nat), k ≤ kb ∧ i = .int .i64 k ∧ J1 u1 u1.heap.size (Q.lenAt tasks) k k tv ov ob wr) (fun i _ => n - (intOf i).toNat)
       case atStart => exact ⟨0, _, _, _, by omega, rfl, J0.out⟩
       case round =>
        obtain ⟨k, tv, ov, ob, hk, rfl, j1⟩ := hrel
        have JJ := hidQ j1
        have bl := j1.1.2.2.2.2
        have BL := hidQ bl
        have hlt : k < n := by omega
        obtain ⟨b', off, rfl, hc⟩ := HT.out (by omega)
        obtain ⟨h1, h2, h3⟩ := hc k (by omega)
        have wwr : Below w.heap.size w wr := W1.out.trans (bl.mono W1.out.size)
        have e1 := (wwr.cell (p := ⟨b', off + k, none⟩) h3).trans h1
        have KR := hidQ (fun (v : World) (hv : Below wr.heap.size wr v) i (hi : i < Q.lenAt tasks k) => show ∃ xb xo, kx k = some ⟨xb, xo, none⟩ ∧ v.cell? ⟨xb, xo + i * 2, none⟩ = some (.int .i64 (Q.keyAt tasks k i).1) ∧ v.cell? ⟨xb, xo + i * 2 + 1, none⟩ = some (.int .i64 (Q.keyAt tasks k i).2) from by
         have ki := keysIn_of (w := wr) (base := wr.heap.size) (tasks := tasks) (kx := kx) (fun t ht => (hc t (by omega)).2.1.below wwr) (fun t b2' off' ht h0 e => by
          obtain ⟨b2, off2, e2, hb2, _⟩ := (hc t (by omega)).2.1 h0
          rw [e] at e2; simp at e2; have := wwr.size; omega)
         obtain ⟨xb, xo, e, hb, c0, c1⟩ := ki k i (by omega) hi
         exact ⟨xb, xo, e, (hv.cell (p := ⟨xb, _, none⟩) hb).trans c0, (hv.cell (p := ⟨xb, _, none⟩) hb).trans c1⟩)
        by_cases hok : tOk (tasks.getD k []) = true
        · skip
          have kok' := hidQ (show ∀ i, i < Q.lenAt tasks k → keyOk (Q.keyAt tasks k i).1 (Q.keyAt tasks k i).2 from fun i hi => (tOk_keys.1 hok).2 i hi)
          have l60 : Q.lenAt tasks k ≤ 60 := (tOk_keys.1 hok).1
          have hkk : k ≠ kb := fun e => by rw [e, HKF.out] at hok; cases hok
          clear hok
          have mk := hidQ (hmkI.out (Q.lenAt tasks k) (by omega))
          have HLN := hidQ (rfl : Q.lenAt tasks k = Q.lenAt tasks k)
          obtain ⟨ln, hln⟩ : ∃ ln, ln = Q.lenAt tasks k := ⟨_, rfl⟩
          rw [← hln] at e1 l60 mk KR kok'
          have f60 : ¬ (60 : Int) < (ln : Int) := by omega
          have f60' : decide ((60 : Int) < (ln : Int)) = false := decide_eq_false f60
          have HN := hidQ hln
          clear hln hc h1 h2 h3 bl j1 wwr HLN
          go_wp2_with fail
          go_loopw [47] (fun i wq => ∃ j : Nat, j ≤ ln ∧ i = .int .i64 j ∧ Below wr.heap.size wr wq) (fun i _ => ln - (intOf i).toNat)
          case atStart => exact ⟨0, by omega, rfl, Below.refl _ _⟩
          case round =>
           rename World => wq
           obtain ⟨j, hj, rfl, hbq⟩ := hrel
           have HBQ := hidQ hbq
           by_cases hjl : j < ln
           · obtain ⟨xb, xo, ex, c0, c1⟩ := KR.out wq hbq j hjl
             have ck := kok'.out j hjl
             have kK := fun v : World => skey_any (Q.keyAt tasks k j).1 (Q.keyAt tasks k j).2 v
             rw [decide_eq_true ck] at kK
             have fj : IntKind.i64.wrap ((j : Int) + 1) = (j : Int) + 1 := by simp only [IntKind.wrap_i64]; omega
             generalize Q.keyAt tasks k j = kk at c0 c1 kK
             rw [ex] at *
             clear hbq ck
             go_wp2_with fail
             refine (kK _).mono ?_
             rintro e v ⟨rfl, hv⟩
             go_wp2_with fail
             go_roundw
             case rel =>
              refine ⟨j + 1, by omega, by simp, ?_⟩
              have ba := HBQ.out.alloc HBQ.out.size (.cells #[.int .i64 kk.1, .int .i64 kk.2] 36)
              exact ba.trans (hv.mono ba.size)
             case measure => simp [intOf]; omega
           · have hjn : j = ln := by omega
             clear hbq
             have jq := JJ.out.below HBQ.out
             have HJQ := hidQ jq
             obtain ⟨⟨hC, ht, ho, hv, hb⟩, hob⟩ := jq
             obtain ⟨ta', tc', rfl⟩ := own_any ht
             obtain ⟨oa', oc', rfl⟩ := own_any ho
             have hC2 : Cls wq u1.heap.size #[.bool true, .bool false, .int .i64 0, .slice ta' k tc', .slice oa' k oc', .int .i64 0, .int .i64 0, .int .i64 0, .int .i64 0, .int .i64 0, .slice none 0 0] 32 := hC
             have q3 := hC2.cell 3 rfl
             have bU1 : Below wq.heap.size wq (wq.alloc (.cells #[.int .i64 0] 3)) := (Below.refl _ _).alloc (Nat.le_refl _) _
             have uU := hidQ (own_tn ht (Tn.below (fun _ => False) bU1) (fun _ _ h => h))
             have nT := hidQ (own_ty ht (Bf.cls hC) (by decide))
             have cU := hidQ (hC2.below bU1)
             have BU1 := hidQ bU1
             have hbs := hb.size
             clear ht ho hv hb hob hC hC2 bU1
             go_wp2_with (at_builtin; refine ap_list HEI.out rfl _ _ rfl _ u1.heap.size (.slice ta' k tc') k ((List.range k).map fun t => .int .i64 ((0 : Nat) : Int)) rfl uU.out wq.heap.size 1 rfl (.int .i64 0) ?c1 ?c2 ?c3 ?c4 ?_)
             case c2 => rfl
             case c3 => omega
             case c4 => omega
             intro g cap w1 own1 t1 at1 lt1
             have c1 : Cls w1 u1.heap.size #[.bool true, .bool false, .int .i64 0, .slice ta' k tc', .slice oa' k oc', .int .i64 0, .int .i64 0, .int .i64 0, .int .i64 0, .int .i64 0, .slice none 0 0] 32 := (t1.block _ cU.out.lt nT.out).trans cU.out
             have p3 := c1.cell 3 rfl
             have pf := c1.frozen 3
             have J5 := hidQ (J1.step5 HJQ.out BU1.out t1 own1 (at1.imp id (fun h => by rw [h]; simp)) (Nat.le_refl _))
             clear c1 own1 t1 at1 q3 uU nT cU BU1 hbs HJQ
             go_upto_region 16 with fail
             obtain ⟨wy, hwy⟩ : ∃ wy, wy = w1.setCell ⟨u1.heap.size, 3, none⟩ (.slice (some ⟨g, 0, none⟩) (k + 1) cap) := ⟨_, rfl⟩
             rw [← hwy] at J5 ⊢
             clear hwy
             have j5 := J5.out
             obtain ⟨⟨hC, ht, ho, hv, hb⟩, hob⟩ := j5
             have hC2 : Cls wy u1.heap.size #[.bool true, .bool false, .int .i64 0, .slice (some ⟨g, 0, none⟩) (k + 1) cap, .slice oa' k oc', .int .i64 0, .int .i64 0, .int .i64 0, .int .i64 0, .int .i64 0, .slice none 0 0] 32 := hC
             have mkv := mk.out
             have q4 := hC2.cell 4 rfl
             have bA : Below wy.heap.size wy (wy.alloc (.cells (madeCells #[.int .i64 0] ln) 3)) := (Below.refl _ _).alloc (Nat.le_refl _) _
             have q4a := (hC2.below bA).cell 4 rfl
             have bB : Below wy.heap.size wy ((wy.alloc (.cells (madeCells #[.int .i64 0] ln) 3)).alloc (.cells #[.slice (some ⟨wy.heap.size, 0, none⟩) ln ln] 26)) := bA.alloc bA.size _
             have q4b := (hC2.below bB).cell 4 rfl
             obtain ⟨U, hU⟩ : ∃ U, U = ((wy.alloc (.cells (madeCells #[.int .i64 0] ln) 3)).alloc (.cells #[.slice (some ⟨wy.heap.size, 0, none⟩) ln ln] 26)).drew := ⟨_, rfl⟩
             have bU : Below wy.heap.size wy U := by rw [hU]; exact bB.drew
             have uU : U.ownsRow u1.heap.size 26 1 (.slice oa' k oc') k ((List.range k).map fun t => .slice (some ⟨ob t, 0, none⟩) (Q.lenAt tasks t) (Q.lenAt tasks t)) := own_tn ho (Tn.below (fun _ => False) bU) (fun _ _ h => h)
             have cU := hC2.below bU
             have nO := own_ty ho (Bf.cls hC) (by decide)
             have nI : Bf U wy.heap.size 3 ln (fun _ => .int .i64 0) := by rw [hU]; exact out_new wy ln _
             have xU : U.cell? ⟨wy.heap.size + 1, 0, none⟩ = some (.slice (some ⟨wy.heap.size, 0, none⟩) ln ln) := by rw [hU]; simp [go_sem]
             have hbs : u1.heap.size ≤ U.heap.size := Nat.le_trans hb.size bU.size
             have HU := hidQ hU
             have f1 : IntKind.i64.wrap ((k : Int) + 1) = (k : Int) + 1 := by simp only [IntKind.wrap_i64]; omega
             have AFT := hidQ (fun (g1 cap1 : Nat) (w1 : World) (own1 : w1.ownsRow u1.heap.size 26 1 (.slice (some ⟨g1, 0, none⟩) (k + 1) cap1) (k + 1) (((List.range k).map fun t => .slice (some ⟨ob t, 0, none⟩) (Q.lenAt tasks t) (Q.lenAt tasks t)) ++ [.slice (some ⟨wy.heap.size, 0, none⟩) ln ln])) (t1 : Tn (fun k' => Value.ownBlock (.slice oa' k oc') = some k') U w1) =>
              show (w1.cell? ⟨u1.heap.size, 4, none⟩ = some (.slice oa' k oc') ∧ w1.frozen? ⟨u1.heap.size, 4, none⟩ = false) ∧ J1 u1 u1.heap.size (Q.lenAt tasks) (k + 1) (k + 1) (.slice (some ⟨g, 0, none⟩) (k + 1) cap) (.slice (some ⟨g1, 0, none⟩) (k + 1) cap1) (fun t => if t = k then wy.heap.size else ob t) (w1.setCell ⟨u1.heap.size, 4, none⟩ (.slice (some ⟨g1, 0, none⟩) (k + 1) cap1)) from by
               have c1 : Cls w1 u1.heap.size #[.bool true, .bool false, .int .i64 0, .slice (some ⟨g, 0, none⟩) (k + 1) cap, .slice oa' k oc', .int .i64 0, .int .i64 0, .int .i64 0, .int .i64 0, .int .i64 0, .slice none 0 0] 32 := (t1.block _ cU.lt nO).trans cU
               refine ⟨⟨c1.cell 4 rfl, c1.frozen 4⟩, ?_⟩
               have e := HN.out
               rw [e] at nI own1
               exact J1.step6 J5.out bU t1 (Nat.le_refl _) nI own1 (Nat.le_refl _))
             clear ht ho hv hb hC hC2 hU hob bA bB cU nO nI bU
             go_region_law (refine ap_step HES.out rfl _ _ rfl _ u1.heap.size (.slice oa' k oc') k _ (by simp [Act.eval]) (by with_reducible exact HU.out ▸ uU) (wy.heap.size + 1) 1 (by simp [Act.eval]) (.slice (some ⟨wy.heap.size, 0, none⟩) ln ln) (HU.out ▸ xU) rfl (by omega) (HU.out ▸ hbs) ?_; intro g1 cap1 w1 own1 t1 at1 lt1; obtain ⟨⟨x7, x8⟩, fin⟩ := AFT.out g1 cap1 w1 own1 (HU.out ▸ t1); have FIN := hidQ fin; clear fin)
             all_goals go_wp2_with fail
             all_goals exact ⟨⟨k + 1, _, _, _, by omega, by simp, FIN.out⟩, by simp [intOf]; omega⟩
        · have hl0 : ¬ tOk (tasks.getD k []) = true := hok
          have ll := HLL.out k
          by_cases l60 : Q.lenAt tasks k ≤ 60
          · obtain ⟨jb, hjb, hkbad⟩ : ∃ jb, jb < Q.lenAt tasks k ∧ ¬ keyOk (Q.keyAt tasks k jb).1 (Q.keyAt tasks k jb).2 := by
             refine Classical.byContradiction fun hx => hl0 (tOk_keys.2 ⟨l60, fun i hi => Classical.byContradiction fun h => hx ⟨i, hi, h⟩⟩)
            obtain ⟨ln, hln⟩ : ∃ ln, ln = Q.lenAt tasks k := ⟨_, rfl⟩
            rw [← hln] at e1 l60 KR hjb ll
            have f60 : ¬ (60 : Int) < (ln : Int) := by omega
            have f60' : decide ((60 : Int) < (ln : Int)) = false := decide_eq_false f60
            have HKB := hidQ hkbad
            clear hln hc h1 h2 h3 bl j1 wwr hok hl0 hkbad
            go_wp2_with fail
            go_loopw [47] (fun i wq => ∃ j : Nat, j ≤ jb ∧ i = .int .i64 j ∧ Below wr.heap.size wr wq) (fun i _ => ln - (intOf i).toNat)
            case atStart => exact ⟨0, by omega, rfl, Below.refl _ _⟩
            case round =>
             rename World => wq
             obtain ⟨j, hj, rfl, hbq⟩ := hrel
             have HBQ := hidQ hbq
             have hjl : j < ln := by omega
             obtain ⟨xb, xo, ex, c0, c1⟩ := KR.out wq hbq j hjl
             have kK := fun v : World => skey_any (Q.keyAt tasks k j).1 (Q.keyAt tasks k j).2 v
             have fj : IntKind.i64.wrap ((j : Int) + 1) = (j : Int) + 1 := by simp only [IntKind.wrap_i64]; omega
             by_cases ck : keyOk (Q.keyAt tasks k j).1 (Q.keyAt tasks k j).2
             · have hjne : j ≠ jb := fun e => HKB.out (e ▸ ck)
               rw [decide_eq_true ck] at kK
               generalize Q.keyAt tasks k j = kk at c0 c1 kK
               rw [ex] at *
               clear hbq ck
               go_wp2_with fail
               refine (kK _).mono ?_
               rintro e v ⟨rfl, hv⟩
               go_wp2_with fail
               go_roundw
               case rel =>
                refine ⟨j + 1, by omega, by simp, ?_⟩
                have ba := HBQ.out.alloc HBQ.out.size (.cells #[.int .i64 kk.1, .int .i64 kk.2] 36)
                exact ba.trans (hv.mono ba.size)
               case measure => simp [intOf]; omega
             · rw [decide_eq_false ck] at kK
               generalize Q.keyAt tasks k j = kk at c0 c1 kK
               rw [ex] at *
               clear hbq ck
               go_wp2_with fail
               refine (kK _).mono ?_
               rintro e v ⟨rfl, hv⟩
               have ba := HBQ.out.alloc HBQ.out.size (.cells #[.int .i64 kk.1, .int .i64 kk.2] 36)
               have bv := ba.trans (hv.mono ba.size)
               have b1v : Below u1.heap.size u1 v := BL.out.trans (bv.mono BL.out.size)
               obtain ⟨zc, bf⟩ := FIN.out v (HB1.out.trans (b1v.mono HB1.out.size))
               clear ba bv hv
               have z0 := zc.cell 0 rfl; have z1 := zc.cell 1 rfl; have z2 := zc.cell 2 rfl; have z3 := zc.cell 3 rfl; have z4 := zc.cell 4 rfl; have z5 := zc.cell 5 rfl; have z6 := zc.cell 6 rfl; have z7 := zc.cell 7 rfl; have z8 := zc.cell 8 rfl; have z9 := zc.cell 9 rfl; have z10 := zc.cell 10 rfl
               have zf := zc.frozen
               clear zc
               go_wp2_with fail
               refine bodyPost_ret (v := .agg zrp) (by simp [results, Try.results8, go_sem, zrp, z0, z1, z2, z3, z4, z5, z6, z7, z8, z9, z10]) rfl ⟨rfl, below11 bf (by omega) _ _ _ _ _ _ _ _ _ _ _⟩
          · have f60 : (60 : Int) < (Q.lenAt tasks k : Int) := by omega
            obtain ⟨zc, bf⟩ := FIN.out wr (HB1.out.trans (bl.mono HB1.out.size))
            clear hc h1 h2 h3 bl j1 wwr hok hl0
            have z0 := zc.cell 0 rfl; have z1 := zc.cell 1 rfl; have z2 := zc.cell 2 rfl; have z3 := zc.cell 3 rfl; have z4 := zc.cell 4 rfl; have z5 := zc.cell 5 rfl; have z6 := zc.cell 6 rfl; have z7 := zc.cell 7 rfl; have z8 := zc.cell 8 rfl; have z9 := zc.cell 9 rfl; have z10 := zc.cell 10 rfl
            have zf := zc.frozen
            clear zc
            go_wp2_with fail
            refine bodyPost_ret (v := .agg zrp) (by simp [results, Try.results8, go_sem, zrp, z0, z1, z2, z3, z4, z5, z6, z7, z8, z9, z10]) rfl ⟨rfl, below11 bf (by omega) _ _ _ _ _ _ _ _ _ _ _⟩
     · have f0 : (20000 : Int) < (pn : Int) := by omega
       clear hT hbad hl hc
       go_enter Try.func8, Try.ntmps8
       go_upto_region 1 with fail
       rw [← hW0]
       clear hW0
       go_wp2_with fail
       refine (kG _).mono ?_
       rintro e u2 ⟨rfl, b1⟩
       obtain ⟨zc, bf⟩ := FIN.out u2 b1
       have z0 := zc.cell 0 rfl; have z1 := zc.cell 1 rfl; have z2 := zc.cell 2 rfl; have z3 := zc.cell 3 rfl; have z4 := zc.cell 4 rfl; have z5 := zc.cell 5 rfl; have z6 := zc.cell 6 rfl; have z7 := zc.cell 7 rfl; have z8 := zc.cell 8 rfl; have z9 := zc.cell 9 rfl; have z10 := zc.cell 10 rfl
       have zf := zc.frozen
       clear zc
       go_wp2_with fail
       refine bodyPost_ret (v := .agg zrp) (by simp [results, Try.results8, go_sem, zrp, z0, z1, z2, z3, z4, z5, z6, z7, z8, z9, z10]) rfl ⟨rfl, below11 bf (by omega) _ _ _ _ _ _ _ _ _ _ _⟩
   · have f8 : (8 : Int) < (n : Int) := by omega
     clear hT hbad hl hc
     go_enter Try.func8, Try.ntmps8
     go_upto_region 1 with fail
     rw [← hW0]
     clear hW0
     go_wp2_with fail
     refine (kG _).mono ?_
     rintro e u2 ⟨rfl, b1⟩
     obtain ⟨zc, bf⟩ := FIN.out u2 b1
     have z0 := zc.cell 0 rfl; have z1 := zc.cell 1 rfl; have z2 := zc.cell 2 rfl; have z3 := zc.cell 3 rfl; have z4 := zc.cell 4 rfl; have z5 := zc.cell 5 rfl; have z6 := zc.cell 6 rfl; have z7 := zc.cell 7 rfl; have z8 := zc.cell 8 rfl; have z9 := zc.cell 9 rfl; have z10 := zc.cell 10 rfl
     have zf := zc.frozen
     clear zc
     go_wp2_with fail
     refine bodyPost_ret (v := .agg zrp) (by simp [results, Try.results8, go_sem, zrp, z0, z1, z2, z3, z4, z5, z6, z7, z8, z9, z10]) rfl ⟨rfl, below11 bf (by omega) _ _ _ _ _ _ _ _ _ _ _⟩
 · rw [decide_eq_false hc] at kG
   clear hc hT hbad hl
   go_enter Try.func8, Try.ntmps8
   go_upto_region 1 with fail
   rw [← hW0]
   clear hW0
   go_wp2_with fail
   refine (kG _).mono ?_
   rintro e u2 ⟨rfl, b1⟩
   obtain ⟨zc, bf⟩ := FIN.out u2 b1
   have z0 := zc.cell 0 rfl; have z1 := zc.cell 1 rfl; have z2 := zc.cell 2 rfl; have z3 := zc.cell 3 rfl; have z4 := zc.cell 4 rfl; have z5 := zc.cell 5 rfl; have z6 := zc.cell 6 rfl; have z7 := zc.cell 7 rfl; have z8 := zc.cell 8 rfl; have z9 := zc.cell 9 rfl; have z10 := zc.cell 10 rfl
   have zf := zc.frozen
   clear zc
   go_wp2_with fail
   refine bodyPost_ret (v := .agg zrp) (by simp [results, Try.results8, go_sem, zrp, z0, z1, z2, z3, z4, z5, z6, z7, z8, z9, z10]) rfl ⟨rfl, below11 bf (by omega) _ _ _ _ _ _ _ _ _ _ _⟩

end Go.Proofs.Ytdpbhbpcpnlbkaa
