import Derived.Test.YtfdgkleoaehjaaaGreatDoorsGAS
set_option maxHeartbeats 4000000
namespace Go.Proofs.YtfdgkleoaehjaaaGreatDoor
open Go.RowKit
set_option linter.unusedVariables false
set_option maxRecDepth 100000
theorem uU (g B : Nat) (sn : M.Sn) (v : World) (h : SnR v g B sn) (h1 : sn.digits.length <= 1000) (h2 : sn.behind <= 1000) (h3 : sn.exponent <= 1000000) (hx : ∀ x ∈ sn.digits, x < 256) :
 Calls Tryz.prog 124 #[.pointer (some ⟨g, 0, none⟩)] v fun e v' => ∃ x, e = .returned (oZ sn.dec x) /\ OwnV v' B x sn.dec.digits /\ Below v.heap.size v v' := by
 obtain ⟨hgB, hBv, a, cap, hC, hO⟩ := h;have hV := OwnV.of_own hO hx;have hgv := hC.lt;have b1 : Below v.heap.size v (v.alloc (.cells eF 32)) := (Below.refl _ _).alloc (Nat.le_refl _) _;have C1 := hC.below b1;have R1 : Cls (v.alloc (.cells eF 32)) v.heap.size eF 32 := Cls.new _ _ _;have V1 := hV.below b1;have c0 := C1.cell 0 (x := .bool sn.neg) rfl;have c1 := C1.cell 1 (x := .slice a sn.digits.length cap) rfl;have c2 := C1.cell 2 (x := .int .i64 (sn.behind : Int)) rfl;have c3 := C1.cell 3 (x := .bool sn.expNeg) rfl;have c4 := C1.cell 4 (x := .int .i64 (sn.exponent : Int)) rfl;have hdec : sn.dec = ⟨1, sn.neg, M.bH sn.digits, M.hH sn.digits ((if sn.expNeg then -(sn.exponent : Int) else sn.exponent) - sn.behind)⟩ := rfl;have HD := hid hdec;have hsz : (v.alloc (.cells eF 32)).heap.size = v.heap.size + 1 := by simp
 have V1H := hid V1; have R1H := hid R1; have B1H := hid b1; have HSZ := hid hsz;have HV0 := hid hV.bv;clear V1 R1 b1 hdec hsz hV C1;go_enter Tryz.func124, Tryz.ntmps124
 cases hen : sn.expNeg with
 | false =>
   rw [hen] at c3 HD;go_wp2_with fail
   go_quiet ((go_at_call 146; exact Calls.quiet_of_same (vG B a sn.digits.length cap sn.digits ((sn.exponent : Int) - sn.behind) _ rfl (by omega) (by omega) (V1H.out.below (below_drewN (Below.refl _ _) _)))))
   have bq : Below (v.alloc (.cells eF 32)).heap.size (v.alloc (.cells eF 32)) ((v.alloc (.cells eF 32)).drewN nq) := below_drewN (Below.refl _ _) nq;have V2 := V1H.out.bv.below bq;have R2 := R1H.out.below bq;have B2 := B1H.out.trans (bq.mono B1H.out.size);have C2 := (hC.below B1H.out).below bq;generalize (v.alloc (.cells eF 32)).drewN nq = w2 at *;obtain ⟨a2, c2', e2, hv2⟩ := V2;rw [e2];have HE2 := hid e2;have d0 := C2.cell 0 (x := .bool sn.neg) rfl;have y0 := R2.cell 0 (x := .int .i64 0) rfl;have y1 := R2.cell 1 (x := .bool false) rfl;have y2 := R2.cell 2 (x := .slice none 0 0) rfl;have y3 := R2.cell 3 (x := .int .i64 0) rfl;have f0 := R2.frozen 0;have f1 := R2.frozen 1;have f2 := R2.frozen 2;have f3 := R2.frozen 3;have hne : ¬ g = v.heap.size := by omega
   have hne' : ¬ v.heap.size = g := by omega
   have HR2 := hid R2; have HB2 := hid B2;clear R2 B2 C2 hv2 e2 bq c0 c1 c2 c3 c4 hC hO;obtain ⟨xe, hxe⟩ : ∃ xe, xe = M.hH sn.digits ((sn.exponent : Int) - (sn.behind : Int)) := ⟨_, rfl⟩;rw [<- hxe];have HXE := hid hxe; clear hxe;go_wp2_with fail;have R9 := nC HR2.out rfl (.int .i64 1) (.bool sn.neg) (.slice a2 (M.bH sn.digits).length c2') (.int .i64 xe);have H9 := fD HB2.out (.int .i64 1) (.bool sn.neg) (.slice a2 (M.bH sn.digits).length c2') (.int .i64 xe);have O9 := HV0.out.below H9;generalize ((((w2.setCell ⟨v.heap.size, 0, none⟩ (.int .i64 1)).setCell ⟨v.heap.size, 1, none⟩ (.bool sn.neg)).setCell ⟨v.heap.size, 2, none⟩ (.slice a2 (M.bH sn.digits).length c2')).setCell ⟨v.heap.size, 3, none⟩ (.int .i64 xe)) = w9 at R9 H9 O9 |-;have z0 := R9.cell 0 (x := .int .i64 1) rfl;have z1 := R9.cell 1 (x := .bool sn.neg) rfl;have z2 := R9.cell 2 (x := .slice a2 (M.bH sn.digits).length c2') rfl;have z3 := R9.cell 3 (x := .int .i64 xe) rfl;refine bodyPost_ret (v := .agg #[.int .i64 1, .bool sn.neg, .slice a2 (M.bH sn.digits).length c2', .int .i64 xe]) (by simp [results, Tryz.results124, go_sem, z0, z1, z2, z3]) rfl ?_;rw [HE2.out] at O9;rw [HD.out];exact ⟨_, by rw [HXE.out]; rfl, O9, H9⟩
 | true =>
   rw [hen] at c3 HD;go_wp2_with fail
   go_quiet ((go_at_call 146; exact Calls.quiet_of_same (vG B a sn.digits.length cap sn.digits (-(sn.exponent : Int) - sn.behind) _ rfl (by omega) (by omega) (V1H.out.below (below_drewN (Below.refl _ _) _)))))
   have bq : Below (v.alloc (.cells eF 32)).heap.size (v.alloc (.cells eF 32)) ((v.alloc (.cells eF 32)).drewN nq) := below_drewN (Below.refl _ _) nq;have V2 := V1H.out.bv.below bq;have R2 := R1H.out.below bq;have B2 := B1H.out.trans (bq.mono B1H.out.size);have C2 := (hC.below B1H.out).below bq;generalize (v.alloc (.cells eF 32)).drewN nq = w2 at *;obtain ⟨a2, c2', e2, hv2⟩ := V2;rw [e2];have HE2 := hid e2;have d0 := C2.cell 0 (x := .bool sn.neg) rfl;have y0 := R2.cell 0 (x := .int .i64 0) rfl;have y1 := R2.cell 1 (x := .bool false) rfl;have y2 := R2.cell 2 (x := .slice none 0 0) rfl;have y3 := R2.cell 3 (x := .int .i64 0) rfl;have f0 := R2.frozen 0;have f1 := R2.frozen 1;have f2 := R2.frozen 2;have f3 := R2.frozen 3;have hne : ¬ g = v.heap.size := by omega
   have hne' : ¬ v.heap.size = g := by omega
   have HR2 := hid R2; have HB2 := hid B2;clear R2 B2 C2 hv2 e2 bq c0 c1 c2 c3 c4 hC hO;obtain ⟨xe, hxe⟩ : ∃ xe, xe = M.hH sn.digits (-(sn.exponent : Int) - (sn.behind : Int)) := ⟨_, rfl⟩;rw [<- hxe];have HXE := hid hxe; clear hxe;go_wp2_with fail;have R9 := nC HR2.out rfl (.int .i64 1) (.bool sn.neg) (.slice a2 (M.bH sn.digits).length c2') (.int .i64 xe);have H9 := fD HB2.out (.int .i64 1) (.bool sn.neg) (.slice a2 (M.bH sn.digits).length c2') (.int .i64 xe);have O9 := HV0.out.below H9;generalize ((((w2.setCell ⟨v.heap.size, 0, none⟩ (.int .i64 1)).setCell ⟨v.heap.size, 1, none⟩ (.bool sn.neg)).setCell ⟨v.heap.size, 2, none⟩ (.slice a2 (M.bH sn.digits).length c2')).setCell ⟨v.heap.size, 3, none⟩ (.int .i64 xe)) = w9 at R9 H9 O9 |-;have z0 := R9.cell 0 (x := .int .i64 1) rfl;have z1 := R9.cell 1 (x := .bool sn.neg) rfl;have z2 := R9.cell 2 (x := .slice a2 (M.bH sn.digits).length c2') rfl;have z3 := R9.cell 3 (x := .int .i64 xe) rfl;refine bodyPost_ret (v := .agg #[.int .i64 1, .bool sn.neg, .slice a2 (M.bH sn.digits).length c2', .int .i64 xe]) (by simp [results, Tryz.results124, go_sem, z0, z1, z2, z3]) rfl ?_;rw [HE2.out] at O9;rw [HD.out];exact ⟨_, by rw [HXE.out]; rfl, O9, H9⟩

theorem uD (bs ws : List Nat) (p : Nat) (h1 : p < bs.length) (h2 : p < ws.length) : M.aI (bs.drop p) (ws.drop p) = if M.low (bs.getD p 0) = ws.getD p 0 then M.aI (bs.drop (p + 1)) (ws.drop (p + 1)) + 1 else 0 := by
 rw [jZ bs p h1, jZ ws p h2, M.aI]

theorem l9 (s t : ByteArray) (w : World) (hs : s.size <= 800) (ht : t.size <= 100) (hw : ∀ x ∈ aV t, x < 128) (k : Nat) (hk : k = M.aI (aV s) (aV t)) :
 Calls Tryz.prog 145 #[.string s, .string t] w fun e w' => e = .returned (.int .i64 (k : Int)) /\ Below w.heap.size w w' := by
 have HK := hid hk; clear hk;have hl := iP s;have hl2 := iP t;go_enter Tryz.func145, Tryz.ntmps145;go_wp2_with fail
 go_loopw [4] (fun _ wr => ∃ (pos : Nat), wr.heap[w.heap.size]? = some (.stringIter s pos) /\ pos <= s.size /\ pos <= t.size /\ Below w.heap.size w wr /\ k = pos + M.aI ((aV s).drop pos) ((aV t).drop pos)) (fun _ wr => s.size - World.iterPos wr w.heap.size)
 case atStart => exact ⟨0, World.iter_heap w s 0, by omega, by omega, (Below.refl _ _).alloc (Nat.le_refl _) _, by rw [List.drop_zero, List.drop_zero, Nat.zero_add]; exact HK.out⟩
 case round =>
  rename World => wr
  obtain ⟨pos, hit, hps, hpt, hB, hC⟩ := hrel;have hpos0 := iterPos_of hit
  by_cases hp : pos < s.size
  . obtain ⟨l, p', hnx, hlm, hll⟩ := nT wr w.heap.size s pos hit hp;have hit2 := Lib.iterAt_heap wr w.heap.size s pos p' hit;have hB2 := Lib.below_iterAt hB (k := w.heap.size) (Nat.le_refl _) s p';obtain ⟨W1, hW1⟩ : ∃ W1, W1 = wr.iterAt w.heap.size s p' := ⟨_, rfl⟩;rw [<- hW1] at hnx hit2 hB2;clear hW1 hit hB;have HN := hid hnx
    by_cases hq : pos < t.size
    . have hbz : ((pos : Int) == (t.size : Int)) = false := by rw [beq_eq_false_iff_ne]; omega
      have hst := uD (aV s) (aV t) pos (by omega) (by omega);have hg := uY t pos hq;have hx128 : (aV t).getD pos 0 < 128 := M.aZ (by omega) hw pos
      have kS := fun (u : World) => jB l hlm u _ rfl
      rw [hst] at hC
      have hlow : M.low l = (aV t).getD pos 0 ↔ M.low ((aV s).getD pos 0) = (aV t).getD pos 0 := by
       rcases hll with ⟨_, e, _⟩ | ⟨e1, e2, _⟩
       . rw [e]
       . have q1 : M.low l = l := by unfold M.low; rw [if_neg (by omega)]
         have q2 : M.low ((aV s).getD pos 0) = (aV s).getD pos 0 := by unfold M.low; rw [if_neg (by omega)]
         omega
      have hp' : M.low l = (aV t).getD pos 0 -> p' = pos + 1 := by
       intro q;rcases hll with ⟨_, _, e⟩ | ⟨e1, e2, _⟩
       . exact e
       . have q1 : M.low l = l := by unfold M.low; rw [if_neg (by omega)]
         omega
      rw [hg] at hlow hp' hC;have HC := hid hC; have HB2 := hid hB2; have HIT2 := hid hit2; have HLW := hid hlow; have HP' := hid hp'; have HP := hid hp;clear hC hB2 hit2 hlow hp' hll hst hg hx128 hnx;have hnx := HN.out
      by_cases heq : M.low l = (t[pos]'hq).toNat
      . have heq' : ((M.low l : Int) == ((t[pos]'hq).toNat : Int)) = true := by rw [beq_iff_eq]; omega
        have hpp := HP'.out heq;have hk2 : k = (pos + 1) + M.aI ((aV s).drop (pos + 1)) ((aV t).drop (pos + 1)) := by rw [HC.out, if_pos (HLW.out.1 heq)]; omega
        have HK2 := hid hk2; have HPP := hid hpp;clear heq hk2 hpp;go_wp2_with fail
        go_quiet ((go_at_call 144; exact Calls.quiet_of_same (kS _)))
        have hw32 : wrap32 ((t[pos]'hq).toNat : Int) = ((t[pos]'hq).toNat : Int) := by have := (t[pos]'hq).toNat_lt; simp only [wrap32]; omega
        have hne : ((M.low l : Int) != wrap32 ((t[pos]'hq).toNat : Int)) = false := by rw [hw32, bne, heq']; rfl
        rw [hne];have bq : Below W1.heap.size W1 (W1.drewN nq) := below_drewN (Below.refl _ _) nq;have HB3 := hid (HB2.out.trans (bq.mono HB2.out.size));have HIT3 : Hid ((W1.drewN nq).heap[w.heap.size]? = some (.stringIter s p')) := hid ((bq.block _ (lt_of_block HIT2.out)).trans HIT2.out);generalize W1.drewN nq = W2 at *;clear bq hne hw32 heq' kS;go_wp2_with fail;go_roundw
        case rel => exact ⟨pos + 1, by rw [<- HPP.out]; exact HIT3.out, HP.out, by omega, HB3.out, HK2.out⟩
        case measure => rw [iterPos_of HIT3.out, hpos0, HPP.out]; have := HP.out; omega
      . have heq' : ((M.low l : Int) == ((t[pos]'hq).toNat : Int)) = false := by rw [beq_eq_false_iff_ne]; omega
        have hk2 : k = pos := by rw [HC.out, if_neg (fun e => heq (HLW.out.2 e))]; rfl
        have HK2 := hid hk2;clear heq hk2;go_wp2_with fail
        go_quiet ((go_at_call 144; exact Calls.quiet_of_same (kS _)))
        have hw32 : wrap32 ((t[pos]'hq).toNat : Int) = ((t[pos]'hq).toNat : Int) := by have := (t[pos]'hq).toNat_lt; simp only [wrap32]; omega
        have hne : ((M.low l : Int) != wrap32 ((t[pos]'hq).toNat : Int)) = true := by rw [hw32, bne, heq']; rfl
        rw [hne];have bq : Below W1.heap.size W1 (W1.drewN nq) := below_drewN (Below.refl _ _) nq;have HB3 := hid (HB2.out.trans (bq.mono HB2.out.size));have HIT3 : Hid ((W1.drewN nq).heap[w.heap.size]? = some (.stringIter s p')) := hid ((bq.block _ (lt_of_block HIT2.out)).trans HIT2.out);generalize W1.drewN nq = W2 at *;clear bq hne hw32 heq' kS;go_wp2_with fail;go_ret;exact ⟨by rw [HK2.out]; rfl, HB3.out⟩
    . have hbz : ((pos : Int) == (t.size : Int)) = true := by rw [beq_iff_eq]; omega
      have hC0 : k = pos := by
       rw [hC, show (aV t).drop pos = [] from List.drop_eq_nil_of_le (by omega)]
       cases (aV s).drop pos <;> rfl
      have HC := hid hC0; have HB2 := hid hB2;clear hC hB2 hit2 hll hC0;go_wp2_with fail
      go_quiet (fail)
      go_wp2_with fail;go_ret;exact ⟨by rw [HC.out]; rfl, below_drewN HB2.out _⟩
  . have hend : ∀ ty, (Instr.next (.pointer (some ⟨w.heap.size, 0, none⟩)) true ty).run Tryz.prog wr = .ok (.tuple #[.bool false]) wr := fun ty => Lib.run_next_end_at wr w.heap.size s pos ty hit hp
    have hC0 : k = s.size := by
     rw [hC, show (aV s).drop pos = [] from List.drop_eq_nil_of_le (by omega)]
     show pos + 0 = _
     omega
    have HC := hid hC0; have HB := hid hB;clear hC hB hit hC0;go_wp2_with fail;go_ret;exact ⟨by rw [HC.out]; rfl, HB.out⟩

def Wds (w : World) : Prop := 2 < w.heap.size /\ w.cell? ⟨2, 0, none⟩ = some (.string ⟨#[105, 110, 102]⟩) /\ w.cell? ⟨2, 1, none⟩ = some (.int .i64 2) /\
 w.cell? ⟨2, 2, none⟩ = some (.string ⟨#[105, 110, 102, 105, 110, 105, 116, 121]⟩) /\ w.cell? ⟨2, 3, none⟩ = some (.int .i64 2) /\ w.cell? ⟨2, 4, none⟩ = some (.string ⟨#[110, 97, 110]⟩) /\ w.cell? ⟨2, 5, none⟩ = some (.int .i64 3)

theorem Wds.below {w w' : World} (h : Wds w) (hb : Below w.heap.size w w') : Wds w' := by
 obtain ⟨h0, h1, h2, h3, h4, h5, h6⟩ := h
 have k := fun j => hb.cell (p := ⟨2, j, none⟩) h0
 exact ⟨Nat.lt_of_lt_of_le h0 hb.size, (k 0).trans h1, (k 1).trans h2, (k 2).trans h3, (k 3).trans h4, (k 4).trans h5, (k 5).trans h6⟩

theorem tH (s : ByteArray) (b : Nat) (h : b <= s.size) : aV (s.extract b s.size) = (aV s).drop b := by
 unfold aV;rw [ByteArray.data_extract, Array.toList_extract, <- List.map_drop]
 congr 1
 have : s.size = s.data.toList.length := by rw [Array.length_toList]; rfl
 rw [List.extract_eq_take_drop, List.take_of_length_le (by rw [List.length_drop]; omega)]

theorem nR (v w : List Nat) : (M.aI v w = v.length /\ M.aI v w = w.length) ↔ v.map M.low = w := by
 have h := M.cK v w
 constructor
 . rintro ⟨h1, h2⟩;have := h.1;rw [h2, List.take_length] at this;rw [<- this, <- h2, h1, List.take_length]
 . intro e;have hl : v.length = w.length := by rw [<- e, List.length_map]
   have := M.nE v w v.length (by rw [List.take_length, hl, List.take_length, e]) (Nat.le_refl _) (by omega);omega

abbrev nwV : Value := .agg #[.string ⟨#[105, 110, 102]⟩, .int .i64 2, .string ⟨#[105, 110, 102, 105, 110, 105, 116, 121]⟩, .int .i64 2, .string ⟨#[110, 97, 110]⟩, .int .i64 3]

theorem nw0 (u : World) : (Instr.index 189 nwV (.int .i64 0)).run Tryz.prog u = .ok (.agg #[.string ⟨#[105, 110, 102]⟩, .int .i64 2]) u := by kernel_rfl

theorem nw1 (u : World) : (Instr.index 189 nwV (.int .i64 1)).run Tryz.prog u = .ok (.agg #[.string ⟨#[105, 110, 102, 105, 110, 105, 116, 121]⟩, .int .i64 2]) u := by kernel_rfl

theorem nw2 (u : World) : (Instr.index 189 nwV (.int .i64 2)).run Tryz.prog u = .ok (.agg #[.string ⟨#[110, 97, 110]⟩, .int .i64 3]) u := by kernel_rfl

theorem lW {W v v' : World} {n : Nat} (h : Below n W v) (hb : Below v.heap.size v v') (hn : n <= v.heap.size) : Below n W v' := h.trans (hb.mono hn)

theorem tJ (s : ByteArray) (b : Nat) (ng : Bool) (w : World) (hs : s.size <= 800) (hb : b < s.size) (hW : Wds w) (o : M.Dec ⊕ Nat) (ho : o = M.dJ ((aV s).drop b) b ng) :
 Calls Tryz.prog 123 #[.string s, .int .i64 (b : Int), .bool ng] w fun e w' => JK w w' e o := by
 obtain ⟨h0, h1, h2, h3, h4, h5, h6⟩ := hW;have HO := hid ho; clear ho;have hvl : ((aV s).drop b).length = s.size - b := by rw [List.length_drop, iP]
 have hex := tH s b (by omega);have hexs : (s.extract b s.size).size <= 800 := by rw [<- iP, hex, hvl]; omega
 obtain ⟨v, hv⟩ : ∃ v, v = (aV s).drop b := ⟨_, rfl⟩;rw [<- hv] at hvl hex HO;clear hv
 have k0 := fun (u : World) => l9 (s.extract b s.size) ⟨#[105, 110, 102]⟩ u hexs (by decide) (by decide) (M.aI v M.fE) (by rw [hex]; rfl)
 have k1 := fun (u : World) => l9 (s.extract b s.size) ⟨#[105, 110, 102, 105, 110, 105, 116, 121]⟩ u hexs (by decide) (by decide) (M.aI v M.aH) (by rw [hex]; rfl)
 have k2 := fun (u : World) => l9 (s.extract b s.size) ⟨#[110, 97, 110]⟩ u hexs (by decide) (by decide) (M.aI v M.fS) (by rw [hex]; rfl)
 have m0 := nR v M.fE;have m1 := nR v M.aH;have m2 := nR v M.fS;have l0 := M.cK v M.fE;have l1 := M.cK v M.aH;have l2 := M.cK v M.fS;generalize hc0 : M.aI v M.fE = c0 at *;generalize hc1 : M.aI v M.aH = c1 at *;generalize hc2 : M.aI v M.fS = c2 at *;have L0 : c0 <= 3 /\ c0 <= s.size - b := ⟨l0.2.2, by rw [<- hvl]; exact l0.2.1⟩;have L1 : c1 <= 8 /\ c1 <= s.size - b := ⟨l1.2.2, by rw [<- hvl]; exact l1.2.1⟩;have L2 : c2 <= 3 /\ c2 <= s.size - b := ⟨l2.2.2, by rw [<- hvl]; exact l2.2.1⟩;rw [hvl] at m0 m1 m2;have m0 : (c0 = s.size - b /\ c0 = 3) ↔ v.map M.low = M.fE := m0;have m1 : (c1 = s.size - b /\ c1 = 8) ↔ v.map M.low = M.aH := m1;have m2 : (c2 = s.size - b /\ c2 = 3) ↔ v.map M.low = M.fS := m2;have M0 := hid m0; have M1 := hid m1; have M2 := hid m2; have HC := hid (And.intro hc0 (And.intro hc1 hc2));clear l0 l1 l2 hc0 hc1 hc2 m0 m1 m2 hex hvl;have hb' : (b : Int) <= (s.size : Int) := by omega
 have hb0' : (0 : Int) <= (b : Int) := by omega
 go_enter Tryz.func123, Tryz.ntmps123;go_wp2_with fail
 go_loopw [7, 12] (fun lv iv wr => Cls wr w.heap.size eF 32 /\ Below w.heap.size w wr /\ ((lv = .int .i64 0 /\ iv = .int .i64 0) \/ (lv = .int .i64 ((c0 : Nat) : Int) /\ iv = .int .i64 1 /\ ¬ (c0 = s.size - b /\ c0 = 3)) \/ (lv = .int .i64 ((max c0 c1 : Nat) : Int) /\ iv = .int .i64 2 /\ ¬ (c0 = s.size - b /\ c0 = 3) /\ ¬ (c1 = s.size - b /\ c1 = 8)) \/ (lv = .int .i64 ((max (max c0 c1) c2 : Nat) : Int) /\ iv = .int .i64 3 /\ ¬ (c0 = s.size - b /\ c0 = 3) /\ ¬ (c1 = s.size - b /\ c1 = 8) /\ ¬ (c2 = s.size - b /\ c2 = 3)))) (fun _ i _ => 3 - (intOf i).toNat)
 case atStart => exact ⟨Cls.new _ _ _, (Below.refl _ _).alloc (Nat.le_refl _) _, .inl ⟨rfl, rfl⟩⟩
 case round =>
  rename World => wr
  obtain ⟨hR, hB, hcase⟩ := hrel;rcases hcase with ⟨rfl, rfl⟩ | ⟨rfl, rfl, n0⟩ | ⟨rfl, rfl, n0, n1⟩ | ⟨rfl, rfl, n0, n1, n2⟩
  . have bA : Below wr.heap.size wr (wr.alloc (.cells #[.string ⟨#[105, 110, 102]⟩, .int .i64 2] 188)) := (Below.refl _ _).alloc (Nat.le_refl _) _;have RA := hR.below bA;have BA := hB.trans (bA.mono hB.size);have XA : Cls (wr.alloc (.cells #[.string ⟨#[105, 110, 102]⟩, .int .i64 2] 188)) wr.heap.size #[.string ⟨#[105, 110, 102]⟩, .int .i64 2] 188 := Cls.new _ _ _;have hlr := hR.lt;obtain ⟨W1, hW1⟩ : ∃ W1, W1 = wr.alloc (.cells #[.string ⟨#[105, 110, 102]⟩, .int .i64 2] 188) := ⟨_, rfl⟩;have HRA := hid RA; have HBA := hid BA; have HXA := hid XA;rw [<- hW1] at HRA HBA HXA;have x0 := HXA.out.cell 0 (x := .string ⟨#[105, 110, 102]⟩) rfl;have x1 := HXA.out.cell 1 (x := .int .i64 2) rfl
    have Kof : ∀ u, Below W1.heap.size W1 u -> Below W1.heap.size W1 u /\ u.cell? ⟨wr.heap.size, 0, none⟩ = some (.string ⟨#[105, 110, 102]⟩) := fun u hu => ⟨hu, ((HXA.out.below hu).cell 0 (x := .string ⟨#[105, 110, 102]⟩) rfl)⟩
    have hnw := nw0 wr;clear RA BA XA bA hR hB;go_wp2_with fail;clear hnw;rw [<- hW1];clear hW1
    go_region_held3 (fun u => Below W1.heap.size W1 u /\ u.cell? ⟨wr.heap.size, 0, none⟩ = some (.string ⟨#[105, 110, 102]⟩)) (first | exact Kof _ (by assumption) | exact Kof _ (below_drewN (by assumption) _) | exact Kof _ (Below.drew (by assumption)) | exact Kof _ (Below.refl _ _).drew | exact Kof _ (Below.refl _ _))
     (first | (go_at_call 145; refine (k0 _).mono ?_; rintro e w' ⟨rfl, hb0⟩; have hb1 := lW (And.left (by assumption)) hb0 (Below.size (And.left (by assumption))); clear hb0))
    have HR2 := hid (HRA.out.below hb1);have HB2 := hid (HBA.out.trans (hb1.mono HBA.out.size));have XX := HXA.out.below hb1;have x0 := XX.cell 0 (x := .string ⟨#[105, 110, 102]⟩) rfl;have x1 := XX.cell 1 (x := .int .i64 2) rfl;clear Kof XX hb1 HXA HRA HBA
    rename World => W9
    by_cases t1 : c0 = s.size - b
    . have t1' : (((b : Int) + (c0 : Int)) == (s.size : Int)) = true := by rw [beq_iff_eq]; omega
      by_cases t2 : c0 = 3
      . have hout : o = .inl ⟨2, ng, [], 0⟩ := by
         rw [HO.out, M.dJ, if_pos (M0.out.1 ⟨t1, t2⟩)]
        have HOO := hid hout;have y0 := HR2.out.cell 0 (x := .int .i64 0) rfl;have y1 := HR2.out.cell 1 (x := .bool false) rfl;have y2 := HR2.out.cell 2 (x := .slice none 0 0) rfl;have y3 := HR2.out.cell 3 (x := .int .i64 0) rfl;have f0 := HR2.out.frozen 0;have f1 := HR2.out.frozen 1;have f2 := HR2.out.frozen 2;have f3 := HR2.out.frozen 3;have t2' : ((c0 : Int) == 3) = true := by rw [beq_iff_eq]; omega
        clear hout t1 t2
        cases ng with
        | false =>
          go_wp2_with fail;have R9 := nC HR2.out rfl (.int .i64 2) (.bool false) (.slice none 0 0) (.int .i64 0);have H9 := fD HB2.out (.int .i64 2) (.bool false) (.slice none 0 0) (.int .i64 0);generalize ((((W9.setCell ⟨w.heap.size, 0, none⟩ (.int .i64 2)).setCell ⟨w.heap.size, 1, none⟩ (.bool false)).setCell ⟨w.heap.size, 2, none⟩ (.slice none 0 0)).setCell ⟨w.heap.size, 3, none⟩ (.int .i64 0)) = w9 at R9 H9 |-;have z0 := R9.cell 0 (x := .int .i64 2) rfl;have z1 := R9.cell 1 (x := .bool false) rfl;have z2 := R9.cell 2 (x := .slice none 0 0) rfl;have z3 := R9.cell 3 (x := .int .i64 0) rfl;refine bodyPost_ret (v := .agg #[.int .i64 2, .bool false, .slice none 0 0, .int .i64 0]) (by simp [results, Tryz.results123, go_sem, z0, z1, z2, z3]) rfl ?_;rw [HOO.out];exact ⟨_, rfl, OwnV.nil _ _, H9⟩
        | true =>
          go_wp2_with fail;have R9 := nC HR2.out rfl (.int .i64 2) (.bool true) (.slice none 0 0) (.int .i64 0);have H9 := fD HB2.out (.int .i64 2) (.bool true) (.slice none 0 0) (.int .i64 0);generalize ((((W9.setCell ⟨w.heap.size, 0, none⟩ (.int .i64 2)).setCell ⟨w.heap.size, 1, none⟩ (.bool true)).setCell ⟨w.heap.size, 2, none⟩ (.slice none 0 0)).setCell ⟨w.heap.size, 3, none⟩ (.int .i64 0)) = w9 at R9 H9 |-;have z0 := R9.cell 0 (x := .int .i64 2) rfl;have z1 := R9.cell 1 (x := .bool true) rfl;have z2 := R9.cell 2 (x := .slice none 0 0) rfl;have z3 := R9.cell 3 (x := .int .i64 0) rfl;refine bodyPost_ret (v := .agg #[.int .i64 2, .bool true, .slice none 0 0, .int .i64 0]) (by simp [results, Tryz.results123, go_sem, z0, z1, z2, z3]) rfl ?_;rw [HOO.out];exact ⟨_, rfl, OwnV.nil _ _, H9⟩
      . have t2' : ((c0 : Int) == 3) = false := by rw [beq_eq_false_iff_ne]; omega
        have T2 := hid t2;clear t1 t2;go_wp2_with fail;go_roundw
        case rel => exact ⟨HR2.out, HB2.out, .inr (.inl ⟨by go_num, rfl, fun q => T2.out q.2⟩)⟩
        case measure => simp [intOf]
    . have t1' : (((b : Int) + (c0 : Int)) == (s.size : Int)) = false := by rw [beq_eq_false_iff_ne]; omega
      have T1 := hid t1;clear t1;go_wp2_with fail;go_roundw
      case rel => exact ⟨HR2.out, HB2.out, .inr (.inl ⟨by go_num, rfl, fun q => T1.out q.1⟩)⟩
      case measure => simp [intOf]
  . have N0 := hid n0; have bA : Below wr.heap.size wr (wr.alloc (.cells #[.string ⟨#[105, 110, 102, 105, 110, 105, 116, 121]⟩, .int .i64 2] 188)) := (Below.refl _ _).alloc (Nat.le_refl _) _;have RA := hR.below bA;have BA := hB.trans (bA.mono hB.size);have XA : Cls (wr.alloc (.cells #[.string ⟨#[105, 110, 102, 105, 110, 105, 116, 121]⟩, .int .i64 2] 188)) wr.heap.size #[.string ⟨#[105, 110, 102, 105, 110, 105, 116, 121]⟩, .int .i64 2] 188 := Cls.new _ _ _;have hlr := hR.lt;obtain ⟨W1, hW1⟩ : ∃ W1, W1 = wr.alloc (.cells #[.string ⟨#[105, 110, 102, 105, 110, 105, 116, 121]⟩, .int .i64 2] 188) := ⟨_, rfl⟩;have HRA := hid RA; have HBA := hid BA; have HXA := hid XA;rw [<- hW1] at HRA HBA HXA;have x0 := HXA.out.cell 0 (x := .string ⟨#[105, 110, 102, 105, 110, 105, 116, 121]⟩) rfl;have x1 := HXA.out.cell 1 (x := .int .i64 2) rfl
    have Kof : ∀ u, Below W1.heap.size W1 u -> Below W1.heap.size W1 u /\ u.cell? ⟨wr.heap.size, 0, none⟩ = some (.string ⟨#[105, 110, 102, 105, 110, 105, 116, 121]⟩) := fun u hu => ⟨hu, ((HXA.out.below hu).cell 0 (x := .string ⟨#[105, 110, 102, 105, 110, 105, 116, 121]⟩) rfl)⟩
    have hnw := nw1 wr;clear RA BA XA bA hR hB n0;go_wp2_with fail;clear hnw;rw [<- hW1];clear hW1
    go_region_held3 (fun u => Below W1.heap.size W1 u /\ u.cell? ⟨wr.heap.size, 0, none⟩ = some (.string ⟨#[105, 110, 102, 105, 110, 105, 116, 121]⟩)) (first | exact Kof _ (by assumption) | exact Kof _ (below_drewN (by assumption) _) | exact Kof _ (Below.drew (by assumption)) | exact Kof _ (Below.refl _ _).drew | exact Kof _ (Below.refl _ _))
     (first | (go_at_call 145; refine (k1 _).mono ?_; rintro e w' ⟨rfl, hb0⟩; have hb1 := lW (And.left (by assumption)) hb0 (Below.size (And.left (by assumption))); clear hb0))
    have HR2 := hid (HRA.out.below hb1);have HB2 := hid (HBA.out.trans (hb1.mono HBA.out.size));have XX := HXA.out.below hb1;have x0 := XX.cell 0 (x := .string ⟨#[105, 110, 102, 105, 110, 105, 116, 121]⟩) rfl;have x1 := XX.cell 1 (x := .int .i64 2) rfl;clear Kof XX hb1 HXA HRA HBA
    rename World => W9
    by_cases t1 : c1 = s.size - b
    . have t1' : (((b : Int) + (c1 : Int)) == (s.size : Int)) = true := by rw [beq_iff_eq]; omega
      by_cases t2 : c1 = 8
      . have hout : o = .inl ⟨2, ng, [], 0⟩ := by
         rw [HO.out, M.dJ, if_neg (fun e => N0.out (M0.out.2 e)), if_pos (M1.out.1 ⟨t1, t2⟩)]
        have HOO := hid hout;have y0 := HR2.out.cell 0 (x := .int .i64 0) rfl;have y1 := HR2.out.cell 1 (x := .bool false) rfl;have y2 := HR2.out.cell 2 (x := .slice none 0 0) rfl;have y3 := HR2.out.cell 3 (x := .int .i64 0) rfl;have f0 := HR2.out.frozen 0;have f1 := HR2.out.frozen 1;have f2 := HR2.out.frozen 2;have f3 := HR2.out.frozen 3;have t2' : ((c1 : Int) == 8) = true := by rw [beq_iff_eq]; omega
        clear hout t1 t2
        cases ng with
        | false =>
          go_wp2_with fail;have R9 := nC HR2.out rfl (.int .i64 2) (.bool false) (.slice none 0 0) (.int .i64 0);have H9 := fD HB2.out (.int .i64 2) (.bool false) (.slice none 0 0) (.int .i64 0);generalize ((((W9.setCell ⟨w.heap.size, 0, none⟩ (.int .i64 2)).setCell ⟨w.heap.size, 1, none⟩ (.bool false)).setCell ⟨w.heap.size, 2, none⟩ (.slice none 0 0)).setCell ⟨w.heap.size, 3, none⟩ (.int .i64 0)) = w9 at R9 H9 |-;have z0 := R9.cell 0 (x := .int .i64 2) rfl;have z1 := R9.cell 1 (x := .bool false) rfl;have z2 := R9.cell 2 (x := .slice none 0 0) rfl;have z3 := R9.cell 3 (x := .int .i64 0) rfl;refine bodyPost_ret (v := .agg #[.int .i64 2, .bool false, .slice none 0 0, .int .i64 0]) (by simp [results, Tryz.results123, go_sem, z0, z1, z2, z3]) rfl ?_;rw [HOO.out];exact ⟨_, rfl, OwnV.nil _ _, H9⟩
        | true =>
          go_wp2_with fail;have R9 := nC HR2.out rfl (.int .i64 2) (.bool true) (.slice none 0 0) (.int .i64 0);have H9 := fD HB2.out (.int .i64 2) (.bool true) (.slice none 0 0) (.int .i64 0);generalize ((((W9.setCell ⟨w.heap.size, 0, none⟩ (.int .i64 2)).setCell ⟨w.heap.size, 1, none⟩ (.bool true)).setCell ⟨w.heap.size, 2, none⟩ (.slice none 0 0)).setCell ⟨w.heap.size, 3, none⟩ (.int .i64 0)) = w9 at R9 H9 |-;have z0 := R9.cell 0 (x := .int .i64 2) rfl;have z1 := R9.cell 1 (x := .bool true) rfl;have z2 := R9.cell 2 (x := .slice none 0 0) rfl;have z3 := R9.cell 3 (x := .int .i64 0) rfl;refine bodyPost_ret (v := .agg #[.int .i64 2, .bool true, .slice none 0 0, .int .i64 0]) (by simp [results, Tryz.results123, go_sem, z0, z1, z2, z3]) rfl ?_;rw [HOO.out];exact ⟨_, rfl, OwnV.nil _ _, H9⟩
      . have t2' : ((c1 : Int) == 8) = false := by rw [beq_eq_false_iff_ne]; omega
        have T2 := hid t2;clear t1 t2;go_wp2_with fail;go_roundw
        case rel => exact ⟨HR2.out, HB2.out, .inr (.inr (.inl ⟨by go_num, rfl, N0.out, fun q => T2.out q.2⟩))⟩
        case measure => simp [intOf]
    . have t1' : (((b : Int) + (c1 : Int)) == (s.size : Int)) = false := by rw [beq_eq_false_iff_ne]; omega
      have T1 := hid t1;clear t1;go_wp2_with fail;go_roundw
      case rel => exact ⟨HR2.out, HB2.out, .inr (.inr (.inl ⟨by go_num, rfl, N0.out, fun q => T1.out q.1⟩))⟩
      case measure => simp [intOf]
  . have N0 := hid n0; have N1 := hid n1; have bA : Below wr.heap.size wr (wr.alloc (.cells #[.string ⟨#[110, 97, 110]⟩, .int .i64 3] 188)) := (Below.refl _ _).alloc (Nat.le_refl _) _;have RA := hR.below bA;have BA := hB.trans (bA.mono hB.size);have XA : Cls (wr.alloc (.cells #[.string ⟨#[110, 97, 110]⟩, .int .i64 3] 188)) wr.heap.size #[.string ⟨#[110, 97, 110]⟩, .int .i64 3] 188 := Cls.new _ _ _;have hlr := hR.lt;obtain ⟨W1, hW1⟩ : ∃ W1, W1 = wr.alloc (.cells #[.string ⟨#[110, 97, 110]⟩, .int .i64 3] 188) := ⟨_, rfl⟩;have HRA := hid RA; have HBA := hid BA; have HXA := hid XA;rw [<- hW1] at HRA HBA HXA;have x0 := HXA.out.cell 0 (x := .string ⟨#[110, 97, 110]⟩) rfl;have x1 := HXA.out.cell 1 (x := .int .i64 3) rfl
    have Kof : ∀ u, Below W1.heap.size W1 u -> Below W1.heap.size W1 u /\ u.cell? ⟨wr.heap.size, 0, none⟩ = some (.string ⟨#[110, 97, 110]⟩) := fun u hu => ⟨hu, ((HXA.out.below hu).cell 0 (x := .string ⟨#[110, 97, 110]⟩) rfl)⟩
    have hnw := nw2 wr;clear RA BA XA bA hR hB n0 n1;go_wp2_with fail;clear hnw;rw [<- hW1];clear hW1
    go_region_held3 (fun u => Below W1.heap.size W1 u /\ u.cell? ⟨wr.heap.size, 0, none⟩ = some (.string ⟨#[110, 97, 110]⟩)) (first | exact Kof _ (by assumption) | exact Kof _ (below_drewN (by assumption) _) | exact Kof _ (Below.drew (by assumption)) | exact Kof _ (Below.refl _ _).drew | exact Kof _ (Below.refl _ _))
     (first | (go_at_call 145; refine (k2 _).mono ?_; rintro e w' ⟨rfl, hb0⟩; have hb1 := lW (And.left (by assumption)) hb0 (Below.size (And.left (by assumption))); clear hb0))
    have HR2 := hid (HRA.out.below hb1);have HB2 := hid (HBA.out.trans (hb1.mono HBA.out.size));have XX := HXA.out.below hb1;have x0 := XX.cell 0 (x := .string ⟨#[110, 97, 110]⟩) rfl;have x1 := XX.cell 1 (x := .int .i64 3) rfl;clear Kof XX hb1 HXA HRA HBA
    rename World => W9
    by_cases t1 : c2 = s.size - b
    . have t1' : (((b : Int) + (c2 : Int)) == (s.size : Int)) = true := by rw [beq_iff_eq]; omega
      by_cases t2 : c2 = 3
      . have hout : o = .inl ⟨3, false, [], 0⟩ := by
         rw [HO.out, M.dJ, if_neg (fun e => N0.out (M0.out.2 e)), if_neg (fun e => N1.out (M1.out.2 e)), if_pos (M2.out.1 ⟨t1, t2⟩)]
        have HOO := hid hout;have y0 := HR2.out.cell 0 (x := .int .i64 0) rfl;have y1 := HR2.out.cell 1 (x := .bool false) rfl;have y2 := HR2.out.cell 2 (x := .slice none 0 0) rfl;have y3 := HR2.out.cell 3 (x := .int .i64 0) rfl;have f0 := HR2.out.frozen 0;have f1 := HR2.out.frozen 1;have f2 := HR2.out.frozen 2;have f3 := HR2.out.frozen 3;have t2' : ((c2 : Int) == 3) = true := by rw [beq_iff_eq]; omega
        clear hout t1 t2
        cases ng with
        | false =>
          go_wp2_with fail;have R9 := nC HR2.out rfl (.int .i64 3) (.bool false) (.slice none 0 0) (.int .i64 0);have H9 := fD HB2.out (.int .i64 3) (.bool false) (.slice none 0 0) (.int .i64 0);generalize ((((W9.setCell ⟨w.heap.size, 0, none⟩ (.int .i64 3)).setCell ⟨w.heap.size, 1, none⟩ (.bool false)).setCell ⟨w.heap.size, 2, none⟩ (.slice none 0 0)).setCell ⟨w.heap.size, 3, none⟩ (.int .i64 0)) = w9 at R9 H9 |-;have z0 := R9.cell 0 (x := .int .i64 3) rfl;have z1 := R9.cell 1 (x := .bool false) rfl;have z2 := R9.cell 2 (x := .slice none 0 0) rfl;have z3 := R9.cell 3 (x := .int .i64 0) rfl;refine bodyPost_ret (v := .agg #[.int .i64 3, .bool false, .slice none 0 0, .int .i64 0]) (by simp [results, Tryz.results123, go_sem, z0, z1, z2, z3]) rfl ?_;rw [HOO.out];exact ⟨_, rfl, OwnV.nil _ _, H9⟩
        | true =>
          go_wp2_with fail;have R9 := nC HR2.out rfl (.int .i64 3) (.bool false) (.slice none 0 0) (.int .i64 0);have H9 := fD HB2.out (.int .i64 3) (.bool false) (.slice none 0 0) (.int .i64 0);generalize ((((W9.setCell ⟨w.heap.size, 0, none⟩ (.int .i64 3)).setCell ⟨w.heap.size, 1, none⟩ (.bool false)).setCell ⟨w.heap.size, 2, none⟩ (.slice none 0 0)).setCell ⟨w.heap.size, 3, none⟩ (.int .i64 0)) = w9 at R9 H9 |-;have z0 := R9.cell 0 (x := .int .i64 3) rfl;have z1 := R9.cell 1 (x := .bool false) rfl;have z2 := R9.cell 2 (x := .slice none 0 0) rfl;have z3 := R9.cell 3 (x := .int .i64 0) rfl;refine bodyPost_ret (v := .agg #[.int .i64 3, .bool false, .slice none 0 0, .int .i64 0]) (by simp [results, Tryz.results123, go_sem, z0, z1, z2, z3]) rfl ?_;rw [HOO.out];exact ⟨_, rfl, OwnV.nil _ _, H9⟩
      . have t2' : ((c2 : Int) == 3) = false := by rw [beq_eq_false_iff_ne]; omega
        have T2 := hid t2;clear t1 t2;go_wp2_with fail;go_roundw
        case rel => exact ⟨HR2.out, HB2.out, .inr (.inr (.inr (⟨by go_num, rfl, N0.out, N1.out, fun q => T2.out q.2⟩)))⟩
        case measure => simp [intOf]
    . have t1' : (((b : Int) + (c2 : Int)) == (s.size : Int)) = false := by rw [beq_eq_false_iff_ne]; omega
      have T1 := hid t1;clear t1;go_wp2_with fail;go_roundw
      case rel => exact ⟨HR2.out, HB2.out, .inr (.inr (.inr (⟨by go_num, rfl, N0.out, N1.out, fun q => T1.out q.1⟩)))⟩
      case measure => simp [intOf]
  . have hout : o = .inr (b + max (max c0 c1) c2) := by
     rw [HO.out, M.dJ, if_neg (fun e => n0 (M0.out.2 e)), if_neg (fun e => n1 (M1.out.2 e)), if_neg (fun e => n2 (M2.out.2 e)), HC.out.1, HC.out.2.1, HC.out.2.2, Nat.zero_max]
    have HOO := hid hout; have HB := hid hB;clear hout n0 n1 n2 hR hB;have hmm : max (max c0 c1) c2 <= 800 := by omega
    generalize max (max c0 c1) c2 = mm at *;go_wp2_with fail;refine ⟨rfl, ?_⟩;rw [HOO.out];exact ⟨rfl, HB.out⟩

end Go.Proofs.YtfdgkleoaehjaaaGreatDoor
