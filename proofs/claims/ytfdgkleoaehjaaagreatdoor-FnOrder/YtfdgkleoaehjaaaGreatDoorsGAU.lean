import Derived.Defers
import Derived.Recover
import Derived.Test.YtfdgkleoaehjaaaGreatDoorsGAT
set_option maxHeartbeats 2000000
namespace Go.Proofs.YtfdgkleoaehjaaaGreatDoor
open Go.RowKit
set_option linter.unusedVariables false
set_option maxRecDepth 100000
theorem EI (s : ByteArray) (w : World) (hs : s.size <= 800) (hF : Fol w) (hWd : Wds w) (o : M.Dec ⊕ Nat) (ho : o = M.gV (aV s)) :
 Calls Tryz.prog 92 #[.string s] w fun e w' => JK w w' e o := by
 have HO := hid ho; clear ho;have hl := iP s;go_enter Tryz.func92, Tryz.ntmps92;go_wp2_with fail;go_upto_block 0 with fail
 repeat (go_step3; go_upto_block 0 with fail)
 go_cut [4, 5] (fun stv bv wr => KI w wr (aV s) stv bv)
 case first =>
  go_wp2_with fail
  go_loopw [4] (fun stv wr => ∃ (pos st : Nat) (sn : M.Sn), stv = .int .i64 (st : Int) /\ wr.heap[w.heap.size + 2]? = some (.stringIter s pos) /\ pos <= s.size /\ 1 <= st /\ st <= 9 /\ SnR wr (w.heap.size + 1) (w.heap.size + 3) sn /\ Cls wr w.heap.size eF 32 /\ Below w.heap.size w wr /\ M.aO (aV s) 0 1 (M.s0 false) = M.aO ((aV s).drop pos) pos st sn /\ sn.digits.length <= pos /\ sn.behind <= pos /\ sn.exponent <= 1000000 /\ ∀ x ∈ sn.digits, x < 256) (fun _ wr => s.size - World.iterPos wr (w.heap.size + 2))
  case atStart =>
   obtain ⟨a1, a2, a3, a4⟩ := DS w s _ rfl
   exact ⟨0, 1, M.s0 false, rfl, a1, by omega, by omega, by omega, a2, a3, a4, by rw [List.drop_zero], by simp, by simp, by simp, fun x hx => by simp at hx⟩
  case round =>
   rename World => wr
   obtain ⟨pos, st, sn, rfl, hit, hps, hs1, hs9, hSn, hZ, hB, hW, hl1, hl2, hl3, hl4⟩ := hrel;have HL4 := hid hl4; clear hl4;have hpos0 := iterPos_of hit
   by_cases hp : pos < s.size
   . obtain ⟨l, p', hnx, hlm, hll⟩ := nT wr (w.heap.size + 2) s pos hit hp;have HP := hid hp;have hit2 := Lib.iterAt_heap wr (w.heap.size + 2) s pos p' hit;have hB2 := Lib.below_iterAt hB (k := w.heap.size + 2) (by omega) s p';have hSn2 := hSn.iterAt (w.heap.size + 2) (by omega) (by omega) s p';have hZ2 := hZ.iterAt (w.heap.size + 2) (by omega) s p';have hF2 := hF.below hB2;obtain ⟨W1, hW1⟩ : ∃ W1, W1 = wr.iterAt (w.heap.size + 2) s p' := ⟨_, rfl⟩;rw [<- hW1] at hnx hit2 hB2 hSn2 hZ2 hF2
     have hso : M.aF l = M.aF ((aV s).getD pos 0) := by
      rcases hll with ⟨_, e, _⟩ | ⟨e1, e2, _⟩
      . rw [e]
      . rw [nA _ e1, nA _ e2]
     have hsl := JE l;have hcell := hF2.2 st (M.aF l) (by omega) hsl
     have kS := fun (u : World) => xT l hlm u _ rfl
     have hdr := jZ (aV s) pos (by omega);rw [hdr] at hW;generalize (aV s).getD pos 0 = c at *;generalize hSo : M.aF l = so at *;have hs1' : (0 : Int) <= (st : Int) := by omega
     have hs9' : (st : Int) < 10 := by omega
     have hso' : (so : Int) < 6 := by omega
     have HW := hid hW; have HB := hid hB2; have HSN := hid hSn2; have HZ := hid hZ2; have HIT := hid hit2; have HLL := hid hll; have HFW := hid hF2; have HSS := hid hso; have HSO := hid hSo;clear hW hB hB2 hSn hSn2 hZ hZ2 hit hit2 hll hF2 hW1 hso hdr hSo;go_wp2_with fail
     go_quiet ((go_at_call 121; exact Calls.quiet_of_same (kS _)))
     have bq : Below W1.heap.size W1 (W1.drewN nq) := below_drewN (Below.refl _ _) nq;have HB2 := hid (HB.out.trans (bq.mono HB.out.size));have HSN2 := hid (HSN.out.below bq);have HZ2 := hid (HZ.out.below bq);have HIT2 : Hid ((W1.drewN nq).heap[w.heap.size + 2]? = some (.stringIter s p')) := hid ((bq.block _ (lt_of_block HIT.out)).trans HIT.out);generalize W1.drewN nq = W2 at *;clear bq HB HSN HZ HIT hcell kS HFW;have hn10 := M.zP st so;have hn2 := F6 (so := so) hs1;have hnd := yO (st := st) (so := so)
     have hwk : ∀ r, M.next st so ≠ 0 -> M.next st so ≠ 10 -> M.aO (c :: r) pos st sn = M.aO r (pos + 1) (M.next st so) (M.take (M.next st so) c sn) := fun r e0 e1 => M.step r pos sn (by rw [<- HSS.out]) e0 e1
     have hw0 : ∀ r, M.next st so = 0 -> M.aO (c :: r) pos st sn = .stuck pos := fun r e0 => by rw [M.aO, <- HSS.out, if_pos e0]
     have hw1 : ∀ r, M.next st so = 10 -> M.aO (c :: r) pos st sn = .word pos sn.neg := fun r e0 => by rw [M.aO, <- HSS.out, if_neg (by omega), if_pos e0]
     have hz0 : so = 0 -> M.next st so = 0 := fun e => by rw [e]; exact M.JQ st
     generalize M.next st so = ns at *
     by_cases e0 : ns = 0
     . subst e0;have hout : o = .inr pos := by rw [HO.out, M.gV, HW.out, hw0 _ rfl]; rfl
       have HOO := hid hout;clear hwk hw0 hw1 hnd hn2 hout hz0;go_wp2_with fail;simp only [Exit.noGoto];refine ⟨rfl, ?_⟩;rw [HOO.out];exact ⟨rfl, HB2.out⟩
     . by_cases e1 : ns = 10
       . subst e1;have hww := HW.out.trans (hw1 _ rfl);have HWW := hid hww;clear hwk hw0 hw1 hnd hn2 hww e0 hz0;go_wp2_with fail;go_meet
         case rel => exact ⟨10, sn, rfl, HSN2.out, HZ2.out, HB2.out, .inr ⟨rfl, pos, rfl, by omega, HWW.out⟩⟩
       . have hww := HW.out.trans (hwk _ e0 e1);have hb0 : ((ns : Int) == 0) = false := by rw [beq_eq_false_iff_ne]; omega
         have hb1 : ((ns : Int) == 10) = false := by rw [beq_eq_false_iff_ne]; omega
         have h2n := hn2 e0;have h9n : ns <= 9 := by omega
         have H2N := hid h2n; have H9N := hid h9n
         have hso0 : so ≠ 0 := fun e => e0 (hz0 e)
         have hcl : c < 128 /\ l = c /\ p' = pos + 1 := by
          rcases HLL.out with q | q
          . exact q
          . exfalso; exact hso0 (by rw [<- HSO.out]; exact nA l q.2.1)
         obtain ⟨hc1, rfl, rfl⟩ := hcl
         have kT := GK (w.heap.size + 1) (w.heap.size + 3) ns l sn W2 HSN2.out (by omega) (by omega) hl3 ⟨h2n, by omega⟩ hlm (fun q => pW (by rw [HSO.out]; exact hnd q))
         have HWW := hid hww;clear hwk hw0 hw1 hnd hn2 hww e0 e1 hz0 hso0;go_wp2_with fail;refine kT.mono ?_;rintro e W3 ⟨rfl, hS3, hK3⟩;have HS3 := hid hS3; have HK3 := hid hK3;clear hS3 hK3 kT;go_wp2_with fail;go_roundw
         case rel =>
          have := DN ns l sn pos hl1 hl2 hl3;exact ⟨pos + 1, ns, M.take ns l sn, rfl, (HK3.out.keep (w.heap.size + 2) (by omega) (by omega)).trans HIT2.out, HP.out, Nat.le_trans (by omega) H2N.out, H9N.out, HS3.out, (HK3.out.keep w.heap.size (by omega) (by omega)).trans HZ2.out, HB2.out.trans (HK3.out.below.mono (by omega)), HWW.out, this.1, this.2.1, this.2.2, FX ns l sn (by omega) HL4.out⟩
         case measure =>
          rw [iterPos_of ((HK3.out.keep (w.heap.size + 2) (by omega) (by omega)).trans HIT2.out), hpos0]; have := HP.out; omega
   . have hend : ∀ ty, (Instr.next (.pointer (some ⟨w.heap.size + 2, 0, none⟩)) true ty).run Tryz.prog wr = .ok (.tuple #[.bool false]) wr := fun ty => Lib.run_next_end_at wr (w.heap.size + 2) s pos ty hit hp
     have hnil : (aV s).drop pos = [] := List.drop_eq_nil_of_le (by omega);rw [hnil] at hW;have HW := hid hW; have HB := hid hB; have HSN := hid hSn; have HZ := hid hZ;clear hW hB hSn hZ hit hnil;go_wp2_with fail;go_meet
     case rel => exact ⟨st, sn, rfl, HSN.out, HZ.out, HB.out, .inl ⟨hs9, hs1, HW.out, by omega, by omega, hl3, HL4.out⟩⟩
 case rest =>
  rename World => wr
  obtain ⟨st, sn, rfl, hSn, hZ, hB, hcase⟩ := hcut;have hW2 := hWd.below hB;rcases hcase with ⟨h9, h1, hw, g1, g2, g3, g4⟩ | ⟨rfl, b, rfl, hbl, hw⟩
  . have hx10 : ((st : Int) == 10) = false := by rw [beq_eq_false_iff_ne]; omega
    by_cases hg : st = 3 \/ st = 5 \/ st = 6 \/ st = 9
    . have hout : o = .inl sn.dec := by rw [HO.out, M.gV, hw]; simp [M.Out.scan, M.xJ, hg]
      have kD := uU (w.heap.size + 1) (w.heap.size + 3) sn wr hSn (by omega) (by omega) g3 g4;have HOO := hid hout; have HB := hid hB; have HZ := hid hZ;clear hout hw hSn hB hZ;rcases hg with rfl | rfl | rfl | rfl
      all_goals
       go_wp2_with fail;refine kD.mono ?_;rintro e W3 ⟨xv, rfl, hV, b3⟩;obtain ⟨xa, xc, rfl, hv2⟩ := hV;have V3 : OwnV W3 (w.heap.size + 3) (.slice xa sn.dec.digits.length xc) sn.dec.digits := ⟨xa, xc, rfl, hv2⟩;have R3 := HZ.out.below b3;have B3 := HB.out.trans (b3.mono HB.out.size);have HV3 := hid V3; have HR3 := hid R3; have HB3 := hid B3;clear V3 R3 B3 hv2 kD b3;have y0 := HR3.out.cell 0 (x := .int .i64 0) rfl;have y1 := HR3.out.cell 1 (x := .bool false) rfl;have y2 := HR3.out.cell 2 (x := .slice none 0 0) rfl;have y3 := HR3.out.cell 3 (x := .int .i64 0) rfl;have f0 := HR3.out.frozen 0;have f1 := HR3.out.frozen 1;have f2 := HR3.out.frozen 2;have f3 := HR3.out.frozen 3;have ltR : w.heap.size < w.heap.size + 3 := by omega
       unfold oZ;go_wp2_with fail;have R9 := nC HR3.out rfl (.int .i64 sn.dec.kind) (.bool sn.dec.neg) (.slice xa sn.dec.digits.length xc) (.int .i64 sn.dec.exp);have H9 := fD HB3.out (.int .i64 sn.dec.kind) (.bool sn.dec.neg) (.slice xa sn.dec.digits.length xc) (.int .i64 sn.dec.exp);have O9 := (((HV3.out.far ⟨w.heap.size, 0, none⟩ ltR (.int .i64 sn.dec.kind)).far ⟨w.heap.size, 1, none⟩ ltR (.bool sn.dec.neg)).far ⟨w.heap.size, 2, none⟩ ltR (.slice xa sn.dec.digits.length xc)).far ⟨w.heap.size, 3, none⟩ ltR (.int .i64 sn.dec.exp);generalize ((((W3.setCell ⟨w.heap.size, 0, none⟩ (.int .i64 sn.dec.kind)).setCell ⟨w.heap.size, 1, none⟩ (.bool sn.dec.neg)).setCell ⟨w.heap.size, 2, none⟩ (.slice xa sn.dec.digits.length xc)).setCell ⟨w.heap.size, 3, none⟩ (.int .i64 sn.dec.exp)) = w9 at R9 H9 O9 |-;have z0 := R9.cell 0 (x := .int .i64 sn.dec.kind) rfl;have z1 := R9.cell 1 (x := .bool sn.dec.neg) rfl;have z2 := R9.cell 2 (x := .slice xa sn.dec.digits.length xc) rfl;have z3 := R9.cell 3 (x := .int .i64 sn.dec.exp) rfl;simp only [Exit.noGoto];refine bodyPost_ret (v := .agg #[.int .i64 sn.dec.kind, .bool sn.dec.neg, .slice xa sn.dec.digits.length xc, .int .i64 sn.dec.exp]) (by simp [results, Tryz.results92, go_sem, z0, z1, z2, z3]) rfl ?_;rw [HOO.out];exact ⟨_, rfl, O9.low (by omega), H9⟩
    . have hout : o = .inr (aV s).length := by rw [HO.out, M.gV, hw]; simp [M.Out.scan, M.xJ, hg]
      have b3 : ((st : Int) == 3) = false := by rw [beq_eq_false_iff_ne]; omega
      have b5 : ((st : Int) == 5) = false := by rw [beq_eq_false_iff_ne]; omega
      have b6 : ((st : Int) == 6) = false := by rw [beq_eq_false_iff_ne]; omega
      have b9 : ((st : Int) == 9) = false := by rw [beq_eq_false_iff_ne]; omega
      have HOO := hid hout; have HB := hid hB;clear hout hw hSn hB hZ hg;go_wp2_with fail;refine ⟨rfl, ?_⟩;rw [HOO.out, hl];exact ⟨rfl, HB.out⟩
  . have hout : o = M.dJ ((aV s).drop b) b sn.neg := by rw [HO.out, M.gV, hw]; rfl
    have kW := tJ s b sn.neg wr hs (by omega) hW2 _ rfl;obtain ⟨_, _, aa, cc, hC, _⟩ := hSn;have c0 := hC.cell 0 (x := .bool sn.neg) rfl;have HOO := hid hout; have HB := hid hB; have HZ := hid hZ;clear hout hw hB hZ hC;go_wp2_with fail;refine kW.mono ?_;intro e W4 hP;rw [<- HOO.out] at hP;have HOW := HOO;clear kW HOO;have hlr : w.heap.size < wr.heap.size := HZ.out.lt
    cases o with
    | inl d =>
       obtain ⟨xv, rfl, hV, b4⟩ := hP;obtain ⟨xa, xc, rfl, hv2⟩ := hV;have V4 : OwnV W4 wr.heap.size (.slice xa d.digits.length xc) d.digits := ⟨xa, xc, rfl, hv2⟩;have HV4 := hid V4;have HR4 := hid (HZ.out.below b4);have HB4 := hid (HB.out.trans (b4.mono HB.out.size));clear V4 hv2 b4;have y0 := HR4.out.cell 0 (x := .int .i64 0) rfl;have y1 := HR4.out.cell 1 (x := .bool false) rfl;have y2 := HR4.out.cell 2 (x := .slice none 0 0) rfl;have y3 := HR4.out.cell 3 (x := .int .i64 0) rfl;have f0 := HR4.out.frozen 0;have f1 := HR4.out.frozen 1;have f2 := HR4.out.frozen 2;have f3 := HR4.out.frozen 3;have ltR : w.heap.size < wr.heap.size := hlr;unfold oZ;go_wp2_with fail;have R9 := nC HR4.out rfl (.int .i64 d.kind) (.bool d.neg) (.slice xa d.digits.length xc) (.int .i64 d.exp);have H9 := fD HB4.out (.int .i64 d.kind) (.bool d.neg) (.slice xa d.digits.length xc) (.int .i64 d.exp);have O9 := (((HV4.out.far ⟨w.heap.size, 0, none⟩ ltR (.int .i64 d.kind)).far ⟨w.heap.size, 1, none⟩ ltR (.bool d.neg)).far ⟨w.heap.size, 2, none⟩ ltR (.slice xa d.digits.length xc)).far ⟨w.heap.size, 3, none⟩ ltR (.int .i64 d.exp);generalize ((((W4.setCell ⟨w.heap.size, 0, none⟩ (.int .i64 d.kind)).setCell ⟨w.heap.size, 1, none⟩ (.bool d.neg)).setCell ⟨w.heap.size, 2, none⟩ (.slice xa d.digits.length xc)).setCell ⟨w.heap.size, 3, none⟩ (.int .i64 d.exp)) = w9 at R9 H9 O9 |-;have z0 := R9.cell 0 (x := .int .i64 d.kind) rfl;have z1 := R9.cell 1 (x := .bool d.neg) rfl;have z2 := R9.cell 2 (x := .slice xa d.digits.length xc) rfl;have z3 := R9.cell 3 (x := .int .i64 d.exp) rfl;simp only [Exit.noGoto];refine bodyPost_ret (v := .agg #[.int .i64 d.kind, .bool d.neg, .slice xa d.digits.length xc, .int .i64 d.exp]) (by simp [results, Tryz.results92, go_sem, z0, z1, z2, z3]) rfl ?_;exact ⟨_, rfl, O9.low (Nat.le_of_lt hlr), H9⟩
    | inr k =>
       obtain ⟨rfl, b4⟩ := hP;have HB4 := hid (HB.out.trans (b4.mono HB.out.size))
       first | (refine ⟨rfl, ?_⟩; exact ⟨rfl, HB4.out⟩) | (simp only [Exit.noGoto]; refine ⟨rfl, ?_⟩; exact ⟨rfl, HB4.out⟩)

abbrev JH : Array Value := #[.string ⟨#[]⟩, .string ⟨#[48]⟩, .string ⟨#[105, 110, 102]⟩, .string ⟨#[110, 102]⟩, .string ⟨#[102]⟩, .string ⟨#[110, 97, 110]⟩, .string ⟨#[97, 110]⟩, .string ⟨#[110]⟩, .string ⟨#[105, 110, 105, 116, 121]⟩, .string ⟨#[110, 105, 116, 121]⟩, .string ⟨#[105, 116, 121]⟩, .string ⟨#[116, 121]⟩, .string ⟨#[121]⟩]

def vI : List ByteArray := [⟨#[]⟩, ⟨#[48]⟩, ⟨#[105, 110, 102]⟩, ⟨#[110, 102]⟩, ⟨#[102]⟩, ⟨#[110, 97, 110]⟩, ⟨#[97, 110]⟩, ⟨#[110]⟩, ⟨#[105, 110, 105, 116, 121]⟩, ⟨#[110, 105, 116, 121]⟩, ⟨#[105, 116, 121]⟩, ⟨#[116, 121]⟩, ⟨#[121]⟩]

theorem CV (k : Nat) (hk : k < 13) : JH[k]? = some (.string (vI.getD k ⟨#[]⟩)) := by
 rcases (show k = 0 \/ k = 1 \/ k = 2 \/ k = 3 \/ k = 4 \/ k = 5 \/ k = 6 \/ k = 7 \/ k = 8 \/ k = 9 \/ k = 10 \/ k = 11 \/ k = 12 by omega) with rfl | rfl | rfl | rfl | rfl | rfl | rfl | rfl | rfl | rfl | rfl | rfl | rfl <;> rfl

theorem BO (k : Nat) (hk : k < 13) : aV (vI.getD k ⟨#[]⟩) = M.lX.getD k [] /\ (vI.getD k ⟨#[]⟩).size = (M.lX.getD k []).length /\ (vI.getD k ⟨#[]⟩).size <= 5 := by
 rcases (show k = 0 \/ k = 1 \/ k = 2 \/ k = 3 \/ k = 4 \/ k = 5 \/ k = 6 \/ k = 7 \/ k = 8 \/ k = 9 \/ k = 10 \/ k = 11 \/ k = 12 by omega) with rfl | rfl | rfl | rfl | rfl | rfl | rfl | rfl | rfl | rfl | rfl | rfl | rfl <;> decide

theorem DG (bs : List Nat) (h : ∀ j, j < 13 -> M.whole (bs ++ M.lX.getD j []) = none) : M.eE bs = false := by
 unfold M.eE;rw [List.any_eq_false];intro s hs;obtain ⟨j, hj, rfl⟩ := List.getElem_of_mem hs;have := h j hj;rw [List.getD_eq_getElem?_getD, List.getElem?_eq_getElem hj] at this;simp only [Option.getD_some] at this;rw [this]
 simp

theorem xN (bs : List Nat) (j : Nat) (hj : j < 13) {d : M.Dec} (h : M.whole (bs ++ M.lX.getD j []) = some d) : M.eE bs = true := by
 rw [M.gK];refine ⟨M.lX.getD j [], ?_, d, h⟩;rw [List.getD_eq_getElem?_getD, List.getElem?_eq_getElem (show j < M.lX.length from hj)];exact List.getElem_mem _

theorem IE {bs : List Nat} (h : ∀ x ∈ bs, x < 256) (s : ByteArray) : ∀ x ∈ bs ++ aV s, x < 256 := by
 intro x hx;rcases List.mem_append.1 hx with hx | hx
 . exact h x hx
 . unfold aV at hx;obtain ⟨y, _, rfl⟩ := List.mem_map.1 hx;exact y.toNat_lt

theorem rW (ao : Option Addr) (n c : Nat) (bs : List Nat) (w : World) (hl : bs.length = n) (hn : n <= 9000) (hno : ao = none -> c = 0) (hr : RdB w ao bs) (b : Bool) (hb : b = M.eE bs) :
 Calls Tryz.prog 27 #[.slice ao n c] w fun e w' => e = .returned (.bool b) /\ Below w.heap.size w w' := by
 have HB := hid hb; clear hb;go_enter Tryz.func27, Tryz.ntmps27;go_wp2_with fail
 go_loopw [11] (fun i wr => ∃ k : Nat, k <= 13 /\ i = .int .i64 (k : Int) /\ (∀ j, j < k -> M.whole (bs ++ M.lX.getD j []) = none) /\ Cls wr w.heap.size JH 9 /\ Below w.heap.size w wr) (fun i _ => 13 - (intOf i).toNat)
 case atStart => exact ⟨0, by omega, rfl, fun j hj => by omega, Cls.new _ _ _, (Below.refl _ _).alloc (Nat.le_refl _) _⟩
 case round =>
  rename World => wr
  obtain ⟨k, hk, rfl, hd, hC, hB⟩ := hrel;have HD := hid hd; clear hd
  by_cases hlt : k < 13
  . have hlt' : (k : Int) < 13 := by omega
    have hck := hC.cell k (CV k hlt);obtain ⟨g1, g2, g3⟩ := BO k hlt;generalize vI.getD k ⟨#[]⟩ = s at *;have G1 := hid g1; have G2 := hid g2;clear g1 g2;have rA := hr.below hB;have HC := hid hC; have BH := hid hB;clear hC hB
    go_wp2_with (at_builtin; refine dD rfl _ _ rfl wr wr.heap.size _ 0 [] rfl (World.ownsRow_nil _ _ _ _) ao n c bs rfl hl hno rA (by omega) (Nat.le_refl _) ?_)
    intro ra1 rc1 wB ownB grB
    have bB : Below wr.heap.size wr wB := (Below.refl _ _).grown grB (Nat.le_refl _) (fun j e => by cases e)
    have hsB := bB.size
    go_wp2_with (at_builtin; refine oP rfl _ _ rfl wB wr.heap.size (.slice ra1 n rc1) n bs rfl ownB s rfl (by omega) hsB ?_)
    intro ra2 rc2 wC ownC grC
    have bC : Below wr.heap.size wr wC := bB.grown grC hsB (fun j e => bM ownB e)
    have qC : RdV wC (.slice ra2 (n + s.size) rc2) (bs ++ aV s) := RdV.of_own ownC (IE hr.1 s);have CC := HC.out.below bC;have BC := BH.out.trans (bC.mono BH.out.size);clear ownB ownC grB grC bB bC hsB rA HC BH;obtain ⟨_, _, eq1, hc2, hcm2, hno2, rC⟩ := qC;have hll : (bs ++ aV s).length = n + s.size := by rw [List.length_append, hl, G1.out, <- G2.out]
    rw [hll] at eq1 hc2;cases eq1;go_wp2_with fail;refine (nU ra2 (n + s.size) rc2 (bs ++ aV s) wC hll (by omega) rC _ rfl).mono ?_;intro e wD hW;rw [G1.out] at hW
    cases hwv : M.whole (bs ++ M.lX.getD k []) with
    | none =>
      rw [hwv] at hW;obtain ⟨rfl, bD⟩ := hW;have CD := CC.below bD;have BD := BC.trans (bD.mono BC.size);have HWV := hid hwv; have CDH := hid CD; have BDH := hid BD;clear hwv CC BC CD BD bD rC hno2;unfold oZ;go_wp2_with fail;refine ⟨⟨k + 1, by omega, by go_num, ?_, CDH.out.below ((Below.refl _ _).alloc (Nat.le_refl _) _), BDH.out.alloc BDH.out.size _⟩, by simp [intOf]; omega⟩;intro j hj
      by_cases e : j = k
      . rw [e]; exact HWV.out
      . exact HD.out j (by omega)
    | some d =>
      rw [hwv] at hW;obtain ⟨ra3, rc3, rfl, _, bD⟩ := hW;have BD := BC.trans (bD.mono BC.size);have HWV := hid hwv; have BDH := hid BD;clear hwv CC BC BD bD rC hno2;unfold oZ;go_wp2_with fail;go_ret;exact ⟨by rw [HB.out, xN bs k hlt HWV.out]; rfl, BDH.out.alloc BDH.out.size _⟩
  . have e : k = 13 := by omega
    subst e;have hbf : b = false := by rw [HB.out]; exact DG bs HD.out
    have HBF := hid hbf;have HC := hid hC; have BH := hid hB;clear hbf hC hB;go_wp2_with fail;go_ret;exact ⟨by rw [HBF.out]; rfl, BH.out⟩

def aS (bs : List Nat) : M.Dec × Int × Int := if 800 < bs.length then (⟨0, false, [], 0⟩, 2, 800) else match M.uR bs with
 | .inl d => (d, 0, 0)
 | .inr k => (⟨0, false, [], 0⟩, 1, (k : Int))

def scV (o : M.Dec × Int × Int) (v : Value) : Value := .agg #[.int .i64 o.1.kind, .bool o.1.neg, v, .int .i64 o.1.exp, .int .i64 o.2.1, .int .i64 o.2.2]

def ScR (w w' : World) (e : Ending) (o : M.Dec × Int × Int) : Prop :=
 ∃ ra rc, e = .returned (scV o (.slice ra o.1.digits.length rc)) /\ w'.ownsRow w.heap.size 5 1 (.slice ra o.1.digits.length rc) o.1.digits.length (UB o.1.digits) /\ Below w.heap.size w w'

theorem IC {W : World} {g : Nat} {xs : Array Value} {t : TypeId} (R : Cls W g xs t) (hx : xs.size = 6) (a b c d e f : Value) :
 Cls ((((((W.setCell ⟨g, 0, none⟩ a).setCell ⟨g, 1, none⟩ b).setCell ⟨g, 2, none⟩ c).setCell ⟨g, 3, none⟩ d).setCell ⟨g, 4, none⟩ e).setCell ⟨g, 5, none⟩ f) g #[a, b, c, d, e, f] t := by
 refine (((((R.set 0 a _ rfl).set 1 b _ rfl).set 2 c _ rfl).set 3 d _ rfl).set 4 e _ rfl).set 5 f _ ?_;obtain ⟨l⟩ := xs
 match l, hx with
 | [x0, x1, x2, x3, x4, x5], _ => rfl

theorem tG {w W : World} {g : Nat} (H : Below g w W) (a b c d e f : Value) :
 Below g w ((((((W.setCell ⟨g, 0, none⟩ a).setCell ⟨g, 1, none⟩ b).setCell ⟨g, 2, none⟩ c).setCell ⟨g, 3, none⟩ d).setCell ⟨g, 4, none⟩ e).setCell ⟨g, 5, none⟩ f) :=
 (((((H.setCell (p := ⟨g, 0, none⟩) (Nat.le_refl _) _).setCell (p := ⟨g, 1, none⟩) (Nat.le_refl _) _).setCell (p := ⟨g, 2, none⟩) (Nat.le_refl _) _).setCell (p := ⟨g, 3, none⟩) (Nat.le_refl _) _).setCell (p := ⟨g, 4, none⟩) (Nat.le_refl _) _).setCell (p := ⟨g, 5, none⟩) (Nat.le_refl _) _

abbrev zSc : Array Value := #[.int .i64 0, .bool false, .slice none 0 0, .int .i64 0, .int .i64 0, .int .i64 0]

theorem qX (ao : Option Addr) (n c : Nat) (bs : List Nat) (w : World) (hl : bs.length = n) (hcap : n <= c) (hno : ao = none -> c = 0) (hr : RdB w ao bs) (o : M.Dec × Int × Int) (ho : o = aS bs) :
 Calls Tryz.prog 8 #[.slice ao n c] w fun e w' => ScR w w' e o := by
 have HO := hid ho; clear ho
 by_cases h8 : 800 < n
 . have h8' : (800 : Int) < (n : Int) := by omega
   go_enter Tryz.func8, Tryz.ntmps8;go_wp2_with fail;have R9 := Cls.new w #[.int .i64 0, .bool false, .slice none 0 0, .int .i64 0, .int .i64 2, .int .i64 800] 34;have H9 : Below w.heap.size w (w.alloc (.cells #[.int .i64 0, .bool false, .slice none 0 0, .int .i64 0, .int .i64 2, .int .i64 800] 34)) := (Below.refl _ _).alloc (Nat.le_refl _) _;generalize w.alloc (.cells #[.int .i64 0, .bool false, .slice none 0 0, .int .i64 0, .int .i64 2, .int .i64 800] 34) = w9 at R9 H9 |-;have z0 := R9.cell 0 (x := .int .i64 0) rfl;have z1 := R9.cell 1 (x := .bool false) rfl;have z2 := R9.cell 2 (x := .slice none 0 0) rfl;have z3 := R9.cell 3 (x := .int .i64 0) rfl;have z4 := R9.cell 4 (x := .int .i64 2) rfl;have z5 := R9.cell 5 (x := .int .i64 800) rfl;refine bodyPost_ret (v := .agg #[.int .i64 0, .bool false, .slice none 0 0, .int .i64 0, .int .i64 2, .int .i64 800]) (by simp [results, Tryz.results8, go_sem, z0, z1, z2, z3, z4, z5]) rfl ?_;rw [HO.out, aS, if_pos (by omega)];exact ⟨none, 0, rfl, World.ownsRow_nil _ _ _ _, H9⟩
 . have h8' : ¬ (800 : Int) < (n : Int) := by omega
   go_enter Tryz.func8, Tryz.ntmps8;go_wp2_with fail;have b1 : Below w.heap.size w (w.alloc (.cells zSc 34)) := (Below.refl _ _).alloc (Nat.le_refl _) _;have R1 : Cls (w.alloc (.cells zSc 34)) w.heap.size zSc 34 := Cls.new _ _ _;have hr1 := hr.below b1;generalize w.alloc (.cells zSc 34) = w1 at b1 R1 hr1 |-;refine (nU ao n c bs w1 hl (by omega) hr1 _ rfl).mono ?_;intro e w2 hW
   have hsc : o = match (match M.whole bs with | some d => Sum.inl d | none => Sum.inr (M.iM bs bs.length) : M.Dec ⊕ Nat) with | .inl d => (d, 0, 0) | .inr k => (⟨0, false, [], 0⟩, 1, (k : Int)) := by rw [HO.out, aS, if_neg (by omega)]; rfl
   clear HO
   cases hwv : M.whole bs with
   | some d =>
     rw [hwv] at hW hsc;obtain ⟨ra3, rc3, rfl, own2, b2⟩ := hW;have R2 := R1.below b2;have B2 := b1.trans (b2.mono b1.size);have HS := hid hsc;have ltR : w.heap.size < w1.heap.size := R1.lt;have box : Array Value := #[.int .i64 d.kind, .bool d.neg, .slice ra3 d.digits.length rc3, .int .i64 d.exp];have bA : Below w2.heap.size w2 (w2.alloc (.cells #[.int .i64 d.kind, .bool d.neg, .slice ra3 d.digits.length rc3, .int .i64 d.exp] 32)) := (Below.refl _ _).alloc (Nat.le_refl _) _;have RA := R2.below bA;have BA := B2.trans (bA.mono B2.size);have OA := lH own2 bA;have y0 := RA.cell 0 (x := .int .i64 0) rfl;have y1 := RA.cell 1 (x := .bool false) rfl;have y2 := RA.cell 2 (x := .slice none 0 0) rfl;have y3 := RA.cell 3 (x := .int .i64 0) rfl;have y4 := RA.cell 4 (x := .int .i64 0) rfl;have y5 := RA.cell 5 (x := .int .i64 0) rfl;have f0 := RA.frozen 0;have f1 := RA.frozen 1;have f2 := RA.frozen 2;have f3 := RA.frozen 3;have f4 := RA.frozen 4;have f5 := RA.frozen 5;have RAH := hid RA; have BAH := hid BA; have OWH := hid OA;clear RA BA OA R1 R2 B2 own2 hwv hsc bA hr1 b2 box;unfold oZ;go_wp2_with fail;have O9 := (bK (bK (bK (bK (bK (bK OWH.out ⟨w.heap.size, 0, none⟩ ltR (.int .i64 d.kind)) ⟨w.heap.size, 1, none⟩ ltR (.bool d.neg)) ⟨w.heap.size, 2, none⟩ ltR (.slice ra3 d.digits.length rc3)) ⟨w.heap.size, 3, none⟩ ltR (.int .i64 d.exp)) ⟨w.heap.size, 4, none⟩ ltR (.int .i64 0)) ⟨w.heap.size, 5, none⟩ ltR (.int .i64 0));generalize (w2.alloc (.cells #[.int .i64 d.kind, .bool d.neg, .slice ra3 d.digits.length rc3, .int .i64 d.exp] 32)) = wA at *;have R9 := IC RAH.out rfl (.int .i64 d.kind) (.bool d.neg) (.slice ra3 d.digits.length rc3) (.int .i64 d.exp) (.int .i64 0) (.int .i64 0);have H9 := tG BAH.out (.int .i64 d.kind) (.bool d.neg) (.slice ra3 d.digits.length rc3) (.int .i64 d.exp) (.int .i64 0) (.int .i64 0);generalize ((((((wA.setCell ⟨w.heap.size, 0, none⟩ (.int .i64 d.kind)).setCell ⟨w.heap.size, 1, none⟩ (.bool d.neg)).setCell ⟨w.heap.size, 2, none⟩ (.slice ra3 d.digits.length rc3)).setCell ⟨w.heap.size, 3, none⟩ (.int .i64 d.exp)).setCell ⟨w.heap.size, 4, none⟩ (.int .i64 0)).setCell ⟨w.heap.size, 5, none⟩ (.int .i64 0)) = w9 at R9 H9 O9 |-;have z0 := R9.cell 0 (x := .int .i64 d.kind) rfl;have z1 := R9.cell 1 (x := .bool d.neg) rfl;have z2 := R9.cell 2 (x := .slice ra3 d.digits.length rc3) rfl;have z3 := R9.cell 3 (x := .int .i64 d.exp) rfl;have z4 := R9.cell 4 (x := .int .i64 0) rfl;have z5 := R9.cell 5 (x := .int .i64 0) rfl;refine bodyPost_ret (v := .agg #[.int .i64 d.kind, .bool d.neg, .slice ra3 d.digits.length rc3, .int .i64 d.exp, .int .i64 0, .int .i64 0]) (by simp [results, Tryz.results8, go_sem, z0, z1, z2, z3, z4, z5]) rfl ?_;rw [HS.out];exact ⟨ra3, rc3, rfl, jX O9 b1.size, H9⟩
   | none =>
     rw [hwv] at hW hsc;obtain ⟨rfl, b2⟩ := hW;have R2 := R1.below b2;have B2 := b1.trans (b2.mono b1.size);have HS := hid hsc;have RH := hid R2; have BH := hid B2;have r2 := hr1.below b2;clear hwv hsc R1 R2 B2 b2 hr1;unfold oZ;have bz : Below w2.heap.size w2 (w2.alloc (.cells eF 32)) := (Below.refl _ _).alloc (Nat.le_refl _) _;have RZ := hid (RH.out.below bz);have BZ := hid (BH.out.trans (bz.mono BH.out.size));have rZ := r2.below bz;clear bz RH BH r2;go_upto_block 0 with fail;generalize (w2.alloc (.cells eF 32)) = w3 at *
     go_cut [5] (fun v wr => v = .int .i64 ((M.iM bs bs.length : Nat) : Int) /\ Cls wr w.heap.size zSc 34 /\ Below w.heap.size w wr)
     case first =>
      go_wp2_with fail
      go_loopw [5] (fun v wr => ∃ k : Nat, k <= n /\ v = .int .i64 (k : Int) /\ M.iM bs bs.length = M.iM bs k /\ Cls wr w.heap.size zSc 34 /\ Below w.heap.size w wr /\ RdB wr ao bs) (fun v _ => (intOf v).toNat)
      case atStart => exact ⟨n, Nat.le_refl _, rfl, by rw [hl], RZ.out, BZ.out, rZ⟩
      case round =>
       rename World => wr
       obtain ⟨k, hk, rfl, g1, g2, g3, g4⟩ := hrel;have G1 := hid g1; have G2 := hid g2; have G3 := hid g3;clear g1 g2 g3
       cases k with
       | zero =>
         go_wp2_with fail;go_meet
         case rel => rw [G1.out]; exact ⟨rfl, G2.out, G3.out⟩
       | succ k =>
         have hpos : (0 : Int) < ((k + 1 : Nat) : Int) := by omega
         have hkn : ((k + 1 : Nat) : Int) <= (n : Int) := by omega
         have hkc : k + 1 <= c := by omega
         have e1 : (bs.take (k + 1)).length = k + 1 := by rw [List.length_take]; omega
         have hm1 : ((k + 1 : Nat) : Int) - 1 = (k : Int) := by omega
         obtain ⟨bb, hbb⟩ : ∃ bb, bb = M.eE (bs.take (k + 1)) := ⟨_, rfl⟩;have kB := rW ao (k + 1) c (bs.take (k + 1)) wr e1 (by omega) hno (g4.front (k + 1)) bb hbb;have halo : M.iM bs (k + 1) = if bb then k + 1 else M.iM bs k := by rw [hbb]; rfl
         have HA := hid halo; have G4 := hid g4;clear hbb halo g4 e1;go_wp2_with fail;refine kB.mono ?_;rintro e wB ⟨rfl, b5⟩;have R5 := hid (G2.out.below b5);have B5 := hid (G3.out.trans (b5.mono G3.out.size));have r5 := hid (G4.out.below b5);clear kB b5
         cases bb with
         | true =>
           go_wp2_with fail;go_meet
           case rel => rw [G1.out, HA.out]; exact ⟨rfl, R5.out, B5.out⟩
         | false =>
           go_wp2_with fail;go_roundw
           case rel => exact ⟨k, by omega, by go_num, by rw [G1.out, HA.out]; rfl, R5.out, B5.out, r5.out⟩
           case measure => simp [intOf]
     case rest =>
      rename World => wE
      obtain ⟨rfl, RE, BE⟩ := hcut;generalize M.iM bs bs.length = k at *;have y0 := RE.cell 0 (x := .int .i64 0) rfl;have y1 := RE.cell 1 (x := .bool false) rfl;have y2 := RE.cell 2 (x := .slice none 0 0) rfl;have y3 := RE.cell 3 (x := .int .i64 0) rfl;have y4 := RE.cell 4 (x := .int .i64 0) rfl;have y5 := RE.cell 5 (x := .int .i64 0) rfl;have f0 := RE.frozen 0;have f1 := RE.frozen 1;have f2 := RE.frozen 2;have f3 := RE.frozen 3;have f4 := RE.frozen 4;have f5 := RE.frozen 5;have REH := hid RE; have BEH := hid BE;clear RE BE;go_wp2_with fail;have RE := REH.out;have BE := BEH.out;clear y0 y1 y2 y3 y4 y5 f0 f1 f2 f3 f4 f5;have R9 := IC RE rfl (.int .i64 0) (.bool false) (.slice none 0 0) (.int .i64 0) (.int .i64 1) (.int .i64 ((k : Nat) : Int));have H9 := tG BE (.int .i64 0) (.bool false) (.slice none 0 0) (.int .i64 0) (.int .i64 1) (.int .i64 ((k : Nat) : Int));generalize ((((((wE.setCell ⟨w.heap.size, 0, none⟩ (.int .i64 0)).setCell ⟨w.heap.size, 1, none⟩ (.bool false)).setCell ⟨w.heap.size, 2, none⟩ (.slice none 0 0)).setCell ⟨w.heap.size, 3, none⟩ (.int .i64 0)).setCell ⟨w.heap.size, 4, none⟩ (.int .i64 1)).setCell ⟨w.heap.size, 5, none⟩ (.int .i64 ((k : Nat) : Int))) = w9 at R9 H9 |-;have z0 := R9.cell 0 (x := .int .i64 0) rfl;have z1 := R9.cell 1 (x := .bool false) rfl;have z2 := R9.cell 2 (x := .slice none 0 0) rfl;have z3 := R9.cell 3 (x := .int .i64 0) rfl;have z4 := R9.cell 4 (x := .int .i64 1) rfl;have z5 := R9.cell 5 (x := .int .i64 ((k : Nat) : Int)) rfl;refine bodyPost_ret (v := .agg #[.int .i64 0, .bool false, .slice none 0 0, .int .i64 0, .int .i64 1, .int .i64 ((k : Nat) : Int)]) (by simp [results, Tryz.results8, go_sem, z0, z1, z2, z3, z4, z5]) rfl ?_;rw [HS.out];exact ⟨none, 0, rfl, World.ownsRow_nil _ _ _ _, H9⟩

theorem K5 (k : Int) (u : World) : (Instr.typeAssert (.iface 136 (.agg #[.int .i64 k])) 20 136 true).run Tryz.prog u = .ok (.tuple #[.agg #[.int .i64 k], .bool true]) u := by kernel_rfl

theorem LR (u : World) : (Instr.typeAssert .nilIface 20 136 true).run Tryz.prog u = .ok (.tuple #[.agg #[.int .i64 0], .bool false]) u := by kernel_rfl

theorem n9 (g : Nat) (k : Nat) (w : World) (x0 x1 x2 x3 x4 x5 : Value) (hC : Cls w g #[x0, x1, x2, x3, x4, x5] 34) :
 CallsD Tryz.prog 91 #[.pointer (some ⟨g, 0, none⟩)] (.panicking ({ v := .iface 136 (.agg #[.int .i64 (k : Int)]), recovered := false } :: [])) w fun e u' w' =>
  e = .returned (.tuple #[]) /\ u' = .panicking ({ v := .iface 136 (.agg #[.int .i64 (k : Int)]), recovered := true } :: []) /\ Cls w' g #[.int .i64 0, .bool false, .slice none 0 0, .int .i64 0, .int .i64 1, .int .i64 (k : Int)] 34 /\ Below g w w' := by
 refine callsD_of_wpS Tryz.func91 rfl fun c₀ cs hu => ?_
 apply wpS_seq
 apply wpS_region
 simp [wpOpsS, go_sem, recoverD, hu, Tryz.ntmps91, Exit.thenS, K5]
 have b1 : Below w.heap.size w (w.alloc (.cells #[.int .i64 (k : Int)] 136)) := (Below.refl _ _).alloc (Nat.le_refl _) _;have F1 : Cls (w.alloc (.cells #[.int .i64 (k : Int)] 136)) w.heap.size #[.int .i64 (k : Int)] 136 := Cls.new _ _ _;have C1 := hC.below b1;have hlt := hC.lt;generalize w.alloc (.cells #[.int .i64 (k : Int)] 136) = w1 at *;have d0 := F1.cell 0 (x := .int .i64 (k : Int)) rfl;have c0 := C1.cell 0 (x := x0) rfl;have c1 := C1.cell 1 (x := x1) rfl;have c2 := C1.cell 2 (x := x2) rfl;have c3 := C1.cell 3 (x := x3) rfl;have c4 := C1.cell 4 (x := x4) rfl;have c5 := C1.cell 5 (x := x5) rfl;have f0 := C1.frozen 0;have f1 := C1.frozen 1;have f2 := C1.frozen 2;have f3 := C1.frozen 3;have f4 := C1.frozen 4;have f5 := C1.frozen 5
 apply wpS_seq
 apply wpS_region
 simp [wpOpsS, go_sem, Exit.thenS]
 refine wpS_cond (t := true) (by simp [Act.eval, Array.replicate]) ?_;simp only [if_true]
 apply wpS_region
 have B9 : Below g w ((((((w1.setCell ⟨g, 0, none⟩ (.int .i64 0)).setCell ⟨g, 1, none⟩ (.bool false)).setCell ⟨g, 2, none⟩ (.slice none 0 0)).setCell ⟨g, 3, none⟩ (.int .i64 0)).setCell ⟨g, 4, none⟩ (.int .i64 1)).setCell ⟨g, 5, none⟩ (.int .i64 (k : Int))) := tG (b1.mono (by omega)) _ _ _ _ _ _;have R9 := IC C1 rfl (.int .i64 0) (.bool false) (.slice none 0 0) (.int .i64 0) (.int .i64 1) (.int .i64 (k : Int))
 simp [wpOpsS, go_sem, d0, c0, c1, c2, c3, c4, c5, f0, f1, f2, f3, f4, f5, bodyPostS, results, Tryz.results91]
 exact ⟨R9, B9⟩

theorem xO (g : Nat) (w : World) :
 CallsD Tryz.prog 91 #[.pointer (some ⟨g, 0, none⟩)] .returning w fun e u' w' => e = .returned (.tuple #[]) /\ u' = .returning /\ Below w.heap.size w w' := by
 refine callsD_of_wpS Tryz.func91 rfl fun c₀ cs hu => ?_
 apply wpS_seq
 apply wpS_region
 simp [wpOpsS, go_sem, recoverD, hu, Tryz.ntmps91, Exit.thenS, LR]
 have b1 : Below w.heap.size w (w.alloc (.cells #[.int .i64 0] 136)) := (Below.refl _ _).alloc (Nat.le_refl _) _;generalize w.alloc (.cells #[.int .i64 0] 136) = w1 at *
 apply wpS_seq
 apply wpS_region
 simp [wpOpsS, go_sem, Exit.thenS]
 refine wpS_cond (t := false) (by simp [Act.eval, Array.replicate]) ?_;simp only [Bool.false_eq_true, if_false];refine wpS_of_wp (wp_skip ?_);cases c₀
 simp_all [bodyPostS, results, Tryz.results91]

theorem CK (ao : Option Addr) (n c : Nat) (bs : List Nat) (w : World) (hl : bs.length = n) (hr : RdB w ao bs) (hF : Fol w) (hWd : Wds w) (o : M.Dec × Int × Int) (ho : o = aS bs) :
 Calls Tryz.prog 47 #[.slice ao n c] w fun e w' => ∃ v, e = .returned (scV o v) /\ OwnV w' w.heap.size v o.1.digits /\ Below w.heap.size w w' := by
 have hmf : ∀ (fn : Fn) (first cap : Array Value) (w : World), (Instr.makeFunc fn first cap).run Tryz.prog w = .ok (.func fn first cap) w := fun _ _ _ _ => rfl
 have HO := hid ho; clear ho
 by_cases h8 : 800 < n
 . have h8' : (800 : Int) < (n : Int) := by omega
   go_enter_defers Tryz.func47, Tryz.ntmps47
   go_wp2_with fail;have R9 := Cls.new w #[.int .i64 0, .bool false, .slice none 0 0, .int .i64 0, .int .i64 2, .int .i64 800] 34;have H9 : Below w.heap.size w (w.alloc (.cells #[.int .i64 0, .bool false, .slice none 0 0, .int .i64 0, .int .i64 2, .int .i64 800] 34)) := (Below.refl _ _).alloc (Nat.le_refl _) _;generalize w.alloc (.cells #[.int .i64 0, .bool false, .slice none 0 0, .int .i64 0, .int .i64 2, .int .i64 800] 34) = w9 at R9 H9 |-;have z0 := R9.cell 0 (x := .int .i64 0) rfl;have z1 := R9.cell 1 (x := .bool false) rfl;have z2 := R9.cell 2 (x := .slice none 0 0) rfl;have z3 := R9.cell 3 (x := .int .i64 0) rfl;have z4 := R9.cell 4 (x := .int .i64 2) rfl;have z5 := R9.cell 5 (x := .int .i64 800) rfl;have hoo : o = (⟨0, false, [], 0⟩, 2, 800) := by rw [HO.out, aS, if_pos (by omega)]
   simp [bodyPostD, Leaves, results, Tryz.results47, go_sem, z0, z1, z2, z3, z4, z5]
   rw [hoo];exact ⟨.slice none 0 0, rfl, OwnV.nil _ _, H9⟩
 . have h8' : ¬ (800 : Int) < (n : Int) := by omega
   go_enter_defers Tryz.func47, Tryz.ntmps47
   have b1 : Below w.heap.size w (w.alloc (.cells zSc 34)) := (Below.refl _ _).alloc (Nat.le_refl _) _;have R1 : Cls (w.alloc (.cells zSc 34)) w.heap.size zSc 34 := Cls.new _ _ _;have hcv := mP ao n c bs (w.alloc (.cells zSc 34)) hl (hr.below b1);have hsl : (pK bs).size <= 800 := by rw [<- iP, iJ bs hr.1, hl]; omega
   have kS := EI (pK bs) (w.alloc (.cells zSc 34)) hsl (hF.below b1) (hWd.below b1) _ rfl;rw [iJ bs hr.1] at kS
   have hsc : aS bs = match M.gV bs with | .inl d => (d, 0, 0) | .inr k => (⟨0, false, [], 0⟩, 1, (k : Int)) := by
    rw [aS, if_neg (by omega), M.I0]
    all_goals (cases M.uR bs <;> rfl)
   rw [hsc] at HO;clear hsc;go_wp2_with fail;refine kS.mono ?_;intro e w2 hP;clear kS hcv;generalize w.alloc (.cells zSc 34) = w1 at *;have ltR := R1.lt
   cases hI : M.gV bs with
   | inl d =>
     rw [hI] at hP HO;obtain ⟨xv, rfl, hV, b2⟩ := hP;obtain ⟨xa, xc, rfl, hv2⟩ := hV;have V2 : OwnV w2 w1.heap.size (.slice xa d.digits.length xc) d.digits := ⟨xa, xc, rfl, hv2⟩;have R2 := R1.below b2;have B2 := b1.trans (b2.mono b1.size);have y0 := R2.cell 0 (x := .int .i64 0) rfl;have y1 := R2.cell 1 (x := .bool false) rfl;have y2 := R2.cell 2 (x := .slice none 0 0) rfl;have y3 := R2.cell 3 (x := .int .i64 0) rfl;have y4 := R2.cell 4 (x := .int .i64 0) rfl;have y5 := R2.cell 5 (x := .int .i64 0) rfl;have f0 := R2.frozen 0;have f1 := R2.frozen 1;have f2 := R2.frozen 2;have f3 := R2.frozen 3;have f4 := R2.frozen 4;have f5 := R2.frozen 5;have HV := hid V2; have HR2 := hid R2; have HB2 := hid B2;clear V2 R2 B2 hv2 b2 hI R1;unfold oZ;go_wp2_with fail;have R9 := IC HR2.out rfl (.int .i64 d.kind) (.bool d.neg) (.slice xa d.digits.length xc) (.int .i64 d.exp) (.int .i64 0) (.int .i64 0);have H9 := tG HB2.out (.int .i64 d.kind) (.bool d.neg) (.slice xa d.digits.length xc) (.int .i64 d.exp) (.int .i64 0) (.int .i64 0);have O9 := ((((((HV.out.far ⟨w.heap.size, 0, none⟩ ltR (.int .i64 d.kind)).far ⟨w.heap.size, 1, none⟩ ltR (.bool d.neg)).far ⟨w.heap.size, 2, none⟩ ltR (.slice xa d.digits.length xc)).far ⟨w.heap.size, 3, none⟩ ltR (.int .i64 d.exp)).far ⟨w.heap.size, 4, none⟩ ltR (.int .i64 0)).far ⟨w.heap.size, 5, none⟩ ltR (.int .i64 0));generalize ((((((w2.setCell ⟨w.heap.size, 0, none⟩ (.int .i64 d.kind)).setCell ⟨w.heap.size, 1, none⟩ (.bool d.neg)).setCell ⟨w.heap.size, 2, none⟩ (.slice xa d.digits.length xc)).setCell ⟨w.heap.size, 3, none⟩ (.int .i64 d.exp)).setCell ⟨w.heap.size, 4, none⟩ (.int .i64 0)).setCell ⟨w.heap.size, 5, none⟩ (.int .i64 0)) = w9 at R9 H9 O9 |-;refine leaves_cons (f := 91) (args := #[.pointer (some ⟨w.heap.size, 0, none⟩)]) (by simp) (by simp [go_sem]) ?_;refine (xO w.heap.size w9).mono ?_;rintro e u' w10 ⟨rfl, rfl, b5⟩;have R10 := R9.below b5;have H10 := H9.trans (b5.mono H9.size);have O10 := (O9.below b5).low (Nat.le_of_lt ltR);have z0 := R10.cell 0 (x := .int .i64 d.kind) rfl;have z1 := R10.cell 1 (x := .bool d.neg) rfl;have z2 := R10.cell 2 (x := .slice xa d.digits.length xc) rfl;have z3 := R10.cell 3 (x := .int .i64 d.exp) rfl;have z4 := R10.cell 4 (x := .int .i64 0) rfl;have z5 := R10.cell 5 (x := .int .i64 0) rfl
     simp [Leaves, settle, results, Tryz.results47, go_sem, z0, z1, z2, z3, z4, z5]
     rw [HO.out];exact ⟨_, rfl, O10, H10⟩
   | inr k =>
     rw [hI] at hP HO;obtain ⟨rfl, b2⟩ := hP;have R2 := R1.below b2;have B2 := b1.trans (b2.mono b1.size);clear hI R1 b2
     dsimp only
     refine leaves_cons (f := 91) (args := #[.pointer (some ⟨w.heap.size, 0, none⟩)]) (by simp) (by simp [go_sem]) ?_;refine (n9 w.heap.size k w2 _ _ _ _ _ _ R2).mono ?_;rintro e u' w10 ⟨rfl, rfl, R10, b5⟩;have H10 := B2.trans b5;have z0 := R10.cell 0 (x := .int .i64 0) rfl;have z1 := R10.cell 1 (x := .bool false) rfl;have z2 := R10.cell 2 (x := .slice none 0 0) rfl;have z3 := R10.cell 3 (x := .int .i64 0) rfl;have z4 := R10.cell 4 (x := .int .i64 1) rfl;have z5 := R10.cell 5 (x := .int .i64 (k : Int)) rfl
     simp [Leaves, settle, results, Tryz.results47, go_sem, z0, z1, z2, z3, z4, z5]
     rw [HO.out];exact ⟨.slice none 0 0, rfl, OwnV.nil _ _, H10⟩

end Go.Proofs.YtfdgkleoaehjaaaGreatDoor
namespace Go.Proofs.YtfdgkleoaehjaaaGreatDoor.M
set_option linter.unusedVariables false
set_option maxRecDepth 100000
def dec (bs : List Nat) : Nat := bs.foldl (fun v c => v * 10 + (c - 48)) 0

theorem FA (bs : List Nat) (c : Nat) : dec (bs ++ [c]) = dec bs * 10 + (c - 48) := by simp [dec]

theorem tK (bs : List Nat) : ∀ v : Nat, bs.foldl (fun v c => v * 10 + (c - 48)) v = v * 10 ^ bs.length + dec bs := by
 induction bs with
 | nil => intro v; simp [dec]
 | cons c bs ih =>
   intro v
   have e : dec (c :: bs) = (c - 48) * 10 ^ bs.length + dec bs := by
    have h := ih (0 * 10 + (c - 48));rw [Nat.zero_mul, Nat.zero_add] at h;unfold dec at h |-;rw [List.foldl_cons, Nat.zero_mul, Nat.zero_add];exact h
   rw [List.foldl_cons, ih, e, List.length_cons, Nat.pow_succ, Nat.add_mul, Nat.mul_assoc, Nat.mul_comm 10];omega

theorem mT (c : Nat) (bs : List Nat) : dec (c :: bs) = (c - 48) * 10 ^ bs.length + dec bs := by
 have := tK bs (0 * 10 + (c - 48));rw [Nat.zero_mul, Nat.zero_add] at this;unfold dec at this |-;rw [List.foldl_cons, Nat.zero_mul, Nat.zero_add];exact this

theorem zG (xs ys : List Nat) : dec (xs ++ ys) = dec xs * 10 ^ ys.length + dec ys := by
 have := tK ys (dec xs);rw [<- this];unfold dec;rw [List.foldl_append]

def Dig (bs : List Nat) : Prop := ∀ c ∈ bs, 48 <= c /\ c <= 57

theorem Dig.get {bs : List Nat} (h : Dig bs) (i : Nat) (hi : i < bs.length) : 48 <= bs.getD i 0 /\ bs.getD i 0 <= 57 := by
 rw [List.getD_eq_getElem?_getD, List.getElem?_eq_getElem hi];exact h _ (List.getElem_mem hi)

theorem gT (bs : List Nat) (h : Dig bs) : dec bs < 10 ^ bs.length := by
 induction bs with
 | nil => simp [dec]
 | cons c bs ih =>
   have h1 := ih (fun x hx => h x (List.mem_cons_of_mem _ hx))
   have h2 := h c (by simp);rw [mT, List.length_cons, Nat.pow_succ];have h3 : (c - 48) * 10 ^ bs.length <= 9 * 10 ^ bs.length := Nat.mul_le_mul_right _ (by omega);omega

theorem mU (bs : List Nat) (i t : Nat) (h : i + t < bs.length) : dec (seg bs i (t + 1)) = dec (seg bs i t) * 10 + (bs.getD (i + t) 0 - 48) := by
 have e : seg bs i (t + 1) = seg bs i t ++ [bs.getD (i + t) 0] := by
  unfold seg;rw [jQ _ _ (by simp; omega)]
  congr 2
  simp [List.getD_eq_getElem?_getD]
 rw [e, FA]

theorem mB (bs : List Nat) (i t : Nat) (h : i + t <= bs.length) : dec (bs.take (i + t)) = dec (bs.take i) * 10 ^ t + dec (seg bs i t) := by
 have e : bs.take (i + t) = bs.take i ++ seg bs i t := by unfold seg; rw [List.take_add]
 rw [e, zG, dF _ _ _ h]

theorem Dig.seg {bs : List Nat} (h : Dig bs) (i t : Nat) : Dig (seg bs i t) := fun c hc => h c (List.mem_of_mem_drop (List.mem_of_mem_take hc))

end Go.Proofs.YtfdgkleoaehjaaaGreatDoor.M
