import Derived.Test.YtodgblbaclionaaGreatDoorqBU
namespace Go.Proofs.YtodgblbaclionaaGreatDoor

open Go.RowKit

set_option linter.unusedVariables false
set_option maxRecDepth 100000

set_option maxHeartbeats 2000000 in
theorem scan_any (s : ByteArray) (w : World) (hs : s.size ≤ 800) (hF : Fol w) (hWd : Wds w) (o : M.Dec ⊕ Nat) (ho : o = M.scanI (lett s)) :
    Calls Tryz.prog 75 #[.string s] w fun e w' => ScanP w w' e o := by
  have HO := hid ho; clear ho
  have hl := lett_len s
  go_enter Tryz.func75, Tryz.ntmps75
  go_wp2_with fail
  go_upto_block 0 with fail
  repeat (go_step3; go_upto_block 0 with fail)
  go_cut [4, 5] (fun stv bv wr => AfterW w wr (lett s) stv bv)
  case first =>
    go_wp2_with fail
    go_loopw [4] (fun stv wr => ∃ (pos st : Nat) (sn : M.Sn), stv = .int .i64 (st : Int) ∧ wr.heap[w.heap.size + 2]? = some (.stringIter s pos) ∧ pos ≤ s.size ∧ 1 ≤ st ∧ st ≤ 9 ∧ SnR wr (w.heap.size + 1) (w.heap.size + 3) sn ∧ Cls wr w.heap.size zDec 61 ∧ Below w.heap.size w wr ∧ M.walk (lett s) 0 1 (M.s0 false) = M.walk ((lett s).drop pos) pos st sn ∧ sn.digits.length ≤ pos ∧ sn.behind ≤ pos ∧ sn.exponent ≤ 1000000 ∧ ∀ x ∈ sn.digits, x < 256) (fun _ wr => s.size - World.iterPos wr (w.heap.size + 2))
    case atStart =>
      obtain ⟨a1, a2, a3, a4⟩ := start_ok w s _ rfl
      exact ⟨0, 1, M.s0 false, rfl, a1, by omega, by omega, by omega, a2, a3, a4, by rw [List.drop_zero], by simp, by simp, by simp, fun x hx => by simp at hx⟩
    case round =>
      rename World => wr
      obtain ⟨pos, st, sn, rfl, hit, hps, hs1, hs9, hSn, hZ, hB, hW, hl1, hl2, hl3, hl4⟩ := hrel
      have HL4 := hid hl4; clear hl4
      have hpos0 := iterPos_of hit
      by_cases hp : pos < s.size
      · obtain ⟨l, p', hnx, hlm, hll⟩ := next_letter wr (w.heap.size + 2) s pos hit hp
        have HP := hid hp
        have hit2 := Lib.iterAt_heap wr (w.heap.size + 2) s pos p' hit
        have hB2 := Lib.below_iterAt hB (k := w.heap.size + 2) (by omega) s p'
        have hSn2 := hSn.iterAt (w.heap.size + 2) (by omega) (by omega) s p'
        have hZ2 := hZ.iterAt (w.heap.size + 2) (by omega) s p'
        have hF2 := hF.below hB2
        obtain ⟨W1, hW1⟩ : ∃ W1, W1 = wr.iterAt (w.heap.size + 2) s p' := ⟨_, rfl⟩
        rw [← hW1] at hnx hit2 hB2 hSn2 hZ2 hF2
        have hso : M.sortOf l = M.sortOf ((lett s).getD pos 0) := by
          rcases hll with ⟨_, e, _⟩ | ⟨e1, e2, _⟩
          · rw [e]
          · rw [sort_high _ e1, sort_high _ e2]
        have hsl := sort_lt l
        have hcell := hF2.2 st (M.sortOf l) (by omega) hsl
        have kS := fun (u : World) => sortOf_any l hlm u _ rfl
        have hdr := drop_cons (lett s) pos (by omega)
        rw [hdr] at hW
        generalize (lett s).getD pos 0 = c at *
        generalize hSo : M.sortOf l = so at *
        have hs1' : (0 : Int) ≤ (st : Int) := by omega
        have hs9' : (st : Int) < 10 := by omega
        have hso' : (so : Int) < 6 := by omega
        have HW := hid hW; have HB := hid hB2; have HSN := hid hSn2; have HZ := hid hZ2; have HIT := hid hit2; have HLL := hid hll; have HFW := hid hF2; have HSS := hid hso; have HSO := hid hSo
        clear hW hB hB2 hSn hSn2 hZ hZ2 hit hit2 hll hF2 hW1 hso hdr hSo
        go_wp2_with fail
        go_quiet ((go_at_call 87; exact Calls.quiet_of_same (kS _)))
        have bq : Below W1.heap.size W1 (W1.drewN nq) := below_drewN (Below.refl _ _) nq
        have HB2 := hid (HB.out.trans (bq.mono HB.out.size))
        have HSN2 := hid (HSN.out.below bq)
        have HZ2 := hid (HZ.out.below bq)
        have HIT2 : Hid ((W1.drewN nq).heap[w.heap.size + 2]? = some (.stringIter s p')) := hid ((bq.block _ (lt_of_block HIT.out)).trans HIT.out)
        generalize W1.drewN nq = W2 at *
        clear bq HB HSN HZ HIT hcell kS HFW
        have hn10 := M.next_le st so
        have hn2 := next_two (so := so) hs1
        have hnd := next_digit (st := st) (so := so)
        have hwk : ∀ r, M.next st so ≠ 0 → M.next st so ≠ 10 → M.walk (c :: r) pos st sn = M.walk r (pos + 1) (M.next st so) (M.take (M.next st so) c sn) := fun r e0 e1 => M.step r pos sn (by rw [← HSS.out]) e0 e1
        have hw0 : ∀ r, M.next st so = 0 → M.walk (c :: r) pos st sn = .stuck pos := fun r e0 => by rw [M.walk, ← HSS.out, if_pos e0]
        have hw1 : ∀ r, M.next st so = 10 → M.walk (c :: r) pos st sn = .word pos sn.neg := fun r e0 => by rw [M.walk, ← HSS.out, if_neg (by omega), if_pos e0]
        have hz0 : so = 0 → M.next st so = 0 := fun e => by rw [e]; exact M.next0 st
        generalize M.next st so = ns at *
        by_cases e0 : ns = 0
        · subst e0
          have hout : o = .inr pos := by rw [HO.out, M.scanI, HW.out, hw0 _ rfl]; rfl
          have HOO := hid hout
          clear hwk hw0 hw1 hnd hn2 hout hz0
          go_wp2_with fail
          simp only [Exit.noGoto]
          refine ⟨rfl, ?_⟩
          rw [HOO.out]
          exact ⟨rfl, HB2.out⟩
        · by_cases e1 : ns = 10
          · subst e1
            have hww := HW.out.trans (hw1 _ rfl)
            have HWW := hid hww
            clear hwk hw0 hw1 hnd hn2 hww e0 hz0
            go_wp2_with fail
            go_meet
            case rel => exact ⟨10, sn, rfl, HSN2.out, HZ2.out, HB2.out, .inr ⟨rfl, pos, rfl, by omega, HWW.out⟩⟩
          · have hww := HW.out.trans (hwk _ e0 e1)
            have hb0 : ((ns : Int) == 0) = false := by rw [beq_eq_false_iff_ne]; omega
            have hb1 : ((ns : Int) == 10) = false := by rw [beq_eq_false_iff_ne]; omega
            have h2n := hn2 e0
            have h9n : ns ≤ 9 := by omega
            have H2N := hid h2n; have H9N := hid h9n
            have hso0 : so ≠ 0 := fun e => e0 (hz0 e)
            have hcl : c < 128 ∧ l = c ∧ p' = pos + 1 := by
              rcases HLL.out with q | q
              · exact q
              · exfalso; exact hso0 (by rw [← HSO.out]; exact sort_high l q.2.1)
            obtain ⟨hc1, rfl, rfl⟩ := hcl
            have kT := take_any (w.heap.size + 1) (w.heap.size + 3) ns l sn W2 HSN2.out (by omega) (by omega) hl3 ⟨h2n, by omega⟩ hlm (fun q => digit_of_sort (by rw [HSO.out]; exact hnd q))
            have HWW := hid hww
            clear hwk hw0 hw1 hnd hn2 hww e0 e1 hz0 hso0
            go_wp2_with fail
            refine kT.mono ?_
            rintro e W3 ⟨rfl, hS3, hK3⟩
            have HS3 := hid hS3; have HK3 := hid hK3
            clear hS3 hK3 kT
            go_wp2_with fail
            go_roundw
            case rel =>
              have := take_len ns l sn pos hl1 hl2 hl3
              exact ⟨pos + 1, ns, M.take ns l sn, rfl, (HK3.out.keep (w.heap.size + 2) (by omega) (by omega)).trans HIT2.out, HP.out, Nat.le_trans (by omega) H2N.out, H9N.out, HS3.out, (HK3.out.keep w.heap.size (by omega) (by omega)).trans HZ2.out, HB2.out.trans (HK3.out.below.mono (by omega)), HWW.out, this.1, this.2.1, this.2.2, take_256 ns l sn (by omega) HL4.out⟩
            case measure =>
              rw [iterPos_of ((HK3.out.keep (w.heap.size + 2) (by omega) (by omega)).trans HIT2.out), hpos0]; have := HP.out; omega
      · have hend : ∀ ty, (Instr.next (.pointer (some ⟨w.heap.size + 2, 0, none⟩)) true ty).run Tryz.prog wr = .ok (.tuple #[.bool false]) wr := fun ty => Lib.run_next_end_at wr (w.heap.size + 2) s pos ty hit hp
        have hnil : (lett s).drop pos = [] := List.drop_eq_nil_of_le (by omega)
        rw [hnil] at hW
        have HW := hid hW; have HB := hid hB; have HSN := hid hSn; have HZ := hid hZ
        clear hW hB hSn hZ hit hnil
        go_wp2_with fail
        go_meet
        case rel => exact ⟨st, sn, rfl, HSN.out, HZ.out, HB.out, .inl ⟨hs9, hs1, HW.out, by omega, by omega, hl3, HL4.out⟩⟩
  case rest =>
    rename World => wr
    obtain ⟨st, sn, rfl, hSn, hZ, hB, hcase⟩ := hcut
    have hW2 := hWd.below hB
    rcases hcase with ⟨h9, h1, hw, g1, g2, g3, g4⟩ | ⟨rfl, b, rfl, hbl, hw⟩
    · have hx10 : ((st : Int) == 10) = false := by rw [beq_eq_false_iff_ne]; omega
      by_cases hg : st = 3 ∨ st = 5 ∨ st = 6 ∨ st = 9
      · have hout : o = .inl sn.dec := by rw [HO.out, M.scanI, hw]; simp [M.Out.scan, M.good, hg]
        have kD := decimal_any (w.heap.size + 1) (w.heap.size + 3) sn wr hSn (by omega) (by omega) g3 g4
        have HOO := hid hout; have HB := hid hB; have HZ := hid hZ
        clear hout hw hSn hB hZ
        rcases hg with rfl | rfl | rfl | rfl
        all_goals
          go_wp2_with fail
          refine kD.mono ?_
          rintro e W3 ⟨xv, rfl, hV, b3⟩
          obtain ⟨xa, xc, rfl, hv2⟩ := hV
          have V3 : OwnV W3 (w.heap.size + 3) (.slice xa sn.dec.digits.length xc) sn.dec.digits := ⟨xa, xc, rfl, hv2⟩
          have R3 := HZ.out.below b3
          have B3 := HB.out.trans (b3.mono HB.out.size)
          have HV3 := hid V3; have HR3 := hid R3; have HB3 := hid B3
          clear V3 R3 B3 hv2 kD b3
          have y0 := HR3.out.cell 0 (x := .int .i64 0) rfl
          have y1 := HR3.out.cell 1 (x := .bool false) rfl
          have y2 := HR3.out.cell 2 (x := .slice none 0 0) rfl
          have y3 := HR3.out.cell 3 (x := .int .i64 0) rfl
          have f0 := HR3.out.frozen 0
          have f1 := HR3.out.frozen 1
          have f2 := HR3.out.frozen 2
          have f3 := HR3.out.frozen 3
          have ltR : w.heap.size < w.heap.size + 3 := by omega
          unfold decV
          go_wp2_with fail
          have R9 := box4 HR3.out rfl (.int .i64 sn.dec.kind) (.bool sn.dec.neg) (.slice xa sn.dec.digits.length xc) (.int .i64 sn.dec.exp)
          have H9 := below4 HB3.out (.int .i64 sn.dec.kind) (.bool sn.dec.neg) (.slice xa sn.dec.digits.length xc) (.int .i64 sn.dec.exp)
          have O9 := (((HV3.out.far ⟨w.heap.size, 0, none⟩ ltR (.int .i64 sn.dec.kind)).far ⟨w.heap.size, 1, none⟩ ltR (.bool sn.dec.neg)).far ⟨w.heap.size, 2, none⟩ ltR (.slice xa sn.dec.digits.length xc)).far ⟨w.heap.size, 3, none⟩ ltR (.int .i64 sn.dec.exp)
          generalize ((((W3.setCell ⟨w.heap.size, 0, none⟩ (.int .i64 sn.dec.kind)).setCell ⟨w.heap.size, 1, none⟩ (.bool sn.dec.neg)).setCell ⟨w.heap.size, 2, none⟩ (.slice xa sn.dec.digits.length xc)).setCell ⟨w.heap.size, 3, none⟩ (.int .i64 sn.dec.exp)) = w9 at R9 H9 O9 ⊢
          have z0 := R9.cell 0 (x := .int .i64 sn.dec.kind) rfl
          have z1 := R9.cell 1 (x := .bool sn.dec.neg) rfl
          have z2 := R9.cell 2 (x := .slice xa sn.dec.digits.length xc) rfl
          have z3 := R9.cell 3 (x := .int .i64 sn.dec.exp) rfl
          simp only [Exit.noGoto]
          refine bodyPost_ret (v := .agg #[.int .i64 sn.dec.kind, .bool sn.dec.neg, .slice xa sn.dec.digits.length xc, .int .i64 sn.dec.exp]) (by simp [results, Tryz.results75, go_sem, z0, z1, z2, z3]) rfl ?_
          rw [HOO.out]
          exact ⟨_, rfl, O9.low (by omega), H9⟩
      · have hout : o = .inr (lett s).length := by rw [HO.out, M.scanI, hw]; simp [M.Out.scan, M.good, hg]
        have b3 : ((st : Int) == 3) = false := by rw [beq_eq_false_iff_ne]; omega
        have b5 : ((st : Int) == 5) = false := by rw [beq_eq_false_iff_ne]; omega
        have b6 : ((st : Int) == 6) = false := by rw [beq_eq_false_iff_ne]; omega
        have b9 : ((st : Int) == 9) = false := by rw [beq_eq_false_iff_ne]; omega
        have HOO := hid hout; have HB := hid hB
        clear hout hw hSn hB hZ hg
        go_wp2_with fail
        refine ⟨rfl, ?_⟩
        rw [HOO.out, hl]
        exact ⟨rfl, HB.out⟩
    · have hout : o = M.scanWord ((lett s).drop b) b sn.neg := by rw [HO.out, M.scanI, hw]; rfl
      have kW := scanWord_any s b sn.neg wr hs (by omega) hW2 _ rfl
      obtain ⟨_, _, aa, cc, hC, _⟩ := hSn
      have c0 := hC.cell 0 (x := .bool sn.neg) rfl
      have HOO := hid hout; have HB := hid hB; have HZ := hid hZ
      clear hout hw hB hZ hC
      go_wp2_with fail
      refine kW.mono ?_
      intro e W4 hP
      rw [← HOO.out] at hP
      have HOW := HOO
      clear kW HOO
      have hlr : w.heap.size < wr.heap.size := HZ.out.lt
      cases o with
      | inl d =>
          obtain ⟨xv, rfl, hV, b4⟩ := hP
          obtain ⟨xa, xc, rfl, hv2⟩ := hV
          have V4 : OwnV W4 wr.heap.size (.slice xa d.digits.length xc) d.digits := ⟨xa, xc, rfl, hv2⟩
          have HV4 := hid V4
          have HR4 := hid (HZ.out.below b4)
          have HB4 := hid (HB.out.trans (b4.mono HB.out.size))
          clear V4 hv2 b4
          have y0 := HR4.out.cell 0 (x := .int .i64 0) rfl
          have y1 := HR4.out.cell 1 (x := .bool false) rfl
          have y2 := HR4.out.cell 2 (x := .slice none 0 0) rfl
          have y3 := HR4.out.cell 3 (x := .int .i64 0) rfl
          have f0 := HR4.out.frozen 0
          have f1 := HR4.out.frozen 1
          have f2 := HR4.out.frozen 2
          have f3 := HR4.out.frozen 3
          have ltR : w.heap.size < wr.heap.size := hlr
          unfold decV
          go_wp2_with fail
          have R9 := box4 HR4.out rfl (.int .i64 d.kind) (.bool d.neg) (.slice xa d.digits.length xc) (.int .i64 d.exp)
          have H9 := below4 HB4.out (.int .i64 d.kind) (.bool d.neg) (.slice xa d.digits.length xc) (.int .i64 d.exp)
          have O9 := (((HV4.out.far ⟨w.heap.size, 0, none⟩ ltR (.int .i64 d.kind)).far ⟨w.heap.size, 1, none⟩ ltR (.bool d.neg)).far ⟨w.heap.size, 2, none⟩ ltR (.slice xa d.digits.length xc)).far ⟨w.heap.size, 3, none⟩ ltR (.int .i64 d.exp)
          generalize ((((W4.setCell ⟨w.heap.size, 0, none⟩ (.int .i64 d.kind)).setCell ⟨w.heap.size, 1, none⟩ (.bool d.neg)).setCell ⟨w.heap.size, 2, none⟩ (.slice xa d.digits.length xc)).setCell ⟨w.heap.size, 3, none⟩ (.int .i64 d.exp)) = w9 at R9 H9 O9 ⊢
          have z0 := R9.cell 0 (x := .int .i64 d.kind) rfl
          have z1 := R9.cell 1 (x := .bool d.neg) rfl
          have z2 := R9.cell 2 (x := .slice xa d.digits.length xc) rfl
          have z3 := R9.cell 3 (x := .int .i64 d.exp) rfl
          simp only [Exit.noGoto]
          refine bodyPost_ret (v := .agg #[.int .i64 d.kind, .bool d.neg, .slice xa d.digits.length xc, .int .i64 d.exp]) (by simp [results, Tryz.results75, go_sem, z0, z1, z2, z3]) rfl ?_
          exact ⟨_, rfl, O9.low (Nat.le_of_lt hlr), H9⟩
      | inr k =>
          obtain ⟨rfl, b4⟩ := hP
          have HB4 := hid (HB.out.trans (b4.mono HB.out.size))
          first | (refine ⟨rfl, ?_⟩; exact ⟨rfl, HB4.out⟩) | (simp only [Exit.noGoto]; refine ⟨rfl, ?_⟩; exact ⟨rfl, HB4.out⟩)

end Go.Proofs.YtodgblbaclionaaGreatDoor

