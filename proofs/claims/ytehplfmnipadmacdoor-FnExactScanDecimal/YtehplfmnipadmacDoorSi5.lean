/-
  impl: (*scanner).decimal, commonBeginning.
-/
import Derived.Test.YtehplfmnipadmacDoorSi4
namespace Go.Proofs.YtehplfmnipadmacDoor
open Go.RowKit
set_option linter.unusedVariables false

set_option maxHeartbeats 1000000 in
theorem decimal_any (g B : Nat) (sn : M.Sn) (v : World) (h : SnR v g B sn) (h1 : sn.digits.length ≤ 1000) (h2 : sn.behind ≤ 1000) (h3 : sn.exponent ≤ 1000000) (hx : ∀ x ∈ sn.digits, x < 256) :
    Calls Tryd.prog 27 #[.pointer (some ⟨g, 0, none⟩)] v fun e v' => ∃ x, e = .returned (decV sn.dec x) ∧ OwnV v' B x sn.dec.digits ∧ Below v.heap.size v v' := by
  obtain ⟨hgB, hBv, a, cap, hC, hO⟩ := h
  have hV := OwnV.of_own hO hx
  have hgv := hC.lt
  have b1 : Below v.heap.size v (v.alloc (.cells zDec 24)) := (Below.refl _ _).alloc (Nat.le_refl _) _
  have C1 := hC.below b1
  have R1 : Cls (v.alloc (.cells zDec 24)) v.heap.size zDec 24 := Cls.new _ _ _
  have V1 := hV.below b1
  have c0 := C1.cell 0 (x := .bool sn.neg) rfl
  have c1 := C1.cell 1 (x := .slice a sn.digits.length cap) rfl
  have c2 := C1.cell 2 (x := .int .i64 (sn.behind : Int)) rfl
  have c3 := C1.cell 3 (x := .bool sn.expNeg) rfl
  have c4 := C1.cell 4 (x := .int .i64 (sn.exponent : Int)) rfl
  have hdec : sn.dec = ⟨1, sn.neg, M.bareD sn.digits, M.bareE sn.digits ((if sn.expNeg then -(sn.exponent : Int) else sn.exponent) - sn.behind)⟩ := rfl
  have HD := hid hdec
  have hsz : (v.alloc (.cells zDec 24)).heap.size = v.heap.size + 1 := by simp
  have V1H := hid V1; have R1H := hid R1; have B1H := hid b1; have HSZ := hid hsz
  have HV0 := hid hV.bv
  clear V1 R1 b1 hdec hsz hV C1
  go_enter Tryd.func27, Tryd.ntmps27
  cases hen : sn.expNeg with
  | false =>
    rw [hen] at c3 HD
    go_wp2_with fail
    go_quiet ((go_at_call 31; exact Calls.quiet_of_same (bare_any B a sn.digits.length cap sn.digits ((sn.exponent : Int) - sn.behind) _ rfl (by omega) (by omega) (V1H.out.below (below_drewN (Below.refl _ _) _)))))
    have bq : Below (v.alloc (.cells zDec 24)).heap.size (v.alloc (.cells zDec 24)) ((v.alloc (.cells zDec 24)).drewN nq) := below_drewN (Below.refl _ _) nq
    have V2 := V1H.out.bv.below bq
    have R2 := R1H.out.below bq
    have B2 := B1H.out.trans (bq.mono B1H.out.size)
    have C2 := (hC.below B1H.out).below bq
    generalize (v.alloc (.cells zDec 24)).drewN nq = w2 at *
    obtain ⟨a2, c2', e2, hv2⟩ := V2
    rw [e2]
    have HE2 := hid e2
    have d0 := C2.cell 0 (x := .bool sn.neg) rfl
    have y0 := R2.cell 0 (x := .int .i64 0) rfl
    have y1 := R2.cell 1 (x := .bool false) rfl
    have y2 := R2.cell 2 (x := .slice none 0 0) rfl
    have y3 := R2.cell 3 (x := .int .i64 0) rfl
    have f0 := R2.frozen 0
    have f1 := R2.frozen 1
    have f2 := R2.frozen 2
    have f3 := R2.frozen 3
    have hne : ¬ g = v.heap.size := by omega
    have hne' : ¬ v.heap.size = g := by omega
    have HR2 := hid R2; have HB2 := hid B2
    clear R2 B2 C2 hv2 e2 bq c0 c1 c2 c3 c4 hC hO
    obtain ⟨xe, hxe⟩ : ∃ xe, xe = M.bareE sn.digits ((sn.exponent : Int) - (sn.behind : Int)) := ⟨_, rfl⟩
    rw [← hxe]
    have HXE := hid hxe; clear hxe
    go_wp2_with fail
    have R9 := box4 HR2.out rfl (.int .i64 1) (.bool sn.neg) (.slice a2 (M.bareD sn.digits).length c2') (.int .i64 xe)
    have H9 := below4 HB2.out (.int .i64 1) (.bool sn.neg) (.slice a2 (M.bareD sn.digits).length c2') (.int .i64 xe)
    have O9 := HV0.out.below H9
    generalize ((((w2.setCell ⟨v.heap.size, 0, none⟩ (.int .i64 1)).setCell ⟨v.heap.size, 1, none⟩ (.bool sn.neg)).setCell ⟨v.heap.size, 2, none⟩ (.slice a2 (M.bareD sn.digits).length c2')).setCell ⟨v.heap.size, 3, none⟩ (.int .i64 xe)) = w9 at R9 H9 O9 ⊢
    have z0 := R9.cell 0 (x := .int .i64 1) rfl
    have z1 := R9.cell 1 (x := .bool sn.neg) rfl
    have z2 := R9.cell 2 (x := .slice a2 (M.bareD sn.digits).length c2') rfl
    have z3 := R9.cell 3 (x := .int .i64 xe) rfl
    refine bodyPost_ret (v := .agg #[.int .i64 1, .bool sn.neg, .slice a2 (M.bareD sn.digits).length c2', .int .i64 xe]) (by simp [results, Tryd.results27, go_sem, z0, z1, z2, z3]) rfl ?_
    rw [HE2.out] at O9
    rw [HD.out]
    exact ⟨_, by rw [HXE.out]; rfl, O9, H9⟩
  | true =>
    rw [hen] at c3 HD
    go_wp2_with fail
    go_quiet ((go_at_call 31; exact Calls.quiet_of_same (bare_any B a sn.digits.length cap sn.digits (-(sn.exponent : Int) - sn.behind) _ rfl (by omega) (by omega) (V1H.out.below (below_drewN (Below.refl _ _) _)))))
    have bq : Below (v.alloc (.cells zDec 24)).heap.size (v.alloc (.cells zDec 24)) ((v.alloc (.cells zDec 24)).drewN nq) := below_drewN (Below.refl _ _) nq
    have V2 := V1H.out.bv.below bq
    have R2 := R1H.out.below bq
    have B2 := B1H.out.trans (bq.mono B1H.out.size)
    have C2 := (hC.below B1H.out).below bq
    generalize (v.alloc (.cells zDec 24)).drewN nq = w2 at *
    obtain ⟨a2, c2', e2, hv2⟩ := V2
    rw [e2]
    have HE2 := hid e2
    have d0 := C2.cell 0 (x := .bool sn.neg) rfl
    have y0 := R2.cell 0 (x := .int .i64 0) rfl
    have y1 := R2.cell 1 (x := .bool false) rfl
    have y2 := R2.cell 2 (x := .slice none 0 0) rfl
    have y3 := R2.cell 3 (x := .int .i64 0) rfl
    have f0 := R2.frozen 0
    have f1 := R2.frozen 1
    have f2 := R2.frozen 2
    have f3 := R2.frozen 3
    have hne : ¬ g = v.heap.size := by omega
    have hne' : ¬ v.heap.size = g := by omega
    have HR2 := hid R2; have HB2 := hid B2
    clear R2 B2 C2 hv2 e2 bq c0 c1 c2 c3 c4 hC hO
    obtain ⟨xe, hxe⟩ : ∃ xe, xe = M.bareE sn.digits (-(sn.exponent : Int) - (sn.behind : Int)) := ⟨_, rfl⟩
    rw [← hxe]
    have HXE := hid hxe; clear hxe
    go_wp2_with fail
    have R9 := box4 HR2.out rfl (.int .i64 1) (.bool sn.neg) (.slice a2 (M.bareD sn.digits).length c2') (.int .i64 xe)
    have H9 := below4 HB2.out (.int .i64 1) (.bool sn.neg) (.slice a2 (M.bareD sn.digits).length c2') (.int .i64 xe)
    have O9 := HV0.out.below H9
    generalize ((((w2.setCell ⟨v.heap.size, 0, none⟩ (.int .i64 1)).setCell ⟨v.heap.size, 1, none⟩ (.bool sn.neg)).setCell ⟨v.heap.size, 2, none⟩ (.slice a2 (M.bareD sn.digits).length c2')).setCell ⟨v.heap.size, 3, none⟩ (.int .i64 xe)) = w9 at R9 H9 O9 ⊢
    have z0 := R9.cell 0 (x := .int .i64 1) rfl
    have z1 := R9.cell 1 (x := .bool sn.neg) rfl
    have z2 := R9.cell 2 (x := .slice a2 (M.bareD sn.digits).length c2') rfl
    have z3 := R9.cell 3 (x := .int .i64 xe) rfl
    refine bodyPost_ret (v := .agg #[.int .i64 1, .bool sn.neg, .slice a2 (M.bareD sn.digits).length c2', .int .i64 xe]) (by simp [results, Tryd.results27, go_sem, z0, z1, z2, z3]) rfl ?_
    rw [HE2.out] at O9
    rw [HD.out]
    exact ⟨_, by rw [HXE.out]; rfl, O9, H9⟩

theorem common_step (bs ws : List Nat) (p : Nat) (h1 : p < bs.length) (h2 : p < ws.length) : M.common (bs.drop p) (ws.drop p) = if M.low (bs.getD p 0) = ws.getD p 0 then M.common (bs.drop (p + 1)) (ws.drop (p + 1)) + 1 else 0 := by
  rw [drop_cons bs p h1, drop_cons ws p h2, M.common]

set_option maxHeartbeats 1000000 in
theorem common_any (s t : ByteArray) (w : World) (hs : s.size ≤ 800) (ht : t.size ≤ 100) (hw : ∀ x ∈ lett t, x < 128) (k : Nat) (hk : k = M.common (lett s) (lett t)) :
    Calls Tryd.prog 30 #[.string s, .string t] w fun e w' => e = .returned (.int .i64 (k : Int)) ∧ Below w.heap.size w w' := by
  have HK := hid hk; clear hk
  have hl := lett_len s
  have hl2 := lett_len t
  go_enter Tryd.func30, Tryd.ntmps30
  go_wp2_with fail
  go_loopw [4] (fun _ wr => ∃ (pos : Nat), wr.heap[w.heap.size]? = some (.stringIter s pos) ∧ pos ≤ s.size ∧ pos ≤ t.size ∧ Below w.heap.size w wr ∧ k = pos + M.common ((lett s).drop pos) ((lett t).drop pos)) (fun _ wr => s.size - World.iterPos wr w.heap.size)
  case atStart => exact ⟨0, World.iter_heap w s 0, by omega, by omega, (Below.refl _ _).alloc (Nat.le_refl _) _, by rw [List.drop_zero, List.drop_zero, Nat.zero_add]; exact HK.out⟩
  case round =>
    rename World => wr
    obtain ⟨pos, hit, hps, hpt, hB, hC⟩ := hrel
    have hpos0 := iterPos_of hit
    by_cases hp : pos < s.size
    · obtain ⟨l, p', hnx, hlm, hll⟩ := next_letter wr w.heap.size s pos hit hp
      have hit2 := Lib.iterAt_heap wr w.heap.size s pos p' hit
      have hB2 := Lib.below_iterAt hB (k := w.heap.size) (Nat.le_refl _) s p'
      obtain ⟨W1, hW1⟩ : ∃ W1, W1 = wr.iterAt w.heap.size s p' := ⟨_, rfl⟩
      rw [← hW1] at hnx hit2 hB2
      clear hW1 hit hB
      have HN := hid hnx
      by_cases hq : pos < t.size
      · have hbz : ((pos : Int) == (t.size : Int)) = false := by rw [beq_eq_false_iff_ne]; omega
        have hst := common_step (lett s) (lett t) pos (by omega) (by omega)
        have hg := lett_get t pos hq
        have hx128 : (lett t).getD pos 0 < 128 := M.getD_lt (by omega) hw pos
        have kS := fun (u : World) => smallLetter_any l hlm u _ rfl
        rw [hst] at hC
        have hlow : M.low l = (lett t).getD pos 0 ↔ M.low ((lett s).getD pos 0) = (lett t).getD pos 0 := by
          rcases hll with ⟨_, e, _⟩ | ⟨e1, e2, _⟩
          · rw [e]
          · have q1 : M.low l = l := by unfold M.low; rw [if_neg (by omega)]
            have q2 : M.low ((lett s).getD pos 0) = (lett s).getD pos 0 := by unfold M.low; rw [if_neg (by omega)]
            omega
        have hp' : M.low l = (lett t).getD pos 0 → p' = pos + 1 := by
          intro q
          rcases hll with ⟨_, _, e⟩ | ⟨e1, e2, _⟩
          · exact e
          · have q1 : M.low l = l := by unfold M.low; rw [if_neg (by omega)]
            omega
        rw [hg] at hlow hp' hC
        have HC := hid hC; have HB2 := hid hB2; have HIT2 := hid hit2; have HLW := hid hlow; have HP' := hid hp'; have HP := hid hp
        clear hC hB2 hit2 hlow hp' hll hst hg hx128 hnx
        have hnx := HN.out
        by_cases heq : M.low l = (t[pos]'hq).toNat
        · have heq' : ((M.low l : Int) == ((t[pos]'hq).toNat : Int)) = true := by rw [beq_iff_eq]; omega
          have hpp := HP'.out heq
          have hk2 : k = (pos + 1) + M.common ((lett s).drop (pos + 1)) ((lett t).drop (pos + 1)) := by rw [HC.out, if_pos (HLW.out.1 heq)]; omega
          have HK2 := hid hk2; have HPP := hid hpp
          clear heq hk2 hpp
          go_wp2_with fail
          go_quiet ((go_at_call 29; exact Calls.quiet_of_same (kS _)))
          have hw32 : wrap32 ((t[pos]'hq).toNat : Int) = ((t[pos]'hq).toNat : Int) := by have := (t[pos]'hq).toNat_lt; simp only [wrap32]; omega
          have hne : ((M.low l : Int) != wrap32 ((t[pos]'hq).toNat : Int)) = false := by rw [hw32, bne, heq']; rfl
          rw [hne]
          have bq : Below W1.heap.size W1 (W1.drewN nq) := below_drewN (Below.refl _ _) nq
          have HB3 := hid (HB2.out.trans (bq.mono HB2.out.size))
          have HIT3 : Hid ((W1.drewN nq).heap[w.heap.size]? = some (.stringIter s p')) := hid ((bq.block _ (lt_of_block HIT2.out)).trans HIT2.out)
          generalize W1.drewN nq = W2 at *
          clear bq hne hw32 heq' kS
          go_wp2_with fail
          go_roundw
          case rel => exact ⟨pos + 1, by rw [← HPP.out]; exact HIT3.out, HP.out, by omega, HB3.out, HK2.out⟩
          case measure => rw [iterPos_of HIT3.out, hpos0, HPP.out]; have := HP.out; omega
        · have heq' : ((M.low l : Int) == ((t[pos]'hq).toNat : Int)) = false := by rw [beq_eq_false_iff_ne]; omega
          have hk2 : k = pos := by rw [HC.out, if_neg (fun e => heq (HLW.out.2 e))]; rfl
          have HK2 := hid hk2
          clear heq hk2
          go_wp2_with fail
          go_quiet ((go_at_call 29; exact Calls.quiet_of_same (kS _)))
          have hw32 : wrap32 ((t[pos]'hq).toNat : Int) = ((t[pos]'hq).toNat : Int) := by have := (t[pos]'hq).toNat_lt; simp only [wrap32]; omega
          have hne : ((M.low l : Int) != wrap32 ((t[pos]'hq).toNat : Int)) = true := by rw [hw32, bne, heq']; rfl
          rw [hne]
          have bq : Below W1.heap.size W1 (W1.drewN nq) := below_drewN (Below.refl _ _) nq
          have HB3 := hid (HB2.out.trans (bq.mono HB2.out.size))
          have HIT3 : Hid ((W1.drewN nq).heap[w.heap.size]? = some (.stringIter s p')) := hid ((bq.block _ (lt_of_block HIT2.out)).trans HIT2.out)
          generalize W1.drewN nq = W2 at *
          clear bq hne hw32 heq' kS
          go_wp2_with fail
          go_ret
          exact ⟨by rw [HK2.out]; rfl, HB3.out⟩
      · have hbz : ((pos : Int) == (t.size : Int)) = true := by rw [beq_iff_eq]; omega
        have hC0 : k = pos := by
          rw [hC, show (lett t).drop pos = [] from List.drop_eq_nil_of_le (by omega)]
          cases (lett s).drop pos <;> rfl
        have HC := hid hC0; have HB2 := hid hB2
        clear hC hB2 hit2 hll hC0
        go_wp2_with fail
        go_quiet (fail)
        go_wp2_with fail
        go_ret
        exact ⟨by rw [HC.out]; rfl, below_drewN HB2.out _⟩
    · have hend : ∀ ty, (Instr.next (.pointer (some ⟨w.heap.size, 0, none⟩)) true ty).run Tryd.prog wr = .ok (.tuple #[.bool false]) wr := fun ty => Lib.run_next_end_at wr w.heap.size s pos ty hit hp
      have hC0 : k = s.size := by
        rw [hC, show (lett s).drop pos = [] from List.drop_eq_nil_of_le (by omega)]
        show pos + 0 = _
        omega
      have HC := hid hC0; have HB := hid hB
      clear hC hB hit hC0
      go_wp2_with fail
      go_ret
      exact ⟨by rw [HC.out]; rfl, HB.out⟩
end Go.Proofs.YtehplfmnipadmacDoor
