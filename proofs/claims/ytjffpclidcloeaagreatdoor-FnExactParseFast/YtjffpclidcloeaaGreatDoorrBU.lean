import Derived.Deep.RegionHeld3
import Derived.Test.YtjffpclidcloeaaGreatDoorrBQ
set_option maxHeartbeats 4000000
namespace Go.Proofs.YtjffpclidcloeaaGreatDoor
open Go.RowKit
set_option linter.unusedVariables false
set_option maxRecDepth 100000
theorem decimal_any (g B : Nat) (sn : M.Sn) (v : World) (h : SnR v g B sn) (h1 : sn.digits.length ≤ 1000) (h2 : sn.behind ≤ 1000) (h3 : sn.exponent ≤ 1000000) (hx : ∀ x ∈ sn.digits, x < 256) :
 Calls Tryz.prog 87 #[.pointer (some ⟨g, 0, none⟩)] v fun e v' => ∃ x, e = .returned (decV sn.dec x) ∧ OwnV v' B x sn.dec.digits ∧ Below v.heap.size v v' := by
 obtain ⟨hgB, hBv, a, cap, hC, hO⟩ := h
 have hV := OwnV.of_own hO hx
 have hgv := hC.lt
 have b1 : Below v.heap.size v (v.alloc (.cells zDec 36)) := (Below.refl _ _).alloc (Nat.le_refl _) _
 have C1 := hC.below b1
 have R1 : Cls (v.alloc (.cells zDec 36)) v.heap.size zDec 36 := Cls.new _ _ _
 have V1 := hV.below b1
 have c0 := C1.cell 0 (x := .bool sn.neg) rfl
 have c1 := C1.cell 1 (x := .slice a sn.digits.length cap) rfl
 have c2 := C1.cell 2 (x := .int .i64 (sn.behind : Int)) rfl
 have c3 := C1.cell 3 (x := .bool sn.expNeg) rfl
 have c4 := C1.cell 4 (x := .int .i64 (sn.exponent : Int)) rfl
 have hdec : sn.dec = ⟨1, sn.neg, M.bareD sn.digits, M.bareE sn.digits ((if sn.expNeg then -(sn.exponent : Int) else sn.exponent) - sn.behind)⟩ := rfl
 have HD := hid hdec
 have hsz : (v.alloc (.cells zDec 36)).heap.size = v.heap.size + 1 := by simp
 have V1H := hid V1; have R1H := hid R1; have B1H := hid b1; have HSZ := hid hsz
 have HV0 := hid hV.bv
 clear V1 R1 b1 hdec hsz hV C1
 go_enter Tryz.func87, Tryz.ntmps87
 cases hen : sn.expNeg with
 | false =>
   rw [hen] at c3 HD
   go_wp2_with fail
   go_quiet ((go_at_call 107; exact Calls.quiet_of_same (bare_any B a sn.digits.length cap sn.digits ((sn.exponent : Int) - sn.behind) _ rfl (by omega) (by omega) (V1H.out.below (below_drewN (Below.refl _ _) _)))))
   have bq : Below (v.alloc (.cells zDec 36)).heap.size (v.alloc (.cells zDec 36)) ((v.alloc (.cells zDec 36)).drewN nq) := below_drewN (Below.refl _ _) nq
   have V2 := V1H.out.bv.below bq
   have R2 := R1H.out.below bq
   have B2 := B1H.out.trans (bq.mono B1H.out.size)
   have C2 := (hC.below B1H.out).below bq
   generalize (v.alloc (.cells zDec 36)).drewN nq = w2 at *
   obtain ⟨a2, c2', e2, hv2⟩ := V2
   rw [e2]
   have HE2 := hid e2
   have d0 := C2.cell 0 (x := .bool sn.neg) rfl
   have y0 := R2.cell 0 (x := .int .i64 0) rfl
   have y1 := R2.cell 1 (x := .bool false) rfl
   have y2 := R2.cell 2 (x := .slice none 0 0) rfl
   have y3 := R2.cell 3 (x := .int .i64 0) rfl
   have f0 := R2.frozen 0
   have f1 := R2.frozen 1
   have f2 := R2.frozen 2
   have f3 := R2.frozen 3
   have hne : ¬ g = v.heap.size := by omega
   have hne' : ¬ v.heap.size = g := by omega
   have HR2 := hid R2; have HB2 := hid B2
   clear R2 B2 C2 hv2 e2 bq c0 c1 c2 c3 c4 hC hO
   obtain ⟨xe, hxe⟩ : ∃ xe, xe = M.bareE sn.digits ((sn.exponent : Int) - (sn.behind : Int)) := ⟨_, rfl⟩
   rw [← hxe]
   have HXE := hid hxe; clear hxe
   go_wp2_with fail
   have R9 := box4 HR2.out rfl (.int .i64 1) (.bool sn.neg) (.slice a2 (M.bareD sn.digits).length c2') (.int .i64 xe)
   have H9 := below4 HB2.out (.int .i64 1) (.bool sn.neg) (.slice a2 (M.bareD sn.digits).length c2') (.int .i64 xe)
   have O9 := HV0.out.below H9
   generalize ((((w2.setCell ⟨v.heap.size, 0, none⟩ (.int .i64 1)).setCell ⟨v.heap.size, 1, none⟩ (.bool sn.neg)).setCell ⟨v.heap.size, 2, none⟩ (.slice a2 (M.bareD sn.digits).length c2')).setCell ⟨v.heap.size, 3, none⟩ (.int .i64 xe)) = w9 at R9 H9 O9 ⊢
   have z0 := R9.cell 0 (x := .int .i64 1) rfl
   have z1 := R9.cell 1 (x := .bool sn.neg) rfl
   have z2 := R9.cell 2 (x := .slice a2 (M.bareD sn.digits).length c2') rfl
   have z3 := R9.cell 3 (x := .int .i64 xe) rfl
   refine bodyPost_ret (v := .agg #[.int .i64 1, .bool sn.neg, .slice a2 (M.bareD sn.digits).length c2', .int .i64 xe]) (by simp [results, Tryz.results87, go_sem, z0, z1, z2, z3]) rfl ?_
   rw [HE2.out] at O9
   rw [HD.out]
   exact ⟨_, by rw [HXE.out]; rfl, O9, H9⟩
 | true =>
   rw [hen] at c3 HD
   go_wp2_with fail
   go_quiet ((go_at_call 107; exact Calls.quiet_of_same (bare_any B a sn.digits.length cap sn.digits (-(sn.exponent : Int) - sn.behind) _ rfl (by omega) (by omega) (V1H.out.below (below_drewN (Below.refl _ _) _)))))
   have bq : Below (v.alloc (.cells zDec 36)).heap.size (v.alloc (.cells zDec 36)) ((v.alloc (.cells zDec 36)).drewN nq) := below_drewN (Below.refl _ _) nq
   have V2 := V1H.out.bv.below bq
   have R2 := R1H.out.below bq
   have B2 := B1H.out.trans (bq.mono B1H.out.size)
   have C2 := (hC.below B1H.out).below bq
   generalize (v.alloc (.cells zDec 36)).drewN nq = w2 at *
   obtain ⟨a2, c2', e2, hv2⟩ := V2
   rw [e2]
   have HE2 := hid e2
   have d0 := C2.cell 0 (x := .bool sn.neg) rfl
   have y0 := R2.cell 0 (x := .int .i64 0) rfl
   have y1 := R2.cell 1 (x := .bool false) rfl
   have y2 := R2.cell 2 (x := .slice none 0 0) rfl
   have y3 := R2.cell 3 (x := .int .i64 0) rfl
   have f0 := R2.frozen 0
   have f1 := R2.frozen 1
   have f2 := R2.frozen 2
   have f3 := R2.frozen 3
   have hne : ¬ g = v.heap.size := by omega
   have hne' : ¬ v.heap.size = g := by omega
   have HR2 := hid R2; have HB2 := hid B2
   clear R2 B2 C2 hv2 e2 bq c0 c1 c2 c3 c4 hC hO
   obtain ⟨xe, hxe⟩ : ∃ xe, xe = M.bareE sn.digits (-(sn.exponent : Int) - (sn.behind : Int)) := ⟨_, rfl⟩
   rw [← hxe]
   have HXE := hid hxe; clear hxe
   go_wp2_with fail
   have R9 := box4 HR2.out rfl (.int .i64 1) (.bool sn.neg) (.slice a2 (M.bareD sn.digits).length c2') (.int .i64 xe)
   have H9 := below4 HB2.out (.int .i64 1) (.bool sn.neg) (.slice a2 (M.bareD sn.digits).length c2') (.int .i64 xe)
   have O9 := HV0.out.below H9
   generalize ((((w2.setCell ⟨v.heap.size, 0, none⟩ (.int .i64 1)).setCell ⟨v.heap.size, 1, none⟩ (.bool sn.neg)).setCell ⟨v.heap.size, 2, none⟩ (.slice a2 (M.bareD sn.digits).length c2')).setCell ⟨v.heap.size, 3, none⟩ (.int .i64 xe)) = w9 at R9 H9 O9 ⊢
   have z0 := R9.cell 0 (x := .int .i64 1) rfl
   have z1 := R9.cell 1 (x := .bool sn.neg) rfl
   have z2 := R9.cell 2 (x := .slice a2 (M.bareD sn.digits).length c2') rfl
   have z3 := R9.cell 3 (x := .int .i64 xe) rfl
   refine bodyPost_ret (v := .agg #[.int .i64 1, .bool sn.neg, .slice a2 (M.bareD sn.digits).length c2', .int .i64 xe]) (by simp [results, Tryz.results87, go_sem, z0, z1, z2, z3]) rfl ?_
   rw [HE2.out] at O9
   rw [HD.out]
   exact ⟨_, by rw [HXE.out]; rfl, O9, H9⟩

theorem common_step (bs ws : List Nat) (p : Nat) (h1 : p < bs.length) (h2 : p < ws.length) : M.common (bs.drop p) (ws.drop p) = if M.low (bs.getD p 0) = ws.getD p 0 then M.common (bs.drop (p + 1)) (ws.drop (p + 1)) + 1 else 0 := by
 rw [drop_cons bs p h1, drop_cons ws p h2, M.common]

theorem common_any (s t : ByteArray) (w : World) (hs : s.size ≤ 800) (ht : t.size ≤ 100) (hw : ∀ x ∈ lett t, x < 128) (k : Nat) (hk : k = M.common (lett s) (lett t)) :
 Calls Tryz.prog 106 #[.string s, .string t] w fun e w' => e = .returned (.int .i64 (k : Int)) ∧ Below w.heap.size w w' := by
 have HK := hid hk; clear hk
 have hl := lett_len s
 have hl2 := lett_len t
 go_enter Tryz.func106, Tryz.ntmps106
 go_wp2_with fail
 go_loopw [4] (fun _ wr => ∃ (pos : Nat), wr.heap[w.heap.size]? = some (.stringIter s pos) ∧ pos ≤ s.size ∧ pos ≤ t.size ∧ Below w.heap.size w wr ∧ k = pos + M.common ((lett s).drop pos) ((lett t).drop pos)) (fun _ wr => s.size - World.iterPos wr w.heap.size)
 case atStart => exact ⟨0, World.iter_heap w s 0, by omega, by omega, (Below.refl _ _).alloc (Nat.le_refl _) _, by rw [List.drop_zero, List.drop_zero, Nat.zero_add]; exact HK.out⟩
 case round =>
  rename World => wr
  obtain ⟨pos, hit, hps, hpt, hB, hC⟩ := hrel
  have hpos0 := iterPos_of hit
  by_cases hp : pos < s.size
  · obtain ⟨l, p', hnx, hlm, hll⟩ := next_letter wr w.heap.size s pos hit hp
    have hit2 := Lib.iterAt_heap wr w.heap.size s pos p' hit
    have hB2 := Lib.below_iterAt hB (k := w.heap.size) (Nat.le_refl _) s p'
    obtain ⟨W1, hW1⟩ : ∃ W1, W1 = wr.iterAt w.heap.size s p' := ⟨_, rfl⟩
    rw [← hW1] at hnx hit2 hB2
    clear hW1 hit hB
    have HN := hid hnx
    by_cases hq : pos < t.size
    · have hbz : ((pos : Int) == (t.size : Int)) = false := by rw [beq_eq_false_iff_ne]; omega
      have hst := common_step (lett s) (lett t) pos (by omega) (by omega)
      have hg := lett_get t pos hq
      have hx128 : (lett t).getD pos 0 < 128 := M.getD_lt (by omega) hw pos
      have kS := fun (u : World) => smallLetter_any l hlm u _ rfl
      rw [hst] at hC
      have hlow : M.low l = (lett t).getD pos 0 ↔ M.low ((lett s).getD pos 0) = (lett t).getD pos 0 := by
       rcases hll with ⟨_, e, _⟩ | ⟨e1, e2, _⟩
       · rw [e]
       · have q1 : M.low l = l := by unfold M.low; rw [if_neg (by omega)]
         have q2 : M.low ((lett s).getD pos 0) = (lett s).getD pos 0 := by unfold M.low; rw [if_neg (by omega)]
         omega
      have hp' : M.low l = (lett t).getD pos 0 → p' = pos + 1 := by
       intro q
       rcases hll with ⟨_, _, e⟩ | ⟨e1, e2, _⟩
       · exact e
       · have q1 : M.low l = l := by unfold M.low; rw [if_neg (by omega)]
         omega
      rw [hg] at hlow hp' hC
      have HC := hid hC; have HB2 := hid hB2; have HIT2 := hid hit2; have HLW := hid hlow; have HP' := hid hp'; have HP := hid hp
      clear hC hB2 hit2 hlow hp' hll hst hg hx128 hnx
      have hnx := HN.out
      by_cases heq : M.low l = (t[pos]'hq).toNat
      · have heq' : ((M.low l : Int) == ((t[pos]'hq).toNat : Int)) = true := by rw [beq_iff_eq]; omega
        have hpp := HP'.out heq
        have hk2 : k = (pos + 1) + M.common ((lett s).drop (pos + 1)) ((lett t).drop (pos + 1)) := by rw [HC.out, if_pos (HLW.out.1 heq)]; omega
        have HK2 := hid hk2; have HPP := hid hpp
        clear heq hk2 hpp
        go_wp2_with fail
        go_quiet ((go_at_call 105; exact Calls.quiet_of_same (kS _)))
        have hw32 : wrap32 ((t[pos]'hq).toNat : Int) = ((t[pos]'hq).toNat : Int) := by have := (t[pos]'hq).toNat_lt; simp only [wrap32]; omega
        have hne : ((M.low l : Int) != wrap32 ((t[pos]'hq).toNat : Int)) = false := by rw [hw32, bne, heq']; rfl
        rw [hne]
        have bq : Below W1.heap.size W1 (W1.drewN nq) := below_drewN (Below.refl _ _) nq
        have HB3 := hid (HB2.out.trans (bq.mono HB2.out.size))
        have HIT3 : Hid ((W1.drewN nq).heap[w.heap.size]? = some (.stringIter s p')) := hid ((bq.block _ (lt_of_block HIT2.out)).trans HIT2.out)
        generalize W1.drewN nq = W2 at *
        clear bq hne hw32 heq' kS
        go_wp2_with fail
        go_roundw
        case rel => exact ⟨pos + 1, by rw [← HPP.out]; exact HIT3.out, HP.out, by omega, HB3.out, HK2.out⟩
        case measure => rw [iterPos_of HIT3.out, hpos0, HPP.out]; have := HP.out; omega
      · have heq' : ((M.low l : Int) == ((t[pos]'hq).toNat : Int)) = false := by rw [beq_eq_false_iff_ne]; omega
        have hk2 : k = pos := by rw [HC.out, if_neg (fun e => heq (HLW.out.2 e))]; rfl
        have HK2 := hid hk2
        clear heq hk2
        go_wp2_with fail
        go_quiet ((go_at_call 105; exact Calls.quiet_of_same (kS _)))
        have hw32 : wrap32 ((t[pos]'hq).toNat : Int) = ((t[pos]'hq).toNat : Int) := by have := (t[pos]'hq).toNat_lt; simp only [wrap32]; omega
        have hne : ((M.low l : Int) != wrap32 ((t[pos]'hq).toNat : Int)) = true := by rw [hw32, bne, heq']; rfl
        rw [hne]
        have bq : Below W1.heap.size W1 (W1.drewN nq) := below_drewN (Below.refl _ _) nq
        have HB3 := hid (HB2.out.trans (bq.mono HB2.out.size))
        have HIT3 : Hid ((W1.drewN nq).heap[w.heap.size]? = some (.stringIter s p')) := hid ((bq.block _ (lt_of_block HIT2.out)).trans HIT2.out)
        generalize W1.drewN nq = W2 at *
        clear bq hne hw32 heq' kS
        go_wp2_with fail
        go_ret
        exact ⟨by rw [HK2.out]; rfl, HB3.out⟩
    · have hbz : ((pos : Int) == (t.size : Int)) = true := by rw [beq_iff_eq]; omega
      have hC0 : k = pos := by
       rw [hC, show (lett t).drop pos = [] from List.drop_eq_nil_of_le (by omega)]
       cases (lett s).drop pos <;> rfl
      have HC := hid hC0; have HB2 := hid hB2
      clear hC hB2 hit2 hll hC0
      go_wp2_with fail
      go_quiet (fail)
      go_wp2_with fail
      go_ret
      exact ⟨by rw [HC.out]; rfl, below_drewN HB2.out _⟩
  · have hend : ∀ ty, (Instr.next (.pointer (some ⟨w.heap.size, 0, none⟩)) true ty).run Tryz.prog wr = .ok (.tuple #[.bool false]) wr := fun ty => Lib.run_next_end_at wr w.heap.size s pos ty hit hp
    have hC0 : k = s.size := by
     rw [hC, show (lett s).drop pos = [] from List.drop_eq_nil_of_le (by omega)]
     show pos + 0 = _
     omega
    have HC := hid hC0; have HB := hid hB
    clear hC hB hit hC0
    go_wp2_with fail
    go_ret
    exact ⟨by rw [HC.out]; rfl, HB.out⟩

def Wds (w : World) : Prop := 2 < w.heap.size ∧ w.cell? ⟨2, 0, none⟩ = some (.string ⟨#[105, 110, 102]⟩) ∧ w.cell? ⟨2, 1, none⟩ = some (.int .i64 2) ∧
 w.cell? ⟨2, 2, none⟩ = some (.string ⟨#[105, 110, 102, 105, 110, 105, 116, 121]⟩) ∧ w.cell? ⟨2, 3, none⟩ = some (.int .i64 2) ∧ w.cell? ⟨2, 4, none⟩ = some (.string ⟨#[110, 97, 110]⟩) ∧ w.cell? ⟨2, 5, none⟩ = some (.int .i64 3)

theorem Wds.below {w w' : World} (h : Wds w) (hb : Below w.heap.size w w') : Wds w' := by
 obtain ⟨h0, h1, h2, h3, h4, h5, h6⟩ := h
 have k := fun j => hb.cell (p := ⟨2, j, none⟩) h0
 exact ⟨Nat.lt_of_lt_of_le h0 hb.size, (k 0).trans h1, (k 1).trans h2, (k 2).trans h3, (k 3).trans h4, (k 4).trans h5, (k 5).trans h6⟩

theorem lett_extract (s : ByteArray) (b : Nat) (h : b ≤ s.size) : lett (s.extract b s.size) = (lett s).drop b := by
 unfold lett
 rw [ByteArray.data_extract, Array.toList_extract, ← List.map_drop]
 congr 1
 have : s.size = s.data.toList.length := by rw [Array.length_toList]; rfl
 rw [List.extract_eq_take_drop, List.take_of_length_le (by rw [List.length_drop]; omega)]

theorem match_iff (v w : List Nat) : (M.common v w = v.length ∧ M.common v w = w.length) ↔ v.map M.low = w := by
 have h := M.common_take v w
 constructor
 · rintro ⟨h1, h2⟩
   have := h.1
   rw [h2, List.take_length] at this
   rw [← this, ← h2, h1, List.take_length]
 · intro e
   have hl : v.length = w.length := by rw [← e, List.length_map]
   have := M.common_ge v w v.length (by rw [List.take_length, hl, List.take_length, e]) (Nat.le_refl _) (by omega)
   omega

abbrev nwV : Value := .agg #[.string ⟨#[105, 110, 102]⟩, .int .i64 2, .string ⟨#[105, 110, 102, 105, 110, 105, 116, 121]⟩, .int .i64 2, .string ⟨#[110, 97, 110]⟩, .int .i64 3]

theorem nw0 (u : World) : (Instr.index 154 nwV (.int .i64 0)).run Tryz.prog u = .ok (.agg #[.string ⟨#[105, 110, 102]⟩, .int .i64 2]) u := by kernel_rfl

theorem nw1 (u : World) : (Instr.index 154 nwV (.int .i64 1)).run Tryz.prog u = .ok (.agg #[.string ⟨#[105, 110, 102, 105, 110, 105, 116, 121]⟩, .int .i64 2]) u := by kernel_rfl

theorem nw2 (u : World) : (Instr.index 154 nwV (.int .i64 2)).run Tryz.prog u = .ok (.agg #[.string ⟨#[110, 97, 110]⟩, .int .i64 3]) u := by kernel_rfl

theorem below_keep {W v v' : World} {n : Nat} (h : Below n W v) (hb : Below v.heap.size v v') (hn : n ≤ v.heap.size) : Below n W v' := h.trans (hb.mono hn)

theorem scanWord_any (s : ByteArray) (b : Nat) (ng : Bool) (w : World) (hs : s.size ≤ 800) (hb : b < s.size) (hW : Wds w) (o : M.Dec ⊕ Nat) (ho : o = M.scanWord ((lett s).drop b) b ng) :
 Calls Tryz.prog 86 #[.string s, .int .i64 (b : Int), .bool ng] w fun e w' => ScanP w w' e o := by
 obtain ⟨h0, h1, h2, h3, h4, h5, h6⟩ := hW
 have HO := hid ho; clear ho
 have hvl : ((lett s).drop b).length = s.size - b := by rw [List.length_drop, lett_len]
 have hex := lett_extract s b (by omega)
 have hexs : (s.extract b s.size).size ≤ 800 := by rw [← lett_len, hex, hvl]; omega
 obtain ⟨v, hv⟩ : ∃ v, v = (lett s).drop b := ⟨_, rfl⟩
 rw [← hv] at hvl hex HO
 clear hv
 have k0 := fun (u : World) => common_any (s.extract b s.size) ⟨#[105, 110, 102]⟩ u hexs (by decide) (by decide) (M.common v M.wInf) (by rw [hex]; rfl)
 have k1 := fun (u : World) => common_any (s.extract b s.size) ⟨#[105, 110, 102, 105, 110, 105, 116, 121]⟩ u hexs (by decide) (by decide) (M.common v M.wInfinity) (by rw [hex]; rfl)
 have k2 := fun (u : World) => common_any (s.extract b s.size) ⟨#[110, 97, 110]⟩ u hexs (by decide) (by decide) (M.common v M.wNan) (by rw [hex]; rfl)
 have m0 := match_iff v M.wInf
 have m1 := match_iff v M.wInfinity
 have m2 := match_iff v M.wNan
 have l0 := M.common_take v M.wInf
 have l1 := M.common_take v M.wInfinity
 have l2 := M.common_take v M.wNan
 generalize hc0 : M.common v M.wInf = c0 at *
 generalize hc1 : M.common v M.wInfinity = c1 at *
 generalize hc2 : M.common v M.wNan = c2 at *
 have L0 : c0 ≤ 3 ∧ c0 ≤ s.size - b := ⟨l0.2.2, by rw [← hvl]; exact l0.2.1⟩
 have L1 : c1 ≤ 8 ∧ c1 ≤ s.size - b := ⟨l1.2.2, by rw [← hvl]; exact l1.2.1⟩
 have L2 : c2 ≤ 3 ∧ c2 ≤ s.size - b := ⟨l2.2.2, by rw [← hvl]; exact l2.2.1⟩
 rw [hvl] at m0 m1 m2
 have m0 : (c0 = s.size - b ∧ c0 = 3) ↔ v.map M.low = M.wInf := m0
 have m1 : (c1 = s.size - b ∧ c1 = 8) ↔ v.map M.low = M.wInfinity := m1
 have m2 : (c2 = s.size - b ∧ c2 = 3) ↔ v.map M.low = M.wNan := m2
 have M0 := hid m0; have M1 := hid m1; have M2 := hid m2; have HC := hid (And.intro hc0 (And.intro hc1 hc2))
 clear l0 l1 l2 hc0 hc1 hc2 m0 m1 m2 hex hvl
 have hb' : (b : Int) ≤ (s.size : Int) := by omega
 have hb0' : (0 : Int) ≤ (b : Int) := by omega
 go_enter Tryz.func86, Tryz.ntmps86
 go_wp2_with fail
 go_loopw [7, 12] (fun lv iv wr => Cls wr w.heap.size zDec 36 ∧ Below w.heap.size w wr ∧ ((lv = .int .i64 0 ∧ iv = .int .i64 0) ∨ (lv = .int .i64 ((c0 : Nat) : Int) ∧ iv = .int .i64 1 ∧ ¬ (c0 = s.size - b ∧ c0 = 3)) ∨ (lv = .int .i64 ((max c0 c1 : Nat) : Int) ∧ iv = .int .i64 2 ∧ ¬ (c0 = s.size - b ∧ c0 = 3) ∧ ¬ (c1 = s.size - b ∧ c1 = 8)) ∨ (lv = .int .i64 ((max (max c0 c1) c2 : Nat) : Int) ∧ iv = .int .i64 3 ∧ ¬ (c0 = s.size - b ∧ c0 = 3) ∧ ¬ (c1 = s.size - b ∧ c1 = 8) ∧ ¬ (c2 = s.size - b ∧ c2 = 3)))) (fun _ i _ => 3 - (intOf i).toNat)
 case atStart => exact ⟨Cls.new _ _ _, (Below.refl _ _).alloc (Nat.le_refl _) _, .inl ⟨rfl, rfl⟩⟩
 case round =>
  rename World => wr
  obtain ⟨hR, hB, hcase⟩ := hrel
  rcases hcase with ⟨rfl, rfl⟩ | ⟨rfl, rfl, n0⟩ | ⟨rfl, rfl, n0, n1⟩ | ⟨rfl, rfl, n0, n1, n2⟩
  · have bA : Below wr.heap.size wr (wr.alloc (.cells #[.string ⟨#[105, 110, 102]⟩, .int .i64 2] 153)) := (Below.refl _ _).alloc (Nat.le_refl _) _
    have RA := hR.below bA
    have BA := hB.trans (bA.mono hB.size)
    have XA : Cls (wr.alloc (.cells #[.string ⟨#[105, 110, 102]⟩, .int .i64 2] 153)) wr.heap.size #[.string ⟨#[105, 110, 102]⟩, .int .i64 2] 153 := Cls.new _ _ _
    have hlr := hR.lt
    obtain ⟨W1, hW1⟩ : ∃ W1, W1 = wr.alloc (.cells #[.string ⟨#[105, 110, 102]⟩, .int .i64 2] 153) := ⟨_, rfl⟩
    have HRA := hid RA; have HBA := hid BA; have HXA := hid XA
    rw [← hW1] at HRA HBA HXA
    have x0 := HXA.out.cell 0 (x := .string ⟨#[105, 110, 102]⟩) rfl
    have x1 := HXA.out.cell 1 (x := .int .i64 2) rfl
    have Kof : ∀ u, Below W1.heap.size W1 u → Below W1.heap.size W1 u ∧ u.cell? ⟨wr.heap.size, 0, none⟩ = some (.string ⟨#[105, 110, 102]⟩) := fun u hu => ⟨hu, ((HXA.out.below hu).cell 0 (x := .string ⟨#[105, 110, 102]⟩) rfl)⟩
    have hnw := nw0 wr
    clear RA BA XA bA hR hB
    go_wp2_with fail
    clear hnw
    rw [← hW1]
    clear hW1
    go_region_held3 (fun u => Below W1.heap.size W1 u ∧ u.cell? ⟨wr.heap.size, 0, none⟩ = some (.string ⟨#[105, 110, 102]⟩)) (first | exact Kof _ (by assumption) | exact Kof _ (below_drewN (by assumption) _) | exact Kof _ (Below.drew (by assumption)) | exact Kof _ (Below.refl _ _).drew | exact Kof _ (Below.refl _ _))
     (first | (go_at_call 106; refine (k0 _).mono ?_; rintro e w' ⟨rfl, hb0⟩; have hb1 := below_keep (And.left (by assumption)) hb0 (Below.size (And.left (by assumption))); clear hb0))
    have HR2 := hid (HRA.out.below hb1)
    have HB2 := hid (HBA.out.trans (hb1.mono HBA.out.size))
    have XX := HXA.out.below hb1
    have x0 := XX.cell 0 (x := .string ⟨#[105, 110, 102]⟩) rfl
    have x1 := XX.cell 1 (x := .int .i64 2) rfl
    clear Kof XX hb1 HXA HRA HBA
    rename World => W9
    by_cases t1 : c0 = s.size - b
    · have t1' : (((b : Int) + (c0 : Int)) == (s.size : Int)) = true := by rw [beq_iff_eq]; omega
      by_cases t2 : c0 = 3
      · have hout : o = .inl ⟨2, ng, [], 0⟩ := by
         rw [HO.out, M.scanWord, if_pos (M0.out.1 ⟨t1, t2⟩)]
        have HOO := hid hout
        have y0 := HR2.out.cell 0 (x := .int .i64 0) rfl
        have y1 := HR2.out.cell 1 (x := .bool false) rfl
        have y2 := HR2.out.cell 2 (x := .slice none 0 0) rfl
        have y3 := HR2.out.cell 3 (x := .int .i64 0) rfl
        have f0 := HR2.out.frozen 0
        have f1 := HR2.out.frozen 1
        have f2 := HR2.out.frozen 2
        have f3 := HR2.out.frozen 3
        have t2' : ((c0 : Int) == 3) = true := by rw [beq_iff_eq]; omega
        clear hout t1 t2
        cases ng with
        | false =>
          go_wp2_with fail
          have R9 := box4 HR2.out rfl (.int .i64 2) (.bool false) (.slice none 0 0) (.int .i64 0)
          have H9 := below4 HB2.out (.int .i64 2) (.bool false) (.slice none 0 0) (.int .i64 0)
          generalize ((((W9.setCell ⟨w.heap.size, 0, none⟩ (.int .i64 2)).setCell ⟨w.heap.size, 1, none⟩ (.bool false)).setCell ⟨w.heap.size, 2, none⟩ (.slice none 0 0)).setCell ⟨w.heap.size, 3, none⟩ (.int .i64 0)) = w9 at R9 H9 ⊢
          have z0 := R9.cell 0 (x := .int .i64 2) rfl
          have z1 := R9.cell 1 (x := .bool false) rfl
          have z2 := R9.cell 2 (x := .slice none 0 0) rfl
          have z3 := R9.cell 3 (x := .int .i64 0) rfl
          refine bodyPost_ret (v := .agg #[.int .i64 2, .bool false, .slice none 0 0, .int .i64 0]) (by simp [results, Tryz.results86, go_sem, z0, z1, z2, z3]) rfl ?_
          rw [HOO.out]
          exact ⟨_, rfl, OwnV.nil _ _, H9⟩
        | true =>
          go_wp2_with fail
          have R9 := box4 HR2.out rfl (.int .i64 2) (.bool true) (.slice none 0 0) (.int .i64 0)
          have H9 := below4 HB2.out (.int .i64 2) (.bool true) (.slice none 0 0) (.int .i64 0)
          generalize ((((W9.setCell ⟨w.heap.size, 0, none⟩ (.int .i64 2)).setCell ⟨w.heap.size, 1, none⟩ (.bool true)).setCell ⟨w.heap.size, 2, none⟩ (.slice none 0 0)).setCell ⟨w.heap.size, 3, none⟩ (.int .i64 0)) = w9 at R9 H9 ⊢
          have z0 := R9.cell 0 (x := .int .i64 2) rfl
          have z1 := R9.cell 1 (x := .bool true) rfl
          have z2 := R9.cell 2 (x := .slice none 0 0) rfl
          have z3 := R9.cell 3 (x := .int .i64 0) rfl
          refine bodyPost_ret (v := .agg #[.int .i64 2, .bool true, .slice none 0 0, .int .i64 0]) (by simp [results, Tryz.results86, go_sem, z0, z1, z2, z3]) rfl ?_
          rw [HOO.out]
          exact ⟨_, rfl, OwnV.nil _ _, H9⟩
      · have t2' : ((c0 : Int) == 3) = false := by rw [beq_eq_false_iff_ne]; omega
        have T2 := hid t2
        clear t1 t2
        go_wp2_with fail
        go_roundw
        case rel => exact ⟨HR2.out, HB2.out, .inr (.inl ⟨by go_num, rfl, fun q => T2.out q.2⟩)⟩
        case measure => simp [intOf]
    · have t1' : (((b : Int) + (c0 : Int)) == (s.size : Int)) = false := by rw [beq_eq_false_iff_ne]; omega
      have T1 := hid t1
      clear t1
      go_wp2_with fail
      go_roundw
      case rel => exact ⟨HR2.out, HB2.out, .inr (.inl ⟨by go_num, rfl, fun q => T1.out q.1⟩)⟩
      case measure => simp [intOf]
  · have N0 := hid n0; have bA : Below wr.heap.size wr (wr.alloc (.cells #[.string ⟨#[105, 110, 102, 105, 110, 105, 116, 121]⟩, .int .i64 2] 153)) := (Below.refl _ _).alloc (Nat.le_refl _) _
    have RA := hR.below bA
    have BA := hB.trans (bA.mono hB.size)
    have XA : Cls (wr.alloc (.cells #[.string ⟨#[105, 110, 102, 105, 110, 105, 116, 121]⟩, .int .i64 2] 153)) wr.heap.size #[.string ⟨#[105, 110, 102, 105, 110, 105, 116, 121]⟩, .int .i64 2] 153 := Cls.new _ _ _
    have hlr := hR.lt
    obtain ⟨W1, hW1⟩ : ∃ W1, W1 = wr.alloc (.cells #[.string ⟨#[105, 110, 102, 105, 110, 105, 116, 121]⟩, .int .i64 2] 153) := ⟨_, rfl⟩
    have HRA := hid RA; have HBA := hid BA; have HXA := hid XA
    rw [← hW1] at HRA HBA HXA
    have x0 := HXA.out.cell 0 (x := .string ⟨#[105, 110, 102, 105, 110, 105, 116, 121]⟩) rfl
    have x1 := HXA.out.cell 1 (x := .int .i64 2) rfl
    have Kof : ∀ u, Below W1.heap.size W1 u → Below W1.heap.size W1 u ∧ u.cell? ⟨wr.heap.size, 0, none⟩ = some (.string ⟨#[105, 110, 102, 105, 110, 105, 116, 121]⟩) := fun u hu => ⟨hu, ((HXA.out.below hu).cell 0 (x := .string ⟨#[105, 110, 102, 105, 110, 105, 116, 121]⟩) rfl)⟩
    have hnw := nw1 wr
    clear RA BA XA bA hR hB n0
    go_wp2_with fail
    clear hnw
    rw [← hW1]
    clear hW1
    go_region_held3 (fun u => Below W1.heap.size W1 u ∧ u.cell? ⟨wr.heap.size, 0, none⟩ = some (.string ⟨#[105, 110, 102, 105, 110, 105, 116, 121]⟩)) (first | exact Kof _ (by assumption) | exact Kof _ (below_drewN (by assumption) _) | exact Kof _ (Below.drew (by assumption)) | exact Kof _ (Below.refl _ _).drew | exact Kof _ (Below.refl _ _))
     (first | (go_at_call 106; refine (k1 _).mono ?_; rintro e w' ⟨rfl, hb0⟩; have hb1 := below_keep (And.left (by assumption)) hb0 (Below.size (And.left (by assumption))); clear hb0))
    have HR2 := hid (HRA.out.below hb1)
    have HB2 := hid (HBA.out.trans (hb1.mono HBA.out.size))
    have XX := HXA.out.below hb1
    have x0 := XX.cell 0 (x := .string ⟨#[105, 110, 102, 105, 110, 105, 116, 121]⟩) rfl
    have x1 := XX.cell 1 (x := .int .i64 2) rfl
    clear Kof XX hb1 HXA HRA HBA
    rename World => W9
    by_cases t1 : c1 = s.size - b
    · have t1' : (((b : Int) + (c1 : Int)) == (s.size : Int)) = true := by rw [beq_iff_eq]; omega
      by_cases t2 : c1 = 8
      · have hout : o = .inl ⟨2, ng, [], 0⟩ := by
         rw [HO.out, M.scanWord, if_neg (fun e => N0.out (M0.out.2 e)), if_pos (M1.out.1 ⟨t1, t2⟩)]
        have HOO := hid hout
        have y0 := HR2.out.cell 0 (x := .int .i64 0) rfl
        have y1 := HR2.out.cell 1 (x := .bool false) rfl
        have y2 := HR2.out.cell 2 (x := .slice none 0 0) rfl
        have y3 := HR2.out.cell 3 (x := .int .i64 0) rfl
        have f0 := HR2.out.frozen 0
        have f1 := HR2.out.frozen 1
        have f2 := HR2.out.frozen 2
        have f3 := HR2.out.frozen 3
        have t2' : ((c1 : Int) == 8) = true := by rw [beq_iff_eq]; omega
        clear hout t1 t2
        cases ng with
        | false =>
          go_wp2_with fail
          have R9 := box4 HR2.out rfl (.int .i64 2) (.bool false) (.slice none 0 0) (.int .i64 0)
          have H9 := below4 HB2.out (.int .i64 2) (.bool false) (.slice none 0 0) (.int .i64 0)
          generalize ((((W9.setCell ⟨w.heap.size, 0, none⟩ (.int .i64 2)).setCell ⟨w.heap.size, 1, none⟩ (.bool false)).setCell ⟨w.heap.size, 2, none⟩ (.slice none 0 0)).setCell ⟨w.heap.size, 3, none⟩ (.int .i64 0)) = w9 at R9 H9 ⊢
          have z0 := R9.cell 0 (x := .int .i64 2) rfl
          have z1 := R9.cell 1 (x := .bool false) rfl
          have z2 := R9.cell 2 (x := .slice none 0 0) rfl
          have z3 := R9.cell 3 (x := .int .i64 0) rfl
          refine bodyPost_ret (v := .agg #[.int .i64 2, .bool false, .slice none 0 0, .int .i64 0]) (by simp [results, Tryz.results86, go_sem, z0, z1, z2, z3]) rfl ?_
          rw [HOO.out]
          exact ⟨_, rfl, OwnV.nil _ _, H9⟩
        | true =>
          go_wp2_with fail
          have R9 := box4 HR2.out rfl (.int .i64 2) (.bool true) (.slice none 0 0) (.int .i64 0)
          have H9 := below4 HB2.out (.int .i64 2) (.bool true) (.slice none 0 0) (.int .i64 0)
          generalize ((((W9.setCell ⟨w.heap.size, 0, none⟩ (.int .i64 2)).setCell ⟨w.heap.size, 1, none⟩ (.bool true)).setCell ⟨w.heap.size, 2, none⟩ (.slice none 0 0)).setCell ⟨w.heap.size, 3, none⟩ (.int .i64 0)) = w9 at R9 H9 ⊢
          have z0 := R9.cell 0 (x := .int .i64 2) rfl
          have z1 := R9.cell 1 (x := .bool true) rfl
          have z2 := R9.cell 2 (x := .slice none 0 0) rfl
          have z3 := R9.cell 3 (x := .int .i64 0) rfl
          refine bodyPost_ret (v := .agg #[.int .i64 2, .bool true, .slice none 0 0, .int .i64 0]) (by simp [results, Tryz.results86, go_sem, z0, z1, z2, z3]) rfl ?_
          rw [HOO.out]
          exact ⟨_, rfl, OwnV.nil _ _, H9⟩
      · have t2' : ((c1 : Int) == 8) = false := by rw [beq_eq_false_iff_ne]; omega
        have T2 := hid t2
        clear t1 t2
        go_wp2_with fail
        go_roundw
        case rel => exact ⟨HR2.out, HB2.out, .inr (.inr (.inl ⟨by go_num, rfl, N0.out, fun q => T2.out q.2⟩))⟩
        case measure => simp [intOf]
    · have t1' : (((b : Int) + (c1 : Int)) == (s.size : Int)) = false := by rw [beq_eq_false_iff_ne]; omega
      have T1 := hid t1
      clear t1
      go_wp2_with fail
      go_roundw
      case rel => exact ⟨HR2.out, HB2.out, .inr (.inr (.inl ⟨by go_num, rfl, N0.out, fun q => T1.out q.1⟩))⟩
      case measure => simp [intOf]
  · have N0 := hid n0; have N1 := hid n1; have bA : Below wr.heap.size wr (wr.alloc (.cells #[.string ⟨#[110, 97, 110]⟩, .int .i64 3] 153)) := (Below.refl _ _).alloc (Nat.le_refl _) _
    have RA := hR.below bA
    have BA := hB.trans (bA.mono hB.size)
    have XA : Cls (wr.alloc (.cells #[.string ⟨#[110, 97, 110]⟩, .int .i64 3] 153)) wr.heap.size #[.string ⟨#[110, 97, 110]⟩, .int .i64 3] 153 := Cls.new _ _ _
    have hlr := hR.lt
    obtain ⟨W1, hW1⟩ : ∃ W1, W1 = wr.alloc (.cells #[.string ⟨#[110, 97, 110]⟩, .int .i64 3] 153) := ⟨_, rfl⟩
    have HRA := hid RA; have HBA := hid BA; have HXA := hid XA
    rw [← hW1] at HRA HBA HXA
    have x0 := HXA.out.cell 0 (x := .string ⟨#[110, 97, 110]⟩) rfl
    have x1 := HXA.out.cell 1 (x := .int .i64 3) rfl
    have Kof : ∀ u, Below W1.heap.size W1 u → Below W1.heap.size W1 u ∧ u.cell? ⟨wr.heap.size, 0, none⟩ = some (.string ⟨#[110, 97, 110]⟩) := fun u hu => ⟨hu, ((HXA.out.below hu).cell 0 (x := .string ⟨#[110, 97, 110]⟩) rfl)⟩
    have hnw := nw2 wr
    clear RA BA XA bA hR hB n0 n1
    go_wp2_with fail
    clear hnw
    rw [← hW1]
    clear hW1
    go_region_held3 (fun u => Below W1.heap.size W1 u ∧ u.cell? ⟨wr.heap.size, 0, none⟩ = some (.string ⟨#[110, 97, 110]⟩)) (first | exact Kof _ (by assumption) | exact Kof _ (below_drewN (by assumption) _) | exact Kof _ (Below.drew (by assumption)) | exact Kof _ (Below.refl _ _).drew | exact Kof _ (Below.refl _ _))
     (first | (go_at_call 106; refine (k2 _).mono ?_; rintro e w' ⟨rfl, hb0⟩; have hb1 := below_keep (And.left (by assumption)) hb0 (Below.size (And.left (by assumption))); clear hb0))
    have HR2 := hid (HRA.out.below hb1)
    have HB2 := hid (HBA.out.trans (hb1.mono HBA.out.size))
    have XX := HXA.out.below hb1
    have x0 := XX.cell 0 (x := .string ⟨#[110, 97, 110]⟩) rfl
    have x1 := XX.cell 1 (x := .int .i64 3) rfl
    clear Kof XX hb1 HXA HRA HBA
    rename World => W9
    by_cases t1 : c2 = s.size - b
    · have t1' : (((b : Int) + (c2 : Int)) == (s.size : Int)) = true := by rw [beq_iff_eq]; omega
      by_cases t2 : c2 = 3
      · have hout : o = .inl ⟨3, false, [], 0⟩ := by
         rw [HO.out, M.scanWord, if_neg (fun e => N0.out (M0.out.2 e)), if_neg (fun e => N1.out (M1.out.2 e)), if_pos (M2.out.1 ⟨t1, t2⟩)]
        have HOO := hid hout
        have y0 := HR2.out.cell 0 (x := .int .i64 0) rfl
        have y1 := HR2.out.cell 1 (x := .bool false) rfl
        have y2 := HR2.out.cell 2 (x := .slice none 0 0) rfl
        have y3 := HR2.out.cell 3 (x := .int .i64 0) rfl
        have f0 := HR2.out.frozen 0
        have f1 := HR2.out.frozen 1
        have f2 := HR2.out.frozen 2
        have f3 := HR2.out.frozen 3
        have t2' : ((c2 : Int) == 3) = true := by rw [beq_iff_eq]; omega
        clear hout t1 t2
        cases ng with
        | false =>
          go_wp2_with fail
          have R9 := box4 HR2.out rfl (.int .i64 3) (.bool false) (.slice none 0 0) (.int .i64 0)
          have H9 := below4 HB2.out (.int .i64 3) (.bool false) (.slice none 0 0) (.int .i64 0)
          generalize ((((W9.setCell ⟨w.heap.size, 0, none⟩ (.int .i64 3)).setCell ⟨w.heap.size, 1, none⟩ (.bool false)).setCell ⟨w.heap.size, 2, none⟩ (.slice none 0 0)).setCell ⟨w.heap.size, 3, none⟩ (.int .i64 0)) = w9 at R9 H9 ⊢
          have z0 := R9.cell 0 (x := .int .i64 3) rfl
          have z1 := R9.cell 1 (x := .bool false) rfl
          have z2 := R9.cell 2 (x := .slice none 0 0) rfl
          have z3 := R9.cell 3 (x := .int .i64 0) rfl
          refine bodyPost_ret (v := .agg #[.int .i64 3, .bool false, .slice none 0 0, .int .i64 0]) (by simp [results, Tryz.results86, go_sem, z0, z1, z2, z3]) rfl ?_
          rw [HOO.out]
          exact ⟨_, rfl, OwnV.nil _ _, H9⟩
        | true =>
          go_wp2_with fail
          have R9 := box4 HR2.out rfl (.int .i64 3) (.bool false) (.slice none 0 0) (.int .i64 0)
          have H9 := below4 HB2.out (.int .i64 3) (.bool false) (.slice none 0 0) (.int .i64 0)
          generalize ((((W9.setCell ⟨w.heap.size, 0, none⟩ (.int .i64 3)).setCell ⟨w.heap.size, 1, none⟩ (.bool false)).setCell ⟨w.heap.size, 2, none⟩ (.slice none 0 0)).setCell ⟨w.heap.size, 3, none⟩ (.int .i64 0)) = w9 at R9 H9 ⊢
          have z0 := R9.cell 0 (x := .int .i64 3) rfl
          have z1 := R9.cell 1 (x := .bool false) rfl
          have z2 := R9.cell 2 (x := .slice none 0 0) rfl
          have z3 := R9.cell 3 (x := .int .i64 0) rfl
          refine bodyPost_ret (v := .agg #[.int .i64 3, .bool false, .slice none 0 0, .int .i64 0]) (by simp [results, Tryz.results86, go_sem, z0, z1, z2, z3]) rfl ?_
          rw [HOO.out]
          exact ⟨_, rfl, OwnV.nil _ _, H9⟩
      · have t2' : ((c2 : Int) == 3) = false := by rw [beq_eq_false_iff_ne]; omega
        have T2 := hid t2
        clear t1 t2
        go_wp2_with fail
        go_roundw
        case rel => exact ⟨HR2.out, HB2.out, .inr (.inr (.inr (⟨by go_num, rfl, N0.out, N1.out, fun q => T2.out q.2⟩)))⟩
        case measure => simp [intOf]
    · have t1' : (((b : Int) + (c2 : Int)) == (s.size : Int)) = false := by rw [beq_eq_false_iff_ne]; omega
      have T1 := hid t1
      clear t1
      go_wp2_with fail
      go_roundw
      case rel => exact ⟨HR2.out, HB2.out, .inr (.inr (.inr (⟨by go_num, rfl, N0.out, N1.out, fun q => T1.out q.1⟩)))⟩
      case measure => simp [intOf]
  · have hout : o = .inr (b + max (max c0 c1) c2) := by
     rw [HO.out, M.scanWord, if_neg (fun e => n0 (M0.out.2 e)), if_neg (fun e => n1 (M1.out.2 e)), if_neg (fun e => n2 (M2.out.2 e)), HC.out.1, HC.out.2.1, HC.out.2.2, Nat.zero_max]
    have HOO := hid hout; have HB := hid hB
    clear hout n0 n1 n2 hR hB
    have hmm : max (max c0 c1) c2 ≤ 800 := by omega
    generalize max (max c0 c1) c2 = mm at *
    go_wp2_with fail
    refine ⟨rfl, ?_⟩
    rw [HOO.out]
    exact ⟨rfl, HB.out⟩

theorem scan_any (s : ByteArray) (w : World) (hs : s.size ≤ 800) (hF : Fol w) (hWd : Wds w) (o : M.Dec ⊕ Nat) (ho : o = M.scanI (lett s)) :
 Calls Tryz.prog 61 #[.string s] w fun e w' => ScanP w w' e o := by
 have HO := hid ho; clear ho
 have hl := lett_len s
 go_enter Tryz.func61, Tryz.ntmps61
 go_wp2_with fail
 go_upto_block 0 with fail
 repeat (go_step3; go_upto_block 0 with fail)
 go_cut [4, 5] (fun stv bv wr => AfterW w wr (lett s) stv bv)
 case first =>
  go_wp2_with fail
  go_loopw [4] (fun stv wr => ∃ (pos st : Nat) (sn : M.Sn), stv = .int .i64 (st : Int) ∧ wr.heap[w.heap.size + 2]? = some (.stringIter s pos) ∧ pos ≤ s.size ∧ 1 ≤ st ∧ st ≤ 9 ∧ SnR wr (w.heap.size + 1) (w.heap.size + 3) sn ∧ Cls wr w.heap.size zDec 36 ∧ Below w.heap.size w wr ∧ M.walk (lett s) 0 1 (M.s0 false) = M.walk ((lett s).drop pos) pos st sn ∧ sn.digits.length ≤ pos ∧ sn.behind ≤ pos ∧ sn.exponent ≤ 1000000 ∧ ∀ x ∈ sn.digits, x < 256) (fun _ wr => s.size - World.iterPos wr (w.heap.size + 2))
  case atStart =>
   obtain ⟨a1, a2, a3, a4⟩ := start_ok w s _ rfl
   exact ⟨0, 1, M.s0 false, rfl, a1, by omega, by omega, by omega, a2, a3, a4, by rw [List.drop_zero], by simp, by simp, by simp, fun x hx => by simp at hx⟩
  case round =>
   rename World => wr
   obtain ⟨pos, st, sn, rfl, hit, hps, hs1, hs9, hSn, hZ, hB, hW, hl1, hl2, hl3, hl4⟩ := hrel
   have HL4 := hid hl4; clear hl4
   have hpos0 := iterPos_of hit
   by_cases hp : pos < s.size
   · obtain ⟨l, p', hnx, hlm, hll⟩ := next_letter wr (w.heap.size + 2) s pos hit hp
     have HP := hid hp
     have hit2 := Lib.iterAt_heap wr (w.heap.size + 2) s pos p' hit
     have hB2 := Lib.below_iterAt hB (k := w.heap.size + 2) (by omega) s p'
     have hSn2 := hSn.iterAt (w.heap.size + 2) (by omega) (by omega) s p'
     have hZ2 := hZ.iterAt (w.heap.size + 2) (by omega) s p'
     have hF2 := hF.below hB2
     obtain ⟨W1, hW1⟩ : ∃ W1, W1 = wr.iterAt (w.heap.size + 2) s p' := ⟨_, rfl⟩
     rw [← hW1] at hnx hit2 hB2 hSn2 hZ2 hF2
     have hso : M.sortOf l = M.sortOf ((lett s).getD pos 0) := by
      rcases hll with ⟨_, e, _⟩ | ⟨e1, e2, _⟩
      · rw [e]
      · rw [sort_high _ e1, sort_high _ e2]
     have hsl := sort_lt l
     have hcell := hF2.2 st (M.sortOf l) (by omega) hsl
     have kS := fun (u : World) => sortOf_any l hlm u _ rfl
     have hdr := drop_cons (lett s) pos (by omega)
     rw [hdr] at hW
     generalize (lett s).getD pos 0 = c at *
     generalize hSo : M.sortOf l = so at *
     have hs1' : (0 : Int) ≤ (st : Int) := by omega
     have hs9' : (st : Int) < 10 := by omega
     have hso' : (so : Int) < 6 := by omega
     have HW := hid hW; have HB := hid hB2; have HSN := hid hSn2; have HZ := hid hZ2; have HIT := hid hit2; have HLL := hid hll; have HFW := hid hF2; have HSS := hid hso; have HSO := hid hSo
     clear hW hB hB2 hSn hSn2 hZ hZ2 hit hit2 hll hF2 hW1 hso hdr hSo
     go_wp2_with fail
     go_quiet ((go_at_call 84; exact Calls.quiet_of_same (kS _)))
     have bq : Below W1.heap.size W1 (W1.drewN nq) := below_drewN (Below.refl _ _) nq
     have HB2 := hid (HB.out.trans (bq.mono HB.out.size))
     have HSN2 := hid (HSN.out.below bq)
     have HZ2 := hid (HZ.out.below bq)
     have HIT2 : Hid ((W1.drewN nq).heap[w.heap.size + 2]? = some (.stringIter s p')) := hid ((bq.block _ (lt_of_block HIT.out)).trans HIT.out)
     generalize W1.drewN nq = W2 at *
     clear bq HB HSN HZ HIT hcell kS HFW
     have hn10 := M.next_le st so
     have hn2 := next_two (so := so) hs1
     have hnd := next_digit (st := st) (so := so)
     have hwk : ∀ r, M.next st so ≠ 0 → M.next st so ≠ 10 → M.walk (c :: r) pos st sn = M.walk r (pos + 1) (M.next st so) (M.take (M.next st so) c sn) := fun r e0 e1 => M.step r pos sn (by rw [← HSS.out]) e0 e1
     have hw0 : ∀ r, M.next st so = 0 → M.walk (c :: r) pos st sn = .stuck pos := fun r e0 => by rw [M.walk, ← HSS.out, if_pos e0]
     have hw1 : ∀ r, M.next st so = 10 → M.walk (c :: r) pos st sn = .word pos sn.neg := fun r e0 => by rw [M.walk, ← HSS.out, if_neg (by omega), if_pos e0]
     have hz0 : so = 0 → M.next st so = 0 := fun e => by rw [e]; exact M.next0 st
     generalize M.next st so = ns at *
     by_cases e0 : ns = 0
     · subst e0
       have hout : o = .inr pos := by rw [HO.out, M.scanI, HW.out, hw0 _ rfl]; rfl
       have HOO := hid hout
       clear hwk hw0 hw1 hnd hn2 hout hz0
       go_wp2_with fail
       simp only [Exit.noGoto]
       refine ⟨rfl, ?_⟩
       rw [HOO.out]
       exact ⟨rfl, HB2.out⟩
     · by_cases e1 : ns = 10
       · subst e1
         have hww := HW.out.trans (hw1 _ rfl)
         have HWW := hid hww
         clear hwk hw0 hw1 hnd hn2 hww e0 hz0
         go_wp2_with fail
         go_meet
         case rel => exact ⟨10, sn, rfl, HSN2.out, HZ2.out, HB2.out, .inr ⟨rfl, pos, rfl, by omega, HWW.out⟩⟩
       · have hww := HW.out.trans (hwk _ e0 e1)
         have hb0 : ((ns : Int) == 0) = false := by rw [beq_eq_false_iff_ne]; omega
         have hb1 : ((ns : Int) == 10) = false := by rw [beq_eq_false_iff_ne]; omega
         have h2n := hn2 e0
         have h9n : ns ≤ 9 := by omega
         have H2N := hid h2n; have H9N := hid h9n
         have hso0 : so ≠ 0 := fun e => e0 (hz0 e)
         have hcl : c < 128 ∧ l = c ∧ p' = pos + 1 := by
          rcases HLL.out with q | q
          · exact q
          · exfalso; exact hso0 (by rw [← HSO.out]; exact sort_high l q.2.1)
         obtain ⟨hc1, rfl, rfl⟩ := hcl
         have kT := take_any (w.heap.size + 1) (w.heap.size + 3) ns l sn W2 HSN2.out (by omega) (by omega) hl3 ⟨h2n, by omega⟩ hlm (fun q => digit_of_sort (by rw [HSO.out]; exact hnd q))
         have HWW := hid hww
         clear hwk hw0 hw1 hnd hn2 hww e0 e1 hz0 hso0
         go_wp2_with fail
         refine kT.mono ?_
         rintro e W3 ⟨rfl, hS3, hK3⟩
         have HS3 := hid hS3; have HK3 := hid hK3
         clear hS3 hK3 kT
         go_wp2_with fail
         go_roundw
         case rel =>
          have := take_len ns l sn pos hl1 hl2 hl3
          exact ⟨pos + 1, ns, M.take ns l sn, rfl, (HK3.out.keep (w.heap.size + 2) (by omega) (by omega)).trans HIT2.out, HP.out, Nat.le_trans (by omega) H2N.out, H9N.out, HS3.out, (HK3.out.keep w.heap.size (by omega) (by omega)).trans HZ2.out, HB2.out.trans (HK3.out.below.mono (by omega)), HWW.out, this.1, this.2.1, this.2.2, take_256 ns l sn (by omega) HL4.out⟩
         case measure =>
          rw [iterPos_of ((HK3.out.keep (w.heap.size + 2) (by omega) (by omega)).trans HIT2.out), hpos0]; have := HP.out; omega
   · have hend : ∀ ty, (Instr.next (.pointer (some ⟨w.heap.size + 2, 0, none⟩)) true ty).run Tryz.prog wr = .ok (.tuple #[.bool false]) wr := fun ty => Lib.run_next_end_at wr (w.heap.size + 2) s pos ty hit hp
     have hnil : (lett s).drop pos = [] := List.drop_eq_nil_of_le (by omega)
     rw [hnil] at hW
     have HW := hid hW; have HB := hid hB; have HSN := hid hSn; have HZ := hid hZ
     clear hW hB hSn hZ hit hnil
     go_wp2_with fail
     go_meet
     case rel => exact ⟨st, sn, rfl, HSN.out, HZ.out, HB.out, .inl ⟨hs9, hs1, HW.out, by omega, by omega, hl3, HL4.out⟩⟩
 case rest =>
  rename World => wr
  obtain ⟨st, sn, rfl, hSn, hZ, hB, hcase⟩ := hcut
  have hW2 := hWd.below hB
  rcases hcase with ⟨h9, h1, hw, g1, g2, g3, g4⟩ | ⟨rfl, b, rfl, hbl, hw⟩
  · have hx10 : ((st : Int) == 10) = false := by rw [beq_eq_false_iff_ne]; omega
    by_cases hg : st = 3 ∨ st = 5 ∨ st = 6 ∨ st = 9
    · have hout : o = .inl sn.dec := by rw [HO.out, M.scanI, hw]; simp [M.Out.scan, M.good, hg]
      have kD := decimal_any (w.heap.size + 1) (w.heap.size + 3) sn wr hSn (by omega) (by omega) g3 g4
      have HOO := hid hout; have HB := hid hB; have HZ := hid hZ
      clear hout hw hSn hB hZ
      rcases hg with rfl | rfl | rfl | rfl
      all_goals
       go_wp2_with fail
       refine kD.mono ?_
       rintro e W3 ⟨xv, rfl, hV, b3⟩
       obtain ⟨xa, xc, rfl, hv2⟩ := hV
       have V3 : OwnV W3 (w.heap.size + 3) (.slice xa sn.dec.digits.length xc) sn.dec.digits := ⟨xa, xc, rfl, hv2⟩
       have R3 := HZ.out.below b3
       have B3 := HB.out.trans (b3.mono HB.out.size)
       have HV3 := hid V3; have HR3 := hid R3; have HB3 := hid B3
       clear V3 R3 B3 hv2 kD b3
       have y0 := HR3.out.cell 0 (x := .int .i64 0) rfl
       have y1 := HR3.out.cell 1 (x := .bool false) rfl
       have y2 := HR3.out.cell 2 (x := .slice none 0 0) rfl
       have y3 := HR3.out.cell 3 (x := .int .i64 0) rfl
       have f0 := HR3.out.frozen 0
       have f1 := HR3.out.frozen 1
       have f2 := HR3.out.frozen 2
       have f3 := HR3.out.frozen 3
       have ltR : w.heap.size < w.heap.size + 3 := by omega
       unfold decV
       go_wp2_with fail
       have R9 := box4 HR3.out rfl (.int .i64 sn.dec.kind) (.bool sn.dec.neg) (.slice xa sn.dec.digits.length xc) (.int .i64 sn.dec.exp)
       have H9 := below4 HB3.out (.int .i64 sn.dec.kind) (.bool sn.dec.neg) (.slice xa sn.dec.digits.length xc) (.int .i64 sn.dec.exp)
       have O9 := (((HV3.out.far ⟨w.heap.size, 0, none⟩ ltR (.int .i64 sn.dec.kind)).far ⟨w.heap.size, 1, none⟩ ltR (.bool sn.dec.neg)).far ⟨w.heap.size, 2, none⟩ ltR (.slice xa sn.dec.digits.length xc)).far ⟨w.heap.size, 3, none⟩ ltR (.int .i64 sn.dec.exp)
       generalize ((((W3.setCell ⟨w.heap.size, 0, none⟩ (.int .i64 sn.dec.kind)).setCell ⟨w.heap.size, 1, none⟩ (.bool sn.dec.neg)).setCell ⟨w.heap.size, 2, none⟩ (.slice xa sn.dec.digits.length xc)).setCell ⟨w.heap.size, 3, none⟩ (.int .i64 sn.dec.exp)) = w9 at R9 H9 O9 ⊢
       have z0 := R9.cell 0 (x := .int .i64 sn.dec.kind) rfl
       have z1 := R9.cell 1 (x := .bool sn.dec.neg) rfl
       have z2 := R9.cell 2 (x := .slice xa sn.dec.digits.length xc) rfl
       have z3 := R9.cell 3 (x := .int .i64 sn.dec.exp) rfl
       simp only [Exit.noGoto]
       refine bodyPost_ret (v := .agg #[.int .i64 sn.dec.kind, .bool sn.dec.neg, .slice xa sn.dec.digits.length xc, .int .i64 sn.dec.exp]) (by simp [results, Tryz.results61, go_sem, z0, z1, z2, z3]) rfl ?_
       rw [HOO.out]
       exact ⟨_, rfl, O9.low (by omega), H9⟩
    · have hout : o = .inr (lett s).length := by rw [HO.out, M.scanI, hw]; simp [M.Out.scan, M.good, hg]
      have b3 : ((st : Int) == 3) = false := by rw [beq_eq_false_iff_ne]; omega
      have b5 : ((st : Int) == 5) = false := by rw [beq_eq_false_iff_ne]; omega
      have b6 : ((st : Int) == 6) = false := by rw [beq_eq_false_iff_ne]; omega
      have b9 : ((st : Int) == 9) = false := by rw [beq_eq_false_iff_ne]; omega
      have HOO := hid hout; have HB := hid hB
      clear hout hw hSn hB hZ hg
      go_wp2_with fail
      refine ⟨rfl, ?_⟩
      rw [HOO.out, hl]
      exact ⟨rfl, HB.out⟩
  · have hout : o = M.scanWord ((lett s).drop b) b sn.neg := by rw [HO.out, M.scanI, hw]; rfl
    have kW := scanWord_any s b sn.neg wr hs (by omega) hW2 _ rfl
    obtain ⟨_, _, aa, cc, hC, _⟩ := hSn
    have c0 := hC.cell 0 (x := .bool sn.neg) rfl
    have HOO := hid hout; have HB := hid hB; have HZ := hid hZ
    clear hout hw hB hZ hC
    go_wp2_with fail
    refine kW.mono ?_
    intro e W4 hP
    rw [← HOO.out] at hP
    have HOW := HOO
    clear kW HOO
    have hlr : w.heap.size < wr.heap.size := HZ.out.lt
    cases o with
    | inl d =>
       obtain ⟨xv, rfl, hV, b4⟩ := hP
       obtain ⟨xa, xc, rfl, hv2⟩ := hV
       have V4 : OwnV W4 wr.heap.size (.slice xa d.digits.length xc) d.digits := ⟨xa, xc, rfl, hv2⟩
       have HV4 := hid V4
       have HR4 := hid (HZ.out.below b4)
       have HB4 := hid (HB.out.trans (b4.mono HB.out.size))
       clear V4 hv2 b4
       have y0 := HR4.out.cell 0 (x := .int .i64 0) rfl
       have y1 := HR4.out.cell 1 (x := .bool false) rfl
       have y2 := HR4.out.cell 2 (x := .slice none 0 0) rfl
       have y3 := HR4.out.cell 3 (x := .int .i64 0) rfl
       have f0 := HR4.out.frozen 0
       have f1 := HR4.out.frozen 1
       have f2 := HR4.out.frozen 2
       have f3 := HR4.out.frozen 3
       have ltR : w.heap.size < wr.heap.size := hlr
       unfold decV
       go_wp2_with fail
       have R9 := box4 HR4.out rfl (.int .i64 d.kind) (.bool d.neg) (.slice xa d.digits.length xc) (.int .i64 d.exp)
       have H9 := below4 HB4.out (.int .i64 d.kind) (.bool d.neg) (.slice xa d.digits.length xc) (.int .i64 d.exp)
       have O9 := (((HV4.out.far ⟨w.heap.size, 0, none⟩ ltR (.int .i64 d.kind)).far ⟨w.heap.size, 1, none⟩ ltR (.bool d.neg)).far ⟨w.heap.size, 2, none⟩ ltR (.slice xa d.digits.length xc)).far ⟨w.heap.size, 3, none⟩ ltR (.int .i64 d.exp)
       generalize ((((W4.setCell ⟨w.heap.size, 0, none⟩ (.int .i64 d.kind)).setCell ⟨w.heap.size, 1, none⟩ (.bool d.neg)).setCell ⟨w.heap.size, 2, none⟩ (.slice xa d.digits.length xc)).setCell ⟨w.heap.size, 3, none⟩ (.int .i64 d.exp)) = w9 at R9 H9 O9 ⊢
       have z0 := R9.cell 0 (x := .int .i64 d.kind) rfl
       have z1 := R9.cell 1 (x := .bool d.neg) rfl
       have z2 := R9.cell 2 (x := .slice xa d.digits.length xc) rfl
       have z3 := R9.cell 3 (x := .int .i64 d.exp) rfl
       simp only [Exit.noGoto]
       refine bodyPost_ret (v := .agg #[.int .i64 d.kind, .bool d.neg, .slice xa d.digits.length xc, .int .i64 d.exp]) (by simp [results, Tryz.results61, go_sem, z0, z1, z2, z3]) rfl ?_
       exact ⟨_, rfl, O9.low (Nat.le_of_lt hlr), H9⟩
    | inr k =>
       obtain ⟨rfl, b4⟩ := hP
       have HB4 := hid (HB.out.trans (b4.mono HB.out.size))
       first | (refine ⟨rfl, ?_⟩; exact ⟨rfl, HB4.out⟩) | (simp only [Exit.noGoto]; refine ⟨rfl, ?_⟩; exact ⟨rfl, HB4.out⟩)

end Go.Proofs.YtjffpclidcloeaaGreatDoor
