import Derived.Test.YtogkkecnmlnajaaDoorqWA
import Derived.Test.YtogkkecnmlnajaaDoorqWrH
set_option maxHeartbeats 16000000
set_option maxRecDepth 100000
namespace Go.Proofs.YtogkkecnmlnajaaDoor
open Go.RowKit
set_option linter.unusedVariables false
set_option maxRecDepth 100000
theorem word_a (P P1 Wd A1 : Nat) (f f' e1 e2 e4 qm Em : Int) (x5 : Bool) (ans : M.Pt → Nat) (ok : M.Pt → Bool) (hans : ∀ t, ans t < 2 ^ 128) {w0 v : World} {ao : Option Addr} {n c i : Nat} {bs : List Nat} (hl : bs.length = n) (hn : n ≤ 1048576) (hb : RdB w0 ao bs) (h : Rp w0 v ao n c i) (hcs : rdB bs i % 12 < 6)
 (hP1 : P = P1 + 1) (hPa : 23 ≤ P1) (hPb : P1 ≤ 112) (hA1 : A1 + P = 129) (hWd : Wd ≤ 128) (hqm : qm = e1 - P + 1) (hEm : Em = e2 - e1 + 1) (he1 : -17000 ≤ e1) (he1' : e1 ≤ 0) (he2 : 0 ≤ e2) (he2' : e2 ≤ 17000)
 (g0 g1 g2 g3 g4 : Int) (g5 : Bool) (kE : ∀ u : World, Calls Tryd.prog 25 #[.int .i64 f] u fun e u' => e = .returned (.agg #[.int .i64 g0, .int .i64 g1, .int .i64 g2, .int .i64 g3, .int .i64 g4, .bool g5]) ∧ Below u.heap.size u u')
 (hg : (g0 = (P : Int) ∧ g1 = e1 ∧ g2 = e2 ∧ g3 = (Wd : Int) ∧ g4 = e4 ∧ g5 = x5 ∧ f' = f) ∨ (g0 = 0 ∧ (∀ u : World, Calls Tryd.prog 25 #[.int .i64 1] u fun e u' => e = .returned (.agg #[.int .i64 (P : Int), .int .i64 e1, .int .i64 e2, .int .i64 (Wd : Int), .int .i64 e4, .bool x5]) ∧ Below u.heap.size u u') ∧ f' = 1))
 (kP : ∀ (cl : Int) (ng : Bool) (s : Nat) (q : Int) (u : World), s < 2 ^ 128 → -1000000 ≤ q → q ≤ 1000000 → Calls Tryd.prog 28 #[.int .i64 f', .agg #[.int .i64 cl, .bool ng, .int .u64 (M.hiN s : Int), .int .u64 (M.loN s : Int), .int .i64 q]] u fun e u' => e = .returned (.tuple #[.agg #[.int .u64 (M.hiN (ans ⟨cl, ng, s, q⟩) : Int), .int .u64 (M.loN (ans ⟨cl, ng, s, q⟩) : Int)], .bool (ok ⟨cl, ng, s, q⟩)]) ∧ Below u.heap.size u u') :
 Calls Tryd.prog 16 #[.pointer (some ⟨w0.heap.size, 0, none⟩), .int .i64 f] v fun e v' => ∃ X j : Nat, Hid ((X, j) = wdF P Wd e1 e2 qm ans ok bs i) ∧ X < 2 ^ 128 ∧ e = .returned (.agg #[.int .u64 (M.hiN X : Int), .int .u64 (M.loN X : Int)]) ∧ Rp w0 v' ao n c j := by
 have wq1 : IntKind.i64.wrap (e1 - (P : Int)) = e1 - (P : Int) := by rw [IntKind.wrap_i64]; omega
 have wq2 : IntKind.i64.wrap (e1 - (P : Int) + 1) = qm := by rw [IntKind.wrap_i64]; omega
 have qb1 : -18000 ≤ qm := by omega
 have qb2 : qm ≤ 0 := by omega
 have HP1 := hid hP1; have HQM := hid hqm; have HEM := hid hEm; have HA1 := hid hA1
 clear hP1 hqm hEm hA1
 go_enter Tryd.func16, Tryd.ntmps16
 go_upto_region 1 with fail
 obtain ⟨bR, hbR⟩ : ∃ bR, bR = v.heap.size := ⟨_, rfl⟩
 have r0 : Cls (v.alloc (.cells #[.int .u64 0, .int .u64 0] 28)) bR #[.int .u64 0, .int .u64 0] 28 := by rw [hbR]; exact Cls.new _ _ _
 have hs0 : w0.heap.size < bR := by rw [hbR]; exact h.lt
 rw [← hbR]
 have h0 := h.alloc (.cells #[.int .u64 0, .int .u64 0] 28)
 have hz0 : bR < (v.alloc (.cells #[.int .u64 0, .int .u64 0] 28)).heap.size := by rw [hbR]; simp
 generalize v.alloc (.cells #[.int .u64 0, .int .u64 0] 28) = v0 at h0 r0 hz0 ⊢
 clear hbR h
 go_wp2_with fail
 refine (kE _).mono ?_
 rintro e v1 ⟨rfl, hb1⟩
 have h1 := h0.keep hb1
 have r1 := r0.below hb1
 have hz1 := hb1.size
 clear h0 r0 hb1 kE
 have HG := hid hg; clear hg
 obtain ⟨bD, hbD⟩ : ∃ bD, bD = v1.heap.size := ⟨_, rfl⟩
 have d2 : Cls (v1.alloc (.cells #[.int .i64 g0, .int .i64 g1, .int .i64 g2, .int .i64 g3, .int .i64 g4, .bool g5] 56)) bD #[.int .i64 g0, .int .i64 g1, .int .i64 g2, .int .i64 g3, .int .i64 g4, .bool g5] 56 := by rw [hbD]; exact Cls.new _ _ _
 have h2 := h1.alloc (.cells #[.int .i64 g0, .int .i64 g1, .int .i64 g2, .int .i64 g3, .int .i64 g4, .bool g5] 56)
 have r2 := r1.below (al0 v1 (.cells #[.int .i64 g0, .int .i64 g1, .int .i64 g2, .int .i64 g3, .int .i64 g4, .bool g5] 56))
 have hz2 : bR < bD := by omega
 go_upto_if 18 with fail
 rw [← hbD]
 generalize v1.alloc (.cells #[.int .i64 g0, .int .i64 g1, .int .i64 g2, .int .i64 g3, .int .i64 g4, .bool g5] 56) = v2 at *
 clear h1 r1 hz1 hz0 hbD
 go_cut [1] (fun z wx => z = .int .i64 f' ∧ Cls wx bD #[.int .i64 (P : Int), .int .i64 e1, .int .i64 e2, .int .i64 (Wd : Int), .int .i64 e4, .bool x5] 56 ∧ Cls wx bR #[.int .u64 0, .int .u64 0] 28 ∧ Rp w0 wx ao n c i)
 case first =>
  have hg := HG.out
  clear HG
  rcases hg with ⟨rfl, rfl, rfl, rfl, rfl, rfl, hf⟩ | ⟨rfl, k1, hf⟩
  · have hp0 : ¬ (P : Int) = 0 := by have := HP1.out; omega
    have HF := hid hf; clear hf
    go_wp2_with fail
    go_meet
    case rel => exact ⟨by rw [HF.out], d2, r2, h2⟩
  · have HF := hid hf; clear hf
    go_wp2_with fail
    refine (k1 _).mono ?_
    rintro e u1 ⟨rfl, hb1⟩
    have d3 := d2.below hb1
    have r3 := r2.below hb1
    have h3 := h2.keep hb1
    have a0 := d3.cell 0 rfl; have a1 := d3.cell 1 rfl; have a2 := d3.cell 2 rfl; have a3 := d3.cell 3 rfl; have a4 := d3.cell 4 rfl; have a5 := d3.cell 5 rfl
    have b0 := d3.frozen 0; have b1 := d3.frozen 1; have b2 := d3.frozen 2; have b3 := d3.frozen 3; have b4 := d3.frozen 4; have b5 := d3.frozen 5
    have D9 := hid ((((((d3.set 0 (.int .i64 (P : Int)) _ rfl).set 1 (.int .i64 e1) _ rfl).set 2 (.int .i64 e2) _ rfl).set 3 (.int .i64 (Wd : Int)) _ rfl).set 4 (.int .i64 e4) _ rfl).set 5 (.bool x5) #[.int .i64 (P : Int), .int .i64 e1, .int .i64 e2, .int .i64 (Wd : Int), .int .i64 e4, .bool x5] rfl)
    have H9 := hid ((((((h3.set bD 0 (.int .i64 (P : Int)) (by omega)).set bD 1 (.int .i64 e1) (by omega)).set bD 2 (.int .i64 e2) (by omega)).set bD 3 (.int .i64 (Wd : Int)) (by omega)).set bD 4 (.int .i64 e4) (by omega)).set bD 5 (.bool x5) (by omega))
    have R9 := hid ((((((r3.far ⟨bD, 0, none⟩ (by simp only; omega) (.int .i64 (P : Int))).far ⟨bD, 1, none⟩ (by simp only; omega) (.int .i64 e1)).far ⟨bD, 2, none⟩ (by simp only; omega) (.int .i64 e2)).far ⟨bD, 3, none⟩ (by simp only; omega) (.int .i64 (Wd : Int))).far ⟨bD, 4, none⟩ (by simp only; omega) (.int .i64 e4)).far ⟨bD, 5, none⟩ (by simp only; omega) (.bool x5))
    clear d2 r2 h2 d3 r3 h3 hb1
    go_wp2_with fail
    go_meet
    case rel => exact ⟨by rw [HF.out], D9.out, R9.out, H9.out⟩
 case rest =>
 clear d2 r2 h2 HG
 obtain ⟨rfl, d2, r2, h2⟩ := hcut
 rename World => v2
 go_wp2_with fail
 refine (nextP hl hn hb h2).mono ?_
 rintro e v3 ⟨k, i1, HK, hk, rfl, h3, x3⟩
 have d3 := x3.cls d2 (by omega)
 have r3 := x3.cls r2 (by omega)
 clear h2 d2 r2 x3
 go_wp2_with fail
 refine (nextP hl hn hb h3).mono ?_
 rintro e v4 ⟨y, i2, HY, hy, rfl, h4, x4⟩
 have d4 := x4.cls d3 (by omega)
 have r4 := x4.cls r3 (by omega)
 clear h3 d3 r3 x4
 obtain ⟨neg, hneg⟩ : ∃ neg : Bool, ((y : Int) % 3 == 1) = neg := ⟨_, rfl⟩
 have HNG : Hid (neg = decide (rdB bs (adv bs i) % 3 = 1)) := hid (by
  rw [← hneg, ← (HK.out).2, ← (HY.out).1]
  by_cases g : y % 3 = 1
  · rw [decide_eq_true g]; simp; omega
  · rw [decide_eq_false g]; simp; omega)
 have y3 : (y : Int).tmod 3 = (y : Int) % 3 := Int.tmod_eq_emod_of_nonneg (by omega)
 have d5 : Cls (v4.alloc (.cells #[.int .i64 0, .bool neg, .int .u64 0, .int .u64 0, .int .i64 0] 33)) bD #[.int .i64 (P : Int), .int .i64 e1, .int .i64 e2, .int .i64 (Wd : Int), .int .i64 e4, .bool x5] 56 := d4.below ((Below.refl _ _).alloc (Nat.le_refl _) _)
 have c50 := d5.cell 0 rfl
 have c51 := d5.cell 1 rfl
 have D4 := hid d4; have R4 := hid r4; have H4 := hid h4
 clear d4 r4 h4
 obtain ⟨m, hm⟩ : ∃ m : Nat, m = k % 12 := ⟨_, rfl⟩
 have hmI : (k : Int).tmod 12 = (m : Int) := by rw [Int.tmod_eq_emod_of_nonneg (by omega)]; omega
 have HM := hid hm
 have hm12 : m < 12 := by omega
 clear hm
 go_upto_block 0 with fail
 obtain ⟨bP, hbP⟩ : ∃ bP, bP = v4.heap.size := ⟨_, rfl⟩
 have p5 : Cls (v4.alloc (.cells #[.int .i64 0, .bool neg, .int .u64 0, .int .u64 0, .int .i64 0] 33)) bP #[.int .i64 0, .bool neg, .int .u64 0, .int .u64 0, .int .i64 0] 33 := by rw [hbP]; exact Cls.new _ _ _
 have h5 := H4.out.alloc (.cells #[.int .i64 0, .bool neg, .int .u64 0, .int .u64 0, .int .i64 0] 33)
 have r5 := R4.out.below (al0 v4 (.cells #[.int .i64 0, .bool neg, .int .u64 0, .int .u64 0, .int .i64 0] 33))
 have hzP : bD < bP := by rw [hbP]; exact D4.out.lt
 rw [← hbP]
 generalize v4.alloc (.cells #[.int .i64 0, .bool neg, .int .u64 0, .int .u64 0, .int .i64 0] 33) = v5 at *
 clear hbP c50 c51 D4 R4 H4 hmI y3 hneg
 have hP1n : ¬ (P1 : Int) = 0 := by omega
 have hP1m : ¬ P1 = 0 := by omega
 go_cut [] (fun wc => ∃ (cl : Int) (ng : Bool) (s : Nat) (q : Int) (j : Nat), Hid (((⟨cl, ng, s, q⟩ : M.Pt), j) = ptF P e1 e2 qm bs i2 m neg ∧ m ≠ 4 ∧ m ≠ 5) ∧ s < 2 ^ 128 ∧ -1000000 ≤ q ∧ q ≤ 1000000 ∧ Rp w0 wc ao n c j ∧ Cls wc bR #[.int .u64 0, .int .u64 0] 28 ∧ Cls wc bP #[.int .i64 cl, .bool ng, .int .u64 (M.hiN s : Int), .int .u64 (M.loN s : Int), .int .i64 q] 33)
 case first =>
  have B5 : Bx w0 v5 ao n c i2 bR bD bP #[.int .i64 (P : Int), .int .i64 e1, .int .i64 e2, .int .i64 (Wd : Int), .int .i64 e4, .bool x5] #[.int .i64 0, .bool neg, .int .u64 0, .int .u64 0, .int .i64 0] := ⟨h5, r5, d5, p5, hs0, hz2, hzP⟩
  have f0 := p5.frozen 0
  have f4 := p5.frozen 4
  have e0 := p5.cell 0 (x := .int .i64 0) rfl
  have ee4 := p5.cell 4 (x := .int .i64 0) rfl
  have hm6 : m < 6 := by have := HK.out.1; have := HM.out; omega
  rcases (show m = 0 ∨ m = 1 ∨ m = 2 ∨ m = 3 ∨ m = 4 ∨ m = 5 by omega) with rfl | rfl | rfl | rfl | rfl | rfl
  · as_aux_lemma =>
     go_wp2_with fail
     go_meet
     case rel => exact ⟨1, neg, 0, 0, i2, hid ⟨pt_low.1, by omega, by omega⟩, by omega, by omega, by omega, h5.set bP 0 _ (by omega), r5.far _ (by simp only; omega) _, p5.set 0 _ _ rfl⟩
  · as_aux_lemma =>
     go_wp2_with fail
     go_meet
     case rel => exact ⟨4, neg, 0, 0, i2, hid ⟨pt_low.2.1, by omega, by omega⟩, by omega, by omega, by omega, h5.set bP 0 _ (by omega), r5.far _ (by simp only; omega) _, p5.set 0 _ _ rfl⟩
  · as_aux_lemma =>
     have ee1 := p5.cell 1 (x := .bool neg) rfl
     have ee2 := p5.cell 2 (x := .int .u64 0) rfl
     have ee3 := p5.cell 3 (x := .int .u64 0) rfl
     have f1 := p5.frozen 1
     have f2 := p5.frozen 2
     have f3 := p5.frozen 3
     go_wp2_with fail
     go_meet
     case rel => exact ⟨5, false, 0, 0, i2, hid ⟨pt_low.2.2, by omega, by omega⟩, by omega, by omega, by omega, ((((h5.set bP 0 _ (by omega)).set bP 1 _ (by omega)).set bP 2 _ (by omega)).set bP 3 _ (by omega)).set bP 4 _ (by omega), ((((r5.far _ (by simp only; omega) _).far _ (by simp only; omega) _).far _ (by simp only; omega) _).far _ (by simp only; omega) _).far _ (by simp only; omega) _, ((((p5.set 0 _ _ rfl).set 1 _ _ rfl).set 2 _ _ rfl).set 3 _ _ rfl).set 4 _ _ rfl⟩
  · as_aux_lemma =>
     have B6 : Bx w0 ((v5.setCell ⟨bP, 0, none⟩ (.int .i64 2)).setCell ⟨bP, 4, none⟩ (.int .i64 qm)) ao n c i2 bR bD bP #[.int .i64 (P : Int), .int .i64 e1, .int .i64 e2, .int .i64 (Wd : Int), .int .i64 e4, .bool x5] #[.int .i64 2, .bool neg, .int .u64 0, .int .u64 0, .int .i64 qm] := (B5.setP 0 (.int .i64 2) _ rfl).setP 4 (.int .i64 qm) _ rfl
     have B6h := hid B6
     clear B6
     go_wp2_with fail
     have B6 := B6h.out
     generalize (v5.setCell ⟨bP, 0, none⟩ (.int .i64 2)).setCell ⟨bP, 4, none⟩ (.int .i64 qm) = v6 at B6 ⊢
     clear B6h B5 h5 r5 d5 p5 e0 ee4 f0 f4
     have B0 := B6.drew
     have KB : ∀ u j, Bx w0 u ao n c j bR bD bP #[.int .i64 (P : Int), .int .i64 e1, .int .i64 e2, .int .i64 (Wd : Int), .int .i64 e4, .bool x5] #[.int .i64 2, .bool neg, .int .u64 0, .int .u64 0, .int .i64 qm] → (fun u => u.cell? ⟨bD, 0, none⟩ = some (.int .i64 (P : Int))) u := fun u j hu => hu.d.cell 0 rfl
     have KS : ∀ u j (a b : Value), Bx w0 u ao n c j bR bD bP #[.int .i64 (P : Int), .int .i64 e1, .int .i64 e2, .int .i64 (Wd : Int), .int .i64 e4, .bool x5] #[.int .i64 2, .bool neg, .int .u64 0, .int .u64 0, .int .i64 qm] → (fun u => u.cell? ⟨bD, 0, none⟩ = some (.int .i64 (P : Int))) ((u.setCell ⟨bP, 2, none⟩ a).setCell ⟨bP, 3, none⟩ b) := fun u j a b hu => ((hu.setP 2 a _ rfl).setP 3 b _ rfl).d.cell 0 rfl
     have hw1 : IntKind.i64.wrap ((P : Int) - 1) = (P1 : Int) := by rw [IntKind.wrap_i64]; have := HP1.out; omega
     have hw2 : IntKind.i64.wrap (129 - (P : Int)) = (A1 : Int) := by rw [IntKind.wrap_i64]; have := HA1.out; omega
     go_region_held3 (fun u => u.cell? ⟨bD, 0, none⟩ = some (.int .i64 (P : Int))) (first | with_reducible exact KB _ _ B0 | with_reducible exact KB _ _ B1 | with_reducible exact KB _ _ B2 | with_reducible exact KB _ _ (B2.alloc _) | with_reducible exact KB _ _ B3 | with_reducible exact KB _ _ B4 | with_reducible exact KB _ _ B7 | with_reducible exact KB _ _ B8 | with_reducible exact KS _ _ _ _ B8) (first
      | (have hq := B0; clear hq; go_at_call 52; refine (wideP hl hn hb B0.rs).mono ?_; rintro e u1 ⟨x1, j1, X1, hx1, rfl, q1, t1⟩; have B1 := B0.sx t1 q1; clear B0 q1 t1)
      | (have hq := B1; clear hq; go_at_call 52; refine (wideP hl hn hb B1.rs).mono ?_; rintro e u2 ⟨x2, j2, X2, hx2, rfl, q2, t2⟩; have B2 := B1.sx t2 q2; clear B1 q2 t2)
      | (have hq := B2; clear hq; go_at_call 27; refine (inS (w0 := w0) x1 x2 u2 hx1 hx2 B2.rs.lt).mono ?_; rintro e u3 ⟨A, a3, m3, c3, HA, hA, rfl, N3, b3⟩; have B3 := B2.keep b3; clear B2 b3)
      | (have hq := B3; clear hq; go_at_call 14; refine (nextP hl hn hb B3.rs).mono ?_; rintro e u4 ⟨z, j4, HZ, hz, rfl, q4, t4⟩; have B4 := B3.sx t4 q4; have N4 := N3.sx t4; obtain ⟨zz, hzz⟩ : ∃ zz : Nat, zz = z % P1 := ⟨_, rfl⟩; obtain ⟨sh, hsh⟩ : ∃ sh : Nat, sh = A1 + zz := ⟨_, rfl⟩; have hzb : zz ≤ z := (by rw [hzz]; exact Nat.mod_le _ _); have hAb : A1 ≤ 129 := (by have := HA1.out; omega); have hz1 : (z : Int).tmod (P1 : Int) = (zz : Int) := (by rw [Int.tmod_eq_emod_of_nonneg (by omega), hzz]; rfl); have hz3 : IntKind.i64.wrap ((A1 : Int) + (zz : Int)) = (sh : Int) := (by rw [IntKind.wrap_i64]; omega); have HSH : Hid (sh = A1 + z % P1) := hid (by rw [hsh, hzz]); have hshb : sh ≤ 400 := (by omega); clear hzz hsh hzb hAb; clear B3 N3 q4 t4)
      | (have hq := B4; clear hq; go_at_call 51; refine (rightS (w0 := w0) A (sh : Int) a3 m3 c3 u4 hA (by omega) (by omega) N4 B4.rs.lt).mono ?_; rintro e u7 ⟨G, a7, m7, c7, HG, hG, rfl, N7, b7⟩; have B7 := B4.keep b7; clear B4 N4 b7)
      | (have hq := B7; clear hq; go_at_call 49; refine (wordS (w0 := w0) G a7 m7 c7 u7 hG N7).mono ?_; rintro e u8 ⟨rfl, b8⟩; have B8 := B7.keep b8; have ee2 := B8.p.cell 2 (x := .int .u64 0) rfl; have ee3 := B8.p.cell 3 (x := .int .u64 0) rfl; have f2 := B8.p.frozen 2; have f3 := B8.p.frozen 3; clear B7 N7 b8))
     have B9 : Bx w0 ((u8.setCell ⟨bP, 2, none⟩ (.int .u64 (M.hiN G : Int))).setCell ⟨bP, 3, none⟩ (.int .u64 (M.loN G : Int))) ao n c j4 bR bD bP #[.int .i64 (P : Int), .int .i64 e1, .int .i64 e2, .int .i64 (Wd : Int), .int .i64 e4, .bool x5] #[.int .i64 2, .bool neg, .int .u64 (M.hiN G : Int), .int .u64 (M.loN G : Int), .int .i64 qm] := (B8.setP 2 _ _ rfl).setP 3 _ _ rfl
     generalize (u8.setCell ⟨bP, 2, none⟩ (.int .u64 (M.hiN G : Int))).setCell ⟨bP, 3, none⟩ (.int .u64 (M.loN G : Int)) = u9 at B9 ⊢
     clear B8 B6
     go_wp2_with fail
     go_meet
     case rel => exact ⟨2, neg, G, qm, j4, hid ⟨pt3 X1.out X2.out HA.out HZ.out HSH.out HG.out HP1.out HA1.out, by omega, by omega⟩, hG, by omega, by omega, B9.rs, B9.r, B9.p⟩
  · as_aux_lemma =>
     go_wp2_with fail
     refine (wideP hl hn hb B5.rs).mono ?_
     rintro e u1 ⟨x1, j1, X1, hx1, rfl, q1, t1⟩
     have B1 := B5.sx t1 q1
     go_wp2_with fail
     refine (wideP hl hn hb B1.rs).mono ?_
     rintro e u2 ⟨x2, j2, X2, hx2, rfl, q2, t2⟩
     have B2 := B1.sx t2 q2
     obtain ⟨Y, HYY, hY, ex1, ex2⟩ := mk_word x1 x2 hx1 hx2
     have WD := hid (wd4 (P := P) (Wd := Wd) (e1 := e1) (e2 := e2) (qm := qm) (ans := ans) (ok := ok) HK.out HY.out HM.out rfl X1.out X2.out HYY.out)
     clear X1 X2 HYY
     subst ex1 ex2
     have R2 := B2.r
     have H2 := B2.rs
     clear B1 B5 q1 t1 q2 t2 h5 r5 d5 p5 e0 ee4 f0 f4 B2
     have y0 := R2.cell 0 (x := .int .u64 0) rfl; have y1 := R2.cell 1 (x := .int .u64 0) rfl; have y2 := R2.frozen 0; have y3 := R2.frozen 1
     go_wp2_with fail
     have R9 : Cls ((u2.setCell ⟨bR, 0, none⟩ (.int .u64 (M.hiN Y : Int))).setCell ⟨bR, 1, none⟩ (.int .u64 (M.loN Y : Int))) bR #[.int .u64 (M.hiN Y : Int), .int .u64 (M.loN Y : Int)] 28 := (R2.set 0 _ _ rfl).set 1 _ _ rfl
     have H9 := (H2.set bR 0 (.int .u64 (M.hiN Y : Int)) hs0).set bR 1 (.int .u64 (M.loN Y : Int)) hs0
     generalize (u2.setCell ⟨bR, 0, none⟩ (.int .u64 (M.hiN Y : Int))).setCell ⟨bR, 1, none⟩ (.int .u64 (M.loN Y : Int)) = v9 at R9 H9 ⊢
     have z0 := R9.cell 0 (x := .int .u64 (M.hiN Y : Int)) rfl; have z1 := R9.cell 1 (x := .int .u64 (M.loN Y : Int)) rfl
     exact bodyPost_ret (v := .agg #[.int .u64 (M.hiN Y : Int), .int .u64 (M.loN Y : Int)]) (by simp [results, Tryd.results16, go_sem, z0, z1]) rfl ⟨Y, _, hid (WD.out), by first | assumption | omega, rfl, H9⟩
  · as_aux_lemma =>
     have KB : ∀ u j, Bx w0 u ao n c j bR bD bP #[.int .i64 (P : Int), .int .i64 e1, .int .i64 e2, .int .i64 (Wd : Int), .int .i64 e4, .bool x5] #[.int .i64 0, .bool neg, .int .u64 0, .int .u64 0, .int .i64 0] → (fun u => u.cell? ⟨bD, 3, none⟩ = some (.int .i64 (Wd : Int))) u := fun u j hu => hu.d.cell 3 rfl
     have KS : ∀ u j (a b : Value), Bx w0 u ao n c j bR bD bP #[.int .i64 (P : Int), .int .i64 e1, .int .i64 e2, .int .i64 (Wd : Int), .int .i64 e4, .bool x5] #[.int .i64 0, .bool neg, .int .u64 0, .int .u64 0, .int .i64 0] → (fun u => u.cell? ⟨bD, 3, none⟩ = some (.int .i64 (Wd : Int))) ((u.setCell ⟨bR, 0, none⟩ a).setCell ⟨bR, 1, none⟩ b) := fun u j a b hu => ((hu.d.far _ (by have := hu.s1; simp only; omega) _).far _ (by have := hu.s1; simp only; omega) _).cell 3 rfl
     have B0 := B5.drew
     clear B5 h5 r5 d5 p5 e0 ee4 f0 f4
     go_wp2_with fail
     go_region_held3 (fun u => u.cell? ⟨bD, 3, none⟩ = some (.int .i64 (Wd : Int))) (first | with_reducible exact KB _ _ B0 | with_reducible exact KB _ _ B1 | with_reducible exact KB _ _ B2 | with_reducible exact KB _ _ (B2.alloc _) | with_reducible exact KB _ _ B3 | with_reducible exact KB _ _ B7 | with_reducible exact KB _ _ B8 | with_reducible exact KS _ _ _ _ B8) (first
      | (have hq := B0; clear hq; go_at_call 52; refine (wideP hl hn hb B0.rs).mono ?_; rintro e u1 ⟨x1, j1, X1, hx1, rfl, q1, t1⟩; have B1 := B0.sx t1 q1; clear B0 q1 t1)
      | (have hq := B1; clear hq; go_at_call 52; refine (wideP hl hn hb B1.rs).mono ?_; rintro e u2 ⟨x2, j2, X2, hx2, rfl, q2, t2⟩; have B2 := B1.sx t2 q2; clear B1 q2 t2)
      | (have hq := B2; clear hq; go_at_call 27; refine (inS (w0 := w0) x1 x2 u2 hx1 hx2 B2.rs.lt).mono ?_; rintro e u3 ⟨A, a3, m3, c3, HA, hA, rfl, N3, b3⟩; have B3 := B2.keep b3; clear B2 b3)
      | (have hq := B3; clear hq; go_at_call 47; refine (lowS (w0 := w0) A Wd (Wd : Int) rfl a3 m3 c3 u3 hA (by omega) N3 B3.rs.lt).mono ?_; rintro e u7 ⟨G, a7, m7, c7, HG, hG0, rfl, N7, b7⟩; have hG : G < 2 ^ 128 := Nat.lt_of_lt_of_le hG0 (Nat.pow_le_pow_right (by omega) (by omega)); have B7 := B3.keep b7; clear B3 N3 b7 hG0)
      | (have hq := B7; clear hq; go_at_call 49; refine (wordS (w0 := w0) G a7 m7 c7 u7 hG N7).mono ?_; rintro e u8 ⟨rfl, b8⟩; have B8 := B7.keep b8; have ee2 := B8.r.cell 0 (x := .int .u64 0) rfl; have ee3 := B8.r.cell 1 (x := .int .u64 0) rfl; have f2 := B8.r.frozen 0; have f3 := B8.r.frozen 1; clear B7 N7 b8))
     have R8 := B8.r
     have H8 := B8.rs
     have WD := hid (wd5 (P := P) (Wd := Wd) (e1 := e1) (e2 := e2) (qm := qm) (ans := ans) (ok := ok) HK.out HY.out HM.out rfl X1.out X2.out HA.out HG.out)
     clear B8 X1 X2 HA HG
     have R9 : Cls ((u8.setCell ⟨bR, 0, none⟩ (.int .u64 (M.hiN G : Int))).setCell ⟨bR, 1, none⟩ (.int .u64 (M.loN G : Int))) bR #[.int .u64 (M.hiN G : Int), .int .u64 (M.loN G : Int)] 28 := (R8.set 0 _ _ rfl).set 1 _ _ rfl
     have H9 := (H8.set bR 0 (.int .u64 (M.hiN G : Int)) hs0).set bR 1 (.int .u64 (M.loN G : Int)) hs0
     generalize (u8.setCell ⟨bR, 0, none⟩ (.int .u64 (M.hiN G : Int))).setCell ⟨bR, 1, none⟩ (.int .u64 (M.loN G : Int)) = v9 at R9 H9 ⊢
     go_wp2_with fail
     have z0 := R9.cell 0 (x := .int .u64 (M.hiN G : Int)) rfl; have z1 := R9.cell 1 (x := .int .u64 (M.loN G : Int)) rfl
     exact bodyPost_ret (v := .agg #[.int .u64 (M.hiN G : Int), .int .u64 (M.loN G : Int)]) (by simp [results, Tryd.results16, go_sem, z0, z1]) rfl ⟨G, _, hid (WD.out), by first | assumption | omega, rfl, H9⟩
 case rest =>
  obtain ⟨cl, ng, s, q, j, HT, hs, hq1, hq2, h6, r6, p6⟩ := hcut
  have WO := hid (wd_ok (Wd := Wd) (ans := ans) (ok := ok) HK.out HY.out HNG.out HM.out HT.out.2 HT.out.1)
  have cp0 := p6.cell 0 rfl; have cp1 := p6.cell 1 rfl; have cp2 := p6.cell 2 rfl; have cp3 := p6.cell 3 rfl; have cp4 := p6.cell 4 rfl
  have k1 := kP cl ng s q wc hs hq1 hq2
  obtain ⟨Y, eY⟩ : ∃ Y, Y = ans ⟨cl, ng, s, q⟩ := ⟨_, rfl⟩
  have hY : Y < 2 ^ 128 := by rw [eY]; exact hans _
  obtain ⟨o, eo⟩ : ∃ o, o = ok ⟨cl, ng, s, q⟩ := ⟨_, rfl⟩
  rw [← eY, ← eo] at k1
  have WP : Hid ((o = true → (Y, j) = wdF P Wd e1 e2 qm ans ok bs i) ∧ (o = false → (ans ⟨2, neg, 1 + k % 7, qm⟩, j) = wdF P Wd e1 e2 qm ans ok bs i)) := hid (by rw [eY, eo]; exact WO.out)
  clear eY eo WO HT
  go_wp2_with fail
  refine k1.mono ?_
  rintro e v7 ⟨rfl, hb7⟩
  have h7 := h6.keep hb7
  have r7 := r6.below hb7
  clear h6 r6 p6 cp0 cp1 cp2 cp3 cp4 k1 hb7 d5 p5 h5 r5
  cases o
  · have r8 := r7.below ((Below.refl _ v7).alloc (Nat.le_refl _) (.cells #[.int .u64 (M.hiN Y : Int), .int .u64 (M.loN Y : Int)] 28))
    have h8 := h7.alloc (.cells #[.int .u64 (M.hiN Y : Int), .int .u64 (M.loN Y : Int)] 28)
    have w8 := Cls.new v7 #[.int .u64 (M.hiN Y : Int), .int .u64 (M.loN Y : Int)] 28
    have hlt8 := r7.lt
    have k7 : (k : Int).tmod 7 = ((k % 7 : Nat) : Int) := by rw [Int.tmod_eq_emod_of_nonneg (by omega)]; omega
    have k2 := kP 2 neg (1 + k % 7) qm (v7.alloc (.cells #[.int .u64 (M.hiN Y : Int), .int .u64 (M.loN Y : Int)] 28)) (by omega) (by omega) (by omega)
    have x1 : M.hiN (1 + k % 7) = 0 := by unfold M.hiN; omega
    have x2 : M.loN (1 + k % 7) = 1 + k % 7 := by unfold M.loN; omega
    rw [x1, x2] at k2
    have x3 : ((1 + k % 7 : Nat) : Int) = 1 + (k : Int) % 7 := by omega
    rw [x3] at k2
    obtain ⟨Z, eZ⟩ : ∃ Z, Z = ans ⟨2, neg, 1 + k % 7, qm⟩ := ⟨_, rfl⟩
    have hZ : Z < 2 ^ 128 := by rw [eZ]; exact hans _
    rw [← eZ] at k2
    have WZ := hid (WP.out.2 rfl)
    rw [← eZ] at WZ
    generalize ok ⟨2, neg, 1 + k % 7, qm⟩ = o2 at k2
    clear x1 x2 x3 eZ WP
    have R8 := hid r8; have H8 := hid h8; have W8 := hid w8
    clear r7 h7 r8 h8 w8
    go_wp2_with fail
    refine k2.mono ?_
    rintro e v10 ⟨rfl, hb10⟩
    have r10 := R8.out.below hb10
    have h10 := H8.out.keep hb10
    have w10 := W8.out.below hb10
    have hz10 : v7.heap.size < v10.heap.size := by have := hb10.size; simp at this; omega
    clear R8 H8 W8 hb10 k2
    have q0 := w10.cell 0 (x := .int .u64 (M.hiN Y : Int)) rfl
    have q1 := w10.cell 1 (x := .int .u64 (M.loN Y : Int)) rfl
    have q2 := w10.frozen 0
    have q3 := w10.frozen 1
    have r11 := (r10.far ⟨v7.heap.size, 0, none⟩ (by simp only; omega) (.int .u64 (M.hiN Z : Int))).far ⟨v7.heap.size, 1, none⟩ (by simp only; omega) (.int .u64 (M.loN Z : Int))
    have h11 := (h10.set v7.heap.size 0 (.int .u64 (M.hiN Z : Int)) (by omega)).set v7.heap.size 1 (.int .u64 (M.loN Z : Int)) (by omega)
    clear r10 h10
    have y0 := r11.cell 0 (x := .int .u64 0) rfl; have y1 := r11.cell 1 (x := .int .u64 0) rfl; have y2 := r11.frozen 0; have y3 := r11.frozen 1
    go_wp2_with fail
    have R9 : Cls ((((v10.setCell ⟨v7.heap.size, 0, none⟩ (.int .u64 (M.hiN Z : Int))).setCell ⟨v7.heap.size, 1, none⟩ (.int .u64 (M.loN Z : Int))).setCell ⟨bR, 0, none⟩ (.int .u64 (M.hiN Z : Int))).setCell ⟨bR, 1, none⟩ (.int .u64 (M.loN Z : Int))) bR #[.int .u64 (M.hiN Z : Int), .int .u64 (M.loN Z : Int)] 28 := (r11.set 0 _ _ rfl).set 1 _ _ rfl
    have H9 := (h11.set bR 0 (.int .u64 (M.hiN Z : Int)) hs0).set bR 1 (.int .u64 (M.loN Z : Int)) hs0
    generalize (((v10.setCell ⟨v7.heap.size, 0, none⟩ (.int .u64 (M.hiN Z : Int))).setCell ⟨v7.heap.size, 1, none⟩ (.int .u64 (M.loN Z : Int))).setCell ⟨bR, 0, none⟩ (.int .u64 (M.hiN Z : Int))).setCell ⟨bR, 1, none⟩ (.int .u64 (M.loN Z : Int)) = v9 at R9 H9 ⊢
    have z0 := R9.cell 0 (x := .int .u64 (M.hiN Z : Int)) rfl; have z1 := R9.cell 1 (x := .int .u64 (M.loN Z : Int)) rfl
    exact bodyPost_ret (v := .agg #[.int .u64 (M.hiN Z : Int), .int .u64 (M.loN Z : Int)]) (by simp [results, Tryd.results16, go_sem, z0, z1]) rfl ⟨Z, _, hid (WZ.out), by first | assumption | omega, rfl, H9⟩
  · have hlt8 := r7.lt
    have WZ := hid (WP.out.1 rfl)
    clear WP
    have y0 := r7.cell 0 (x := .int .u64 0) rfl; have y1 := r7.cell 1 (x := .int .u64 0) rfl; have y2 := r7.frozen 0; have y3 := r7.frozen 1
    go_wp2_with fail
    have R9 : Cls (((v7.setCell ⟨bR, 0, none⟩ (.int .u64 (M.hiN Y : Int))).setCell ⟨bR, 1, none⟩ (.int .u64 (M.loN Y : Int))).alloc (.cells #[.int .u64 (M.hiN Y : Int), .int .u64 (M.loN Y : Int)] 28)) bR #[.int .u64 (M.hiN Y : Int), .int .u64 (M.loN Y : Int)] 28 := ((r7.set 0 _ _ rfl).set 1 _ _ rfl).below ((Below.refl _ _).alloc (Nat.le_refl _) _)
    have H9 := ((h7.set bR 0 (.int .u64 (M.hiN Y : Int)) hs0).set bR 1 (.int .u64 (M.loN Y : Int)) hs0).alloc (.cells #[.int .u64 (M.hiN Y : Int), .int .u64 (M.loN Y : Int)] 28)
    generalize ((v7.setCell ⟨bR, 0, none⟩ (.int .u64 (M.hiN Y : Int))).setCell ⟨bR, 1, none⟩ (.int .u64 (M.loN Y : Int))).alloc (.cells #[.int .u64 (M.hiN Y : Int), .int .u64 (M.loN Y : Int)] 28) = v9 at R9 H9 ⊢
    have z0 := R9.cell 0 (x := .int .u64 (M.hiN Y : Int)) rfl; have z1 := R9.cell 1 (x := .int .u64 (M.loN Y : Int)) rfl
    exact bodyPost_ret (v := .agg #[.int .u64 (M.hiN Y : Int), .int .u64 (M.loN Y : Int)]) (by simp [results, Tryd.results16, go_sem, z0, z1]) rfl ⟨Y, _, hid (WZ.out), by first | assumption | omega, rfl, H9⟩

end Go.Proofs.YtogkkecnmlnajaaDoor
