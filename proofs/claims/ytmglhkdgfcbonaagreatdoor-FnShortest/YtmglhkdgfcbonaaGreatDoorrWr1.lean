import Derived.Test.YtmglhkdgfcbonaaGreatDoorrWA
set_option maxHeartbeats 4000000
set_option maxRecDepth 100000
namespace Go.Proofs.YtmglhkdgfcbonaaGreatDoor
open Go.RowKit
set_option linter.unusedVariables false
set_option maxRecDepth 100000
theorem word_1 {w0 v : World} {ao : Option Addr} {n c : Nat} {bs : List Nat} (hl : bs.length = n) (hn : n ≤ 1048576) (hb : RdB w0 ao bs) (h : Rs w0 v ao n c)
 (kP : ∀ (cl : Int) (ng : Bool) (s : Nat) (q : Int) (u : World), s < 2 ^ 128 → -1000000 ≤ q → q ≤ 1000000 → Calls Tryz.prog 127 #[.int .i64 1, .agg #[.int .i64 cl, .bool ng, .int .u64 (M.hiN s : Int), .int .u64 (M.loN s : Int), .int .i64 q]] u fun e u' => ∃ (Y : Nat) (ok : Bool), Y < 2 ^ 128 ∧ e = .returned (.tuple #[.agg #[.int .u64 (M.hiN Y : Int), .int .u64 (M.loN Y : Int)], .bool ok]) ∧ Below u.heap.size u u') :
 Calls Tryz.prog 103 #[.pointer (some ⟨w0.heap.size, 0, none⟩), .int .i64 1] v fun e v' => ∃ X : Nat, X < 2 ^ 128 ∧ e = .returned (.agg #[.int .u64 (M.hiN X : Int), .int .u64 (M.loN X : Int)]) ∧ Rs w0 v' ao n c := by
 go_enter Tryz.func103, Tryz.ntmps103
 go_wp2_with fail
 obtain ⟨bR, hbR⟩ : ∃ bR, bR = v.heap.size := ⟨_, rfl⟩
 have r0 : Cls (v.alloc (.cells #[.int .u64 0, .int .u64 0] 29)) bR #[.int .u64 0, .int .u64 0] 29 := by rw [hbR]; exact Cls.new _ _ _
 have hs0 : w0.heap.size < bR := by rw [hbR]; obtain ⟨i, _, hi, _⟩ := h; exact hi.lt
 rw [← hbR]
 have h0 := h.alloc (.cells #[.int .u64 0, .int .u64 0] 29)
 have hz0 : bR + 1 = (v.alloc (.cells #[.int .u64 0, .int .u64 0] 29)).heap.size := by rw [hbR]; simp
 generalize v.alloc (.cells #[.int .u64 0, .int .u64 0] 29) = v0 at h0 r0 hz0 ⊢
 clear hbR h
 refine (sdescribe1 _).mono ?_
 rintro e v1 ⟨rfl, hb1⟩
 have h1 := h0.keep hb1
 have r1 := r0.below hb1
 have hz1 := hb1.size
 clear h0 r0 hb1
 go_wp2_with fail
 obtain ⟨bD, hbD⟩ : ∃ bD, bD = v1.heap.size := ⟨_, rfl⟩
 rw [← hbD]
 obtain ⟨v2, hv2⟩ : ∃ v2, v2 = v1.alloc (.cells #[.int .i64 53, .int .i64 (-1022), .int .i64 1023, .int .i64 64, .int .i64 11, .bool false] 61) := ⟨_, rfl⟩
 rw [← hv2]
 have d2 : Cls v2 bD #[.int .i64 53, .int .i64 (-1022), .int .i64 1023, .int .i64 64, .int .i64 11, .bool false] 61 := by rw [hv2, hbD]; exact Cls.new _ _ _
 have h2 : Rs w0 v2 ao n c := by rw [hv2]; exact h1.alloc _
 have r2 : Cls v2 bR #[.int .u64 0, .int .u64 0] 29 := by rw [hv2]; exact r1.below ((Below.refl _ _).alloc (Nat.le_refl _) _)
 have hz2 : bR < bD := by omega
 clear hv2 h1 r1 hz1 hz0 hbD
 refine (nextS hl hn hb h2).mono ?_
 rintro e v3 ⟨k, hk, rfl, h3, x3⟩
 have d3 := x3.cls d2 (by omega)
 have r3 := x3.cls r2 (by omega)
 clear h2 d2 r2 x3
 go_wp2_with fail
 refine (nextS hl hn hb h3).mono ?_
 rintro e v4 ⟨y, hy, rfl, h4, x4⟩
 have d4 := x4.cls d3 (by omega)
 have r4 := x4.cls r3 (by omega)
 clear h3 d3 r3 x4
 obtain ⟨neg, hneg⟩ : ∃ neg : Bool, ((y : Int) % 3 == 1) = neg := ⟨_, rfl⟩
 have d5 : Cls (v4.alloc (.cells #[.int .i64 0, .bool neg, .int .u64 0, .int .u64 0, .int .i64 0] 42)) bD #[.int .i64 53, .int .i64 (-1022), .int .i64 1023, .int .i64 64, .int .i64 11, .bool false] 61 := d4.below ((Below.refl _ _).alloc (Nat.le_refl _) _)
 have c50 : (v4.alloc (.cells #[.int .i64 0, .bool neg, .int .u64 0, .int .u64 0, .int .i64 0] 42)).cell? ⟨bD, 0, none⟩ = some (.int .i64 53) := d5.cell 0 rfl
 have c51 : (v4.alloc (.cells #[.int .i64 0, .bool neg, .int .u64 0, .int .u64 0, .int .i64 0] 42)).cell? ⟨bD, 1, none⟩ = some (.int .i64 (-1022)) := d5.cell 1 rfl
 have D4 := hid d4; have R4 := hid r4; have H4 := hid h4
 clear d4 r4 h4
 obtain ⟨m, hm⟩ : ∃ m : Nat, m = k % 12 := ⟨_, rfl⟩
 have hmI : (k : Int) % 12 = (m : Int) := by omega
 have hm12 : m < 12 := by omega
 clear hm
 go_upto_block 0 with fail
 rw [hmI]
 clear hmI
 obtain ⟨v5, hv5⟩ : ∃ v5, v5 = v4.alloc (.cells #[.int .i64 0, .bool neg, .int .u64 0, .int .u64 0, .int .i64 0] 42) := ⟨_, rfl⟩
 obtain ⟨bP, hbP⟩ : ∃ bP, bP = v4.heap.size := ⟨_, rfl⟩
 rw [← hv5] at d5 ⊢
 rw [← hbP]
 have p5 : Cls v5 bP #[.int .i64 0, .bool neg, .int .u64 0, .int .u64 0, .int .i64 0] 42 := by rw [hv5, hbP]; exact Cls.new _ _ _
 have h5 : Rs w0 v5 ao n c := by rw [hv5]; exact H4.out.alloc _
 have r5 : Cls v5 bR #[.int .u64 0, .int .u64 0] 29 := by rw [hv5]; exact R4.out.below ((Below.refl _ _).alloc (Nat.le_refl _) _)
 have hzP : bD < bP := by rw [hbP]; exact D4.out.lt
 clear hv5 hbP c50 c51 D4 R4 H4
 go_cut [] (fun wc => ∃ (cl : Int) (ng : Bool) (s : Nat) (q : Int), s < 2 ^ 128 ∧ -1000000 ≤ q ∧ q ≤ 1000000 ∧ Rs w0 wc ao n c ∧ Cls wc bR #[.int .u64 0, .int .u64 0] 29 ∧ Cls wc bP #[.int .i64 cl, .bool ng, .int .u64 (M.hiN s : Int), .int .u64 (M.loN s : Int), .int .i64 q] 42)
 case first =>
  have B5 : Bx w0 v5 ao n c bR bD bP #[.int .i64 53, .int .i64 (-1022), .int .i64 1023, .int .i64 64, .int .i64 11, .bool false] #[.int .i64 0, .bool neg, .int .u64 0, .int .u64 0, .int .i64 0] := ⟨h5, r5, d5, p5, hs0, hz2, hzP⟩
  have f0 := p5.frozen 0
  have f4 := p5.frozen 4
  have e0 := p5.cell 0 (x := .int .i64 0) rfl
  have e4 := p5.cell 4 (x := .int .i64 0) rfl
  rcases (show m = 0 ∨ m = 1 ∨ m = 2 ∨ m = 3 ∨ m = 4 ∨ m = 5 ∨ 6 ≤ m by omega) with rfl | rfl | rfl | rfl | rfl | rfl | h6
  · go_wp2_with fail
    go_meet
    case rel => exact ⟨1, neg, 0, 0, by omega, by omega, by omega, h5.set bP 0 _ (by omega), r5.far _ (by simp only; omega) _, p5.set 0 _ _ rfl⟩
  · go_wp2_with fail
    go_meet
    case rel => exact ⟨4, neg, 0, 0, by omega, by omega, by omega, h5.set bP 0 _ (by omega), r5.far _ (by simp only; omega) _, p5.set 0 _ _ rfl⟩
  · have e1 := p5.cell 1 (x := .bool neg) rfl
    have e2 := p5.cell 2 (x := .int .u64 0) rfl
    have e3 := p5.cell 3 (x := .int .u64 0) rfl
    have f1 := p5.frozen 1
    have f2 := p5.frozen 2
    have f3 := p5.frozen 3
    go_wp2_with fail
    go_meet
    case rel => exact ⟨5, false, 0, 0, by omega, by omega, by omega, ((((h5.set bP 0 _ (by omega)).set bP 1 _ (by omega)).set bP 2 _ (by omega)).set bP 3 _ (by omega)).set bP 4 _ (by omega), ((((r5.far _ (by simp only; omega) _).far _ (by simp only; omega) _).far _ (by simp only; omega) _).far _ (by simp only; omega) _).far _ (by simp only; omega) _, ((((p5.set 0 _ _ rfl).set 1 _ _ rfl).set 2 _ _ rfl).set 3 _ _ rfl).set 4 _ _ rfl⟩
  · have B6 : Bx w0 ((v5.setCell ⟨bP, 0, none⟩ (.int .i64 2)).setCell ⟨bP, 4, none⟩ (.int .i64 (-1074))) ao n c bR bD bP #[.int .i64 53, .int .i64 (-1022), .int .i64 1023, .int .i64 64, .int .i64 11, .bool false] #[.int .i64 2, .bool neg, .int .u64 0, .int .u64 0, .int .i64 (-1074)] := (B5.setP 0 (.int .i64 2) _ rfl).setP 4 (.int .i64 (-1074)) _ rfl
    have B6h := hid B6
    clear B6
    go_wp2_with fail
    have B6 := B6h.out
    generalize (v5.setCell ⟨bP, 0, none⟩ (.int .i64 2)).setCell ⟨bP, 4, none⟩ (.int .i64 (-1074)) = v6 at B6 ⊢
    clear B6h B5 h5 r5 d5 p5 e0 e4 f0 f4
    have B0 := B6.drew
    have KB : ∀ u, Bx w0 u ao n c bR bD bP #[.int .i64 53, .int .i64 (-1022), .int .i64 1023, .int .i64 64, .int .i64 11, .bool false] #[.int .i64 2, .bool neg, .int .u64 0, .int .u64 0, .int .i64 (-1074)] → (fun u => u.cell? ⟨bD, 0, none⟩ = some (.int .i64 53)) u := fun u hu => hu.d.cell 0 rfl
    have KS : ∀ u (a b : Value), Bx w0 u ao n c bR bD bP #[.int .i64 53, .int .i64 (-1022), .int .i64 1023, .int .i64 64, .int .i64 11, .bool false] #[.int .i64 2, .bool neg, .int .u64 0, .int .u64 0, .int .i64 (-1074)] → (fun u => u.cell? ⟨bD, 0, none⟩ = some (.int .i64 53)) ((u.setCell ⟨bP, 2, none⟩ a).setCell ⟨bP, 3, none⟩ b) := fun u a b hu => ((hu.setP 2 a _ rfl).setP 3 b _ rfl).d.cell 0 rfl
    have hw1 : IntKind.i64.wrap 52 = 52 := by rw [IntKind.wrap_i64]; omega
    have hw2 : IntKind.i64.wrap 76 = 76 := by rw [IntKind.wrap_i64]; omega
    go_region_held3 (fun u => u.cell? ⟨bD, 0, none⟩ = some (.int .i64 53)) (first | with_reducible exact KB _ B0 | with_reducible exact KB _ B1 | with_reducible exact KB _ B2 | with_reducible exact KB _ (B2.alloc _) | with_reducible exact KB _ B3 | with_reducible exact KB _ B4 | with_reducible exact KB _ B7 | with_reducible exact KB _ B8 | with_reducible exact KS _ _ _ B8) (first
     | (have hq := B0; clear hq; go_at_call 126; refine (wideS hl hn hb B0.rs).mono ?_; rintro e u1 ⟨x1, hx1, rfl, q1, t1⟩; have B1 := B0.sx t1 q1; clear B0 q1 t1)
     | (have hq := B1; clear hq; go_at_call 126; refine (wideS hl hn hb B1.rs).mono ?_; rintro e u2 ⟨x2, hx2, rfl, q2, t2⟩; have B2 := B1.sx t2 q2; clear B1 q2 t2)
     | (have hq := B2; clear hq; go_at_call 67; refine (inS (w0 := w0) x1 x2 u2 hx1 hx2 B2.rs.lt).mono ?_; rintro e u3 ⟨A, a3, m3, c3, hA, rfl, N3, b3⟩; have B3 := B2.keep b3; clear B2 b3)
     | (have hq := B3; clear hq; go_at_call 125; refine (nextS hl hn hb B3.rs).mono ?_; rintro e u4 ⟨z, hz, rfl, q4, t4⟩; have B4 := B3.sx t4 q4; have N4 := N3.sx t4; have hz1 : (z : Int).tmod 52 = (z : Int) % 52 := Int.tmod_eq_emod_of_nonneg (by omega); have hz3 : IntKind.i64.wrap (76 + (z : Int) % 52) = 76 + (z : Int) % 52 := (by rw [IntKind.wrap_i64]; omega); clear B3 N3 q4 t4)
     | (have hq := B4; clear hq; go_at_call 72; refine (rightS (w0 := w0) A (76 + (z : Int) % 52) a3 m3 c3 u4 hA (by omega) (by omega) N4 B4.rs.lt).mono ?_; rintro e u7 ⟨G, a7, m7, c7, hG, rfl, N7, b7⟩; have B7 := B4.keep b7; clear B4 N4 b7)
     | (have hq := B7; clear hq; go_at_call 59; refine (wordS (w0 := w0) G a7 m7 c7 u7 hG N7).mono ?_; rintro e u8 ⟨rfl, b8⟩; have B8 := B7.keep b8; have e2 := B8.p.cell 2 (x := .int .u64 0) rfl; have e3 := B8.p.cell 3 (x := .int .u64 0) rfl; have f2 := B8.p.frozen 2; have f3 := B8.p.frozen 3; clear B7 N7 b8))
    have B9 : Bx w0 ((u8.setCell ⟨bP, 2, none⟩ (.int .u64 (M.hiN G : Int))).setCell ⟨bP, 3, none⟩ (.int .u64 (M.loN G : Int))) ao n c bR bD bP #[.int .i64 53, .int .i64 (-1022), .int .i64 1023, .int .i64 64, .int .i64 11, .bool false] #[.int .i64 2, .bool neg, .int .u64 (M.hiN G : Int), .int .u64 (M.loN G : Int), .int .i64 (-1074)] := (B8.setP 2 _ _ rfl).setP 3 _ _ rfl
    generalize (u8.setCell ⟨bP, 2, none⟩ (.int .u64 (M.hiN G : Int))).setCell ⟨bP, 3, none⟩ (.int .u64 (M.loN G : Int)) = u9 at B9 ⊢
    clear B8 B6
    go_wp2_with fail
    go_meet
    case rel => exact ⟨2, neg, G, (-1074), hG, by omega, by omega, B9.rs, B9.r, B9.p⟩
  · go_wp2_with fail
    refine (wideS hl hn hb B5.rs).mono ?_
    rintro e u1 ⟨x1, hx1, rfl, q1, t1⟩
    have B1 := B5.sx t1 q1
    go_wp2_with fail
    refine (wideS hl hn hb B1.rs).mono ?_
    rintro e u2 ⟨x2, hx2, rfl, q2, t2⟩
    have B2 := B1.sx t2 q2
    obtain ⟨Y, hY, e1, e2⟩ := mk_word x1 x2 hx1 hx2
    subst e1 e2
    have R2 := B2.r
    have H2 := B2.rs
    clear B1 B5 q1 t1 q2 t2 h5 r5 d5 p5 e0 e4 f0 f4 B2
    have y0 := R2.cell 0 (x := .int .u64 0) rfl
    have y1 := R2.cell 1 (x := .int .u64 0) rfl
    have y2 := R2.frozen 0
    have y3 := R2.frozen 1
    go_wp2_with fail
    have R9 : Cls ((u2.setCell ⟨bR, 0, none⟩ (.int .u64 (M.hiN Y : Int))).setCell ⟨bR, 1, none⟩ (.int .u64 (M.loN Y : Int))) bR #[.int .u64 (M.hiN Y : Int), .int .u64 (M.loN Y : Int)] 29 := (R2.set 0 _ _ rfl).set 1 _ _ rfl
    have H9 := (H2.set bR 0 (.int .u64 (M.hiN Y : Int)) hs0).set bR 1 (.int .u64 (M.loN Y : Int)) hs0
    generalize (u2.setCell ⟨bR, 0, none⟩ (.int .u64 (M.hiN Y : Int))).setCell ⟨bR, 1, none⟩ (.int .u64 (M.loN Y : Int)) = v9 at R9 H9 ⊢
    have z0 := R9.cell 0 (x := .int .u64 (M.hiN Y : Int)) rfl
    have z1 := R9.cell 1 (x := .int .u64 (M.loN Y : Int)) rfl
    exact bodyPost_ret (v := .agg #[.int .u64 (M.hiN Y : Int), .int .u64 (M.loN Y : Int)]) (by simp [results, Tryz.results103, go_sem, z0, z1]) rfl ⟨Y, hY, rfl, H9⟩
  · have KB : ∀ u, Bx w0 u ao n c bR bD bP #[.int .i64 53, .int .i64 (-1022), .int .i64 1023, .int .i64 64, .int .i64 11, .bool false] #[.int .i64 0, .bool neg, .int .u64 0, .int .u64 0, .int .i64 0] → (fun u => u.cell? ⟨bD, 3, none⟩ = some (.int .i64 64)) u := fun u hu => hu.d.cell 3 rfl
    have KS : ∀ u (a b : Value), Bx w0 u ao n c bR bD bP #[.int .i64 53, .int .i64 (-1022), .int .i64 1023, .int .i64 64, .int .i64 11, .bool false] #[.int .i64 0, .bool neg, .int .u64 0, .int .u64 0, .int .i64 0] → (fun u => u.cell? ⟨bD, 3, none⟩ = some (.int .i64 64)) ((u.setCell ⟨bR, 0, none⟩ a).setCell ⟨bR, 1, none⟩ b) := fun u a b hu => ((hu.d.far _ (by have := hu.s1; simp only; omega) _).far _ (by have := hu.s1; simp only; omega) _).cell 3 rfl
    have B0 := B5.drew
    clear B5 h5 r5 d5 p5 e0 e4 f0 f4
    go_wp2_with fail
    go_region_held3 (fun u => u.cell? ⟨bD, 3, none⟩ = some (.int .i64 64)) (first | with_reducible exact KB _ B0 | with_reducible exact KB _ B1 | with_reducible exact KB _ B2 | with_reducible exact KB _ (B2.alloc _) | with_reducible exact KB _ B3 | with_reducible exact KB _ B7 | with_reducible exact KB _ B8 | with_reducible exact KS _ _ _ B8) (first
     | (have hq := B0; clear hq; go_at_call 126; refine (wideS hl hn hb B0.rs).mono ?_; rintro e u1 ⟨x1, hx1, rfl, q1, t1⟩; have B1 := B0.sx t1 q1; clear B0 q1 t1)
     | (have hq := B1; clear hq; go_at_call 126; refine (wideS hl hn hb B1.rs).mono ?_; rintro e u2 ⟨x2, hx2, rfl, q2, t2⟩; have B2 := B1.sx t2 q2; clear B1 q2 t2)
     | (have hq := B2; clear hq; go_at_call 67; refine (inS (w0 := w0) x1 x2 u2 hx1 hx2 B2.rs.lt).mono ?_; rintro e u3 ⟨A, a3, m3, c3, hA, rfl, N3, b3⟩; have B3 := B2.keep b3; clear B2 b3)
     | (have hq := B3; clear hq; go_at_call 57; refine (lowS (w0 := w0) A 64 64 rfl a3 m3 c3 u3 hA (by omega) N3 B3.rs.lt).mono ?_; rintro e u7 ⟨G, a7, m7, c7, hG0, rfl, N7, b7⟩; have hG : G < 2 ^ 128 := Nat.lt_of_lt_of_le hG0 (Nat.pow_le_pow_right (by omega) (by omega)); have B7 := B3.keep b7; clear B3 N3 b7 hG0)
     | (have hq := B7; clear hq; go_at_call 59; refine (wordS (w0 := w0) G a7 m7 c7 u7 hG N7).mono ?_; rintro e u8 ⟨rfl, b8⟩; have B8 := B7.keep b8; have e2 := B8.r.cell 0 (x := .int .u64 0) rfl; have e3 := B8.r.cell 1 (x := .int .u64 0) rfl; have f2 := B8.r.frozen 0; have f3 := B8.r.frozen 1; clear B7 N7 b8))
    have R8 := B8.r
    have H8 := B8.rs
    clear B8
    have R9 : Cls ((u8.setCell ⟨bR, 0, none⟩ (.int .u64 (M.hiN G : Int))).setCell ⟨bR, 1, none⟩ (.int .u64 (M.loN G : Int))) bR #[.int .u64 (M.hiN G : Int), .int .u64 (M.loN G : Int)] 29 := (R8.set 0 _ _ rfl).set 1 _ _ rfl
    have H9 := (H8.set bR 0 (.int .u64 (M.hiN G : Int)) hs0).set bR 1 (.int .u64 (M.loN G : Int)) hs0
    generalize (u8.setCell ⟨bR, 0, none⟩ (.int .u64 (M.hiN G : Int))).setCell ⟨bR, 1, none⟩ (.int .u64 (M.loN G : Int)) = v9 at R9 H9 ⊢
    have z0 := R9.cell 0 (x := .int .u64 (M.hiN G : Int)) rfl
    have z1 := R9.cell 1 (x := .int .u64 (M.loN G : Int)) rfl
    go_wp2_with fail
    exact bodyPost_ret (v := .agg #[.int .u64 (M.hiN G : Int), .int .u64 (M.loN G : Int)]) (by simp [results, Tryz.results103, go_sem, z0, z1]) rfl ⟨G, hG, rfl, H9⟩
  · have hm0 : ¬ (m : Int) = 0 := by omega
    have hm1 : ¬ (m : Int) = 1 := by omega
    have hm2 : ¬ (m : Int) = 2 := by omega
    have hm3 : ¬ (m : Int) = 3 := by omega
    have hm4 : ¬ (m : Int) = 4 := by omega
    have hm5 : ¬ (m : Int) = 5 := by omega
    have B6 : Bx w0 (v5.setCell ⟨bP, 0, none⟩ (.int .i64 3)) ao n c bR bD bP #[.int .i64 53, .int .i64 (-1022), .int .i64 1023, .int .i64 64, .int .i64 11, .bool false] #[.int .i64 3, .bool neg, .int .u64 0, .int .u64 0, .int .i64 0] := B5.setP 0 _ _ rfl
    have c0 := B5.d.cell 0 (x := .int .i64 53) rfl
    have B6h := hid B6
    clear B6
    go_wp2_with fail
    have B6 := B6h.out
    generalize v5.setCell ⟨bP, 0, none⟩ (.int .i64 3) = v6 at B6 ⊢
    clear B6h B5 h5 r5 d5 p5 e0 e4 f0 f4 c0
    refine (twoS (w0 := w0) 52 52 rfl v6 (by omega) B6.rs.lt).mono ?_
    rintro e u7 ⟨a7, m7, c7, rfl, N7, b7⟩
    have B7 := B6.keep b7
    clear B6 b7
    go_wp2_with fail
    refine (nextS hl hn hb B7.rs).mono ?_
    rintro e u8 ⟨z, hz, rfl, q8, t8⟩
    have B8 := B7.sx t8 q8
    have N8 := N7.sx t8
    clear B7 N7 q8 t8
    obtain ⟨j, hj⟩ : ∃ j : Nat, j = z % 5 := ⟨_, rfl⟩
    have hjI : (z : Int) % 5 = (j : Int) := by omega
    have hj5 : j < 5 := by omega
    clear hj
    go_upto_block 1 with fail
    rw [hjI]
    clear hjI
    go_cut [10] (fun sg wc => ∃ (G : Nat) (a : Option Addr) (m' c' : Nat), G < 2 ^ 128 ∧ sg = .slice a m' c' ∧ Nw w0 wc a m' c' G ∧ Bx w0 wc ao n c bR bD bP #[.int .i64 53, .int .i64 (-1022), .int .i64 1023, .int .i64 64, .int .i64 11, .bool false] #[.int .i64 3, .bool neg, .int .u64 0, .int .u64 0, .int .i64 0])
    case first =>
     rcases (show j = 0 ∨ j = 1 ∨ j = 2 ∨ 3 ≤ j by omega) with rfl | rfl | rfl | hj3
     · go_wp2_with fail
       go_meet
       case rel => exact ⟨2 ^ 52, a7, m7, c7, Nat.pow_lt_pow_right (by omega) (by omega), rfl, N8, B8⟩
     · have c0 := B8.d.cell 0 (x := .int .i64 53) rfl
       go_wp2_with fail
       refine (twoS (w0 := w0) 53 53 rfl u8 (by omega) B8.rs.lt).mono ?_
       rintro e u9 ⟨a9, m9, c9, rfl, N9, b9⟩
       have B9 := B8.keep b9
       clear B8 b9 N8 c0
       go_wp2_with fail
       refine (nextS hl hn hb B9.rs).mono ?_
       rintro e u10 ⟨y2, hy2, rfl, q10, t10⟩
       have B10 := B9.sx t10 q10
       have N10 := N9.sx t10
       clear B9 N9 q10 t10
       have g1 : (y2 : Int).tmod 3 = (y2 : Int) % 3 := Int.tmod_eq_emod_of_nonneg (by omega)
       go_wp2_with fail
       refine (ofS (w0 := w0) (1 + (y2 : Int) % 3) u10 (by omega) (by omega) B10.rs.lt).mono ?_
       rintro e u11 ⟨G, a11, m11, c11, hG, rfl, N11, b11⟩
       have B11 := B10.keep b11
       have N12 := N10.keep b11
       clear B10 N10 b11
       have hpB : 2 ^ 2 ≤ 2 ^ 53 := Nat.pow_le_pow_right (by omega) (by omega)
       go_wp2_with fail
       refine (subS (w0 := w0) (2 ^ 53) G a9 a11 m9 m11 c9 c11 u11 (Nat.pow_lt_pow_right (by omega) (by omega)) (Nat.le_trans (show G ≤ 2 ^ 2 by omega) hpB) N12 N11 B11.rs.lt).mono ?_
       rintro e u13 ⟨a13, m13, c13, rfl, N13, b13⟩
       have B13 := B11.keep b13
       clear B11 N11 N12 b13
       go_wp2_with fail
       go_meet
       case rel => exact ⟨2 ^ 53 - G, a13, m13, c13, Nat.lt_of_le_of_lt (Nat.sub_le _ _) (Nat.pow_lt_pow_right (by omega) (by omega)), rfl, N13, B13⟩
     · go_wp2_with fail
       refine (nextS hl hn hb B8.rs).mono ?_
       rintro e u10 ⟨y2, hy2, rfl, q10, t10⟩
       have B10 := B8.sx t10 q10
       have N10 := N8.sx t10
       clear B8 N8 q10 t10
       have g1 : (y2 : Int).tmod 4 = (y2 : Int) % 4 := Int.tmod_eq_emod_of_nonneg (by omega)
       go_wp2_with fail
       refine (ofS (w0 := w0) ((y2 : Int) % 4) u10 (by omega) (by omega) B10.rs.lt).mono ?_
       rintro e u11 ⟨G, a11, m11, c11, hG, rfl, N11, b11⟩
       have B11 := B10.keep b11
       have N12 := N10.keep b11
       clear B10 N10 b11
       have hpA : 2 ^ 52 < 2 ^ 127 := Nat.pow_lt_pow_right (by omega) (by omega)
       go_wp2_with fail
       refine (addS (w0 := w0) (2 ^ 52) G a7 a11 m7 m11 c7 c11 u11 (by omega) (by omega) N12 N11 B11.rs.lt).mono ?_
       rintro e u13 ⟨a13, m13, c13, rfl, N13, b13⟩
       have B13 := B11.keep b13
       clear B11 N11 N12 b13
       go_wp2_with fail
       go_meet
       case rel => exact ⟨2 ^ 52 + G, a13, m13, c13, by omega, rfl, N13, B13⟩
     · have hj0 : ¬ (j : Int) = 0 := by omega
       have hj1 : ¬ (j : Int) = 1 := by omega
       have hj2 : ¬ (j : Int) = 2 := by omega
       have KB : ∀ u, Bx w0 u ao n c bR bD bP #[.int .i64 53, .int .i64 (-1022), .int .i64 1023, .int .i64 64, .int .i64 11, .bool false] #[.int .i64 3, .bool neg, .int .u64 0, .int .u64 0, .int .i64 0] → (fun u => u.cell? ⟨bD, 0, none⟩ = some (.int .i64 53)) u := fun u hu => hu.d.cell 0 rfl
       have B0 := B8.drew
       have N0 := N8.drew
       clear B8 N8
       go_wp2_with fail
       have hw1 : IntKind.i64.wrap 52 = 52 := by rw [IntKind.wrap_i64]; omega
       have hpA : 2 ^ 52 < 2 ^ 127 := Nat.pow_lt_pow_right (by omega) (by omega)
       go_region_held3 (fun u => u.cell? ⟨bD, 0, none⟩ = some (.int .i64 53)) (first | with_reducible exact KB _ B0 | with_reducible exact KB _ B1 | with_reducible exact KB _ B2 | with_reducible exact KB _ (B2.alloc _) | with_reducible exact KB _ B3 | with_reducible exact KB _ B7 | with_reducible exact KB _ B8) (first
        | (have hq := B0; clear hq; go_at_call 126; refine (wideS hl hn hb B0.rs).mono ?_; rintro e u1 ⟨x1, hx1, rfl, q1, t1⟩; have B1 := B0.sx t1 q1; have N1 := N0.sx t1; clear B0 N0 q1 t1)
        | (have hq := B1; clear hq; go_at_call 126; refine (wideS hl hn hb B1.rs).mono ?_; rintro e u2 ⟨x2, hx2, rfl, q2, t2⟩; have B2 := B1.sx t2 q2; have N2 := N1.sx t2; clear B1 N1 q2 t2)
        | (have hq := B2; clear hq; go_at_call 67; refine (inS (w0 := w0) x1 x2 u2 hx1 hx2 B2.rs.lt).mono ?_; rintro e u3 ⟨A, a3, m3, c3, hA, rfl, N3, b3⟩; have B3 := B2.keep b3; have O3 := N2.keep b3; clear B2 N2 b3)
        | (have hq := B3; clear hq; go_at_call 57; refine (lowS (w0 := w0) A 52 52 rfl a3 m3 c3 u3 hA (by omega) N3 B3.rs.lt).mono ?_; rintro e u5 ⟨G, a5, m5, c5, hG, rfl, N5, b5⟩; have B7 := B3.keep b5; have O7 := O3.keep b5; clear B3 N3 O3 b5)
        | (have hq := B7; clear hq; go_at_call 38; refine (addS (w0 := w0) (2 ^ 52) G a7 a5 m7 m5 c7 c5 u5 (by omega) (by omega) O7 N5 B7.rs.lt).mono ?_; rintro e u6 ⟨a6, m6, c6, rfl, N6, b6⟩; have B8 := B7.keep b6; clear B7 O7 N5 b6))
       go_wp2_with fail
       go_meet
       case rel => exact ⟨2 ^ 52 + G, a6, m6, c6, by omega, rfl, N6, B8⟩
    case rest =>
     obtain ⟨G, a8, m8, c8, hG, rfl, N9, B9⟩ := hcut
     go_wp2_with fail
     refine (wordS (w0 := w0) G a8 m8 c8 wc hG N9).mono ?_
     rintro e u10 ⟨rfl, b10⟩
     have B10 := B9.keep b10
     clear B9 N9 N8 B8 b10
     have e2 := B10.p.cell 2 (x := .int .u64 0) rfl
     have e3 := B10.p.cell 3 (x := .int .u64 0) rfl
     have f2 := B10.p.frozen 2
     have f3 := B10.p.frozen 3
     have B11 : Bx w0 ((u10.setCell ⟨bP, 2, none⟩ (.int .u64 (M.hiN G : Int))).setCell ⟨bP, 3, none⟩ (.int .u64 (M.loN G : Int))) ao n c bR bD bP #[.int .i64 53, .int .i64 (-1022), .int .i64 1023, .int .i64 64, .int .i64 11, .bool false] #[.int .i64 3, .bool neg, .int .u64 (M.hiN G : Int), .int .u64 (M.loN G : Int), .int .i64 0] := (B10.setP 2 _ _ rfl).setP 3 _ _ rfl
     have B11h := hid B11
     clear B11
     go_wp2_with fail
     have B11 := B11h.out
     generalize (u10.setCell ⟨bP, 2, none⟩ (.int .u64 (M.hiN G : Int))).setCell ⟨bP, 3, none⟩ (.int .u64 (M.loN G : Int)) = u11 at B11 ⊢
     clear B11h B10 e2 e3 f2 f3
     refine (nextS hl hn hb B11.rs).mono ?_
     rintro e u12 ⟨y1, hy1, rfl, q12, t12⟩
     have B12 := B11.sx t12 q12
     clear B11 q12 t12
     go_wp2_with fail
     refine (nextS hl hn hb B12.rs).mono ?_
     rintro e u13 ⟨y2, hy2, rfl, q13, t13⟩
     have B13 := B12.sx t13 q13
     clear B12 q13 t13
     obtain ⟨ee, hee⟩ : ∃ ee : Nat, ee = y1 * 256 + y2 := ⟨_, rfl⟩
     have hew : (y1 : Int) * 256 + (y2 : Int) = (ee : Int) := by omega
     have heb : ee ≤ 65535 := by omega
     clear hee
     go_wp2_with fail
     refine (nextS hl hn hb B13.rs).mono ?_
     rintro e u14 ⟨y3, hy3, rfl, q14, t14⟩
     have B14 := B13.sx t14 q14
     clear B13 q14 t14
     obtain ⟨i, hi⟩ : ∃ i : Nat, i = y3 % 4 := ⟨_, rfl⟩
     have hiI : (y3 : Int) % 4 = (i : Int) := by omega
     have hi4 : i < 4 := by omega
     clear hi
     go_upto_block 2 with fail
     rw [hiI]
     clear hiI
     have c0 := B14.d.cell 0 (x := .int .i64 53) rfl
     have c1 := B14.d.cell 1 (x := .int .i64 (-1022)) rfl
     have c2 := B14.d.cell 2 (x := .int .i64 1023) rfl
     have e4 := B14.p.cell 4 (x := .int .i64 0) rfl
     have f4 := B14.p.frozen 4
     have g1 : (ee : Int).tmod 120 = (ee : Int) % 120 := Int.tmod_eq_emod_of_nonneg (by omega)
     have g2 : (ee : Int).tmod 3 = (ee : Int) % 3 := Int.tmod_eq_emod_of_nonneg (by omega)
     have g3 : (ee : Int).tmod 2046 = (ee : Int) % 2046 := Int.tmod_eq_emod_of_nonneg (by omega)
     rcases (show i = 0 ∨ i = 1 ∨ i = 2 ∨ i = 3 by omega) with rfl | rfl | rfl | rfl
     · go_wp2_with fail
       go_meet
       case rel => exact ⟨3, neg, G, _, hG, by omega, by omega, B14.rs.set bP 4 _ (by omega), B14.r.far _ (by simp only; omega) _, B14.p.set 4 _ _ rfl⟩
     · go_wp2_with fail
       go_meet
       case rel => exact ⟨3, neg, G, _, hG, by omega, by omega, B14.rs.set bP 4 _ (by omega), B14.r.far _ (by simp only; omega) _, B14.p.set 4 _ _ rfl⟩
     · go_wp2_with fail
       go_meet
       case rel => exact ⟨3, neg, G, _, hG, by omega, by omega, B14.rs.set bP 4 _ (by omega), B14.r.far _ (by simp only; omega) _, B14.p.set 4 _ _ rfl⟩
     · go_wp2_with fail
       go_meet
       case rel => exact ⟨3, neg, G, _, hG, by omega, by omega, B14.rs.set bP 4 _ (by omega), B14.r.far _ (by simp only; omega) _, B14.p.set 4 _ _ rfl⟩
 case rest =>
  obtain ⟨cl, ng, s, q, hs, hq1, hq2, h6, r6, p6⟩ := hcut
  have cp0 : wc.cell? ⟨bP, 0, none⟩ = some (.int .i64 cl) := p6.cell 0 rfl
  have cp1 : wc.cell? ⟨bP, 1, none⟩ = some (.bool ng) := p6.cell 1 rfl
  have cp2 : wc.cell? ⟨bP, 2, none⟩ = some (.int .u64 (M.hiN s : Int)) := p6.cell 2 rfl
  have cp3 : wc.cell? ⟨bP, 3, none⟩ = some (.int .u64 (M.loN s : Int)) := p6.cell 3 rfl
  have cp4 : wc.cell? ⟨bP, 4, none⟩ = some (.int .i64 q) := p6.cell 4 rfl
  have k1 := kP cl ng s q wc hs hq1 hq2
  go_wp2_with fail
  refine k1.mono ?_
  rintro e v7 ⟨Y, ok, hY, rfl, hb7⟩
  have h7 := h6.keep hb7
  have r7 := r6.below hb7
  clear h6 r6 p6 cp0 cp1 cp2 cp3 cp4 k1 hb7
  cases ok
  · have r8 := r7.below ((Below.refl _ v7).alloc (Nat.le_refl _) (.cells #[.int .u64 (M.hiN Y : Int), .int .u64 (M.loN Y : Int)] 29))
    have h8 := h7.alloc (.cells #[.int .u64 (M.hiN Y : Int), .int .u64 (M.loN Y : Int)] 29)
    have w8 := Cls.new v7 #[.int .u64 (M.hiN Y : Int), .int .u64 (M.loN Y : Int)] 29
    have hlt8 := r7.lt
    have k7 : (k : Int).tmod 7 = ((k % 7 : Nat) : Int) := by rw [Int.tmod_eq_emod_of_nonneg (by omega)]; omega
    have k2 := kP 2 neg (1 + k % 7) (-1074) (v7.alloc (.cells #[.int .u64 (M.hiN Y : Int), .int .u64 (M.loN Y : Int)] 29)) (by omega) (by omega) (by omega)
    have e1 : M.hiN (1 + k % 7) = 0 := by unfold M.hiN; omega
    have e2 : M.loN (1 + k % 7) = 1 + k % 7 := by unfold M.loN; omega
    rw [e1, e2] at k2
    have e3 : ((1 + k % 7 : Nat) : Int) = 1 + (k : Int) % 7 := by omega
    rw [e3] at k2
    clear e1 e2 e3
    have R8 := hid r8; have H8 := hid h8; have W8 := hid w8
    clear r7 h7 r8 h8 w8
    go_wp2_with fail
    refine k2.mono ?_
    rintro e v10 ⟨Z, ok, hZ, rfl, hb10⟩
    have r10 := R8.out.below hb10
    have h10 := H8.out.keep hb10
    have w10 := W8.out.below hb10
    have hz10 : v7.heap.size < v10.heap.size := by have := hb10.size; simp at this; omega
    clear R8 H8 W8 hb10 k2
    have q0 := w10.cell 0 (x := .int .u64 (M.hiN Y : Int)) rfl
    have q1 := w10.cell 1 (x := .int .u64 (M.loN Y : Int)) rfl
    have q2 := w10.frozen 0
    have q3 := w10.frozen 1
    have r11 := (r10.far ⟨v7.heap.size, 0, none⟩ (by simp only; omega) (.int .u64 (M.hiN Z : Int))).far ⟨v7.heap.size, 1, none⟩ (by simp only; omega) (.int .u64 (M.loN Z : Int))
    have h11 := (h10.set v7.heap.size 0 (.int .u64 (M.hiN Z : Int)) (by omega)).set v7.heap.size 1 (.int .u64 (M.loN Z : Int)) (by omega)
    clear r10 h10
    have y0 := r11.cell 0 (x := .int .u64 0) rfl
    have y1 := r11.cell 1 (x := .int .u64 0) rfl
    have y2 := r11.frozen 0
    have y3 := r11.frozen 1
    go_wp2_with fail
    have R9 : Cls ((((v10.setCell ⟨v7.heap.size, 0, none⟩ (.int .u64 (M.hiN Z : Int))).setCell ⟨v7.heap.size, 1, none⟩ (.int .u64 (M.loN Z : Int))).setCell ⟨bR, 0, none⟩ (.int .u64 (M.hiN Z : Int))).setCell ⟨bR, 1, none⟩ (.int .u64 (M.loN Z : Int))) bR #[.int .u64 (M.hiN Z : Int), .int .u64 (M.loN Z : Int)] 29 := (r11.set 0 _ _ rfl).set 1 _ _ rfl
    have H9 := (h11.set bR 0 (.int .u64 (M.hiN Z : Int)) hs0).set bR 1 (.int .u64 (M.loN Z : Int)) hs0
    generalize (((v10.setCell ⟨v7.heap.size, 0, none⟩ (.int .u64 (M.hiN Z : Int))).setCell ⟨v7.heap.size, 1, none⟩ (.int .u64 (M.loN Z : Int))).setCell ⟨bR, 0, none⟩ (.int .u64 (M.hiN Z : Int))).setCell ⟨bR, 1, none⟩ (.int .u64 (M.loN Z : Int)) = v9 at R9 H9 ⊢
    have z0 := R9.cell 0 (x := .int .u64 (M.hiN Z : Int)) rfl
    have z1 := R9.cell 1 (x := .int .u64 (M.loN Z : Int)) rfl
    exact bodyPost_ret (v := .agg #[.int .u64 (M.hiN Z : Int), .int .u64 (M.loN Z : Int)]) (by simp [results, Tryz.results103, go_sem, z0, z1]) rfl ⟨Z, hZ, rfl, H9⟩
  · have hlt8 := r7.lt
    have y0 := r7.cell 0 (x := .int .u64 0) rfl
    have y1 := r7.cell 1 (x := .int .u64 0) rfl
    have y2 := r7.frozen 0
    have y3 := r7.frozen 1
    go_wp2_with fail
    have R9 : Cls (((v7.setCell ⟨bR, 0, none⟩ (.int .u64 (M.hiN Y : Int))).setCell ⟨bR, 1, none⟩ (.int .u64 (M.loN Y : Int))).alloc (.cells #[.int .u64 (M.hiN Y : Int), .int .u64 (M.loN Y : Int)] 29)) bR #[.int .u64 (M.hiN Y : Int), .int .u64 (M.loN Y : Int)] 29 := ((r7.set 0 _ _ rfl).set 1 _ _ rfl).below ((Below.refl _ _).alloc (Nat.le_refl _) _)
    have H9 := ((h7.set bR 0 (.int .u64 (M.hiN Y : Int)) hs0).set bR 1 (.int .u64 (M.loN Y : Int)) hs0).alloc (.cells #[.int .u64 (M.hiN Y : Int), .int .u64 (M.loN Y : Int)] 29)
    generalize ((v7.setCell ⟨bR, 0, none⟩ (.int .u64 (M.hiN Y : Int))).setCell ⟨bR, 1, none⟩ (.int .u64 (M.loN Y : Int))).alloc (.cells #[.int .u64 (M.hiN Y : Int), .int .u64 (M.loN Y : Int)] 29) = v9 at R9 H9 ⊢
    have z0 := R9.cell 0 (x := .int .u64 (M.hiN Y : Int)) rfl
    have z1 := R9.cell 1 (x := .int .u64 (M.loN Y : Int)) rfl
    exact bodyPost_ret (v := .agg #[.int .u64 (M.hiN Y : Int), .int .u64 (M.loN Y : Int)]) (by simp [results, Tryz.results103, go_sem, z0, z1]) rfl ⟨Y, hY, rfl, H9⟩

end Go.Proofs.YtmglhkdgfcbonaaGreatDoor
