import Derived.Test.YtjffpclidcloeaaGreatDoorrTC
import Derived.Test.YtjffpclidcloeaaGreatDoorrTD
set_option maxHeartbeats 4000000
set_option maxRecDepth 10000
namespace Go.Proofs.YtjffpclidcloeaaGreatDoor
open Go.RowKit
set_option linter.unusedVariables false
set_option maxRecDepth 100000
theorem ten_bits (m : Nat) : 10 ^ m < 2 ^ (4 * m + 1) := Nat.lt_of_le_of_lt (pow16 m) (Nat.pow_lt_pow_right (by omega) (by omega))

theorem ten_bits2 (m s : Nat) : 10 ^ m * 2 ^ s < 2 ^ (4 * m + 1 + s) := by
 rw [Nat.pow_add 2 (4 * m + 1) s]; exact Nat.mul_lt_mul_of_pos_right (ten_bits m) (Nat.pow_pos (by omega))

theorem specTenPower_out (k W : Int) (w : World) (h : ¬ (-5200 ≤ k ∧ k ≤ 5200 ∧ 1 ≤ W ∧ W ≤ 128)) :
 Calls Tryz.prog 11 #[.int .i64 k, .int .i64 W] w fun e w' => e = .returned (.agg #[.int .i64 0, .int .i64 0, .int .u64 0, .int .u64 0, .int .i64 0, .bool false, .bool false]) ∧ Below w.heap.size w w' := by
 by_cases h1 : 5200 < k
 · go_enter Tryz.func11, Tryz.ntmps11
   go_wp2_with fail
   exact bodyPost_ret (v := .agg #[.int .i64 0, .int .i64 0, .int .u64 0, .int .u64 0, .int .i64 0, .bool false, .bool false]) (by simp [results, Tryz.results11, go_sem]) rfl ⟨rfl, (Below.refl _ _).alloc (Nat.le_refl _) _⟩
 · by_cases h2 : k < -5200
   · go_enter Tryz.func11, Tryz.ntmps11
     go_wp2_with fail
     exact bodyPost_ret (v := .agg #[.int .i64 0, .int .i64 0, .int .u64 0, .int .u64 0, .int .i64 0, .bool false, .bool false]) (by simp [results, Tryz.results11, go_sem]) rfl ⟨rfl, (Below.refl _ _).alloc (Nat.le_refl _) _⟩
   · by_cases h3 : W < 1
     · go_enter Tryz.func11, Tryz.ntmps11
       go_wp2_with fail
       exact bodyPost_ret (v := .agg #[.int .i64 0, .int .i64 0, .int .u64 0, .int .u64 0, .int .i64 0, .bool false, .bool false]) (by simp [results, Tryz.results11, go_sem]) rfl ⟨rfl, (Below.refl _ _).alloc (Nat.le_refl _) _⟩
     · have h4 : 128 < W := by omega
       go_enter Tryz.func11, Tryz.ntmps11
       go_wp2_with fail
       exact bodyPost_ret (v := .agg #[.int .i64 0, .int .i64 0, .int .u64 0, .int .u64 0, .int .i64 0, .bool false, .bool false]) (by simp [results, Tryz.results11, go_sem]) rfl ⟨rfl, (Below.refl _ _).alloc (Nat.le_refl _) _⟩

theorem specTP_pp (m s : Nat) (W b : Int) (w : World) (hm : m ≤ 5200) (hW1 : 1 ≤ W) (hW2 : W ≤ 128) (hb1 : -30000 ≤ b) (hb2 : b ≤ 30000) (hE : b - W + 1 = (s : Int)) (hs : s ≤ 40000)
 (hQ : 10 ^ m / (2 ^ s) < 2 ^ 128) (kB : ∀ v : World, Calls Tryz.prog 30 #[.int .i64 (m : Int)] v fun e v' => e = .returned (.int .i64 b) ∧ Below v.heap.size v v') :
 Calls Tryz.prog 11 #[.int .i64 (m : Int), .int .i64 W] w fun e w' => e = .returned (pwv (m : Int) W (10 ^ m / (2 ^ s)) ((s : Int)) (decide (10 ^ m % (2 ^ s) = 0)) true) ∧ Below w.heap.size w w' := by
 have hs9 : s ≤ 100000 := by omega
 have dT : (D (10 ^ m)).length ≤ 2400 := D_len_bits _ _ _ (ten_bits m) (by omega)
 have d1 : (D 1).length ≤ 2400 := D_len_bits 1 1 _ (by omega) (by omega)
 have dN : (D (10 ^ m)).length ≤ 2400 := dT
 have dD : (D (2 ^ s)).length ≤ 2400 := D_len_bits _ (s + 1) _ (Nat.pow_lt_pow_right (by omega) (by omega)) (by omega)
 have hP : 0 < 2 ^ s := Nat.pow_pos (by omega)
 have g1 : ¬ (5200 : Int) < (m : Int) := by omega
 have g2 : ¬ (m : Int) < -5200 := by omega
 have g3 : ¬ W < 1 := by omega
 have g4 : ¬ 128 < W := by omega
 have w1 : IntKind.i64.wrap (b - W) = b - W := by rw [IntKind.wrap_i64]; omega
 have w2 : IntKind.i64.wrap (b - W + 1) = b - W + 1 := by rw [IntKind.wrap_i64]; omega
 have hz := D_zero_eq (10 ^ m % (2 ^ s))
 have kD := fun (v : World) (a b : Option Addr) (c d : Nat) (hc : (D (10 ^ m)).length ≤ c) (ra : Rd v a (D (10 ^ m))) (rb : Rd v b (D (2 ^ s))) => l1Div_any a b _ _ c d (10 ^ m) (2 ^ s) v rfl rfl hP dN dD hc ra rb
 have kW := fun (v : World) (ao : Option Addr) (c : Nat) (r : Rd v ao (D (10 ^ m / (2 ^ s)))) => l2Word_any ao _ c (10 ^ m / (2 ^ s)) v rfl hQ r
 clear hQ hP dN dD
 generalize 10 ^ m / (2 ^ s) = Q at *
 generalize 10 ^ m % (2 ^ s) = R at *
 generalize decide (R = 0) = ex at *
 unfold pwv
 have zR := Z7_new w
 have b0 : Below w.heap.size w (w.alloc (.cells #[.int .i64 0, .int .i64 0, .int .u64 0, .int .u64 0, .int .i64 0, .bool false, .bool false] 41)) := (Below.refl _ _).alloc (Nat.le_refl _) _
 generalize hw0 : (w.alloc (.cells #[.int .i64 0, .int .i64 0, .int .u64 0, .int .u64 0, .int .i64 0, .bool false, .bool false] 41)) = v0 at *
 go_enter Tryz.func11, Tryz.ntmps11
 go_wp2_with fail
 refine (kB _).mono ?_
 rintro e v1 ⟨rfl, hb1'⟩
 have B1 : Below v0.heap.size v0 v1 := hb1'
 clear hw0 hb1'
 have e3 : b - W + 1 = (s : Int) := hE
 go_wp2_with fail
 refine (l1Of_any 1 _ (by omega)).mono ?_
 rintro e v2 ⟨n1, c1, rfl, on1, hb2'⟩
 have B2 := keepC1 B1 hb2'
 clear B1 hb2'
 go_wp2_with fail
 refine (l1Of_any 1 _ (by omega)).mono ?_
 rintro e v3 ⟨n2, c2, rfl, on2, hb3⟩
 replace on1 := own_below on1 hb3
 have B3 := keepC1 B2 hb3
 clear B2 hb3
 have g5 : (0 : Int) ≤ (m : Int) := by omega
 go_wp2_with fail
 refine (l1Ten_any m _ (by omega)).mono ?_
 rintro e v4 ⟨n3, c3, rfl, on3, hb4⟩
 replace on1 := own_below on1 hb4
 replace on2 := own_below on2 hb4
 have B4 := keepC1 B3 hb4
 clear B3 hb4
 have g6 : (0 : Int) ≤ (s : Int) := by omega
 have g7 : (0 : Int) ≤ b - W + 1 := by omega
 go_wp2_with fail
 try rw [hE]
 refine (l1Left_any n2 _ c2 s (1) _ rfl (Nat.le_trans d1 (by decide)) hs9 (Rd.own on2)).mono ?_
 rw [Nat.one_mul]
 rintro e v5 ⟨n4, c4, rfl, on4, hb5⟩
 replace on1 := own_below on1 hb5
 replace on2 := own_below on2 hb5
 replace on3 := own_below on3 hb5
 have B5 := keepC1 B4 hb5
 clear B4 hb5
 have hcn := own_cap on3
 have rN := Rd.own on3
 have rD := Rd.own on4
 clear on1 on2 on3 on4 dT d1
 go_wp2_with fail
 refine (kD v5 n3 n4 c3 c4 hcn rN rD).mono ?_
 rintro e v6 ⟨n5, c5, n6, c6, rfl, r5, r6, hb6⟩
 have B6 := keepC1 B5 hb6
 clear B5 hb6 kD r6 rN rD hcn
 go_wp2_with fail
 refine (kW v6 n5 c5 r5).mono ?_
 rintro e v7 ⟨rfl, hb7⟩
 have B7 := keepC1 B6 hb7
 clear B6 hb7 kW r5
 obtain ⟨o0, o1, o2, o3, o4, o5, o6, p0, p1, p2, p3, p4, p5, p6, pl⟩ := zR.below B7
 have BB := (far7 v7 w.heap.size (.int .i64 (m : Int)) (.int .i64 W) (.int .u64 (M.hiN Q : Int)) (.int .u64 (M.loN Q : Int)) (.int .i64 ((s : Int))) (.bool ex) (.bool true)).2.2.2 w.heap.size w (b0.trans (B7.mono b0.size)) (Nat.le_refl _)
 obtain ⟨a0, a1, a2, a3, a4, a5, a6⟩ := set7_cells (zR.below B7) (.int .i64 (m : Int)) (.int .i64 W) (.int .u64 (M.hiN Q : Int)) (.int .u64 (M.loN Q : Int)) (.int .i64 ((s : Int))) (.bool ex) (.bool true)
 have HA := hid (And.intro a0 (And.intro a1 (And.intro a2 (And.intro a3 (And.intro a4 (And.intro a5 a6))))))
 have HB := hid BB
 clear a0 a1 a2 a3 a4 a5 a6 BB B7 zR
 go_wp2_with fail
 obtain ⟨a0, a1, a2, a3, a4, a5, a6⟩ := HA.out
 have BB := HB.out
 clear HA HB
 try rw [hE]
 generalize (((((((v7.setCell ⟨w.heap.size, 0, none⟩ (.int .i64 (m : Int))).setCell ⟨w.heap.size, 1, none⟩ (.int .i64 W)).setCell ⟨w.heap.size, 2, none⟩ (.int .u64 (M.hiN Q : Int))).setCell ⟨w.heap.size, 3, none⟩ (.int .u64 (M.loN Q : Int))).setCell ⟨w.heap.size, 4, none⟩ (.int .i64 ((s : Int)))).setCell ⟨w.heap.size, 5, none⟩ (.bool ex)).setCell ⟨w.heap.size, 6, none⟩ (.bool true)) = Y at *
 exact bodyPost_ret (v := .agg #[.int .i64 (m : Int), .int .i64 W, .int .u64 (M.hiN Q : Int), .int .u64 (M.loN Q : Int), .int .i64 ((s : Int)), .bool ex, .bool true]) (by simp [results, Tryz.results11, go_sem, a0, a1, a2, a3, a4, a5, a6]) rfl ⟨rfl, BB⟩

theorem specTP_pn (m s : Nat) (W b : Int) (w : World) (hm : m ≤ 5200) (hW1 : 1 ≤ W) (hW2 : W ≤ 128) (hb1 : -30000 ≤ b) (hb2 : b ≤ 30000) (hE : b - W + 1 = -(s : Int)) (hs : s ≤ 40000) (hs0 : 0 < s)
 (hQ : 10 ^ m * 2 ^ s / (1) < 2 ^ 128) (kB : ∀ v : World, Calls Tryz.prog 30 #[.int .i64 (m : Int)] v fun e v' => e = .returned (.int .i64 b) ∧ Below v.heap.size v v') :
 Calls Tryz.prog 11 #[.int .i64 (m : Int), .int .i64 W] w fun e w' => e = .returned (pwv (m : Int) W (10 ^ m * 2 ^ s / (1)) (-(s : Int)) (decide (10 ^ m * 2 ^ s % (1) = 0)) true) ∧ Below w.heap.size w w' := by
 have hs9 : s ≤ 100000 := by omega
 have dT : (D (10 ^ m)).length ≤ 2400 := D_len_bits _ _ _ (ten_bits m) (by omega)
 have d1 : (D 1).length ≤ 2400 := D_len_bits 1 1 _ (by omega) (by omega)
 have dN : (D (10 ^ m * 2 ^ s)).length ≤ 2400 := D_len_bits _ _ _ (ten_bits2 m s) (by omega)
 have dD : (D (1)).length ≤ 2400 := d1
 have hP : 0 < 1 := by omega
 have g1 : ¬ (5200 : Int) < (m : Int) := by omega
 have g2 : ¬ (m : Int) < -5200 := by omega
 have g3 : ¬ W < 1 := by omega
 have g4 : ¬ 128 < W := by omega
 have w1 : IntKind.i64.wrap (b - W) = b - W := by rw [IntKind.wrap_i64]; omega
 have w2 : IntKind.i64.wrap (b - W + 1) = b - W + 1 := by rw [IntKind.wrap_i64]; omega
 have hz := D_zero_eq (10 ^ m * 2 ^ s % (1))
 have kD := fun (v : World) (a b : Option Addr) (c d : Nat) (hc : (D (10 ^ m * 2 ^ s)).length ≤ c) (ra : Rd v a (D (10 ^ m * 2 ^ s))) (rb : Rd v b (D (1))) => l1Div_any a b _ _ c d (10 ^ m * 2 ^ s) (1) v rfl rfl hP dN dD hc ra rb
 have kW := fun (v : World) (ao : Option Addr) (c : Nat) (r : Rd v ao (D (10 ^ m * 2 ^ s / (1)))) => l2Word_any ao _ c (10 ^ m * 2 ^ s / (1)) v rfl hQ r
 clear hQ hP dN dD
 generalize 10 ^ m * 2 ^ s / (1) = Q at *
 generalize 10 ^ m * 2 ^ s % (1) = R at *
 generalize decide (R = 0) = ex at *
 unfold pwv
 have zR := Z7_new w
 have b0 : Below w.heap.size w (w.alloc (.cells #[.int .i64 0, .int .i64 0, .int .u64 0, .int .u64 0, .int .i64 0, .bool false, .bool false] 41)) := (Below.refl _ _).alloc (Nat.le_refl _) _
 generalize hw0 : (w.alloc (.cells #[.int .i64 0, .int .i64 0, .int .u64 0, .int .u64 0, .int .i64 0, .bool false, .bool false] 41)) = v0 at *
 go_enter Tryz.func11, Tryz.ntmps11
 go_wp2_with fail
 refine (kB _).mono ?_
 rintro e v1 ⟨rfl, hb1'⟩
 have B1 : Below v0.heap.size v0 v1 := hb1'
 clear hw0 hb1'
 have e3 : b - W + 1 = -(s : Int) := hE
 go_wp2_with fail
 refine (l1Of_any 1 _ (by omega)).mono ?_
 rintro e v2 ⟨n1, c1, rfl, on1, hb2'⟩
 have B2 := keepC1 B1 hb2'
 clear B1 hb2'
 go_wp2_with fail
 refine (l1Of_any 1 _ (by omega)).mono ?_
 rintro e v3 ⟨n2, c2, rfl, on2, hb3⟩
 replace on1 := own_below on1 hb3
 have B3 := keepC1 B2 hb3
 clear B2 hb3
 have g5 : (0 : Int) ≤ (m : Int) := by omega
 go_wp2_with fail
 refine (l1Ten_any m _ (by omega)).mono ?_
 rintro e v4 ⟨n3, c3, rfl, on3, hb4⟩
 replace on1 := own_below on1 hb4
 replace on2 := own_below on2 hb4
 have B4 := keepC1 B3 hb4
 clear B3 hb4
 have g6 : ¬ (0 : Int) ≤ -(s : Int) := by omega
 have g7 : ¬ (0 : Int) ≤ b - W + 1 := by omega
 go_wp2_with fail
 try rw [show - -(s : Int) = (s : Int) by omega]
 try rw [show -(b - W + 1) = (s : Int) by omega]
 refine (l1Left_any n3 _ c3 s (10 ^ m) _ rfl (Nat.le_trans dT (by decide)) hs9 (Rd.own on3)).mono ?_
 skip
 rintro e v5 ⟨n4, c4, rfl, on4, hb5⟩
 replace on1 := own_below on1 hb5
 replace on2 := own_below on2 hb5
 replace on3 := own_below on3 hb5
 have B5 := keepC1 B4 hb5
 clear B4 hb5
 have hcn := own_cap on4
 have rN := Rd.own on4
 have rD := Rd.own on2
 clear on1 on2 on3 on4 dT d1
 go_wp2_with fail
 refine (kD v5 n4 n2 c4 c2 hcn rN rD).mono ?_
 rintro e v6 ⟨n5, c5, n6, c6, rfl, r5, r6, hb6⟩
 have B6 := keepC1 B5 hb6
 clear B5 hb6 kD r6 rN rD hcn
 go_wp2_with fail
 refine (kW v6 n5 c5 r5).mono ?_
 rintro e v7 ⟨rfl, hb7⟩
 have B7 := keepC1 B6 hb7
 clear B6 hb7 kW r5
 obtain ⟨o0, o1, o2, o3, o4, o5, o6, p0, p1, p2, p3, p4, p5, p6, pl⟩ := zR.below B7
 have BB := (far7 v7 w.heap.size (.int .i64 (m : Int)) (.int .i64 W) (.int .u64 (M.hiN Q : Int)) (.int .u64 (M.loN Q : Int)) (.int .i64 (-(s : Int))) (.bool ex) (.bool true)).2.2.2 w.heap.size w (b0.trans (B7.mono b0.size)) (Nat.le_refl _)
 obtain ⟨a0, a1, a2, a3, a4, a5, a6⟩ := set7_cells (zR.below B7) (.int .i64 (m : Int)) (.int .i64 W) (.int .u64 (M.hiN Q : Int)) (.int .u64 (M.loN Q : Int)) (.int .i64 (-(s : Int))) (.bool ex) (.bool true)
 have HA := hid (And.intro a0 (And.intro a1 (And.intro a2 (And.intro a3 (And.intro a4 (And.intro a5 a6))))))
 have HB := hid BB
 clear a0 a1 a2 a3 a4 a5 a6 BB B7 zR
 go_wp2_with fail
 obtain ⟨a0, a1, a2, a3, a4, a5, a6⟩ := HA.out
 have BB := HB.out
 clear HA HB
 try rw [hE]
 generalize (((((((v7.setCell ⟨w.heap.size, 0, none⟩ (.int .i64 (m : Int))).setCell ⟨w.heap.size, 1, none⟩ (.int .i64 W)).setCell ⟨w.heap.size, 2, none⟩ (.int .u64 (M.hiN Q : Int))).setCell ⟨w.heap.size, 3, none⟩ (.int .u64 (M.loN Q : Int))).setCell ⟨w.heap.size, 4, none⟩ (.int .i64 (-(s : Int)))).setCell ⟨w.heap.size, 5, none⟩ (.bool ex)).setCell ⟨w.heap.size, 6, none⟩ (.bool true)) = Y at *
 exact bodyPost_ret (v := .agg #[.int .i64 (m : Int), .int .i64 W, .int .u64 (M.hiN Q : Int), .int .u64 (M.loN Q : Int), .int .i64 (-(s : Int)), .bool ex, .bool true]) (by simp [results, Tryz.results11, go_sem, a0, a1, a2, a3, a4, a5, a6]) rfl ⟨rfl, BB⟩

theorem specTP_nn (m s : Nat) (W b : Int) (w : World) (hm : m ≤ 5200) (h0 : 0 < m) (hW1 : 1 ≤ W) (hW2 : W ≤ 128) (hb1 : -30000 ≤ b) (hb2 : b ≤ 30000) (hE : b - W + 1 = -(s : Int)) (hs : s ≤ 40000) (hs0 : 0 < s)
 (hQ : 2 ^ s / (10 ^ m) < 2 ^ 128) (kB : ∀ v : World, Calls Tryz.prog 30 #[.int .i64 (-(m : Int))] v fun e v' => e = .returned (.int .i64 b) ∧ Below v.heap.size v v') :
 Calls Tryz.prog 11 #[.int .i64 (-(m : Int)), .int .i64 W] w fun e w' => e = .returned (pwv (-(m : Int)) W (2 ^ s / (10 ^ m)) (-(s : Int)) (decide (2 ^ s % (10 ^ m) = 0)) true) ∧ Below w.heap.size w w' := by
 have hs9 : s ≤ 100000 := by omega
 have dT : (D (10 ^ m)).length ≤ 2400 := D_len_bits _ _ _ (ten_bits m) (by omega)
 have d1 : (D 1).length ≤ 2400 := D_len_bits 1 1 _ (by omega) (by omega)
 have dN : (D (2 ^ s)).length ≤ 2400 := D_len_bits _ (s + 1) _ (Nat.pow_lt_pow_right (by omega) (by omega)) (by omega)
 have dD : (D (10 ^ m)).length ≤ 2400 := dT
 have hP : 0 < 10 ^ m := Nat.pow_pos (by omega)
 have g1 : ¬ (5200 : Int) < (-(m : Int)) := by omega
 have g2 : ¬ (-(m : Int)) < -5200 := by omega
 have g3 : ¬ W < 1 := by omega
 have g4 : ¬ 128 < W := by omega
 have w1 : IntKind.i64.wrap (b - W) = b - W := by rw [IntKind.wrap_i64]; omega
 have w2 : IntKind.i64.wrap (b - W + 1) = b - W + 1 := by rw [IntKind.wrap_i64]; omega
 have hz := D_zero_eq (2 ^ s % (10 ^ m))
 have kD := fun (v : World) (a b : Option Addr) (c d : Nat) (hc : (D (2 ^ s)).length ≤ c) (ra : Rd v a (D (2 ^ s))) (rb : Rd v b (D (10 ^ m))) => l1Div_any a b _ _ c d (2 ^ s) (10 ^ m) v rfl rfl hP dN dD hc ra rb
 have kW := fun (v : World) (ao : Option Addr) (c : Nat) (r : Rd v ao (D (2 ^ s / (10 ^ m)))) => l2Word_any ao _ c (2 ^ s / (10 ^ m)) v rfl hQ r
 clear hQ hP dN dD
 generalize 2 ^ s / (10 ^ m) = Q at *
 generalize 2 ^ s % (10 ^ m) = R at *
 generalize decide (R = 0) = ex at *
 unfold pwv
 have zR := Z7_new w
 have b0 : Below w.heap.size w (w.alloc (.cells #[.int .i64 0, .int .i64 0, .int .u64 0, .int .u64 0, .int .i64 0, .bool false, .bool false] 41)) := (Below.refl _ _).alloc (Nat.le_refl _) _
 generalize hw0 : (w.alloc (.cells #[.int .i64 0, .int .i64 0, .int .u64 0, .int .u64 0, .int .i64 0, .bool false, .bool false] 41)) = v0 at *
 go_enter Tryz.func11, Tryz.ntmps11
 go_wp2_with fail
 refine (kB _).mono ?_
 rintro e v1 ⟨rfl, hb1'⟩
 have B1 : Below v0.heap.size v0 v1 := hb1'
 clear hw0 hb1'
 have e3 : b - W + 1 = -(s : Int) := hE
 go_wp2_with fail
 refine (l1Of_any 1 _ (by omega)).mono ?_
 rintro e v2 ⟨n1, c1, rfl, on1, hb2'⟩
 have B2 := keepC1 B1 hb2'
 clear B1 hb2'
 go_wp2_with fail
 refine (l1Of_any 1 _ (by omega)).mono ?_
 rintro e v3 ⟨n2, c2, rfl, on2, hb3⟩
 replace on1 := own_below on1 hb3
 have B3 := keepC1 B2 hb3
 clear B2 hb3
 have g5 : ¬ (0 : Int) ≤ -(m : Int) := by omega
 go_wp2_with fail
 try rw [show - -(m : Int) = (m : Int) by omega]
 refine (l1Ten_any m _ (by omega)).mono ?_
 rintro e v4 ⟨n3, c3, rfl, on3, hb4⟩
 replace on1 := own_below on1 hb4
 replace on2 := own_below on2 hb4
 have B4 := keepC1 B3 hb4
 clear B3 hb4
 have g6 : ¬ (0 : Int) ≤ -(s : Int) := by omega
 have g7 : ¬ (0 : Int) ≤ b - W + 1 := by omega
 go_wp2_with fail
 try rw [show - -(s : Int) = (s : Int) by omega]
 try rw [show -(b - W + 1) = (s : Int) by omega]
 refine (l1Left_any n1 _ c1 s (1) _ rfl (Nat.le_trans d1 (by decide)) hs9 (Rd.own on1)).mono ?_
 rw [Nat.one_mul]
 rintro e v5 ⟨n4, c4, rfl, on4, hb5⟩
 replace on1 := own_below on1 hb5
 replace on2 := own_below on2 hb5
 replace on3 := own_below on3 hb5
 have B5 := keepC1 B4 hb5
 clear B4 hb5
 have hcn := own_cap on4
 have rN := Rd.own on4
 have rD := Rd.own on3
 clear on1 on2 on3 on4 dT d1
 go_wp2_with fail
 refine (kD v5 n4 n3 c4 c3 hcn rN rD).mono ?_
 rintro e v6 ⟨n5, c5, n6, c6, rfl, r5, r6, hb6⟩
 have B6 := keepC1 B5 hb6
 clear B5 hb6 kD r6 rN rD hcn
 go_wp2_with fail
 refine (kW v6 n5 c5 r5).mono ?_
 rintro e v7 ⟨rfl, hb7⟩
 have B7 := keepC1 B6 hb7
 clear B6 hb7 kW r5
 obtain ⟨o0, o1, o2, o3, o4, o5, o6, p0, p1, p2, p3, p4, p5, p6, pl⟩ := zR.below B7
 have BB := (far7 v7 w.heap.size (.int .i64 (-(m : Int))) (.int .i64 W) (.int .u64 (M.hiN Q : Int)) (.int .u64 (M.loN Q : Int)) (.int .i64 (-(s : Int))) (.bool ex) (.bool true)).2.2.2 w.heap.size w (b0.trans (B7.mono b0.size)) (Nat.le_refl _)
 obtain ⟨a0, a1, a2, a3, a4, a5, a6⟩ := set7_cells (zR.below B7) (.int .i64 (-(m : Int))) (.int .i64 W) (.int .u64 (M.hiN Q : Int)) (.int .u64 (M.loN Q : Int)) (.int .i64 (-(s : Int))) (.bool ex) (.bool true)
 have HA := hid (And.intro a0 (And.intro a1 (And.intro a2 (And.intro a3 (And.intro a4 (And.intro a5 a6))))))
 have HB := hid BB
 clear a0 a1 a2 a3 a4 a5 a6 BB B7 zR
 go_wp2_with fail
 obtain ⟨a0, a1, a2, a3, a4, a5, a6⟩ := HA.out
 have BB := HB.out
 clear HA HB
 try rw [hE]
 generalize (((((((v7.setCell ⟨w.heap.size, 0, none⟩ (.int .i64 (-(m : Int)))).setCell ⟨w.heap.size, 1, none⟩ (.int .i64 W)).setCell ⟨w.heap.size, 2, none⟩ (.int .u64 (M.hiN Q : Int))).setCell ⟨w.heap.size, 3, none⟩ (.int .u64 (M.loN Q : Int))).setCell ⟨w.heap.size, 4, none⟩ (.int .i64 (-(s : Int)))).setCell ⟨w.heap.size, 5, none⟩ (.bool ex)).setCell ⟨w.heap.size, 6, none⟩ (.bool true)) = Y at *
 exact bodyPost_ret (v := .agg #[.int .i64 (-(m : Int)), .int .i64 W, .int .u64 (M.hiN Q : Int), .int .u64 (M.loN Q : Int), .int .i64 (-(s : Int)), .bool ex, .bool true]) (by simp [results, Tryz.results11, go_sem, a0, a1, a2, a3, a4, a5, a6]) rfl ⟨rfl, BB⟩

theorem specTenPower_any (k W : Int) (w : World) :
 Calls Tryz.prog 11 #[.int .i64 k, .int .i64 W] w fun e w' => e = .returned (tpv k W) ∧ Below w.heap.size w w' := by
 by_cases h : -5200 ≤ k ∧ k ≤ 5200 ∧ 1 ≤ W ∧ W ≤ 128
 · have ht : tpv k W = pwv k W (tX k W / tY k W) (tExp k W) (decide (tX k W % tY k W = 0)) true := by unfold tpv; rw [if_pos h]
   rw [ht]
   have hq := top_lt k W h
   have hb := tb_bound k ⟨h.1, h.2.1⟩
   have hE : tExp k W = tb k - W + 1 := rfl
   rcases Int.lt_or_le k 0 with h0 | h0
   · obtain ⟨m, rfl⟩ : ∃ m : Nat, k = -(m : Int) := ⟨(-k).toNat, by omega⟩
     have hm : 0 < m := by omega
     have hbp := blen_pos (10 ^ m) (Nat.pow_pos (by omega))
     have htb := tb_neg m (by omega) hm
     obtain ⟨s, hs⟩ : ∃ s : Nat, tExp (-(m : Int)) W = -(s : Int) := ⟨(-(tExp (-(m : Int)) W)).toNat, by rw [hE, htb]; omega⟩
     have hs0 : 0 < s := by rw [hE, htb] at hs; omega
     have eX : tX (-(m : Int)) W = 2 ^ s := by unfold tX; rw [hs, tNum_neg, show (- -(s : Int)).toNat = s by omega, Nat.one_mul]
     have eY : tY (-(m : Int)) W = 10 ^ m := by unfold tY; rw [hs, tDen_neg, show (-(s : Int)).toNat = 0 by omega, Nat.pow_zero, Nat.mul_one]
     rw [eX, eY] at hq ⊢
     rw [hs]
     rw [hE] at hs
     exact specTP_nn m s W (tb (-(m : Int))) w (by omega) hm (by omega) (by omega) (by omega) (by omega) hs (by omega) hs0 hq (fun v => specTenBits_any _ v)
   · obtain ⟨m, rfl⟩ : ∃ m : Nat, k = (m : Int) := ⟨k.toNat, by omega⟩
     rcases Int.lt_or_le (tExp (m : Int) W) 0 with h1 | h1
     · obtain ⟨s, hs⟩ : ∃ s : Nat, tExp (m : Int) W = -(s : Int) := ⟨(-(tExp (m : Int) W)).toNat, by omega⟩
       have hs0 : 0 < s := by omega
       have eX : tX (m : Int) W = 10 ^ m * 2 ^ s := by unfold tX; rw [hs, tNum_pos, show (- -(s : Int)).toNat = s by omega]
       have eY : tY (m : Int) W = 1 := by unfold tY; rw [hs, tDen_pos, show (-(s : Int)).toNat = 0 by omega, Nat.pow_zero]
       rw [eX, eY] at hq ⊢
       rw [hs]
       rw [hE] at hs
       exact specTP_pn m s W (tb (m : Int)) w (by omega) (by omega) (by omega) (by omega) (by omega) hs (by omega) hs0 hq (fun v => specTenBits_any _ v)
     · obtain ⟨s, hs⟩ : ∃ s : Nat, tExp (m : Int) W = (s : Int) := ⟨(tExp (m : Int) W).toNat, by omega⟩
       have eX : tX (m : Int) W = 10 ^ m := by unfold tX; rw [hs, tNum_pos, show (-(s : Int)).toNat = 0 by omega, Nat.pow_zero, Nat.mul_one]
       have eY : tY (m : Int) W = 2 ^ s := by unfold tY; rw [hs, tDen_pos, Int.toNat_natCast, Nat.one_mul]
       rw [eX, eY] at hq ⊢
       rw [hs]
       rw [hE] at hs
       exact specTP_pp m s W (tb (m : Int)) w (by omega) (by omega) (by omega) (by omega) (by omega) hs (by omega) hq (fun v => specTenBits_any _ v)
 · have ht : tpv k W = pwv 0 0 0 0 false false := by unfold tpv; rw [if_neg h]
   rw [ht]
   exact specTenPower_out k W w h

end Go.Proofs.YtjffpclidcloeaaGreatDoor
