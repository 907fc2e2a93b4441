import Derived.Test.YtodgblbaclionaaGreatDoorrBF
import Derived.Test.YtodgblbaclionaaGreatDoorrBG
namespace Go.Proofs.YtodgblbaclionaaGreatDoor

open Go.RowKit

set_option linter.unusedVariables false
set_option maxRecDepth 100000

theorem D_word {a : Nat} (h : a < 2 ^ 128) : (D a).length ≤ 6 := D_small a (by omega)

set_option maxRecDepth 10000 in
set_option maxHeartbeats 4000000 in
theorem make_elm (p W ex R : Nat) (e1 e2 e4 : Int) (ao : Option Addr) (n c : Nat) (w : World) (hp1 : 2 ≤ p) (hp2 : p ≤ 113) (hW1 : 1 ≤ W) (hW2 : W ≤ 128) (hex : ex < 40000) (hR : R < 2 ^ 128) (hl : (D R).length = n) (hr : Rd w ao (D R)) (A1 : Nat) (hA1 : A1 = R + 2 ^ (p - 1)) (hA1l : A1 < 2 ^ 128) (E1 : Nat) (hE1 : E1 = ex * 2 ^ p) (hE1l : E1 < 2 ^ 128) (A2 : Nat) (hA2 : A2 = A1 + E1) (hA2l : A2 < 2 ^ 128) (A3 : Nat) (hA3 : A3 = A2 + 2 ^ (W - 1)) (hA3l : A3 < 2 ^ 128) :
    Calls Tryz.prog 69 #[.agg #[.int .i64 (p : Int), .int .i64 e1, .int .i64 e2, .int .i64 (W : Int), .int .i64 e4, .bool true], .bool true, .int .i64 (ex : Int), .bool true, .slice ao n c] w fun e w' => e = .returned (.agg #[.int .u64 (M.hiN A3 : Int), .int .u64 (M.loN A3 : Int)]) ∧ Below w.heap.size w w' := by
  have k2 : ∀ (v : World) (z : Int) (k : Nat), z = (k : Int) → k ≤ 128 → Calls Tryz.prog 26 #[.int .i64 z] v fun e w' => Ret v w' e (D (2 ^ k)) := fun v z k hz hk => by
    rw [hz]; exact l2Two_any k v hk
  have hcv : IntKind.u64.wrap (ex : Int) = (ex : Int) := by rw [IntKind.wrap_u64]; omega
  have b0 : Below w.heap.size w ((w.alloc (.cells #[.int .i64 (p : Int), .int .i64 e1, .int .i64 e2, .int .i64 (W : Int), .int .i64 e4, .bool true] 47)).alloc (.cells #[.int .u64 0, .int .u64 0] 25)) := ((Below.refl _ _).alloc (Nat.le_refl _) _).alloc (by simp) _
  have r0 : W2 ((w.alloc (.cells #[.int .i64 (p : Int), .int .i64 e1, .int .i64 e2, .int .i64 (W : Int), .int .i64 e4, .bool true] 47)).alloc (.cells #[.int .u64 0, .int .u64 0] 25)) (w.heap.size + 1) 0 := by refine ⟨?_, ?_, ?_, ?_, ?_⟩ <;> simp [go_sem, hi0, lo0]
  have dW : ((w.alloc (.cells #[.int .i64 (p : Int), .int .i64 e1, .int .i64 e2, .int .i64 (W : Int), .int .i64 e4, .bool true] 47)).alloc (.cells #[.int .u64 0, .int .u64 0] 25)).cell? ⟨w.heap.size, 3, none⟩ = some (.int .i64 (W : Int)) := by simp [go_sem]
  have lw : w.heap.size < ((w.alloc (.cells #[.int .i64 (p : Int), .int .i64 e1, .int .i64 e2, .int .i64 (W : Int), .int .i64 e4, .bool true] 47)).alloc (.cells #[.int .u64 0, .int .u64 0] 25)).heap.size := by simp; omega
  have rR := hr.below b0
  have dR := D_word hR
  have HE1 := hid hE1; clear hE1
  have HA2 := hid hA2; clear hA2
  have HA1 := hid hA1; clear hA1
  have dA1 := D_word hA1l
  have HA3 := hid hA3; clear hA3
  have w1 : IntKind.i64.wrap ((p : Int) - 1) = (p : Int) - 1 := by rw [IntKind.wrap_i64]; omega
  have w2 : IntKind.i64.wrap ((W : Int) - 1) = (W : Int) - 1 := by rw [IntKind.wrap_i64]; omega
  go_enter Tryz.func69, Tryz.ntmps69
  go_wp2_with fail
  generalize hv0 : ((w.alloc (.cells #[.int .i64 (p : Int), .int .i64 e1, .int .i64 e2, .int .i64 (W : Int), .int .i64 e4, .bool true] 47)).alloc (.cells #[.int .u64 0, .int .u64 0] 25)) = v0 at *
  have BV : Below v0.heap.size v0 v0 := Below.refl _ _
  clear hv0
  have rC := rR
  refine (k2 _ _ (p - 1) (by omega) (by omega)).mono ?_
  rintro e t1 ⟨a1, c1, rfl, ho1, hb1⟩
  have rt1 := Rd.own ho1
  replace BV := keepC BV hb1
  replace rC := rC.below hb1
  have ro1 := rt1
  go_wp2_with fail
  have kk1 := l1Add_any ao a1 _ _ c c1 R (2 ^ (p - 1)) _ hl rfl (by have := dR; omega) (Nat.le_trans (D_word (Nat.pow_lt_pow_right (by omega) (by omega))) (by omega)) rC ro1
  rw [← HA1.out] at kk1
  refine kk1.mono ?_
  rintro e s1 ⟨x1, y1, rfl, hx1, hz1⟩
  replace BV := keepC BV hz1
  replace rC := Rd.own hx1
  clear kk1
  go_wp2_with fail
  refine (l1Of_any ex _ (by omega)).mono ?_
  rintro e t2 ⟨a2, c2, rfl, ho2, hb2⟩
  replace BV := keepC BV hb2
  replace rC := rC.below hb2
  go_wp2_with fail
  have kl := l1Left_any a2 _ c2 p ex _ rfl (by have := D_word (a := ex) (by omega); omega) (by omega) (Rd.own ho2)
  rw [← HE1.out] at kl
  refine kl.mono ?_
  rintro e t3 ⟨a3, c3, rfl, ho3, hb3⟩
  replace BV := keepC BV hb3
  replace rC := rC.below hb3
  have ro2 := Rd.own ho3
  clear kl
  go_wp2_with fail
  have kk2 := l1Add_any x1 a3 _ _ y1 c3 A1 (E1) _ rfl rfl (by have := dA1; omega) (by have := D_word hE1l; omega) rC ro2
  rw [← HA2.out] at kk2
  refine kk2.mono ?_
  rintro e s2 ⟨x2, y2, rfl, hx2, hz2⟩
  replace BV := keepC BV hz2
  replace rC := Rd.own hx2
  clear kk2
  have dA2 := D_word hA2l
  have dW2 := (BV.cell (p := ⟨w.heap.size, 3, none⟩) lw).trans dW
  go_wp2_with fail
  refine (k2 _ _ (W - 1) (by omega) (by omega)).mono ?_
  rintro e t4 ⟨a4, c4, rfl, ho4, hb4⟩
  have rt4 := Rd.own ho4
  replace BV := keepC BV hb4
  replace rC := rC.below hb4
  have ro3 := rt4
  go_wp2_with fail
  have kk3 := l1Add_any x2 a4 _ _ y2 c4 A2 (2 ^ (W - 1)) _ rfl rfl (by have := dA2; omega) (Nat.le_trans (D_word (Nat.pow_lt_pow_right (by omega) (by omega))) (by omega)) rC ro3
  rw [← HA3.out] at kk3
  refine kk3.mono ?_
  rintro e s3 ⟨x3, y3, rfl, hx3, hz3⟩
  replace BV := keepC BV hz3
  replace rC := Rd.own hx3
  clear kk3
  have dA3 := D_word hA3l
  go_wp2_with fail
  refine (l2Word_any x3 _ y3 A3 _ rfl hA3l rC).mono ?_
  rintro e t9 ⟨rfl, hb9⟩
  replace BV := keepC BV hb9
  obtain ⟨q0, q1, q2, q3, -⟩ := r0.below BV
  have bb := b0.trans (BV.mono b0.size)
  go_wp2_with fail
  exact bodyPost_ret (v := .agg #[.int .u64 (M.hiN A3 : Int), .int .u64 (M.loN A3 : Int)]) (by simp [results, Tryz.results69, go_sem, q0, q1]) rfl ⟨rfl, (bb.setCell (p := ⟨w.heap.size + 1, 0, none⟩) (by simp only; omega) _).setCell (p := ⟨w.heap.size + 1, 1, none⟩) (by simp only; omega) _⟩

set_option maxRecDepth 10000 in
set_option maxHeartbeats 4000000 in
theorem make_elp (p W ex R : Nat) (e1 e2 e4 : Int) (ao : Option Addr) (n c : Nat) (w : World) (hp1 : 2 ≤ p) (hp2 : p ≤ 113) (hW1 : 1 ≤ W) (hW2 : W ≤ 128) (hex : ex < 40000) (hR : R < 2 ^ 128) (hl : (D R).length = n) (hr : Rd w ao (D R)) (A1 : Nat) (hA1 : A1 = R + 2 ^ (p - 1)) (hA1l : A1 < 2 ^ 128) (E1 : Nat) (hE1 : E1 = ex * 2 ^ p) (hE1l : E1 < 2 ^ 128) (A2 : Nat) (hA2 : A2 = A1 + E1) (hA2l : A2 < 2 ^ 128) :
    Calls Tryz.prog 69 #[.agg #[.int .i64 (p : Int), .int .i64 e1, .int .i64 e2, .int .i64 (W : Int), .int .i64 e4, .bool true], .bool false, .int .i64 (ex : Int), .bool true, .slice ao n c] w fun e w' => e = .returned (.agg #[.int .u64 (M.hiN A2 : Int), .int .u64 (M.loN A2 : Int)]) ∧ Below w.heap.size w w' := by
  have k2 : ∀ (v : World) (z : Int) (k : Nat), z = (k : Int) → k ≤ 128 → Calls Tryz.prog 26 #[.int .i64 z] v fun e w' => Ret v w' e (D (2 ^ k)) := fun v z k hz hk => by
    rw [hz]; exact l2Two_any k v hk
  have hcv : IntKind.u64.wrap (ex : Int) = (ex : Int) := by rw [IntKind.wrap_u64]; omega
  have b0 : Below w.heap.size w ((w.alloc (.cells #[.int .i64 (p : Int), .int .i64 e1, .int .i64 e2, .int .i64 (W : Int), .int .i64 e4, .bool true] 47)).alloc (.cells #[.int .u64 0, .int .u64 0] 25)) := ((Below.refl _ _).alloc (Nat.le_refl _) _).alloc (by simp) _
  have r0 : W2 ((w.alloc (.cells #[.int .i64 (p : Int), .int .i64 e1, .int .i64 e2, .int .i64 (W : Int), .int .i64 e4, .bool true] 47)).alloc (.cells #[.int .u64 0, .int .u64 0] 25)) (w.heap.size + 1) 0 := by refine ⟨?_, ?_, ?_, ?_, ?_⟩ <;> simp [go_sem, hi0, lo0]
  have dW : ((w.alloc (.cells #[.int .i64 (p : Int), .int .i64 e1, .int .i64 e2, .int .i64 (W : Int), .int .i64 e4, .bool true] 47)).alloc (.cells #[.int .u64 0, .int .u64 0] 25)).cell? ⟨w.heap.size, 3, none⟩ = some (.int .i64 (W : Int)) := by simp [go_sem]
  have lw : w.heap.size < ((w.alloc (.cells #[.int .i64 (p : Int), .int .i64 e1, .int .i64 e2, .int .i64 (W : Int), .int .i64 e4, .bool true] 47)).alloc (.cells #[.int .u64 0, .int .u64 0] 25)).heap.size := by simp; omega
  have rR := hr.below b0
  have dR := D_word hR
  have HE1 := hid hE1; clear hE1
  have HA2 := hid hA2; clear hA2
  have HA1 := hid hA1; clear hA1
  have dA1 := D_word hA1l
  have w1 : IntKind.i64.wrap ((p : Int) - 1) = (p : Int) - 1 := by rw [IntKind.wrap_i64]; omega
  have w2 : IntKind.i64.wrap ((W : Int) - 1) = (W : Int) - 1 := by rw [IntKind.wrap_i64]; omega
  go_enter Tryz.func69, Tryz.ntmps69
  go_wp2_with fail
  generalize hv0 : ((w.alloc (.cells #[.int .i64 (p : Int), .int .i64 e1, .int .i64 e2, .int .i64 (W : Int), .int .i64 e4, .bool true] 47)).alloc (.cells #[.int .u64 0, .int .u64 0] 25)) = v0 at *
  have BV : Below v0.heap.size v0 v0 := Below.refl _ _
  clear hv0
  have rC := rR
  refine (k2 _ _ (p - 1) (by omega) (by omega)).mono ?_
  rintro e t1 ⟨a1, c1, rfl, ho1, hb1⟩
  have rt1 := Rd.own ho1
  replace BV := keepC BV hb1
  replace rC := rC.below hb1
  have ro1 := rt1
  go_wp2_with fail
  have kk1 := l1Add_any ao a1 _ _ c c1 R (2 ^ (p - 1)) _ hl rfl (by have := dR; omega) (Nat.le_trans (D_word (Nat.pow_lt_pow_right (by omega) (by omega))) (by omega)) rC ro1
  rw [← HA1.out] at kk1
  refine kk1.mono ?_
  rintro e s1 ⟨x1, y1, rfl, hx1, hz1⟩
  replace BV := keepC BV hz1
  replace rC := Rd.own hx1
  clear kk1
  go_wp2_with fail
  refine (l1Of_any ex _ (by omega)).mono ?_
  rintro e t2 ⟨a2, c2, rfl, ho2, hb2⟩
  replace BV := keepC BV hb2
  replace rC := rC.below hb2
  go_wp2_with fail
  have kl := l1Left_any a2 _ c2 p ex _ rfl (by have := D_word (a := ex) (by omega); omega) (by omega) (Rd.own ho2)
  rw [← HE1.out] at kl
  refine kl.mono ?_
  rintro e t3 ⟨a3, c3, rfl, ho3, hb3⟩
  replace BV := keepC BV hb3
  replace rC := rC.below hb3
  have ro2 := Rd.own ho3
  clear kl
  go_wp2_with fail
  have kk2 := l1Add_any x1 a3 _ _ y1 c3 A1 (E1) _ rfl rfl (by have := dA1; omega) (by have := D_word hE1l; omega) rC ro2
  rw [← HA2.out] at kk2
  refine kk2.mono ?_
  rintro e s2 ⟨x2, y2, rfl, hx2, hz2⟩
  replace BV := keepC BV hz2
  replace rC := Rd.own hx2
  clear kk2
  have dA2 := D_word hA2l
  go_wp2_with fail
  refine (l2Word_any x2 _ y2 A2 _ rfl hA2l rC).mono ?_
  rintro e t9 ⟨rfl, hb9⟩
  replace BV := keepC BV hb9
  obtain ⟨q0, q1, q2, q3, -⟩ := r0.below BV
  have bb := b0.trans (BV.mono b0.size)
  go_wp2_with fail
  exact bodyPost_ret (v := .agg #[.int .u64 (M.hiN A2 : Int), .int .u64 (M.loN A2 : Int)]) (by simp [results, Tryz.results69, go_sem, q0, q1]) rfl ⟨rfl, (bb.setCell (p := ⟨w.heap.size + 1, 0, none⟩) (by simp only; omega) _).setCell (p := ⟨w.heap.size + 1, 1, none⟩) (by simp only; omega) _⟩

set_option maxRecDepth 10000 in
set_option maxHeartbeats 4000000 in
theorem make_enm (p W ex R : Nat) (e1 e2 e4 : Int) (ao : Option Addr) (n c : Nat) (w : World) (hp1 : 2 ≤ p) (hp2 : p ≤ 113) (hW1 : 1 ≤ W) (hW2 : W ≤ 128) (hex : ex < 40000) (hR : R < 2 ^ 128) (hl : (D R).length = n) (hr : Rd w ao (D R)) (E1 : Nat) (hE1 : E1 = ex * 2 ^ p) (hE1l : E1 < 2 ^ 128) (A2 : Nat) (hA2 : A2 = R + E1) (hA2l : A2 < 2 ^ 128) (A3 : Nat) (hA3 : A3 = A2 + 2 ^ (W - 1)) (hA3l : A3 < 2 ^ 128) :
    Calls Tryz.prog 69 #[.agg #[.int .i64 (p : Int), .int .i64 e1, .int .i64 e2, .int .i64 (W : Int), .int .i64 e4, .bool true], .bool true, .int .i64 (ex : Int), .bool false, .slice ao n c] w fun e w' => e = .returned (.agg #[.int .u64 (M.hiN A3 : Int), .int .u64 (M.loN A3 : Int)]) ∧ Below w.heap.size w w' := by
  have k2 : ∀ (v : World) (z : Int) (k : Nat), z = (k : Int) → k ≤ 128 → Calls Tryz.prog 26 #[.int .i64 z] v fun e w' => Ret v w' e (D (2 ^ k)) := fun v z k hz hk => by
    rw [hz]; exact l2Two_any k v hk
  have hcv : IntKind.u64.wrap (ex : Int) = (ex : Int) := by rw [IntKind.wrap_u64]; omega
  have b0 : Below w.heap.size w ((w.alloc (.cells #[.int .i64 (p : Int), .int .i64 e1, .int .i64 e2, .int .i64 (W : Int), .int .i64 e4, .bool true] 47)).alloc (.cells #[.int .u64 0, .int .u64 0] 25)) := ((Below.refl _ _).alloc (Nat.le_refl _) _).alloc (by simp) _
  have r0 : W2 ((w.alloc (.cells #[.int .i64 (p : Int), .int .i64 e1, .int .i64 e2, .int .i64 (W : Int), .int .i64 e4, .bool true] 47)).alloc (.cells #[.int .u64 0, .int .u64 0] 25)) (w.heap.size + 1) 0 := by refine ⟨?_, ?_, ?_, ?_, ?_⟩ <;> simp [go_sem, hi0, lo0]
  have dW : ((w.alloc (.cells #[.int .i64 (p : Int), .int .i64 e1, .int .i64 e2, .int .i64 (W : Int), .int .i64 e4, .bool true] 47)).alloc (.cells #[.int .u64 0, .int .u64 0] 25)).cell? ⟨w.heap.size, 3, none⟩ = some (.int .i64 (W : Int)) := by simp [go_sem]
  have lw : w.heap.size < ((w.alloc (.cells #[.int .i64 (p : Int), .int .i64 e1, .int .i64 e2, .int .i64 (W : Int), .int .i64 e4, .bool true] 47)).alloc (.cells #[.int .u64 0, .int .u64 0] 25)).heap.size := by simp; omega
  have rR := hr.below b0
  have dR := D_word hR
  have HE1 := hid hE1; clear hE1
  have HA2 := hid hA2; clear hA2
  have HA3 := hid hA3; clear hA3
  have w1 : IntKind.i64.wrap ((p : Int) - 1) = (p : Int) - 1 := by rw [IntKind.wrap_i64]; omega
  have w2 : IntKind.i64.wrap ((W : Int) - 1) = (W : Int) - 1 := by rw [IntKind.wrap_i64]; omega
  go_enter Tryz.func69, Tryz.ntmps69
  go_wp2_with fail
  generalize hv0 : ((w.alloc (.cells #[.int .i64 (p : Int), .int .i64 e1, .int .i64 e2, .int .i64 (W : Int), .int .i64 e4, .bool true] 47)).alloc (.cells #[.int .u64 0, .int .u64 0] 25)) = v0 at *
  have BV : Below v0.heap.size v0 v0 := Below.refl _ _
  clear hv0
  have rC := rR
  skip
  refine (l1Of_any ex _ (by omega)).mono ?_
  rintro e t2 ⟨a2, c2, rfl, ho2, hb2⟩
  replace BV := keepC BV hb2
  replace rC := rC.below hb2
  go_wp2_with fail
  have kl := l1Left_any a2 _ c2 p ex _ rfl (by have := D_word (a := ex) (by omega); omega) (by omega) (Rd.own ho2)
  rw [← HE1.out] at kl
  refine kl.mono ?_
  rintro e t3 ⟨a3, c3, rfl, ho3, hb3⟩
  replace BV := keepC BV hb3
  replace rC := rC.below hb3
  have ro2 := Rd.own ho3
  clear kl
  go_wp2_with fail
  have kk2 := l1Add_any ao a3 _ _ c c3 R (E1) _ hl rfl (by have := dR; omega) (by have := D_word hE1l; omega) rC ro2
  rw [← HA2.out] at kk2
  refine kk2.mono ?_
  rintro e s2 ⟨x2, y2, rfl, hx2, hz2⟩
  replace BV := keepC BV hz2
  replace rC := Rd.own hx2
  clear kk2
  have dA2 := D_word hA2l
  have dW2 := (BV.cell (p := ⟨w.heap.size, 3, none⟩) lw).trans dW
  go_wp2_with fail
  refine (k2 _ _ (W - 1) (by omega) (by omega)).mono ?_
  rintro e t4 ⟨a4, c4, rfl, ho4, hb4⟩
  have rt4 := Rd.own ho4
  replace BV := keepC BV hb4
  replace rC := rC.below hb4
  have ro3 := rt4
  go_wp2_with fail
  have kk3 := l1Add_any x2 a4 _ _ y2 c4 A2 (2 ^ (W - 1)) _ rfl rfl (by have := dA2; omega) (Nat.le_trans (D_word (Nat.pow_lt_pow_right (by omega) (by omega))) (by omega)) rC ro3
  rw [← HA3.out] at kk3
  refine kk3.mono ?_
  rintro e s3 ⟨x3, y3, rfl, hx3, hz3⟩
  replace BV := keepC BV hz3
  replace rC := Rd.own hx3
  clear kk3
  have dA3 := D_word hA3l
  go_wp2_with fail
  refine (l2Word_any x3 _ y3 A3 _ rfl hA3l rC).mono ?_
  rintro e t9 ⟨rfl, hb9⟩
  replace BV := keepC BV hb9
  obtain ⟨q0, q1, q2, q3, -⟩ := r0.below BV
  have bb := b0.trans (BV.mono b0.size)
  go_wp2_with fail
  exact bodyPost_ret (v := .agg #[.int .u64 (M.hiN A3 : Int), .int .u64 (M.loN A3 : Int)]) (by simp [results, Tryz.results69, go_sem, q0, q1]) rfl ⟨rfl, (bb.setCell (p := ⟨w.heap.size + 1, 0, none⟩) (by simp only; omega) _).setCell (p := ⟨w.heap.size + 1, 1, none⟩) (by simp only; omega) _⟩

set_option maxRecDepth 10000 in
set_option maxHeartbeats 4000000 in
theorem make_enp (p W ex R : Nat) (e1 e2 e4 : Int) (ao : Option Addr) (n c : Nat) (w : World) (hp1 : 2 ≤ p) (hp2 : p ≤ 113) (hW1 : 1 ≤ W) (hW2 : W ≤ 128) (hex : ex < 40000) (hR : R < 2 ^ 128) (hl : (D R).length = n) (hr : Rd w ao (D R)) (E1 : Nat) (hE1 : E1 = ex * 2 ^ p) (hE1l : E1 < 2 ^ 128) (A2 : Nat) (hA2 : A2 = R + E1) (hA2l : A2 < 2 ^ 128) :
    Calls Tryz.prog 69 #[.agg #[.int .i64 (p : Int), .int .i64 e1, .int .i64 e2, .int .i64 (W : Int), .int .i64 e4, .bool true], .bool false, .int .i64 (ex : Int), .bool false, .slice ao n c] w fun e w' => e = .returned (.agg #[.int .u64 (M.hiN A2 : Int), .int .u64 (M.loN A2 : Int)]) ∧ Below w.heap.size w w' := by
  have k2 : ∀ (v : World) (z : Int) (k : Nat), z = (k : Int) → k ≤ 128 → Calls Tryz.prog 26 #[.int .i64 z] v fun e w' => Ret v w' e (D (2 ^ k)) := fun v z k hz hk => by
    rw [hz]; exact l2Two_any k v hk
  have hcv : IntKind.u64.wrap (ex : Int) = (ex : Int) := by rw [IntKind.wrap_u64]; omega
  have b0 : Below w.heap.size w ((w.alloc (.cells #[.int .i64 (p : Int), .int .i64 e1, .int .i64 e2, .int .i64 (W : Int), .int .i64 e4, .bool true] 47)).alloc (.cells #[.int .u64 0, .int .u64 0] 25)) := ((Below.refl _ _).alloc (Nat.le_refl _) _).alloc (by simp) _
  have r0 : W2 ((w.alloc (.cells #[.int .i64 (p : Int), .int .i64 e1, .int .i64 e2, .int .i64 (W : Int), .int .i64 e4, .bool true] 47)).alloc (.cells #[.int .u64 0, .int .u64 0] 25)) (w.heap.size + 1) 0 := by refine ⟨?_, ?_, ?_, ?_, ?_⟩ <;> simp [go_sem, hi0, lo0]
  have dW : ((w.alloc (.cells #[.int .i64 (p : Int), .int .i64 e1, .int .i64 e2, .int .i64 (W : Int), .int .i64 e4, .bool true] 47)).alloc (.cells #[.int .u64 0, .int .u64 0] 25)).cell? ⟨w.heap.size, 3, none⟩ = some (.int .i64 (W : Int)) := by simp [go_sem]
  have lw : w.heap.size < ((w.alloc (.cells #[.int .i64 (p : Int), .int .i64 e1, .int .i64 e2, .int .i64 (W : Int), .int .i64 e4, .bool true] 47)).alloc (.cells #[.int .u64 0, .int .u64 0] 25)).heap.size := by simp; omega
  have rR := hr.below b0
  have dR := D_word hR
  have HE1 := hid hE1; clear hE1
  have HA2 := hid hA2; clear hA2
  have w1 : IntKind.i64.wrap ((p : Int) - 1) = (p : Int) - 1 := by rw [IntKind.wrap_i64]; omega
  have w2 : IntKind.i64.wrap ((W : Int) - 1) = (W : Int) - 1 := by rw [IntKind.wrap_i64]; omega
  go_enter Tryz.func69, Tryz.ntmps69
  go_wp2_with fail
  generalize hv0 : ((w.alloc (.cells #[.int .i64 (p : Int), .int .i64 e1, .int .i64 e2, .int .i64 (W : Int), .int .i64 e4, .bool true] 47)).alloc (.cells #[.int .u64 0, .int .u64 0] 25)) = v0 at *
  have BV : Below v0.heap.size v0 v0 := Below.refl _ _
  clear hv0
  have rC := rR
  skip
  refine (l1Of_any ex _ (by omega)).mono ?_
  rintro e t2 ⟨a2, c2, rfl, ho2, hb2⟩
  replace BV := keepC BV hb2
  replace rC := rC.below hb2
  go_wp2_with fail
  have kl := l1Left_any a2 _ c2 p ex _ rfl (by have := D_word (a := ex) (by omega); omega) (by omega) (Rd.own ho2)
  rw [← HE1.out] at kl
  refine kl.mono ?_
  rintro e t3 ⟨a3, c3, rfl, ho3, hb3⟩
  replace BV := keepC BV hb3
  replace rC := rC.below hb3
  have ro2 := Rd.own ho3
  clear kl
  go_wp2_with fail
  have kk2 := l1Add_any ao a3 _ _ c c3 R (E1) _ hl rfl (by have := dR; omega) (by have := D_word hE1l; omega) rC ro2
  rw [← HA2.out] at kk2
  refine kk2.mono ?_
  rintro e s2 ⟨x2, y2, rfl, hx2, hz2⟩
  replace BV := keepC BV hz2
  replace rC := Rd.own hx2
  clear kk2
  have dA2 := D_word hA2l
  go_wp2_with fail
  refine (l2Word_any x2 _ y2 A2 _ rfl hA2l rC).mono ?_
  rintro e t9 ⟨rfl, hb9⟩
  replace BV := keepC BV hb9
  obtain ⟨q0, q1, q2, q3, -⟩ := r0.below BV
  have bb := b0.trans (BV.mono b0.size)
  go_wp2_with fail
  exact bodyPost_ret (v := .agg #[.int .u64 (M.hiN A2 : Int), .int .u64 (M.loN A2 : Int)]) (by simp [results, Tryz.results69, go_sem, q0, q1]) rfl ⟨rfl, (bb.setCell (p := ⟨w.heap.size + 1, 0, none⟩) (by simp only; omega) _).setCell (p := ⟨w.heap.size + 1, 1, none⟩) (by simp only; omega) _⟩

set_option maxRecDepth 10000 in
set_option maxHeartbeats 4000000 in
theorem make_inm (p W ex R : Nat) (e1 e2 e4 : Int) (ld : Bool) (ao : Option Addr) (n c : Nat) (w : World) (hp1 : 2 ≤ p) (hp2 : p ≤ 113) (hW1 : 1 ≤ W) (hW2 : W ≤ 128) (hex : ex < 40000) (hR : R < 2 ^ 128) (hl : (D R).length = n) (hr : Rd w ao (D R)) (E1 : Nat) (hE1 : E1 = ex * 2 ^ (p - 1)) (hE1l : E1 < 2 ^ 128) (A2 : Nat) (hA2 : A2 = R + E1) (hA2l : A2 < 2 ^ 128) (A3 : Nat) (hA3 : A3 = A2 + 2 ^ (W - 1)) (hA3l : A3 < 2 ^ 128) :
    Calls Tryz.prog 69 #[.agg #[.int .i64 (p : Int), .int .i64 e1, .int .i64 e2, .int .i64 (W : Int), .int .i64 e4, .bool false], .bool true, .int .i64 (ex : Int), .bool ld, .slice ao n c] w fun e w' => e = .returned (.agg #[.int .u64 (M.hiN A3 : Int), .int .u64 (M.loN A3 : Int)]) ∧ Below w.heap.size w w' := by
  have k2 : ∀ (v : World) (z : Int) (k : Nat), z = (k : Int) → k ≤ 128 → Calls Tryz.prog 26 #[.int .i64 z] v fun e w' => Ret v w' e (D (2 ^ k)) := fun v z k hz hk => by
    rw [hz]; exact l2Two_any k v hk
  have hcv : IntKind.u64.wrap (ex : Int) = (ex : Int) := by rw [IntKind.wrap_u64]; omega
  have b0 : Below w.heap.size w ((w.alloc (.cells #[.int .i64 (p : Int), .int .i64 e1, .int .i64 e2, .int .i64 (W : Int), .int .i64 e4, .bool false] 47)).alloc (.cells #[.int .u64 0, .int .u64 0] 25)) := ((Below.refl _ _).alloc (Nat.le_refl _) _).alloc (by simp) _
  have r0 : W2 ((w.alloc (.cells #[.int .i64 (p : Int), .int .i64 e1, .int .i64 e2, .int .i64 (W : Int), .int .i64 e4, .bool false] 47)).alloc (.cells #[.int .u64 0, .int .u64 0] 25)) (w.heap.size + 1) 0 := by refine ⟨?_, ?_, ?_, ?_, ?_⟩ <;> simp [go_sem, hi0, lo0]
  have dW : ((w.alloc (.cells #[.int .i64 (p : Int), .int .i64 e1, .int .i64 e2, .int .i64 (W : Int), .int .i64 e4, .bool false] 47)).alloc (.cells #[.int .u64 0, .int .u64 0] 25)).cell? ⟨w.heap.size, 3, none⟩ = some (.int .i64 (W : Int)) := by simp [go_sem]
  have lw : w.heap.size < ((w.alloc (.cells #[.int .i64 (p : Int), .int .i64 e1, .int .i64 e2, .int .i64 (W : Int), .int .i64 e4, .bool false] 47)).alloc (.cells #[.int .u64 0, .int .u64 0] 25)).heap.size := by simp; omega
  have rR := hr.below b0
  have dR := D_word hR
  have HE1 := hid hE1; clear hE1
  have HA2 := hid hA2; clear hA2
  have HA3 := hid hA3; clear hA3
  have w1 : IntKind.i64.wrap ((p : Int) - 1) = (p : Int) - 1 := by rw [IntKind.wrap_i64]; omega
  have w2 : IntKind.i64.wrap ((W : Int) - 1) = (W : Int) - 1 := by rw [IntKind.wrap_i64]; omega
  go_enter Tryz.func69, Tryz.ntmps69
  go_wp2_with fail
  generalize hv0 : ((w.alloc (.cells #[.int .i64 (p : Int), .int .i64 e1, .int .i64 e2, .int .i64 (W : Int), .int .i64 e4, .bool false] 47)).alloc (.cells #[.int .u64 0, .int .u64 0] 25)) = v0 at *
  have BV : Below v0.heap.size v0 v0 := Below.refl _ _
  clear hv0
  have rC := rR
  skip
  refine (l1Of_any ex _ (by omega)).mono ?_
  rintro e t2 ⟨a2, c2, rfl, ho2, hb2⟩
  replace BV := keepC BV hb2
  replace rC := rC.below hb2
  go_wp2_with fail
  try rw [show (p : Int) - 1 = ((p - 1 : Nat) : Int) by omega]
  have kl := l1Left_any a2 _ c2 (p - 1) ex _ rfl (by have := D_word (a := ex) (by omega); omega) (by omega) (Rd.own ho2)
  rw [← HE1.out] at kl
  refine kl.mono ?_
  rintro e t3 ⟨a3, c3, rfl, ho3, hb3⟩
  replace BV := keepC BV hb3
  replace rC := rC.below hb3
  have ro2 := Rd.own ho3
  clear kl
  go_wp2_with fail
  have kk2 := l1Add_any ao a3 _ _ c c3 R (E1) _ hl rfl (by have := dR; omega) (by have := D_word hE1l; omega) rC ro2
  rw [← HA2.out] at kk2
  refine kk2.mono ?_
  rintro e s2 ⟨x2, y2, rfl, hx2, hz2⟩
  replace BV := keepC BV hz2
  replace rC := Rd.own hx2
  clear kk2
  have dA2 := D_word hA2l
  have dW2 := (BV.cell (p := ⟨w.heap.size, 3, none⟩) lw).trans dW
  go_wp2_with fail
  refine (k2 _ _ (W - 1) (by omega) (by omega)).mono ?_
  rintro e t4 ⟨a4, c4, rfl, ho4, hb4⟩
  have rt4 := Rd.own ho4
  replace BV := keepC BV hb4
  replace rC := rC.below hb4
  have ro3 := rt4
  go_wp2_with fail
  have kk3 := l1Add_any x2 a4 _ _ y2 c4 A2 (2 ^ (W - 1)) _ rfl rfl (by have := dA2; omega) (Nat.le_trans (D_word (Nat.pow_lt_pow_right (by omega) (by omega))) (by omega)) rC ro3
  rw [← HA3.out] at kk3
  refine kk3.mono ?_
  rintro e s3 ⟨x3, y3, rfl, hx3, hz3⟩
  replace BV := keepC BV hz3
  replace rC := Rd.own hx3
  clear kk3
  have dA3 := D_word hA3l
  go_wp2_with fail
  refine (l2Word_any x3 _ y3 A3 _ rfl hA3l rC).mono ?_
  rintro e t9 ⟨rfl, hb9⟩
  replace BV := keepC BV hb9
  obtain ⟨q0, q1, q2, q3, -⟩ := r0.below BV
  have bb := b0.trans (BV.mono b0.size)
  go_wp2_with fail
  exact bodyPost_ret (v := .agg #[.int .u64 (M.hiN A3 : Int), .int .u64 (M.loN A3 : Int)]) (by simp [results, Tryz.results69, go_sem, q0, q1]) rfl ⟨rfl, (bb.setCell (p := ⟨w.heap.size + 1, 0, none⟩) (by simp only; omega) _).setCell (p := ⟨w.heap.size + 1, 1, none⟩) (by simp only; omega) _⟩

set_option maxRecDepth 10000 in
set_option maxHeartbeats 4000000 in
theorem make_inp (p W ex R : Nat) (e1 e2 e4 : Int) (ld : Bool) (ao : Option Addr) (n c : Nat) (w : World) (hp1 : 2 ≤ p) (hp2 : p ≤ 113) (hW1 : 1 ≤ W) (hW2 : W ≤ 128) (hex : ex < 40000) (hR : R < 2 ^ 128) (hl : (D R).length = n) (hr : Rd w ao (D R)) (E1 : Nat) (hE1 : E1 = ex * 2 ^ (p - 1)) (hE1l : E1 < 2 ^ 128) (A2 : Nat) (hA2 : A2 = R + E1) (hA2l : A2 < 2 ^ 128) :
    Calls Tryz.prog 69 #[.agg #[.int .i64 (p : Int), .int .i64 e1, .int .i64 e2, .int .i64 (W : Int), .int .i64 e4, .bool false], .bool false, .int .i64 (ex : Int), .bool ld, .slice ao n c] w fun e w' => e = .returned (.agg #[.int .u64 (M.hiN A2 : Int), .int .u64 (M.loN A2 : Int)]) ∧ Below w.heap.size w w' := by
  have k2 : ∀ (v : World) (z : Int) (k : Nat), z = (k : Int) → k ≤ 128 → Calls Tryz.prog 26 #[.int .i64 z] v fun e w' => Ret v w' e (D (2 ^ k)) := fun v z k hz hk => by
    rw [hz]; exact l2Two_any k v hk
  have hcv : IntKind.u64.wrap (ex : Int) = (ex : Int) := by rw [IntKind.wrap_u64]; omega
  have b0 : Below w.heap.size w ((w.alloc (.cells #[.int .i64 (p : Int), .int .i64 e1, .int .i64 e2, .int .i64 (W : Int), .int .i64 e4, .bool false] 47)).alloc (.cells #[.int .u64 0, .int .u64 0] 25)) := ((Below.refl _ _).alloc (Nat.le_refl _) _).alloc (by simp) _
  have r0 : W2 ((w.alloc (.cells #[.int .i64 (p : Int), .int .i64 e1, .int .i64 e2, .int .i64 (W : Int), .int .i64 e4, .bool false] 47)).alloc (.cells #[.int .u64 0, .int .u64 0] 25)) (w.heap.size + 1) 0 := by refine ⟨?_, ?_, ?_, ?_, ?_⟩ <;> simp [go_sem, hi0, lo0]
  have dW : ((w.alloc (.cells #[.int .i64 (p : Int), .int .i64 e1, .int .i64 e2, .int .i64 (W : Int), .int .i64 e4, .bool false] 47)).alloc (.cells #[.int .u64 0, .int .u64 0] 25)).cell? ⟨w.heap.size, 3, none⟩ = some (.int .i64 (W : Int)) := by simp [go_sem]
  have lw : w.heap.size < ((w.alloc (.cells #[.int .i64 (p : Int), .int .i64 e1, .int .i64 e2, .int .i64 (W : Int), .int .i64 e4, .bool false] 47)).alloc (.cells #[.int .u64 0, .int .u64 0] 25)).heap.size := by simp; omega
  have rR := hr.below b0
  have dR := D_word hR
  have HE1 := hid hE1; clear hE1
  have HA2 := hid hA2; clear hA2
  have w1 : IntKind.i64.wrap ((p : Int) - 1) = (p : Int) - 1 := by rw [IntKind.wrap_i64]; omega
  have w2 : IntKind.i64.wrap ((W : Int) - 1) = (W : Int) - 1 := by rw [IntKind.wrap_i64]; omega
  go_enter Tryz.func69, Tryz.ntmps69
  go_wp2_with fail
  generalize hv0 : ((w.alloc (.cells #[.int .i64 (p : Int), .int .i64 e1, .int .i64 e2, .int .i64 (W : Int), .int .i64 e4, .bool false] 47)).alloc (.cells #[.int .u64 0, .int .u64 0] 25)) = v0 at *
  have BV : Below v0.heap.size v0 v0 := Below.refl _ _
  clear hv0
  have rC := rR
  skip
  refine (l1Of_any ex _ (by omega)).mono ?_
  rintro e t2 ⟨a2, c2, rfl, ho2, hb2⟩
  replace BV := keepC BV hb2
  replace rC := rC.below hb2
  go_wp2_with fail
  try rw [show (p : Int) - 1 = ((p - 1 : Nat) : Int) by omega]
  have kl := l1Left_any a2 _ c2 (p - 1) ex _ rfl (by have := D_word (a := ex) (by omega); omega) (by omega) (Rd.own ho2)
  rw [← HE1.out] at kl
  refine kl.mono ?_
  rintro e t3 ⟨a3, c3, rfl, ho3, hb3⟩
  replace BV := keepC BV hb3
  replace rC := rC.below hb3
  have ro2 := Rd.own ho3
  clear kl
  go_wp2_with fail
  have kk2 := l1Add_any ao a3 _ _ c c3 R (E1) _ hl rfl (by have := dR; omega) (by have := D_word hE1l; omega) rC ro2
  rw [← HA2.out] at kk2
  refine kk2.mono ?_
  rintro e s2 ⟨x2, y2, rfl, hx2, hz2⟩
  replace BV := keepC BV hz2
  replace rC := Rd.own hx2
  clear kk2
  have dA2 := D_word hA2l
  go_wp2_with fail
  refine (l2Word_any x2 _ y2 A2 _ rfl hA2l rC).mono ?_
  rintro e t9 ⟨rfl, hb9⟩
  replace BV := keepC BV hb9
  obtain ⟨q0, q1, q2, q3, -⟩ := r0.below BV
  have bb := b0.trans (BV.mono b0.size)
  go_wp2_with fail
  exact bodyPost_ret (v := .agg #[.int .u64 (M.hiN A2 : Int), .int .u64 (M.loN A2 : Int)]) (by simp [results, Tryz.results69, go_sem, q0, q1]) rfl ⟨rfl, (bb.setCell (p := ⟨w.heap.size + 1, 0, none⟩) (by simp only; omega) _).setCell (p := ⟨w.heap.size + 1, 1, none⟩) (by simp only; omega) _⟩

end Go.Proofs.YtodgblbaclionaaGreatDoor

