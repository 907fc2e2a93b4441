import Derived.Test.YtliflblcieepiacTp8
import Derived.OpenShut
namespace Go.Proofs.Ytliflblcieepiac
open Go.RowKit
set_option linter.unusedVariables false
set_option maxRecDepth 100000

theorem specTenPower_any (k W : Int) (w : World) :
    Calls Try.prog 26 #[.int .i64 k, .int .i64 W] w fun e w' => e = .returned (tpv k W) ∧ Below w.heap.size w w' := by
  by_cases h : -5200 ≤ k ∧ k ≤ 5200 ∧ 1 ≤ W ∧ W ≤ 128
  · have ht : tpv k W = pwv k W (tX k W / tY k W) (tExp k W) (decide (tX k W % tY k W = 0)) true := by unfold tpv; rw [if_pos h]
    rw [ht]
    have hq := top_lt k W h
    have hb := tb_bound k ⟨h.1, h.2.1⟩
    have hE : tExp k W = tb k - W + 1 := rfl
    rcases Int.lt_or_le k 0 with h0 | h0
    · obtain ⟨m, rfl⟩ : ∃ m : Nat, k = -(m : Int) := ⟨(-k).toNat, by omega⟩
      have hm : 0 < m := by omega
      have hbp := blen_pos (10 ^ m) (Nat.pow_pos (by omega))
      have htb := tb_neg m (by omega) hm
      obtain ⟨s, hs⟩ : ∃ s : Nat, tExp (-(m : Int)) W = -(s : Int) := ⟨(-(tExp (-(m : Int)) W)).toNat, by rw [hE, htb]; omega⟩
      have hs0 : 0 < s := by rw [hE, htb] at hs; omega
      have eX : tX (-(m : Int)) W = 2 ^ s := by unfold tX; rw [hs, tNum_neg, show (- -(s : Int)).toNat = s by omega, Nat.one_mul]
      have eY : tY (-(m : Int)) W = 10 ^ m := by unfold tY; rw [hs, tDen_neg, show (-(s : Int)).toNat = 0 by omega, Nat.pow_zero, Nat.mul_one]
      rw [eX, eY] at hq ⊢
      rw [hs]
      rw [hE] at hs
      exact specTP_nn m s W (tb (-(m : Int))) w (by omega) hm (by omega) (by omega) (by omega) (by omega) hs (by omega) hs0 hq (fun v => specTenBits_any _ v)
    · obtain ⟨m, rfl⟩ : ∃ m : Nat, k = (m : Int) := ⟨k.toNat, by omega⟩
      rcases Int.lt_or_le (tExp (m : Int) W) 0 with h1 | h1
      · obtain ⟨s, hs⟩ : ∃ s : Nat, tExp (m : Int) W = -(s : Int) := ⟨(-(tExp (m : Int) W)).toNat, by omega⟩
        have hs0 : 0 < s := by omega
        have eX : tX (m : Int) W = 10 ^ m * 2 ^ s := by unfold tX; rw [hs, tNum_pos, show (- -(s : Int)).toNat = s by omega]
        have eY : tY (m : Int) W = 1 := by unfold tY; rw [hs, tDen_pos, show (-(s : Int)).toNat = 0 by omega, Nat.pow_zero]
        rw [eX, eY] at hq ⊢
        rw [hs]
        rw [hE] at hs
        exact specTP_pn m s W (tb (m : Int)) w (by omega) (by omega) (by omega) (by omega) (by omega) hs (by omega) hs0 hq (fun v => specTenBits_any _ v)
      · obtain ⟨s, hs⟩ : ∃ s : Nat, tExp (m : Int) W = (s : Int) := ⟨(tExp (m : Int) W).toNat, by omega⟩
        have eX : tX (m : Int) W = 10 ^ m := by unfold tX; rw [hs, tNum_pos, show (-(s : Int)).toNat = 0 by omega, Nat.pow_zero, Nat.mul_one]
        have eY : tY (m : Int) W = 2 ^ s := by unfold tY; rw [hs, tDen_pos, Int.toNat_natCast, Nat.one_mul]
        rw [eX, eY] at hq ⊢
        rw [hs]
        rw [hE] at hs
        exact specTP_pp m s W (tb (m : Int)) w (by omega) (by omega) (by omega) (by omega) (by omega) hs (by omega) hq (fun v => specTenBits_any _ v)
  · have ht : tpv k W = pwv 0 0 0 0 false false := by unfold tpv; rw [if_neg h]
    rw [ht]
    exact specTenPower_out k W w h

set_option maxHeartbeats 400000 in
theorem eqWord_same2 (a b : Int) (w : World) :
    Calls Try.prog 72 #[.agg #[.int .u64 a, .int .u64 b], .agg #[.int .u64 a, .int .u64 b]] w fun r w' => r = .returned (.bool true) ∧ Below w.heap.size w w' := by
  go_enter Try.func72, Try.ntmps72
  go_wp2_with fail
  go_ret
  exact ⟨rfl, ((Below.refl _ _).alloc (Nat.le_refl _) _).alloc (by simp) _⟩

set_option maxHeartbeats 1000000 in
theorem eqPower_same (a b h l E : Int) (x y : Bool) (w : World) :
    Calls Try.prog 28 #[.agg #[.int .i64 a, .int .i64 b, .int .u64 h, .int .u64 l, .int .i64 E, .bool x, .bool y], .agg #[.int .i64 a, .int .i64 b, .int .u64 h, .int .u64 l, .int .i64 E, .bool x, .bool y]] w fun r w' => r = .returned (.bool true) ∧ Below w.heap.size w w' := by
  have b0 := ((Below.refl w.heap.size w).alloc (Nat.le_refl _) (.cells #[.int .i64 a, .int .i64 b, .int .u64 h, .int .u64 l, .int .i64 E, .bool x, .bool y] 58)).alloc (by simp) (.cells #[.int .i64 a, .int .i64 b, .int .u64 h, .int .u64 l, .int .i64 E, .bool x, .bool y] 58)
  go_enter Try.func28, Try.ntmps28
  go_wp2_with fail
  refine (eqWord_same2 h l _).mono ?_
  rintro e v1 ⟨rfl, hb1⟩
  have c4 : v1.cell? ⟨w.heap.size, 4, none⟩ = some (.int .i64 E) := (hb1.cell (by simp <;> omega)).trans (by simp [go_sem])
  have d4 : v1.cell? ⟨w.heap.size + 1, 4, none⟩ = some (.int .i64 E) := (hb1.cell (by simp <;> omega)).trans (by simp [go_sem])
  have c5 : v1.cell? ⟨w.heap.size, 5, none⟩ = some (.bool x) := (hb1.cell (by simp <;> omega)).trans (by simp [go_sem])
  have d5 : v1.cell? ⟨w.heap.size + 1, 5, none⟩ = some (.bool x) := (hb1.cell (by simp <;> omega)).trans (by simp [go_sem])
  have c6 : v1.cell? ⟨w.heap.size, 6, none⟩ = some (.bool y) := (hb1.cell (by simp <;> omega)).trans (by simp [go_sem])
  have d6 : v1.cell? ⟨w.heap.size + 1, 6, none⟩ = some (.bool y) := (hb1.cell (by simp <;> omega)).trans (by simp [go_sem])
  have b1 := b0.trans (hb1.mono b0.size)
  clear hb1 b0
  have hx : (x != x) = false := by simp
  have hy : (y != y) = false := by simp
  go_wp2_with fail
  go_ret
  exact ⟨rfl, b1⟩

set_option maxRecDepth 10000 in
set_option maxHeartbeats 2000000 in
theorem lawTenPower (k W : Int) (w : World) (w0 : (Lit.int .i64 k).wf = true) (w1 : (Lit.int .i64 W).wf = true) :
    Calls Try.prog 7 #[.int .i64 k, .int .i64 W] w fun e w' => e = .returned (.bool true) ∧ Below w.heap.size w w' := by
  have k1 := fun v : World => specTenPower_any k W v
  have k2 := fun v : World => implTenPower_any k W v
  obtain ⟨a, b, T, E, x, y, hv⟩ := tpv_shape k W
  rw [hv] at k1 k2
  clear hv
  unfold pwv at k1 k2
  generalize (M.hiN T : Int) = h at *
  generalize (M.loN T : Int) = l at *
  go_enter Try.func7, Try.ntmps7
  go_wp2_with fail
  refine (k1 _).mono ?_
  rintro e v1 ⟨rfl, hb1⟩
  go_upto_region 2 with fail
  have bn : Below v1.heap.size v1 (v1.alloc (.cells #[.int .i64 a, .int .i64 b, .int .u64 h, .int .u64 l, .int .i64 E, .bool x, .bool y] 58)) := (Below.refl _ _).alloc (Nat.le_refl _) _
  have ln : v1.heap.size < (v1.alloc (.cells #[.int .i64 a, .int .i64 b, .int .u64 h, .int .u64 l, .int .i64 E, .bool x, .bool y] 58)).heap.size := by simp
  have p0 : (v1.alloc (.cells #[.int .i64 a, .int .i64 b, .int .u64 h, .int .u64 l, .int .i64 E, .bool x, .bool y] 58)).cell? ⟨v1.heap.size, 0, none⟩ = some (.int .i64 a) := by simp [go_sem]
  have p1 : (v1.alloc (.cells #[.int .i64 a, .int .i64 b, .int .u64 h, .int .u64 l, .int .i64 E, .bool x, .bool y] 58)).cell? ⟨v1.heap.size, 1, none⟩ = some (.int .i64 b) := by simp [go_sem]
  have p2 : (v1.alloc (.cells #[.int .i64 a, .int .i64 b, .int .u64 h, .int .u64 l, .int .i64 E, .bool x, .bool y] 58)).cell? ⟨v1.heap.size, 2, none⟩ = some (.int .u64 h) := by simp [go_sem]
  have p3 : (v1.alloc (.cells #[.int .i64 a, .int .i64 b, .int .u64 h, .int .u64 l, .int .i64 E, .bool x, .bool y] 58)).cell? ⟨v1.heap.size, 3, none⟩ = some (.int .u64 l) := by simp [go_sem]
  have p4 : (v1.alloc (.cells #[.int .i64 a, .int .i64 b, .int .u64 h, .int .u64 l, .int .i64 E, .bool x, .bool y] 58)).cell? ⟨v1.heap.size, 4, none⟩ = some (.int .i64 E) := by simp [go_sem]
  have p5 : (v1.alloc (.cells #[.int .i64 a, .int .i64 b, .int .u64 h, .int .u64 l, .int .i64 E, .bool x, .bool y] 58)).cell? ⟨v1.heap.size, 5, none⟩ = some (.bool x) := by simp [go_sem]
  have p6 : (v1.alloc (.cells #[.int .i64 a, .int .i64 b, .int .u64 h, .int .u64 l, .int .i64 E, .bool x, .bool y] 58)).cell? ⟨v1.heap.size, 6, none⟩ = some (.bool y) := by simp [go_sem]
  have B1 := keepC1 hb1 bn
  clear hb1 bn
  generalize v1.alloc (.cells #[.int .i64 a, .int .i64 b, .int .u64 h, .int .u64 l, .int .i64 E, .bool x, .bool y] 58) = v2 at *
  generalize v1.heap.size = g at *
  go_wp2_with fail
  refine (k2 _).mono ?_
  rintro e v3 ⟨rfl, hb3⟩
  replace p0 := (hb3.cell (p := ⟨g, 0, none⟩) ln).trans p0
  replace p1 := (hb3.cell (p := ⟨g, 1, none⟩) ln).trans p1
  replace p2 := (hb3.cell (p := ⟨g, 2, none⟩) ln).trans p2
  replace p3 := (hb3.cell (p := ⟨g, 3, none⟩) ln).trans p3
  replace p4 := (hb3.cell (p := ⟨g, 4, none⟩) ln).trans p4
  replace p5 := (hb3.cell (p := ⟨g, 5, none⟩) ln).trans p5
  replace p6 := (hb3.cell (p := ⟨g, 6, none⟩) ln).trans p6
  replace ln : g < v3.heap.size := Nat.lt_of_lt_of_le ln hb3.size
  have B2 := keepC1 B1 hb3
  clear hb3 B1 k1 k2
  have B3 : Below w.heap.size w (v3.alloc (.cells #[.int .i64 a, .int .i64 b, .int .u64 h, .int .u64 l, .int .i64 E, .bool x, .bool y] 58)) := B2.alloc B2.size _
  go_wp2_with fail
  refine (eqPower_same a b h l E x y _).mono ?_
  rintro e v4 ⟨rfl, hb4⟩
  go_wp2_with fail
  go_ret
  exact ⟨rfl, keepC1 B3 hb4⟩

end Go.Proofs.Ytliflblcieepiac
