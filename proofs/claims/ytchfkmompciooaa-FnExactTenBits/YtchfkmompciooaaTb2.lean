import Derived.Test.YtchfkmompciooaaLzM
import Derived.Test.YtchfkmompciooaaTb1
namespace Go.Proofs.Ytchfkmompciooaa
open Go.RowKit
set_option linter.unusedVariables false

theorem cmpI_le {x y : Nat} : (cmpI (x : Int) (y : Int) ≤ 0) = (x ≤ y) := by
  unfold cmpI
  by_cases h : (x : Int) < y
  · rw [if_pos h]; simp; omega
  · rw [if_neg h]
    by_cases h2 : (y : Int) < x
    · rw [if_pos h2]; simp; omega
    · rw [if_neg h2]; simp; omega

theorem len_shift (N p : Nat) (hn : (L N).length ≤ 10000) (hp : p ≤ 100000) : (L (N * 2 ^ p)).length ≤ 4194304 := by
  have := len_shiftK N p 10000 1563 hn (by omega)
  omega

set_option maxRecDepth 10000 in
set_option maxHeartbeats 2000000 in
theorem clo_pos (g : Nat) (a b : Option Addr) (c d n m N De s : Nat) (w : World) (hl : (L N).length = n) (hm : (L De).length = m) (hn : n ≤ 10000) (hn2 : m ≤ 10000) (hs : s ≤ 100000) (ra : Rd w a (L N)) (rb : Rd w b (L De))
    (g0 : w.cell? ⟨g, 0, none⟩ = some (.slice a n c)) (g1 : w.cell? ⟨g, 1, none⟩ = some (.slice b m d)) :
    Calls Try.prog 53 #[.int .i64 (s : Int), .pointer (some ⟨g, 0, none⟩)] w fun e w' => e = .returned (.bool (decide (De * 2 ^ s ≤ N * 2 ^ 0))) ∧ Below w.heap.size w w' := by
  have k1 := timesTwo_neg a b c d n m N De s w hl hm (by omega) (by omega) hs ra rb
  have l1 : (L (N * 2 ^ 0)).length ≤ 4194304 := len_shift N 0 (by omega) (by omega)
  have l2 : (L (De * 2 ^ s)).length ≤ 4194304 := len_shift De s (by omega) (by omega)
  obtain ⟨N1, hN1⟩ : ∃ N1, N1 = N * 2 ^ 0 := ⟨_, rfl⟩
  obtain ⟨D1, hD1⟩ : ∃ D1, D1 = De * 2 ^ s := ⟨_, rfl⟩
  rw [← hN1, ← hD1] at k1
  rw [← hN1] at l1
  rw [← hD1] at l2
  rw [← hN1, ← hD1]
  clear hN1 hD1
  have hneg : IntKind.i64.wrap (-(s : Int)) = -(s : Int) := by rw [IntKind.wrap_i64]; omega
  go_enter Try.func53, Try.ntmps53
  go_wp2_with fail
  refine k1.mono ?_
  rintro e v1 ⟨a1, c1, a2, c2, rfl, r1, r2, hb1⟩
  obtain ⟨t0, t1, y0, y1⟩ := two_new v1 52 (.slice a1 (L N1).length c1) (.slice a2 (L D1).length c2)
  have bn : Below v1.heap.size v1 (v1.alloc (.cells #[.slice a1 (L N1).length c1, .slice a2 (L D1).length c2] 52)) := (Below.refl _ _).alloc (Nat.le_refl _) _
  go_wp2_with fail
  refine (compare_any a2 a1 _ _ c2 c1 D1 N1 _ rfl rfl l2 l1 (r2.below bn) (r1.below bn)).mono ?_
  rintro e v2 ⟨rfl, q, rfl⟩
  have hcm := cmpI_le (x := D1) (y := N1)
  go_wp2_with fail
  go_ret
  exact ⟨rfl, below_drewN (keepC1 hb1 bn) q⟩

set_option maxRecDepth 10000 in
set_option maxHeartbeats 2000000 in
theorem clo_neg (g : Nat) (a b : Option Addr) (c d n m N De s : Nat) (w : World) (hl : (L N).length = n) (hm : (L De).length = m) (hn : n ≤ 10000) (hn2 : m ≤ 10000) (hs : s ≤ 100000) (ra : Rd w a (L N)) (rb : Rd w b (L De))
    (g0 : w.cell? ⟨g, 0, none⟩ = some (.slice a n c)) (g1 : w.cell? ⟨g, 1, none⟩ = some (.slice b m d)) :
    Calls Try.prog 53 #[.int .i64 (-(s : Int)), .pointer (some ⟨g, 0, none⟩)] w fun e w' => e = .returned (.bool (decide (De * 2 ^ 0 ≤ N * 2 ^ s))) ∧ Below w.heap.size w w' := by
  have k1 := timesTwo_pos a b c d n m N De s w hl hm (by omega) (by omega) hs ra rb
  have l1 : (L (N * 2 ^ s)).length ≤ 4194304 := len_shift N s (by omega) (by omega)
  have l2 : (L (De * 2 ^ 0)).length ≤ 4194304 := len_shift De 0 (by omega) (by omega)
  obtain ⟨N1, hN1⟩ : ∃ N1, N1 = N * 2 ^ s := ⟨_, rfl⟩
  obtain ⟨D1, hD1⟩ : ∃ D1, D1 = De * 2 ^ 0 := ⟨_, rfl⟩
  rw [← hN1, ← hD1] at k1
  rw [← hN1] at l1
  rw [← hD1] at l2
  rw [← hN1, ← hD1]
  clear hN1 hD1
  have hneg : IntKind.i64.wrap (-(-(s : Int))) = -(-(s : Int)) := by rw [IntKind.wrap_i64]; omega
  go_enter Try.func53, Try.ntmps53
  go_wp2_with fail
  refine k1.mono ?_
  rintro e v1 ⟨a1, c1, a2, c2, rfl, r1, r2, hb1⟩
  obtain ⟨t0, t1, y0, y1⟩ := two_new v1 52 (.slice a1 (L N1).length c1) (.slice a2 (L D1).length c2)
  have bn : Below v1.heap.size v1 (v1.alloc (.cells #[.slice a1 (L N1).length c1, .slice a2 (L D1).length c2] 52)) := (Below.refl _ _).alloc (Nat.le_refl _) _
  go_wp2_with fail
  refine (compare_any a2 a1 _ _ c2 c1 D1 N1 _ rfl rfl l2 l1 (r2.below bn) (r1.below bn)).mono ?_
  rintro e v2 ⟨rfl, q, rfl⟩
  have hcm := cmpI_le (x := D1) (y := N1)
  go_wp2_with fail
  go_ret
  exact ⟨rfl, below_drewN (keepC1 hb1 bn) q⟩

theorem halve {x y : Int} (h : x < y) : ∃ m : Int, m = y - (y - x) / 2 ∧ x < m ∧ m ≤ y := ⟨_, rfl, by omega, by omega⟩

set_option maxRecDepth 10000 in
set_option maxHeartbeats 2000000 in
theorem greatest_any (lo hi : Int) (P : Int → Bool) (g : Value) (W : World) (h1 : -1000000 ≤ lo) (h2 : lo ≤ hi) (h3 : hi ≤ 1000000)
    (hk : ∀ (x : Int) (v : World), lo ≤ x → x ≤ hi → Below W.heap.size W v → Calls Try.prog 53 #[.int .i64 x, g] v fun e v' => e = .returned (.bool (P x)) ∧ Below v.heap.size v v') :
    Calls Try.prog 52 #[.int .i64 lo, .int .i64 hi, .func (.func 53) #[] #[g]] W fun e w' => ∃ r, e = .returned (.int .i64 r) ∧ lo ≤ r ∧ r ≤ hi ∧ (lo < r → P r = true) ∧ (r < hi → P (r + 1) = false) ∧ Below W.heap.size W w' := by
  go_enter Try.func52, Try.ntmps52
  go_wp2_with fail
  go_loopw [0, 1] (fun l h wr => ∃ x y : Int, l = .int .i64 x ∧ h = .int .i64 y ∧ lo ≤ x ∧ x ≤ y ∧ y ≤ hi ∧ Hid (lo < x → P x = true) ∧ Hid (y < hi → P (y + 1) = false) ∧ Below W.heap.size W wr) (fun l h _ => (intOf h - intOf l).toNat)
  case atStart =>
    exact ⟨lo, hi, rfl, rfl, by omega, by omega, by omega, hid (fun h => by omega), hid (fun h => by omega), Below.refl _ _⟩
  case round =>
    obtain ⟨x, y, rfl, rfl, hx, hxy, hy, HX, HY, hb⟩ := hrel
    by_cases hlt : x < y
    · obtain ⟨m, hm, hm1, hm2⟩ := halve hlt
      have hk1 := hk m
      rw [hm] at hm1 hm2 hk1
      clear hm
      go_wp2_with fail
      refine (hk1 _ (by omega) (by omega) hb).mono ?_
      rintro e w2 ⟨rfl, hb2⟩
      have hb3 := keepC1 hb hb2
      cases hP : P (y - (y - x) / 2)
      · go_wp2_with fail
        go_roundw
        case rel =>
          have R : ∃ x1 y1 : Int, Value.int .i64 x = .int .i64 x1 ∧ Value.int .i64 ((y - (y - x) / 2) - 1) = .int .i64 y1 ∧ lo ≤ x1 ∧ x1 ≤ y1 ∧ y1 ≤ hi ∧ Hid (lo < x1 → P x1 = true) ∧ Hid (y1 < hi → P (y1 + 1) = false) ∧ Below W.heap.size W w2 :=
            ⟨x, (y - (y - x) / 2) - 1, rfl, rfl, by omega, by omega, by omega, HX, hid (fun _ => by rw [show (y - (y - x) / 2) - 1 + 1 = (y - (y - x) / 2) by omega]; exact hP), hb3⟩
          first | exact R | ((repeat apply Exists.intro); exact ⟨R, rfl⟩)
        case measure => simp [intOf]; omega
      · go_wp2_with fail
        go_roundw
        case rel =>
          have R : ∃ x1 y1 : Int, Value.int .i64 (y - (y - x) / 2) = .int .i64 x1 ∧ Value.int .i64 y = .int .i64 y1 ∧ lo ≤ x1 ∧ x1 ≤ y1 ∧ y1 ≤ hi ∧ Hid (lo < x1 → P x1 = true) ∧ Hid (y1 < hi → P (y1 + 1) = false) ∧ Below W.heap.size W w2 :=
            ⟨(y - (y - x) / 2), y, rfl, rfl, by omega, by omega, by omega, hid (fun _ => hP), HY, hb3⟩
          first | exact R | ((repeat apply Exists.intro); exact ⟨R, rfl⟩)
        case measure => simp [intOf]; omega
    · go_wp2_with fail
      go_ret
      have e1 : x = y := by omega
      subst e1
      exact ⟨x, rfl, hx, hy, HX.out, HY.out, hb⟩

end Go.Proofs.Ytchfkmompciooaa
