import Derived.Test.YtjffpclidcloeaaGreatDoorrBX
set_option maxHeartbeats 2000000
set_option maxRecDepth 10000
namespace Go.Proofs.YtjffpclidcloeaaGreatDoor
open Go.RowKit
set_option linter.unusedVariables false
set_option maxRecDepth 100000
theorem timesTwo_pos (a b : Option Addr) (c d n m N De s : Nat) (w : World) (hl : (L N).length = n) (hm : (L De).length = m) (hn : n ≤ 1048576) (hn2 : m ≤ 1048576) (hs : s ≤ 100000) (ra : Rd w a (L N)) (rb : Rd w b (L De)) :
 Calls Tryz.prog 50 #[.agg #[.slice a n c, .slice b m d], .int .i64 (s : Int)] w fun e w' => RR w w' e (N * 2 ^ s) (De * 2 ^ 0) := by
 have hz : max (s : Int) 0 = (s : Int) := by omega
 have hzw : max (IntKind.i64.wrap (-(s : Int))) 0 = (0 : Int) := by rw [IntKind.wrap_i64]; omega
 go_enter Tryz.func50, Tryz.ntmps50
 go_wp2_with fail
 have b1 : Below w.heap.size w ((w.alloc (.cells #[.slice a n c, .slice b m d] 99)).alloc (.cells #[.slice none 0 0, .slice none 0 0] 99)) := ((Below.refl _ _).alloc (Nat.le_refl _) _).alloc (by simp) _
 generalize hw1 : ((w.alloc (.cells #[.slice a n c, .slice b m d] 99)).alloc (.cells #[.slice none 0 0, .slice none 0 0] 99)) = w1 at *
 have c0 : w1.cell? ⟨w.heap.size, 0, none⟩ = some (.slice a n c) := by rw [← hw1]; simp [go_sem]
 have c1 : w1.cell? ⟨w.heap.size, 1, none⟩ = some (.slice b m d) := by rw [← hw1]; simp [go_sem]
 have r0 : w1.cell? ⟨w.heap.size + 1, 0, none⟩ = some (.slice none 0 0) := by rw [← hw1]; simp [go_sem]
 have r1 : w1.cell? ⟨w.heap.size + 1, 1, none⟩ = some (.slice none 0 0) := by rw [← hw1]; simp [go_sem]
 have z0 : w1.frozen? ⟨w.heap.size + 1, 0, none⟩ = false := by rw [← hw1]; simp [go_sem]
 have z1 : w1.frozen? ⟨w.heap.size + 1, 1, none⟩ = false := by rw [← hw1]; simp [go_sem]
 have n1 : w.heap.size + 2 ≤ w1.heap.size := by rw [← hw1]; simp
 clear hw1
 have k1 : ∀ v (z : Int), z = (s : Int) → Below w1.heap.size w1 v → Calls Tryz.prog 76 #[.slice a n c, .int .i64 z] v fun e v' => ∃ a1 c1, e = .returned (.slice a1 (L (N * 2 ^ s)).length c1) ∧ v'.ownsRow w1.heap.size 23 1 (.slice a1 (L (N * 2 ^ s)).length c1) (L (N * 2 ^ s)).length (U (L (N * 2 ^ s))) ∧ Below w1.heap.size w1 v' := fun v z hz hv => hz ▸ (shiftLeft_any a n c s N v hl hn (by omega) ((ra.below b1).below hv)).mono fun e v' ⟨a1, c1, he, ho, hb⟩ => ⟨a1, c1, he, own_base ho hv.size, keepC1 hv hb⟩
 have k2 : ∀ v (z : Int) a1 c1, z = (0 : Int) → Below w1.heap.size w1 v → v.ownsRow w1.heap.size 23 1 (.slice a1 (L (N * 2 ^ s)).length c1) (L (N * 2 ^ s)).length (U (L (N * 2 ^ s))) → Calls Tryz.prog 76 #[.slice b m d, .int .i64 z] v fun e v' => ∃ a2 c2, e = .returned (.slice a2 (L (De * 2 ^ 0)).length c2) ∧ (∀ x y, Rd ((v'.setCell ⟨w.heap.size + 1, 0, none⟩ x).setCell ⟨w.heap.size + 1, 1, none⟩ y) a1 (L (N * 2 ^ s)) ∧ Rd ((v'.setCell ⟨w.heap.size + 1, 0, none⟩ x).setCell ⟨w.heap.size + 1, 1, none⟩ y) a2 (L (De * 2 ^ 0))) ∧ v'.cell? ⟨w.heap.size + 1, 0, none⟩ = some (.slice none 0 0) ∧ v'.cell? ⟨w.heap.size + 1, 1, none⟩ = some (.slice none 0 0) ∧ v'.frozen? ⟨w.heap.size + 1, 0, none⟩ = false ∧ v'.frozen? ⟨w.heap.size + 1, 1, none⟩ = false ∧ Below w1.heap.size w1 v' := fun v z a1 c1 hz hv ho1 => hz ▸ (shiftLeft_any b m d 0 De v hm hn2 (by omega) ((rb.below b1).below hv)).mono fun e v' ⟨a2, c2, he, ho, hb⟩ => ⟨a2, c2, he, fun x y => ⟨own_two (own_below ho1 hb) (by omega) x y, own_two ho (by have := hv.size; omega) x y⟩, ((keepC1 hv hb).cell (by simp only; omega)).trans r0, ((keepC1 hv hb).cell (by simp only; omega)).trans r1, ((keepC1 hv hb).frozen (by simp only; omega)).trans z0, ((keepC1 hv hb).frozen (by simp only; omega)).trans z1, keepC1 hv hb⟩
 have D1 : ∀ v, Below w1.heap.size w1 v → (fun v => v.cell? ⟨w.heap.size, 0, none⟩ = some (.slice a n c) ∧ v.cell? ⟨w.heap.size, 1, none⟩ = some (.slice b m d)) v := fun v hv => ⟨(hv.cell (by simp only; omega)).trans c0, (hv.cell (by simp only; omega)).trans c1⟩
 have D2 : ∀ v x y, Below w1.heap.size w1 v → (fun v => v.cell? ⟨w.heap.size, 0, none⟩ = some (.slice a n c) ∧ v.cell? ⟨w.heap.size, 1, none⟩ = some (.slice b m d)) ((v.setCell ⟨w.heap.size + 1, 0, none⟩ x).setCell ⟨w.heap.size + 1, 1, none⟩ y) := fun v x y hv => ⟨((far2' v x y (by omega)).trans (hv.cell (by simp only; omega))).trans c0, ((far2' v x y (by omega)).trans (hv.cell (by simp only; omega))).trans c1⟩
 clear c0 c1 r0 r1 z0 z1 ra rb hl hm
 go_region_held3 (fun v => v.cell? ⟨w.heap.size, 0, none⟩ = some (.slice a n c) ∧ v.cell? ⟨w.heap.size, 1, none⟩ = some (.slice b m d)) (first | exact D1 _ (by assumption) | exact D1 _ ((Below.refl _ _).drew) | exact D2 _ _ _ (by assumption))
  (first | (have hq := hb1; go_at_call 76; refine (k2 _ _ _ _ (by first | with_reducible rfl | omega | (simp only [IntKind.wrap_i64]; omega)) hq ho1).mono ?_; rintro e w' ⟨ao2, ca2, rfl, hRd, f0, f1, f2, f3, hb2⟩; clear hb1 hq ho1) | (go_at_call 76; refine (k1 _ _ (by first | with_reducible rfl | omega | (simp only [IntKind.wrap_i64]; omega)) (Below.refl _ _).drew).mono ?_; rintro e w' ⟨ao1, ca1, rfl, ho1, hb1⟩))
 all_goals go_wp2_with fail
 all_goals exact bodyPost_ret (v := .agg #[.slice ao1 (L (N * 2 ^ s)).length ca1, .slice ao2 (L (De * 2 ^ 0)).length ca2]) (by simp [results, Tryz.results50, go_sem, f0, f1]) rfl ⟨ao1, ca1, ao2, ca2, rfl, (hRd _ _).1, (hRd _ _).2, ((b1.trans (hb2.mono b1.size)).setCell (by simp only; omega) _).setCell (by simp only; omega) _⟩

theorem timesTwo_neg (a b : Option Addr) (c d n m N De s : Nat) (w : World) (hl : (L N).length = n) (hm : (L De).length = m) (hn : n ≤ 1048576) (hn2 : m ≤ 1048576) (hs : s ≤ 100000) (ra : Rd w a (L N)) (rb : Rd w b (L De)) :
 Calls Tryz.prog 50 #[.agg #[.slice a n c, .slice b m d], .int .i64 (-(s : Int))] w fun e w' => RR w w' e (N * 2 ^ 0) (De * 2 ^ s) := by
 have hz : max (-(s : Int)) 0 = (0 : Int) := by omega
 have hzw : max (IntKind.i64.wrap (-(-(s : Int)))) 0 = (s : Int) := by rw [IntKind.wrap_i64]; omega
 go_enter Tryz.func50, Tryz.ntmps50
 go_wp2_with fail
 have b1 : Below w.heap.size w ((w.alloc (.cells #[.slice a n c, .slice b m d] 99)).alloc (.cells #[.slice none 0 0, .slice none 0 0] 99)) := ((Below.refl _ _).alloc (Nat.le_refl _) _).alloc (by simp) _
 generalize hw1 : ((w.alloc (.cells #[.slice a n c, .slice b m d] 99)).alloc (.cells #[.slice none 0 0, .slice none 0 0] 99)) = w1 at *
 have c0 : w1.cell? ⟨w.heap.size, 0, none⟩ = some (.slice a n c) := by rw [← hw1]; simp [go_sem]
 have c1 : w1.cell? ⟨w.heap.size, 1, none⟩ = some (.slice b m d) := by rw [← hw1]; simp [go_sem]
 have r0 : w1.cell? ⟨w.heap.size + 1, 0, none⟩ = some (.slice none 0 0) := by rw [← hw1]; simp [go_sem]
 have r1 : w1.cell? ⟨w.heap.size + 1, 1, none⟩ = some (.slice none 0 0) := by rw [← hw1]; simp [go_sem]
 have z0 : w1.frozen? ⟨w.heap.size + 1, 0, none⟩ = false := by rw [← hw1]; simp [go_sem]
 have z1 : w1.frozen? ⟨w.heap.size + 1, 1, none⟩ = false := by rw [← hw1]; simp [go_sem]
 have n1 : w.heap.size + 2 ≤ w1.heap.size := by rw [← hw1]; simp
 clear hw1
 have k1 : ∀ v (z : Int), z = (0 : Int) → Below w1.heap.size w1 v → Calls Tryz.prog 76 #[.slice a n c, .int .i64 z] v fun e v' => ∃ a1 c1, e = .returned (.slice a1 (L (N * 2 ^ 0)).length c1) ∧ v'.ownsRow w1.heap.size 23 1 (.slice a1 (L (N * 2 ^ 0)).length c1) (L (N * 2 ^ 0)).length (U (L (N * 2 ^ 0))) ∧ Below w1.heap.size w1 v' := fun v z hz hv => hz ▸ (shiftLeft_any a n c 0 N v hl hn (by omega) ((ra.below b1).below hv)).mono fun e v' ⟨a1, c1, he, ho, hb⟩ => ⟨a1, c1, he, own_base ho hv.size, keepC1 hv hb⟩
 have k2 : ∀ v (z : Int) a1 c1, z = (s : Int) → Below w1.heap.size w1 v → v.ownsRow w1.heap.size 23 1 (.slice a1 (L (N * 2 ^ 0)).length c1) (L (N * 2 ^ 0)).length (U (L (N * 2 ^ 0))) → Calls Tryz.prog 76 #[.slice b m d, .int .i64 z] v fun e v' => ∃ a2 c2, e = .returned (.slice a2 (L (De * 2 ^ s)).length c2) ∧ (∀ x y, Rd ((v'.setCell ⟨w.heap.size + 1, 0, none⟩ x).setCell ⟨w.heap.size + 1, 1, none⟩ y) a1 (L (N * 2 ^ 0)) ∧ Rd ((v'.setCell ⟨w.heap.size + 1, 0, none⟩ x).setCell ⟨w.heap.size + 1, 1, none⟩ y) a2 (L (De * 2 ^ s))) ∧ v'.cell? ⟨w.heap.size + 1, 0, none⟩ = some (.slice none 0 0) ∧ v'.cell? ⟨w.heap.size + 1, 1, none⟩ = some (.slice none 0 0) ∧ v'.frozen? ⟨w.heap.size + 1, 0, none⟩ = false ∧ v'.frozen? ⟨w.heap.size + 1, 1, none⟩ = false ∧ Below w1.heap.size w1 v' := fun v z a1 c1 hz hv ho1 => hz ▸ (shiftLeft_any b m d s De v hm hn2 (by omega) ((rb.below b1).below hv)).mono fun e v' ⟨a2, c2, he, ho, hb⟩ => ⟨a2, c2, he, fun x y => ⟨own_two (own_below ho1 hb) (by omega) x y, own_two ho (by have := hv.size; omega) x y⟩, ((keepC1 hv hb).cell (by simp only; omega)).trans r0, ((keepC1 hv hb).cell (by simp only; omega)).trans r1, ((keepC1 hv hb).frozen (by simp only; omega)).trans z0, ((keepC1 hv hb).frozen (by simp only; omega)).trans z1, keepC1 hv hb⟩
 have D1 : ∀ v, Below w1.heap.size w1 v → (fun v => v.cell? ⟨w.heap.size, 0, none⟩ = some (.slice a n c) ∧ v.cell? ⟨w.heap.size, 1, none⟩ = some (.slice b m d)) v := fun v hv => ⟨(hv.cell (by simp only; omega)).trans c0, (hv.cell (by simp only; omega)).trans c1⟩
 have D2 : ∀ v x y, Below w1.heap.size w1 v → (fun v => v.cell? ⟨w.heap.size, 0, none⟩ = some (.slice a n c) ∧ v.cell? ⟨w.heap.size, 1, none⟩ = some (.slice b m d)) ((v.setCell ⟨w.heap.size + 1, 0, none⟩ x).setCell ⟨w.heap.size + 1, 1, none⟩ y) := fun v x y hv => ⟨((far2' v x y (by omega)).trans (hv.cell (by simp only; omega))).trans c0, ((far2' v x y (by omega)).trans (hv.cell (by simp only; omega))).trans c1⟩
 clear c0 c1 r0 r1 z0 z1 ra rb hl hm
 go_region_held3 (fun v => v.cell? ⟨w.heap.size, 0, none⟩ = some (.slice a n c) ∧ v.cell? ⟨w.heap.size, 1, none⟩ = some (.slice b m d)) (first | exact D1 _ (by assumption) | exact D1 _ ((Below.refl _ _).drew) | exact D2 _ _ _ (by assumption))
  (first | (have hq := hb1; go_at_call 76; refine (k2 _ _ _ _ (by first | with_reducible rfl | omega | (simp only [IntKind.wrap_i64]; omega)) hq ho1).mono ?_; rintro e w' ⟨ao2, ca2, rfl, hRd, f0, f1, f2, f3, hb2⟩; clear hb1 hq ho1) | (go_at_call 76; refine (k1 _ _ (by first | with_reducible rfl | omega | (simp only [IntKind.wrap_i64]; omega)) (Below.refl _ _).drew).mono ?_; rintro e w' ⟨ao1, ca1, rfl, ho1, hb1⟩))
 all_goals go_wp2_with fail
 all_goals exact bodyPost_ret (v := .agg #[.slice ao1 (L (N * 2 ^ 0)).length ca1, .slice ao2 (L (De * 2 ^ s)).length ca2]) (by simp [results, Tryz.results50, go_sem, f0, f1]) rfl ⟨ao1, ca1, ao2, ca2, rfl, (hRd _ _).1, (hRd _ _).2, ((b1.trans (hb2.mono b1.size)).setCell (by simp only; omega) _).setCell (by simp only; omega) _⟩

theorem cmpI_le {x y : Nat} : (cmpI (x : Int) (y : Int) ≤ 0) = (x ≤ y) := by
 unfold cmpI
 by_cases h : (x : Int) < y
 · rw [if_pos h]; simp; omega
 · rw [if_neg h]
   by_cases h2 : (y : Int) < x
   · rw [if_pos h2]; simp; omega
   · rw [if_neg h2]; simp; omega

theorem len_shift (N p : Nat) (hn : (L N).length ≤ 10000) (hp : p ≤ 100000) : (L (N * 2 ^ p)).length ≤ 4194304 := by
 have := len_shiftK N p 10000 1563 hn (by omega)
 omega

theorem clo_pos (g : Nat) (a b : Option Addr) (c d n m N De s : Nat) (w : World) (hl : (L N).length = n) (hm : (L De).length = m) (hn : n ≤ 10000) (hn2 : m ≤ 10000) (hs : s ≤ 100000) (ra : Rd w a (L N)) (rb : Rd w b (L De))
 (g0 : w.cell? ⟨g, 0, none⟩ = some (.slice a n c)) (g1 : w.cell? ⟨g, 1, none⟩ = some (.slice b m d)) :
 Calls Tryz.prog 118 #[.int .i64 (s : Int), .pointer (some ⟨g, 0, none⟩)] w fun e w' => e = .returned (.bool (decide (De * 2 ^ s ≤ N * 2 ^ 0))) ∧ Below w.heap.size w w' := by
 have k1 := timesTwo_neg a b c d n m N De s w hl hm (by omega) (by omega) hs ra rb
 have l1 : (L (N * 2 ^ 0)).length ≤ 4194304 := len_shift N 0 (by omega) (by omega)
 have l2 : (L (De * 2 ^ s)).length ≤ 4194304 := len_shift De s (by omega) (by omega)
 obtain ⟨N1, hN1⟩ : ∃ N1, N1 = N * 2 ^ 0 := ⟨_, rfl⟩
 obtain ⟨D1, hD1⟩ : ∃ D1, D1 = De * 2 ^ s := ⟨_, rfl⟩
 rw [← hN1, ← hD1] at k1
 rw [← hN1] at l1
 rw [← hD1] at l2
 rw [← hN1, ← hD1]
 clear hN1 hD1
 have hneg : IntKind.i64.wrap (-(s : Int)) = -(s : Int) := by rw [IntKind.wrap_i64]; omega
 go_enter Tryz.func118, Tryz.ntmps118
 go_wp2_with fail
 refine k1.mono ?_
 rintro e v1 ⟨a1, c1, a2, c2, rfl, r1, r2, hb1⟩
 obtain ⟨t0, t1, y0, y1⟩ := two_new v1 99 (.slice a1 (L N1).length c1) (.slice a2 (L D1).length c2)
 have bn : Below v1.heap.size v1 (v1.alloc (.cells #[.slice a1 (L N1).length c1, .slice a2 (L D1).length c2] 99)) := (Below.refl _ _).alloc (Nat.le_refl _) _
 go_wp2_with fail
 refine (compare_any a2 a1 _ _ c2 c1 D1 N1 _ rfl rfl l2 l1 (r2.below bn) (r1.below bn)).mono ?_
 rintro e v2 ⟨rfl, q, rfl⟩
 have hcm := cmpI_le (x := D1) (y := N1)
 go_wp2_with fail
 go_ret
 exact ⟨rfl, below_drewN (keepC1 hb1 bn) q⟩

theorem clo_neg (g : Nat) (a b : Option Addr) (c d n m N De s : Nat) (w : World) (hl : (L N).length = n) (hm : (L De).length = m) (hn : n ≤ 10000) (hn2 : m ≤ 10000) (hs : s ≤ 100000) (ra : Rd w a (L N)) (rb : Rd w b (L De))
 (g0 : w.cell? ⟨g, 0, none⟩ = some (.slice a n c)) (g1 : w.cell? ⟨g, 1, none⟩ = some (.slice b m d)) :
 Calls Tryz.prog 118 #[.int .i64 (-(s : Int)), .pointer (some ⟨g, 0, none⟩)] w fun e w' => e = .returned (.bool (decide (De * 2 ^ 0 ≤ N * 2 ^ s))) ∧ Below w.heap.size w w' := by
 have k1 := timesTwo_pos a b c d n m N De s w hl hm (by omega) (by omega) hs ra rb
 have l1 : (L (N * 2 ^ s)).length ≤ 4194304 := len_shift N s (by omega) (by omega)
 have l2 : (L (De * 2 ^ 0)).length ≤ 4194304 := len_shift De 0 (by omega) (by omega)
 obtain ⟨N1, hN1⟩ : ∃ N1, N1 = N * 2 ^ s := ⟨_, rfl⟩
 obtain ⟨D1, hD1⟩ : ∃ D1, D1 = De * 2 ^ 0 := ⟨_, rfl⟩
 rw [← hN1, ← hD1] at k1
 rw [← hN1] at l1
 rw [← hD1] at l2
 rw [← hN1, ← hD1]
 clear hN1 hD1
 have hneg : IntKind.i64.wrap (-(-(s : Int))) = -(-(s : Int)) := by rw [IntKind.wrap_i64]; omega
 go_enter Tryz.func118, Tryz.ntmps118
 go_wp2_with fail
 refine k1.mono ?_
 rintro e v1 ⟨a1, c1, a2, c2, rfl, r1, r2, hb1⟩
 obtain ⟨t0, t1, y0, y1⟩ := two_new v1 99 (.slice a1 (L N1).length c1) (.slice a2 (L D1).length c2)
 have bn : Below v1.heap.size v1 (v1.alloc (.cells #[.slice a1 (L N1).length c1, .slice a2 (L D1).length c2] 99)) := (Below.refl _ _).alloc (Nat.le_refl _) _
 go_wp2_with fail
 refine (compare_any a2 a1 _ _ c2 c1 D1 N1 _ rfl rfl l2 l1 (r2.below bn) (r1.below bn)).mono ?_
 rintro e v2 ⟨rfl, q, rfl⟩
 have hcm := cmpI_le (x := D1) (y := N1)
 go_wp2_with fail
 go_ret
 exact ⟨rfl, below_drewN (keepC1 hb1 bn) q⟩

theorem halve {x y : Int} (h : x < y) : ∃ m : Int, m = y - (y - x) / 2 ∧ x < m ∧ m ≤ y := ⟨_, rfl, by omega, by omega⟩

theorem greatest_any (lo hi : Int) (P : Int → Bool) (g : Value) (W : World) (h1 : -1000000 ≤ lo) (h2 : lo ≤ hi) (h3 : hi ≤ 1000000)
 (hk : ∀ (x : Int) (v : World), lo ≤ x → x ≤ hi → Below W.heap.size W v → Calls Tryz.prog 118 #[.int .i64 x, g] v fun e v' => e = .returned (.bool (P x)) ∧ Below v.heap.size v v') :
 Calls Tryz.prog 117 #[.int .i64 lo, .int .i64 hi, .func (.func 118) #[] #[g]] W fun e w' => ∃ r, e = .returned (.int .i64 r) ∧ lo ≤ r ∧ r ≤ hi ∧ (lo < r → P r = true) ∧ (r < hi → P (r + 1) = false) ∧ Below W.heap.size W w' := by
 go_enter Tryz.func117, Tryz.ntmps117
 go_wp2_with fail
 go_loopw [0, 1] (fun l h wr => ∃ x y : Int, l = .int .i64 x ∧ h = .int .i64 y ∧ lo ≤ x ∧ x ≤ y ∧ y ≤ hi ∧ Hid (lo < x → P x = true) ∧ Hid (y < hi → P (y + 1) = false) ∧ Below W.heap.size W wr) (fun l h _ => (intOf h - intOf l).toNat)
 case atStart =>
  exact ⟨lo, hi, rfl, rfl, by omega, by omega, by omega, hid (fun h => by omega), hid (fun h => by omega), Below.refl _ _⟩
 case round =>
  obtain ⟨x, y, rfl, rfl, hx, hxy, hy, HX, HY, hb⟩ := hrel
  by_cases hlt : x < y
  · obtain ⟨m, hm, hm1, hm2⟩ := halve hlt
    have hk1 := hk m
    rw [hm] at hm1 hm2 hk1
    clear hm
    go_wp2_with fail
    refine (hk1 _ (by omega) (by omega) hb).mono ?_
    rintro e w2 ⟨rfl, hb2⟩
    have hb3 := keepC1 hb hb2
    cases hP : P (y - (y - x) / 2)
    · go_wp2_with fail
      go_roundw
      case rel =>
       have R : ∃ x1 y1 : Int, Value.int .i64 x = .int .i64 x1 ∧ Value.int .i64 ((y - (y - x) / 2) - 1) = .int .i64 y1 ∧ lo ≤ x1 ∧ x1 ≤ y1 ∧ y1 ≤ hi ∧ Hid (lo < x1 → P x1 = true) ∧ Hid (y1 < hi → P (y1 + 1) = false) ∧ Below W.heap.size W w2 :=
        ⟨x, (y - (y - x) / 2) - 1, rfl, rfl, by omega, by omega, by omega, HX, hid (fun _ => by rw [show (y - (y - x) / 2) - 1 + 1 = (y - (y - x) / 2) by omega]; exact hP), hb3⟩
       first | exact R | ((repeat apply Exists.intro); exact ⟨R, rfl⟩)
      case measure => simp [intOf]; omega
    · go_wp2_with fail
      go_roundw
      case rel =>
       have R : ∃ x1 y1 : Int, Value.int .i64 (y - (y - x) / 2) = .int .i64 x1 ∧ Value.int .i64 y = .int .i64 y1 ∧ lo ≤ x1 ∧ x1 ≤ y1 ∧ y1 ≤ hi ∧ Hid (lo < x1 → P x1 = true) ∧ Hid (y1 < hi → P (y1 + 1) = false) ∧ Below W.heap.size W w2 :=
        ⟨(y - (y - x) / 2), y, rfl, rfl, by omega, by omega, by omega, hid (fun _ => hP), HY, hb3⟩
       first | exact R | ((repeat apply Exists.intro); exact ⟨R, rfl⟩)
      case measure => simp [intOf]; omega
  · go_wp2_with fail
    go_ret
    have e1 : x = y := by omega
    subst e1
    exact ⟨x, rfl, hx, hy, HX.out, HY.out, hb⟩

def fits (N De : Nat) (x : Int) : Bool := decide (De * 2 ^ x.toNat ≤ N * 2 ^ (-x).toNat)

theorem fits_pos (N De s : Nat) : fits N De (s : Int) = decide (De * 2 ^ s ≤ N * 2 ^ 0) := by
 unfold fits
 rw [show (-(s : Int)).toNat = 0 by omega, Int.toNat_natCast]

theorem fits_neg (N De s : Nat) : fits N De (-(s : Int)) = decide (De * 2 ^ 0 ≤ N * 2 ^ s) := by
 unfold fits
 rw [show (-(s : Int)).toNat = 0 by omega, show (- -(s : Int)).toNat = s by omega]

theorem pow8 (m : Nat) : 2 ^ (3 * m) ≤ 10 ^ m := by
 rw [Nat.pow_mul]; exact Nat.pow_le_pow_left (by omega) m

theorem pow16 (m : Nat) : 10 ^ m ≤ 2 ^ (4 * m) := by
 rw [Nat.pow_mul]; exact Nat.pow_le_pow_left (by omega) m

theorem pow8' (m : Nat) (h : 0 < m) : 2 ^ (3 * m) < 10 ^ m := by
 rw [Nat.pow_mul]; exact Nat.pow_lt_pow_left (by omega) (by omega)

theorem two_ne_ten (s m : Nat) (h : 0 < m) : 10 ^ m ≠ 2 ^ s := by
 intro e
 have h5 : 5 ∣ 10 ^ m := Nat.dvd_trans (by decide) (Nat.pow_dvd_pow 10 h)
 rw [e] at h5
 have : ∀ s, ¬ 5 ∣ 2 ^ s := by
  intro s
  induction s with
  | zero => decide
  | succ s ih =>
    intro hh
    rw [Nat.pow_succ] at hh
    exact ih (by omega)
 exact this s h5

theorem bits_pos (m : Nat) (r : Int) (h1 : 3 * (m : Int) ≤ r) (h2 : r ≤ 4 * (m : Int)) (h3 : 3 * (m : Int) < r → fits (10 ^ m) 1 r = true) (h4 : r < 4 * (m : Int) → fits (10 ^ m) 1 (r + 1) = false) : r = (blen (10 ^ m) : Int) - 1 := by
 obtain ⟨s, rfl⟩ : ∃ s : Nat, r = s := ⟨r.toNat, by omega⟩
 rw [fits_pos] at h3
 rw [show (s : Int) + 1 = ((s + 1 : Nat) : Int) by omega, fits_pos] at h4
 have a1 : 2 ^ s ≤ 10 ^ m := by
  rcases Nat.lt_or_ge (3 * m) s with h | h
  · have := of_decide_eq_true (h3 (by omega)); omega
  · have e : s = 3 * m := by omega
    rw [e]; exact pow8 m
 have a2 : 10 ^ m < 2 ^ (s + 1) := by
  rcases Nat.lt_or_ge s (4 * m) with h | h
  · have := of_decide_eq_false (h4 (by omega)); omega
  · have e : s = 4 * m := by omega
    rw [e, Nat.pow_succ]
    have := pow16 m
    have := Nat.pow_pos (n := 4 * m) (show 0 < 2 by omega)
    omega
 have := blen_unique (10 ^ m) (s + 1) (by simpa using a1) a2 (by omega)
 omega

theorem bits_neg (m : Nat) (hm : 0 < m) (r : Int) (h1 : -(4 * (m : Int)) ≤ r) (h2 : r ≤ -(3 * (m : Int))) (h3 : -(4 * (m : Int)) < r → fits 1 (10 ^ m) r = true) (h4 : r < -(3 * (m : Int)) → fits 1 (10 ^ m) (r + 1) = false) : r = -(blen (10 ^ m) : Int) := by
 obtain ⟨s, rfl⟩ : ∃ s : Nat, r = -(s : Int) := ⟨(-r).toNat, by omega⟩
 rw [fits_neg] at h3
 have a1 : 10 ^ m ≤ 2 ^ s := by
  rcases Nat.lt_or_ge s (4 * m) with h | h
  · have := of_decide_eq_true (h3 (by omega)); omega
  · have e : s = 4 * m := by omega
    rw [e]; exact pow16 m
 have hs : 3 * m < s := by
  rcases Nat.lt_or_ge (3 * m) s with h | h
  · exact h
  · have e : s = 3 * m := by omega
    have := pow8' m hm
    rw [e] at a1
    omega
 have a2 : 2 ^ (s - 1) < 10 ^ m := by
  rw [show -(s : Int) + 1 = -((s - 1 : Nat) : Int) by omega, fits_neg] at h4
  have := of_decide_eq_false (h4 (by omega)); omega
 have a3 := two_ne_ten s m hm
 have := blen_unique (10 ^ m) s (by omega) (by omega) (by omega)
 omega

theorem len_ten (m : Nat) (h : m ≤ 5200) : (L (10 ^ m)).length ≤ 1201 := L_pow_len 10 m (ten_ok m (by omega))

theorem len_one : (L 1).length ≤ 1201 := by rw [L_unit]; simp

theorem highest_pos (a b : Option Addr) (c d n m2 m : Nat) (w : World) (hm : m ≤ 5200) (hl : (L (10 ^ m)).length = n) (hm2 : (L (1)).length = m2) (ra : Rd w a (L (10 ^ m))) (rb : Rd w b (L (1))) :
 Calls Tryz.prog 95 #[.int .i64 (m : Int), .agg #[.slice a n c, .slice b m2 d]] w fun e w' => e = .returned (.int .i64 ((blen (10 ^ m) : Int) - 1)) ∧ Below w.heap.size w w' := by
 have hn : n ≤ 1201 := by rw [← hl]; first | exact len_ten m hm | exact len_one
 have hn2 : m2 ≤ 1201 := by rw [← hm2]; first | exact len_ten m hm | exact len_one
 have bn : Below w.heap.size w (w.alloc (.cells #[.slice a n c, .slice b m2 d] 99)) := (Below.refl _ _).alloc (Nat.le_refl _) _
 obtain ⟨t0, t1, y0, y1⟩ := two_new w 99 (.slice a n c) (.slice b m2 d)
 have lw : w.heap.size < (w.alloc (.cells #[.slice a n c, .slice b m2 d] 99)).heap.size := by simp
 have KG := greatest_any (3 * (m : Int)) (4 * (m : Int)) (fits (10 ^ m) (1)) (.pointer (some ⟨w.heap.size, 0, none⟩)) (w.alloc (.cells #[.slice a n c, .slice b m2 d] 99)) (by omega) (by omega) (by omega) (fun x v hx1 hx2 hv => by
  rcases Int.lt_or_le x 0 with h0 | h0
  · obtain ⟨s, rfl⟩ : ∃ s : Nat, x = -(s : Int) := ⟨(-x).toNat, by omega⟩
    rw [fits_neg]
    exact clo_neg w.heap.size a b c d n m2 _ _ s v hl hm2 (by omega) (by omega) (by omega) ((ra.below bn).below hv) ((rb.below bn).below hv) ((hv.cell lw).trans t0) ((hv.cell lw).trans t1)
  · obtain ⟨s, rfl⟩ : ∃ s : Nat, x = (s : Int) := ⟨x.toNat, by omega⟩
    rw [fits_pos]
    exact clo_pos w.heap.size a b c d n m2 _ _ s v hl hm2 (by omega) (by omega) (by omega) ((ra.below bn).below hv) ((rb.below bn).below hv) ((hv.cell lw).trans t0) ((hv.cell lw).trans t1))
 have w3 : IntKind.i64.wrap (3 * (m : Int)) = 3 * (m : Int) := by rw [IntKind.wrap_i64]; omega
 have w4 : IntKind.i64.wrap (4 * (m : Int)) = 4 * (m : Int) := by rw [IntKind.wrap_i64]; omega
 have q1 : min (3 * (m : Int)) (4 * (m : Int)) = 3 * (m : Int) := by omega
 have q2 : max (3 * (m : Int)) (4 * (m : Int)) = 4 * (m : Int) := by omega
 clear hl hm2 ra rb t0 t1 y0 y1
 go_enter Tryz.func95, Tryz.ntmps95
 go_wp2_with fail
 try rw [q1]
 try rw [q2]
 refine KG.mono ?_
 rintro e v1 ⟨r, rfl, i1, i2, i3, i4, hb1⟩
 have E := hid (bits_pos m r i1 i2 i3 i4)
 clear i3 i4
 go_wp2_with fail
 go_ret
 exact ⟨by rw [E.out]; rfl, bn.trans (hb1.mono bn.size)⟩

theorem highest_neg (a b : Option Addr) (c d n m2 m : Nat) (w : World) (h0 : 0 < m) (hm : m ≤ 5200) (hl : (L (1)).length = n) (hm2 : (L (10 ^ m)).length = m2) (ra : Rd w a (L (1))) (rb : Rd w b (L (10 ^ m))) :
 Calls Tryz.prog 95 #[.int .i64 (-(m : Int)), .agg #[.slice a n c, .slice b m2 d]] w fun e w' => e = .returned (.int .i64 (-(blen (10 ^ m) : Int))) ∧ Below w.heap.size w w' := by
 have hn : n ≤ 1201 := by rw [← hl]; first | exact len_ten m hm | exact len_one
 have hn2 : m2 ≤ 1201 := by rw [← hm2]; first | exact len_ten m hm | exact len_one
 have bn : Below w.heap.size w (w.alloc (.cells #[.slice a n c, .slice b m2 d] 99)) := (Below.refl _ _).alloc (Nat.le_refl _) _
 obtain ⟨t0, t1, y0, y1⟩ := two_new w 99 (.slice a n c) (.slice b m2 d)
 have lw : w.heap.size < (w.alloc (.cells #[.slice a n c, .slice b m2 d] 99)).heap.size := by simp
 have KG := greatest_any (-(4 * (m : Int))) (-(3 * (m : Int))) (fits (1) (10 ^ m)) (.pointer (some ⟨w.heap.size, 0, none⟩)) (w.alloc (.cells #[.slice a n c, .slice b m2 d] 99)) (by omega) (by omega) (by omega) (fun x v hx1 hx2 hv => by
  rcases Int.lt_or_le x 0 with h0 | h0
  · obtain ⟨s, rfl⟩ : ∃ s : Nat, x = -(s : Int) := ⟨(-x).toNat, by omega⟩
    rw [fits_neg]
    exact clo_neg w.heap.size a b c d n m2 _ _ s v hl hm2 (by omega) (by omega) (by omega) ((ra.below bn).below hv) ((rb.below bn).below hv) ((hv.cell lw).trans t0) ((hv.cell lw).trans t1)
  · obtain ⟨s, rfl⟩ : ∃ s : Nat, x = (s : Int) := ⟨x.toNat, by omega⟩
    rw [fits_pos]
    exact clo_pos w.heap.size a b c d n m2 _ _ s v hl hm2 (by omega) (by omega) (by omega) ((ra.below bn).below hv) ((rb.below bn).below hv) ((hv.cell lw).trans t0) ((hv.cell lw).trans t1))
 have w3 : IntKind.i64.wrap (3 * (-(m : Int))) = 3 * (-(m : Int)) := by rw [IntKind.wrap_i64]; omega
 have w4 : IntKind.i64.wrap (4 * (-(m : Int))) = 4 * (-(m : Int)) := by rw [IntKind.wrap_i64]; omega
 have q1 : min (3 * (-(m : Int))) (4 * (-(m : Int))) = -(4 * (m : Int)) := by omega
 have q2 : max (3 * (-(m : Int))) (4 * (-(m : Int))) = -(3 * (m : Int)) := by omega
 clear hl hm2 ra rb t0 t1 y0 y1
 go_enter Tryz.func95, Tryz.ntmps95
 go_wp2_with fail
 try rw [q1]
 try rw [q2]
 refine KG.mono ?_
 rintro e v1 ⟨r, rfl, i1, i2, i3, i4, hb1⟩
 have E := hid (bits_neg m h0 r i1 i2 i3 i4)
 clear i3 i4
 go_wp2_with fail
 go_ret
 exact ⟨by rw [E.out]; rfl, bn.trans (hb1.mono bn.size)⟩

end Go.Proofs.YtjffpclidcloeaaGreatDoor
