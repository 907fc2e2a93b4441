import Derived.Test.YtchfkmompciooaaTna
import Derived.Test.YtchfkmompciooaaW20
import Derived.Test.YtchfkmompciooaaKp
import Derived.Test.YtchfkmompciooaaW16
import Derived.Deep.RegionHeld3
import Derived.Deep.CutBlock
import Derived.Deep.DeepCutAuto
namespace Go.Proofs.Ytchfkmompciooaa
open Go.RowKit
set_option linter.unusedVariables false

set_option maxRecDepth 10000 in
set_option maxHeartbeats 2000000 in
theorem timesTwo_pos (a b : Option Addr) (c d n m N De s : Nat) (w : World) (hl : (L N).length = n) (hm : (L De).length = m) (hn : n ≤ 1048576) (hn2 : m ≤ 1048576) (hs : s ≤ 100000) (ra : Rd w a (L N)) (rb : Rd w b (L De)) :
    Calls Try.prog 54 #[.agg #[.slice a n c, .slice b m d], .int .i64 (s : Int)] w fun e w' => RR w w' e (N * 2 ^ s) (De * 2 ^ 0) := by
  have hz : max (s : Int) 0 = (s : Int) := by omega
  have hzw : max (IntKind.i64.wrap (-(s : Int))) 0 = (0 : Int) := by rw [IntKind.wrap_i64]; omega
  go_enter Try.func54, Try.ntmps54
  go_wp2_with fail
  have b1 : Below w.heap.size w ((w.alloc (.cells #[.slice a n c, .slice b m d] 52)).alloc (.cells #[.slice none 0 0, .slice none 0 0] 52)) := ((Below.refl _ _).alloc (Nat.le_refl _) _).alloc (by simp) _
  generalize hw1 : ((w.alloc (.cells #[.slice a n c, .slice b m d] 52)).alloc (.cells #[.slice none 0 0, .slice none 0 0] 52)) = w1 at *
  have c0 : w1.cell? ⟨w.heap.size, 0, none⟩ = some (.slice a n c) := by rw [← hw1]; simp [go_sem]
  have c1 : w1.cell? ⟨w.heap.size, 1, none⟩ = some (.slice b m d) := by rw [← hw1]; simp [go_sem]
  have r0 : w1.cell? ⟨w.heap.size + 1, 0, none⟩ = some (.slice none 0 0) := by rw [← hw1]; simp [go_sem]
  have r1 : w1.cell? ⟨w.heap.size + 1, 1, none⟩ = some (.slice none 0 0) := by rw [← hw1]; simp [go_sem]
  have z0 : w1.frozen? ⟨w.heap.size + 1, 0, none⟩ = false := by rw [← hw1]; simp [go_sem]
  have z1 : w1.frozen? ⟨w.heap.size + 1, 1, none⟩ = false := by rw [← hw1]; simp [go_sem]
  have n1 : w.heap.size + 2 ≤ w1.heap.size := by rw [← hw1]; simp
  clear hw1
  have k1 : ∀ v (z : Int), z = (s : Int) → Below w1.heap.size w1 v → Calls Try.prog 61 #[.slice a n c, .int .i64 z] v fun e v' => ∃ a1 c1, e = .returned (.slice a1 (L (N * 2 ^ s)).length c1) ∧ v'.ownsRow w1.heap.size 38 1 (.slice a1 (L (N * 2 ^ s)).length c1) (L (N * 2 ^ s)).length (U (L (N * 2 ^ s))) ∧ Below w1.heap.size w1 v' := fun v z hz hv => hz ▸ (shiftLeft_any a n c s N v hl hn (by omega) ((ra.below b1).below hv)).mono fun e v' ⟨a1, c1, he, ho, hb⟩ => ⟨a1, c1, he, own_base ho hv.size, keepC1 hv hb⟩
  have k2 : ∀ v (z : Int) a1 c1, z = (0 : Int) → Below w1.heap.size w1 v → v.ownsRow w1.heap.size 38 1 (.slice a1 (L (N * 2 ^ s)).length c1) (L (N * 2 ^ s)).length (U (L (N * 2 ^ s))) → Calls Try.prog 61 #[.slice b m d, .int .i64 z] v fun e v' => ∃ a2 c2, e = .returned (.slice a2 (L (De * 2 ^ 0)).length c2) ∧ (∀ x y, Rd ((v'.setCell ⟨w.heap.size + 1, 0, none⟩ x).setCell ⟨w.heap.size + 1, 1, none⟩ y) a1 (L (N * 2 ^ s)) ∧ Rd ((v'.setCell ⟨w.heap.size + 1, 0, none⟩ x).setCell ⟨w.heap.size + 1, 1, none⟩ y) a2 (L (De * 2 ^ 0))) ∧ v'.cell? ⟨w.heap.size + 1, 0, none⟩ = some (.slice none 0 0) ∧ v'.cell? ⟨w.heap.size + 1, 1, none⟩ = some (.slice none 0 0) ∧ v'.frozen? ⟨w.heap.size + 1, 0, none⟩ = false ∧ v'.frozen? ⟨w.heap.size + 1, 1, none⟩ = false ∧ Below w1.heap.size w1 v' := fun v z a1 c1 hz hv ho1 => hz ▸ (shiftLeft_any b m d 0 De v hm hn2 (by omega) ((rb.below b1).below hv)).mono fun e v' ⟨a2, c2, he, ho, hb⟩ => ⟨a2, c2, he, fun x y => ⟨own_two (own_below ho1 hb) (by omega) x y, own_two ho (by have := hv.size; omega) x y⟩, ((keepC1 hv hb).cell (by simp only; omega)).trans r0, ((keepC1 hv hb).cell (by simp only; omega)).trans r1, ((keepC1 hv hb).frozen (by simp only; omega)).trans z0, ((keepC1 hv hb).frozen (by simp only; omega)).trans z1, keepC1 hv hb⟩
  have D1 : ∀ v, Below w1.heap.size w1 v → (fun v => v.cell? ⟨w.heap.size, 0, none⟩ = some (.slice a n c) ∧ v.cell? ⟨w.heap.size, 1, none⟩ = some (.slice b m d)) v := fun v hv => ⟨(hv.cell (by simp only; omega)).trans c0, (hv.cell (by simp only; omega)).trans c1⟩
  have D2 : ∀ v x y, Below w1.heap.size w1 v → (fun v => v.cell? ⟨w.heap.size, 0, none⟩ = some (.slice a n c) ∧ v.cell? ⟨w.heap.size, 1, none⟩ = some (.slice b m d)) ((v.setCell ⟨w.heap.size + 1, 0, none⟩ x).setCell ⟨w.heap.size + 1, 1, none⟩ y) := fun v x y hv => ⟨((far2' v x y (by omega)).trans (hv.cell (by simp only; omega))).trans c0, ((far2' v x y (by omega)).trans (hv.cell (by simp only; omega))).trans c1⟩
  clear c0 c1 r0 r1 z0 z1 ra rb hl hm
  go_region_held3 (fun v => v.cell? ⟨w.heap.size, 0, none⟩ = some (.slice a n c) ∧ v.cell? ⟨w.heap.size, 1, none⟩ = some (.slice b m d)) (first | exact D1 _ (by assumption) | exact D1 _ ((Below.refl _ _).drew) | exact D2 _ _ _ (by assumption))
    (first | (have hq := hb1; go_at_call 61; refine (k2 _ _ _ _ (by first | with_reducible rfl | omega | (simp only [IntKind.wrap_i64]; omega)) hq ho1).mono ?_; rintro e w' ⟨ao2, ca2, rfl, hRd, f0, f1, f2, f3, hb2⟩; clear hb1 hq ho1) | (go_at_call 61; refine (k1 _ _ (by first | with_reducible rfl | omega | (simp only [IntKind.wrap_i64]; omega)) (Below.refl _ _).drew).mono ?_; rintro e w' ⟨ao1, ca1, rfl, ho1, hb1⟩))
  all_goals go_wp2_with fail
  all_goals exact bodyPost_ret (v := .agg #[.slice ao1 (L (N * 2 ^ s)).length ca1, .slice ao2 (L (De * 2 ^ 0)).length ca2]) (by simp [results, Try.results54, go_sem, f0, f1]) rfl ⟨ao1, ca1, ao2, ca2, rfl, (hRd _ _).1, (hRd _ _).2, ((b1.trans (hb2.mono b1.size)).setCell (by simp only; omega) _).setCell (by simp only; omega) _⟩

set_option maxRecDepth 10000 in
set_option maxHeartbeats 2000000 in
theorem timesTwo_neg (a b : Option Addr) (c d n m N De s : Nat) (w : World) (hl : (L N).length = n) (hm : (L De).length = m) (hn : n ≤ 1048576) (hn2 : m ≤ 1048576) (hs : s ≤ 100000) (ra : Rd w a (L N)) (rb : Rd w b (L De)) :
    Calls Try.prog 54 #[.agg #[.slice a n c, .slice b m d], .int .i64 (-(s : Int))] w fun e w' => RR w w' e (N * 2 ^ 0) (De * 2 ^ s) := by
  have hz : max (-(s : Int)) 0 = (0 : Int) := by omega
  have hzw : max (IntKind.i64.wrap (-(-(s : Int)))) 0 = (s : Int) := by rw [IntKind.wrap_i64]; omega
  go_enter Try.func54, Try.ntmps54
  go_wp2_with fail
  have b1 : Below w.heap.size w ((w.alloc (.cells #[.slice a n c, .slice b m d] 52)).alloc (.cells #[.slice none 0 0, .slice none 0 0] 52)) := ((Below.refl _ _).alloc (Nat.le_refl _) _).alloc (by simp) _
  generalize hw1 : ((w.alloc (.cells #[.slice a n c, .slice b m d] 52)).alloc (.cells #[.slice none 0 0, .slice none 0 0] 52)) = w1 at *
  have c0 : w1.cell? ⟨w.heap.size, 0, none⟩ = some (.slice a n c) := by rw [← hw1]; simp [go_sem]
  have c1 : w1.cell? ⟨w.heap.size, 1, none⟩ = some (.slice b m d) := by rw [← hw1]; simp [go_sem]
  have r0 : w1.cell? ⟨w.heap.size + 1, 0, none⟩ = some (.slice none 0 0) := by rw [← hw1]; simp [go_sem]
  have r1 : w1.cell? ⟨w.heap.size + 1, 1, none⟩ = some (.slice none 0 0) := by rw [← hw1]; simp [go_sem]
  have z0 : w1.frozen? ⟨w.heap.size + 1, 0, none⟩ = false := by rw [← hw1]; simp [go_sem]
  have z1 : w1.frozen? ⟨w.heap.size + 1, 1, none⟩ = false := by rw [← hw1]; simp [go_sem]
  have n1 : w.heap.size + 2 ≤ w1.heap.size := by rw [← hw1]; simp
  clear hw1
  have k1 : ∀ v (z : Int), z = (0 : Int) → Below w1.heap.size w1 v → Calls Try.prog 61 #[.slice a n c, .int .i64 z] v fun e v' => ∃ a1 c1, e = .returned (.slice a1 (L (N * 2 ^ 0)).length c1) ∧ v'.ownsRow w1.heap.size 38 1 (.slice a1 (L (N * 2 ^ 0)).length c1) (L (N * 2 ^ 0)).length (U (L (N * 2 ^ 0))) ∧ Below w1.heap.size w1 v' := fun v z hz hv => hz ▸ (shiftLeft_any a n c 0 N v hl hn (by omega) ((ra.below b1).below hv)).mono fun e v' ⟨a1, c1, he, ho, hb⟩ => ⟨a1, c1, he, own_base ho hv.size, keepC1 hv hb⟩
  have k2 : ∀ v (z : Int) a1 c1, z = (s : Int) → Below w1.heap.size w1 v → v.ownsRow w1.heap.size 38 1 (.slice a1 (L (N * 2 ^ 0)).length c1) (L (N * 2 ^ 0)).length (U (L (N * 2 ^ 0))) → Calls Try.prog 61 #[.slice b m d, .int .i64 z] v fun e v' => ∃ a2 c2, e = .returned (.slice a2 (L (De * 2 ^ s)).length c2) ∧ (∀ x y, Rd ((v'.setCell ⟨w.heap.size + 1, 0, none⟩ x).setCell ⟨w.heap.size + 1, 1, none⟩ y) a1 (L (N * 2 ^ 0)) ∧ Rd ((v'.setCell ⟨w.heap.size + 1, 0, none⟩ x).setCell ⟨w.heap.size + 1, 1, none⟩ y) a2 (L (De * 2 ^ s))) ∧ v'.cell? ⟨w.heap.size + 1, 0, none⟩ = some (.slice none 0 0) ∧ v'.cell? ⟨w.heap.size + 1, 1, none⟩ = some (.slice none 0 0) ∧ v'.frozen? ⟨w.heap.size + 1, 0, none⟩ = false ∧ v'.frozen? ⟨w.heap.size + 1, 1, none⟩ = false ∧ Below w1.heap.size w1 v' := fun v z a1 c1 hz hv ho1 => hz ▸ (shiftLeft_any b m d s De v hm hn2 (by omega) ((rb.below b1).below hv)).mono fun e v' ⟨a2, c2, he, ho, hb⟩ => ⟨a2, c2, he, fun x y => ⟨own_two (own_below ho1 hb) (by omega) x y, own_two ho (by have := hv.size; omega) x y⟩, ((keepC1 hv hb).cell (by simp only; omega)).trans r0, ((keepC1 hv hb).cell (by simp only; omega)).trans r1, ((keepC1 hv hb).frozen (by simp only; omega)).trans z0, ((keepC1 hv hb).frozen (by simp only; omega)).trans z1, keepC1 hv hb⟩
  have D1 : ∀ v, Below w1.heap.size w1 v → (fun v => v.cell? ⟨w.heap.size, 0, none⟩ = some (.slice a n c) ∧ v.cell? ⟨w.heap.size, 1, none⟩ = some (.slice b m d)) v := fun v hv => ⟨(hv.cell (by simp only; omega)).trans c0, (hv.cell (by simp only; omega)).trans c1⟩
  have D2 : ∀ v x y, Below w1.heap.size w1 v → (fun v => v.cell? ⟨w.heap.size, 0, none⟩ = some (.slice a n c) ∧ v.cell? ⟨w.heap.size, 1, none⟩ = some (.slice b m d)) ((v.setCell ⟨w.heap.size + 1, 0, none⟩ x).setCell ⟨w.heap.size + 1, 1, none⟩ y) := fun v x y hv => ⟨((far2' v x y (by omega)).trans (hv.cell (by simp only; omega))).trans c0, ((far2' v x y (by omega)).trans (hv.cell (by simp only; omega))).trans c1⟩
  clear c0 c1 r0 r1 z0 z1 ra rb hl hm
  go_region_held3 (fun v => v.cell? ⟨w.heap.size, 0, none⟩ = some (.slice a n c) ∧ v.cell? ⟨w.heap.size, 1, none⟩ = some (.slice b m d)) (first | exact D1 _ (by assumption) | exact D1 _ ((Below.refl _ _).drew) | exact D2 _ _ _ (by assumption))
    (first | (have hq := hb1; go_at_call 61; refine (k2 _ _ _ _ (by first | with_reducible rfl | omega | (simp only [IntKind.wrap_i64]; omega)) hq ho1).mono ?_; rintro e w' ⟨ao2, ca2, rfl, hRd, f0, f1, f2, f3, hb2⟩; clear hb1 hq ho1) | (go_at_call 61; refine (k1 _ _ (by first | with_reducible rfl | omega | (simp only [IntKind.wrap_i64]; omega)) (Below.refl _ _).drew).mono ?_; rintro e w' ⟨ao1, ca1, rfl, ho1, hb1⟩))
  all_goals go_wp2_with fail
  all_goals exact bodyPost_ret (v := .agg #[.slice ao1 (L (N * 2 ^ 0)).length ca1, .slice ao2 (L (De * 2 ^ s)).length ca2]) (by simp [results, Try.results54, go_sem, f0, f1]) rfl ⟨ao1, ca1, ao2, ca2, rfl, (hRd _ _).1, (hRd _ _).2, ((b1.trans (hb2.mono b1.size)).setCell (by simp only; omega) _).setCell (by simp only; omega) _⟩

end Go.Proofs.Ytchfkmompciooaa
