import Derived.Test.YtmglhkdgfcbonaaGreatDoorqBX
namespace Go.Proofs.YtmglhkdgfcbonaaGreatDoor

open Go.RowKit

set_option linter.unusedVariables false
set_option maxRecDepth 100000

set_option maxRecDepth 10000 in
set_option maxHeartbeats 2000000 in
theorem timesTwo_pos (a b : Option Addr) (c d n m N De s : Nat) (w : World) (hl : (L N).length = n) (hm : (L De).length = m) (hn : n ≤ 1048576) (hn2 : m ≤ 1048576) (hs : s ≤ 100000) (ra : Rd w a (L N)) (rb : Rd w b (L De)) :
    Calls Tryz.prog 86 #[.agg #[.slice a n c, .slice b m d], .int .i64 (s : Int)] w fun e w' => RR w w' e (N * 2 ^ s) (De * 2 ^ 0) := by
  have hz : max (s : Int) 0 = (s : Int) := by omega
  have hzw : max (IntKind.i64.wrap (-(s : Int))) 0 = (0 : Int) := by rw [IntKind.wrap_i64]; omega
  go_enter Tryz.func86, Tryz.ntmps86
  go_wp2_with fail
  have b1 : Below w.heap.size w ((w.alloc (.cells #[.slice a n c, .slice b m d] 82)).alloc (.cells #[.slice none 0 0, .slice none 0 0] 82)) := ((Below.refl _ _).alloc (Nat.le_refl _) _).alloc (by simp) _
  generalize hw1 : ((w.alloc (.cells #[.slice a n c, .slice b m d] 82)).alloc (.cells #[.slice none 0 0, .slice none 0 0] 82)) = w1 at *
  have c0 : w1.cell? ⟨w.heap.size, 0, none⟩ = some (.slice a n c) := by rw [← hw1]; simp [go_sem]
  have c1 : w1.cell? ⟨w.heap.size, 1, none⟩ = some (.slice b m d) := by rw [← hw1]; simp [go_sem]
  have r0 : w1.cell? ⟨w.heap.size + 1, 0, none⟩ = some (.slice none 0 0) := by rw [← hw1]; simp [go_sem]
  have r1 : w1.cell? ⟨w.heap.size + 1, 1, none⟩ = some (.slice none 0 0) := by rw [← hw1]; simp [go_sem]
  have z0 : w1.frozen? ⟨w.heap.size + 1, 0, none⟩ = false := by rw [← hw1]; simp [go_sem]
  have z1 : w1.frozen? ⟨w.heap.size + 1, 1, none⟩ = false := by rw [← hw1]; simp [go_sem]
  have n1 : w.heap.size + 2 ≤ w1.heap.size := by rw [← hw1]; simp
  clear hw1
  have k1 : ∀ v (z : Int), z = (s : Int) → Below w1.heap.size w1 v → Calls Tryz.prog 91 #[.slice a n c, .int .i64 z] v fun e v' => ∃ a1 c1, e = .returned (.slice a1 (L (N * 2 ^ s)).length c1) ∧ v'.ownsRow w1.heap.size 22 1 (.slice a1 (L (N * 2 ^ s)).length c1) (L (N * 2 ^ s)).length (U (L (N * 2 ^ s))) ∧ Below w1.heap.size w1 v' := fun v z hz hv => hz ▸ (shiftLeft_any a n c s N v hl hn (by omega) ((ra.below b1).below hv)).mono fun e v' ⟨a1, c1, he, ho, hb⟩ => ⟨a1, c1, he, own_base ho hv.size, keepC1 hv hb⟩
  have k2 : ∀ v (z : Int) a1 c1, z = (0 : Int) → Below w1.heap.size w1 v → v.ownsRow w1.heap.size 22 1 (.slice a1 (L (N * 2 ^ s)).length c1) (L (N * 2 ^ s)).length (U (L (N * 2 ^ s))) → Calls Tryz.prog 91 #[.slice b m d, .int .i64 z] v fun e v' => ∃ a2 c2, e = .returned (.slice a2 (L (De * 2 ^ 0)).length c2) ∧ (∀ x y, Rd ((v'.setCell ⟨w.heap.size + 1, 0, none⟩ x).setCell ⟨w.heap.size + 1, 1, none⟩ y) a1 (L (N * 2 ^ s)) ∧ Rd ((v'.setCell ⟨w.heap.size + 1, 0, none⟩ x).setCell ⟨w.heap.size + 1, 1, none⟩ y) a2 (L (De * 2 ^ 0))) ∧ v'.cell? ⟨w.heap.size + 1, 0, none⟩ = some (.slice none 0 0) ∧ v'.cell? ⟨w.heap.size + 1, 1, none⟩ = some (.slice none 0 0) ∧ v'.frozen? ⟨w.heap.size + 1, 0, none⟩ = false ∧ v'.frozen? ⟨w.heap.size + 1, 1, none⟩ = false ∧ Below w1.heap.size w1 v' := fun v z a1 c1 hz hv ho1 => hz ▸ (shiftLeft_any b m d 0 De v hm hn2 (by omega) ((rb.below b1).below hv)).mono fun e v' ⟨a2, c2, he, ho, hb⟩ => ⟨a2, c2, he, fun x y => ⟨own_two (own_below ho1 hb) (by omega) x y, own_two ho (by have := hv.size; omega) x y⟩, ((keepC1 hv hb).cell (by simp only; omega)).trans r0, ((keepC1 hv hb).cell (by simp only; omega)).trans r1, ((keepC1 hv hb).frozen (by simp only; omega)).trans z0, ((keepC1 hv hb).frozen (by simp only; omega)).trans z1, keepC1 hv hb⟩
  have D1 : ∀ v, Below w1.heap.size w1 v → (fun v => v.cell? ⟨w.heap.size, 0, none⟩ = some (.slice a n c) ∧ v.cell? ⟨w.heap.size, 1, none⟩ = some (.slice b m d)) v := fun v hv => ⟨(hv.cell (by simp only; omega)).trans c0, (hv.cell (by simp only; omega)).trans c1⟩
  have D2 : ∀ v x y, Below w1.heap.size w1 v → (fun v => v.cell? ⟨w.heap.size, 0, none⟩ = some (.slice a n c) ∧ v.cell? ⟨w.heap.size, 1, none⟩ = some (.slice b m d)) ((v.setCell ⟨w.heap.size + 1, 0, none⟩ x).setCell ⟨w.heap.size + 1, 1, none⟩ y) := fun v x y hv => ⟨((far2' v x y (by omega)).trans (hv.cell (by simp only; omega))).trans c0, ((far2' v x y (by omega)).trans (hv.cell (by simp only; omega))).trans c1⟩
  clear c0 c1 r0 r1 z0 z1 ra rb hl hm
  go_region_held3 (fun v => v.cell? ⟨w.heap.size, 0, none⟩ = some (.slice a n c) ∧ v.cell? ⟨w.heap.size, 1, none⟩ = some (.slice b m d)) (first | exact D1 _ (by assumption) | exact D1 _ ((Below.refl _ _).drew) | exact D2 _ _ _ (by assumption))
    (first | (have hq := hb1; go_at_call 91; refine (k2 _ _ _ _ (by first | with_reducible rfl | omega | (simp only [IntKind.wrap_i64]; omega)) hq ho1).mono ?_; rintro e w' ⟨ao2, ca2, rfl, hRd, f0, f1, f2, f3, hb2⟩; clear hb1 hq ho1) | (go_at_call 91; refine (k1 _ _ (by first | with_reducible rfl | omega | (simp only [IntKind.wrap_i64]; omega)) (Below.refl _ _).drew).mono ?_; rintro e w' ⟨ao1, ca1, rfl, ho1, hb1⟩))
  all_goals go_wp2_with fail
  all_goals exact bodyPost_ret (v := .agg #[.slice ao1 (L (N * 2 ^ s)).length ca1, .slice ao2 (L (De * 2 ^ 0)).length ca2]) (by simp [results, Tryz.results86, go_sem, f0, f1]) rfl ⟨ao1, ca1, ao2, ca2, rfl, (hRd _ _).1, (hRd _ _).2, ((b1.trans (hb2.mono b1.size)).setCell (by simp only; omega) _).setCell (by simp only; omega) _⟩

set_option maxRecDepth 10000 in
set_option maxHeartbeats 2000000 in
theorem timesTwo_neg (a b : Option Addr) (c d n m N De s : Nat) (w : World) (hl : (L N).length = n) (hm : (L De).length = m) (hn : n ≤ 1048576) (hn2 : m ≤ 1048576) (hs : s ≤ 100000) (ra : Rd w a (L N)) (rb : Rd w b (L De)) :
    Calls Tryz.prog 86 #[.agg #[.slice a n c, .slice b m d], .int .i64 (-(s : Int))] w fun e w' => RR w w' e (N * 2 ^ 0) (De * 2 ^ s) := by
  have hz : max (-(s : Int)) 0 = (0 : Int) := by omega
  have hzw : max (IntKind.i64.wrap (-(-(s : Int)))) 0 = (s : Int) := by rw [IntKind.wrap_i64]; omega
  go_enter Tryz.func86, Tryz.ntmps86
  go_wp2_with fail
  have b1 : Below w.heap.size w ((w.alloc (.cells #[.slice a n c, .slice b m d] 82)).alloc (.cells #[.slice none 0 0, .slice none 0 0] 82)) := ((Below.refl _ _).alloc (Nat.le_refl _) _).alloc (by simp) _
  generalize hw1 : ((w.alloc (.cells #[.slice a n c, .slice b m d] 82)).alloc (.cells #[.slice none 0 0, .slice none 0 0] 82)) = w1 at *
  have c0 : w1.cell? ⟨w.heap.size, 0, none⟩ = some (.slice a n c) := by rw [← hw1]; simp [go_sem]
  have c1 : w1.cell? ⟨w.heap.size, 1, none⟩ = some (.slice b m d) := by rw [← hw1]; simp [go_sem]
  have r0 : w1.cell? ⟨w.heap.size + 1, 0, none⟩ = some (.slice none 0 0) := by rw [← hw1]; simp [go_sem]
  have r1 : w1.cell? ⟨w.heap.size + 1, 1, none⟩ = some (.slice none 0 0) := by rw [← hw1]; simp [go_sem]
  have z0 : w1.frozen? ⟨w.heap.size + 1, 0, none⟩ = false := by rw [← hw1]; simp [go_sem]
  have z1 : w1.frozen? ⟨w.heap.size + 1, 1, none⟩ = false := by rw [← hw1]; simp [go_sem]
  have n1 : w.heap.size + 2 ≤ w1.heap.size := by rw [← hw1]; simp
  clear hw1
  have k1 : ∀ v (z : Int), z = (0 : Int) → Below w1.heap.size w1 v → Calls Tryz.prog 91 #[.slice a n c, .int .i64 z] v fun e v' => ∃ a1 c1, e = .returned (.slice a1 (L (N * 2 ^ 0)).length c1) ∧ v'.ownsRow w1.heap.size 22 1 (.slice a1 (L (N * 2 ^ 0)).length c1) (L (N * 2 ^ 0)).length (U (L (N * 2 ^ 0))) ∧ Below w1.heap.size w1 v' := fun v z hz hv => hz ▸ (shiftLeft_any a n c 0 N v hl hn (by omega) ((ra.below b1).below hv)).mono fun e v' ⟨a1, c1, he, ho, hb⟩ => ⟨a1, c1, he, own_base ho hv.size, keepC1 hv hb⟩
  have k2 : ∀ v (z : Int) a1 c1, z = (s : Int) → Below w1.heap.size w1 v → v.ownsRow w1.heap.size 22 1 (.slice a1 (L (N * 2 ^ 0)).length c1) (L (N * 2 ^ 0)).length (U (L (N * 2 ^ 0))) → Calls Tryz.prog 91 #[.slice b m d, .int .i64 z] v fun e v' => ∃ a2 c2, e = .returned (.slice a2 (L (De * 2 ^ s)).length c2) ∧ (∀ x y, Rd ((v'.setCell ⟨w.heap.size + 1, 0, none⟩ x).setCell ⟨w.heap.size + 1, 1, none⟩ y) a1 (L (N * 2 ^ 0)) ∧ Rd ((v'.setCell ⟨w.heap.size + 1, 0, none⟩ x).setCell ⟨w.heap.size + 1, 1, none⟩ y) a2 (L (De * 2 ^ s))) ∧ v'.cell? ⟨w.heap.size + 1, 0, none⟩ = some (.slice none 0 0) ∧ v'.cell? ⟨w.heap.size + 1, 1, none⟩ = some (.slice none 0 0) ∧ v'.frozen? ⟨w.heap.size + 1, 0, none⟩ = false ∧ v'.frozen? ⟨w.heap.size + 1, 1, none⟩ = false ∧ Below w1.heap.size w1 v' := fun v z a1 c1 hz hv ho1 => hz ▸ (shiftLeft_any b m d s De v hm hn2 (by omega) ((rb.below b1).below hv)).mono fun e v' ⟨a2, c2, he, ho, hb⟩ => ⟨a2, c2, he, fun x y => ⟨own_two (own_below ho1 hb) (by omega) x y, own_two ho (by have := hv.size; omega) x y⟩, ((keepC1 hv hb).cell (by simp only; omega)).trans r0, ((keepC1 hv hb).cell (by simp only; omega)).trans r1, ((keepC1 hv hb).frozen (by simp only; omega)).trans z0, ((keepC1 hv hb).frozen (by simp only; omega)).trans z1, keepC1 hv hb⟩
  have D1 : ∀ v, Below w1.heap.size w1 v → (fun v => v.cell? ⟨w.heap.size, 0, none⟩ = some (.slice a n c) ∧ v.cell? ⟨w.heap.size, 1, none⟩ = some (.slice b m d)) v := fun v hv => ⟨(hv.cell (by simp only; omega)).trans c0, (hv.cell (by simp only; omega)).trans c1⟩
  have D2 : ∀ v x y, Below w1.heap.size w1 v → (fun v => v.cell? ⟨w.heap.size, 0, none⟩ = some (.slice a n c) ∧ v.cell? ⟨w.heap.size, 1, none⟩ = some (.slice b m d)) ((v.setCell ⟨w.heap.size + 1, 0, none⟩ x).setCell ⟨w.heap.size + 1, 1, none⟩ y) := fun v x y hv => ⟨((far2' v x y (by omega)).trans (hv.cell (by simp only; omega))).trans c0, ((far2' v x y (by omega)).trans (hv.cell (by simp only; omega))).trans c1⟩
  clear c0 c1 r0 r1 z0 z1 ra rb hl hm
  go_region_held3 (fun v => v.cell? ⟨w.heap.size, 0, none⟩ = some (.slice a n c) ∧ v.cell? ⟨w.heap.size, 1, none⟩ = some (.slice b m d)) (first | exact D1 _ (by assumption) | exact D1 _ ((Below.refl _ _).drew) | exact D2 _ _ _ (by assumption))
    (first | (have hq := hb1; go_at_call 91; refine (k2 _ _ _ _ (by first | with_reducible rfl | omega | (simp only [IntKind.wrap_i64]; omega)) hq ho1).mono ?_; rintro e w' ⟨ao2, ca2, rfl, hRd, f0, f1, f2, f3, hb2⟩; clear hb1 hq ho1) | (go_at_call 91; refine (k1 _ _ (by first | with_reducible rfl | omega | (simp only [IntKind.wrap_i64]; omega)) (Below.refl _ _).drew).mono ?_; rintro e w' ⟨ao1, ca1, rfl, ho1, hb1⟩))
  all_goals go_wp2_with fail
  all_goals exact bodyPost_ret (v := .agg #[.slice ao1 (L (N * 2 ^ 0)).length ca1, .slice ao2 (L (De * 2 ^ s)).length ca2]) (by simp [results, Tryz.results86, go_sem, f0, f1]) rfl ⟨ao1, ca1, ao2, ca2, rfl, (hRd _ _).1, (hRd _ _).2, ((b1.trans (hb2.mono b1.size)).setCell (by simp only; omega) _).setCell (by simp only; omega) _⟩

end Go.Proofs.YtmglhkdgfcbonaaGreatDoor

namespace Go.Proofs.YtmglhkdgfcbonaaGreatDoor

open Go.RowKit

set_option linter.unusedVariables false
set_option maxRecDepth 100000

theorem cmpI_le {x y : Nat} : (cmpI (x : Int) (y : Int) ≤ 0) = (x ≤ y) := by
  unfold cmpI
  by_cases h : (x : Int) < y
  · rw [if_pos h]; simp; omega
  · rw [if_neg h]
    by_cases h2 : (y : Int) < x
    · rw [if_pos h2]; simp; omega
    · rw [if_neg h2]; simp; omega

theorem halve {x y : Int} (h : x < y) : ∃ m : Int, m = y - (y - x) / 2 ∧ x < m ∧ m ≤ y := ⟨_, rfl, by omega, by omega⟩

end Go.Proofs.YtmglhkdgfcbonaaGreatDoor

namespace Go.Proofs.YtmglhkdgfcbonaaGreatDoor

open Go.RowKit

set_option linter.unusedVariables false
set_option maxRecDepth 100000

theorem ten_len (n P K : Nat) {k : Nat} (hK : 4 * n < 32 * K) (h : P * 10 ^ k = 10 ^ n) : (D P).length ≤ K := by
  have h1 : P ≤ 10 ^ n := by rw [← h]; exact Nat.le_mul_of_pos_right _ (Nat.pow_pos (by omega))
  have h2 := Nat.lt_of_le_of_lt (Nat.le_trans h1 (pow_le_two 10 n)) (Nat.pow_lt_pow_right (by omega) (show blen 10 * n < 32 * K by rw [blen10]; omega))
  refine M.len_of_lt (B := 4294967296) (by omega) _ _ ?_
  rw [show (4294967296 : Nat) = 2 ^ 32 by rfl, ← Nat.pow_mul]
  exact h2

set_option maxHeartbeats 2000000 in
theorem l1Ten_any (n : Nat) (w : World) (hn : n ≤ 19000) :
    Calls Tryz.prog 36 #[.int .i64 (n : Int)] w fun e w' => Ret w w' e (D (10 ^ n)) := by
  go_enter Tryz.func36, Tryz.ntmps36
  go_wp2_with fail
  refine (l1Of_any 1 _ (by omega)).mono ?_
  rintro r w3 ⟨p1, c1, rfl, ho1, hb3⟩
  have hD1 : (D 1).length ≤ 2401 := by have := M.len_of_lt (B := 4294967296) (by omega) 1 1 (by omega); have h2 : (D 1).length ≤ 1 := this; omega
  go_wp2_with fail
  go_loopw [0, 3] (fun i v wr => ∃ (k P : Nat) (pp : Option Addr) (pc : Nat), k ≤ n ∧ i = .int .i64 (k : Int) ∧ Hid (P * 10 ^ k = 10 ^ n) ∧ v = .slice pp (D P).length pc ∧ (D P).length ≤ 2401 ∧ wr.ownsRow w.heap.size 22 1 (.slice pp (D P).length pc) (D P).length (U (D P)) ∧ Below w.heap.size w wr) (fun i _ _ => (intOf i).toNat)
  case atStart => exact ⟨n, 1, p1, c1, by omega, rfl, hid (by simp), rfl, hD1, ho1, hb3⟩
  case round =>
    obtain ⟨k, P, pp, pc, hk, rfl, HP, rfl, hPl, hown, hbl⟩ := hrel
    clear ho1 hb3 hD1
    by_cases hke : 9 ≤ k
    · have hgt : (9 : Int) ≤ (k : Int) := by omega
      obtain ⟨k, rfl⟩ : ∃ k', k = k' + 9 := ⟨k - 9, by omega⟩
      have hHP : P * 1000000000 * 10 ^ k = 10 ^ n := by rw [← HP.out, Nat.pow_add, Nat.mul_assoc, Nat.mul_comm 1000000000]
      have hPl2 : (D (P * 1000000000)).length ≤ 2401 := ten_len n _ 2401 (by omega) hHP
      have HP2 := hid hHP; clear hHP
      go_wp2_with fail
      refine (l1Times_any pp _ pc 1000000000 P _ rfl (by omega) (by omega) (Rd.own hown)).mono ?_
      rintro r w4 ⟨p2, c2, rfl, ho4, hb4⟩
      have hbw4 := hbl.trans (hb4.mono hbl.size)
      have how4 := own_base ho4 hbl.size
      clear ho4 hb4 hown hbl
      go_wp2_with fail
      go_roundw
      case rel =>
        have R : ∃ (k1 P1 : Nat) (pp1 : Option Addr) (pc1 : Nat), k1 ≤ n ∧ Value.int .i64 ((k : Int) + 9 - 9) = .int .i64 (k1 : Int) ∧ Hid (P1 * 10 ^ k1 = 10 ^ n) ∧ Value.slice p2 (D (P * 1000000000)).length c2 = .slice pp1 (D P1).length pc1 ∧ (D P1).length ≤ 2401 ∧ w4.ownsRow w.heap.size 22 1 (.slice pp1 (D P1).length pc1) (D P1).length (U (D P1)) ∧ Below w.heap.size w w4 :=
          ⟨k, P * 1000000000, p2, c2, by omega, by go_num, HP2, rfl, hPl2, how4, hbw4⟩
        first | exact R | ((repeat apply Exists.intro); exact ⟨R, rfl⟩) | (simp only [Int.add_sub_cancel] at R ⊢; exact R)
      case measure => simp [intOf]; omega
    · have hgt : ¬ (9 : Int) ≤ (k : Int) := by omega
      have R0 : ∃ (k1 P1 : Nat) (pp1 : Option Addr) (pc1 : Nat), k1 ≤ n ∧ Value.int .i64 (k : Int) = .int .i64 (k1 : Int) ∧ Hid (P1 * 10 ^ k1 = 10 ^ n) ∧ Value.slice pp (D P).length pc = .slice pp1 (D P1).length pc1 ∧ (D P1).length ≤ 2401 ∧ wr.ownsRow w.heap.size 22 1 (.slice pp1 (D P1).length pc1) (D P1).length (U (D P1)) ∧ Below w.heap.size w wr := ⟨k, P, pp, pc, hk, rfl, HP, rfl, hPl, hown, hbl⟩
      have HR := hid R0
      clear R0 hPl hown hbl HP
      go_wp2_with fail
      go_loopw [0, 3] (fun i v wr => ∃ (k P : Nat) (pp : Option Addr) (pc : Nat), k ≤ n ∧ i = .int .i64 (k : Int) ∧ Hid (P * 10 ^ k = 10 ^ n) ∧ v = .slice pp (D P).length pc ∧ (D P).length ≤ 2401 ∧ wr.ownsRow w.heap.size 22 1 (.slice pp (D P).length pc) (D P).length (U (D P)) ∧ Below w.heap.size w wr) (fun i _ _ => (intOf i).toNat)
      case atStart => exact HR.out
      case round =>
        obtain ⟨k, P, pp, pc, hk, rfl, HP, rfl, hPl, hown, hbl⟩ := hrel
        by_cases hk0 : 1 ≤ k
        · have hgt : (1 : Int) ≤ (k : Int) := by omega
          obtain ⟨k, rfl⟩ : ∃ k', k = k' + 1 := ⟨k - 1, by omega⟩
          have hHP : P * 10 * 10 ^ k = 10 ^ n := by rw [← HP.out, Nat.pow_add, Nat.mul_assoc, Nat.mul_comm 10]
          have hPl2 : (D (P * 10)).length ≤ 2401 := ten_len n _ 2401 (by omega) hHP
          have HP2 := hid hHP; clear hHP
          go_wp2_with fail
          refine (l1Times_any pp _ pc 10 P _ rfl (by omega) (by omega) (Rd.own hown)).mono ?_
          rintro r w4 ⟨p2, c2, rfl, ho4, hb4⟩
          have hbw4 := hbl.trans (hb4.mono hbl.size)
          have how4 := own_base ho4 hbl.size
          clear ho4 hb4 hown hbl
          go_wp2_with fail
          go_roundw
          case rel =>
            have R : ∃ (k1 P1 : Nat) (pp1 : Option Addr) (pc1 : Nat), k1 ≤ n ∧ Value.int .i64 ((k : Int) + 1 - 1) = .int .i64 (k1 : Int) ∧ Hid (P1 * 10 ^ k1 = 10 ^ n) ∧ Value.slice p2 (D (P * 10)).length c2 = .slice pp1 (D P1).length pc1 ∧ (D P1).length ≤ 2401 ∧ w4.ownsRow w.heap.size 22 1 (.slice pp1 (D P1).length pc1) (D P1).length (U (D P1)) ∧ Below w.heap.size w w4 :=
              ⟨k, P * 10, p2, c2, by omega, by go_num, HP2, rfl, hPl2, how4, hbw4⟩
            first | exact R | ((repeat apply Exists.intro); exact ⟨R, rfl⟩) | (simp only [Int.add_sub_cancel] at R ⊢; exact R)
          case measure => simp [intOf]
        · have hgt0 : ¬ (0 : Int) < (k : Int) := by omega
          go_wp2_with fail
          go_ret
          have hk1 : k = 0 := by omega
          subst hk1
          have hE := HP.out
          rw [Nat.pow_zero, Nat.mul_one] at hE
          rw [← hE]
          exact ⟨pp, pc, rfl, hown, hbl⟩

end Go.Proofs.YtmglhkdgfcbonaaGreatDoor

namespace Go.Proofs.YtmglhkdgfcbonaaGreatDoor

open Go.RowKit

set_option linter.unusedVariables false
set_option maxRecDepth 100000

def fits (N De : Nat) (x : Int) : Bool := decide (De * 2 ^ x.toNat ≤ N * 2 ^ (-x).toNat)

end Go.Proofs.YtmglhkdgfcbonaaGreatDoor

