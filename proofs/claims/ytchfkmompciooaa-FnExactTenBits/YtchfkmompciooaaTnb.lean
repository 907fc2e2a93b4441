import Derived.Test.YtchfkmompciooaaTna
import Derived.Test.YtchfkmompciooaaTxt2
namespace Go.Proofs.Ytchfkmompciooaa
open Go.RowKit
set_option linter.unusedVariables false


theorem ten_len (n P K : Nat) {k : Nat} (hK : 4 * n < 32 * K) (h : P * 10 ^ k = 10 ^ n) : (D P).length ≤ K := by
  have h1 : P ≤ 10 ^ n := by rw [← h]; exact Nat.le_mul_of_pos_right _ (Nat.pow_pos (by omega))
  have h2 := Nat.lt_of_le_of_lt (Nat.le_trans h1 (pow_le_two 10 n)) (Nat.pow_lt_pow_right (by omega) (show blen 10 * n < 32 * K by rw [blen10]; omega))
  refine M.len_of_lt (B := 4294967296) (by omega) _ _ ?_
  rw [show (4294967296 : Nat) = 2 ^ 32 by rfl, ← Nat.pow_mul]
  exact h2

set_option maxHeartbeats 2000000 in
theorem l1Ten_any (n : Nat) (w : World) (hn : n ≤ 19000) :
    Calls Try.prog 34 #[.int .i64 (n : Int)] w fun e w' => Ret w w' e (D (10 ^ n)) := by
  go_enter Try.func34, Try.ntmps34
  go_wp2_with fail
  refine (l1Of_any 1 _ (by omega)).mono ?_
  rintro r w3 ⟨p1, c1, rfl, ho1, hb3⟩
  have hD1 : (D 1).length ≤ 2401 := by have := M.len_of_lt (B := 4294967296) (by omega) 1 1 (by omega); have h2 : (D 1).length ≤ 1 := this; omega
  go_wp2_with fail
  go_loopw [0, 3] (fun i v wr => ∃ (k P : Nat) (pp : Option Addr) (pc : Nat), k ≤ n ∧ i = .int .i64 (k : Int) ∧ Hid (P * 10 ^ k = 10 ^ n) ∧ v = .slice pp (D P).length pc ∧ (D P).length ≤ 2401 ∧ wr.ownsRow w.heap.size 38 1 (.slice pp (D P).length pc) (D P).length (U (D P)) ∧ Below w.heap.size w wr) (fun i _ _ => (intOf i).toNat)
  case atStart => exact ⟨n, 1, p1, c1, by omega, rfl, hid (by simp), rfl, hD1, ho1, hb3⟩
  case round =>
    obtain ⟨k, P, pp, pc, hk, rfl, HP, rfl, hPl, hown, hbl⟩ := hrel
    clear ho1 hb3 hD1
    by_cases hke : 9 ≤ k
    · have hgt : (9 : Int) ≤ (k : Int) := by omega
      obtain ⟨k, rfl⟩ : ∃ k', k = k' + 9 := ⟨k - 9, by omega⟩
      have hHP : P * 1000000000 * 10 ^ k = 10 ^ n := by rw [← HP.out, Nat.pow_add, Nat.mul_assoc, Nat.mul_comm 1000000000]
      have hPl2 : (D (P * 1000000000)).length ≤ 2401 := ten_len n _ 2401 (by omega) hHP
      have HP2 := hid hHP; clear hHP
      go_wp2_with fail
      refine (l1Times_any pp _ pc 1000000000 P _ rfl (by omega) (by omega) (Rd.own hown)).mono ?_
      rintro r w4 ⟨p2, c2, rfl, ho4, hb4⟩
      have hbw4 := hbl.trans (hb4.mono hbl.size)
      have how4 := own_base ho4 hbl.size
      clear ho4 hb4 hown hbl
      go_wp2_with fail
      go_roundw
      case rel =>
        have R : ∃ (k1 P1 : Nat) (pp1 : Option Addr) (pc1 : Nat), k1 ≤ n ∧ Value.int .i64 ((k : Int) + 9 - 9) = .int .i64 (k1 : Int) ∧ Hid (P1 * 10 ^ k1 = 10 ^ n) ∧ Value.slice p2 (D (P * 1000000000)).length c2 = .slice pp1 (D P1).length pc1 ∧ (D P1).length ≤ 2401 ∧ w4.ownsRow w.heap.size 38 1 (.slice pp1 (D P1).length pc1) (D P1).length (U (D P1)) ∧ Below w.heap.size w w4 :=
          ⟨k, P * 1000000000, p2, c2, by omega, by go_num, HP2, rfl, hPl2, how4, hbw4⟩
        first | exact R | ((repeat apply Exists.intro); exact ⟨R, rfl⟩) | (simp only [Int.add_sub_cancel] at R ⊢; exact R)
      case measure => simp [intOf]; omega
    · have hgt : ¬ (9 : Int) ≤ (k : Int) := by omega
      have R0 : ∃ (k1 P1 : Nat) (pp1 : Option Addr) (pc1 : Nat), k1 ≤ n ∧ Value.int .i64 (k : Int) = .int .i64 (k1 : Int) ∧ Hid (P1 * 10 ^ k1 = 10 ^ n) ∧ Value.slice pp (D P).length pc = .slice pp1 (D P1).length pc1 ∧ (D P1).length ≤ 2401 ∧ wr.ownsRow w.heap.size 38 1 (.slice pp1 (D P1).length pc1) (D P1).length (U (D P1)) ∧ Below w.heap.size w wr := ⟨k, P, pp, pc, hk, rfl, HP, rfl, hPl, hown, hbl⟩
      have HR := hid R0
      clear R0 hPl hown hbl HP
      go_wp2_with fail
      go_loopw [0, 3] (fun i v wr => ∃ (k P : Nat) (pp : Option Addr) (pc : Nat), k ≤ n ∧ i = .int .i64 (k : Int) ∧ Hid (P * 10 ^ k = 10 ^ n) ∧ v = .slice pp (D P).length pc ∧ (D P).length ≤ 2401 ∧ wr.ownsRow w.heap.size 38 1 (.slice pp (D P).length pc) (D P).length (U (D P)) ∧ Below w.heap.size w wr) (fun i _ _ => (intOf i).toNat)
      case atStart => exact HR.out
      case round =>
        obtain ⟨k, P, pp, pc, hk, rfl, HP, rfl, hPl, hown, hbl⟩ := hrel
        by_cases hk0 : 1 ≤ k
        · have hgt : (1 : Int) ≤ (k : Int) := by omega
          obtain ⟨k, rfl⟩ : ∃ k', k = k' + 1 := ⟨k - 1, by omega⟩
          have hHP : P * 10 * 10 ^ k = 10 ^ n := by rw [← HP.out, Nat.pow_add, Nat.mul_assoc, Nat.mul_comm 10]
          have hPl2 : (D (P * 10)).length ≤ 2401 := ten_len n _ 2401 (by omega) hHP
          have HP2 := hid hHP; clear hHP
          go_wp2_with fail
          refine (l1Times_any pp _ pc 10 P _ rfl (by omega) (by omega) (Rd.own hown)).mono ?_
          rintro r w4 ⟨p2, c2, rfl, ho4, hb4⟩
          have hbw4 := hbl.trans (hb4.mono hbl.size)
          have how4 := own_base ho4 hbl.size
          clear ho4 hb4 hown hbl
          go_wp2_with fail
          go_roundw
          case rel =>
            have R : ∃ (k1 P1 : Nat) (pp1 : Option Addr) (pc1 : Nat), k1 ≤ n ∧ Value.int .i64 ((k : Int) + 1 - 1) = .int .i64 (k1 : Int) ∧ Hid (P1 * 10 ^ k1 = 10 ^ n) ∧ Value.slice p2 (D (P * 10)).length c2 = .slice pp1 (D P1).length pc1 ∧ (D P1).length ≤ 2401 ∧ w4.ownsRow w.heap.size 38 1 (.slice pp1 (D P1).length pc1) (D P1).length (U (D P1)) ∧ Below w.heap.size w w4 :=
              ⟨k, P * 10, p2, c2, by omega, by go_num, HP2, rfl, hPl2, how4, hbw4⟩
            first | exact R | ((repeat apply Exists.intro); exact ⟨R, rfl⟩) | (simp only [Int.add_sub_cancel] at R ⊢; exact R)
          case measure => simp [intOf]
        · have hgt0 : ¬ (0 : Int) < (k : Int) := by omega
          go_wp2_with fail
          go_ret
          have hk1 : k = 0 := by omega
          subst hk1
          have hE := HP.out
          rw [Nat.pow_zero, Nat.mul_one] at hE
          rw [← hE]
          exact ⟨pp, pc, rfl, hown, hbl⟩

end Go.Proofs.Ytchfkmompciooaa
