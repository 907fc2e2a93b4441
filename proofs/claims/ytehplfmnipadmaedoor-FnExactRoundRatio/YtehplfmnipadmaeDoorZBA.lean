import Derived.Test.YtehplfmnipadmaeDoorRows
import Derived.Test.YtehplfmnipadmaeDoorBcl
import Derived.WalkKit
import Derived.WalkSpells
import Derived.WalkLawsBesides
import Derived.Test.YtehplfmnipadmaeDoorBitM
import Derived.Test.YtehplfmnipadmaeDoorLenA
import Derived.Test.YtehplfmnipadmaeDoorW4
import Derived.Test.YtehplfmnipadmaeDoorCom
import Derived.Test.YtehplfmnipadmaeDoorShM
import Derived.Test.YtehplfmnipadmaeDoorW16
import Derived.Test.YtehplfmnipadmaeDoorMulM
import Derived.Test.YtehplfmnipadmaeDoorW8a
import Derived.Test.YtehplfmnipadmaeDoorSubM
import Derived.Deep.CutBlock
import Derived.Deep.DeepCutAuto
import Derived.Lib.Mul64
import Derived.Shelf.Bits.Mul64
import Derived.OwnWalk
import Derived.Test.YtehplfmnipadmaeDoorW6
import Derived.Test.YtehplfmnipadmaeDoorSeg
import Derived.Test.YtehplfmnipadmaeDoorW8b
import Derived.WalkMore
import Derived.Test.YtehplfmnipadmaeDoorW19s
import Derived.Test.YtehplfmnipadmaeDoorW15a
import Derived.Test.YtehplfmnipadmaeDoorW17
import Derived.Test.YtehplfmnipadmaeDoorWdM
import Derived.Laws.CopyOwn
namespace Go.Proofs.YtehplfmnipadmaeDoor
open Go.RowKit
set_option linter.unusedVariables false
set_option maxRecDepth 100000

def Cls (v : World) (g : Nat) (xs : Array Value) (t : TypeId) : Prop := v.heap[g]? = some (.cells xs t (0, 0))

theorem Cls.lt {v : World} {g : Nat} {xs : Array Value} {t : TypeId} (h : Cls v g xs t) : g < v.heap.size := (Array.getElem?_eq_some_iff.1 h).1
theorem Cls.new (v : World) (xs : Array Value) (t : TypeId) : Cls (v.alloc (.cells xs t)) v.heap.size xs t := heap_alloc_new v _
theorem Cls.cell {v : World} {g : Nat} {xs : Array Value} {t : TypeId} (h : Cls v g xs t) (i : Nat) {x : Value} (hx : xs[i]? = some x) : v.cell? ⟨g, i, none⟩ = some x := by
  rw [cell_of_row v g i _ _ (0, 0) h, hx]
theorem Cls.frozen {v : World} {g : Nat} {xs : Array Value} {t : TypeId} (h : Cls v g xs t) (i : Nat) : v.frozen? ⟨g, i, none⟩ = false := frozen_of_row v g i _ _ h
theorem Cls.below {v v' : World} {g : Nat} {xs : Array Value} {t : TypeId} (h : Cls v g xs t) (hb : Below v.heap.size v v') : Cls v' g xs t := (hb.block g h.lt).trans h
theorem Cls.grown {v v' : World} {g : Nat} {xs : Array Value} {t : TypeId} {row : Option Nat} (h : Cls v g xs t) (hg : v.grownBy v' row) (hr : some g ≠ row) : Cls v' g xs t := (hg.block g h.lt hr).trans h
theorem Cls.set {v : World} {g : Nat} {xs : Array Value} {t : TypeId} (h : Cls v g xs t) (i : Nat) (x : Value) (ys : Array Value) (hy : xs.setIfInBounds i x = ys) : Cls (v.setCell ⟨g, i, none⟩ x) g ys t := by
  subst hy
  unfold Cls
  rw [heap_setCell_same v g i _ _ _ h]
theorem Cls.far {v : World} {g : Nat} {xs : Array Value} {t : TypeId} (h : Cls v g xs t) (a : Addr) (ha : a.block ≠ g) (x : Value) : Cls (v.setCell a x) g xs t := by
  unfold Cls
  rw [Below.heap_setCell _ _ _ _ (fun e => ha e.symm)]; exact h

end Go.Proofs.YtehplfmnipadmaeDoor

namespace Go.Proofs.YtehplfmnipadmaeDoor
open Go.RowKit
set_option linter.unusedVariables false
set_option maxRecDepth 100000

theorem len64_any (x : Nat) (w : World) (h : x < 18446744073709551616) (b : Nat) (hb : b = blen x) :
    Calls Tryd.prog 104 #[.int .u64 (x : Int)] w fun e w' => e = .returned (.int .i64 (b : Int)) ∧ w' = w := by
  have := len64_int (x : Int) w (by omega) (by omega)
  rw [Int.toNat_natCast, bitLen_64 x h, ← hb] at this
  exact this

end Go.Proofs.YtehplfmnipadmaeDoor

namespace Go.Proofs.YtehplfmnipadmaeDoor
open Go.RowKit
set_option linter.unusedVariables false
set_option maxRecDepth 100000

/-- The places of a number of limbs: those of the highest limb and 64 for each other. -/
theorem blen_L (a : Nat) (h : 0 < a) : blen a = 64 * ((L a).length - 1) + blen ((L a).getD ((L a).length - 1) 0) := by
  have h1 := M.dig_le (B := 18446744073709551616) (by omega) a h
  have h2 := M.lt_dig (B := 18446744073709551616) (by omega) a
  have hl : (L a).length ≠ 0 := by unfold L; rw [M.dig_pos (by omega) h]; simp
  obtain ⟨m, hm⟩ : ∃ m, (L a).length = m + 1 := ⟨(L a).length - 1, by omega⟩
  have hm' : (M.dig 18446744073709551616 a).length = m + 1 := hm
  rw [hm'] at h1 h2
  rw [hm, Nat.add_sub_cancel] at *
  have e : (18446744073709551616 : Nat) ^ m = 2 ^ (64 * m) := by rw [show (18446744073709551616 : Nat) = 2 ^ 64 from rfl, ← Nat.pow_mul]
  have hg : (L a).getD m 0 = a / 18446744073709551616 ^ m := by
    have hh : (M.dig 18446744073709551616 a).getD m 0 = a / 18446744073709551616 ^ m % 18446744073709551616 := by
      have : ∀ k n, (M.dig 18446744073709551616 n).getD k 0 = n / 18446744073709551616 ^ k % 18446744073709551616 := by
        intro k
        induction k with
        | zero =>
          intro n
          by_cases hn : 0 < n
          · rw [M.dig_pos (by omega) hn]; simp
          · have : n = 0 := by omega
            subst this; simp [M.dig_zero]
        | succ k ih =>
          intro n
          by_cases hn : 0 < n
          · rw [M.dig_pos (by omega) hn, List.getD_cons_succ, ih, Nat.div_div_eq_div_mul, Nat.pow_succ, Nat.mul_comm 18446744073709551616]
          · have : n = 0 := by omega
            subst this; simp [M.dig_zero]
      exact this m a
    unfold L
    rw [hh]
    apply Nat.mod_eq_of_lt
    apply Nat.div_lt_of_lt_mul
    rw [← Nat.pow_succ]; exact h2
  rw [hg, e]
  exact blen_shift (64 * m) a (by rw [← e]; exact h1)

set_option maxHeartbeats 400000 in
theorem bitLenN_any (ao : Option Addr) (n c : Nat) (a : Nat) (w : World) (hl : (L a).length = n) (hn : n ≤ 1048576) (hr : Rd w ao (L a)) (b : Nat) (hb : b = blen a) :
    Calls Tryd.prog 97 #[.slice ao n c] w fun e w' => e = .returned (.int .i64 (b : Int)) ∧ w' = w := by
  by_cases h0 : n = 0
  · subst h0
    have ha : a = 0 := by
      rcases Nat.eq_zero_or_pos a with h | h
      · exact h
      · unfold L at hl; rw [M.dig_pos (by omega) h] at hl; simp at hl
    have hb0 : b = 0 := by rw [hb, ha, blen_zero]
    subst hb0
    clear hb ha hl hr
    go_enter Tryd.func97, Tryd.ntmps97
    go_wp2_with fail
    go_ret
    exact ⟨rfl, rfl⟩
  · obtain ⟨m, rfl⟩ : ∃ m, n = m + 1 := ⟨n - 1, by omega⟩
    have ha : 0 < a := by
      rcases Nat.eq_zero_or_pos a with h | h
      · rw [h] at hl; simp [L, M.dig_zero] at hl
      · exact h
    have hbl := blen_L a ha
    rw [hl, Nat.add_sub_cancel] at hbl
    obtain ⟨b1, o1, hao, hcl⟩ := hr (by omega)
    have hck := hcl m (by omega)
    clear hcl
    have ht := (F64_L a).get m
    obtain ⟨t, htt⟩ : ∃ t : Nat, t = (L a).getD m 0 := ⟨_, rfl⟩
    rw [← htt] at hck ht hbl
    rw [← hb] at hbl
    have hne : (((m : Int) + 1) == 0) = false := by simp; omega
    have e1 : ((m + 1 : Nat) : Int) = (m : Int) + 1 := by omega
    have hltm : (m : Int) < (m : Int) + 1 := by omega
    have hlt64 := blen_le_of t 64 (by omega)
    obtain ⟨q, hq⟩ : ∃ q, q = blen t := ⟨_, rfl⟩
    rw [← hq] at hbl hlt64
    have HBL := hid hbl; have HT := hid htt; have HQ := hid hq
    clear hbl htt hb hq
    have kL := fun v : World => len64_any t v ht q HQ.out
    have w1 : IntKind.i64.wrap ((m : Int) * 64) = (m : Int) * 64 := by rw [IntKind.wrap_i64]; omega
    have w2 : IntKind.i64.wrap ((m : Int) * 64 + (q : Int)) = (m : Int) * 64 + (q : Int) := by rw [IntKind.wrap_i64]; omega
    go_enter Tryd.func97, Tryd.ntmps97
    go_wp2_with fail
    refine (kL _).mono ?_
    rintro e w3 ⟨rfl, rfl⟩
    go_wp2_with fail
    go_ret
    exact ⟨ret_int (by have := HBL.out; omega), rfl⟩

end Go.Proofs.YtehplfmnipadmaeDoor

namespace Go.Proofs.YtehplfmnipadmaeDoor
open Go.RowKit
set_option linter.unusedVariables false
set_option maxRecDepth 100000

theorem L_zero_iff (a : Nat) : (((L a).length : Int) == 0) = decide (a = 0) := by
  rw [Bool.eq_iff_iff]
  simp only [beq_iff_eq, decide_eq_true_eq]
  constructor
  · intro h
    have h1 : L a = [] := List.eq_nil_of_length_eq_zero (by omega)
    have h2 : V (L a) = a := V_L a
    rw [h1] at h2
    simpa [V, M.val] using h2.symm
  · intro h
    subst h
    simp [L, M.dig_zero]

theorem D_zero_eq (a : Nat) : (((D a).length : Int) == 0) = decide (a = 0) := by
  rw [Bool.eq_iff_iff]
  simp only [beq_iff_eq, decide_eq_true_eq]
  constructor
  · intro h
    have h1 : D a = [] := List.eq_nil_of_length_eq_zero (by omega)
    have h2 : X (D a) = a := X_D a
    rw [h1] at h2
    simpa [X, M.val] using h2.symm
  · intro h
    subst h
    simp [D, M.dig_zero]

theorem D_len_bits (a j K : Nat) (h : a < 2 ^ j) (hj : j ≤ 32 * K) : (D a).length ≤ K := by
  refine M.len_of_lt (B := 4294967296) (by omega) _ _ ?_
  rw [show (4294967296 : Nat) = 2 ^ 32 by rfl, ← Nat.pow_mul]
  exact Nat.lt_of_lt_of_le h (Nat.pow_le_pow_right (by omega) hj)

theorem len_shiftK (N p A K : Nat) (hn : (L N).length ≤ A) (hp : p ≤ 64 * K) : (L (N * 2 ^ p)).length ≤ A + K := by
  have h1 := L_lt N A hn
  have h2 : 2 ^ p ≤ 18446744073709551616 ^ K := by
    rw [show (18446744073709551616 : Nat) = 2 ^ 64 by rfl, ← Nat.pow_mul]
    exact Nat.pow_le_pow_right (by omega) (by omega)
  have h3 : N * 2 ^ p < 18446744073709551616 ^ (A + K) := by
    rw [Nat.pow_add]
    exact Nat.lt_of_le_of_lt (Nat.mul_le_mul_left _ h2) (Nat.mul_lt_mul_of_pos_right h1 (Nat.pow_pos (by omega)))
  exact M.len_of_lt (B := 18446744073709551616) (by omega) _ _ h3

end Go.Proofs.YtehplfmnipadmaeDoor

namespace Go.Proofs.YtehplfmnipadmaeDoor.M
set_option linter.unusedVariables false
set_option maxRecDepth 100000

theorem kn_mul {q r u y1 y0 y C : Nat} (hy : y = y1 * C + y0) (h : q * y1 + r = u) : q * y + C * r = u * C + q * y0 := by
  rw [hy, ← h, Nat.mul_add, Nat.add_mul, Nat.mul_assoc, Nat.mul_comm C r]
  omega

/-- What holds of a guess q with its rest r: N is the number, y the divisor. -/
structure Kn (C u d y1 y0 y q r : Nat) : Prop where
  sum : q * y1 + r = u
  ge : (u * C + d) / y ≤ q
  le : q ≤ C + 1

theorem Kn.first {C u d y1 y0 y : Nat} (hC : 0 < C) (hy : y = y1 * C + y0) (hd : d < C) (hu : u < y) (h0 : y0 < C) (hn : C ≤ 2 * y1) : Kn C u d y1 y0 y (u / y1) (u % y1) := by
  have hy1 : 0 < y1 := by omega
  have hyp : 0 < y := by omega
  refine ⟨by rw [Nat.mul_comm]; exact Nat.div_add_mod u y1, ?_, ?_⟩
  · rw [Nat.le_div_iff_mul_le hy1]
    have h1 := Nat.div_mul_le_self (u * C + d) y
    generalize (u * C + d) / y = q at *
    have h2 : q * y1 * C ≤ q * y := by rw [hy, Nat.mul_add, Nat.mul_assoc]; omega
    have h3 : q * y1 * C < (u + 1) * C := by rw [Nat.add_mul]; omega
    have := Nat.lt_of_mul_lt_mul_right h3
    omega
  · have h1 := Nat.div_mul_le_self u y1
    rcases Nat.lt_or_ge (C + 1) (u / y1) with h | h
    · have h2 : (C + 2) * y1 ≤ u / y1 * y1 := Nat.mul_le_mul_right _ h
      rw [Nat.add_mul, Nat.mul_comm C y1] at h2
      omega
    · exact h

/-- The guess is right where it is not too high. -/
theorem Kn.stop {C u d y1 y0 y q r : Nat} (h : Kn C u d y1 y0 y q r) (hy : y = y1 * C + y0) (hyp : 0 < y) (ht : q * y0 ≤ C * r + d) : q = (u * C + d) / y := by
  have e := kn_mul hy h.sum
  refine Nat.le_antisymm ?_ h.ge
  rw [Nat.le_div_iff_mul_le hyp]
  omega

/-- Else one less serves too. -/
theorem Kn.down {C u d y1 y0 y q r : Nat} (h : Kn C u d y1 y0 y q r) (hy : y = y1 * C + y0) (hyp : 0 < y) (hu : u < y) (hd : d < C) (ht : C ≤ q ∨ C * r + d < q * y0) : 1 ≤ q ∧ Kn C u d y1 y0 y (q - 1) (r + y1) := by
  have e := kn_mul hy h.sum
  have hlt : (u * C + d) / y < q := by
    rcases ht with ht | ht
    · have : (u * C + d) / y < C := by
        rw [Nat.div_lt_iff_lt_mul hyp]
        have h1 : (u + 1) * C ≤ y * C := Nat.mul_le_mul_right _ hu
        rw [Nat.add_mul] at h1
        rw [Nat.mul_comm C y]; omega
      exact Nat.lt_of_lt_of_le this ht
    · rw [Nat.div_lt_iff_lt_mul hyp]; omega
  have hq1 : 1 ≤ q := Nat.lt_of_le_of_lt (Nat.zero_le _) hlt
  refine ⟨hq1, ?_, Nat.le_sub_one_of_lt hlt, by have := h.le; omega⟩
  have := h.sum
  obtain ⟨m, rfl⟩ : ∃ m, q = m + 1 := ⟨q - 1, by omega⟩
  rw [Nat.add_sub_cancel]
  rw [Nat.add_mul, Nat.one_mul] at this
  omega

/-- A rest of a limb or more: the guess is right. -/
theorem Kn.wide {C u d y1 y0 y q r : Nat} (h : Kn C u d y1 y0 y q r) (hy : y = y1 * C + y0) (hyp : 0 < y) (h0 : y0 < C) (hq : q ≤ C) (hr : C ≤ r) : q = (u * C + d) / y := by
  refine h.stop hy hyp ?_
  have h1 : q * y0 ≤ C * y0 := Nat.mul_le_mul_right _ hq
  have h2 : C * y0 ≤ C * r := Nat.mul_le_mul_left _ (by omega)
  omega

/-- The two steps make the whole quotient. -/
theorem kn_whole {C u d1 d0 y q1 u2 q0 : Nat} (hyp : 0 < y) (h1 : q1 = (u * C + d1) / y) (h2 : u2 = (u * C + d1) % y) (h0 : q0 = (u2 * C + d0) / y) :
    q1 * C + q0 = (u * (C * C) + (d1 * C + d0)) / y ∧ (u2 * C + d0) % y = (u * (C * C) + (d1 * C + d0)) % y := by
  have e1 := Nat.div_add_mod (u * C + d1) y
  rw [← h1, ← h2] at e1
  have e : u * (C * C) + (d1 * C + d0) = u2 * C + d0 + y * (q1 * C) := by
    have h3 : (y * q1 + u2) * C = (u * C + d1) * C := by rw [e1]
    rw [Nat.add_mul, Nat.add_mul, Nat.mul_assoc, Nat.mul_assoc] at h3
    omega
  constructor
  · rw [e, Nat.add_mul_div_left _ _ hyp, ← h0]; omega
  · rw [e, Nat.add_mul_mod_self_left]

end Go.Proofs.YtehplfmnipadmaeDoor.M

namespace Go.Proofs.YtehplfmnipadmaeDoor
open Go.RowKit
set_option linter.unusedVariables false
set_option maxRecDepth 100000

set_option maxHeartbeats 400000 in
theorem lz_any (x : Nat) (w : World) (h : x < 18446744073709551616) (s : Nat) (hs : s = 64 - blen x) :
    Calls Tryd.prog 100 #[.int .u64 (x : Int)] w fun e w' => e = .returned (.int .i64 (s : Int)) ∧ w' = w := by
  obtain ⟨b, eb⟩ : ∃ b : Nat, b = blen x := ⟨_, rfl⟩
  have hb : b ≤ 64 := by rw [eb]; exact blen_le_of x 64 h
  have hsI : (64 : Int) - (b : Int) = (s : Int) := by rw [hs, ← eb]; omega
  have EB := hid eb
  clear eb hs
  go_enter Tryd.func100, Tryd.ntmps100
  go_wp2_with fail
  refine (len64_any x _ h b EB.out).mono ?_
  rintro e w1 ⟨rfl, rfl⟩
  go_wp2_with fail
  go_ret
  exact ⟨rfl, rfl⟩

/-- Normalised: y shifted till its highest bit is set. -/
theorem norm_facts (y s : Nat) (hy : 0 < y) (hyb : y < 18446744073709551616) (hs : s = 64 - blen y) : s < 64 ∧ y * 2 ^ s < 18446744073709551616 ∧ 9223372036854775808 ≤ y * 2 ^ s := by
  have h1 := lt_blen y
  have h2 := blen_le y hy
  have h3 := blen_pos y hy
  have h4 : blen y ≤ 64 := blen_le_of y 64 hyb
  refine ⟨by omega, ?_, ?_⟩
  · have : y * 2 ^ s < 2 ^ blen y * 2 ^ s := Nat.mul_lt_mul_of_pos_right h1 (Nat.pow_pos (by omega))
    rw [← Nat.pow_add, show blen y + s = 64 by omega] at this
    exact this
  · have : 2 ^ (blen y - 1) * 2 ^ s ≤ y * 2 ^ s := Nat.mul_le_mul_right _ h2
    rw [← Nat.pow_add, show blen y - 1 + s = 63 by omega] at this
    exact this

/-- 'hi<<s | lo>>(64-s)': the upper word of the shifted number. -/
theorem un32_word (hi lo s y : Nat) (hs : s < 64) (hlo : lo < 18446744073709551616) (hlt : hi < y) (hyb : y * 2 ^ s < 18446744073709551616) :
    bits BinOp.or IntKind.u64 (IntKind.u64.wrap ((hi : Int) * 2 ^ s)) ((lo : Int) / 2 ^ (64 - s)) = ((hi * 2 ^ s + lo / 2 ^ (64 - s) : Nat) : Int) ∧ hi * 2 ^ s + lo / 2 ^ (64 - s) < y * 2 ^ s ∧
      (hi * 2 ^ s + lo / 2 ^ (64 - s)) * 18446744073709551616 + lo * 2 ^ s % 18446744073709551616 = (hi * 18446744073709551616 + lo) * 2 ^ s := by
  have hKP : 2 ^ (64 - s) * 2 ^ s = 18446744073709551616 := M.pow_split s 64 (by omega)
  have h1 : lo / 2 ^ (64 - s) < 2 ^ s := Nat.div_lt_of_lt_mul (by omega)
  have h2 : (hi + 1) * 2 ^ s ≤ y * 2 ^ s := Nat.mul_le_mul_right _ hlt
  rw [Nat.add_mul, Nat.one_mul] at h2
  have hp0 : 0 < 2 ^ s := Nat.pow_pos (by omega)
  refine ⟨?_, by omega, ?_⟩
  · have e1 : IntKind.u64.wrap ((hi : Int) * 2 ^ s) = ((hi * 2 ^ s : Nat) : Int) := by
      rw [pow_cast, ← Int.natCast_mul, wrapU, Nat.mod_eq_of_lt (by omega)]
    rw [e1, div_cast, or_comm_nat _ _ (by omega) (by omega), or_nat _ hi s h1, Nat.add_comm]
  · have e : lo * 2 ^ s % 18446744073709551616 + 18446744073709551616 * (lo / 2 ^ (64 - s)) = lo * 2 ^ s := by
      have h5 : lo * 2 ^ s / 18446744073709551616 = lo / 2 ^ (64 - s) := by
        rw [← hKP, Nat.mul_div_mul_right _ _ (Nat.pow_pos (by omega))]
      have := Nat.mod_add_div (lo * 2 ^ s) 18446744073709551616
      rw [h5] at this
      exact this
    rw [Nat.add_mul, Nat.add_mul, Nat.mul_right_comm hi]
    omega

/-- What a step of the division leaves of the number, modulo 2^64. -/
theorem rest_word (u d q y p1 p2 p3 r : Nat) (hy : y < 18446744073709551616) (hyp : 0 < y) (hq : q = (u * 4294967296 + d) / y) (h1 : p1 = u * 4294967296 % 18446744073709551616) (h2 : p2 = (p1 + d) % 18446744073709551616) (h3 : p3 = q * y % 18446744073709551616) (hr : r = (u * 4294967296 + d) % y) :
    r = (p2 + 18446744073709551616 - p3) % 18446744073709551616 := by
  have e := Nat.div_add_mod (u * 4294967296 + d) y
  rw [← hq, ← hr, Nat.mul_comm] at e
  have hrl : r < y := by rw [hr]; exact Nat.mod_lt _ hyp
  generalize q * y = t at *
  omega

end Go.Proofs.YtehplfmnipadmaeDoor

namespace Go.Proofs.YtehplfmnipadmaeDoor
open Go.RowKit
set_option linter.unusedVariables false
set_option maxRecDepth 100000

theorem wrapMul (x y p : Nat) (hp : p = x * y) (hb : p < 18446744073709551616) : IntKind.u64.wrap ((x : Int) * (y : Int)) = (p : Int) := by
  have := wrapU p
  rw [Nat.mod_eq_of_lt hb] at this
  rw [← this, hp]; congr 1

theorem wrapAdd (x y p : Nat) (hp : p = x + y) (hb : p < 18446744073709551616) : IntKind.u64.wrap ((x : Int) + (y : Int)) = (p : Int) :=
  wrapU2 x y p (by omega)

/-- One place of a product of digits of 32 bits. -/
theorem M.mul32 (x y z c : Nat) (hx : x < 4294967296) (hy : y < 4294967296) (hz : z < 4294967296) (hc : c < 4294967296) :
    ∃ p p2 s : Nat, p = x * y ∧ p < 18446744073709551616 ∧ p2 = p + z ∧ p2 < 18446744073709551616 ∧ s = p2 + c ∧ s < 18446744073709551616 ∧ s / 4294967296 < 4294967296 ∧ s % 4294967296 + 4294967296 * (s / 4294967296) = z + y * x + c := by
  have hb : x * y ≤ 4294967295 * 4294967295 := Nat.mul_le_mul (by omega) (by omega)
  refine ⟨_, _, _, rfl, by omega, rfl, by omega, rfl, by omega, by omega, ?_⟩
  rw [Nat.mul_comm y x]
  generalize x * y = q at *
  omega

theorem M.inner {V V' V0 T c c' Pk Pj B x y z o : Nat} (h : V + c * (Pk * Pj) = V0 + (x * Pk) * T) (hv : V' + Pk * Pj * z = V + Pk * Pj * o) (hs : o + B * c' = z + y * x + c) : V' + c' * (Pk * Pj * B) = V0 + (x * Pk) * (T + Pj * y) := by
  have e2 : (x * Pk) * (Pj * y) = Pk * Pj * (y * x) := by
    simp only [Nat.mul_comm, Nat.mul_left_comm]
  rw [Nat.mul_add, e2]
  generalize Pk * Pj = P at *
  have e : P * (o + B * c') = P * (z + y * x + c) := by rw [hs]
  simp only [Nat.mul_add] at e
  rw [Nat.mul_comm c' (P * B), Nat.mul_assoc]
  rw [Nat.mul_comm c P] at h
  omega

set_option maxHeartbeats 2000000 in
theorem l1Mul_any (ao bo : Option Addr) (n m c d : Nat) (a b : Nat) (w : World) (hl : (D a).length = n) (hm : (D b).length = m) (hn : n ≤ 1048576) (hn2 : m ≤ 1048576) (hr : Rd w ao (D a)) (hr2 : Rd w bo (D b)) :
    Calls Tryd.prog 63 #[.slice ao n c, .slice bo m d] w fun e w' => Ret w w' e (D (a * b)) := by
  obtain ⟨i0, hi, hz0, hz1, hz2⟩ := info_parts Tryd.infoU
  have hmk := fun (wx : World) => run_make (P := Tryd.prog) wx 31 22 i0 (.int .u64 0) Tryd.underlying31 hi hz0 .i64 .i64 ((n + m + 1 : Nat) : Int) ((n + m + 1 : Nat) : Int) (by omega) (Int.le_refl _) (by rw [hz2]; omega) (by omega)
  have es : ((n + m + 1 : Nat) : Int) = (n : Int) + (m : Int) + 1 := by omega
  rw [es] at hmk
  have et : ((n : Int) + (m : Int) + 1).toNat = n + m + 1 := by omega
  rw [et] at hmk
  clear es et
  have fa := F32_D a
  have fb := F32_D b
  go_enter Tryd.func63, Tryd.ntmps63
  go_wp2_with fail
  go_loopw [6] (fun i wr => ∃ (k : Nat) (cur : List Nat), k ≤ n ∧ i = .int .i64 k ∧ Blk wr w.heap.size cur ∧ cur.length = n + m + 1 ∧ F32 cur ∧ (∀ j, m + k ≤ j → cur.getD j 0 = 0) ∧ X cur = b * X ((D a).take k) ∧ Below w.heap.size w wr) (fun i _ => n - (intOf i).toNat)
  case atStart =>
    refine ⟨0, List.replicate (n + m + 1) 0, by omega, rfl, blk_made w (n + m + 1), by simp, fun x hx => by simp at hx; omega, fun j _ => ?_, ?_, (Below.refl _ _).alloc (Nat.le_refl _) _⟩
    · rw [List.getD_eq_getElem?_getD, List.getElem?_replicate]; split <;> rfl
    · unfold X; rw [M.val_replicate]; simp [M.val]
  case round =>
    obtain ⟨k, cur, hk, rfl, hBk, hcl, hcf, hz, hv, hbl⟩ := hrel
    clear hmk
    have HZ := hid hz; clear hz
    have HV := hid hv; clear hv
    have HCL := hid hcl; clear hcl
    by_cases hlt : k < n
    · have hx1 := fa.get k
      obtain ⟨x, hxx⟩ : ∃ x : Nat, x = (D a).getD k 0 := ⟨_, rfl⟩
      rw [← hxx] at hx1
      have HX := hid hxx; clear hxx
      have hlt' : (k : Int) < (n : Int) := by omega
      obtain ⟨wo, hwo⟩ : ∃ wo : World, wo = wr := ⟨_, rfl⟩
      rw [← hwo] at hBk hbl ⊢
      clear hwo
      have HBk := hid hBk; clear hBk
      have HBl := hid hbl; clear hbl
      go_wp2_with fail
      go_loopw [7, 8, 9] (fun cy i s9 wr => ∃ (j : Nat) (cu : List Nat) (cc : Nat), j ≤ m ∧ i = .int .i64 j ∧ cy = .int .u64 cc ∧ cc < 4294967296 ∧ Blk wr w.heap.size cu ∧ cu.length = n + m + 1 ∧ F32 cu ∧ (∀ i, m + k ≤ i → cu.getD i 0 = 0) ∧ X cu + cc * 4294967296 ^ (k + j) = X cur + (x * 4294967296 ^ k) * X ((D b).take j) ∧ Below w.heap.size w wr) (fun _ i _ _ => m - (intOf i).toNat)
      case atStart => exact ⟨0, cur, 0, by omega, rfl, rfl, by omega, HBk.out, HCL.out, hcf, HZ.out, by simp [X, M.val], HBl.out⟩
      case round =>
        obtain ⟨j, cu, cc, hj, rfl, rfl, hcc, hBu, hul, huf, huz, huv, hub⟩ := hrel
        have HUZ := hid huz; clear huz
        have HUV := hid huv; clear huv
        have HUL := hid hul; clear hul
        by_cases hlt2 : j < m
        · obtain ⟨b1, o1, hao, hcA⟩ := (hr.below hub) (by omega)
          have hckA := hcA k (by omega)
          rw [← HX.out] at hckA
          clear hcA
          obtain ⟨b2, o2, hbo, hcB⟩ := (hr2.below hub) (by omega)
          have hckB := hcB j (by omega)
          clear hcB
          have hy1 := fb.get j
          obtain ⟨y, hyy⟩ : ∃ y : Nat, y = (D b).getD j 0 := ⟨_, rfl⟩
          rw [← hyy] at hckB hy1
          have HY := hid hyy; clear hyy
          have hcz := hBu.cell (k + j) (by have := HUL.out; omega)
          have hfz := hBu.frozen (k + j)
          have hz1 := huf.get (k + j)
          obtain ⟨z, hzz⟩ : ∃ z : Nat, z = cu.getD (k + j) 0 := ⟨_, rfl⟩
          rw [← hzz] at hcz hz1
          have HZZ := hid hzz; clear hzz
          obtain ⟨p, p2, s, ep, bp, ep2, bp2, es, bs, bs2, hs⟩ := M.mul32 x y z cc hx1 hy1 hz1 hcc
          have w1 := wrapMul x y p ep bp
          have w2 := wrapAdd p z p2 ep2 bp2
          have w3 := wrapAdd p2 cc s es bs
          have hlow : bits BinOp.and IntKind.u64 (s : Int) 4294967295 = ((s % 4294967296 : Nat) : Int) := by
            rw [and_low32 _ (by omega) (by omega)]; omega
          have hslo : s % 4294967296 < 4294967296 := by omega
          obtain ⟨so, eso⟩ : ∃ so : Nat, so = s % 4294967296 := ⟨_, rfl⟩
          rw [← eso] at hlow hs hslo
          have E1 := hid hs; have E2 := hid bs2; have E3 := hid hslo; have E4 := hid eso
          clear hs bs2 hslo eso ep bp ep2 bp2 es bs
          have HBu := hid hBu; clear hBu
          have hltj : (j : Int) < (m : Int) := by omega
          have hltk : (k : Int) + (j : Int) < ((n + m + 1 : Nat) : Int) := by omega
          go_wp2_with fail
          go_quiet (fail)
          go_wp2_with fail
          go_roundw
          case rel =>
            have R : ∃ (j1 : Nat) (cu1 : List Nat) (cc1 : Nat), j1 ≤ m ∧ Value.int .i64 ((j : Int) + 1) = .int .i64 j1 ∧ Value.int .u64 ((s : Int) / 4294967296) = .int .u64 cc1 ∧ cc1 < 4294967296 ∧ Blk ((wr.setCell ⟨w.heap.size, k + j, none⟩ (.int .u64 (so : Int))).drewN nq) w.heap.size cu1 ∧ cu1.length = n + m + 1 ∧ F32 cu1 ∧ (∀ i, m + k ≤ i → cu1.getD i 0 = 0) ∧ X cu1 + cc1 * 4294967296 ^ (k + j1) = X cur + (x * 4294967296 ^ k) * X ((D b).take j1) ∧ Below w.heap.size w ((wr.setCell ⟨w.heap.size, k + j, none⟩ (.int .u64 (so : Int))).drewN nq) := by
              refine ⟨j + 1, cu.set (k + j) so, s / 4294967296, by omega, by go_num, by go_num, E2.out, (HBu.out.set _ _ _ rfl).drewN _, by rw [List.length_set]; exact HUL.out, ?_, ?_, ?_, below_drewN (hub.setCell (Nat.le_refl _) _) _⟩
              · intro v hv
                rcases List.mem_or_eq_of_mem_set hv with hv | rfl
                · exact huf v hv
                · exact E3.out
              · intro i hi
                rw [M.getD_set_ne _ _ _ _ (by omega)]; exact HUZ.out i hi
              · have h1 := M.val_set 4294967296 (k + j) cu so (by have := HUL.out; omega)
                rw [← HZZ.out] at h1
                have h2 := HUV.out
                unfold X at *
                rw [M.val_take_succ, ← HY.out, show k + (j + 1) = k + j + 1 by omega, Nat.pow_succ]
                rw [Nat.pow_add] at h1 h2 ⊢
                exact M.inner h2 h1 E1.out
            first | exact R | ((repeat apply Exists.intro); exact ⟨R, rfl⟩) | ((repeat apply Exists.intro); exact ⟨R, by rw [hao, hbo]⟩)
          case measure => simp [intOf]; omega
        · have e : j = m := by omega
          subst e
          have hcz := hBu.cell (k + j) (by have := HUL.out; omega)
          have hfz := hBu.frozen (k + j)
          have hz0 := HUZ.out (k + j) (by omega)
          rw [hz0] at hcz
          have HZ0 := hid hz0; clear hz0
          have HBu := hid hBu; clear hBu
          have hltk : (k : Int) + (j : Int) < ((n + j + 1 : Nat) : Int) := by omega
          have hltj : ¬ (j : Int) < (j : Int) := by omega
          go_wp2_with fail
          go_roundw
          case rel =>
            have R : ∃ (k1 : Nat) (cur1 : List Nat), k1 ≤ n ∧ Value.int .i64 ((k : Int) + 1) = .int .i64 k1 ∧ Blk (wr.setCell ⟨w.heap.size, k + j, none⟩ (.int .u64 (cc : Int))) w.heap.size cur1 ∧ cur1.length = n + j + 1 ∧ F32 cur1 ∧ (∀ i, j + k1 ≤ i → cur1.getD i 0 = 0) ∧ X cur1 = b * X ((D a).take k1) ∧ Below w.heap.size w (wr.setCell ⟨w.heap.size, k + j, none⟩ (.int .u64 (cc : Int))) := by
              refine ⟨k + 1, cu.set (k + j) cc, by omega, by go_num, HBu.out.set _ _ _ rfl, by rw [List.length_set]; exact HUL.out, ?_, ?_, ?_, hub.setCell (Nat.le_refl _) _⟩
              · intro v hv
                rcases List.mem_or_eq_of_mem_set hv with hv | rfl
                · exact huf v hv
                · exact hcc
              · intro i hi
                rw [M.getD_set_ne _ _ _ _ (by omega)]; exact HUZ.out i (by omega)
              · have h1 := M.val_set 4294967296 (k + j) cu cc (by have := HUL.out; omega)
                rw [HZ0.out, Nat.mul_zero, Nat.add_zero] at h1
                have h2 := HUV.out
                rw [List.take_of_length_le (by omega), X_D] at h2
                have h3 := HV.out
                unfold X at *
                rw [M.val_take_succ, ← HX.out, h1, Nat.mul_add, ← h3, Nat.mul_comm (4294967296 ^ (k + j)) cc, h2]
                rw [Nat.mul_comm x (4294967296 ^ k), Nat.mul_comm b]
            first | exact R | ((repeat apply Exists.intro); exact ⟨R, rfl⟩)
          case measure => simp [intOf]; omega
    · have e : k = n := by omega
      subst e
      go_wp2_with fail
      have hfin : M.val 4294967296 cur = a * b := by
        have := HV.out
        rw [List.take_of_length_le (by omega), X_D, Nat.mul_comm] at this
        exact this
      refine (l1Trim_any 4294967296 (by omega) _ (k + m + 1) (k + m + 1) cur _ HCL.out (Nat.le_refl _) (by omega) hcf hBk.rd0).mono ?_
      rw [hfin]
      rintro e w3 ⟨ao', cap', rfl, ho', hb'⟩
      go_wp2_with fail
      go_ret
      exact ⟨ao', cap', rfl, own_base ho' hbl.size, hbl.trans (hb'.mono hbl.size)⟩

end Go.Proofs.YtehplfmnipadmaeDoor

namespace Go.Proofs.YtehplfmnipadmaeDoor
open Go.RowKit
set_option linter.unusedVariables false
set_option maxRecDepth 100000

theorem quo_cast (x y : Nat) : (x : Int) / (y : Int) = ((x / y : Nat) : Int) := (Int.natCast_ediv x y).symm
theorem rem_cast (x y : Nat) : (x : Int) % (y : Int) = ((x % y : Nat) : Int) := (Int.natCast_emod x y).symm
theorem wrapMulM (x y p : Nat) (hp : p = x * y % 18446744073709551616) : IntKind.u64.wrap ((x : Int) * (y : Int)) = (p : Int) := by
  rw [hp, ← wrapU, Int.natCast_mul]

set_option maxHeartbeats 4000000 in
set_option maxRecDepth 100000 in
theorem div64_any (hi lo y : Nat) (w : World) (hlo : lo < 18446744073709551616) (hyb : y < 18446744073709551616) (hlt : hi < y) (Q R : Nat) (hQ : Q = (hi * 18446744073709551616 + lo) / y) (hR : R = (hi * 18446744073709551616 + lo) % y) :
    Calls Tryd.prog 105 #[.int .u64 (hi : Int), .int .u64 (lo : Int), .int .u64 (y : Int)] w fun e w' => e = .returned (.tuple #[.int .u64 (Q : Int), .int .u64 (R : Int)]) ∧ ∃ q, w' = w.drewN q := by
  have hyp : 0 < y := by omega
  have t0 : ((y : Int) == 0) = false := by simp; omega
  have t1 : ¬ (y : Int) ≤ (hi : Int) := by omega
  by_cases hh : hi = 0
  · have t2 : ((hi : Int) == 0) = true := by simp; omega
    have hQ' : Q = lo / y := by rw [hQ, hh]; simp
    have hR' : R = lo % y := by rw [hR, hh]; simp
    have q1 := quo_cast lo y
    have q2 := rem_cast lo y
    rw [← hQ'] at q1
    rw [← hR'] at q2
    have hQb : Q < 18446744073709551616 := by rw [hQ']; exact Nat.lt_of_le_of_lt (Nat.div_le_self _ _) hlo
    have hRb : R < 18446744073709551616 := by rw [hR']; exact Nat.lt_of_le_of_lt (Nat.mod_le _ _) hlo
    clear hQ hR hQ' hR' hh
    go_enter Tryd.func105, Tryd.ntmps105
    go_wp2_with fail
    go_quiet (fail)
    go_wp2_with fail
    go_ret2
    exact ⟨by rw [← q2]; rfl, _, rfl⟩
  · have t2 : ((hi : Int) == 0) = false := by simp; omega
    obtain ⟨s, es⟩ : ∃ s : Nat, s = 64 - blen y := ⟨_, rfl⟩
    obtain ⟨hs64, hyn, hyn2⟩ := norm_facts y s hyp hyb es
    obtain ⟨hu1, hu2, hu3⟩ := un32_word hi lo s y hs64 hlo hlt hyn
    obtain ⟨u, eu⟩ : ∃ u : Nat, u = hi * 2 ^ s + lo / 2 ^ (64 - s) := ⟨_, rfl⟩
    obtain ⟨v, ev⟩ : ∃ v : Nat, v = lo * 2 ^ s % 18446744073709551616 := ⟨_, rfl⟩
    obtain ⟨yn, eyn⟩ : ∃ yn : Nat, yn = y * 2 ^ s := ⟨_, rfl⟩
    rw [← eu] at hu1 hu2 hu3
    rw [← ev] at hu3
    rw [← eyn] at hyn hyn2 hu2
    have wyn : IntKind.u64.wrap ((y : Int) * 2 ^ s) = (yn : Int) := by
      rw [pow_cast, ← Int.natCast_mul, wrapU, ← eyn, Nat.mod_eq_of_lt hyn]
    have wv : IntKind.u64.wrap ((lo : Int) * 2 ^ s) = (v : Int) := by
      rw [pow_cast, ← Int.natCast_mul, wrapU, ← ev]
    have hQ2 : Q = (u * 18446744073709551616 + v) / yn := by rw [hu3, eyn, Nat.mul_div_mul_right _ _ (Nat.pow_pos (by omega)), hQ]
    have hR2 : R * 2 ^ s = (u * 18446744073709551616 + v) % yn := by rw [hu3, eyn, Nat.mul_mod_mul_right, hR]
    have hvb : v < 18446744073709551616 := by rw [ev]; exact Nat.mod_lt _ (by omega)
    obtain ⟨y1, e1⟩ : ∃ y1 : Nat, y1 = yn / 4294967296 := ⟨_, rfl⟩
    obtain ⟨y0, e0⟩ : ∃ y0 : Nat, y0 = yn % 4294967296 := ⟨_, rfl⟩
    have hyy : yn = y1 * 4294967296 + y0 := by omega
    have hy0 : y0 < 4294967296 := by omega
    have hy1 : 4294967296 ≤ 2 * y1 := by omega
    have hy1b : y1 < 4294967296 := by omega
    have wy1 : (yn : Int) / 4294967296 = (y1 : Int) := by omega
    have wy0 : bits BinOp.and IntKind.u64 (yn : Int) 4294967295 = (y0 : Int) := by rw [and_low32 _ (by omega) (by omega)]; omega
    obtain ⟨d1, ed1⟩ : ∃ d1 : Nat, d1 = v / 4294967296 := ⟨_, rfl⟩
    obtain ⟨d0, ed0⟩ : ∃ d0 : Nat, d0 = v % 4294967296 := ⟨_, rfl⟩
    have hvv : v = d1 * 4294967296 + d0 := by omega
    have hd1 : d1 < 4294967296 := by omega
    have hd0 : d0 < 4294967296 := by omega
    have wd1 : (v : Int) / 4294967296 = (d1 : Int) := by omega
    have wd0 : bits BinOp.and IntKind.u64 (v : Int) 4294967295 = (d0 : Int) := by rw [and_low32 _ (by omega) (by omega)]; omega
    have hynp : 0 < yn := by omega
    have tq : ((y1 : Int) == 0) = false := by simp; omega
    have hub : u < 18446744073709551616 := by omega
    -- the first step's guess
    have K1 := M.Kn.first (C := 4294967296) (u := u) (d := d1) (by omega) hyy hd1 hu2 hy0 hy1
    obtain ⟨g1, eg1⟩ : ∃ g : Nat, g = u / y1 := ⟨_, rfl⟩
    obtain ⟨r1, er1⟩ : ∃ r : Nat, r = u % y1 := ⟨_, rfl⟩
    rw [← eg1, ← er1] at K1
    have wg1 : (u : Int) / (y1 : Int) = (g1 : Int) := by rw [quo_cast, ← eg1]
    have hr1l : r1 < 4294967296 := by rw [er1]; have := Nat.mod_lt u (show 0 < y1 by omega); omega
    have hg1b : g1 < 18446744073709551616 := by have := K1.le; omega
    have wm1 : IntKind.u64.wrap ((g1 : Int) * (y1 : Int)) = ((g1 * y1 : Nat) : Int) := wrapMul g1 y1 _ rfl (by have := K1.sum; omega)
    obtain ⟨gy1, egy1⟩ : ∃ t : Nat, t = g1 * y1 := ⟨_, rfl⟩
    rw [← egy1] at wm1
    have ws1 : (u : Int) - (gy1 : Int) = (r1 : Int) := by have := K1.sum; rw [← egy1] at this; omega
    obtain ⟨q1, eq1⟩ : ∃ q : Nat, q = (u * 4294967296 + d1) / yn := ⟨_, rfl⟩
    obtain ⟨u2, eu2⟩ : ∃ q : Nat, q = (u * 4294967296 + d1) % yn := ⟨_, rfl⟩
    have ES := hid es; have HK1 := hid K1; have HQ2 := hid hQ2; have HR2 := hid hR2; have EQ1 := hid eq1; have EU2 := hid eu2; have HYY := hid hyy; have HVV := hid hvv
    clear es K1 hQ2 hR2 eq1 eu2 hyy hvv eu ev eyn e1 e0 ed1 ed0 eg1 er1 egy1 hQ hR hu3
    go_enter Tryd.func105, Tryd.ntmps105
    go_wp2_with fail
    refine (lz_any y _ hyb s ES.out).mono ?_
    rintro e w1 ⟨rfl, rfl⟩
    go_upto_block 0 with fail
    go_cut [16, 15] (fun r q wc => q = .int .u64 (q1 : Int) ∧ (∃ r' : Nat, r = .int .u64 (r' : Int)) ∧ wc = w1)
    case first =>
      go_wp2_with fail
      go_loopw [16, 15] (fun r q wr => ∃ (g r0 : Nat), q = .int .u64 g ∧ r = .int .u64 r0 ∧ M.Kn 4294967296 u d1 y1 y0 yn g r0 ∧ r0 < 4294967296 ∧ wr = w1) (fun _ q _ => (intOf q).toNat)
      case atStart => exact ⟨g1, r1, rfl, rfl, HK1.out, hr1l, rfl⟩
      case round =>
        obtain ⟨g, r0, rfl, rfl, hK, hr0, rfl⟩ := hrel
        have hgb0 : g < 18446744073709551616 := by have := hK.le; omega
        by_cases hge : 4294967296 ≤ g
        · have hge' : (4294967296 : Int) ≤ (g : Int) := by omega
          obtain ⟨hg0, hK2⟩ := hK.down HYY.out hynp hu2 hd1 (Or.inl hge)
          obtain ⟨g', eg'⟩ : ∃ t : Nat, t = g - 1 := ⟨_, rfl⟩
          obtain ⟨r', er'⟩ : ∃ t : Nat, t = r0 + y1 := ⟨_, rfl⟩
          rw [← eg', ← er'] at hK2
          have wg' : (g : Int) - 1 = (g' : Int) := by omega
          have wr' : (r0 : Int) + (y1 : Int) = (r' : Int) := by omega
          have hgb : g' < 18446744073709551616 := by have := hK2.le; omega
          have hrb : r' < 18446744073709551616 := by omega
          have hgC : g' ≤ 4294967296 := by have := hK.le; omega
          have HG := hid eg'; have HR := hid er'
          clear eg' er'
          by_cases hw : 4294967296 ≤ r'
          · have hw' : (4294967296 : Int) ≤ (r' : Int) := by omega
            have hfin : g' = q1 := by rw [EQ1.out]; exact hK2.wide HYY.out hynp hy0 hgC hw
            have HF := hid hfin; have HK2 := hid hK2; clear hfin hK hK2
            go_wp2_with fail
            go_meet
            case rel => rw [HF.out]; exact ⟨rfl, ⟨r', rfl⟩, by first | rfl | trivial⟩
          · have hw' : ¬ (4294967296 : Int) ≤ (r' : Int) := by omega
            have HK2 := hid hK2; clear hK hK2
            go_wp2_with fail
            go_roundw
            case rel =>
              first | exact ⟨g', r', rfl, rfl, HK2.out, by omega, by first | rfl | trivial⟩ | (refine ⟨g', r', rfl, rfl, HK2.out, by omega, ?_⟩; trace_state; rfl)
            case measure => simp [intOf]; have := HG.out; omega
        · have hge' : ¬ (4294967296 : Int) ≤ (g : Int) := by omega
          obtain ⟨p, ep⟩ : ∃ t : Nat, t = g * y0 := ⟨_, rfl⟩
          obtain ⟨c0, ec0⟩ : ∃ t : Nat, t = 4294967296 * r0 := ⟨_, rfl⟩
          obtain ⟨t0', et0⟩ : ∃ t : Nat, t = c0 + d1 := ⟨_, rfl⟩
          have hpb : p < 18446744073709551616 := by
            rw [ep]; exact Nat.lt_of_le_of_lt (Nat.mul_le_mul (show g ≤ 4294967295 by omega) (show y0 ≤ 4294967295 by omega)) (by omega)
          have wp : IntKind.u64.wrap ((g : Int) * (y0 : Int)) = (p : Int) := wrapMul g y0 p ep hpb
          have wc0 : (4294967296 : Int) * (r0 : Int) = (c0 : Int) := by omega
          have wt0 : (c0 : Int) + (d1 : Int) = (t0' : Int) := by omega
          have hc0b : c0 < 18446744073709551616 := by omega
          have ht0b : t0' < 18446744073709551616 := by omega
          have hlt1 : 4294967296 * r0 + d1 = t0' := by omega
          have EP := hid ep; have EC := hid ec0; have ET := hid et0
          by_cases htp : t0' < p
          · have htp' : (t0' : Int) < (p : Int) := by omega
            have hlt : 4294967296 * r0 + d1 < g * y0 := by rw [hlt1, ← ep]; exact htp
            clear ep ec0 et0 hlt1
            obtain ⟨hg0, hK2⟩ := hK.down HYY.out hynp hu2 hd1 (Or.inr hlt)
            obtain ⟨g', eg'⟩ : ∃ t : Nat, t = g - 1 := ⟨_, rfl⟩
            obtain ⟨r', er'⟩ : ∃ t : Nat, t = r0 + y1 := ⟨_, rfl⟩
            rw [← eg', ← er'] at hK2
            have wg' : (g : Int) - 1 = (g' : Int) := by omega
            have wr' : (r0 : Int) + (y1 : Int) = (r' : Int) := by omega
            have hgb : g' < 18446744073709551616 := by have := hK2.le; omega
            have hrb : r' < 18446744073709551616 := by omega
            have hgC : g' ≤ 4294967296 := by have := hK.le; omega
            have HG := hid eg'; have HR := hid er'
            clear eg' er'
            by_cases hw : 4294967296 ≤ r'
            · have hw' : (4294967296 : Int) ≤ (r' : Int) := by omega
              have hfin : g' = q1 := by rw [EQ1.out]; exact hK2.wide HYY.out hynp hy0 hgC hw
              have HF := hid hfin; have HK2 := hid hK2; clear hfin hK hK2
              go_wp2_with fail
              go_meet
              case rel => rw [HF.out]; exact ⟨rfl, ⟨r', rfl⟩, by first | rfl | trivial⟩
            · have hw' : ¬ (4294967296 : Int) ≤ (r' : Int) := by omega
              have HK2 := hid hK2; clear hK hK2
              go_wp2_with fail
              go_roundw
              case rel =>
                first | exact ⟨g', r', rfl, rfl, HK2.out, by omega, by first | rfl | trivial⟩ | (refine ⟨g', r', rfl, rfl, HK2.out, by omega, ?_⟩; trace_state; rfl)
              case measure => simp [intOf]; have := HG.out; omega
          · have htp' : ¬ (t0' : Int) < (p : Int) := by omega
            have hfin : g = q1 := by rw [EQ1.out]; exact hK.stop HYY.out hynp (by rw [hlt1, ← ep]; omega)
            have HF := hid hfin; clear hfin hK ep ec0 et0 hlt1
            go_wp2_with fail
            go_meet
            case rel => rw [HF.out]; exact ⟨rfl, ⟨r0, rfl⟩, by first | rfl | trivial⟩
    case rest =>
      obtain ⟨rfl, ⟨rz0, rfl⟩, rfl⟩ := hcut
      rename World => wz
      have hqC : q1 < 4294967296 := by
        rw [EQ1.out, Nat.div_lt_iff_lt_mul hynp]
        have h1 : (u + 1) * 4294967296 ≤ yn * 4294967296 := Nat.mul_le_mul_right _ hu2
        rw [Nat.mul_comm 4294967296 yn]; omega
      have hu2l : u2 < yn := by rw [EU2.out]; exact Nat.mod_lt _ hynp
      have hu2b : u2 < 18446744073709551616 := by omega
      obtain ⟨p1, ep1⟩ : ∃ p : Nat, p = u * 4294967296 % 18446744073709551616 := ⟨_, rfl⟩
      obtain ⟨p2, ep2⟩ : ∃ p : Nat, p = (p1 + d1) % 18446744073709551616 := ⟨_, rfl⟩
      obtain ⟨p3, ep3⟩ : ∃ p : Nat, p = q1 * yn % 18446744073709551616 := ⟨_, rfl⟩
      have hp1b : p1 < 18446744073709551616 := by omega
      have hp2b : p2 < 18446744073709551616 := by omega
      have hp3b : p3 < 18446744073709551616 := by omega
      have wp1 : IntKind.u64.wrap ((u : Int) * 4294967296) = (p1 : Int) := wrapMulM u 4294967296 p1 ep1
      have wp2 : IntKind.u64.wrap ((p1 : Int) + (d1 : Int)) = (p2 : Int) := by rw [ep2, ← wrapU, Int.natCast_add]
      have wp3 : IntKind.u64.wrap ((q1 : Int) * (yn : Int)) = (p3 : Int) := wrapMulM q1 yn p3 ep3
      have wu2 : IntKind.u64.wrap ((p2 : Int) - (p3 : Int)) = (u2 : Int) := wrapSub p2 p3 u2 (rest_word u d1 q1 yn p1 p2 p3 u2 hyn hynp EQ1.out ep1 ep2 ep3 EU2.out) (by omega)
      have K2 := M.Kn.first (C := 4294967296) (u := u2) (d := d0) (by omega) HYY.out hd0 hu2l hy0 hy1
      obtain ⟨g2, eg2⟩ : ∃ g : Nat, g = u2 / y1 := ⟨_, rfl⟩
      obtain ⟨r2, er2⟩ : ∃ r : Nat, r = u2 % y1 := ⟨_, rfl⟩
      rw [← eg2, ← er2] at K2
      have wg2 : (u2 : Int) / (y1 : Int) = (g2 : Int) := by rw [quo_cast, ← eg2]
      have hr2l : r2 < 4294967296 := by rw [er2]; have := Nat.mod_lt u2 (show 0 < y1 by omega); omega
      have hg2b : g2 < 18446744073709551616 := by have := K2.le; omega
      have wm2 : IntKind.u64.wrap ((g2 : Int) * (y1 : Int)) = ((g2 * y1 : Nat) : Int) := wrapMul g2 y1 _ rfl (by have := K2.sum; omega)
      obtain ⟨gy2, egy2⟩ : ∃ t : Nat, t = g2 * y1 := ⟨_, rfl⟩
      rw [← egy2] at wm2
      have ws2 : (u2 : Int) - (gy2 : Int) = (r2 : Int) := by have := K2.sum; rw [← egy2] at this; omega
      obtain ⟨q0, eq0⟩ : ∃ q : Nat, q = (u2 * 4294967296 + d0) / yn := ⟨_, rfl⟩
      obtain ⟨hw1, hw2⟩ := M.kn_whole hynp EQ1.out EU2.out eq0
      obtain ⟨t1', et1⟩ : ∃ p : Nat, p = u2 * 4294967296 % 18446744073709551616 := ⟨_, rfl⟩
      obtain ⟨t2', et2⟩ : ∃ p : Nat, p = (t1' + d0) % 18446744073709551616 := ⟨_, rfl⟩
      obtain ⟨t3', et3⟩ : ∃ p : Nat, p = q0 * yn % 18446744073709551616 := ⟨_, rfl⟩
      obtain ⟨R2, eR2⟩ : ∃ p : Nat, p = R * 2 ^ s := ⟨_, rfl⟩
      have hR3 : R2 = (u2 * 4294967296 + d0) % yn := by
        rw [hw2, eR2, HR2.out, HVV.out]
      have ht1b : t1' < 18446744073709551616 := by omega
      have ht2b : t2' < 18446744073709551616 := by omega
      have ht3b : t3' < 18446744073709551616 := by omega
      have hR2b : R2 < 18446744073709551616 := by rw [hR3]; have := Nat.mod_lt (u2 * 4294967296 + d0) hynp; omega
      have wt1 : IntKind.u64.wrap ((u2 : Int) * 4294967296) = (t1' : Int) := wrapMulM u2 4294967296 t1' et1
      have wt2 : IntKind.u64.wrap ((t1' : Int) + (d0 : Int)) = (t2' : Int) := by rw [et2, ← wrapU, Int.natCast_add]
      have wt3 : IntKind.u64.wrap ((q0 : Int) * (yn : Int)) = (t3' : Int) := wrapMulM q0 yn t3' et3
      have wR2 : IntKind.u64.wrap ((t2' : Int) - (t3' : Int)) = (R2 : Int) := wrapSub t2' t3' R2 (rest_word u2 d0 q0 yn t1' t2' t3' R2 hyn hynp eq0 et1 et2 et3 hR3) (by omega)
      have wR : (R2 : Int) / 2 ^ s = (R : Int) := by rw [div_cast, eR2, Nat.mul_div_cancel _ (Nat.pow_pos (by omega))]
      obtain ⟨m1, em1⟩ : ∃ p : Nat, p = q1 * 4294967296 := ⟨_, rfl⟩
      have wm1' : (q1 : Int) * 4294967296 = (m1 : Int) := by omega
      have hm1b : m1 < 18446744073709551616 := by omega
      have hQ3 : Q = m1 + q0 := by rw [em1, hw1, HQ2.out, HVV.out]
      have wQ : (m1 : Int) + (q0 : Int) = (Q : Int) := by omega
      have hq0C : q0 < 4294967296 := by
        rw [eq0, Nat.div_lt_iff_lt_mul hynp]
        have h1 : (u2 + 1) * 4294967296 ≤ yn * 4294967296 := Nat.mul_le_mul_right _ hu2l
        rw [Nat.mul_comm 4294967296 yn]; omega
      have hQb : Q < 18446744073709551616 := by omega
      have hRb : R < 18446744073709551616 := by
        have h2 : R * 1 ≤ R * 2 ^ s := Nat.mul_le_mul_left _ (Nat.pow_pos (by omega))
        omega
      have HK2 := hid K2; have EQ0 := hid eq0
      clear K2 eq0 hw1 hw2 et1 et2 et3 eR2 hR3 em1 hQ3 ep1 ep2 ep3 eg2 er2 egy2
      go_upto_block 2 with fail
      go_cut [16, 18] (fun r q wc => q = .int .u64 (q0 : Int) ∧ (∃ r' : Nat, r = .int .u64 (r' : Int)) ∧ wc = wz)
      case first =>
        go_wp2_with fail
        go_loopw [16, 18] (fun r q wr => ∃ (g r0 : Nat), q = .int .u64 g ∧ r = .int .u64 r0 ∧ M.Kn 4294967296 u2 d0 y1 y0 yn g r0 ∧ r0 < 4294967296 ∧ wr = wz) (fun _ q _ => (intOf q).toNat)
        case atStart => exact ⟨g2, r2, rfl, rfl, HK2.out, hr2l, rfl⟩
        case round =>
          obtain ⟨g, r0, rfl, rfl, hK, hr0, rfl⟩ := hrel
          have hgb0 : g < 18446744073709551616 := by have := hK.le; omega
          by_cases hge : 4294967296 ≤ g
          · have hge' : (4294967296 : Int) ≤ (g : Int) := by omega
            obtain ⟨hg0, hK2⟩ := hK.down HYY.out hynp hu2l hd0 (Or.inl hge)
            obtain ⟨g', eg'⟩ : ∃ t : Nat, t = g - 1 := ⟨_, rfl⟩
            obtain ⟨r', er'⟩ : ∃ t : Nat, t = r0 + y1 := ⟨_, rfl⟩
            rw [← eg', ← er'] at hK2
            have wg' : (g : Int) - 1 = (g' : Int) := by omega
            have wr' : (r0 : Int) + (y1 : Int) = (r' : Int) := by omega
            have hgb : g' < 18446744073709551616 := by have := hK2.le; omega
            have hrb : r' < 18446744073709551616 := by omega
            have hgC : g' ≤ 4294967296 := by have := hK.le; omega
            have HG := hid eg'; have HR := hid er'
            clear eg' er'
            by_cases hw : 4294967296 ≤ r'
            · have hw' : (4294967296 : Int) ≤ (r' : Int) := by omega
              have hfin : g' = q0 := by rw [EQ0.out]; exact hK2.wide HYY.out hynp hy0 hgC hw
              have HF := hid hfin; have HK2 := hid hK2; clear hfin hK hK2
              go_wp2_with fail
              go_meet
              case rel => rw [HF.out]; exact ⟨rfl, ⟨r', rfl⟩, by first | rfl | trivial⟩
            · have hw' : ¬ (4294967296 : Int) ≤ (r' : Int) := by omega
              have HK2 := hid hK2; clear hK hK2
              go_wp2_with fail
              go_roundw
              case rel =>
                first | exact ⟨g', r', rfl, rfl, HK2.out, by omega, by first | rfl | trivial⟩ | (refine ⟨g', r', rfl, rfl, HK2.out, by omega, ?_⟩; trace_state; rfl)
              case measure => simp [intOf]; have := HG.out; omega
          · have hge' : ¬ (4294967296 : Int) ≤ (g : Int) := by omega
            obtain ⟨p, ep⟩ : ∃ t : Nat, t = g * y0 := ⟨_, rfl⟩
            obtain ⟨c0, ec0⟩ : ∃ t : Nat, t = 4294967296 * r0 := ⟨_, rfl⟩
            obtain ⟨t0', et0⟩ : ∃ t : Nat, t = c0 + d0 := ⟨_, rfl⟩
            have hpb : p < 18446744073709551616 := by
              rw [ep]; exact Nat.lt_of_le_of_lt (Nat.mul_le_mul (show g ≤ 4294967295 by omega) (show y0 ≤ 4294967295 by omega)) (by omega)
            have wp : IntKind.u64.wrap ((g : Int) * (y0 : Int)) = (p : Int) := wrapMul g y0 p ep hpb
            have wc0 : (4294967296 : Int) * (r0 : Int) = (c0 : Int) := by omega
            have wt0 : (c0 : Int) + (d0 : Int) = (t0' : Int) := by omega
            have hc0b : c0 < 18446744073709551616 := by omega
            have ht0b : t0' < 18446744073709551616 := by omega
            have hlt1 : 4294967296 * r0 + d0 = t0' := by omega
            have EP := hid ep; have EC := hid ec0; have ET := hid et0
            by_cases htp : t0' < p
            · have htp' : (t0' : Int) < (p : Int) := by omega
              have hlt : 4294967296 * r0 + d0 < g * y0 := by rw [hlt1, ← ep]; exact htp
              clear ep ec0 et0 hlt1
              obtain ⟨hg0, hK2⟩ := hK.down HYY.out hynp hu2l hd0 (Or.inr hlt)
              obtain ⟨g', eg'⟩ : ∃ t : Nat, t = g - 1 := ⟨_, rfl⟩
              obtain ⟨r', er'⟩ : ∃ t : Nat, t = r0 + y1 := ⟨_, rfl⟩
              rw [← eg', ← er'] at hK2
              have wg' : (g : Int) - 1 = (g' : Int) := by omega
              have wr' : (r0 : Int) + (y1 : Int) = (r' : Int) := by omega
              have hgb : g' < 18446744073709551616 := by have := hK2.le; omega
              have hrb : r' < 18446744073709551616 := by omega
              have hgC : g' ≤ 4294967296 := by have := hK.le; omega
              have HG := hid eg'; have HR := hid er'
              clear eg' er'
              by_cases hw : 4294967296 ≤ r'
              · have hw' : (4294967296 : Int) ≤ (r' : Int) := by omega
                have hfin : g' = q0 := by rw [EQ0.out]; exact hK2.wide HYY.out hynp hy0 hgC hw
                have HF := hid hfin; have HK2 := hid hK2; clear hfin hK hK2
                go_wp2_with fail
                go_meet
                case rel => rw [HF.out]; exact ⟨rfl, ⟨r', rfl⟩, by first | rfl | trivial⟩
              · have hw' : ¬ (4294967296 : Int) ≤ (r' : Int) := by omega
                have HK2 := hid hK2; clear hK hK2
                go_wp2_with fail
                go_roundw
                case rel =>
                  first | exact ⟨g', r', rfl, rfl, HK2.out, by omega, by first | rfl | trivial⟩ | (refine ⟨g', r', rfl, rfl, HK2.out, by omega, ?_⟩; trace_state; rfl)
                case measure => simp [intOf]; have := HG.out; omega
            · have htp' : ¬ (t0' : Int) < (p : Int) := by omega
              have hfin : g = q0 := by rw [EQ0.out]; exact hK.stop HYY.out hynp (by rw [hlt1, ← ep]; omega)
              have HF := hid hfin; clear hfin hK ep ec0 et0 hlt1
              go_wp2_with fail
              go_meet
              case rel => rw [HF.out]; exact ⟨rfl, ⟨r0, rfl⟩, by first | rfl | trivial⟩
      case rest =>
        obtain ⟨rfl, ⟨rz2, rfl⟩, rfl⟩ := hcut
        go_wp2_with fail
        go_ret2
        exact ⟨rfl, 0, rfl⟩

end Go.Proofs.YtehplfmnipadmaeDoor

namespace Go.Proofs.YtehplfmnipadmaeDoor
open Go.RowKit
set_option linter.unusedVariables false
set_option maxRecDepth 100000

theorem M.limb_step {T' T r x q r' d : Nat} {B : Nat} (h : T' * d + r = T) (hq : q * d + r' = r * B + x) : (q + B * T') * d + r' = x + B * T := by
  rw [← h, Nat.add_mul, Nat.mul_add, Nat.mul_assoc, Nat.mul_comm B r]
  omega

theorem M.drop_take_set (cur : List Nat) (N k x : Nat) (hk : k < N) (hl : N ≤ cur.length) : V (((cur.set k x).take N).drop k) = x + 18446744073709551616 * V ((cur.take N).drop (k + 1)) := by
  rw [List.take_set, V_drop _ _ (by simp; omega), M.getD_set_eq _ _ _ (by simp; omega), List.drop_set_of_lt (by omega)]

set_option maxHeartbeats 1000000 in
theorem divLimbIn_any (g N cap d : Nat) (ao : Option Addr) (zs : List Nat) (w : World) (hao : 0 < N → ao = some ⟨g, 0, none⟩) (hB : Blk w g zs) (hz : F64 zs) (ho : N ≤ zs.length) (hN : N ≤ 4194304) (hd : 0 < d) (hdb : d < 18446744073709551616) :
    Calls Tryd.prog 99 #[.slice ao N cap, .int .u64 (d : Int)] w fun e w' => e = .returned (.int .u64 ((V (zs.take N) % d : Nat) : Int)) ∧ w.grownBy w' (some g) ∧ ∃ cur, Blk w' g cur ∧ M.Wrote 18446744073709551616 zs 0 N cur ∧ V (cur.take N) = V (zs.take N) / d := by
  go_enter Tryd.func99, Tryd.ntmps99
  go_wp2_with fail
  go_loopw [5, 6] (fun rs i wr => ∃ (k : Nat) (cur : List Nat) (r : Nat), k ≤ N ∧ i = .int .i64 ((k : Int) - 1) ∧ rs = .int .u64 (r : Int) ∧ r < d ∧ Blk wr g cur ∧ M.Wrote 18446744073709551616 zs 0 N cur ∧ w.grownBy wr (some g) ∧ (∀ j, j < k → cur.getD j 0 = zs.getD j 0) ∧ V ((cur.take N).drop k) * d + r = V ((zs.take N).drop k)) (fun _ i _ => (intOf i + 1).toNat)
  case atStart =>
    refine ⟨N, zs, 0, by omega, by go_num, rfl, hd, hB, M.Wrote.refl hz _ _, World.grownBy.refl _ _, fun _ _ => rfl, ?_⟩
    rw [List.drop_of_length_le (by rw [List.length_take]; omega)]; simp [V, M.val]
  case round =>
    obtain ⟨k, cur, r, hk, rfl, rfl, hrd, hBk, hW, hg, hlow, hv⟩ := hrel
    have HV := hid hv; clear hv
    have HL := hid hlow; clear hlow
    by_cases hlt : 0 < k
    · obtain ⟨k, rfl⟩ : ∃ k', k = k' + 1 := ⟨k - 1, by omega⟩
      have e1 : (((k + 1 : Nat) : Int) - 1) = (k : Int) := by omega
      rw [e1]
      have hao' := hao (by omega)
      have hcs := hBk.cell k (by have := hW.len; omega)
      have hfs := hBk.frozen k
      rw [HL.out k (by omega)] at hcs
      have hx1 : zs.getD k 0 < 18446744073709551616 := F64.get hz k
      obtain ⟨x, hxx⟩ : ∃ x : Nat, x = zs.getD k 0 := ⟨_, rfl⟩
      rw [← hxx] at hcs hx1
      have HX := hid hxx; clear hxx
      have hge : (0 : Int) ≤ (k : Int) := by omega
      have hlt2 : (k : Int) < (N : Int) := by omega
      obtain ⟨Q, hQ⟩ : ∃ Q, Q = (r * 18446744073709551616 + x) / d := ⟨_, rfl⟩
      obtain ⟨R, hR⟩ : ∃ R, R = (r * 18446744073709551616 + x) % d := ⟨_, rfl⟩
      have hRd : R < d := by rw [hR]; exact Nat.mod_lt _ hd
      have hsum : Q * d + R = r * 18446744073709551616 + x := by rw [hQ, hR, Nat.mul_comm]; exact Nat.div_add_mod _ _
      have hQb : Q < 18446744073709551616 := by
        rw [hQ, Nat.div_lt_iff_lt_mul hd]
        have h1 : (r + 1) * 18446744073709551616 ≤ d * 18446744073709551616 := Nat.mul_le_mul_right _ hrd
        rw [Nat.mul_comm 18446744073709551616 d]; omega
      have EQ := hid hQ; have ER := hid hR; have ES := hid hsum
      clear hQ hR hsum
      have HB := hid hBk; clear hBk
      have HG := hid hg; clear hg
      go_wp2_with fail
      refine (div64_any r x d _ hx1 hdb hrd Q R EQ.out ER.out).mono ?_
      rintro e v1 ⟨rfl, q1, hv1⟩
      have hcs1 : v1.cell? ⟨g, k, none⟩ = some (.int .u64 (x : Int)) := by rw [hv1]; exact hcs
      have hfs1 : v1.frozen? ⟨g, k, none⟩ = false := by rw [hv1]; exact hfs
      have hB1 : Blk v1 g cur := by rw [hv1]; exact HB.out.drewN _
      have hg1 : w.grownBy v1 (some g) := by rw [hv1]; exact grown_trans HG.out (grown_drewN _ _ _)
      clear hv1 hcs hfs
      have HB1 := hid hB1; have HG1 := hid hg1
      clear hB1 hg1
      go_wp2_with fail
      have hW3 := hW.set k Q (by omega) hQb
      rw [Nat.zero_add] at hW3
      go_roundw
      case rel =>
        have R : ∃ (k1 : Nat) (cur1 : List Nat) (r1 : Nat), k1 ≤ N ∧ Value.int .i64 ((k : Int) - 1) = .int .i64 ((k1 : Int) - 1) ∧ Value.int .u64 (R : Int) = .int .u64 (r1 : Int) ∧ r1 < d ∧ Blk (v1.setCell ⟨g, k, none⟩ (.int .u64 (Q : Int))) g cur1 ∧ M.Wrote 18446744073709551616 zs 0 N cur1 ∧ w.grownBy (v1.setCell ⟨g, k, none⟩ (.int .u64 (Q : Int))) (some g) ∧ (∀ j, j < k1 → cur1.getD j 0 = zs.getD j 0) ∧ V ((cur1.take N).drop k1) * d + r1 = V ((zs.take N).drop k1) := by
          refine ⟨k, cur.set k Q, R, by omega, rfl, rfl, hRd, HB1.out.set _ _ _ rfl, hW3, grown_trans HG1.out (grown_setCell _ _ _ _), fun j hj => ?_, ?_⟩
          · rw [M.getD_set_ne _ _ _ _ (by omega)]; exact HL.out j (by omega)
          · rw [M.drop_take_set _ _ _ _ (by omega) (by have := hW.len; omega), V_drop (zs.take N) k (by simp; omega)]
            have e2 : (zs.take N).getD k 0 = x := by rw [HX.out]; simp [List.getD_eq_getElem?_getD, List.getElem?_take]; rw [if_pos (by omega)]
            rw [e2]
            exact M.limb_step HV.out ES.out
        first | exact R | ((repeat apply Exists.intro); exact ⟨R, rfl⟩) | ((repeat apply Exists.intro); exact ⟨R, by rw [hao']⟩)
      case measure => simp [intOf] <;> omega
    · have e : k = 0 := by omega
      subst e
      have HBk := hid hBk; clear hBk
      have HG := hid hg; clear hg
      have hge : ¬ (0 : Int) ≤ ((0 : Nat) : Int) - 1 := by omega
      go_wp2_with fail
      go_ret
      have h1 := HV.out
      simp only [List.drop_zero] at h1
      have h2 : V (zs.take N) % d = r := by rw [← h1, Nat.mul_comm, Nat.mul_add_mod, Nat.mod_eq_of_lt hrd]
      have h3 : V (zs.take N) / d = V (cur.take N) := by rw [← h1, Nat.mul_comm, Nat.mul_add_div hd, Nat.div_eq_of_lt hrd, Nat.add_zero]
      have h4 : ((V (zs.take N) : Nat) : Int) % (d : Int) = (r : Int) := by rw [← Int.natCast_emod, h2]
      exact ⟨by rw [h4]; rfl, HG.out, cur, HBk.out, hW, h3.symm⟩

end Go.Proofs.YtehplfmnipadmaeDoor

namespace Go.Proofs.YtehplfmnipadmaeDoor.M
set_option linter.unusedVariables false
set_option maxRecDepth 100000

/-- What holds of a guess g with what is left, l: B is a limb, t and s the divisor's two highest limbs, W the two highest limbs of the window, x the third. -/
structure Es (B t s W x g l : Nat) : Prop where
  sum : g * t + l = W
  lt : g < B
  ge : ∀ q, q < B → q * (t * B + s) ≤ W * B + x → q ≤ g
  small : l < 2 * B

theorem es_mul {B t s W x g l : Nat} (h : g * t + l = W) : g * (t * B + s) + l * B = W * B + g * s := by
  rw [← h, Nat.mul_add, Nat.add_mul, Nat.mul_assoc]; omega

theorem Es.start {B t s W x g l : Nat} (h : g * t + l = W) (hg : g < B) (hl : l < 2 * B) (hx : x < B) (hge : ∀ q, q < B → q * t ≤ W → q ≤ g) : Es B t s W x g l := by
  refine ⟨h, hg, fun q hq h1 => hge q hq ?_, hl⟩
  have h2 : q * t * B ≤ q * (t * B + s) := by rw [Nat.mul_add, Nat.mul_assoc]; omega
  have h3 : q * t * B < (W + 1) * B := by rw [Nat.add_mul]; omega
  have := Nat.lt_of_mul_lt_mul_right h3
  omega

theorem Es.stop {B t s W x g l : Nat} (h : Es B t s W x g l) (hs : g * s ≤ l * B + x) : g * (t * B + s) ≤ W * B + x := by
  have := es_mul (B := B) (s := s) (x := x) h.sum
  omega

theorem Es.wide {B t s W x g l : Nat} (h : Es B t s W x g l) (hs : s < B) (hl : B ≤ l) : g * (t * B + s) ≤ W * B + x := by
  refine h.stop ?_
  have h1 : g * s ≤ B * B := Nat.mul_le_mul (Nat.le_of_lt h.lt) (Nat.le_of_lt hs)
  have h2 : B * B ≤ l * B := Nat.mul_le_mul_right _ hl
  omega

theorem Es.down {B t s W x g l : Nat} (h : Es B t s W x g l) (ht : t < B) (hl : l < B) (hs : l * B + x < g * s) : 1 ≤ g ∧ Es B t s W x (g - 1) (l + t) := by
  have e := es_mul (B := B) (s := s) (x := x) h.sum
  have hg1 : 1 ≤ g := by
    rcases Nat.eq_zero_or_pos g with rfl | h0
    · simp at hs
    · exact h0
  refine ⟨hg1, ?_, by have := h.lt; omega, fun q hq h1 => ?_, by omega⟩
  · have := h.sum
    obtain ⟨m, rfl⟩ : ∃ m, g = m + 1 := ⟨g - 1, by omega⟩
    rw [Nat.add_sub_cancel]
    rw [Nat.add_mul, Nat.one_mul] at this
    omega
  · have h2 := h.ge q hq h1
    rcases Nat.lt_or_ge q g with h3 | h3
    · omega
    · have : q = g := by omega
      subst this
      omega

/-- The digit lies at the guess or one below. -/
theorem guess_ge {P D2 d0 W3 w0 q : Nat} (hw : w0 < P) (h : q * (D2 * P + d0) ≤ W3 * P + w0) : q * D2 ≤ W3 := by
  have h2 : q * D2 * P ≤ q * (D2 * P + d0) := by rw [Nat.mul_add, Nat.mul_assoc]; omega
  have h3 : q * D2 * P < (W3 + 1) * P := by rw [Nat.add_mul]; omega
  have := Nat.lt_of_mul_lt_mul_right h3
  omega

theorem guess_le {P D2 d0 W3 w0 m : Nat} (hd : d0 < P) (hm : m ≤ D2) (h : (m + 1) * D2 ≤ W3) : m * (D2 * P + d0) ≤ W3 * P + w0 := by
  have h1 : m * (D2 * P + d0) ≤ m * (D2 * P + P) := Nat.mul_le_mul_left _ (by omega)
  have h2 : m * (D2 * P + P) = (m * D2 + m) * P := by rw [Nat.mul_add, ← Nat.mul_assoc, Nat.add_mul]
  have h3 : (m * D2 + m) * P ≤ W3 * P := Nat.mul_le_mul_right _ (by rw [Nat.add_mul] at h; omega)
  omega

/-- The digit of a place, where the guess fits: S is what the lower limbs held, S1 what they hold. -/
theorem place_fits {S S1 c z Bn g D W q : Nat} (hW : W = S + Bn * z) (hs : S1 + g * D = S + c * Bn) (hfit : c ≤ z) (hlt : ∀ q, q * D ≤ W → q ≤ g) (hD : 0 < D) :
    S1 + Bn * (z - c) + g * D = W ∧ S1 + Bn * (z - c) < D := by
  obtain ⟨e, rfl⟩ : ∃ e, z = c + e := ⟨z - c, by omega⟩
  rw [Nat.add_sub_cancel_left]
  rw [Nat.mul_add, Nat.mul_comm Bn c] at hW
  have e1 : S1 + Bn * e + g * D = W := by omega
  refine ⟨e1, ?_⟩
  rcases Nat.lt_or_ge (S1 + Bn * e) D with h | h
  · exact h
  · have := hlt (g + 1) (by rw [Nat.add_mul]; omega)
    omega

/-- The same where it does not: one less, and the divisor added back; S2 is what the window then holds, c2 the carry that is lost. -/
theorem place_back {S S1 c z Bn g D W B S2 c2 : Nat} (hW : W = S + Bn * z) (hs : S1 + g * D = S + c * Bn) (hfit : z < c) (hcB : c ≤ B + z) (hS : S < Bn) (hS1 : S1 < Bn) (hg : (g - 1) * D ≤ W) (hg1 : 1 ≤ g)
    (h2 : S2 + c2 * (Bn * B) = S1 + Bn * (z + B - c) + D) (hS2 : S2 < Bn * B) (hDB : D ≤ Bn) (hD : 0 < D) : S2 + (g - 1) * D = W ∧ S2 < D := by
  obtain ⟨m, rfl⟩ : ∃ m, g = m + 1 := ⟨g - 1, by omega⟩
  rw [Nat.add_sub_cancel] at *
  rw [Nat.add_mul, Nat.one_mul] at hs
  obtain ⟨e, rfl⟩ : ∃ e, B = e + (c - z) := ⟨B - (c - z), by omega⟩
  obtain ⟨f, rfl⟩ : ∃ f, c = z + f := ⟨c - z, by omega⟩
  have e1 : z + (e + (z + f - z)) - (z + f) = e := by omega
  have e3 : z + f - z = f := by omega
  rw [e1, e3] at h2
  rw [e3] at hS2
  rw [Nat.add_mul] at hs
  rw [Nat.mul_add Bn e f] at h2 hS2
  have hf : 1 ≤ f := by omega
  have e4 : Bn * f = f * Bn := Nat.mul_comm _ _
  have e5 : Bn * z = z * Bn := Nat.mul_comm _ _
  rw [e4] at h2 hS2
  rw [e5] at hW
  have hfB : Bn ≤ f * Bn := Nat.le_mul_of_pos_left _ hf
  -- c2 is 1
  have hc2 : c2 = 1 := by
    rcases Nat.eq_zero_or_pos c2 with rfl | h0
    · simp only [Nat.zero_mul, Nat.add_zero] at h2
      omega
    · rcases Nat.lt_or_ge c2 2 with h | h
      · omega
      · have h6 : 2 * (Bn * e + f * Bn) ≤ c2 * (Bn * e + f * Bn) := Nat.mul_le_mul_right _ h
        omega
  subst hc2
  rw [Nat.one_mul] at h2
  constructor <;> omega

end Go.Proofs.YtehplfmnipadmaeDoor.M

namespace Go.Proofs.YtehplfmnipadmaeDoor.M
set_option linter.unusedVariables false
set_option maxRecDepth 100000

theorem val_seg_succ (B : Nat) (xs : List Nat) (off j : Nat) : val B (seg xs off (j + 1)) = val B (seg xs off j) + B ^ j * xs.getD (off + j) 0 := by
  unfold seg
  rw [val_take_succ]
  congr 2
  simp [List.getD_eq_getElem?_getD]

theorem three_limbs (P B S a b c : Nat) : S + P * a + P * B * b + P * B * B * c = ((c * B + b) * B + a) * P + S := by
  have e1 : P * B * b = b * B * P := by rw [Nat.mul_comm (P * B) b, Nat.mul_comm P B, Nat.mul_assoc]
  have e2 : P * B * B * c = c * B * B * P := by rw [Nat.mul_comm (P * B * B) c, Nat.mul_comm P B, Nat.mul_comm (B * P) B, Nat.mul_assoc, Nat.mul_assoc]
  rw [e1, e2, Nat.add_mul, Nat.add_mul, Nat.add_mul, Nat.mul_comm P a]
  omega

theorem two_limbs (P B S a b : Nat) : S + P * a + P * B * b = (b * B + a) * P + S := by
  have e1 : P * B * b = b * B * P := by rw [Nat.mul_comm (P * B) b, Nat.mul_comm P B, Nat.mul_assoc]
  rw [e1, Nat.add_mul, Nat.mul_comm P a]
  omega

theorem win_facts {B : Nat} (hB : 1 < B) (cur ys : List Nat) (p n2 N : Nat) (hc : ∀ x ∈ cur, x < B) (hy : ∀ x ∈ ys, x < B) (hl : cur.length = N) (hyl : ys.length = n2 + 2) (hp : p + (n2 + 2) + 1 ≤ N) (hlt : val B cur < val B ys * B ^ (p + 1)) :
    ∃ S w0 d0 W : Nat, W = val B (seg cur p (n2 + 2 + 1)) ∧ S = val B (seg cur p (n2 + 2)) ∧ W = S + B ^ (n2 + 2) * cur.getD (p + (n2 + 2)) 0 ∧ S < B ^ (n2 + 2) ∧
      W = ((cur.getD (p + (n2 + 2)) 0 * B + cur.getD (p + (n2 + 1)) 0) * B + cur.getD (p + n2) 0) * B ^ n2 + w0 ∧ w0 < B ^ n2 ∧
      val B ys = (ys.getD (n2 + 1) 0 * B + ys.getD n2 0) * B ^ n2 + d0 ∧ d0 < B ^ n2 ∧ W < val B ys * B ∧ cur.getD (p + (n2 + 2)) 0 ≤ ys.getD (n2 + 1) 0 ∧ val B (cur.drop (p + (n2 + 2 + 1))) = 0 := by
  have hPp : 0 < B ^ p := Nat.pow_pos (by omega)
  have hP2 : 0 < B ^ n2 := Nat.pow_pos (by omega)
  have s1 := val_seg_succ B cur p (n2 + 2)
  have s2 := val_seg_succ B cur p (n2 + 1)
  have s3 := val_seg_succ B cur p n2
  have y1 := val_take_succ B ys (n2 + 1)
  have y2 := val_take_succ B ys n2
  rw [List.take_of_length_le (show ys.length ≤ n2 + 1 + 1 by omega)] at y1
  have l0 := val_lt hB (seg cur p n2) (seg_lt hc p n2)
  rw [seg_length cur p n2 (by omega)] at l0
  have l1 := val_lt hB (seg cur p (n2 + 2)) (seg_lt hc p (n2 + 2))
  rw [seg_length cur p (n2 + 2) (by omega)] at l1
  have l2 := val_lt hB (ys.take n2) (fun x hx => hy x (List.mem_of_mem_take hx))
  rw [show (ys.take n2).length = n2 by simp; omega] at l2
  have ld := val_lt hB ys hy
  rw [hyl] at ld
  have hsp := val_split B cur p (n2 + 2 + 1) (by omega)
  have hW : val B (seg cur p (n2 + 2 + 1)) < val B ys * B := by
    have h1 : val B (seg cur p (n2 + 2 + 1)) * B ^ p ≤ val B cur := by
      rw [hsp, Nat.mul_comm _ (B ^ p), Nat.mul_add]; omega
    have h2 : val B (seg cur p (n2 + 2 + 1)) * B ^ p < val B ys * B * B ^ p := by
      have h3 : val B ys * B * B ^ p = val B ys * B ^ (p + 1) := by rw [Nat.mul_assoc, Nat.pow_succ, Nat.mul_comm B]
      rw [h3]; exact Nat.lt_of_le_of_lt h1 hlt
    exact Nat.lt_of_mul_lt_mul_right h2
  have hD : val B ys = (ys.getD (n2 + 1) 0 * B + ys.getD n2 0) * B ^ n2 + val B (ys.take n2) := by
    rw [y1, y2, Nat.pow_succ]; exact two_limbs _ _ _ _ _
  refine ⟨_, _, _, _, rfl, rfl, s1, l1, ?_, l0, hD, l2, hW, ?_, ?_⟩
  · rw [s1, s2, s3, Nat.pow_succ, Nat.pow_succ]; exact three_limbs _ _ _ _ _ _
  · generalize cur.getD (p + (n2 + 2)) 0 = wn at *
    generalize ys.getD (n2 + 1) 0 = top at *
    have hs : ys.getD n2 0 < B := getD_lt hB hy _
    generalize ys.getD n2 0 = sec at *
    have h1 : wn * (B ^ n2 * B * B) < (top + 1) * (B ^ n2 * B * B) := by
      have h2 : val B ys < (top * B + sec + 1) * B ^ n2 := by rw [hD, Nat.add_mul (top * B + sec) 1]; omega
      have h3 : (top * B + sec + 1) * B ^ n2 ≤ (top + 1) * B * B ^ n2 := Nat.mul_le_mul_right _ (by rw [Nat.add_mul top 1]; omega)
      have h4 : val B ys * B < (top + 1) * B * B ^ n2 * B := Nat.mul_lt_mul_of_pos_right (by omega) (by omega)
      have h5 : (top + 1) * B * B ^ n2 * B = (top + 1) * (B ^ n2 * B * B) := by
        rw [Nat.mul_assoc (top + 1) B, Nat.mul_comm B (B ^ n2), Nat.mul_assoc (top + 1)]
      have h6 : wn * (B ^ n2 * B * B) ≤ val B (seg cur p (n2 + 2 + 1)) := by
        rw [s1, Nat.pow_succ, Nat.pow_succ, Nat.mul_comm wn]; omega
      omega
    have := Nat.lt_of_mul_lt_mul_right h1
    omega
  · rcases Nat.eq_zero_or_pos (val B (cur.drop (p + (n2 + 2 + 1)))) with h | h
    · exact h
    · have h1 : B ^ p * (B ^ (n2 + 2 + 1) * 1) ≤ B ^ p * (B ^ (n2 + 2 + 1) * val B (cur.drop (p + (n2 + 2 + 1)))) := Nat.mul_le_mul_left _ (Nat.mul_le_mul_left _ h)
      have h2 : B ^ p * (B ^ (n2 + 2 + 1) * 1) ≤ val B cur := by rw [hsp, Nat.mul_add]; omega
      have h3 : val B ys * B ^ (p + 1) < B ^ (n2 + 2) * B ^ (p + 1) := Nat.mul_lt_mul_of_pos_right ld (Nat.pow_pos (by omega))
      have h4 : B ^ (n2 + 2) * B ^ (p + 1) = B ^ p * (B ^ (n2 + 2 + 1) * 1) := by
        rw [Nat.mul_one, ← Nat.pow_add, ← Nat.pow_add]; congr 1; omega
      omega

/-- A place is done: the window holds W' now, the digit is q. -/
theorem win_next {B : Nat} (hB : 1 < B) (cur cur' : List Nat) (p n1 N D Q A W W' q : Nat) (hl : cur.length = N) (hp : p + n1 ≤ N) (hw : Wrote B cur p n1 cur') (hW : W = val B (seg cur p n1)) (hW' : W' = val B (seg cur' p n1)) (h0 : val B (cur.drop (p + n1)) = 0)
    (hq : W' + q * D = W) (hlt : W' < D) (hI : val B cur + D * (B ^ (p + 1) * Q) = A) :
    val B cur' + D * (B ^ p * (q + B * Q)) = A ∧ val B cur' < D * B ^ p := by
  have h1 := val_wrote hw (by omega)
  rw [← hW, ← hW'] at h1
  have hsp := val_split B cur' p n1 (by rw [hw.len]; omega)
  rw [← hW', drop_eq_of cur' cur (p + n1) hw.len (fun j hj => hw.out j (by omega)), h0, Nat.mul_zero, Nat.add_zero] at hsp
  have l0 := val_lt hB (cur'.take p) (fun x hx => hw.lt x (List.mem_of_mem_take hx))
  rw [show (cur'.take p).length = p by simp; rw [hw.len]; omega] at l0
  constructor
  · have e1 : D * (B ^ p * (q + B * Q)) = B ^ p * (q * D) + D * (B ^ (p + 1) * Q) := by
      rw [Nat.mul_add, Nat.mul_add, Nat.pow_succ, Nat.mul_assoc (B ^ p) B Q, Nat.mul_left_comm D, Nat.mul_comm D q]
    have e2 : B ^ p * W = B ^ p * W' + B ^ p * (q * D) := by rw [← hq, Nat.mul_add]
    rw [e1]
    omega
  · have h2 : B ^ p * (W' + 1) ≤ B ^ p * D := Nat.mul_le_mul_left _ hlt
    rw [Nat.mul_add, Nat.mul_one] at h2
    rw [hsp, Nat.mul_comm D]
    omega

end Go.Proofs.YtehplfmnipadmaeDoor.M

namespace Go.Proofs.YtehplfmnipadmaeDoor
open Go.RowKit
set_option linter.unusedVariables false
set_option maxRecDepth 100000

set_option maxHeartbeats 1000000 in
theorem mul64_any (x y : Nat) (w : World) (hx : x < 18446744073709551616) (hy : y < 18446744073709551616) (h l : Nat) (hh : h = x * y / 18446744073709551616) (hl : l = x * y % 18446744073709551616) :
    Calls Tryd.prog 107 #[.int .u64 (x : Int), .int .u64 (y : Int)] w fun e w' => e = .returned (.tuple #[.int .u64 (h : Int), .int .u64 (l : Int)]) ∧ w' = w := by
  subst hh hl
  obtain ⟨bd, bt, bw, hhi⟩ := Lib.mul64_hi x y hx hy
  have ba := Lib.half_mul_le (a := x / 4294967296) (b := y / 4294967296) (by omega) (by omega)
  have bb := Lib.half_mul_le (a := x / 4294967296) (b := y % 4294967296) (by omega) (by omega)
  have bc := Lib.half_mul_le (a := x % 4294967296) (b := y / 4294967296) (by omega) (by omega)
  have ba' : x / 4294967296 * (y / 4294967296) < 18446744073709551616 := by omega
  have bb' : x / 4294967296 * (y % 4294967296) < 18446744073709551616 := by omega
  have bc' : x % 4294967296 * (y / 4294967296) < 18446744073709551616 := by omega
  have bh1 : x / 4294967296 * (y / 4294967296) + (x / 4294967296 * (y % 4294967296) + x % 4294967296 * (y % 4294967296) / 4294967296) / 4294967296 < 18446744073709551616 := by omega
  have bh : x / 4294967296 * (y / 4294967296) + (x / 4294967296 * (y % 4294967296) + x % 4294967296 * (y % 4294967296) / 4294967296) / 4294967296 + ((x / 4294967296 * (y % 4294967296) + x % 4294967296 * (y % 4294967296) / 4294967296) % 4294967296 + x % 4294967296 * (y / 4294967296)) / 4294967296 < 18446744073709551616 := by omega
  go_enter Tryd.func107, Tryd.ntmps107
  go_wp2
  simp only [Mul64.maskN x hx, Mul64.maskN y hy, Mul64.divN, Mul64.mulN, Mul64.addN, Mul64.wrapN _ bd, Mul64.wrapN _ bb', Mul64.wrapN _ bt, Mul64.maskN _ bt, Mul64.wrapN _ bc', Mul64.wrapN _ bw, Mul64.wrapN _ ba', Mul64.wrapN _ bh1, Mul64.wrapN _ bh, Mul64.wrapM (x * y)]
  rw [hhi]
  go_ret2
  exact ⟨rfl, rfl⟩

theorem wrapU_in (x y p : Nat) (hp : p = x + y) (hb : p < 18446744073709551616) : IntKind.u64.wrap ((x : Int) + (y : Int)) = (p : Int) :=
  wrapU2 x y p (by omega)

/-- What addTimesIn leaves: the view holds what it held and f times t, but for the carry c. -/
def TimesPost (w w' : World) (g : Nat) (zs : List Nat) (off N : Nat) (t : Nat) (c : Nat) : Prop :=
  w.grownBy w' (some g) ∧ c < 18446744073709551616 ∧ ∃ cur, Blk w' g cur ∧ M.Wrote 18446744073709551616 zs off N cur ∧ V (M.seg cur off N) + c * 18446744073709551616 ^ N = V (M.seg zs off N) + t

end Go.Proofs.YtehplfmnipadmaeDoor

namespace Go.Proofs.YtehplfmnipadmaeDoor
open Go.RowKit
set_option linter.unusedVariables false
set_option maxRecDepth 100000

/-- One place of 'take f times ys away'. -/
theorem M.less_place (x y f c p : Nat) (hp : p = y * f) (hx : x < 18446744073709551616) (hy : y < 18446744073709551616) (hf : f < 18446744073709551616) (hc : c < 18446744073709551616) :
    ∃ l2 r1 h2 o r2 c' : Nat, l2 = (p % 18446744073709551616 + c) % 18446744073709551616 ∧ r1 = (if (l2 : Int) < (c : Int) then 1 else 0) ∧ h2 = p / 18446744073709551616 + r1 ∧ h2 < 18446744073709551616 ∧
      o = (x + 18446744073709551616 - l2) % 18446744073709551616 ∧ r2 = (if (x : Int) < (l2 : Int) then 1 else 0) ∧ c' = h2 + r2 ∧ c' < 18446744073709551616 ∧ o < 18446744073709551616 ∧ l2 < 18446744073709551616 ∧ o + p + c = x + 18446744073709551616 * c' := by
  have hb : p ≤ 18446744073709551615 * 18446744073709551615 := by rw [hp]; exact Nat.mul_le_mul (by omega) (by omega)
  refine ⟨_, _, _, _, _, _, rfl, rfl, rfl, ?_, rfl, rfl, rfl, ?_, ?_, ?_, ?_⟩
  · split <;> omega
  · split <;> split <;> omega
  · omega
  · omega
  · split <;> split <;> omega

theorem M.less_over {V V' V0 T c c' P B x y o f : Nat} (h : V + f * T = V0 + c * P) (hv : V' + P * x = V + P * o) (hs : o + y * f + c = x + B * c') : V' + f * (T + P * y) = V0 + c' * (P * B) := by
  have e : P * (o + y * f + c) = P * (x + B * c') := by rw [hs]
  simp only [Nat.mul_add] at e ⊢
  rw [Nat.mul_comm c' (P * B), Nat.mul_assoc]
  rw [Nat.mul_comm c P] at h
  have e2 : f * (P * y) = P * (y * f) := by rw [Nat.mul_comm f, Nat.mul_assoc]
  rw [e2]
  omega

/-- What subTimesIn leaves. -/
def LessPost (w w' : World) (g : Nat) (zs : List Nat) (off N : Nat) (t : Nat) (c : Nat) : Prop :=
  w.grownBy w' (some g) ∧ c < 18446744073709551616 ∧ ∃ cur, Blk w' g cur ∧ M.Wrote 18446744073709551616 zs off N cur ∧ V (M.seg cur off N) + t = V (M.seg zs off N) + c * 18446744073709551616 ^ N

set_option maxHeartbeats 1000000 in
theorem subTimesIn_any (g off N cap : Nat) (ao bo : Option Addr) (d f : Nat) (zs ys : List Nat) (w : World) (hao : 0 < N → ao = some ⟨g, off, none⟩) (hB : Blk w g zs) (hz : F64 zs) (ho : off + N ≤ zs.length) (hN : N ≤ 4194304) (hm : ys.length = N) (hy : F64 ys) (hf : f < 18446744073709551616) (hr : Rd w bo ys) (hsep : 0 < ys.length → ∀ b2 o2, bo = some ⟨b2, o2, none⟩ → b2 ≠ g) :
    Calls Tryd.prog 108 #[.slice ao N cap, .slice bo N d, .int .u64 (f : Int)] w fun e w' => ∃ c : Nat, e = .returned (.int .u64 (c : Int)) ∧ LessPost w w' g zs off N (f * V ys) c := by
  go_enter Tryd.func108, Tryd.ntmps108
  go_wp2_with fail
  go_loopw [7, 14] (fun cy i wr => ∃ (k : Nat) (cur : List Nat) (c : Nat), k ≤ N ∧ i = .int .i64 k ∧ cy = .int .u64 c ∧ c < 18446744073709551616 ∧ Blk wr g cur ∧ M.Wrote 18446744073709551616 zs off N cur ∧ w.grownBy wr (some g) ∧ V (M.seg cur off N) + f * V (ys.take k) = V (M.seg zs off N) + c * 18446744073709551616 ^ k) (fun _ i _ => N - (intOf i).toNat)
  case atStart => exact ⟨0, zs, 0, by omega, rfl, rfl, by omega, hB, M.Wrote.refl hz _ _, World.grownBy.refl _ _, by simp [V, M.val]⟩
  case round =>
    obtain ⟨k, cur, c, hk, rfl, rfl, hc, hBk, hW, hg, hv⟩ := hrel
    have HV := hid hv; clear hv
    by_cases hlt : k < N
    · have hao' := hao (by omega)
      obtain ⟨b2, o2, hbo, hcl⟩ := hr (by omega)
      have hck : wr.cell? ⟨b2, o2 + k, none⟩ = some (.int .u64 ((ys.getD k 0 : Nat) : Int)) := hg.cell (hcl k (by omega)) (by simpa using hsep (by omega) b2 o2 hbo)
      clear hcl
      have hy1 := hy.get k
      obtain ⟨y, hyy⟩ : ∃ y : Nat, y = ys.getD k 0 := ⟨_, rfl⟩
      rw [← hyy] at hck hy1
      have HY := hid hyy; clear hyy
      have hca := hBk.cell (off + k) (by have := hW.len; omega)
      have hfa := hBk.frozen (off + k)
      have hx1 : cur.getD (off + k) 0 < 18446744073709551616 := M.getD_lt (by omega) hW.lt _
      obtain ⟨x, hxx⟩ : ∃ x : Nat, x = cur.getD (off + k) 0 := ⟨_, rfl⟩
      rw [← hxx] at hca hx1
      have HX := hid hxx; clear hxx
      have hlt' : (k : Int) < (N : Int) := by omega
      have HB := hid hBk; clear hBk
      have HG := hid hg; clear hg
      obtain ⟨l2, r1, h2, o, r2, c', el2, er1, eh2, bh2, eo, er2, ec', bc', bo', bl2, hs⟩ := M.less_place x y f c (y * f) rfl hx1 hy1 hf hc
      obtain ⟨hi, ehi⟩ : ∃ h : Nat, h = y * f / 18446744073709551616 := ⟨_, rfl⟩
      obtain ⟨lo, elo⟩ : ∃ h : Nat, h = y * f % 18446744073709551616 := ⟨_, rfl⟩
      rw [← elo] at el2
      rw [← ehi] at eh2
      have w1 := wrapU2 lo c l2 el2
      have w2 := wrapU_in hi r1 h2 eh2 bh2
      have w3 := wrapSub x l2 o eo (by omega)
      have w4 := wrapU_in h2 r2 c' ec' bc'
      have E1 := hid ehi; have E2 := hid elo; have E3 := hid er1; have E4 := hid er2; have E5 := hid hs; have E6 := hid bc'; have E7 := hid bo'
      clear ehi elo er1 er2 hs bc' bo' el2 eh2 bh2 eo ec'
      go_wp2_with fail
      refine (mul64_any y f _ hy1 hf hi lo E1.out E2.out).mono ?_
      rintro e v1 ⟨rfl, rfl⟩
      go_wp2_with fail
      refine (less_any _ _ _ r1 E3.out).mono ?_
      rintro e v2 ⟨rfl, rfl⟩
      go_wp2_with fail
      refine (less_any _ _ _ r2 E4.out).mono ?_
      rintro e w3' ⟨rfl, rfl⟩
      go_wp2_with fail
      have hW3 := hW.set k o (by omega) E7.out
      go_roundw
      case rel =>
        have R : ∃ (k1 : Nat) (cur1 : List Nat) (c1 : Nat), k1 ≤ N ∧ Value.int .i64 ((k : Int) + 1) = .int .i64 k1 ∧ Value.int .u64 (c' : Int) = .int .u64 c1 ∧ c1 < 18446744073709551616 ∧ Blk (w3'.setCell ⟨g, off + k, none⟩ (.int .u64 (o : Int))) g cur1 ∧ M.Wrote 18446744073709551616 zs off N cur1 ∧ w.grownBy (w3'.setCell ⟨g, off + k, none⟩ (.int .u64 (o : Int))) (some g) ∧ V (M.seg cur1 off N) + f * V (ys.take k1) = V (M.seg zs off N) + c1 * 18446744073709551616 ^ k1 := by
          refine ⟨k + 1, cur.set (off + k) o, c', by omega, by go_num, rfl, E6.out, HB.out.set _ _ _ rfl, hW3, grown_trans HG.out (grown_setCell _ _ _ _), ?_⟩
          unfold V
          rw [M.val_take_succ, ← HY.out, Nat.pow_succ]
          have h2 := M.val_seg_set 18446744073709551616 cur off N k o (by omega) (by have := hW.len; omega)
          rw [← HX.out] at h2
          exact M.less_over HV.out h2 E5.out
        first | exact R | ((repeat apply Exists.intro); exact ⟨R, rfl⟩) | ((repeat apply Exists.intro); exact ⟨R, by rw [hao', hbo]⟩)
      case measure => simp [intOf]; omega
    · have e : k = N := by omega
      subst e
      have HBk := hid hBk; clear hBk
      have HG := hid hg; clear hg
      go_wp2_with fail
      go_ret
      refine ⟨c, rfl, HG.out, hc, cur, HBk.out, hW, ?_⟩
      have := HV.out
      rwa [List.take_of_length_le (by omega)] at this

/-- The estimate of a place: the guess and what is left (as a number of any size). -/
theorem M.est_ge {hi lo top q g : Nat} (ht : 0 < top) (hg : g = (hi * 18446744073709551616 + lo) / top) (h : q * top ≤ hi * 18446744073709551616 + lo) : q ≤ g := by
  rw [hg]; exact (Nat.le_div_iff_mul_le ht).2 h

def estG (hi lo top : Nat) : Nat := if hi < top then (hi * 18446744073709551616 + lo) / top else 18446744073709551615
def estL (hi lo top : Nat) : Nat := if hi < top then (hi * 18446744073709551616 + lo) % top else lo + top

theorem est_facts (hi lo top : Nat) (hlo : lo < 18446744073709551616) (htb : top < 18446744073709551616) (ht : 9223372036854775808 ≤ top) (hht : hi ≤ top) :
    estG hi lo top * top + estL hi lo top = hi * 18446744073709551616 + lo ∧ estG hi lo top < 18446744073709551616 ∧ estL hi lo top < 2 * 18446744073709551616 ∧ ∀ q, q < 18446744073709551616 → q * top ≤ hi * 18446744073709551616 + lo → q ≤ estG hi lo top := by
  unfold estG estL
  split
  · next h =>
    refine ⟨by rw [Nat.mul_comm]; exact Nat.div_add_mod _ _, ?_, by have := Nat.mod_lt (hi * 18446744073709551616 + lo) (show 0 < top by omega); omega, fun q _ h => M.est_ge (by omega) rfl h⟩
    rw [Nat.div_lt_iff_lt_mul (by omega)]
    have h1 : (hi + 1) * 18446744073709551616 ≤ top * 18446744073709551616 := Nat.mul_le_mul_right _ h
    rw [Nat.mul_comm 18446744073709551616 top]; omega
  · next h =>
    have e : hi = top := by omega
    subst e
    exact ⟨by omega, by omega, by omega, fun q h _ => by omega⟩

set_option maxHeartbeats 1000000 in
theorem estimate_any (hi lo top : Nat) (w : World) (hlo : lo < 18446744073709551616) (htb : top < 18446744073709551616) (ht : 9223372036854775808 ≤ top) (hht : hi ≤ top) (g l' : Nat) (sm : Bool) (hg : g = estG hi lo top) (hl' : l' = estL hi lo top % 18446744073709551616) (hsm : sm = decide (estL hi lo top < 18446744073709551616)) :
    Calls Tryd.prog 106 #[.int .u64 (hi : Int), .int .u64 (lo : Int), .int .u64 (top : Int)] w fun e w' => e = .returned (.tuple #[.int .u64 (g : Int), .int .u64 (l' : Int), .bool sm]) ∧ ∃ q, w' = w.drewN q := by
  by_cases hlt : hi < top
  · have hlt' : ¬ (top : Int) ≤ (hi : Int) := by omega
    have hQ : g = (hi * 18446744073709551616 + lo) / top := by rw [hg]; unfold estG; rw [if_pos hlt]
    have hR0 : estL hi lo top = (hi * 18446744073709551616 + lo) % top := by unfold estL; rw [if_pos hlt]
    have hRt := Nat.mod_lt (hi * 18446744073709551616 + lo) (show 0 < top by omega)
    rw [← hR0] at hRt
    rw [Nat.mod_eq_of_lt (by omega), hR0] at hl'
    have hsm' : sm = true := by rw [hsm]; exact decide_eq_true (by omega)
    rw [hsm']
    have EQ := hid hQ; have ER := hid hl'
    clear hQ hR0 hRt hl' hsm hsm' hg
    go_enter Tryd.func106, Tryd.ntmps106
    go_wp2_with fail
    refine (div64_any hi lo top _ hlo htb hlt g l' EQ.out ER.out).mono ?_
    rintro e w1 ⟨rfl, q1, rfl⟩
    go_wp2_with fail
    go_ret3
    exact ⟨rfl, _, rfl⟩
  · have e : hi = top := by omega
    subst e
    have hlt' : (hi : Int) ≤ (hi : Int) := by omega
    have hg' : g = 18446744073709551615 := by rw [hg]; unfold estG; rw [if_neg hlt]
    have hl0 : estL hi lo hi = lo + hi := by unfold estL; rw [if_neg hlt]
    rw [hl0] at hl' hsm
    rw [hg']
    have hmod : ((lo : Int) + (hi : Int)) % 18446744073709551616 = (l' : Int) := by omega
    have e1 : sm = decide ((hi : Int) ≤ ((lo : Int) + (hi : Int)) % 18446744073709551616) := by
      rw [hsm]; congr 1; apply propext; omega
    have HM := hid hmod; have E1 := hid e1
    clear hg hg' hl0 hl' hsm hmod e1
    go_enter Tryd.func106, Tryd.ntmps106
    go_wp2_with fail
    go_ret3
    refine ⟨?_, 0, rfl⟩
    rw [E1.out, ← HM.out]
    rfl

end Go.Proofs.YtehplfmnipadmaeDoor

namespace Go.Proofs.YtehplfmnipadmaeDoor
open Go.RowKit
set_option linter.unusedVariables false
set_option maxRecDepth 100000

/-- What addIn leaves: the view holds the sum but for a carry beyond it. -/
def AddInPost (w w' : World) (g : Nat) (zs : List Nat) (off N : Nat) (t : Nat) : Prop :=
  w.grownBy w' (some g) ∧ ∃ cur c, Blk w' g cur ∧ M.Wrote 18446744073709551616 zs off N cur ∧ c ≤ 1 ∧ V (M.seg cur off N) + c * 18446744073709551616 ^ N = V (M.seg zs off N) + t

set_option maxHeartbeats 400000 in
theorem addIn_any (g off N cap : Nat) (bo : Option Addr) (m d : Nat) (zs ys : List Nat) (w : World) (hB : Blk w g zs) (hz : F64 zs) (ho : off + N ≤ zs.length) (hN : N ≤ 4194304) (hm : ys.length = m) (hmN : m ≤ N) (hy : F64 ys) (hr : Rd w bo ys) (hsep : 0 < ys.length → ∀ b2 o2, bo = some ⟨b2, o2, none⟩ → b2 ≠ g) :
    Calls Tryd.prog 109 #[.slice (some ⟨g, off, none⟩) N cap, .slice bo m d] w fun e w' => e = .returned (.tuple #[]) ∧ AddInPost w w' g zs off N (V ys) := by
  go_enter Tryd.func109, Tryd.ntmps109
  go_wp2_with fail
  go_loopw [4, 11] (fun cy i wr => ∃ (k : Nat) (cur : List Nat) (c : Nat), k ≤ m ∧ i = .int .i64 k ∧ cy = .int .u64 c ∧ c ≤ 1 ∧ Blk wr g cur ∧ M.Wrote 18446744073709551616 zs off N cur ∧ w.grownBy wr (some g) ∧ V (M.seg cur off N) + c * 18446744073709551616 ^ k = V (M.seg zs off N) + V (ys.take k)) (fun _ i _ => m - (intOf i).toNat)
  case atStart => exact ⟨0, zs, 0, by omega, rfl, rfl, by omega, hB, M.Wrote.refl hz _ _, World.grownBy.refl _ _, by simp [V, M.val]⟩
  case round =>
    obtain ⟨k, cur, c, hk, rfl, rfl, hc, hBk, hW, hg, hv⟩ := hrel
    have HV := hid hv; clear hv
    by_cases hlt : k < m
    · obtain ⟨b2, o2, hbo, hcl⟩ := hr (by omega)
      have hck : wr.cell? ⟨b2, o2 + k, none⟩ = some (.int .u64 ((ys.getD k 0 : Nat) : Int)) := hg.cell (hcl k (by omega)) (by simpa using hsep (by omega) b2 o2 hbo)
      clear hcl
      have hy1 := hy.get k
      obtain ⟨y, hyy⟩ : ∃ y : Nat, y = ys.getD k 0 := ⟨_, rfl⟩
      rw [← hyy] at hck hy1
      have HY := hid hyy; clear hyy
      have hca := hBk.cell (off + k) (by have := hW.len; omega)
      have hfa := hBk.frozen (off + k)
      have hx1 : cur.getD (off + k) 0 < 18446744073709551616 := M.getD_lt (by omega) hW.lt _
      obtain ⟨x, hxx⟩ : ∃ x : Nat, x = cur.getD (off + k) 0 := ⟨_, rfl⟩
      rw [← hxx] at hca hx1
      have HX := hid hxx; clear hxx
      have hlt' : (k : Int) < (m : Int) := by omega
      have hlt2 : (k : Int) < (N : Int) := by omega
      have HB := hid hBk; clear hBk
      have HG := hid hg; clear hg
      obtain ⟨p, hp⟩ : ∃ p : Nat, p = (x + y) % 18446744073709551616 := ⟨_, rfl⟩
      have hwp := wrapU2 x y p hp
      obtain ⟨o, hoo⟩ : ∃ o : Nat, o = (p + c) % 18446744073709551616 := ⟨_, rfl⟩
      have hwo := wrapU2 p c o hoo
      obtain ⟨r1, hr1⟩ : ∃ r : Nat, r = if (p : Int) < (y : Int) then 1 else 0 := ⟨_, rfl⟩
      obtain ⟨r2, hr2⟩ : ∃ r : Nat, r = if (o : Int) < (c : Int) then 1 else 0 := ⟨_, rfl⟩
      have hsum : o + 18446744073709551616 * (r1 + r2) = x + y + c ∧ r1 + r2 ≤ 1 ∧ o < 18446744073709551616 := by
        split at hr1 <;> split at hr2 <;> omega
      have hle1 : r1 ≤ 1 := by omega
      have hle2 : r2 ≤ 1 := by omega
      have HP := hid hp; clear hp
      have HO := hid hoo; clear hoo
      have HR1 := hid hr1; clear hr1
      have HR2 := hid hr2; clear hr2
      have HS := hid hsum; clear hsum
      go_wp2_with fail
      generalize hwy : wr.setCell ⟨g, off + k, none⟩ (.int .u64 (o : Int)) = wy
      have hBy : Blk wy g (cur.set (off + k) o) := by rw [← hwy]; exact HB.out.set _ _ _ rfl
      have hgy : w.grownBy wy (some g) := by rw [← hwy]; exact grown_trans HG.out (grown_setCell _ _ _ _)
      have hWy := hW.set k o (by omega) HS.out.2.2
      have hcy := hBy.cell (off + k) (by rw [List.length_set]; have := hW.len; omega)
      rw [M.getD_set_eq _ _ _ (by have := hW.len; omega)] at hcy
      have HBy := hid hBy; clear hBy
      have HGy := hid hgy; clear hgy
      clear hwy hca hfa hck
      go_quiet ((first | (go_at_call_of 75 p; exact Calls.quiet_of_same (less_any _ _ _ r1 HR1.out)) | (go_at_call_of 75 o; exact Calls.quiet_of_same (less_any _ _ _ r2 HR2.out))))
      go_wp2_with fail
      go_roundw
      case rel =>
        have R : ∃ (k1 : Nat) (cur1 : List Nat) (c1 : Nat), k1 ≤ m ∧ Value.int .i64 ((k : Int) + 1) = .int .i64 k1 ∧ Value.int .u64 ((r1 : Int) + (r2 : Int)) = .int .u64 c1 ∧ c1 ≤ 1 ∧ Blk (wy.drewN nq) g cur1 ∧ M.Wrote 18446744073709551616 zs off N cur1 ∧ w.grownBy (wy.drewN nq) (some g) ∧ V (M.seg cur1 off N) + c1 * 18446744073709551616 ^ k1 = V (M.seg zs off N) + V (ys.take k1) := by
          refine ⟨k + 1, cur.set (off + k) o, r1 + r2, by omega, by go_num, by go_num, HS.out.2.1, HBy.out.drewN _, hWy, grown_trans HGy.out (grown_drewN _ _ _), ?_⟩
          unfold V
          rw [M.val_take_succ, ← HY.out, Nat.pow_succ]
          have h2 := M.val_seg_set 18446744073709551616 cur off N k o (by omega) (by have := hW.len; omega)
          rw [← HX.out] at h2
          exact M.add_over HV.out h2 HS.out.1
        first | exact R | ((repeat apply Exists.intro); exact ⟨R, rfl⟩) | ((repeat apply Exists.intro); exact ⟨R, by rw [hbo]⟩)
      case measure => simp [intOf]; omega
    · have e : k = m := by omega
      subst e
      have hv : V (M.seg cur off N) + c * 18446744073709551616 ^ k = V (M.seg zs off N) + V ys := by
        have := HV.out
        rwa [List.take_of_length_le (by omega)] at this
      clear HV
      have HBk := hid hBk; clear hBk
      have HG := hid hg; clear hg
      have HV := hid hv; clear hv
      obtain ⟨wo, hwo⟩ : ∃ wo : World, wo = wr := ⟨_, rfl⟩
      rw [← hwo] at HBk HG ⊢
      clear hwo
      go_wp2_with fail
      go_loopw [4, 8] (fun cy i wr => ∃ (j : Nat) (cur : List Nat) (c : Nat), j ≤ N ∧ i = .int .i64 j ∧ cy = .int .u64 c ∧ c ≤ 1 ∧ Blk wr g cur ∧ M.Wrote 18446744073709551616 zs off N cur ∧ w.grownBy wr (some g) ∧ V (M.seg cur off N) + c * 18446744073709551616 ^ j = V (M.seg zs off N) + V ys) (fun _ i _ => N - (intOf i).toNat)
      case atStart => exact ⟨k, cur, c, by omega, rfl, rfl, hc, HBk.out, hW, HG.out, HV.out⟩
      case round =>
        clear HBk HG HV hW hc
        obtain ⟨j, cur2, c2, hj, rfl, rfl, hc, hBk, hW, hg, hv⟩ := hrel
        have HV := hid hv; clear hv
        by_cases hcc : c2 = 0
        · subst hcc
          have hgt : ¬ (0 : Int) < ((0 : Nat) : Int) := by omega
          have HBk := hid hBk; clear hBk
          have HG := hid hg; clear hg
          go_wp2_with fail
          go_end0
          refine ⟨rfl, HG.out, cur2, 0, HBk.out, hW, by omega, ?_⟩
          have := HV.out
          simpa using this
        · have hc1 : c2 = 1 := by omega
          have hc0 : (0 : Int) < (c2 : Int) := by omega
          have HC1 := hid hc1; clear hc1
          by_cases hlt : j < N
          · have hca := hBk.cell (off + j) (by have := hW.len; omega)
            have hfa := hBk.frozen (off + j)
            have hx1 : cur2.getD (off + j) 0 < 18446744073709551616 := M.getD_lt (by omega) hW.lt _
            obtain ⟨x, hxx⟩ : ∃ x : Nat, x = cur2.getD (off + j) 0 := ⟨_, rfl⟩
            rw [← hxx] at hca hx1
            have HX := hid hxx; clear hxx
            have hlt2 : (j : Int) < (N : Int) := by omega
            obtain ⟨o, hoo⟩ : ∃ o : Nat, o = (x + c2) % 18446744073709551616 := ⟨_, rfl⟩
            have hwo := wrapU2 x c2 o hoo
            obtain ⟨r2, hr2⟩ : ∃ r : Nat, r = if (o : Int) < (c2 : Int) then 1 else 0 := ⟨_, rfl⟩
            have hsum : o + 18446744073709551616 * r2 = x + 0 + c2 ∧ r2 ≤ 1 ∧ o < 18446744073709551616 := by
              split at hr2 <;> omega
            have HO := hid hoo; clear hoo
            have HR2 := hid hr2; clear hr2
            have HS := hid hsum; clear hsum
            have HB := hid hBk; clear hBk
            have HG := hid hg; clear hg
            go_wp2_with fail
            refine (less_any _ _ _ r2 HR2.out).mono ?_
            rintro e w3 ⟨rfl, hw3⟩
            have hB3 : Blk w3 g (cur2.set (off + j) o) := by rw [hw3]; exact HB.out.set _ _ _ rfl
            have hg3 : w.grownBy w3 (some g) := by rw [hw3]; exact grown_trans HG.out (grown_setCell _ _ _ _)
            have hW3 := hW.set j o (by omega) HS.out.2.2
            have HB3 := hid hB3; clear hB3
            have HG3 := hid hg3; clear hg3
            clear hw3 hca hfa
            go_wp2_with fail
            go_roundw
            case rel =>
              have R : ∃ (j1 : Nat) (cur1 : List Nat) (c1 : Nat), j1 ≤ N ∧ Value.int .i64 ((j : Int) + 1) = .int .i64 j1 ∧ Value.int .u64 (r2 : Int) = .int .u64 c1 ∧ c1 ≤ 1 ∧ Blk w3 g cur1 ∧ M.Wrote 18446744073709551616 zs off N cur1 ∧ w.grownBy w3 (some g) ∧ V (M.seg cur1 off N) + c1 * 18446744073709551616 ^ j1 = V (M.seg zs off N) + V ys := by
                refine ⟨j + 1, cur2.set (off + j) o, r2, by omega, by go_num, rfl, HS.out.2.1, HB3.out, hW3, HG3.out, ?_⟩
                unfold V
                rw [Nat.pow_succ]
                have h2 := M.val_seg_set 18446744073709551616 cur2 off N j o (by omega) (by have := hW.len; omega)
                rw [← HX.out] at h2
                exact M.add_over (y := 0) HV.out h2 HS.out.1
              first | exact R | ((repeat apply Exists.intro); exact ⟨R, rfl⟩)
            case measure => simp [intOf]; omega
          · have hlt2 : ¬ (j : Int) < (N : Int) := by omega
            have e : j = N := by omega
            subst e
            have HBk := hid hBk; clear hBk
            have HG := hid hg; clear hg
            go_wp2_with fail
            go_end0
            exact ⟨rfl, HG.out, cur2, c2, HBk.out, hW, by omega, HV.out⟩

end Go.Proofs.YtehplfmnipadmaeDoor

namespace Go.Proofs.YtehplfmnipadmaeDoor
open Go.RowKit
set_option linter.unusedVariables false
set_option maxRecDepth 100000

/-- What divIn leaves: the quotient in a new block, the rest in the old one. -/
def DivPost (w w' : World) (g : Nat) (N M : Nat) (A D : Nat) : Prop :=
  w.grownBy w' (some g) ∧ ∃ qs cur, Blk w' w.heap.size qs ∧ qs.length = M ∧ F64 qs ∧ V qs = A / D ∧ Blk w' g cur ∧ cur.length = N ∧ F64 cur ∧ V cur = A % D

theorem F64.set {xs : List Nat} (h : F64 xs) (i : Nat) {x : Nat} (hx : x < 18446744073709551616) : F64 (xs.set i x) := by
  intro v hv
  rcases List.mem_or_eq_of_mem_set hv with hv | rfl
  · exact h v hv
  · exact hx

theorem grown_setNew {w w1 : World} {row : Option Nat} (h : w.grownBy w1 row) (gq i : Nat) (v : Value) (hq : w.heap.size ≤ gq) : w.grownBy (w1.setCell ⟨gq, i, none⟩ v) row :=
  ⟨h.os, h.tape, h.output, by simp [World.setCell]; exact h.size, fun k hk hne => (Below.heap_setCell _ _ _ _ (by simp; omega)).trans (h.block k hk hne)⟩

set_option maxHeartbeats 4000000 in
set_option maxRecDepth 100000 in
theorem divIn_any (g N n Mq : Nat) (bo : Option Addr) (d : Nat) (zs ys : List Nat) (w : World) (hB : Blk w g zs) (hz : F64 zs) (hN : zs.length = N) (hNb : N ≤ 2097152) (hm : ys.length = n) (hn2 : 2 ≤ n) (hMN : N = n + Mq) (hM1 : 1 ≤ Mq) (hy : F64 ys) (hr : Rd w bo ys) (hsep : 0 < ys.length → ∀ b2 o2, bo = some ⟨b2, o2, none⟩ → b2 ≠ g) (htop : 9223372036854775808 ≤ ys.getD (n - 1) 0) (hlt : V zs < V ys * 18446744073709551616 ^ Mq) :
    Calls Tryd.prog 101 #[.slice (some ⟨g, 0, none⟩) N N, .slice bo n d] w fun e w' => e = .returned (.slice (some ⟨w.heap.size, 0, none⟩) Mq Mq) ∧ DivPost w w' g N Mq (V zs) (V ys) := by
  obtain ⟨i0, hi, hz0, hz1, hz2⟩ := info_parts Tryd.infoU
  have hmk := fun (wx : World) => run_make (P := Tryd.prog) wx 74 22 i0 (.int .u64 0) Tryd.underlying74 hi hz0 .i64 .i64 ((Mq : Nat) : Int) ((Mq : Nat) : Int) (by omega) (Int.le_refl _) (by rw [hz2]; omega) (by omega)
  have et : ((Mq : Nat) : Int).toNat = Mq := by omega
  rw [et] at hmk
  clear et
  have hNM : (N : Int) - (n : Int) = (Mq : Int) := by omega
  obtain ⟨b2, o2, hbo, hcl⟩ := hr (by omega)
  have hb2 : b2 ≠ g := hsep (by omega) b2 o2 hbo
  subst hbo
  have htc := hcl (n - 1) (by omega)
  have hsc := hcl (n - 2) (by omega)
  have htb : ys.getD (n - 1) 0 < 18446744073709551616 := F64.get hy _
  have hsb : ys.getD (n - 2) 0 < 18446744073709551616 := F64.get hy _
  obtain ⟨top, etop⟩ : ∃ t, t = ys.getD (n - 1) 0 := ⟨_, rfl⟩
  obtain ⟨sec, esec⟩ : ∃ t, t = ys.getD (n - 2) 0 := ⟨_, rfl⟩
  rw [← etop] at htc htop htb
  rw [← esec] at hsc hsb
  have hg := hB.lt
  have hsep' : ∀ b3 o3, some (⟨b2, o2, none⟩ : Addr) = some ⟨b3, o3, none⟩ → b3 ≠ g := by intro b3 o3 h; cases h; exact hb2
  have HLT := hid hlt; have ETOP := hid etop; have ESEC := hid esec
  obtain ⟨n1, en1⟩ : ∃ t, t = n - 1 := ⟨_, rfl⟩
  obtain ⟨n2, en2⟩ : ∃ t, t = n - 2 := ⟨_, rfl⟩
  rw [← en1] at htc
  rw [← en2] at hsc
  have i1 : (n : Int) - 1 = (n1 : Int) := by omega
  have i2 : (n : Int) - 2 = (n2 : Int) := by omega
  have j1 : (n1 : Int) < (n : Int) := by omega
  have j2 : (n2 : Int) < (n : Int) := by omega
  have EN1 := hid en1; have EN2 := hid en2; have HMN := hid hMN
  clear en1 en2 hMN
  clear hlt etop esec hcl
  go_enter Tryd.func101, Tryd.ntmps101
  ((go_wp2_with fail); repeat (go_step3; go_wp2_with fail))
  go_quiet (fail)
  ((go_wp2_with fail); repeat (go_step3; go_wp2_with fail))
  obtain ⟨gq, egq⟩ : ∃ gq, gq = w.heap.size := ⟨_, rfl⟩
  have EGQ := hid egq
  have hgq : g ≠ gq := by omega
  have hb2q : b2 < gq := by
    have : b2 < w.heap.size := World.block_lt_of_cell? w _ htc
    omega
  go_loopw [9] (fun i wr => ∃ (k : Nat) (qs cur : List Nat), k ≤ Mq ∧ i = .int .i64 ((k : Int) - 1) ∧ Blk wr w.heap.size qs ∧ qs.length = Mq ∧ F64 qs ∧ Blk wr g cur ∧ cur.length = N ∧ F64 cur ∧ w.grownBy wr (some g) ∧ V cur + V ys * (18446744073709551616 ^ k * V (qs.drop k)) = V zs ∧ V cur < V ys * 18446744073709551616 ^ k) (fun i _ => (intOf i + 1).toNat)
  case atStart =>
    refine ⟨Mq, List.replicate Mq 0, zs, by omega, by go_num, blk_made _ Mq, by simp, fun x hx => by simp at hx; omega, ?_, hN, hz, ?_, ?_, HLT.out⟩
    · exact (hB.drewN _).keep ((Below.refl _ _).alloc (Nat.le_refl _) _)
    · exact grown_trans (grown_drewN _ _ _) (World.grownBy_alloc _ _ _)
    · rw [List.drop_of_length_le (by simp)]; simp [V, M.val]
  case round =>
    obtain ⟨k, qs, cur, hk, rfl, hBq, hql, hqf, hBc, hcl, hcf, hgr, hI, hI2⟩ := hrel
    by_cases hk0 : 0 < k
    · obtain ⟨p, rfl⟩ : ∃ k', k = k' + 1 := ⟨k - 1, by omega⟩
      have e1 : (((p + 1 : Nat) : Int) - 1) = (p : Int) := by omega
      rw [e1]
      clear hmk
      have hpN : (p : Int) + (n : Int) + 1 ≤ (N : Int) := by have := HMN.out; omega
      have hpN' : p + n + 1 ≤ N := by omega
      have hpM : (p : Int) < (Mq : Int) := by omega
      have hp0 : (0 : Int) ≤ (p : Int) := by omega
      obtain ⟨S, w0, d0, W, eW, eS, hWS, hSb, hW3, hw0, hD, hd0, hWlt, hwt, hdr⟩ : ∃ S w0 d0 W : Nat, W = V (M.seg cur p (n + 1)) ∧ S = V (M.seg cur p n) ∧ W = S + 18446744073709551616 ^ n * cur.getD (p + n) 0 ∧ S < 18446744073709551616 ^ n ∧
          W = ((cur.getD (p + n) 0 * 18446744073709551616 + cur.getD (p + n1) 0) * 18446744073709551616 + cur.getD (p + n2) 0) * 18446744073709551616 ^ n2 + w0 ∧ w0 < 18446744073709551616 ^ n2 ∧
          V ys = (top * 18446744073709551616 + sec) * 18446744073709551616 ^ n2 + d0 ∧ d0 < 18446744073709551616 ^ n2 ∧ W < V ys * 18446744073709551616 ∧ cur.getD (p + n) 0 ≤ top ∧ V (cur.drop (p + (n + 1))) = 0 := by
        have h1 := EN1.out; have h2 := EN2.out; have h3 := ETOP.out; have h4 := ESEC.out
        obtain rfl : n = n2 + 2 := by omega
        obtain rfl : n1 = n2 + 1 := by omega
        rw [h3, h4]
        exact M.win_facts (by omega) cur ys p n2 N hcf hy hcl hm hpN' hI2
      have hc0 := hBc.cell (p + n) (by omega)
      have hc1 := hBc.cell (p + n1) (by omega)
      have hc2 := hBc.cell (p + n2) (by omega)
      have hf0 := hBc.frozen (p + n)
      have b0 : cur.getD (p + n) 0 < 18446744073709551616 := F64.get hcf _
      have b1 : cur.getD (p + n1) 0 < 18446744073709551616 := F64.get hcf _
      have b2' : cur.getD (p + n2) 0 < 18446744073709551616 := F64.get hcf _
      obtain ⟨wn, ewn⟩ : ∃ x, x = cur.getD (p + n) 0 := ⟨_, rfl⟩
      obtain ⟨wn1, ewn1⟩ : ∃ x, x = cur.getD (p + n1) 0 := ⟨_, rfl⟩
      obtain ⟨wn2, ewn2⟩ : ∃ x, x = cur.getD (p + n2) 0 := ⟨_, rfl⟩
      rw [← ewn] at hc0 b0 hwt hWS
      rw [← ewn1] at hc1 b1
      rw [← ewn2] at hc2 b2'
      rw [← ewn, ← ewn1, ← ewn2] at hW3
      have hcq := hBq.cell p (by omega)
      have hfq := hBq.frozen p
      obtain ⟨qv, eqv⟩ : ∃ x, x = qs.getD p 0 := ⟨_, rfl⟩
      rw [← eqv] at hcq
      have HI := hid hI; have HI2 := hid hI2; have HBc := hid hBc; have HBq := hid hBq; have HGR := hid hgr
      have EW := hid eW; have ES := hid eS; have HWS := hid hWS; have HW3 := hid hW3; have HD := hid hD; have HWL := hid hWlt; have HDR := hid hdr; have HSb := hid hSb; have Hw0 := hid hw0; have Hd0 := hid hd0
      have EWN := hid ewn
      clear hI hI2 hBc hBq hgr eW eS hWS hW3 hD hWlt hdr hSb hw0 hd0 ewn ewn1 ewn2 eqv
      have hln : p + n + 1 - p = n + 1 := by omega
      have k0 : (n : Int) < ((n + 1 : Nat) : Int) := by omega
      have k1 : (n1 : Int) < ((n + 1 : Nat) : Int) := by omega
      have k2 : (n2 : Int) < ((n + 1 : Nat) : Int) := by omega
      obtain ⟨hes1, hes2, hes3, hes4⟩ := est_facts wn wn1 top b1 htb htop hwt
      obtain ⟨gs, egs⟩ : ∃ x, x = estG wn wn1 top := ⟨_, rfl⟩
      obtain ⟨l', el'⟩ : ∃ x, x = estL wn wn1 top % 18446744073709551616 := ⟨_, rfl⟩
      obtain ⟨sm, esm⟩ : ∃ x, x = decide (estL wn wn1 top < 18446744073709551616) := ⟨_, rfl⟩
      have hEs := M.Es.start (s := sec) (x := wn2) hes1 hes2 hes3 b2' hes4
      have HEs := hid hEs; have EGS := hid egs; have EL' := hid el'; have ESM := hid esm
      clear hes1 hes2 hes3 hes4 hEs egs el' esm
      ((go_wp2_with fail); repeat (go_step3; go_wp2_with fail))
      go_quiet ((go_at_call 106; exact Calls.quiet_of (estimate_any wn wn1 top _ b1 htb htop hwt gs l' sm EGS.out EL'.out ESM.out)))
      generalize hwx : wr.drewN nq = wx
      have hc0x : wx.cell? ⟨g, p + n, none⟩ = some (.int .u64 (wn : Int)) := by rw [← hwx]; exact hc0
      have hc2x : wx.cell? ⟨g, p + n2, none⟩ = some (.int .u64 (wn2 : Int)) := by rw [← hwx]; exact hc2
      have hf0x : wx.frozen? ⟨g, p + n, none⟩ = false := by rw [← hwx]; exact hf0
      have hcqx : wx.cell? ⟨w.heap.size, p, none⟩ = some (.int .u64 (qv : Int)) := by rw [← hwx]; exact hcq
      have hfqx : wx.frozen? ⟨w.heap.size, p, none⟩ = false := by rw [← hwx]; exact hfq
      have HBcx : Hid (Blk wx g cur) := hid (by rw [← hwx]; exact HBc.out.drewN _)
      have HBqx : Hid (Blk wx w.heap.size qs) := hid (by rw [← hwx]; exact HBq.out.drewN _)
      have HGRx : Hid (w.grownBy wx (some g)) := hid (by rw [← hwx]; exact grown_trans HGR.out (grown_drewN _ _ _))
      clear hwx HBc HBq HGR hc0 hc1 hc2 hf0 hcq hfq
      go_upto_block 2 with fail
      repeat (go_step3; go_upto_block 2 with fail)
      simp only [hln]
      go_cut [11, 12, 13] (fun gx lx sx wc => ∃ (gg lc : Nat) (sb : Bool), gx = .int .u64 gg ∧ lx = .int .u64 lc ∧ sx = .bool sb ∧ gg < 18446744073709551616 ∧ gg * (top * 18446744073709551616 + sec) ≤ (wn * 18446744073709551616 + wn1) * 18446744073709551616 + wn2 ∧ (∀ q, q < 18446744073709551616 → q * (top * 18446744073709551616 + sec) ≤ (wn * 18446744073709551616 + wn1) * 18446744073709551616 + wn2 → q ≤ gg) ∧ wc = wx)
      case first =>
        ((go_wp2_with fail); repeat (go_step3; go_wp2_with fail))
        go_loopw [11, 12, 13] (fun gx lx sx wv => ∃ (gg l lc : Nat) (sb : Bool), gx = .int .u64 gg ∧ lx = .int .u64 lc ∧ sx = .bool sb ∧ M.Es 18446744073709551616 top sec (wn * 18446744073709551616 + wn1) wn2 gg l ∧ lc = l % 18446744073709551616 ∧ sb = decide (l < 18446744073709551616) ∧ wv = wx) (fun gx _ _ _ => (intOf gx).toNat)
        case atStart => exact ⟨gs, estL wn wn1 top, l', sm, rfl, rfl, rfl, by rw [EGS.out]; exact HEs.out, EL'.out, ESM.out, rfl⟩
        case round =>
          rename World => wv
          obtain ⟨gg, l, lc, sb, rfl, rfl, rfl, hEs, elc, esb, hwv⟩ := hrel
          subst hwv
          clear hc0x hcqx hf0x hfqx
          have hggb : gg < 18446744073709551616 := hEs.lt
          by_cases hsm : l < 18446744073709551616
          · have e2 : sb = true := by rw [esb]; exact decide_eq_true hsm
            have e3 : l = lc := by rw [elc]; exact (Nat.mod_eq_of_lt hsm).symm
            subst e2 e3
            clear elc esb
            obtain ⟨hh, ehh⟩ : ∃ x : Nat, x = gg * sec / 18446744073709551616 := ⟨_, rfl⟩
            obtain ⟨ll, ell⟩ : ∃ x : Nat, x = gg * sec % 18446744073709551616 := ⟨_, rfl⟩
            have hsum : gg * sec = hh * 18446744073709551616 + ll := by omega
            have hllb : ll < 18446744073709551616 := by omega
            have EHH := hid ehh; have ELL := hid ell
            clear ehh ell
            ((go_wp2_with fail); repeat (go_step3; go_wp2_with fail))
            refine (mul64_any gg sec _ hggb hsb hh ll EHH.out ELL.out).mono ?_
            rintro e wm ⟨rfl, rfl⟩
            by_cases hA : hh < l
            · have hA' : (hh : Int) < (l : Int) := by omega
              have hle : gg * sec ≤ l * 18446744073709551616 + wn2 := by
                have : (hh + 1) * 18446744073709551616 ≤ l * 18446744073709551616 := Nat.mul_le_mul_right _ hA
                omega
              clear hsum
              have hfin := hEs.stop hle
              have HF := hid hfin; have HEs' := hid hEs; clear hfin hEs hle
              ((go_wp2_with fail); repeat (go_step3; go_wp2_with fail))
              go_meet
              case rel => exact ⟨gg, _, true, rfl, rfl, rfl, HEs'.out.lt, HF.out, HEs'.out.ge, by first | rfl | trivial⟩
            · have hA' : ¬ (hh : Int) < (l : Int) := by omega
              by_cases hB : hh = l
              · have hB' : ((hh : Int) == (l : Int)) = true := by simp; omega
                by_cases hC : ll ≤ wn2
                · have hC' : (ll : Int) ≤ (wn2 : Int) := by omega
                  have hle : gg * sec ≤ l * 18446744073709551616 + wn2 := by rw [hsum, hB]; omega
                  clear hsum
                  have hfin := hEs.stop hle
                  have HF := hid hfin; have HEs' := hid hEs; clear hfin hEs hle
                  ((go_wp2_with fail); repeat (go_step3; go_wp2_with fail))
                  go_meet
                  case rel => exact ⟨gg, _, true, rfl, rfl, rfl, HEs'.out.lt, HF.out, HEs'.out.ge, by first | rfl | trivial⟩
                · have hC' : ¬ (ll : Int) ≤ (wn2 : Int) := by omega
                  have hgt : l * 18446744073709551616 + wn2 < gg * sec := by rw [hsum, hB]; omega
                  clear hsum
                  obtain ⟨hg1, hEs2⟩ := hEs.down htb hsm hgt
                  obtain ⟨g', eg'⟩ : ∃ t : Nat, t = gg - 1 := ⟨_, rfl⟩
                  obtain ⟨lc', elc'⟩ : ∃ t : Nat, t = (l + top) % 18446744073709551616 := ⟨_, rfl⟩
                  have wg' : (gg : Int) - 1 = (g' : Int) := by omega
                  have wl' : IntKind.u64.wrap ((l : Int) + (top : Int)) = (lc' : Int) := wrapU2 l top lc' elc'
                  have hsd : decide (top ≤ lc') = decide (l + top < 18446744073709551616) := by
                    congr 1; apply propext; omega
                  rw [← eg'] at hEs2
                  have HES2 := hid hEs2; have EG' := hid eg'; have ELC := hid elc'; have HSD := hid hsd
                  have hgb' : g' < 18446744073709551616 := hEs2.lt
                  clear hEs hEs2 eg' elc' hsd hgt
                  ((go_wp2_with fail); repeat (go_step3; go_wp2_with fail))
                  go_roundw
                  case rel =>
                    exact ⟨g', l + top, lc', _, rfl, rfl, rfl, HES2.out, ELC.out, HSD.out, by first | rfl | trivial⟩
                  case measure => simp [intOf]; have := EG'.out; omega
              · have hB' : ((hh : Int) == (l : Int)) = false := by simp; omega
                have hgt : l * 18446744073709551616 + wn2 < gg * sec := by
                  have : (l + 1) * 18446744073709551616 ≤ hh * 18446744073709551616 := Nat.mul_le_mul_right _ (by omega)
                  omega
                clear hsum
                obtain ⟨hg1, hEs2⟩ := hEs.down htb hsm hgt
                obtain ⟨g', eg'⟩ : ∃ t : Nat, t = gg - 1 := ⟨_, rfl⟩
                obtain ⟨lc', elc'⟩ : ∃ t : Nat, t = (l + top) % 18446744073709551616 := ⟨_, rfl⟩
                have wg' : (gg : Int) - 1 = (g' : Int) := by omega
                have wl' : IntKind.u64.wrap ((l : Int) + (top : Int)) = (lc' : Int) := wrapU2 l top lc' elc'
                have hsd : decide (top ≤ lc') = decide (l + top < 18446744073709551616) := by
                  congr 1; apply propext; omega
                rw [← eg'] at hEs2
                have HES2 := hid hEs2; have EG' := hid eg'; have ELC := hid elc'; have HSD := hid hsd
                have hgb' : g' < 18446744073709551616 := hEs2.lt
                clear hEs hEs2 eg' elc' hsd hgt
                ((go_wp2_with fail); repeat (go_step3; go_wp2_with fail))
                go_roundw
                case rel =>
                  exact ⟨g', l + top, lc', _, rfl, rfl, rfl, HES2.out, ELC.out, HSD.out, by first | rfl | trivial⟩
                case measure => simp [intOf]; have := EG'.out; omega
          · have e2 : sb = false := by rw [esb]; exact decide_eq_false hsm
            subst e2
            have hfin := hEs.wide hsb (by omega)
            have HF := hid hfin; have HEs' := hid hEs; clear hfin hEs
            ((go_wp2_with fail); repeat (go_step3; go_wp2_with fail))
            go_meet
            case rel => exact ⟨gg, lc, false, rfl, rfl, rfl, HEs'.out.lt, HF.out, HEs'.out.ge, by first | rfl | trivial⟩
      case rest =>
        obtain ⟨gg, lc, sb, rfl, rfl, rfl, hggb, hgle, hgge, hwc⟩ := hcut
        subst hwc
        have hBs : Blk (wc.setCell ⟨w.heap.size, p, none⟩ (.int .u64 (gg : Int))) g cur := HBcx.out.set_other _ (by simp; omega) _
        have hqs : Blk (wc.setCell ⟨w.heap.size, p, none⟩ (.int .u64 (gg : Int))) w.heap.size (qs.set p gg) := HBqx.out.set _ _ _ rfl
        have hgs : w.grownBy (wc.setCell ⟨w.heap.size, p, none⟩ (.int .u64 (gg : Int))) (some g) := grown_setNew HGRx.out _ _ _ (Nat.le_refl _)
        have HGE := hid hgge; have HGLE := hid hgle
        have HBs := hid hBs; have HQs := hid hqs; have HGs := hid hgs
        clear hgge hgle hBs hqs hgs
        ((go_wp2_with fail); repeat (go_step3; go_wp2_with fail))
        have hBs := HBs.out; have hqs := HQs.out; have hgs := HGs.out
        generalize wc.setCell ⟨w.heap.size, p, none⟩ (.int .u64 (gg : Int)) = ws at hBs hqs hgs ⊢
        clear HBs HQs HGs HBcx HBqx HGRx hc0x hc2x hf0x hcqx hfqx
        refine (subTimesIn_any g p n (N - p) _ _ d gg cur ys _ (fun _ => rfl) hBs hcf (by omega) (by omega) hm hy hggb (hr.other hgs hsep') hsep).mono ?_
        rintro e w1 ⟨c, rfl, hg1, hcb, cur1, hB1, hW1, hv1⟩
        have hq1 : Blk w1 w.heap.size (qs.set p gg) := hqs.grown hg1 (by simp; omega)
        have hgr1 : w.grownBy w1 (some g) := grown_trans hgs hg1
        have hl1 : cur1.length = N := by rw [hW1.len]; exact hcl
        have hcz : cur1.getD (p + n) 0 = wn := by rw [hW1.out (p + n) (by omega)]; exact EWN.out.symm
        have hc0' := hB1.cell (p + n) (by omega)
        rw [hcz] at hc0'
        have hf0' := hB1.frozen (p + n)
        obtain ⟨z, ez⟩ : ∃ z : Nat, z = (wn + 18446744073709551616 - c) % 18446744073709551616 := ⟨_, rfl⟩
        have wz := wrapSub wn c z ez (by omega)
        have hzb : z < 18446744073709551616 := by omega
        have hB2 : Blk (w1.setCell ⟨g, p + n, none⟩ (.int .u64 (z : Int))) g (cur1.set (p + n) z) := hB1.set _ _ _ rfl
        have hq2 : Blk (w1.setCell ⟨g, p + n, none⟩ (.int .u64 (z : Int))) w.heap.size (qs.set p gg) := hq1.set_other _ (by simp; omega) _
        have hgr2 : w.grownBy (w1.setCell ⟨g, p + n, none⟩ (.int .u64 (z : Int))) (some g) := grown_trans hgr1 (grown_setCell _ _ _ _)
        have hW2 : M.Wrote 18446744073709551616 cur p (n + 1) (cur1.set (p + n) z) := by
          refine (M.Wrote.set ⟨hW1.len, hW1.lt, fun j hj => hW1.out j (by omega)⟩ n z (by omega) hzb)
        have hv2 : V (M.seg (cur1.set (p + n) z) p (n + 1)) = V (M.seg cur1 p n) + 18446744073709551616 ^ n * z := by
          unfold V
          rw [M.val_seg_succ, M.getD_set_eq _ _ _ (by omega)]
          congr 2
          unfold M.seg
          rw [List.drop_set, if_neg (by omega), List.take_set_of_le (by omega)]
        have hS1 : V (M.seg cur1 p n) < 18446744073709551616 ^ n := by
          have h := M.val_lt (B := 18446744073709551616) (by omega) (M.seg cur1 p n) (M.seg_lt hW1.lt p n)
          rwa [M.seg_length _ _ _ (by omega)] at h
        have hge : ∀ q, q * V ys ≤ W → q ≤ gg := by
          intro q hq
          refine HGE.out q ?_ ?_
          · have h1 : q * V ys < 18446744073709551616 * V ys := by have := HWL.out; rw [Nat.mul_comm 18446744073709551616]; omega
            exact Nat.lt_of_mul_lt_mul_right h1
          · have h1 := HD.out
            have h2 := HW3.out
            rw [h1, h2] at hq
            exact M.guess_ge Hw0.out hq
        have hDp : 0 < V ys := by
          have h1 := HD.out
          have h2 : 0 < 18446744073709551616 ^ n2 := Nat.pow_pos (by omega)
          have h3 : 1 * 18446744073709551616 ^ n2 ≤ (top * 18446744073709551616 + sec) * 18446744073709551616 ^ n2 := Nat.mul_le_mul_right _ (by omega)
          omega
        have hqd : ∀ q, V ((qs.set p q).drop p) = q + 18446744073709551616 * V (qs.drop (p + 1)) := by
          intro q
          rw [V_drop _ _ (by simp; omega), M.getD_set_eq _ _ _ (by omega), List.drop_set_of_lt (by omega)]
        have HB1 := hid hB1; have HQ1 := hid hq1; have HGR1 := hid hgr1; have HB2 := hid hB2; have HQ2 := hid hq2; have HGR2 := hid hgr2; have HV1 := hid hv1; have HV2 := hid hv2; have HGE2 := hid hge; have HDp := hid hDp; have HQD := hid hqd; have HS1 := hid hS1; have EZ := hid ez
        clear hB1 hq1 hgr1 hB2 hq2 hgr2 hv1 hv2 hge hDp hqd hS1 ez hBs hqs hgs hg1
        by_cases hfit : c ≤ wn
        · have hfit' : (c : Int) ≤ (wn : Int) := by omega
          ((go_wp2_with fail); repeat (go_step3; go_wp2_with fail))
          simp only [Exit.noGoto_exit, Exit.inBlock, Exit.then]
          ((go_wp2_with fail); repeat (go_step3; go_wp2_with fail))
          go_roundw
          case rel =>
            have R : ∃ (k : Nat) (qs cur : List Nat), k ≤ Mq ∧ Value.int .i64 ((p : Int) - 1) = .int .i64 ((k : Int) - 1) ∧ Blk (w1.setCell ⟨g, p + n, none⟩ (.int .u64 (z : Int))) w.heap.size qs ∧ qs.length = Mq ∧ F64 qs ∧ Blk (w1.setCell ⟨g, p + n, none⟩ (.int .u64 (z : Int))) g cur ∧ cur.length = N ∧ F64 cur ∧ w.grownBy (w1.setCell ⟨g, p + n, none⟩ (.int .u64 (z : Int))) (some g) ∧ V cur + V ys * (18446744073709551616 ^ k * V (qs.drop k)) = V zs ∧ V cur < V ys * 18446744073709551616 ^ k := by
              have hp := M.place_fits (z := wn) (Bn := 18446744073709551616 ^ n) (c := c) HWS.out (by rw [ES.out]; exact HV1.out) hfit HGE2.out HDp.out (q := 0)
              have ez : z = wn - c := by rw [EZ.out]; omega
              rw [← ez, ← HV2.out] at hp
              obtain ⟨h1, h2⟩ := M.win_next (B := 18446744073709551616) (by omega) cur (cur1.set (p + n) z) p (n + 1) N (V ys) (V (qs.drop (p + 1))) (V zs) W _ gg hcl (by omega) hW2 EW.out rfl HDR.out hp.1 hp.2 HI.out
              exact ⟨p, qs.set p gg, _, by omega, rfl, HQ2.out, by rw [List.length_set]; exact hql, F64.set hqf p hggb, HB2.out, by rw [List.length_set]; exact hl1, hW2.lt, HGR2.out, by rw [HQD.out]; exact h1, h2⟩
            first | exact R | ((repeat apply Exists.intro); exact ⟨R, rfl⟩)
          case measure => simp [intOf] <;> omega
        · have hfit' : ¬ (c : Int) ≤ (wn : Int) := by omega
          have hcq2 := HQ2.out.cell p (by rw [List.length_set]; omega)
          rw [M.getD_set_eq _ _ _ (by omega)] at hcq2
          have hfq2 := HQ2.out.frozen p
          have hgg1 : 1 ≤ gg := by
            rcases Nat.eq_zero_or_pos gg with h | h
            · have h1 := HV1.out
              rw [h, Nat.zero_mul, Nat.add_zero] at h1
              have h2 := HS1.out
              have h3 : 1 * 18446744073709551616 ^ n ≤ c * 18446744073709551616 ^ n := Nat.mul_le_mul_right _ (by omega)
              omega
            · exact h
          obtain ⟨m, em⟩ : ∃ m : Nat, m = gg - 1 := ⟨_, rfl⟩
          have wm : (gg : Int) - 1 = (m : Int) := by omega
          have hmb : m < 18446744073709551616 := by omega
          have hB3 : Blk ((w1.setCell ⟨g, p + n, none⟩ (.int .u64 (z : Int))).setCell ⟨w.heap.size, p, none⟩ (.int .u64 (m : Int))) g (cur1.set (p + n) z) := HB2.out.set_other _ (by simp; omega) _
          have hq3 : Blk ((w1.setCell ⟨g, p + n, none⟩ (.int .u64 (z : Int))).setCell ⟨w.heap.size, p, none⟩ (.int .u64 (m : Int))) w.heap.size ((qs.set p gg).set p m) := HQ2.out.set _ _ _ rfl
          rw [List.set_set] at hq3
          have hgr3 : w.grownBy ((w1.setCell ⟨g, p + n, none⟩ (.int .u64 (z : Int))).setCell ⟨w.heap.size, p, none⟩ (.int .u64 (m : Int))) (some g) := grown_setNew HGR2.out _ _ _ (Nat.le_refl _)
          have HB3 := hid hB3; have HQ3 := hid hq3; have HGR3 := hid hgr3; have EM := hid em
          clear hB3 hq3 hgr3 em
          ((go_wp2_with fail); repeat (go_step3; go_wp2_with fail))
          have hB3 := HB3.out; have hq3 := HQ3.out; have hgr3 := HGR3.out
          generalize (w1.setCell ⟨g, p + n, none⟩ (.int .u64 (z : Int))).setCell ⟨w.heap.size, p, none⟩ (.int .u64 (m : Int)) = ws at hB3 hq3 hgr3 ⊢
          clear HB3 HQ3 HGR3 hcq2 hfq2 hc0' hf0'
          refine (addIn_any g p (n + 1) (N - p) _ n d (cur1.set (p + n) z) ys _ hB3 hW2.lt (by rw [List.length_set]; omega) (by omega) hm (by omega) hy (hr.other hgr3 hsep') hsep).mono ?_
          rintro e w4 ⟨rfl, hg4, cur3, c3, hB4, hW4, hc3, hv4⟩
          have hq4 : Blk w4 w.heap.size (qs.set p m) := hq3.grown hg4 (by simp; omega)
          have hgr4 : w.grownBy w4 (some g) := grown_trans hgr3 hg4
          have hW5 : M.Wrote 18446744073709551616 cur p (n + 1) cur3 := ⟨by rw [hW4.len, hW2.len], hW4.lt, fun j hj => by rw [hW4.out j hj, hW2.out j hj]⟩
          have HB4 := hid hB4; have HQ4 := hid hq4; have HGR4 := hid hgr4; have HV4 := hid hv4
          clear hB4 hq4 hgr4 hv4 hB3 hq3 hgr3 hg4
          ((go_wp2_with fail); repeat (go_step3; go_wp2_with fail))
          simp only [Exit.noGoto_normal, Exit.inBlock, Exit.then]
          ((go_wp2_with fail); repeat (go_step3; go_wp2_with fail))
          go_roundw
          case rel =>
            have R : ∃ (k : Nat) (qs cur : List Nat), k ≤ Mq ∧ Value.int .i64 ((p : Int) - 1) = .int .i64 ((k : Int) - 1) ∧ Blk w4 w.heap.size qs ∧ qs.length = Mq ∧ F64 qs ∧ Blk w4 g cur ∧ cur.length = N ∧ F64 cur ∧ w.grownBy w4 (some g) ∧ V cur + V ys * (18446744073709551616 ^ k * V (qs.drop k)) = V zs ∧ V cur < V ys * 18446744073709551616 ^ k := by
              have hS2 : V (M.seg cur3 p (n + 1)) < 18446744073709551616 ^ n * 18446744073709551616 := by
                have h := M.val_lt (B := 18446744073709551616) (by omega) (M.seg cur3 p (n + 1)) (M.seg_lt hW5.lt p (n + 1))
                rwa [M.seg_length _ _ _ (by rw [hW5.len]; omega), Nat.pow_succ] at h
              have hDB : V ys ≤ 18446744073709551616 ^ n := by
                have h := M.val_lt (B := 18446744073709551616) (by omega) ys hy
                rw [hm] at h
                exact Nat.le_of_lt h
              have ez : z = wn + 18446744073709551616 - c := by rw [EZ.out]; exact Nat.mod_eq_of_lt (by omega)
              have hv4 := HV4.out
              rw [HV2.out, ez, Nat.pow_succ] at hv4
              have hgm : (gg - 1) * V ys ≤ W := by
                rw [HD.out, HW3.out]
                refine M.guess_le Hd0.out (by have : 9223372036854775808 * 18446744073709551616 ≤ top * 18446744073709551616 := Nat.mul_le_mul_right _ htop; omega) ?_
                rw [Nat.sub_add_cancel hgg1]
                exact HGLE.out
              have hp := M.place_back (B := 18446744073709551616) (Bn := 18446744073709551616 ^ n) (c := c) HWS.out (by rw [ES.out]; exact HV1.out) (by omega) (by omega) HSb.out HS1.out hgm hgg1 hv4 hS2 hDB HDp.out
              rw [← EM.out] at hp
              obtain ⟨h1, h2⟩ := M.win_next (B := 18446744073709551616) (by omega) cur cur3 p (n + 1) N (V ys) (V (qs.drop (p + 1))) (V zs) W _ m hcl (by omega) hW5 EW.out rfl HDR.out hp.1 hp.2 HI.out
              exact ⟨p, qs.set p m, _, by omega, rfl, HQ4.out, by rw [List.length_set]; exact hql, F64.set hqf p hmb, HB4.out, by rw [hW5.len]; exact hcl, hW5.lt, HGR4.out, by rw [HQD.out]; exact h1, h2⟩
            first | exact R | ((repeat apply Exists.intro); exact ⟨R, rfl⟩)
          case measure => simp [intOf] <;> omega
    · have e : k = 0 := by omega
      subst e
      have hge : ¬ (0 : Int) ≤ ((0 : Nat) : Int) - 1 := by omega
      have HBc := hid hBc; have HBq := hid hBq; have HGR := hid hgr; have HI := hid hI; have HI2 := hid hI2
      clear hBc hBq hgr hI hI2
      ((go_wp2_with fail); repeat (go_step3; go_wp2_with fail))
      go_ret
      refine ⟨rfl, HGR.out, qs, cur, HBq.out, hql, hqf, ?_, HBc.out, hcl, hcf, ?_⟩
      · have h1 := HI.out
        have h2 := HI2.out
        rw [Nat.pow_zero, Nat.mul_one] at h2
        rw [Nat.pow_zero, Nat.one_mul, List.drop_zero] at h1
        rw [← h1, Nat.add_mul_div_left _ _ (by omega), Nat.div_eq_of_lt h2, Nat.zero_add]
      · have h1 := HI.out
        have h2 := HI2.out
        rw [Nat.pow_zero, Nat.mul_one] at h2
        rw [← h1, Nat.add_mul_mod_self_left, Nat.mod_eq_of_lt h2]

end Go.Proofs.YtehplfmnipadmaeDoor

namespace Go.Proofs.YtehplfmnipadmaeDoor
open Go.RowKit
set_option linter.unusedVariables false
set_option maxRecDepth 100000

end Go.Proofs.YtehplfmnipadmaeDoor

namespace Go.Proofs.YtehplfmnipadmaeDoor
open Go.RowKit
set_option linter.unusedVariables false
set_option maxRecDepth 100000

end Go.Proofs.YtehplfmnipadmaeDoor

namespace Go.Proofs.YtehplfmnipadmaeDoor
open Go.RowKit
set_option linter.unusedVariables false
set_option maxRecDepth 100000

/-- An argument of the law: a slice that can be read. -/
def InRow (w : World) (a : Option Addr) (len cap : Nat) (xs : List Nat) : Prop := xs.length = len ∧ len ≤ cap ∧ F64 xs ∧ Rd w a xs

/-- A list that the call owns, in a block of which it is known where it lies. -/
structure Own (w : World) (lo hi : Nat) (ao : Option Addr) (cap : Nat) (r : List Nat) : Prop where
  row : w.ownsRow 0 22 1 (.slice ao r.length cap) r.length (U r)
  place : ∀ k, (Value.slice ao r.length cap).ownBlock = some k → lo ≤ k ∧ k < hi

theorem Own.of {w : World} {base : Nat} {ao : Option Addr} {cap : Nat} {r : List Nat} (h : w.ownsRow base 22 1 (.slice ao r.length cap) r.length (U r)) : Own w base w.heap.size ao cap r :=
  ⟨own_base h (Nat.zero_le _), fun k hk => h.lt k hk⟩
theorem Own.rd {w : World} {lo hi : Nat} {ao : Option Addr} {cap : Nat} {r : List Nat} (h : Own w lo hi ao cap r) : Rd w ao r := Rd.own h.row
theorem Own.keep {w w' : World} {lo hi : Nat} {ao : Option Addr} {cap : Nat} {r : List Nat} (h : Own w lo hi ao cap r) (hb : Below w.heap.size w w') : Own w' lo hi ao cap r := ⟨own_below h.row hb, h.place⟩
theorem Own.drewN {w : World} {lo hi : Nat} {ao : Option Addr} {cap : Nat} {r : List Nat} (h : Own w lo hi ao cap r) (q : Nat) : Own (w.drewN q) lo hi ao cap r := h.keep (below_drewN (Below.refl _ _) q)
theorem Own.grown {w w' : World} {lo hi : Nat} {ao : Option Addr} {cap : Nat} {r : List Nat} {row : Option Nat} (h : Own w lo hi ao cap r) (hg : w.grownBy w' row) (hne : ∀ k, lo ≤ k → k < hi → row ≠ some k) : Own w' lo hi ao cap r := by
  refine ⟨h.row.kept hg ?_, h.place⟩
  cases hv : (Value.slice ao r.length cap).ownBlock with
  | none => exact .inl rfl
  | some k => right; intro e; have := h.place k hv; exact hne k this.1 this.2 e.symm
theorem Blk.toOwn {w : World} {g : Nat} {zs : List Nat} (h : Blk w g zs) (hm : zs.length ≤ 4194304) : Own w g (g + 1) (some ⟨g, 0, none⟩) zs.length zs :=
  ⟨h.own (Nat.zero_le _) rfl (by unfold maxLen; omega), fun k hk => by simp [Value.ownBlock] at hk; omega⟩

theorem below_grown {w v v' : World} {row : Option Nat} (b : Below w.heap.size w v) (hg : v.grownBy v' row) (h : ∀ k, row = some k → w.heap.size ≤ k) : Below w.heap.size w v' := b.grown hg b.size h

theorem Own.row_ge {w : World} {lo hi : Nat} {ao : Option Addr} {cap : Nat} {r : List Nat} (h : Own w lo hi ao cap r) {B : Nat} (hB : B ≤ lo) : ∀ k, (Value.slice ao r.length cap).ownBlock = some k → B ≤ k := fun k hk => by have := (h.place k hk).1; omega

theorem dec_self (r : List Nat) : decide (r = r) = true := by simp

theorem own_eq {r : List Nat} {ao : Option Addr} {cap n : Nat} (h : r.length = n) : (Value.slice ao r.length cap) = .slice ao n cap := by rw [h]

theorem Own.mark {w' : World} {base : Nat} {lo hi : Nat} {ao : Option Addr} {cap : Nat} {r : List Nat} {w : World} (h : Own w lo hi ao cap r) (k0 : Nat) (ho : w'.ownsRow 0 22 1 (.slice ao r.length cap) r.length (U (marks k0 r.length))) : Rd w' ao (marks k0 r.length) := Rd.own ho

end Go.Proofs.YtehplfmnipadmaeDoor

namespace Go.Proofs.YtehplfmnipadmaeDoor
open Go.RowKit
set_option linter.unusedVariables false
set_option maxRecDepth 100000

/-- Two new lists are handed back, in blocks of their own; nothing old has turned. -/
def RetD (w w' : World) (e : Ending) (q r : List Nat) : Prop :=
  ∃ ao ca bo cb mid, e = .returned (.tuple #[.slice ao q.length ca, .slice bo r.length cb]) ∧ w.heap.size ≤ mid ∧ mid ≤ w'.heap.size ∧ Own w' w.heap.size mid ao ca q ∧ Own w' mid w'.heap.size bo cb r ∧ Below w.heap.size w w'

theorem Own.widen {w : World} {lo hi lo' hi' : Nat} {ao : Option Addr} {cap : Nat} {r : List Nat} (h : Own w lo hi ao cap r) (h1 : lo' ≤ lo) (h2 : hi ≤ hi') : Own w lo' hi' ao cap r :=
  ⟨h.row, fun k hk => by have := h.place k hk; omega⟩

theorem Own.nil (w : World) (lo hi : Nat) : Own w lo hi none 0 [] := ⟨World.ownsRow_nil _ _ _ _, fun k hk => by simp [Value.ownBlock] at hk⟩

theorem RetD.later {w w1 w2 : World} {e : Ending} {q r : List Nat} (h : RetD w1 w2 e q r) (hb : Below w.heap.size w w1) : RetD w w2 e q r := by
  obtain ⟨ao, ca, bo, cb, mid, he, g1, g2, h1, h2, h3⟩ := h
  exact ⟨ao, ca, bo, cb, mid, he, Nat.le_trans hb.size g1, g2, h1.widen hb.size (Nat.le_refl _), h2, hb.trans (h3.mono hb.size)⟩

/-- The limbs of a block's beginning, trimmed. -/
theorem Blk.ownTrim {w : World} {g : Nat} {zs : List Nat} (h : Blk w g zs) (hz : F64 zs) (hm : zs.length ≤ 4194304) : Own w g (g + 1) (some ⟨g, 0, none⟩) zs.length (L (V zs)) := by
  have h3 := h.ownPre (base := 0) (c := zs.length) (Nat.zero_le _) (L_len _ hz) rfl (by unfold maxLen; omega)
  rw [L_take _ hz] at h3
  exact ⟨h3, fun k hk => by simp [Value.ownBlock] at hk; omega⟩

theorem L_one (b : Nat) (h : (L b).length = 1) : L b = [b] := by
  have h1 : b < 18446744073709551616 ^ 1 := L_lt b 1 (by omega)
  have hp : 0 < b := by
    rcases Nat.eq_zero_or_pos b with rfl | hp
    · have : L 0 = [] := M.dig_zero _
      rw [this] at h; simp at h
    · exact hp
  unfold L
  rw [M.dig_pos (by omega) hp, Nat.mod_eq_of_lt (by omega), Nat.div_eq_of_lt (by omega), M.dig_zero]

set_option maxHeartbeats 1000000 in
theorem divMod_lt (ao bo : Option Addr) (n m c d : Nat) (a b : Nat) (w : World) (hl : (L a).length = n) (hm : (L b).length = m) (hab : a < b) (hn : n ≤ 1048576) (hn2 : m ≤ 1048576) (hr : Rd w ao (L a)) (hr2 : Rd w bo (L b)) :
    Calls Tryd.prog 93 #[.slice ao n c, .slice bo m d] w fun e w' => RetD w w' e (L (a / b)) (L (a % b)) := by
  rw [Nat.div_eq_of_lt hab, Nat.mod_eq_of_lt hab, show L 0 = [] from M.dig_zero _]
  have hcmp := cmpI_neg hab
  go_enter Tryd.func93, Tryd.ntmps93
  go_wp2_with fail
  refine (compare_any ao bo n m c d a b _ hl hm (by omega) (by omega) hr hr2).mono ?_
  rintro e w1 ⟨rfl, q1, rfl⟩
  have hb1 := below_drewN (Below.refl w.heap.size w) q1
  generalize w.drewN q1 = w1 at hb1 ⊢
  go_wp2_with fail
  refine (clone_any ao n c 0 (L a) _ hl (by omega) (by omega) (hr.below hb1)).mono ?_
  rw [List.replicate_zero, List.append_nil]
  rintro e w2 ⟨rfl, hB2, hb2⟩
  go_wp2_with fail
  go_ret2
  have ho := hB2.toOwn (by omega)
  rw [hl] at ho
  refine ⟨none, 0, some ⟨w1.heap.size, 0, none⟩, n, w1.heap.size, ?_, hb1.size, hb2.size, Own.nil _ _ _, ho.widen (Nat.le_refl _) (by have := hB2.lt; omega), hb1.trans (hb2.mono hb1.size)⟩
  rw [hl]
  rfl

set_option maxHeartbeats 1000000 in
theorem divMod_one (ao bo : Option Addr) (n c d : Nat) (a b : Nat) (w : World) (hl : (L a).length = n) (hm : (L b).length = 1) (hab : b ≤ a) (hn : n ≤ 1048576) (hr : Rd w ao (L a)) (hr2 : Rd w bo (L b)) :
    Calls Tryd.prog 93 #[.slice ao n c, .slice bo 1 d] w fun e w' => RetD w w' e (L (a / b)) (L (a % b)) := by
  have hcmp := cmpI_nonneg hab
  have hb1 := L_one b hm
  have hbb : b < 18446744073709551616 := by have := L_lt b 1 (by omega); omega
  have hb0 : 0 < b := by
    rcases Nat.eq_zero_or_pos b with rfl | hp
    · rw [show L 0 = [] from M.dig_zero _] at hm; simp at hm
    · exact hp
  obtain ⟨qq, eqq⟩ : ∃ x, x = a / b := ⟨_, rfl⟩
  obtain ⟨rr, err⟩ : ∃ x, x = a % b := ⟨_, rfl⟩
  have hrr : rr < 18446744073709551616 := by rw [err]; exact Nat.lt_trans (Nat.mod_lt _ hb0) hbb
  rw [← eqq, ← err]
  have EQ := hid eqq; have ER := hid err
  clear eqq err
  go_enter Tryd.func93, Tryd.ntmps93
  go_wp2_with fail
  refine (compare_any ao bo n 1 c d a b _ hl hm (by omega) (by omega) hr hr2).mono ?_
  rintro e w1 ⟨rfl, q1, rfl⟩
  have hbl1 := below_drewN (Below.refl w.heap.size w) q1
  generalize w.drewN q1 = w1 at hbl1 ⊢
  go_wp2_with fail
  refine (clone_any ao n c 0 (L a) _ hl (by omega) (by omega) (hr.below hbl1)).mono ?_
  rw [List.replicate_zero, List.append_nil]
  rintro e w2 ⟨rfl, hB2, hbl2⟩
  have hblw2 := hbl1.trans (hbl2.mono hbl1.size)
  obtain ⟨bb, oo, hbo, hcl⟩ := (hr2.below hblw2) (by omega)
  have hc0 := hcl 0 (by omega)
  rw [hb1] at hc0
  simp only [List.getD_cons_zero, Nat.add_zero] at hc0
  clear hcl
  have HB2 := hid hB2; clear hB2
  go_wp2_with fail
  refine (divLimbIn_any w1.heap.size n n b _ (L a) _ (fun _ => rfl) HB2.out (F64_L a) (by omega) (by omega) hb0 hbb).mono ?_
  rw [List.take_of_length_le (by omega), V_L, ← EQ.out, ← ER.out]
  rintro e w3 ⟨rfl, hg3, cur, hB3, hW3, hv3⟩
  have hcl3 : cur.length = n := by rw [hW3.len]; exact hl
  rw [List.take_of_length_le (by omega)] at hv3
  have hblw3 : Below w.heap.size w w3 := hblw2.grown hg3 hblw2.size (fun k h => by cases h; exact hbl1.size)
  have hlit := blk_lit w3 [rr]
  have hU1 : (U [rr]).toArray = #[Value.int .u64 (rr : Int)] := rfl
  have hbl4 : Below w3.heap.size w3 (w3.alloc (.cells (U [rr]).toArray 22)) := (Below.refl _ _).alloc (Nat.le_refl _) _
  rw [hU1] at hlit hbl4
  have hB4 := hB3.keep hbl4
  have hf1 : F64 [rr] := by intro y hy; simp at hy; omega
  have hv1 : V [rr] = rr := by simp [V, M.val]
  have hblw4 := hblw3.trans (hbl4.mono hblw3.size)
  have hg1lt : w1.heap.size < w3.heap.size := hB3.lt
  have HB4 := hid hB4; have HLIT := hid hlit; have HBL4 := hid hblw4; have HV1 := hid hv1; have HV3 := hid hv3; have HB3 := hid hB3
  clear hB4 hlit hblw4 hv1 hv3 hB3 hU1 hbl4 hc0 HB2
  go_wp2_with fail
  have hB4 := HB4.out; have hlit := HLIT.out; have hblw4 := HBL4.out
  generalize w3.alloc (.cells #[Value.int .u64 (rr : Int)] 22) = w4 at hB4 hlit hblw4 ⊢
  refine (trim_any _ n n cur _ hcl3 (Nat.le_refl _) (by omega) hW3.lt hB4.rd0).mono ?_
  rw [HV3.out]
  rintro e w5 ⟨rfl, rfl⟩
  go_wp2_with fail
  refine (trim_any _ 1 1 [rr] _ rfl (Nat.le_refl _) (by omega) hf1 hlit.rd0).mono ?_
  rw [HV1.out]
  rintro e w6 ⟨rfl, rfl⟩
  go_wp2_with fail
  go_ret2
  have o1 := hB4.ownTrim hW3.lt (by omega)
  have o2 := hlit.ownTrim hf1 (by simp)
  rw [HV3.out, hcl3] at o1
  rw [HV1.out] at o2
  exact ⟨_, _, _, _, w3.heap.size, rfl, hblw3.size, (by have := hlit.lt; omega), o1.widen hbl1.size (by omega), o2.widen (Nat.le_refl _) (by have := hlit.lt; omega), hblw4⟩

end Go.Proofs.YtehplfmnipadmaeDoor

namespace Go.Proofs.YtehplfmnipadmaeDoor
open Go.RowKit
set_option linter.unusedVariables false
set_option maxRecDepth 100000

theorem norm_div (a b n m s : Nat) (hl : (L a).length = n) (hm : (L b).length = m) (hm2 : 2 ≤ m) (hab : b ≤ a) (hs : s = 64 - blen ((L b).getD (m - 1) 0)) :
    s < 64 ∧ (L (b * 2 ^ s)).length = m ∧ 9223372036854775808 ≤ (L (b * 2 ^ s)).getD (m - 1) 0 ∧ (L (a * 2 ^ s)).length ≤ n + 1 ∧ m ≤ n ∧ a * 2 ^ s < b * 2 ^ s * 18446744073709551616 ^ (n + 1 - m) := by
  have hbp : 0 < b := by
    rcases Nat.eq_zero_or_pos b with rfl | hp
    · rw [show L 0 = [] from M.dig_zero _] at hm; simp at hm; omega
    · exact hp
  have htn : (L b).getD (m - 1) 0 ≠ 0 := by
    have := M.dig_last (B := 18446744073709551616) (by omega) b hbp
    unfold L at hm ⊢
    rwa [hm] at this
  have htb : (L b).getD (m - 1) 0 < 18446744073709551616 := F64.get (F64_L b) _
  obtain ⟨hs64, hn1, hn2⟩ := norm_facts _ s (by omega) htb hs
  have hdig : (L b).getD (m - 1) 0 = b / 18446744073709551616 ^ (m - 1) % 18446744073709551616 := M.dig_get (by omega) _ _
  have hbm := L_lt b m (by omega)
  have hPp : 0 < 18446744073709551616 ^ (m - 1) := Nat.pow_pos (by omega)
  have hpm : 18446744073709551616 ^ m = 18446744073709551616 ^ (m - 1) * 18446744073709551616 := by
    rw [← Nat.pow_succ]; congr 1; omega
  have hbq : b / 18446744073709551616 ^ (m - 1) < 18446744073709551616 := Nat.div_lt_of_lt_mul (by rw [← hpm]; exact hbm)
  rw [Nat.mod_eq_of_lt hbq] at hdig
  generalize (L b).getD (m - 1) 0 = t at *
  have hsp : 0 < 2 ^ s := Nat.pow_pos (by omega)
  have hKP : 2 ^ (64 - s) * 2 ^ s = 18446744073709551616 := M.pow_split s 64 (by omega)
  have ht1 : (t + 1) * 2 ^ s ≤ 18446744073709551616 := by
    have h1 : t < 2 ^ (64 - s) := by
      have : t * 2 ^ s < 2 ^ (64 - s) * 2 ^ s := by rw [hKP]; exact hn1
      exact Nat.lt_of_mul_lt_mul_right this
    have : (t + 1) * 2 ^ s ≤ 2 ^ (64 - s) * 2 ^ s := Nat.mul_le_mul_right _ h1
    omega
  have hb1 : 18446744073709551616 ^ (m - 1) * t ≤ b := by rw [hdig]; exact Nat.mul_div_le _ _
  have hb2 : b < 18446744073709551616 ^ (m - 1) * (t + 1) := by rw [hdig]; exact Nat.lt_mul_div_succ _ hPp
  have hlo : 18446744073709551616 ^ (m - 1) * 9223372036854775808 ≤ b * 2 ^ s := by
    have h1 : 18446744073709551616 ^ (m - 1) * (t * 2 ^ s) ≤ b * 2 ^ s := by rw [← Nat.mul_assoc]; exact Nat.mul_le_mul_right _ hb1
    exact Nat.le_trans (Nat.mul_le_mul_left _ hn2) h1
  have hhi : b * 2 ^ s < 18446744073709551616 ^ (m - 1) * 18446744073709551616 := by
    have h1 : b * 2 ^ s < 18446744073709551616 ^ (m - 1) * (t + 1) * 2 ^ s := Nat.mul_lt_mul_of_pos_right hb2 hsp
    rw [Nat.mul_assoc] at h1
    exact Nat.lt_of_lt_of_le h1 (Nat.mul_le_mul_left _ ht1)
  have hlen : (L (b * 2 ^ s)).length = m := by
    refine Nat.le_antisymm (M.len_of_lt (by omega) _ _ (by rw [hpm]; exact hhi)) ?_
    rcases Nat.lt_or_ge (L (b * 2 ^ s)).length m with h | h
    · have h1 := L_lt (b * 2 ^ s) (m - 1) (by omega)
      have h2 : 18446744073709551616 ^ (m - 1) * 1 ≤ 18446744073709551616 ^ (m - 1) * 9223372036854775808 := Nat.mul_le_mul_left _ (by omega)
      omega
    · exact h
  have hmn : m ≤ n := by
    rcases Nat.lt_or_ge n m with h | h
    · have : a < b := M.lt_of_length (B := 18446744073709551616) (by omega) (by rw [show (M.dig 18446744073709551616 a).length = n from hl, show (M.dig 18446744073709551616 b).length = m from hm]; exact h)
      omega
    · exact h
  have han := L_lt a n (by omega)
  have ha' : a * 2 ^ s < 18446744073709551616 ^ n * 2 ^ s := Nat.mul_lt_mul_of_pos_right han hsp
  have hs63 : 2 ^ s ≤ 2 ^ 63 := Nat.pow_le_pow_right (by omega) (by omega)
  have ha'' : 18446744073709551616 ^ n * 2 ^ s ≤ 18446744073709551616 ^ n * 9223372036854775808 := Nat.mul_le_mul_left _ hs63
  refine ⟨hs64, hlen, ?_, ?_, hmn, ?_⟩
  · have hd : (L (b * 2 ^ s)).getD (m - 1) 0 = b * 2 ^ s / 18446744073709551616 ^ (m - 1) % 18446744073709551616 := M.dig_get (by omega) _ _
    rw [hd, Nat.mod_eq_of_lt (Nat.div_lt_of_lt_mul hhi), Nat.le_div_iff_mul_le hPp, Nat.mul_comm]
    exact hlo
  · refine M.len_of_lt (by omega) _ _ ?_
    rw [Nat.pow_succ]
    have : 18446744073709551616 ^ n * 9223372036854775808 ≤ 18446744073709551616 ^ n * 18446744073709551616 := Nat.mul_le_mul_left _ (by omega)
    omega
  · have h1 : 18446744073709551616 ^ (m - 1) * 9223372036854775808 * 18446744073709551616 ^ (n + 1 - m) ≤ b * 2 ^ s * 18446744073709551616 ^ (n + 1 - m) := Nat.mul_le_mul_right _ hlo
    have h2 : 18446744073709551616 ^ (m - 1) * 9223372036854775808 * 18446744073709551616 ^ (n + 1 - m) = 18446744073709551616 ^ n * 9223372036854775808 := by
      rw [Nat.mul_right_comm, ← Nat.pow_add]; congr 2; omega
    omega

theorem V_pad (xs : List Nat) (k : Nat) : V (xs ++ List.replicate k 0) = V xs := by
  unfold V; rw [M.val_append, M.val_replicate, Nat.mul_zero, Nat.add_zero]

set_option maxHeartbeats 2000000 in
theorem divMod_many (ao bo : Option Addr) (n m c d : Nat) (a b : Nat) (w : World) (hl : (L a).length = n) (hm : (L b).length = m) (hm2 : 2 ≤ m) (hab : b ≤ a) (hn : n ≤ 1048576) (hr : Rd w ao (L a)) (hr2 : Rd w bo (L b)) :
    Calls Tryd.prog 93 #[.slice ao n c, .slice bo m d] w fun e w' => RetD w w' e (L (a / b)) (L (a % b)) := by
  obtain ⟨i0, hi, hz0, hz1, hz2⟩ := info_parts Tryd.infoU
  have hmk := fun (wx : World) => run_make (P := Tryd.prog) wx 74 22 i0 (.int .u64 0) Tryd.underlying74 hi hz0 .i64 .i64 ((n + 1 : Nat) : Int) ((n + 1 : Nat) : Int) (by omega) (Int.le_refl _) (by rw [hz2]; omega) (by omega)
  have es : ((n + 1 : Nat) : Int) = (n : Int) + 1 := by omega
  rw [es] at hmk
  have et : ((n : Int) + 1).toNat = n + 1 := by omega
  rw [et] at hmk
  clear es et
  have hcmp := cmpI_nonneg hab
  have hne1 : ((m : Int) == 1) = false := by simp; omega
  obtain ⟨t, et⟩ : ∃ t, t = (L b).getD (m - 1) 0 := ⟨_, rfl⟩
  have htb : t < 18446744073709551616 := by rw [et]; exact F64.get (F64_L b) _
  obtain ⟨s, es⟩ : ∃ s, s = 64 - blen t := ⟨_, rfl⟩
  obtain ⟨hs64, hbl', htop, hal', hmn, hlt⟩ := norm_div a b n m s hl hm hm2 hab (by rw [es, et])
  obtain ⟨m1, em1⟩ : ∃ x, x = m - 1 := ⟨_, rfl⟩
  have i1 : (m : Int) - 1 = (m1 : Int) := by omega
  have j1 : (m1 : Int) < (m : Int) := by omega
  rw [← em1] at et
  have hb0 : 0 < b := by
    rcases Nat.eq_zero_or_pos b with rfl | hp
    · rw [show L 0 = [] from M.dig_zero _] at hm; simp at hm; omega
    · exact hp
  have hsp : 0 < 2 ^ s := Nat.pow_pos (by omega)
  have hq : a * 2 ^ s / (b * 2 ^ s) = a / b := Nat.mul_div_mul_right _ _ hsp
  have hrm : a * 2 ^ s % (b * 2 ^ s) = a % b * 2 ^ s := Nat.mul_mod_mul_right _ _ _
  have ET := hid et; have ES := hid es; have EM1 := hid em1; have HTOP := hid htop; have HLT := hid hlt; have HQ := hid hq; have HRM := hid hrm; have HSP := hid hsp
  clear et es em1 htop hlt hq hrm hsp
  obtain ⟨b2, o2, hbo, hcl⟩ := hr2 (by omega)
  have htc0 := hcl m1 (by have := EM1.out; omega)
  rw [← ET.out] at htc0
  subst hbo
  go_enter Tryd.func93, Tryd.ntmps93
  go_wp2_with fail
  refine (compare_any ao _ n m c d a b _ hl hm (by omega) (by omega) hr hr2).mono ?_
  rintro e w1 ⟨rfl, q1, hw1⟩
  have hb1 : Below w.heap.size w w1 := by rw [hw1]; exact below_drewN (Below.refl w.heap.size w) q1
  have htc : w1.cell? ⟨b2, o2 + m1, none⟩ = some (.int .u64 (t : Int)) := by rw [hw1]; exact htc0
  clear hw1 htc0 hcl
  go_wp2_with fail
  refine (lz_any t _ htb s ES.out).mono ?_
  rintro e w2 ⟨rfl, rfl⟩
  have hB3 := blk_made w2 (n + 1)
  have hb3 : Below w2.heap.size w2 (w2.alloc (.cells (madeCells #[Value.int .u64 0] (n + 1)) 22)) := (Below.refl _ _).alloc (Nat.le_refl _) _
  have hbw3 := hb1.trans (hb3.mono hb1.size)
  have HB3 := hid hB3; have HBW3 := hid hbw3
  clear hB3 hb3 hbw3
  go_wp2_with fail
  have hB3 := HB3.out; have hbw3 := HBW3.out
  generalize w2.alloc (.cells (madeCells #[Value.int .u64 0] (n + 1)) 22) = w3 at hB3 hbw3 ⊢
  refine (shiftLeft_any ao n c s a _ hl (by omega) (by omega) (hr.below hbw3)).mono ?_
  rintro e w4 ⟨xa, xc, rfl, hox, hb4⟩
  have hB4 := hB3.keep hb4
  have hbw4 := hbw3.trans (hb4.mono hbw3.size)
  obtain ⟨w5, hcp, hg5, hgr5⟩ := copy_pre 74 Tryd.underlying74 _ w2.heap.size (n + 1) (n + 1) _ hB4 xa (L (a * 2 ^ s)) _ xc rfl (Rd.own hox) hal' (by simp [U]; exact hal')
  have hB5 : Blk w5 w2.heap.size (L (a * 2 ^ s) ++ List.replicate (n + 1 - (L (a * 2 ^ s)).length) 0) := by
    have e : U (L (a * 2 ^ s)) ++ (U (List.replicate (n + 1) 0)).drop (L (a * 2 ^ s)).length = U (L (a * 2 ^ s) ++ List.replicate (n + 1 - (L (a * 2 ^ s)).length) 0) := by simp [U]
    rw [e] at hg5
    exact hg5
  have hbw5 : Below w.heap.size w w5 := hbw4.grown hgr5 hbw4.size (fun k h => by cases h; exact hb1.size)
  have HB5 := hid hB5; have HBW5 := hid hbw5
  clear hB5 hbw5 hg5 hB4 hB3 hbw3 HB3 HBW3 htc
  go_wp2_with fail
  refine (shiftLeft_any _ m d s b _ hm (by omega) (by omega) (hr2.below HBW5.out)).mono ?_
  rintro e w6 ⟨ya, yc, rfl, hoy, hb6⟩
  have hB6 := HB5.out.keep hb6
  have hbw6 := HBW5.out.trans (hb6.mono HBW5.out.size)
  have hg5lt := HB5.out.lt
  obtain ⟨zs, ezs⟩ : ∃ zs, zs = L (a * 2 ^ s) ++ List.replicate (n + 1 - (L (a * 2 ^ s)).length) 0 := ⟨_, rfl⟩
  have hzl : zs.length = n + 1 := by rw [ezs]; simp; omega
  have hzf : F64 zs := by
    rw [ezs]; intro x hx
    rcases List.mem_append.1 hx with hx | hx
    · exact F64_L _ x hx
    · simp at hx; omega
  have hzv : V zs = a * 2 ^ s := by rw [ezs, V_pad, V_L]
  rw [← ezs] at hB6
  clear ezs
  have hsepy : 0 < (L (b * 2 ^ s)).length → ∀ b3 o3, ya = some ⟨b3, o3, none⟩ → b3 ≠ w2.heap.size := by
    intro h0 b3 o3 e
    obtain ⟨g3, e3, hg3⟩ := own_addr hoy h0
    rw [e3] at e
    cases e
    omega
  rw [hbl'] at hoy ⊢
  have HB6 := hid hB6; have HBW6 := hid hbw6
  clear hB6 hbw6 HB5 HBW5 hmk
  go_wp2_with fail
  refine (divIn_any w2.heap.size (n + 1) m (n + 1 - m) ya yc zs (L (b * 2 ^ s)) _ HB6.out hzf hzl (by omega) hbl' hm2 (by omega) (by omega) (F64_L _) (Rd.own hoy) hsepy HTOP.out (by rw [hzv, V_L]; exact HLT.out)).mono ?_
  rw [hzv, V_L]
  rintro e w7 ⟨rfl, hg7, qs, cur, hBq, hql, hqf, hqv, hBc, hcl', hcf, hcv⟩
  rw [HQ.out] at hqv
  rw [HRM.out] at hcv
  have hbw7 : Below w.heap.size w w7 := HBW6.out.grown hg7 HBW6.out.size (fun k h => by cases h; exact hb1.size)
  have hq6 := hBq.lt
  have hl6 : w.heap.size ≤ w6.heap.size := HBW6.out.size
  clear hg7 HB6 HBW6 hoy hsepy
  go_wp2_with fail
  refine (trim_any _ (n + 1 - m) (n + 1 - m) qs _ hql (Nat.le_refl _) (by omega) hqf hBq.rd0).mono ?_
  rw [hqv]
  rintro e w8 ⟨rfl, rfl⟩
  go_wp2_with fail
  refine (trim_any _ (n + 1) (n + 1) cur _ hcl' (Nat.le_refl _) (by omega) hcf hBc.rd0).mono ?_
  rw [hcv]
  rintro e w9 ⟨rfl, rfl⟩
  have hcl9 := L_len cur hcf
  have hrd9 := hBc.rd0.trim hcf
  rw [hcv] at hcl9 hrd9
  have hlr : (L (a % b * 2 ^ s)).length ≤ m := by
    rcases Nat.lt_or_ge m (L (a % b * 2 ^ s)).length with h | h
    · have h1 : b * 2 ^ s < a % b * 2 ^ s := M.lt_of_length (B := 18446744073709551616) (by omega) (by rw [show (M.dig 18446744073709551616 (b * 2 ^ s)).length = m from hbl']; exact h)
      have h2 : a % b * 2 ^ s ≤ b * 2 ^ s := Nat.mul_le_mul_right _ (Nat.le_of_lt (Nat.mod_lt _ hb0))
      omega
    · exact h
  go_wp2_with fail
  refine (shiftRight_any _ _ (n + 1) s (a % b * 2 ^ s) _ rfl (by omega) (by omega) (by omega) hrd9).mono ?_
  rw [Nat.mul_div_cancel _ HSP.out]
  rintro e w10 ⟨za, zc, rfl, hoz, hb10⟩
  have o1 := (hBq.ownTrim hqf (by omega)).keep hb10
  rw [hqv, hql] at o1
  have o2 := Own.of hoz
  go_wp2_with fail
  go_ret2
  exact ⟨_, _, _, _, _, rfl, hbw7.size, hb10.size, o1.widen hl6 (by omega), o2, hbw7.trans (hb10.mono hbw7.size)⟩

theorem divMod_any (ao bo : Option Addr) (n m c d : Nat) (a b : Nat) (w : World) (hl : (L a).length = n) (hm : (L b).length = m) (hb : 0 < b) (hn : n ≤ 1048576) (hn2 : m ≤ 1048576) (hr : Rd w ao (L a)) (hr2 : Rd w bo (L b)) :
    Calls Tryd.prog 93 #[.slice ao n c, .slice bo m d] w fun e w' => RetD w w' e (L (a / b)) (L (a % b)) := by
  rcases Nat.lt_or_ge a b with h | h
  · exact divMod_lt ao bo n m c d a b w hl hm h hn hn2 hr hr2
  · rcases Nat.lt_or_ge m 2 with h2 | h2
    · have h0 : m ≠ 0 := by
        intro e
        have := L_lt b 0 (by omega)
        simp at this
        omega
      have e : m = 1 := by omega
      subst e
      exact divMod_one ao bo n c d a b w hl hm h hn hr hr2
    · exact divMod_many ao bo n m c d a b w hl hm h2 h hn hr hr2

end Go.Proofs.YtehplfmnipadmaeDoor

namespace Go.Proofs.YtehplfmnipadmaeDoor
open Go.RowKit
set_option linter.unusedVariables false
set_option maxRecDepth 100000

/-- What the model's division hands back: two lists that can be read. -/
def RetM (w w' : World) (e : Ending) (q r : List Nat) : Prop :=
  ∃ ao ca bo cb, e = .returned (.tuple #[.slice ao q.length ca, .slice bo r.length cb]) ∧ Rd w' ao q ∧ Rd w' bo r ∧ Below w.heap.size w w'

/-- What holds ahead of the bit t - 1: qs is the quotient so far, R the rest. -/
structure BitI (a b t : Nat) (qs : List Nat) (R : Nat) : Prop where
  sum : a = b * X qs + R
  lt : R < b * 2 ^ t
  top : ∃ y, qs.getD (t / 32) 0 = y * 2 ^ (t % 32)
  low : ∀ j, j < t / 32 → qs.getD j 0 = 0

theorem BitI.le_a {a b t : Nat} {qs : List Nat} {R : Nat} (h : BitI a b t qs R) : R ≤ a := by have := h.sum; omega

theorem BitI.place {a b i : Nat} {qs : List Nat} {R : Nat} (h : BitI a b (i + 1) qs R) : (∃ y, qs.getD (i / 32) 0 = y * 2 ^ (i % 32 + 1)) ∧ ∀ j, j < i / 32 → qs.getD j 0 = 0 := by
  rcases Nat.lt_or_ge (i % 32) 31 with hp | hp
  · obtain ⟨y, hy⟩ := h.top
    rw [show (i + 1) / 32 = i / 32 by omega, show (i + 1) % 32 = i % 32 + 1 by omega] at hy
    exact ⟨⟨y, hy⟩, fun j hj => h.low j (by omega)⟩
  · exact ⟨⟨0, by rw [Nat.zero_mul]; exact h.low _ (by omega)⟩, fun j hj => h.low j (by omega)⟩

theorem BitI.skip {a b i : Nat} {qs : List Nat} {R : Nat} (h : BitI a b (i + 1) qs R) (hlt : R < b * 2 ^ i) : BitI a b i qs R := by
  obtain ⟨⟨y, hy⟩, hl⟩ := h.place
  exact ⟨h.sum, hlt, ⟨y * 2, by rw [hy, Nat.pow_succ, Nat.mul_assoc, Nat.mul_comm 2]⟩, hl⟩

/-- The word with its bit set. -/
theorem bit_word {x p : Nat} (hx : x < 4294967296) (hp : p < 32) (h : ∃ y, x = y * 2 ^ (p + 1)) : 2 ^ p ||| x = x + 2 ^ p ∧ x + 2 ^ p < 4294967296 := by
  obtain ⟨y, rfl⟩ := h
  have h1 : 2 ^ p < 2 ^ (p + 1) := Nat.pow_lt_pow_right (by omega) (by omega)
  constructor
  · rw [or_nat (2 ^ p) y (p + 1) h1, Nat.add_comm]
  · have hKP : 2 ^ (32 - (p + 1)) * 2 ^ (p + 1) = 4294967296 := by rw [← Nat.pow_add, show 32 - (p + 1) + (p + 1) = 32 by omega]
    have h2 : y < 2 ^ (32 - (p + 1)) := by
      have : y * 2 ^ (p + 1) < 2 ^ (32 - (p + 1)) * 2 ^ (p + 1) := by rw [hKP]; exact hx
      exact Nat.lt_of_mul_lt_mul_right this
    have h3 : (y + 1) * 2 ^ (p + 1) ≤ 2 ^ (32 - (p + 1)) * 2 ^ (p + 1) := Nat.mul_le_mul_right _ h2
    rw [hKP, Nat.add_mul] at h3
    omega

theorem BitI.set {a b i : Nat} {qs : List Nat} {R : Nat} (h : BitI a b (i + 1) qs R) (hle : b * 2 ^ i ≤ R) (hl : i / 32 < qs.length) : BitI a b i (qs.set (i / 32) (qs.getD (i / 32) 0 + 2 ^ (i % 32))) (R - b * 2 ^ i) := by
  obtain ⟨⟨y, hy⟩, hlow⟩ := h.place
  have hs := M.val_set 4294967296 (i / 32) qs (qs.getD (i / 32) 0 + 2 ^ (i % 32)) hl
  have e2 : 4294967296 ^ (i / 32) * 2 ^ (i % 32) = 2 ^ i := by
    rw [show (4294967296 : Nat) = 2 ^ 32 from rfl, ← Nat.pow_mul, ← Nat.pow_add]; congr 1; omega
  rw [Nat.mul_add, e2] at hs
  refine ⟨?_, ?_, ⟨y * 2 + 1, ?_⟩, fun j hj => ?_⟩
  · have h1 : X (qs.set (i / 32) (qs.getD (i / 32) 0 + 2 ^ (i % 32))) = X qs + 2 ^ i := by unfold X; omega
    rw [h1, Nat.mul_add]
    have := h.sum
    omega
  · have := h.lt
    rw [Nat.pow_succ, ← Nat.mul_assoc] at this
    omega
  · rw [M.getD_set_eq _ _ _ hl, hy, Nat.pow_succ, Nat.add_mul, Nat.mul_assoc, Nat.mul_comm 2, Nat.one_mul]
  · rw [M.getD_set_ne _ _ _ _ (by omega)]; exact hlow j hj

theorem BitI.start {a b k : Nat} (m : Nat) (h : a < b * 2 ^ (k + 1)) : BitI a b (k + 1) (List.replicate m 0) a := by
  have h0 : ∀ j, (List.replicate m 0).getD j 0 = 0 := fun j => by rw [List.getD_eq_getElem?_getD, List.getElem?_replicate]; split <;> rfl
  refine ⟨?_, h, ⟨0, by rw [h0, Nat.zero_mul]⟩, fun j _ => h0 j⟩
  unfold X; rw [M.val_replicate]; omega

theorem BitI.done {a b : Nat} {qs : List Nat} {R : Nat} (h : BitI a b 0 qs R) : X qs = a / b ∧ R = a % b := by
  have h1 := h.sum
  have h2 := h.lt
  rw [Nat.pow_zero, Nat.mul_one] at h2
  rw [h1]
  exact ⟨by rw [Nat.mul_add_div (by omega), Nat.div_eq_of_lt h2, Nat.add_zero], by rw [Nat.mul_add_mod, Nat.mod_eq_of_lt h2]⟩

theorem half_pow (b i : Nat) : b * 2 ^ (i + 1) / 2 = b * 2 ^ i := by rw [Nat.pow_succ, ← Nat.mul_assoc, Nat.mul_div_cancel _ (by omega)]

/-- A list lies apart from a block. -/
def Apart (ao : Option Addr) (xs : List Nat) (g : Nat) : Prop := 0 < xs.length → ∀ b2 o2, ao = some ⟨b2, o2, none⟩ → b2 ≠ g

theorem Rd.apart {w w' : World} {bo : Option Addr} {ys : List Nat} {g : Nat} (h : Rd w bo ys) (hg : w.grownBy w' (some g)) (hsep : Apart bo ys g) : Rd w' bo ys := by
  intro hp
  obtain ⟨b, off, e, hc⟩ := h hp
  exact ⟨b, off, e, fun i hi => hg.cell (hc i hi) (by simpa using hsep hp b off e)⟩

theorem apart_own {w : World} {base cap g : Nat} {ao : Option Addr} {xs : List Nat} (h : w.ownsRow base 22 1 (.slice ao xs.length cap) xs.length (U xs)) (hg : g < base) : Apart ao xs g := by
  intro h0 b2 o2 e
  obtain ⟨g3, e3, hg3⟩ := own_addr h h0
  rw [e3] at e
  cases e
  omega

theorem apart_lt {w : World} {ao : Option Addr} {xs : List Nat} {g : Nat} (h : Rd w ao xs) (hg : w.heap.size ≤ g) : Apart ao xs g := by
  intro h0 b2 o2 e
  obtain ⟨b, off, e2, hc⟩ := h h0
  have h1 : b < w.heap.size := World.block_lt_of_cell? w _ (hc 0 h0)
  rw [e2] at e
  cases e
  omega

set_option maxHeartbeats 2000000 in
theorem l1Div_wide (ao bo : Option Addr) (n m c d : Nat) (a b : Nat) (w : World) (hl : (D a).length = n) (hm : (D b).length = m) (hb : 0 < b) (hn : n ≤ 2600) (hn2 : m ≤ 2600) (hcn : n ≤ c) (hr : Rd w ao (D a)) (hr2 : Rd w bo (D b)) :
    Calls Tryd.prog 80 #[.slice ao n c, .slice bo m d] w fun e w' => RetM w w' e (D (a / b)) (D (a % b)) := by
  obtain ⟨i0, hi, hz0, hz1, hz2⟩ := info_parts Tryd.infoU
  obtain ⟨x, ex⟩ : ∃ x, x = blen a := ⟨_, rfl⟩
  obtain ⟨y, ey⟩ : ∃ x, x = blen b := ⟨_, rfl⟩
  have hbits : ∀ v l, (D v).length = l → blen v ≤ 32 * l := by
    intro v l hv
    refine blen_le_of v (32 * l) ?_
    have h1 := M.lt_dig (B := 4294967296) (by omega) v
    rw [show (M.dig 4294967296 v).length = l from hv, show (4294967296 : Nat) = 2 ^ 32 from rfl, ← Nat.pow_mul] at h1
    exact h1
  have hxb : x ≤ 83200 := by have := hbits a n hl; omega
  have hyb : y ≤ 83200 := by have := hbits b m hm; omega
  clear hbits
  have ha1 : a < 2 ^ x := by rw [ex]; exact lt_blen a
  have hb1 : 2 ^ (y - 1) ≤ b := by rw [ey]; exact blen_le b hb
  have hy0 : 0 < y := by rw [ey]; exact blen_pos b hb
  have EX := hid ex; have EY := hid ey; have HA1 := hid ha1; have HB1 := hid hb1
  clear ex ey ha1 hb1
  by_cases hxy : x < y
  · have hab : a < b := by
      have h1 : 2 ^ x ≤ 2 ^ (y - 1) := Nat.pow_le_pow_right (by omega) (by omega)
      have := HA1.out; have := HB1.out; omega
    rw [Nat.div_eq_of_lt hab, Nat.mod_eq_of_lt hab, show D 0 = [] from M.dig_zero _]
    have hneg : (x : Int) - (y : Int) < 0 := by omega
    go_enter Tryd.func80, Tryd.ntmps80
    go_wp2_with fail
    refine (l1Bits_any ao n c a _ hl (by omega) hr x EX.out).mono ?_
    rintro e w1 ⟨rfl, rfl⟩
    go_wp2_with fail
    refine (l1Bits_any bo m d b _ hm (by omega) hr2 y EY.out).mono ?_
    rintro e w2 ⟨rfl, rfl⟩
    go_wp2_with fail
    refine (l1Trim_any 4294967296 (by omega) ao n c (D a) _ hl hcn (by omega) (F32_D a) hr).mono ?_
    rw [show M.val 4294967296 (D a) = a from X_D a]
    rintro e w3 ⟨xa, xc, rfl, hox, hb3⟩
    go_wp2_with fail
    go_ret2
    exact ⟨none, 0, xa, xc, rfl, Rd.nil _ _, Rd.own hox, hb3⟩
  · obtain ⟨k, ek⟩ : ∃ k, k = x - y := ⟨_, rfl⟩
    have hkI : (x : Int) - (y : Int) = (k : Int) := by omega
    have hneg : ¬ (k : Int) < 0 := by omega
    have hkb : k ≤ 83200 := by omega
    obtain ⟨kj, ekj⟩ : ∃ j, j = k / 32 := ⟨_, rfl⟩
    have hkjI : (k : Int) / 32 = (kj : Int) := by omega
    have hmk := fun (wx : World) => run_make (P := Tryd.prog) wx 31 22 i0 (.int .u64 0) Tryd.underlying31 hi hz0 .i64 .i64 ((kj + 1 : Nat) : Int) ((kj + 1 : Nat) : Int) (by omega) (Int.le_refl _) (by rw [hz2]; omega) (by omega)
    have es : ((kj + 1 : Nat) : Int) = (kj : Int) + 1 := by omega
    rw [es] at hmk
    have et : ((kj : Int) + 1).toNat = kj + 1 := by omega
    rw [et] at hmk
    clear es et
    have EK := hid ek; have EKJ := hid ekj
    clear ek ekj
    go_enter Tryd.func80, Tryd.ntmps80
    go_wp2_with fail
    refine (l1Bits_any ao n c a _ hl (by omega) hr x EX.out).mono ?_
    rintro e w1 ⟨rfl, rfl⟩
    go_wp2_with fail
    refine (l1Bits_any bo m d b _ hm (by omega) hr2 y EY.out).mono ?_
    rintro e w2 ⟨rfl, rfl⟩
    go_wp2_with fail
    refine (l1Trim_any 4294967296 (by omega) ao n c (D a) _ hl hcn (by omega) (F32_D a) hr).mono ?_
    rw [show M.val 4294967296 (D a) = a from X_D a]
    rintro e w3 ⟨xa, xc, rfl, hox, hb3⟩
    have hB4 := blk_made w3 (kj + 1)
    have hb4 : Below w3.heap.size w3 (w3.alloc (.cells (madeCells #[Value.int .u64 0] (kj + 1)) 22)) := (Below.refl _ _).alloc (Nat.le_refl _) _
    have HB4 := hid hB4; have Hb4 := hid hb4
    clear hB4 hb4
    go_wp2_with fail
    have hB4 := HB4.out; have hb4 := Hb4.out
    generalize w3.alloc (.cells (madeCells #[Value.int .u64 0] (kj + 1)) 22) = w4 at hB4 hb4 ⊢
    have hbw4 := hb3.trans (hb4.mono hb3.size)
    refine (l1Left_any bo m d k b _ hm (by omega) (by omega) (hr2.below hbw4)).mono ?_
    rintro e w5 ⟨da, dc, rfl, hod, hb5⟩
    have hbw5 := hbw4.trans (hb5.mono hbw4.size)
    have hB5 := hB4.keep hb5
    have hrr := ((Rd.own hox).below hb4).below hb5
    have hrd := Rd.own hod
    have har : Apart xa (D a) w3.heap.size := apart_lt (Rd.own hox) (Nat.le_refl _)
    have had : Apart da (D (b * 2 ^ k)) w3.heap.size := apart_own hod (by have := hB4.lt; omega)
    have hab : a < b * 2 ^ (k + 1) := by
      have h1 := HA1.out
      have h2 := HB1.out
      have h3 : 2 ^ (y - 1) * 2 ^ (k + 1) ≤ b * 2 ^ (k + 1) := Nat.mul_le_mul_right _ h2
      rw [← Nat.pow_add, show y - 1 + (k + 1) = x by have := EK.out; omega] at h3
      omega
    have hst := BitI.start (kj + 1) hab
    have hdd := half_pow b k
    have hlen : ∀ v, v < 2 ^ x → (D v).length ≤ 2600 := by
      intro v hv
      obtain ⟨NN, eNN⟩ : ∃ NN, NN = 2600 := ⟨_, rfl⟩
      rw [← eNN]
      refine M.len_of_lt (B := 4294967296) (by omega) _ _ ?_
      rw [show (4294967296 : Nat) = 2 ^ 32 from rfl, ← Nat.pow_mul]
      exact Nat.lt_of_lt_of_le hv (Nat.pow_le_pow_right (by omega) (by omega))
    have hln : ∀ R, R ≤ a → (D R).length ≤ 2600 := fun R h => hlen R (Nat.lt_of_le_of_lt h HA1.out)
    have hldd : ∀ i, i ≤ k → (D (b * 2 ^ i)).length ≤ 2600 := by
      intro i hi
      refine hlen _ ?_
      have h1 : b < 2 ^ y := by rw [EY.out]; exact lt_blen b
      have h2 : b * 2 ^ i < 2 ^ y * 2 ^ i := Nat.mul_lt_mul_of_pos_right h1 (Nat.pow_pos (by omega))
      have h3 : 2 ^ y * 2 ^ i ≤ 2 ^ x := by rw [← Nat.pow_add]; exact Nat.pow_le_pow_right (by omega) (by have := EK.out; omega)
      omega
    have HAR := hid har; have HAD := hid had; have HST := hid hst; have HLN := hid hln; have HLD := hid hldd
    clear har had hab hst hlen hln hldd
    have HB5 := hid hB5; have HBW5 := hid hbw5; have HRR := hid hrr; have HRD := hid hrd
    clear hmk HB4 Hb4 hB4 hb4 hbw4 hbw5 hB5 hrr hrd hox hod
    go_wp2_with fail
    obtain ⟨g, eg⟩ : ∃ g, g = w3.heap.size := ⟨_, rfl⟩
    have hgw : w2.heap.size ≤ w3.heap.size := hb3.size
    go_loopw [7, 9, 10] (fun rs dv i wr => ∃ (t : Nat) (qs : List Nat) (R : Nat) (ra da : Option Addr) (rc dc : Nat), t ≤ k + 1 ∧ i = .int .i64 ((t : Int) - 1) ∧ rs = .slice ra (D R).length rc ∧ Rd wr ra (D R) ∧ dv = .slice da (D (b * 2 ^ t / 2)).length dc ∧ Rd wr da (D (b * 2 ^ t / 2)) ∧ Blk wr w3.heap.size qs ∧ qs.length = kj + 1 ∧ F32 qs ∧ BitI a b t qs R ∧ Apart ra (D R) w3.heap.size ∧ Apart da (D (b * 2 ^ t / 2)) w3.heap.size ∧ Below w2.heap.size w2 wr) (fun _ _ i _ => (intOf i + 1).toNat)
    case atStart =>
      refine ⟨k + 1, List.replicate (kj + 1) 0, a, xa, da, xc, dc, Nat.le_refl _, by go_num, rfl, HRR.out, ?_, ?_, HB5.out, by simp, fun x hx => by simp at hx; omega, ?_, HAR.out, ?_, HBW5.out⟩
      · rw [hdd]
      · rw [hdd]; exact HRD.out
      · exact HST.out
      · rw [hdd]; exact HAD.out
    case round =>
      obtain ⟨t, qs, R, ra, da, rc, dc, ht, rfl, rfl, hrR, rfl, hrD, hBq, hql, hqf, hI, hAR, hAD, hbl⟩ := hrel
      by_cases ht0 : 0 < t
      · obtain ⟨i, rfl⟩ : ∃ i, t = i + 1 := ⟨t - 1, by omega⟩
        have e1 : (((i + 1 : Nat) : Int) - 1) = (i : Int) := by omega
        rw [e1]
        rw [half_pow] at hrD hAD ⊢
        have hlr : (D R).length ≤ 2600 := HLN.out R (hI.le_a)
        have hld : (D (b * 2 ^ i)).length ≤ 2600 := HLD.out i (by omega)
        obtain ⟨j, ej⟩ : ∃ j, j = i / 32 := ⟨_, rfl⟩
        obtain ⟨p, ep⟩ : ∃ p, p = i % 32 := ⟨_, rfl⟩
        have ijI : (i : Int) / 32 = (j : Int) := by omega
        have ipI : (i : Int) % 32 = (p : Int) := by omega
        have hjb : j < kj + 1 := by have := EKJ.out; omega
        have hjI : (j : Int) < (kj : Int) + 1 := by omega
        have hpb : p < 32 := by omega
        have EJ := hid ej; have EP := hid ep
        clear ej ep
        have hge0 : (0 : Int) ≤ (i : Int) := by omega
        obtain ⟨dd, edd⟩ : ∃ dd, dd = b * 2 ^ i := ⟨_, rfl⟩
        rw [← edd] at hrD hAD hld ⊢
        have EDD := hid edd; clear edd
        by_cases hcm : dd ≤ R
        · have hcmp := cmpI_nonneg hcm
          have HI := hid hI; clear hI
          obtain ⟨x0, ex0⟩ : ∃ x0, x0 = qs.getD j 0 := ⟨_, rfl⟩
          have hx0 : x0 < 4294967296 := by rw [ex0]; exact hqf.get j
          have hpl := HI.out.place
          rw [← EJ.out, ← EP.out, ← ex0] at hpl
          obtain ⟨hor, hob⟩ := bit_word hx0 hpb hpl.1
          have hset := HI.out.set (by rw [← EDD.out]; exact hcm) (by rw [← EJ.out]; omega)
          rw [← EJ.out, ← EP.out, ← ex0, ← EDD.out] at hset
          obtain ⟨tp, etp⟩ : ∃ tp, tp = 2 ^ p := ⟨_, rfl⟩
          rw [← etp] at hor hob hset
          have wsh : ((2 : Int) ^ p) = (tp : Int) := by rw [pow_cast, etp]
          obtain ⟨x1, ex1⟩ : ∃ x1, x1 = x0 + tp := ⟨_, rfl⟩
          have wor : bits BinOp.or IntKind.u64 (x0 : Int) (tp : Int) = (x1 : Int) := by
            rw [or_comm_nat _ _ (by omega) (by omega), hor, ex1]
          rw [← ex1] at hset hob
          have htpb : tp < 18446744073709551616 := by omega
          have HSET := hid hset; have EX0 := hid ex0; have HOB := hid hob
          clear hset ex0 hob hor hpl etp ex1
          go_wp2_with fail
          refine (l1Cmp_any ra da _ _ rc dc R dd _ rfl rfl (by omega) (by omega) hrR hrD).mono ?_
          rintro e v1 ⟨rfl, rfl⟩
          go_wp2_with fail
          refine (l1Sub_any ra da _ _ rc dc R dd _ rfl rfl hcm (by omega) hrR hrD).mono ?_
          rintro e v2 ⟨sa, sc, rfl, hos, hbs⟩
          have hBq2 := hBq.keep hbs
          have hcq := hBq2.cell j (by omega)
          rw [← EX0.out] at hcq
          have hfq := hBq2.frozen j
          have hbl2 := hbl.trans (hbs.mono hbl.size)
          have hgs : v2.grownBy (v2.setCell ⟨w3.heap.size, j, none⟩ (.int .u64 (x1 : Int))) (some w3.heap.size) := grown_setCell _ _ _ _
          have hBq3 : Blk (v2.setCell ⟨w3.heap.size, j, none⟩ (.int .u64 (x1 : Int))) w3.heap.size (qs.set j x1) := hBq2.set _ _ _ rfl
          have hbl3 : Below w2.heap.size w2 (v2.setCell ⟨w3.heap.size, j, none⟩ (.int .u64 (x1 : Int))) := hbl2.setCell (by simpa using hgw) _
          have haps : Apart sa (D (R - dd)) w3.heap.size := apart_own hos (by have := hBq.lt; omega)
          have hrs3 := (Rd.own hos).apart hgs haps
          have hrd3 := (hrD.below hbs).apart hgs hAD
          have HBq3 := hid hBq3; have Hbl3 := hid hbl3; have Hrs3 := hid hrs3; have Hrd3 := hid hrd3
          clear hBq3 hbl3 hrs3 hrd3 hBq2 hgs hos hbs hbl2
          go_wp2_with fail
          have hBq3 := HBq3.out; have hbl3 := Hbl3.out; have hrs3 := Hrs3.out; have hrd3 := Hrd3.out
          generalize v2.setCell ⟨w3.heap.size, j, none⟩ (.int .u64 (x1 : Int)) = v3 at hBq3 hbl3 hrs3 hrd3 ⊢
          clear HBq3 Hbl3 Hrs3 Hrd3 hcq hfq
          refine (l1Right_any da _ dc 1 dd _ rfl (by omega) (by omega) hrd3).mono ?_
          rw [Nat.pow_one]
          rintro e v4 ⟨ta, tc, rfl, hot, hbt⟩
          have hbl4 := hbl3.trans (hbt.mono hbl3.size)
          have hBq4 := hBq3.keep hbt
          have hrs4 := hrs3.below hbt
          have hrt4 := Rd.own hot
          have hapt : Apart ta (D (dd / 2)) w3.heap.size := apart_own hot (by have := hBq3.lt; omega)
          have Hbl4 := hid hbl4; have HBq4 := hid hBq4; have Hrs4 := hid hrs4; have Hrt4 := hid hrt4; have Hapt := hid hapt; have Haps := hid haps
          clear hbl4 hBq4 hrs4 hrt4 hapt haps hot hbt hBq3 hbl3 hrs3 hrd3
          go_wp2_with fail
          go_roundw
          case rel =>
            have hfs : F32 (qs.set j x1) := by
              intro v hv
              rcases List.mem_or_eq_of_mem_set hv with hv | rfl
              · exact hqf v hv
              · exact HOB.out
            have R1 : ∃ (t : Nat) (qs : List Nat) (R' : Nat) (ra da : Option Addr) (rc dc : Nat), t ≤ k + 1 ∧ Value.int .i64 ((i : Int) - 1) = .int .i64 ((t : Int) - 1) ∧ Value.slice sa (D (R - dd)).length sc = .slice ra (D R').length rc ∧ Rd v4 ra (D R') ∧ Value.slice ta (D (dd / 2)).length tc = .slice da (D (b * 2 ^ t / 2)).length dc ∧ Rd v4 da (D (b * 2 ^ t / 2)) ∧ Blk v4 w3.heap.size qs ∧ qs.length = kj + 1 ∧ F32 qs ∧ BitI a b t qs R' ∧ Apart ra (D R') w3.heap.size ∧ Apart da (D (b * 2 ^ t / 2)) w3.heap.size ∧ Below w2.heap.size w2 v4 := by
              refine ⟨i, qs.set j x1, R - dd, sa, ta, sc, tc, by omega, rfl, rfl, Hrs4.out, ?_, ?_, HBq4.out, by rw [List.length_set]; exact hql, hfs, HSET.out, Haps.out, ?_, Hbl4.out⟩
              · rw [← EDD.out]
              · rw [← EDD.out]; exact Hrt4.out
              · rw [← EDD.out]; exact Hapt.out
            first | exact R1 | ((repeat apply Exists.intro); exact ⟨R1, rfl⟩)
          case measure => simp [intOf] <;> omega
        · have hcmp := cmpI_neg (show R < dd by omega)
          have hset := hI.skip (by rw [← EDD.out]; omega)
          have HSET := hid hset; clear hset hI
          go_wp2_with fail
          refine (l1Cmp_any ra da _ _ rc dc R dd _ rfl rfl (by omega) (by omega) hrR hrD).mono ?_
          rintro e v3 ⟨rfl, rfl⟩
          go_wp2_with fail
          refine (l1Right_any da _ dc 1 dd _ rfl (by omega) (by omega) hrD).mono ?_
          rw [Nat.pow_one]
          rintro e v4 ⟨ta, tc, rfl, hot, hbt⟩
          have hbl4 := hbl.trans (hbt.mono hbl.size)
          have hBq4 := hBq.keep hbt
          have hrs4 := hrR.below hbt
          have hrt4 := Rd.own hot
          have hapt : Apart ta (D (dd / 2)) w3.heap.size := apart_own hot (by have := hBq.lt; omega)
          have Hbl4 := hid hbl4; have HBq4 := hid hBq4; have Hrs4 := hid hrs4; have Hrt4 := hid hrt4; have Hapt := hid hapt
          clear hbl4 hBq4 hrs4 hrt4 hapt hot hbt
          go_wp2_with fail
          go_roundw
          case rel =>
            have R1 : ∃ (t : Nat) (qs : List Nat) (R' : Nat) (ra' da : Option Addr) (rc' dc : Nat), t ≤ k + 1 ∧ Value.int .i64 ((i : Int) - 1) = .int .i64 ((t : Int) - 1) ∧ Value.slice ra (D R).length rc = .slice ra' (D R').length rc' ∧ Rd v4 ra' (D R') ∧ Value.slice ta (D (dd / 2)).length tc = .slice da (D (b * 2 ^ t / 2)).length dc ∧ Rd v4 da (D (b * 2 ^ t / 2)) ∧ Blk v4 w3.heap.size qs ∧ qs.length = kj + 1 ∧ F32 qs ∧ BitI a b t qs R' ∧ Apart ra' (D R') w3.heap.size ∧ Apart da (D (b * 2 ^ t / 2)) w3.heap.size ∧ Below w2.heap.size w2 v4 := by
              refine ⟨i, qs, R, ra, ta, rc, tc, by omega, rfl, rfl, Hrs4.out, ?_, ?_, HBq4.out, hql, hqf, HSET.out, hAR, ?_, Hbl4.out⟩
              · rw [← EDD.out]
              · rw [← EDD.out]; exact Hrt4.out
              · rw [← EDD.out]; exact Hapt.out
            first | exact R1 | ((repeat apply Exists.intro); exact ⟨R1, rfl⟩)
          case measure => simp [intOf] <;> omega
      · have e : t = 0 := by omega
        subst e
        obtain ⟨hq, hR⟩ := hI.done
        have hge0 : ¬ (0 : Int) ≤ ((0 : Nat) : Int) - 1 := by omega
        have hrdq := hBq.rd0
        have HQ := hid hq; have HR := hid hR
        clear hI hq hR hrD hAD
        go_wp2_with fail
        refine (l1Trim_any 4294967296 (by omega) _ (kj + 1) (kj + 1) qs _ hql (Nat.le_refl _) (by omega) hqf hrdq).mono ?_
        rw [show M.val 4294967296 qs = a / b from HQ.out]
        rintro e v1 ⟨qa, qc, rfl, hoq, hbq⟩
        go_wp2_with fail
        go_ret2
        rw [← HR.out]
        exact ⟨qa, qc, ra, rc, rfl, Rd.own hoq, hrR.below hbq, hbl.trans (hbq.mono hbl.size)⟩

theorem l1Div_any (ao bo : Option Addr) (n m c d : Nat) (a b : Nat) (w : World) (hl : (D a).length = n) (hm : (D b).length = m) (hb : 0 < b) (hn : n ≤ 2400) (hn2 : m ≤ 2400) (hcn : n ≤ c) (hr : Rd w ao (D a)) (hr2 : Rd w bo (D b)) :
    Calls Tryd.prog 80 #[.slice ao n c, .slice bo m d] w fun e w' => RetM w w' e (D (a / b)) (D (a % b)) :=
  l1Div_wide ao bo n m c d a b w hl hm hb (by omega) (by omega) hcn hr hr2

end Go.Proofs.YtehplfmnipadmaeDoor

namespace Go.Proofs.YtehplfmnipadmaeDoor
open Go.RowKit
set_option linter.unusedVariables false
set_option maxRecDepth 100000

theorem keepC1 {w1 W v : World} (h : Below w1.heap.size w1 W) (k : Below W.heap.size W v) : Below w1.heap.size w1 v := h.trans (k.mono h.size)
theorem keepDr1 {w1 W : World} {b : Prop} (h : Below w1.heap.size w1 W ∧ b) : Below w1.heap.size w1 W.drew := h.1.drew

theorem two_new (w : World) (t : TypeId) (x y : Value) : (w.alloc (.cells #[x, y] t)).cell? ⟨w.heap.size, 0, none⟩ = some x ∧ (w.alloc (.cells #[x, y] t)).cell? ⟨w.heap.size, 1, none⟩ = some y ∧ (w.alloc (.cells #[x, y] t)).frozen? ⟨w.heap.size, 0, none⟩ = false ∧ (w.alloc (.cells #[x, y] t)).frozen? ⟨w.heap.size, 1, none⟩ = false := by
  simp [go_sem]

end Go.Proofs.YtehplfmnipadmaeDoor

namespace Go.Proofs.YtehplfmnipadmaeDoor
open Go.RowKit
set_option linter.unusedVariables false
set_option maxRecDepth 100000

/-- 'copy' into the head of an array of the call's own. -/
theorem copy_arr (dT sT t : TypeId) (hu : Tryd.prog.underlying dT = some (.slice 22)) (w1 : World) (g dn dc : Nat) (zs : List Value) (hg : w1.heap[g]? = some (.cells zs.toArray t (0, 0)))
    (ao : Option Addr) (ys : List Nat) (sn sc : Nat) (hy : ys.length = sn) (hr : Rd w1 ao ys) (h1 : sn ≤ dn) (h2 : sn ≤ zs.length) :
    ∃ w2, (Builtin.copy_ #[dT, sT] 3 #[.slice (some ⟨g, 0, none⟩) dn dc, .slice ao sn sc]).run Tryd.prog w1 = .ok (.int .i64 (sn : Int)) w2 ∧
      w2.heap[g]? = some (.cells (U ys ++ zs.drop sn).toArray t (0, 0)) ∧ w1.grownBy w2 (some g) := by
  have hs : (Tryd.prog.info? 22).map (·.size) = some 1 := by
    obtain ⟨i0, hi, hz0, hz1, hz2⟩ := info_parts Tryd.infoU
    rw [hi]; simp [hz1]
  by_cases h0 : sn = 0
  · subst h0
    have : ys = [] := List.eq_nil_of_length_eq_zero hy
    subst this
    refine ⟨w1, run_copy_none w1 dT sT 3 22 _ ao dn dc 0 sc hu hs (by simp), ?_, World.grownBy.refl _ _⟩
    simpa [U] using hg
  · obtain ⟨b, off, rfl, hc⟩ := hr (by omega)
    have hl : (U ys).length = sn := by rw [U_length, hy]
    have e := run_copy_row (P := Tryd.prog) w1 dT sT 3 22 g 0 dn dc ⟨b, off, none⟩ sn sc zs.toArray t (U ys) hu hs hg (by rw [hl]; show sn = min sn dn; omega) (Rd.cellAdd (ao := none) hc) (by simp [hl]; omega) (U_one ys)
    rw [hl] at e
    refine ⟨_, e, ?_, ?_⟩
    · rw [setRow_heap w1 g _ _ _ _ hg]; simp
    · exact ⟨rfl, rfl, rfl, by simp, fun k _ hk => setRow_other w1 g k _ (fun e => hk (by simp [e]))⟩

theorem L_get2 (a k : Nat) : (L a).getD k 0 = a / 18446744073709551616 ^ k % 18446744073709551616 := M.dig_get (by omega) k a

/-- Two limbs laid over zeros. -/
theorem lay2 (a : Nat) (h : (L a).length ≤ 2) (ha : a < 2 ^ 128) : U (L a) ++ (U [0, 0]).drop (L a).length = U [M.loN a, M.hiN a] := by
  have e2 : L a ++ [0, 0].drop (L a).length = [M.loN a, M.hiN a] := by
    have h0 := L_get2 a 0
    have h1 := L_get2 a 1
    have hh := M.hiLt ha
    have hlo : M.loN a = a % 18446744073709551616 := rfl
    have hhi : M.hiN a = a / 18446744073709551616 := rfl
    match hL : L a, h with
    | [], _ =>
      rw [hL] at h0 h1
      simp at h0 h1 ⊢
      exact ⟨by omega, by omega⟩
    | [x], _ =>
      rw [hL] at h0 h1
      simp at h0 h1 ⊢
      exact ⟨by omega, by omega⟩
    | [x, y], _ =>
      rw [hL] at h0 h1
      simp at h0 h1 ⊢
      exact ⟨by omega, by omega⟩
  rw [← e2, U_append]
  simp [U]

theorem cell_arr {w : World} {g x y : Nat} {t : TypeId} (h : w.heap[g]? = some (.cells (U [x, y]).toArray t (0, 0))) : w.cell? ⟨g, 0, none⟩ = some (.int .u64 (x : Int)) ∧ w.cell? ⟨g, 1, none⟩ = some (.int .u64 (y : Int)) := by
  simp [World.cell?, h, U]

set_option maxHeartbeats 1000000 in
theorem wordOf_any (ao : Option Addr) (n c a : Nat) (w : World) (hl : (L a).length = n) (ha : a < 2 ^ 128) (hr : Rd w ao (L a)) :
    Calls Tryd.prog 94 #[.slice ao n c] w fun e w' => e = .returned (.agg #[.int .u64 (M.hiN a : Int), .int .u64 (M.loN a : Int)]) ∧ Below w.heap.size w w' := by
  have hn : n ≤ 2 := by rw [← hl]; exact M.len_of_lt (by omega) a 2 (by omega)
  have b0 : Below w.heap.size w ((w.alloc (.cells #[.int .u64 0, .int .u64 0] 25)).alloc (.cells #[.int .u64 0, .int .u64 0] 115)) := ((Below.refl _ _).alloc (Nat.le_refl _) _).alloc (by simp) _
  have HG : ((w.alloc (.cells #[.int .u64 0, .int .u64 0] 25)).alloc (.cells #[.int .u64 0, .int .u64 0] 115)).heap[w.heap.size + 1]? = some (.cells (U [0, 0]).toArray 115 (0, 0)) := by
    have := heap_alloc_new (w.alloc (.cells #[.int .u64 0, .int .u64 0] 25)) (.cells #[.int .u64 0, .int .u64 0] 115)
    simpa [U] using this
  obtain ⟨w2, hcp, hg2, hgr2⟩ := copy_arr 31 74 115 Tryd.underlying31 _ (w.heap.size + 1) 2 2 (U [0, 0]) HG ao (L a) n c hl (hr.below b0) hn (by simp [U]; exact hn)
  rw [← hl, lay2 a (by omega) ha] at hg2
  obtain ⟨q0, q1⟩ := cell_arr hg2
  obtain ⟨t0, t1, t2, t3⟩ := two_new w 25 (.int .u64 0) (.int .u64 0)
  have ba : Below (w.alloc (.cells #[.int .u64 0, .int .u64 0] 25)).heap.size (w.alloc (.cells #[.int .u64 0, .int .u64 0] 25)) w2 := ((Below.refl _ _).alloc (Nat.le_refl _) _).grown hgr2 (by simp) (fun k hk => by cases hk; simp)
  have bb : Below w.heap.size w w2 := ((Below.refl w.heap.size w).alloc (Nat.le_refl _) _).trans (ba.mono (by simp))
  have r0 := (ba.cell (p := ⟨w.heap.size, 0, none⟩) (by simp)).trans t0
  have r1 := (ba.cell (p := ⟨w.heap.size, 1, none⟩) (by simp)).trans t1
  have z0 := (ba.frozen (p := ⟨w.heap.size, 0, none⟩) (by simp)).trans t2
  have z1 := (ba.frozen (p := ⟨w.heap.size, 1, none⟩) (by simp)).trans t3
  clear t0 t1 t2 t3 ba HG hgr2 hg2 hl
  go_enter Tryd.func94, Tryd.ntmps94
  go_wp2_with fail
  exact bodyPost_ret (v := .agg #[.int .u64 (M.hiN a : Int), .int .u64 (M.loN a : Int)]) (by simp [results, Tryd.results94, go_sem, r0, r1]) rfl ⟨rfl, (bb.setCell (p := ⟨w.heap.size, 0, none⟩) (Nat.le_refl _) _).setCell (p := ⟨w.heap.size, 1, none⟩) (Nat.le_refl _) _⟩

end Go.Proofs.YtehplfmnipadmaeDoor
