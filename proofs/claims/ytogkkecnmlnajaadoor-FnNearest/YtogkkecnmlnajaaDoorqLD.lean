import Derived.Test.YtogkkecnmlnajaaDoorqBC
import Derived.Test.YtogkkecnmlnajaaDoorqLenA
set_option maxHeartbeats 400000
namespace Go.Proofs.YtogkkecnmlnajaaDoor
open Go.RowKit
set_option linter.unusedVariables false
set_option maxRecDepth 100000
theorem len64_any (x : Nat) (w : World) (h : x < 18446744073709551616) (b : Nat) (hb : b = blen x) :
 Calls Tryd.prog 90 #[.int .u64 (x : Int)] w fun e w' => e = .returned (.int .i64 (b : Int)) ∧ w' = w := by
 have := len64_int (x : Int) w (by omega) (by omega)
 rw [Int.toNat_natCast, bitLen_64 x h, ← hb] at this
 exact this

theorem lz_any (x : Nat) (w : World) (h : x < 18446744073709551616) (s : Nat) (hs : s = 64 - blen x) :
 Calls Tryd.prog 85 #[.int .u64 (x : Int)] w fun e w' => e = .returned (.int .i64 (s : Int)) ∧ w' = w := by
 obtain ⟨b, eb⟩ : ∃ b : Nat, b = blen x := ⟨_, rfl⟩
 have hb : b ≤ 64 := by rw [eb]; exact blen_le_of x 64 h
 have hsI : (64 : Int) - (b : Int) = (s : Int) := by rw [hs, ← eb]; omega
 have EB := hid eb
 clear eb hs
 go_enter Tryd.func85, Tryd.ntmps85
 go_wp2_with fail
 refine (len64_any x _ h b EB.out).mono ?_
 rintro e w1 ⟨rfl, rfl⟩
 go_wp2_with fail
 go_ret
 exact ⟨rfl, rfl⟩

theorem norm_facts (y s : Nat) (hy : 0 < y) (hyb : y < 18446744073709551616) (hs : s = 64 - blen y) : s < 64 ∧ y * 2 ^ s < 18446744073709551616 ∧ 9223372036854775808 ≤ y * 2 ^ s := by
 have h1 := lt_blen y
 have h2 := blen_le y hy
 have h3 := blen_pos y hy
 have h4 : blen y ≤ 64 := blen_le_of y 64 hyb
 refine ⟨by omega, ?_, ?_⟩
 · have : y * 2 ^ s < 2 ^ blen y * 2 ^ s := Nat.mul_lt_mul_of_pos_right h1 (Nat.pow_pos (by omega))
   rw [← Nat.pow_add, show blen y + s = 64 by omega] at this
   exact this
 · have : 2 ^ (blen y - 1) * 2 ^ s ≤ y * 2 ^ s := Nat.mul_le_mul_right _ h2
   rw [← Nat.pow_add, show blen y - 1 + s = 63 by omega] at this
   exact this

theorem un32_word (hi lo s y : Nat) (hs : s < 64) (hlo : lo < 18446744073709551616) (hlt : hi < y) (hyb : y * 2 ^ s < 18446744073709551616) :
 bits BinOp.or IntKind.u64 (IntKind.u64.wrap ((hi : Int) * 2 ^ s)) ((lo : Int) / 2 ^ (64 - s)) = ((hi * 2 ^ s + lo / 2 ^ (64 - s) : Nat) : Int) ∧ hi * 2 ^ s + lo / 2 ^ (64 - s) < y * 2 ^ s ∧
  (hi * 2 ^ s + lo / 2 ^ (64 - s)) * 18446744073709551616 + lo * 2 ^ s % 18446744073709551616 = (hi * 18446744073709551616 + lo) * 2 ^ s := by
 have hKP : 2 ^ (64 - s) * 2 ^ s = 18446744073709551616 := M.pow_split s 64 (by omega)
 have h1 : lo / 2 ^ (64 - s) < 2 ^ s := Nat.div_lt_of_lt_mul (by omega)
 have h2 : (hi + 1) * 2 ^ s ≤ y * 2 ^ s := Nat.mul_le_mul_right _ hlt
 rw [Nat.add_mul, Nat.one_mul] at h2
 have hp0 : 0 < 2 ^ s := Nat.pow_pos (by omega)
 refine ⟨?_, by omega, ?_⟩
 · have e1 : IntKind.u64.wrap ((hi : Int) * 2 ^ s) = ((hi * 2 ^ s : Nat) : Int) := by
    rw [pow_cast, ← Int.natCast_mul, wrapU, Nat.mod_eq_of_lt (by omega)]
   rw [e1, div_cast, or_comm_nat _ _ (by omega) (by omega), or_nat _ hi s h1, Nat.add_comm]
 · have e : lo * 2 ^ s % 18446744073709551616 + 18446744073709551616 * (lo / 2 ^ (64 - s)) = lo * 2 ^ s := by
    have h5 : lo * 2 ^ s / 18446744073709551616 = lo / 2 ^ (64 - s) := by
     rw [← hKP, Nat.mul_div_mul_right _ _ (Nat.pow_pos (by omega))]
    have := Nat.mod_add_div (lo * 2 ^ s) 18446744073709551616
    rw [h5] at this
    exact this
   rw [Nat.add_mul, Nat.add_mul, Nat.mul_right_comm hi]
   omega

theorem rest_word (u d q y p1 p2 p3 r : Nat) (hy : y < 18446744073709551616) (hyp : 0 < y) (hq : q = (u * 4294967296 + d) / y) (h1 : p1 = u * 4294967296 % 18446744073709551616) (h2 : p2 = (p1 + d) % 18446744073709551616) (h3 : p3 = q * y % 18446744073709551616) (hr : r = (u * 4294967296 + d) % y) :
 r = (p2 + 18446744073709551616 - p3) % 18446744073709551616 := by
 have e := Nat.div_add_mod (u * 4294967296 + d) y
 rw [← hq, ← hr, Nat.mul_comm] at e
 have hrl : r < y := by rw [hr]; exact Nat.mod_lt _ hyp
 generalize q * y = t at *
 omega

end Go.Proofs.YtogkkecnmlnajaaDoor
