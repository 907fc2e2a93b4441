import Derived.Deep.CutBlock
import Derived.Deep.DeepCutAuto
import Derived.Test.YtcilemkeljcidaaDoorsFd1
import Derived.Test.YtcilemkeljcidaaDoorsW4
import Derived.Test.YtcilemkeljcidaaDoorsLwA
import Derived.Test.YtcilemkeljcidaaDoorsW19s
import Derived.Test.YtcilemkeljcidaaDoorsW15a
set_option maxHeartbeats 400000
namespace Go.Proofs.YtcilemkeljcidaaDoor
open Go.RowKit
set_option linter.unusedVariables false
set_option maxRecDepth 100000
theorem V2 (l h : Nat) : V [l, h] = h * 18446744073709551616 + l := by simp [V, M.val]; omega

theorem l2Of_any (X : Nat) (hX : X < 2 ^ 128) (w : World) :
 Calls Tryd.prog 23 #[.agg #[.int .u64 (M.hiN X : Int), .int .u64 (M.loN X : Int)]] w fun e w' => Ret w w' e (D X) := by
 have hv : V [M.loN X, M.hiN X] = X := by rw [V2]; exact (M.hl X).symm
 have hf : F64 [M.loN X, M.hiN X] := by intro y hy; simp at hy; have := M.loLt X; have := M.hiLt hX; omega
 generalize M.hiN X = h at *
 generalize M.loN X = l at *
 have HV := hid hv; clear hv
 obtain ⟨w1, hw1⟩ : ∃ w1, w1 = w.alloc (.cells #[.int .u64 (h : Int), .int .u64 (l : Int)] 30) := ⟨_, rfl⟩
 have hB := blk_lit w1 [l, h]
 have b0 : Below w.heap.size w w1 := by rw [hw1]; exact (Below.refl _ _).alloc (Nat.le_refl _) _
 have hb : Below w1.heap.size w1 (w1.alloc (.cells (U [l, h]).toArray 27)) := (Below.refl _ _).alloc (Nat.le_refl _) _
 have hU : (U [l, h]).toArray = #[Value.int .u64 (l : Int), Value.int .u64 (h : Int)] := rfl
 rw [hU] at hB hb
 have hsz : w1.heap.size = w.heap.size + 1 := by rw [hw1]; simp
 rw [hw1] at hB hb b0
 rw [hw1] at hsz
 rw [hsz] at hB
 clear hU hw1
 go_enter Tryd.func23, Tryd.ntmps23
 go_wp2_with fail
 refine (l1In_any _ 2 2 [l, h] _ rfl (by omega) hf hB.rd0).mono ?_
 rw [HV.out]
 rintro e w2 ⟨ao', cap', rfl, ho, hb'⟩
 go_wp2_with fail
 go_ret
 have b1 := b0.trans (hb.mono b0.size)
 exact ⟨ao', cap', rfl, own_base ho b1.size, b1.trans (hb'.mono b1.size)⟩

theorem l2Low_any (ao : Option Addr) (n c s : Nat) (a : Nat) (w : World) (hl : (D a).length = n) (hn : n ≤ 64) (hs : s ≤ 128) (hr : Rd w ao (D a)) :
 Calls Tryd.prog 25 #[.slice ao n c, .int .i64 (s : Int)] w fun e w' => Ret w w' e (D (a % 2 ^ s)) := by
 have hle : a / 2 ^ s * 2 ^ s ≤ a := Nat.div_mul_le_self _ _
 have hsub : a - a / 2 ^ s * 2 ^ s = a % 2 ^ s := by
  have := Nat.div_add_mod a (2 ^ s)
  rw [Nat.mul_comm] at this
  omega
 have hq : (D (a / 2 ^ s)).length ≤ n := by
  rw [← hl]; exact M.len_of_lt (by omega) _ _ (Nat.lt_of_le_of_lt (Nat.div_le_self _ _) (M.lt_dig (by omega) a))
 have HS := hid hsub; have HLE := hid hle
 obtain ⟨q, hqd⟩ : ∃ q, q = a / 2 ^ s := ⟨_, rfl⟩
 rw [← hqd] at hq HS HLE
 have HQ := hid hqd
 clear hsub hle hqd
 go_enter Tryd.func25, Tryd.ntmps25
 go_wp2_with fail
 refine (l1Right_any ao n c s a _ hl (by omega) (by omega) hr).mono ?_
 rw [← HQ.out]
 rintro e w1 ⟨ao1, cap1, rfl, ho1, hb1⟩
 go_wp2_with fail
 refine (l1Left_any ao1 _ cap1 s q _ rfl (by omega) (by omega) (Rd.own ho1)).mono ?_
 rintro e w2 ⟨ao2, cap2, rfl, ho2, hb2⟩
 have b2 := hb1.trans (hb2.mono hb1.size)
 go_wp2_with fail
 refine (l1Sub_any ao ao2 n _ c cap2 a (q * 2 ^ s) _ hl rfl HLE.out (by omega) (hr.below b2) (Rd.own ho2)).mono ?_
 rw [HS.out]
 rintro e w3 ⟨ao3, cap3, rfl, ho3, hb3⟩
 go_wp2_with fail
 go_ret
 exact ⟨ao3, cap3, rfl, own_base ho3 b2.size, b2.trans (hb3.mono b2.size)⟩

theorem l2Two_any (s : Nat) (w : World) (hs : s ≤ 128) :
 Calls Tryd.prog 29 #[.int .i64 (s : Int)] w fun e w' => Ret w w' e (D (2 ^ s)) := by
 go_enter Tryd.func29, Tryd.ntmps29
 go_wp2_with fail
 refine (l1Of_any 1 _ (by omega)).mono ?_
 rintro e w1 ⟨ao1, cap1, rfl, ho1, hb1⟩
 have hl : (D 1).length ≤ 6 := D_small 1 (by omega)
 go_wp2_with fail
 refine (l1Left_any ao1 _ cap1 s 1 _ rfl (by omega) (by omega) (Rd.own ho1)).mono ?_
 rw [Nat.one_mul]
 rintro e w2 ⟨ao2, cap2, rfl, ho2, hb2⟩
 go_wp2_with fail
 go_ret
 exact ⟨ao2, cap2, rfl, own_base ho2 hb1.size, hb1.trans (hb2.mono hb1.size)⟩

theorem and1 (y : Nat) (h : y < 18446744073709551616) : bits BinOp.and IntKind.u64 (y : Int) 1 = ((y % 2 : Nat) : Int) := by
 have := u64_and_nat y 1 h (by omega)
 rw [show ((1 : Nat) : Int) = 1 from rfl, Nat.and_one_is_mod] at this
 exact this

theorem bit_digit (a i : Nat) : (D a).getD (i / 32) 0 / 2 ^ (i % 32) % 2 = a / 2 ^ i % 2 := by
 rw [D_get, show (4294967296 : Nat) = 2 ^ 32 from rfl, ← Nat.pow_mul]
 have e : 2 ^ 32 = 2 ^ (i % 32) * (2 * 2 ^ (31 - i % 32)) := by
  rw [← Nat.pow_succ', ← Nat.pow_add]; congr 1; omega
 rw [e, Nat.mod_mul_right_div_self, Nat.mod_mul_right_mod, Nat.div_div_eq_div_mul, ← Nat.pow_add]
 congr 2
 have := Nat.div_add_mod i 32
 rw [this]

theorem l1Bit_any (ao : Option Addr) (n c i : Nat) (a : Nat) (w : World) (hl : (D a).length = n) (hn : n ≤ 64) (hi : i ≤ 200) (hr : Rd w ao (D a)) (b : Nat) (hb : b = a / 2 ^ i % 2) :
 Calls Tryd.prog 26 #[.slice ao n c, .int .i64 (i : Int)] w fun e w' => e = .returned (.int .u64 (b : Int)) ∧ w' = w := by
 obtain ⟨q, hq⟩ : ∃ q : Nat, q = i / 32 := ⟨_, rfl⟩
 obtain ⟨p, hp⟩ : ∃ p : Nat, p = i % 32 := ⟨_, rfl⟩
 have hqI : (i : Int) / 32 = (q : Int) := by omega
 have hpI : (i : Int) % 32 = (p : Int) := by omega
 have hpb : p < 32 := by omega
 have hqb : q ≤ 200 := by omega
 obtain ⟨x, hx⟩ : ∃ x : Nat, x = (D a).getD q 0 := ⟨_, rfl⟩
 have hxl : x < 4294967296 := by rw [hx]; exact (F32_D a).get q
 have hd := bit_digit a i
 rw [← hq, ← hp, ← hx, ← hb] at hd
 have hdc := div_cast x p
 have hle : x / 2 ^ p ≤ x := Nat.div_le_self _ _
 have ha := and1 (x / 2 ^ p) (by omega)
 rw [hd, ← hdc] at ha
 have HX := hid hx
 clear hq hp hx hd hdc hle hb
 go_enter Tryd.func26, Tryd.ntmps26
 go_wp2_with fail
 refine (l1At_any ao _ c q (D a) _ hl (by omega) (by omega) hr x HX.out).mono ?_
 rintro e w2 ⟨rfl, rfl⟩
 go_wp2_with fail
 go_ret
 exact ⟨rfl, rfl⟩

end Go.Proofs.YtcilemkeljcidaaDoor
