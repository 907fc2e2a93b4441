import Derived.Deep.RegionHeld3
import Derived.Test.YtcilemkeljcidaaDoorsWdM
import Derived.Test.YtcilemkeljcidaaDoorsSeg
import Derived.Test.YtcilemkeljcidaaDoorsW8a
import Derived.Test.YtcilemkeljcidaaDoorsW16
import Derived.Test.YtcilemkeljcidaaDoorsSubM
set_option maxHeartbeats 400000
namespace Go.Proofs.YtcilemkeljcidaaDoor
open Go.RowKit
set_option linter.unusedVariables false
set_option maxRecDepth 100000
theorem cnt_in (n m : Nat) (h : n ≤ m) (hm : m ≤ 128) : IntKind.u64.wrap (IntKind.i64.wrap ((m : Int) - (n : Int))) = ((m - n : Nat) : Int) := by
 have e : IntKind.i64.wrap ((m : Int) - (n : Int)) = ((m - n : Nat) : Int) := by
  simp only [IntKind.wrap_i64]; omega
 rw [e, wrapU, Nat.mod_eq_of_lt (by omega)]

theorem cnt_out (n m : Nat) (h : m < n) (hm : n ≤ 200) : 64 ≤ (IntKind.u64.wrap (IntKind.i64.wrap ((m : Int) - (n : Int)))).toNat := by
 have e : IntKind.i64.wrap ((m : Int) - (n : Int)) = (m : Int) - (n : Int) := by
  simp only [IntKind.wrap_i64]; omega
 rw [e, wrapSub m n (m + 18446744073709551616 - n) (by omega) (by omega)]
 omega

theorem shl64 (l : Nat) : IntKind.u64.wrap ((l : Int) * 2 ^ 64) = 0 := by
 have : (l : Int) * 2 ^ 64 = ((l * 18446744073709551616 : Nat) : Int) := by omega
 rw [this, wrapU]
 omega

theorem shlN (l n : Nat) : IntKind.u64.wrap ((l : Int) * 2 ^ n) = ((l * 2 ^ n % 18446744073709551616 : Nat) : Int) := by
 rw [pow_cast, ← Int.natCast_mul, wrapU]

theorem or_zero_r (a : Nat) (ha : a < 18446744073709551616) : bits BinOp.or IntKind.u64 (a : Int) 0 = (a : Int) := by
 have := or_comm_nat a 0 ha (by omega)
 simpa using this

theorem or_zero_l (a : Nat) (ha : a < 18446744073709551616) : bits BinOp.or IntKind.u64 0 (a : Int) = (a : Int) := by
 have := or_comm_nat 0 a (by omega) ha
 simpa using this

theorem or_self' (a : Nat) (ha : a < 18446744073709551616) : bits BinOp.or IntKind.u64 (a : Int) (a : Int) = (a : Int) := by
 have := or_comm_nat a a ha ha
 simpa using this

theorem shl_e1 (h l n k : Nat) (hl : l < 18446744073709551616) (hn : n < 64) (e3 : l / 2 ^ (64 - n) < 2 ^ n) (e4 : h * 2 ^ n % 18446744073709551616 = k * 2 ^ n) :
 bits BinOp.or IntKind.u64 (bits BinOp.or IntKind.u64 (IntKind.u64.wrap ((h : Int) * 2 ^ n)) ((l : Int) / 2 ^ min (IntKind.u64.wrap (IntKind.i64.wrap (64 - (n : Int)))).toNat 64))
  (IntKind.u64.wrap ((l : Int) * 2 ^ min (IntKind.u64.wrap (IntKind.i64.wrap ((n : Int) - 64))).toNat 64)) = ((h * 2 ^ n % 18446744073709551616 + l / 2 ^ (64 - n) : Nat) : Int) := by
 have t1 : min (IntKind.u64.wrap (IntKind.i64.wrap (64 - (n : Int)))).toNat 64 = 64 - n := by
  have := cnt_in n 64 (by omega) (by omega)
  rw [show ((64 : Nat) : Int) = 64 from rfl] at this
  rw [this]; omega
 have t2 : min (IntKind.u64.wrap (IntKind.i64.wrap ((n : Int) - 64))).toNat 64 = 64 := by
  have := cnt_out 64 n (by omega) (by omega)
  rw [show ((64 : Nat) : Int) = 64 from rfl] at this
  omega
 have hb : h * 2 ^ n % 18446744073709551616 < 18446744073709551616 := Nat.mod_lt _ (by omega)
 have hd : l / 2 ^ (64 - n) ≤ l := Nat.div_le_self _ _
 rw [t1, t2, shl64, shlN, div_cast, or_comm_nat _ _ hb (by omega), e4, or_nat _ _ _ e3, ← e4, Nat.add_comm]
 have hp : 2 ^ (64 - n) * 2 ^ n = 18446744073709551616 := by rw [← Nat.pow_add, show 64 - n + n = 64 by omega]
 apply or_zero_r
 rw [e4] at hb ⊢
 have : k < 2 ^ (64 - n) := by
  rw [← hp] at hb
  exact Nat.lt_of_mul_lt_mul_right hb
 have h2 : (k + 1) * 2 ^ n ≤ 2 ^ (64 - n) * 2 ^ n := Nat.mul_le_mul_right _ this
 rw [Nat.add_mul, hp] at h2
 omega

theorem shl_e2 (h l n : Nat) (hl : l < 18446744073709551616) (hn : 64 ≤ n) (hm : n < 128) :
 bits BinOp.or IntKind.u64 (bits BinOp.or IntKind.u64 (IntKind.u64.wrap ((h : Int) * 18446744073709551616)) ((l : Int) / 2 ^ min (IntKind.u64.wrap (IntKind.i64.wrap (64 - (n : Int)))).toNat 64))
  (IntKind.u64.wrap ((l : Int) * 2 ^ min (IntKind.u64.wrap (IntKind.i64.wrap ((n : Int) - 64))).toNat 64)) = ((l * 2 ^ (n - 64) % 18446744073709551616 : Nat) : Int) := by
 have t2 : min (IntKind.u64.wrap (IntKind.i64.wrap ((n : Int) - 64))).toNat 64 = n - 64 := by
  have := cnt_in 64 n (by omega) (by omega)
  rw [show ((64 : Nat) : Int) = 64 from rfl] at this
  rw [this]; omega
 have h0 := shl64 h
 rw [show (2 : Int) ^ 64 = 18446744073709551616 from rfl] at h0
 have hb : l * 2 ^ (n - 64) % 18446744073709551616 < 18446744073709551616 := Nat.mod_lt _ (by omega)
 rw [t2, h0, shlN]
 by_cases he : n = 64
 · have t1 : min (IntKind.u64.wrap (IntKind.i64.wrap (64 - (n : Int)))).toNat 64 = 0 := by
    have := cnt_in n 64 (by omega) (by omega)
    rw [show ((64 : Nat) : Int) = 64 from rfl] at this
    rw [this]; omega
   rw [t1, div_cast]
   subst he
   simp only [Nat.sub_self, Nat.pow_zero, Nat.div_one, Nat.mul_one, Nat.mod_eq_of_lt hl]
   rw [or_zero_l l hl, or_self' l hl]
 · have t1 : min (IntKind.u64.wrap (IntKind.i64.wrap (64 - (n : Int)))).toNat 64 = 64 := by
    have := cnt_out n 64 (by omega) (by omega)
    rw [show ((64 : Nat) : Int) = 64 from rfl] at this
    omega
   rw [t1, div_cast, show l / 2 ^ 64 = 0 from Nat.div_eq_of_lt (by omega)]
   have z : bits BinOp.or IntKind.u64 0 ((0 : Nat) : Int) = ((0 : Nat) : Int) := or_zero_l 0 (by omega)
   rw [z]
   exact or_zero_l _ hb

theorem shr_e1 (h l n k : Nat) (hh : h < 18446744073709551616) (hl : l < 18446744073709551616) (hn : n < 64) (e3 : l / 2 ^ n < 2 ^ (64 - n)) (e4 : h * 2 ^ (64 - n) % 18446744073709551616 = k * 2 ^ (64 - n)) :
 bits BinOp.or IntKind.u64 (bits BinOp.or IntKind.u64 ((l : Int) / 2 ^ n) (IntKind.u64.wrap ((h : Int) * 2 ^ min (IntKind.u64.wrap (IntKind.i64.wrap (64 - (n : Int)))).toNat 64)))
  ((h : Int) / 2 ^ min (IntKind.u64.wrap (IntKind.i64.wrap ((n : Int) - 64))).toNat 64) = ((l / 2 ^ n + h * 2 ^ (64 - n) % 18446744073709551616 : Nat) : Int) := by
 have t1 : min (IntKind.u64.wrap (IntKind.i64.wrap (64 - (n : Int)))).toNat 64 = 64 - n := by
  have := cnt_in n 64 (by omega) (by omega)
  rw [show ((64 : Nat) : Int) = 64 from rfl] at this
  rw [this]; omega
 have t2 : min (IntKind.u64.wrap (IntKind.i64.wrap ((n : Int) - 64))).toNat 64 = 64 := by
  have := cnt_out 64 n (by omega) (by omega)
  rw [show ((64 : Nat) : Int) = 64 from rfl] at this
  omega
 have hb : h * 2 ^ (64 - n) % 18446744073709551616 < 18446744073709551616 := Nat.mod_lt _ (by omega)
 have hd : l / 2 ^ n ≤ l := Nat.div_le_self _ _
 rw [t1, t2, shlN, div_cast, div_cast, show h / 2 ^ 64 = 0 from Nat.div_eq_of_lt (by omega)]
 have e : bits BinOp.or IntKind.u64 ((l / 2 ^ n : Nat) : Int) ((h * 2 ^ (64 - n) % 18446744073709551616 : Nat) : Int) = ((l / 2 ^ n + h * 2 ^ (64 - n) % 18446744073709551616 : Nat) : Int) := by
  rw [or_comm_nat _ _ (by omega) hb, Nat.or_comm, e4, or_nat _ _ _ e3]
 rw [e]
 have hp : 2 ^ n * 2 ^ (64 - n) = 18446744073709551616 := by rw [← Nat.pow_add, show n + (64 - n) = 64 by omega]
 apply or_zero_r
 rw [e4] at hb ⊢
 have : k < 2 ^ n := by
  rw [← hp] at hb
  exact Nat.lt_of_mul_lt_mul_right hb
 have h2 : (k + 1) * 2 ^ (64 - n) ≤ 2 ^ n * 2 ^ (64 - n) := Nat.mul_le_mul_right _ this
 rw [Nat.add_mul, hp] at h2
 omega

theorem shr_e2 (h l n : Nat) (hh : h < 18446744073709551616) (hl : l < 18446744073709551616) (hn : 64 ≤ n) (hm : n < 128) :
 bits BinOp.or IntKind.u64 (bits BinOp.or IntKind.u64 ((l : Int) / 18446744073709551616) (IntKind.u64.wrap ((h : Int) * 2 ^ min (IntKind.u64.wrap (IntKind.i64.wrap (64 - (n : Int)))).toNat 64)))
  ((h : Int) / 2 ^ min (IntKind.u64.wrap (IntKind.i64.wrap ((n : Int) - 64))).toNat 64) = ((h / 2 ^ (n - 64) : Nat) : Int) := by
 have t2 : min (IntKind.u64.wrap (IntKind.i64.wrap ((n : Int) - 64))).toNat 64 = n - 64 := by
  have := cnt_in 64 n (by omega) (by omega)
  rw [show ((64 : Nat) : Int) = 64 from rfl] at this
  rw [this]; omega
 have hb : h / 2 ^ (n - 64) ≤ h := Nat.div_le_self _ _
 have h0 : (l : Int) / 18446744073709551616 = ((0 : Nat) : Int) := by omega
 rw [t2, h0, div_cast]
 by_cases he : n = 64
 · have t1 : min (IntKind.u64.wrap (IntKind.i64.wrap (64 - (n : Int)))).toNat 64 = 0 := by
    have := cnt_in n 64 (by omega) (by omega)
    rw [show ((64 : Nat) : Int) = 64 from rfl] at this
    rw [this]; omega
   rw [t1, shlN]
   subst he
   simp only [Nat.sub_self, Nat.pow_zero, Nat.div_one, Nat.mul_one, Nat.mod_eq_of_lt hh]
   have z := or_zero_l h hh
   rw [show bits BinOp.or IntKind.u64 ((0 : Nat) : Int) (h : Int) = (h : Int) from z, or_self' h hh]
 · have t1 : min (IntKind.u64.wrap (IntKind.i64.wrap (64 - (n : Int)))).toNat 64 = 64 := by
    have := cnt_out n 64 (by omega) (by omega)
    rw [show ((64 : Nat) : Int) = 64 from rfl] at this
    omega
   rw [t1, shl64]
   have z : bits BinOp.or IntKind.u64 ((0 : Nat) : Int) 0 = ((0 : Nat) : Int) := or_zero_l 0 (by omega)
   rw [z]
   exact or_zero_l _ (by omega)

theorem below2 {w : World} (o1 o2 : Obj) : Below w.heap.size w ((w.alloc o1).alloc o2).drew :=
 (((Below.refl _ _).alloc (Nat.le_refl _) _).alloc (by simp) _).drew

theorem wshl_small (X n : Nat) (w : World) (hX : X < 2 ^ 128) (hn : n < 64) :
 Calls Tryd.prog 54 #[.agg #[.int .u64 (M.hiN X : Int), .int .u64 (M.loN X : Int)], .int .i64 (n : Int)] w fun e w' => e = .returned (.agg #[.int .u64 (M.hiN (X * 2 ^ n % 2 ^ 128) : Int), .int .u64 (M.loN (X * 2 ^ n % 2 ^ 128) : Int)]) ∧ Below w.heap.size w w' := by
 obtain ⟨e1, e2, e3, k, e4⟩ := M.shl_small X n hX hn
 rw [e1, e2]
 have hh := M.hiLt hX
 have hl := M.loLt X
 generalize M.hiN X = h at *
 generalize M.loN X = l at *
 clear e1 e2
 have E3 := hid e3; have E4 := hid e4; clear e3 e4
 go_enter Tryd.func54, Tryd.ntmps54
 go_wp2_with fail
 go_region_held3 (fun v => v.cell? ⟨w.heap.size, 0, none⟩ = some (.int .u64 (h : Int)) ∧ v.cell? ⟨w.heap.size, 1, none⟩ = some (.int .u64 (l : Int))) (go_keep) (fail)
 go_wp2_with fail
 refine bodyPost_ret (v := .agg #[.int .u64 (bits BinOp.or IntKind.u64 (bits BinOp.or IntKind.u64 (IntKind.u64.wrap ((h : Int) * 2 ^ n)) ((l : Int) / 2 ^ min (IntKind.u64.wrap (IntKind.i64.wrap (64 - (n : Int)))).toNat 64)) (IntKind.u64.wrap ((l : Int) * 2 ^ min (IntKind.u64.wrap (IntKind.i64.wrap ((n : Int) - 64))).toNat 64))), .int .u64 (IntKind.u64.wrap ((l : Int) * 2 ^ n))]) (by simp [results, Tryd.results54, go_sem]) rfl ⟨?_, below2 _ _⟩
 rw [shl_e1 h l n k hl hn E3.out E4.out, shlN]

theorem wshl_great (X n : Nat) (w : World) (hX : X < 2 ^ 128) (hn : 64 ≤ n) (hm : n < 128) :
 Calls Tryd.prog 54 #[.agg #[.int .u64 (M.hiN X : Int), .int .u64 (M.loN X : Int)], .int .i64 (n : Int)] w fun e w' => e = .returned (.agg #[.int .u64 (M.hiN (X * 2 ^ n % 2 ^ 128) : Int), .int .u64 (M.loN (X * 2 ^ n % 2 ^ 128) : Int)]) ∧ Below w.heap.size w w' := by
 obtain ⟨e1, e2⟩ := M.shl_great X n hX hn hm
 rw [e1, e2]
 have hh := M.hiLt hX
 have hl := M.loLt X
 generalize M.hiN X = h at *
 generalize M.loN X = l at *
 clear e1 e2
 go_enter Tryd.func54, Tryd.ntmps54
 go_wp2_with fail
 go_region_held3 (fun v => v.cell? ⟨w.heap.size, 0, none⟩ = some (.int .u64 (h : Int)) ∧ v.cell? ⟨w.heap.size, 1, none⟩ = some (.int .u64 (l : Int))) (go_keep) (fail)
 go_wp2_with fail
 refine bodyPost_ret (v := .agg #[.int .u64 (bits BinOp.or IntKind.u64 (bits BinOp.or IntKind.u64 (IntKind.u64.wrap ((h : Int) * 18446744073709551616)) ((l : Int) / 2 ^ min (IntKind.u64.wrap (IntKind.i64.wrap (64 - (n : Int)))).toNat 64)) (IntKind.u64.wrap ((l : Int) * 2 ^ min (IntKind.u64.wrap (IntKind.i64.wrap ((n : Int) - 64))).toNat 64))), .int .u64 (IntKind.u64.wrap ((l : Int) * 18446744073709551616))]) (by simp [results, Tryd.results54, go_sem]) rfl ⟨?_, below2 _ _⟩
 rw [shl_e2 h l n hl hn hm, show IntKind.u64.wrap ((l : Int) * 18446744073709551616) = ((0 : Nat) : Int) from shl64 l]

theorem wshr_small (X n : Nat) (w : World) (hX : X < 2 ^ 128) (hn : n < 64) :
 Calls Tryd.prog 52 #[.agg #[.int .u64 (M.hiN X : Int), .int .u64 (M.loN X : Int)], .int .i64 (n : Int)] w fun e w' => e = .returned (.agg #[.int .u64 (M.hiN (X / 2 ^ n) : Int), .int .u64 (M.loN (X / 2 ^ n) : Int)]) ∧ Below w.heap.size w w' := by
 obtain ⟨e1, e2, e3, k, e4⟩ := M.shr_small X n hX hn
 rw [e1, e2]
 have hh := M.hiLt hX
 have hl := M.loLt X
 generalize M.hiN X = h at *
 generalize M.loN X = l at *
 clear e1 e2
 have E3 := hid e3; have E4 := hid e4; clear e3 e4
 go_enter Tryd.func52, Tryd.ntmps52
 go_wp2_with fail
 go_region_held3 (fun v => v.cell? ⟨w.heap.size, 0, none⟩ = some (.int .u64 (h : Int)) ∧ v.cell? ⟨w.heap.size, 1, none⟩ = some (.int .u64 (l : Int))) (go_keep) (fail)
 go_wp2_with fail
 refine bodyPost_ret (v := .agg #[.int .u64 ((h : Int) / 2 ^ n), .int .u64 (bits BinOp.or IntKind.u64 (bits BinOp.or IntKind.u64 ((l : Int) / 2 ^ n) (IntKind.u64.wrap ((h : Int) * 2 ^ min (IntKind.u64.wrap (IntKind.i64.wrap (64 - (n : Int)))).toNat 64))) ((h : Int) / 2 ^ min (IntKind.u64.wrap (IntKind.i64.wrap ((n : Int) - 64))).toNat 64))]) (by simp [results, Tryd.results52, go_sem]) rfl ⟨?_, below2 _ _⟩
 rw [shr_e1 h l n k hh hl hn E3.out E4.out, div_cast]

theorem wshr_great (X n : Nat) (w : World) (hX : X < 2 ^ 128) (hn : 64 ≤ n) (hm : n < 128) :
 Calls Tryd.prog 52 #[.agg #[.int .u64 (M.hiN X : Int), .int .u64 (M.loN X : Int)], .int .i64 (n : Int)] w fun e w' => e = .returned (.agg #[.int .u64 (M.hiN (X / 2 ^ n) : Int), .int .u64 (M.loN (X / 2 ^ n) : Int)]) ∧ Below w.heap.size w w' := by
 obtain ⟨e1, e2⟩ := M.shr_great X n hX hn hm
 rw [e1, e2]
 have hh := M.hiLt hX
 have hl := M.loLt X
 generalize M.hiN X = h at *
 generalize M.loN X = l at *
 clear e1 e2
 go_enter Tryd.func52, Tryd.ntmps52
 go_wp2_with fail
 go_region_held3 (fun v => v.cell? ⟨w.heap.size, 0, none⟩ = some (.int .u64 (h : Int)) ∧ v.cell? ⟨w.heap.size, 1, none⟩ = some (.int .u64 (l : Int))) (go_keep) (fail)
 go_wp2_with fail
 refine bodyPost_ret (v := .agg #[.int .u64 ((h : Int) / 18446744073709551616), .int .u64 (bits BinOp.or IntKind.u64 (bits BinOp.or IntKind.u64 ((l : Int) / 18446744073709551616) (IntKind.u64.wrap ((h : Int) * 2 ^ min (IntKind.u64.wrap (IntKind.i64.wrap (64 - (n : Int)))).toNat 64))) ((h : Int) / 2 ^ min (IntKind.u64.wrap (IntKind.i64.wrap ((n : Int) - 64))).toNat 64))]) (by simp [results, Tryd.results52, go_sem]) rfl ⟨?_, below2 _ _⟩
 rw [shr_e2 h l n hh hl hn hm, show (h : Int) / 18446744073709551616 = ((0 : Nat) : Int) by omega]

theorem wshl (X n : Nat) (w : World) (hX : X < 2 ^ 128) (hn : n < 128) (Y : Nat) (hY : Y = X * 2 ^ n % 2 ^ 128) :
 Calls Tryd.prog 54 #[.agg #[.int .u64 (M.hiN X : Int), .int .u64 (M.loN X : Int)], .int .i64 (n : Int)] w fun e w' => e = .returned (.agg #[.int .u64 (M.hiN Y : Int), .int .u64 (M.loN Y : Int)]) ∧ Below w.heap.size w w' := by
 subst hY
 by_cases h : n < 64
 · exact wshl_small X n w hX h
 · exact wshl_great X n w hX (by omega) hn

theorem wshr (X n : Nat) (w : World) (hX : X < 2 ^ 128) (hn : n < 128) (Y : Nat) (hY : Y = X / 2 ^ n) :
 Calls Tryd.prog 52 #[.agg #[.int .u64 (M.hiN X : Int), .int .u64 (M.loN X : Int)], .int .i64 (n : Int)] w fun e w' => e = .returned (.agg #[.int .u64 (M.hiN Y : Int), .int .u64 (M.loN Y : Int)]) ∧ Below w.heap.size w w' := by
 subst hY
 by_cases h : n < 64
 · exact wshr_small X n w hX h
 · exact wshr_great X n w hX (by omega) hn

end Go.Proofs.YtcilemkeljcidaaDoor
