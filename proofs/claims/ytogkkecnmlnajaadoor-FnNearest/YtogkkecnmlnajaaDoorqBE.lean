import Derived.Deep.RegionHeld3
import Derived.Deep.CutBlock
import Derived.Deep.DeepCutAuto
import Derived.Test.YtogkkecnmlnajaaDoorqBC
import Derived.Test.YtogkkecnmlnajaaDoorqBD
set_option maxHeartbeats 400000
namespace Go.Proofs.YtogkkecnmlnajaaDoor
open Go.RowKit
set_option linter.unusedVariables false
set_option maxRecDepth 100000
theorem cnt_in (n m : Nat) (h : n ≤ m) (hm : m ≤ 128) : IntKind.u64.wrap (IntKind.i64.wrap ((m : Int) - (n : Int))) = ((m - n : Nat) : Int) := by
 have e : IntKind.i64.wrap ((m : Int) - (n : Int)) = ((m - n : Nat) : Int) := by
  simp only [IntKind.wrap_i64]; omega
 rw [e, wrapU, Nat.mod_eq_of_lt (by omega)]

theorem cnt_out (n m : Nat) (h : m < n) (hm : n ≤ 200) : 64 ≤ (IntKind.u64.wrap (IntKind.i64.wrap ((m : Int) - (n : Int)))).toNat := by
 have e : IntKind.i64.wrap ((m : Int) - (n : Int)) = (m : Int) - (n : Int) := by
  simp only [IntKind.wrap_i64]; omega
 rw [e, wrapSub m n (m + 18446744073709551616 - n) (by omega) (by omega)]
 omega

theorem shl64 (l : Nat) : IntKind.u64.wrap ((l : Int) * 2 ^ 64) = 0 := by
 have : (l : Int) * 2 ^ 64 = ((l * 18446744073709551616 : Nat) : Int) := by omega
 rw [this, wrapU]
 omega

theorem shlN (l n : Nat) : IntKind.u64.wrap ((l : Int) * 2 ^ n) = ((l * 2 ^ n % 18446744073709551616 : Nat) : Int) := by
 rw [pow_cast, ← Int.natCast_mul, wrapU]

theorem or_zero_r (a : Nat) (ha : a < 18446744073709551616) : bits BinOp.or IntKind.u64 (a : Int) 0 = (a : Int) := by
 have := or_comm_nat a 0 ha (by omega)
 simpa using this

theorem or_zero_l (a : Nat) (ha : a < 18446744073709551616) : bits BinOp.or IntKind.u64 0 (a : Int) = (a : Int) := by
 have := or_comm_nat 0 a (by omega) ha
 simpa using this

theorem or_self' (a : Nat) (ha : a < 18446744073709551616) : bits BinOp.or IntKind.u64 (a : Int) (a : Int) = (a : Int) := by
 have := or_comm_nat a a ha ha
 simpa using this

theorem shl_e1 (h l n k : Nat) (hl : l < 18446744073709551616) (hn : n < 64) (e3 : l / 2 ^ (64 - n) < 2 ^ n) (e4 : h * 2 ^ n % 18446744073709551616 = k * 2 ^ n) :
 bits BinOp.or IntKind.u64 (bits BinOp.or IntKind.u64 (IntKind.u64.wrap ((h : Int) * 2 ^ n)) ((l : Int) / 2 ^ min (IntKind.u64.wrap (IntKind.i64.wrap (64 - (n : Int)))).toNat 64))
  (IntKind.u64.wrap ((l : Int) * 2 ^ min (IntKind.u64.wrap (IntKind.i64.wrap ((n : Int) - 64))).toNat 64)) = ((h * 2 ^ n % 18446744073709551616 + l / 2 ^ (64 - n) : Nat) : Int) := by
 have t1 : min (IntKind.u64.wrap (IntKind.i64.wrap (64 - (n : Int)))).toNat 64 = 64 - n := by
  have := cnt_in n 64 (by omega) (by omega)
  rw [show ((64 : Nat) : Int) = 64 from rfl] at this
  rw [this]; omega
 have t2 : min (IntKind.u64.wrap (IntKind.i64.wrap ((n : Int) - 64))).toNat 64 = 64 := by
  have := cnt_out 64 n (by omega) (by omega)
  rw [show ((64 : Nat) : Int) = 64 from rfl] at this
  omega
 have hb : h * 2 ^ n % 18446744073709551616 < 18446744073709551616 := Nat.mod_lt _ (by omega)
 have hd : l / 2 ^ (64 - n) ≤ l := Nat.div_le_self _ _
 rw [t1, t2, shl64, shlN, div_cast, or_comm_nat _ _ hb (by omega), e4, or_nat _ _ _ e3, ← e4, Nat.add_comm]
 have hp : 2 ^ (64 - n) * 2 ^ n = 18446744073709551616 := by rw [← Nat.pow_add, show 64 - n + n = 64 by omega]
 apply or_zero_r
 rw [e4] at hb ⊢
 have : k < 2 ^ (64 - n) := by
  rw [← hp] at hb
  exact Nat.lt_of_mul_lt_mul_right hb
 have h2 : (k + 1) * 2 ^ n ≤ 2 ^ (64 - n) * 2 ^ n := Nat.mul_le_mul_right _ this
 rw [Nat.add_mul, hp] at h2
 omega

theorem shl_e2 (h l n : Nat) (hl : l < 18446744073709551616) (hn : 64 ≤ n) (hm : n < 128) :
 bits BinOp.or IntKind.u64 (bits BinOp.or IntKind.u64 (IntKind.u64.wrap ((h : Int) * 18446744073709551616)) ((l : Int) / 2 ^ min (IntKind.u64.wrap (IntKind.i64.wrap (64 - (n : Int)))).toNat 64))
  (IntKind.u64.wrap ((l : Int) * 2 ^ min (IntKind.u64.wrap (IntKind.i64.wrap ((n : Int) - 64))).toNat 64)) = ((l * 2 ^ (n - 64) % 18446744073709551616 : Nat) : Int) := by
 have t2 : min (IntKind.u64.wrap (IntKind.i64.wrap ((n : Int) - 64))).toNat 64 = n - 64 := by
  have := cnt_in 64 n (by omega) (by omega)
  rw [show ((64 : Nat) : Int) = 64 from rfl] at this
  rw [this]; omega
 have h0 := shl64 h
 rw [show (2 : Int) ^ 64 = 18446744073709551616 from rfl] at h0
 have hb : l * 2 ^ (n - 64) % 18446744073709551616 < 18446744073709551616 := Nat.mod_lt _ (by omega)
 rw [t2, h0, shlN]
 by_cases he : n = 64
 · have t1 : min (IntKind.u64.wrap (IntKind.i64.wrap (64 - (n : Int)))).toNat 64 = 0 := by
    have := cnt_in n 64 (by omega) (by omega)
    rw [show ((64 : Nat) : Int) = 64 from rfl] at this
    rw [this]; omega
   rw [t1, div_cast]
   subst he
   simp only [Nat.sub_self, Nat.pow_zero, Nat.div_one, Nat.mul_one, Nat.mod_eq_of_lt hl]
   rw [or_zero_l l hl, or_self' l hl]
 · have t1 : min (IntKind.u64.wrap (IntKind.i64.wrap (64 - (n : Int)))).toNat 64 = 64 := by
    have := cnt_out n 64 (by omega) (by omega)
    rw [show ((64 : Nat) : Int) = 64 from rfl] at this
    omega
   rw [t1, div_cast, show l / 2 ^ 64 = 0 from Nat.div_eq_of_lt (by omega)]
   have z : bits BinOp.or IntKind.u64 0 ((0 : Nat) : Int) = ((0 : Nat) : Int) := or_zero_l 0 (by omega)
   rw [z]
   exact or_zero_l _ hb

theorem shr_e1 (h l n k : Nat) (hh : h < 18446744073709551616) (hl : l < 18446744073709551616) (hn : n < 64) (e3 : l / 2 ^ n < 2 ^ (64 - n)) (e4 : h * 2 ^ (64 - n) % 18446744073709551616 = k * 2 ^ (64 - n)) :
 bits BinOp.or IntKind.u64 (bits BinOp.or IntKind.u64 ((l : Int) / 2 ^ n) (IntKind.u64.wrap ((h : Int) * 2 ^ min (IntKind.u64.wrap (IntKind.i64.wrap (64 - (n : Int)))).toNat 64)))
  ((h : Int) / 2 ^ min (IntKind.u64.wrap (IntKind.i64.wrap ((n : Int) - 64))).toNat 64) = ((l / 2 ^ n + h * 2 ^ (64 - n) % 18446744073709551616 : Nat) : Int) := by
 have t1 : min (IntKind.u64.wrap (IntKind.i64.wrap (64 - (n : Int)))).toNat 64 = 64 - n := by
  have := cnt_in n 64 (by omega) (by omega)
  rw [show ((64 : Nat) : Int) = 64 from rfl] at this
  rw [this]; omega
 have t2 : min (IntKind.u64.wrap (IntKind.i64.wrap ((n : Int) - 64))).toNat 64 = 64 := by
  have := cnt_out 64 n (by omega) (by omega)
  rw [show ((64 : Nat) : Int) = 64 from rfl] at this
  omega
 have hb : h * 2 ^ (64 - n) % 18446744073709551616 < 18446744073709551616 := Nat.mod_lt _ (by omega)
 have hd : l / 2 ^ n ≤ l := Nat.div_le_self _ _
 rw [t1, t2, shlN, div_cast, div_cast, show h / 2 ^ 64 = 0 from Nat.div_eq_of_lt (by omega)]
 have e : bits BinOp.or IntKind.u64 ((l / 2 ^ n : Nat) : Int) ((h * 2 ^ (64 - n) % 18446744073709551616 : Nat) : Int) = ((l / 2 ^ n + h * 2 ^ (64 - n) % 18446744073709551616 : Nat) : Int) := by
  rw [or_comm_nat _ _ (by omega) hb, Nat.or_comm, e4, or_nat _ _ _ e3]
 rw [e]
 have hp : 2 ^ n * 2 ^ (64 - n) = 18446744073709551616 := by rw [← Nat.pow_add, show n + (64 - n) = 64 by omega]
 apply or_zero_r
 rw [e4] at hb ⊢
 have : k < 2 ^ n := by
  rw [← hp] at hb
  exact Nat.lt_of_mul_lt_mul_right hb
 have h2 : (k + 1) * 2 ^ (64 - n) ≤ 2 ^ n * 2 ^ (64 - n) := Nat.mul_le_mul_right _ this
 rw [Nat.add_mul, hp] at h2
 omega

theorem shr_e2 (h l n : Nat) (hh : h < 18446744073709551616) (hl : l < 18446744073709551616) (hn : 64 ≤ n) (hm : n < 128) :
 bits BinOp.or IntKind.u64 (bits BinOp.or IntKind.u64 ((l : Int) / 18446744073709551616) (IntKind.u64.wrap ((h : Int) * 2 ^ min (IntKind.u64.wrap (IntKind.i64.wrap (64 - (n : Int)))).toNat 64)))
  ((h : Int) / 2 ^ min (IntKind.u64.wrap (IntKind.i64.wrap ((n : Int) - 64))).toNat 64) = ((h / 2 ^ (n - 64) : Nat) : Int) := by
 have t2 : min (IntKind.u64.wrap (IntKind.i64.wrap ((n : Int) - 64))).toNat 64 = n - 64 := by
  have := cnt_in 64 n (by omega) (by omega)
  rw [show ((64 : Nat) : Int) = 64 from rfl] at this
  rw [this]; omega
 have hb : h / 2 ^ (n - 64) ≤ h := Nat.div_le_self _ _
 have h0 : (l : Int) / 18446744073709551616 = ((0 : Nat) : Int) := by omega
 rw [t2, h0, div_cast]
 by_cases he : n = 64
 · have t1 : min (IntKind.u64.wrap (IntKind.i64.wrap (64 - (n : Int)))).toNat 64 = 0 := by
    have := cnt_in n 64 (by omega) (by omega)
    rw [show ((64 : Nat) : Int) = 64 from rfl] at this
    rw [this]; omega
   rw [t1, shlN]
   subst he
   simp only [Nat.sub_self, Nat.pow_zero, Nat.div_one, Nat.mul_one, Nat.mod_eq_of_lt hh]
   have z := or_zero_l h hh
   rw [show bits BinOp.or IntKind.u64 ((0 : Nat) : Int) (h : Int) = (h : Int) from z, or_self' h hh]
 · have t1 : min (IntKind.u64.wrap (IntKind.i64.wrap (64 - (n : Int)))).toNat 64 = 64 := by
    have := cnt_out n 64 (by omega) (by omega)
    rw [show ((64 : Nat) : Int) = 64 from rfl] at this
    omega
   rw [t1, shl64]
   have z : bits BinOp.or IntKind.u64 ((0 : Nat) : Int) 0 = ((0 : Nat) : Int) := or_zero_l 0 (by omega)
   rw [z]
   exact or_zero_l _ (by omega)

theorem below2 {w : World} (o1 o2 : Obj) : Below w.heap.size w ((w.alloc o1).alloc o2).drew :=
 (((Below.refl _ _).alloc (Nat.le_refl _) _).alloc (by simp) _).drew

theorem wshl_small (X n : Nat) (w : World) (hX : X < 2 ^ 128) (hn : n < 64) :
 Calls Tryd.prog 66 #[.agg #[.int .u64 (M.hiN X : Int), .int .u64 (M.loN X : Int)], .int .i64 (n : Int)] w fun e w' => e = .returned (.agg #[.int .u64 (M.hiN (X * 2 ^ n % 2 ^ 128) : Int), .int .u64 (M.loN (X * 2 ^ n % 2 ^ 128) : Int)]) ∧ Below w.heap.size w w' := by
 obtain ⟨e1, e2, e3, k, e4⟩ := M.shl_small X n hX hn
 rw [e1, e2]
 have hh := M.hiLt hX
 have hl := M.loLt X
 generalize M.hiN X = h at *
 generalize M.loN X = l at *
 clear e1 e2
 have E3 := hid e3; have E4 := hid e4; clear e3 e4
 go_enter Tryd.func66, Tryd.ntmps66
 go_wp2_with fail
 go_region_held3 (fun v => v.cell? ⟨w.heap.size, 0, none⟩ = some (.int .u64 (h : Int)) ∧ v.cell? ⟨w.heap.size, 1, none⟩ = some (.int .u64 (l : Int))) (go_keep) (fail)
 go_wp2_with fail
 refine bodyPost_ret (v := .agg #[.int .u64 (bits BinOp.or IntKind.u64 (bits BinOp.or IntKind.u64 (IntKind.u64.wrap ((h : Int) * 2 ^ n)) ((l : Int) / 2 ^ min (IntKind.u64.wrap (IntKind.i64.wrap (64 - (n : Int)))).toNat 64)) (IntKind.u64.wrap ((l : Int) * 2 ^ min (IntKind.u64.wrap (IntKind.i64.wrap ((n : Int) - 64))).toNat 64))), .int .u64 (IntKind.u64.wrap ((l : Int) * 2 ^ n))]) (by simp [results, Tryd.results66, go_sem]) rfl ⟨?_, below2 _ _⟩
 rw [shl_e1 h l n k hl hn E3.out E4.out, shlN]

theorem wshl_great (X n : Nat) (w : World) (hX : X < 2 ^ 128) (hn : 64 ≤ n) (hm : n < 128) :
 Calls Tryd.prog 66 #[.agg #[.int .u64 (M.hiN X : Int), .int .u64 (M.loN X : Int)], .int .i64 (n : Int)] w fun e w' => e = .returned (.agg #[.int .u64 (M.hiN (X * 2 ^ n % 2 ^ 128) : Int), .int .u64 (M.loN (X * 2 ^ n % 2 ^ 128) : Int)]) ∧ Below w.heap.size w w' := by
 obtain ⟨e1, e2⟩ := M.shl_great X n hX hn hm
 rw [e1, e2]
 have hh := M.hiLt hX
 have hl := M.loLt X
 generalize M.hiN X = h at *
 generalize M.loN X = l at *
 clear e1 e2
 go_enter Tryd.func66, Tryd.ntmps66
 go_wp2_with fail
 go_region_held3 (fun v => v.cell? ⟨w.heap.size, 0, none⟩ = some (.int .u64 (h : Int)) ∧ v.cell? ⟨w.heap.size, 1, none⟩ = some (.int .u64 (l : Int))) (go_keep) (fail)
 go_wp2_with fail
 refine bodyPost_ret (v := .agg #[.int .u64 (bits BinOp.or IntKind.u64 (bits BinOp.or IntKind.u64 (IntKind.u64.wrap ((h : Int) * 18446744073709551616)) ((l : Int) / 2 ^ min (IntKind.u64.wrap (IntKind.i64.wrap (64 - (n : Int)))).toNat 64)) (IntKind.u64.wrap ((l : Int) * 2 ^ min (IntKind.u64.wrap (IntKind.i64.wrap ((n : Int) - 64))).toNat 64))), .int .u64 (IntKind.u64.wrap ((l : Int) * 18446744073709551616))]) (by simp [results, Tryd.results66, go_sem]) rfl ⟨?_, below2 _ _⟩
 rw [shl_e2 h l n hl hn hm, show IntKind.u64.wrap ((l : Int) * 18446744073709551616) = ((0 : Nat) : Int) from shl64 l]

theorem wshr_small (X n : Nat) (w : World) (hX : X < 2 ^ 128) (hn : n < 64) :
 Calls Tryd.prog 64 #[.agg #[.int .u64 (M.hiN X : Int), .int .u64 (M.loN X : Int)], .int .i64 (n : Int)] w fun e w' => e = .returned (.agg #[.int .u64 (M.hiN (X / 2 ^ n) : Int), .int .u64 (M.loN (X / 2 ^ n) : Int)]) ∧ Below w.heap.size w w' := by
 obtain ⟨e1, e2, e3, k, e4⟩ := M.shr_small X n hX hn
 rw [e1, e2]
 have hh := M.hiLt hX
 have hl := M.loLt X
 generalize M.hiN X = h at *
 generalize M.loN X = l at *
 clear e1 e2
 have E3 := hid e3; have E4 := hid e4; clear e3 e4
 go_enter Tryd.func64, Tryd.ntmps64
 go_wp2_with fail
 go_region_held3 (fun v => v.cell? ⟨w.heap.size, 0, none⟩ = some (.int .u64 (h : Int)) ∧ v.cell? ⟨w.heap.size, 1, none⟩ = some (.int .u64 (l : Int))) (go_keep) (fail)
 go_wp2_with fail
 refine bodyPost_ret (v := .agg #[.int .u64 ((h : Int) / 2 ^ n), .int .u64 (bits BinOp.or IntKind.u64 (bits BinOp.or IntKind.u64 ((l : Int) / 2 ^ n) (IntKind.u64.wrap ((h : Int) * 2 ^ min (IntKind.u64.wrap (IntKind.i64.wrap (64 - (n : Int)))).toNat 64))) ((h : Int) / 2 ^ min (IntKind.u64.wrap (IntKind.i64.wrap ((n : Int) - 64))).toNat 64))]) (by simp [results, Tryd.results64, go_sem]) rfl ⟨?_, below2 _ _⟩
 rw [shr_e1 h l n k hh hl hn E3.out E4.out, div_cast]

theorem wshr_great (X n : Nat) (w : World) (hX : X < 2 ^ 128) (hn : 64 ≤ n) (hm : n < 128) :
 Calls Tryd.prog 64 #[.agg #[.int .u64 (M.hiN X : Int), .int .u64 (M.loN X : Int)], .int .i64 (n : Int)] w fun e w' => e = .returned (.agg #[.int .u64 (M.hiN (X / 2 ^ n) : Int), .int .u64 (M.loN (X / 2 ^ n) : Int)]) ∧ Below w.heap.size w w' := by
 obtain ⟨e1, e2⟩ := M.shr_great X n hX hn hm
 rw [e1, e2]
 have hh := M.hiLt hX
 have hl := M.loLt X
 generalize M.hiN X = h at *
 generalize M.loN X = l at *
 clear e1 e2
 go_enter Tryd.func64, Tryd.ntmps64
 go_wp2_with fail
 go_region_held3 (fun v => v.cell? ⟨w.heap.size, 0, none⟩ = some (.int .u64 (h : Int)) ∧ v.cell? ⟨w.heap.size, 1, none⟩ = some (.int .u64 (l : Int))) (go_keep) (fail)
 go_wp2_with fail
 refine bodyPost_ret (v := .agg #[.int .u64 ((h : Int) / 18446744073709551616), .int .u64 (bits BinOp.or IntKind.u64 (bits BinOp.or IntKind.u64 ((l : Int) / 18446744073709551616) (IntKind.u64.wrap ((h : Int) * 2 ^ min (IntKind.u64.wrap (IntKind.i64.wrap (64 - (n : Int)))).toNat 64))) ((h : Int) / 2 ^ min (IntKind.u64.wrap (IntKind.i64.wrap ((n : Int) - 64))).toNat 64))]) (by simp [results, Tryd.results64, go_sem]) rfl ⟨?_, below2 _ _⟩
 rw [shr_e2 h l n hh hl hn hm, show (h : Int) / 18446744073709551616 = ((0 : Nat) : Int) by omega]

theorem wshl (X n : Nat) (w : World) (hX : X < 2 ^ 128) (hn : n < 128) (Y : Nat) (hY : Y = X * 2 ^ n % 2 ^ 128) :
 Calls Tryd.prog 66 #[.agg #[.int .u64 (M.hiN X : Int), .int .u64 (M.loN X : Int)], .int .i64 (n : Int)] w fun e w' => e = .returned (.agg #[.int .u64 (M.hiN Y : Int), .int .u64 (M.loN Y : Int)]) ∧ Below w.heap.size w w' := by
 subst hY
 by_cases h : n < 64
 · exact wshl_small X n w hX h
 · exact wshl_great X n w hX (by omega) hn

theorem wshr (X n : Nat) (w : World) (hX : X < 2 ^ 128) (hn : n < 128) (Y : Nat) (hY : Y = X / 2 ^ n) :
 Calls Tryd.prog 64 #[.agg #[.int .u64 (M.hiN X : Int), .int .u64 (M.loN X : Int)], .int .i64 (n : Int)] w fun e w' => e = .returned (.agg #[.int .u64 (M.hiN Y : Int), .int .u64 (M.loN Y : Int)]) ∧ Below w.heap.size w w' := by
 subst hY
 by_cases h : n < 64
 · exact wshr_small X n w hX h
 · exact wshr_great X n w hX (by omega) hn

theorem wplus (X Y : Nat) (w : World) (hX : X < 2 ^ 128) (hY : Y < 2 ^ 128) (Z : Nat) (hZ : Z = (X + Y) % 2 ^ 128) :
 Calls Tryd.prog 43 #[.agg #[.int .u64 (M.hiN X : Int), .int .u64 (M.loN X : Int)], .agg #[.int .u64 (M.hiN Y : Int), .int .u64 (M.loN Y : Int)]] w fun e w' => e = .returned (.agg #[.int .u64 (M.hiN Z : Int), .int .u64 (M.loN Z : Int)]) ∧ Below w.heap.size w w' := by
 obtain ⟨e1, e2⟩ := M.plus_hl X Y hX hY
 rw [← hZ] at e1 e2
 have a1 := M.loLt X
 have b1 := M.loLt Y
 have a2 := M.hiLt hX
 have b2 := M.hiLt hY
 generalize M.hiN X = xh at *
 generalize M.loN X = xl at *
 generalize M.hiN Y = yh at *
 generalize M.loN Y = yl at *
 generalize M.hiN Z = zh at *
 generalize M.loN Z = zl at *
 rw [← e1] at e2
 have w1 := wrapU2 xl yl zl e1
 have w2 := wrapU2 xh yh ((xh + yh) % 18446744073709551616) rfl
 obtain ⟨s, hs⟩ : ∃ s : Nat, s = (xh + yh) % 18446744073709551616 := ⟨_, rfl⟩
 rw [← hs] at w2
 obtain ⟨c, hc⟩ : ∃ c : Nat, c = if (zl : Int) < (yl : Int) then 1 else 0 := ⟨_, rfl⟩
 have hc' : c = if zl < yl then 1 else 0 := by rw [hc]; congr 1; simp
 have w3 := wrapU2 s c zh (by rw [e2, ← hc', hs]; omega)
 have HC := hid hc
 clear hc hc' hs e1 e2 hZ hX hY
 go_enter Tryd.func43, Tryd.ntmps43
 go_wp2_with fail
 go_region_held3 (fun v => v.cell? ⟨w.heap.size, 0, none⟩ = some (.int .u64 (xh : Int)) ∧ v.cell? ⟨w.heap.size, 1, none⟩ = some (.int .u64 (xl : Int)) ∧ v.cell? ⟨w.heap.size + 1, 0, none⟩ = some (.int .u64 (yh : Int)) ∧ v.cell? ⟨w.heap.size + 1, 1, none⟩ = some (.int .u64 (yl : Int))) (go_keep) (first | (go_at_call 72; refine (less_any _ _ _ c HC.out).mono ?_; rintro e w' ⟨rfl, rfl⟩))
 go_wp2_with fail
 exact bodyPost_ret (v := .agg #[.int .u64 (zh : Int), .int .u64 (zl : Int)]) (by simp [results, Tryd.results43, go_sem]) rfl ⟨rfl, ((((Below.refl _ _).alloc (Nat.le_refl _) _).alloc (by simp) _).alloc (by simp; omega) _).drew⟩

theorem wminus (X Y : Nat) (w : World) (hX : X < 2 ^ 128) (hY : Y < 2 ^ 128) (Z : Nat) (hZ : Z = (X + (2 ^ 128 - Y)) % 2 ^ 128) :
 Calls Tryd.prog 42 #[.agg #[.int .u64 (M.hiN X : Int), .int .u64 (M.loN X : Int)], .agg #[.int .u64 (M.hiN Y : Int), .int .u64 (M.loN Y : Int)]] w fun e w' => e = .returned (.agg #[.int .u64 (M.hiN Z : Int), .int .u64 (M.loN Z : Int)]) ∧ Below w.heap.size w w' := by
 obtain ⟨e1, e2⟩ := M.minus_hl X Y hX hY
 rw [← hZ] at e1 e2
 have a1 := M.loLt X
 have b1 := M.loLt Y
 have a2 := M.hiLt hX
 have b2 := M.hiLt hY
 generalize M.hiN X = xh at *
 generalize M.loN X = xl at *
 generalize M.hiN Y = yh at *
 generalize M.loN Y = yl at *
 generalize M.hiN Z = zh at *
 generalize M.loN Z = zl at *
 have w1 := wrapSub xl yl zl e1 (by omega)
 obtain ⟨s, hs⟩ : ∃ s : Nat, s = (xh + 18446744073709551616 - yh) % 18446744073709551616 := ⟨_, rfl⟩
 have w2 := wrapSub xh yh s hs (by omega)
 obtain ⟨c, hc⟩ : ∃ c : Nat, c = if (xl : Int) < (yl : Int) then 1 else 0 := ⟨_, rfl⟩
 have hc' : c = if xl < yl then 1 else 0 := by rw [hc]; congr 1; simp
 have hc2 : c ≤ 1 := by rw [hc']; split <;> omega
 have w3 := wrapSub s c zh (by rw [e2, ← hc', hs]; omega) (by omega)
 have HC := hid hc
 clear hc hc' hs e1 e2 hZ hX hY
 go_enter Tryd.func42, Tryd.ntmps42
 go_wp2_with fail
 go_region_held3 (fun v => v.cell? ⟨w.heap.size, 0, none⟩ = some (.int .u64 (xh : Int)) ∧ v.cell? ⟨w.heap.size, 1, none⟩ = some (.int .u64 (xl : Int)) ∧ v.cell? ⟨w.heap.size + 1, 0, none⟩ = some (.int .u64 (yh : Int)) ∧ v.cell? ⟨w.heap.size + 1, 1, none⟩ = some (.int .u64 (yl : Int))) (go_keep) (first | (go_at_call 72; refine (less_any _ _ _ c HC.out).mono ?_; rintro e w' ⟨rfl, rfl⟩))
 go_wp2_with fail
 exact bodyPost_ret (v := .agg #[.int .u64 (zh : Int), .int .u64 (zl : Int)]) (by simp [results, Tryd.results42, go_sem]) rfl ⟨rfl, ((((Below.refl _ _).alloc (Nat.le_refl _) _).alloc (by simp) _).alloc (by simp; omega) _).drew⟩

theorem wbitAt (n : Nat) (w : World) (hn : n < 128) (Y : Nat) (hY : Y = 2 ^ n) :
 Calls Tryd.prog 73 #[.int .i64 (n : Int)] w fun e w' => e = .returned (.agg #[.int .u64 (M.hiN Y : Int), .int .u64 (M.loN Y : Int)]) ∧ Below w.heap.size w w' := by
 have h1 : Y = 1 * 2 ^ n % 2 ^ 128 := by rw [hY, Nat.one_mul, Nat.mod_eq_of_lt (Nat.pow_lt_pow_right (by omega) hn)]
 have HY := hid h1
 clear h1 hY
 have k := fun v : World => wshl 1 n v (by omega) hn Y HY.out
 rw [M.hi_small (show 1 < 18446744073709551616 by omega), M.lo_small (show 1 < 18446744073709551616 by omega)] at k
 go_enter Tryd.func73, Tryd.ntmps73
 go_wp2_with fail
 refine (k _).mono ?_
 rintro e v1 ⟨rfl, b1⟩
 clear k
 obtain ⟨hc, hf⟩ := bcell b1
 go_wp2_with fail
 exact bodyPost_ret (v := .agg #[.int .u64 (M.hiN Y : Int), .int .u64 (M.loN Y : Int)]) (by simp [results, Tryd.results73, go_sem, hc]) rfl ⟨rfl, (((((Below.refl _ _).alloc (Nat.le_refl _) _).trans (b1.mono (by simp))).setCell (Nat.le_refl _) _).setCell (Nat.le_refl _) _)⟩

theorem dFrac (F : M.Fm) (h : F.Ok) (w : World) : Calls Tryd.prog 65 #[dv F] w fun e w' => e = .returned (.int .i64 (F.fb : Int)) ∧ Below w.heap.size w w' := by
 have h1 := h.w
 have h2 : (F.wd : Int) - (F.e : Int) - 1 = (F.fb : Int) := by unfold M.Fm.wd; omega
 unfold dv
 have h3 := h.e2
 generalize F.wd = wd at *
 generalize F.fb = fb at *
 go_enter Tryd.func65, Tryd.ntmps65
 go_wp2_with fail
 go_ret
 exact ⟨rfl, (Below.refl _ _).alloc (Nat.le_refl _) _⟩

theorem dTop (F : M.Fm) (h : F.Ok) (w : World) : Calls Tryd.prog 67 #[dv F] w fun e w' => e = .returned (.int .i64 (F.top : Int)) ∧ Below w.heap.size w w' := by
 have h2 := h.top2
 have h3 := h.e2
 have e1 : (2 : Int) ^ F.e = ((F.top + 1 : Nat) : Int) := by rw [← h2.2.1]; simp
 have e2 : IntKind.i64.wrap ((2 : Int) ^ F.e) = (F.top : Int) + 1 := by rw [e1]; simp only [IntKind.wrap_i64]; omega
 have hb : F.top ≤ 40000 := by omega
 have HE := hid e1
 unfold dv
 clear h2 e1
 generalize F.top = tp at *
 go_enter Tryd.func67, Tryd.ntmps67
 go_wp2_with fail
 go_ret
 exact ⟨rfl, (Below.refl _ _).alloc (Nat.le_refl _) _⟩

theorem dQmin (F : M.Fm) (h : F.Ok) (w : World) : Calls Tryd.prog 70 #[dv F] w fun e w' => e = .returned (.int .i64 F.qmin) ∧ Below w.heap.size w w' := by
 have h2 := h.top2
 have h3 := h.p2
 have e1 : 1 - (F.emax : Int) - (F.p : Int) + 1 = F.qmin := by unfold M.Fm.qmin; omega
 have hb : F.emax ≤ 16383 := by omega
 unfold dv
 clear h2
 generalize F.emax = m at *
 generalize F.qmin = q at *
 go_enter Tryd.func70, Tryd.ntmps70
 go_wp2_with fail
 go_ret
 exact ⟨rfl, (Below.refl _ _).alloc (Nat.le_refl _) _⟩

theorem dLead (F : M.Fm) (h : F.Ok) (w : World) : Calls Tryd.prog 68 #[dv F] w fun e w' => e = .returned (.agg #[.int .u64 (M.hiN F.lead : Int), .int .u64 (M.loN F.lead : Int)]) ∧ Below w.heap.size w w' := by
 have h2 := h.p1
 have h3 := h.p2
 obtain ⟨q, hq⟩ : ∃ q : Nat, F.p = q + 1 := ⟨F.p - 1, by omega⟩
 have k := fun v : World => wbitAt q v (by omega) F.lead (by unfold M.Fm.lead; rw [hq]; rfl)
 have e1 : (F.p : Int) - 1 = (q : Int) := by omega
 have hb : F.p ≤ 113 := h3
 unfold dv
 clear hq h2 h3
 generalize F.lead = Y at *
 go_enter Tryd.func68, Tryd.ntmps68
 go_wp2_with fail
 refine (k _).mono ?_
 rintro e v1 ⟨rfl, b1⟩
 clear k
 obtain ⟨hc, hf⟩ := bcell b1
 go_wp2_with fail
 exact bodyPost_ret (v := .agg #[.int .u64 (M.hiN Y : Int), .int .u64 (M.loN Y : Int)]) (by simp [results, Tryd.results68, go_sem, hc]) rfl ⟨rfl, ((((((Below.refl _ _).alloc (Nat.le_refl _) _).alloc (by simp) _).trans (b1.mono (by simp; omega))).setCell (by simp) _).setCell (by simp) _)⟩

theorem dKnown (F : M.Fm) (h : F.Ok) (w : World) : Calls Tryd.prog 32 #[dv F] w fun e w' => e = .returned (.bool true) ∧ Below w.heap.size w w' := by
 have h2 := h.p1
 have e1 : ((F.p : Int) == 0) = false := by simp; omega
 have e2 : ¬ F.p = 0 := by omega
 unfold dv
 go_enter Tryd.func32, Tryd.ntmps32
 go_wp2_with fail
 go_ret
 exact ⟨rfl, (Below.refl _ _).alloc (Nat.le_refl _) _⟩

theorem dKnown0 (w : World) : Calls Tryd.prog 32 #[.agg #[.int .i64 0, .int .i64 0, .int .i64 0, .int .i64 0, .int .i64 0, .bool false]] w fun e w' => e = .returned (.bool false) ∧ Below w.heap.size w w' := by
 go_enter Tryd.func32, Tryd.ntmps32
 go_wp2_with fail
 go_ret
 exact ⟨rfl, (Below.refl _ _).alloc (Nat.le_refl _) _⟩

theorem or2 (g : Nat) (a b : Int) (w : World) (h0 : w.cell? ⟨g, 0, none⟩ = some (.int .i64 a)) (h1 : w.cell? ⟨g, 1, none⟩ = some (.int .i64 b)) :
 Calls Tryd.prog 80 #[.slice (some ⟨g, 0, none⟩) 2 2] w fun e w' => e = .returned (.int .i64 (if a = 0 then b else a)) ∧ w' = w := by
 go_enter Tryd.func80, Tryd.ntmps80
 go_wp2_with fail
 go_loop [8] (fun i => i = .int .i64 0 ∨ (i = .int .i64 1 ∧ a = 0) ∨ (i = .int .i64 2 ∧ a = 0 ∧ b = 0)) (fun i => 2 - (intOf i).toNat)
 case atStart => exact .inl rfl
 case round =>
  rcases hrel with rfl | ⟨rfl, ha⟩ | ⟨rfl, ha, hb⟩
  · by_cases ha : a = 0
    · subst ha
      go_wp2_with fail
      go_round
      case rel => exact .inr (.inl ⟨rfl, by simp⟩)
      case measure => simp [intOf]
    · have hne : (a != 0) = true := by simp [ha]
      go_wp2_with fail
      go_ret
      exact ⟨by simp, rfl⟩
  · subst ha
    by_cases hb : b = 0
    · subst hb
      go_wp2_with fail
      go_round
      case rel => exact .inr (.inr ⟨rfl, by simp, by simp⟩)
      case measure => simp [intOf]
    · have hne : (b != 0) = true := by simp [hb]
      go_wp2_with fail
      go_ret
      exact ⟨by simp, rfl⟩
  · subst ha
    subst hb
    go_wp2_with fail
    go_ret
    exact ⟨by simp, rfl⟩

theorem cmp_hl (X Y : Nat) : (if cmpI (M.hiN X : Int) (M.hiN Y : Int) = 0 then cmpI (M.loN X : Int) (M.loN Y : Int) else cmpI (M.hiN X : Int) (M.hiN Y : Int)) = M.cmpN X Y := by
 have a := M.hl X
 have b := M.hl Y
 have a1 := M.loLt X
 have b1 := M.loLt Y
 generalize M.hiN X = xh at *
 generalize M.loN X = xl at *
 generalize M.hiN Y = yh at *
 generalize M.loN Y = yl at *
 unfold cmpI M.cmpN
 rcases Nat.lt_trichotomy xh yh with h | h | h
 · have c1 : (xh : Int) < (yh : Int) := by omega
   have c2 : X < Y := by omega
   simp [c1, c2]
 · subst h
   simp
   rcases Nat.lt_trichotomy xl yl with h | h | h
   · have c2 : X < Y := by omega
     simp [h, c2]
   · subst h
     have : X = Y := by omega
     simp [this]
   · have c2 : Y < X := by omega
     have c3 : ¬ X < Y := by omega
     have c4 : ¬ xl < yl := by omega
     simp [h, c2, c3, c4]
 · have c1 : (yh : Int) < (xh : Int) := by omega
   have c2 : Y < X := by omega
   have c3 : ¬ X < Y := by omega
   have c4 : ¬ (xh : Int) < (yh : Int) := by omega
   simp [c1, c2, c3, c4]

theorem or2r (g : Nat) (a b : Int) (w : World) (r : Int) (hr : Hid (r = if a = 0 then b else a)) (h0 : w.cell? ⟨g, 0, none⟩ = some (.int .i64 a)) (h1 : w.cell? ⟨g, 1, none⟩ = some (.int .i64 b)) :
 Calls Tryd.prog 80 #[.slice (some ⟨g, 0, none⟩) 2 2] w fun e w' => e = .returned (.int .i64 r) ∧ w' = w := by
 rw [hr.out]; exact or2 g a b w h0 h1

theorem wcmp (X Y : Nat) (w : World) (r : Int) (hr : r = M.cmpN X Y) :
 Calls Tryd.prog 69 #[.agg #[.int .u64 (M.hiN X : Int), .int .u64 (M.loN X : Int)], .agg #[.int .u64 (M.hiN Y : Int), .int .u64 (M.loN Y : Int)]] w fun e w' => e = .returned (.int .i64 r) ∧ Below w.heap.size w w' := by
 rw [← cmp_hl] at hr
 have HR := hid hr
 clear hr
 generalize M.hiN X = xh at *
 generalize M.loN X = xl at *
 generalize M.hiN Y = yh at *
 generalize M.loN Y = yl at *
 go_enter Tryd.func69, Tryd.ntmps69
 go_wp2_with fail
 go_region_held3 (fun v => v.cell? ⟨w.heap.size, 0, none⟩ = some (.int .u64 (xh : Int)) ∧ v.cell? ⟨w.heap.size, 1, none⟩ = some (.int .u64 (xl : Int)) ∧ v.cell? ⟨w.heap.size + 1, 0, none⟩ = some (.int .u64 (yh : Int)) ∧ v.cell? ⟨w.heap.size + 1, 1, none⟩ = some (.int .u64 (yl : Int))) (go_keep)
  (first | (go_at_call 81; refine (cmpU_any _ _ _).mono ?_; rintro e w' ⟨rfl, rfl⟩) | (go_at_call 80; refine (or2r _ (cmpI (xh : Int) (yh : Int)) (cmpI (xl : Int) (yl : Int)) _ r HR (by simp [go_sem]) (by simp [go_sem])).mono ?_; rintro e w' ⟨rfl, rfl⟩))
 all_goals go_wp2_with fail
 all_goals go_ret
 all_goals exact ⟨rfl, ((((Below.refl _ _).alloc (Nat.le_refl _) _).alloc (by simp) _).alloc (by simp; omega) _).drew⟩

theorem keepAl {w1 W : World} {b : Prop} (h : Below w1.heap.size w1 W ∧ b) (o : Obj) : Below w1.heap.size w1 (W.alloc o) := h.1.alloc h.1.size o

theorem keepDr {w1 W : World} {b : Prop} (h : Below w1.heap.size w1 W ∧ b) : Below w1.heap.size w1 W.drew := h.1.drew

theorem keepC {w1 W v : World} (h : Below w1.heap.size w1 W) (k : Below W.heap.size W v) : Below w1.heap.size w1 v := h.trans (k.mono h.size)

theorem keepAl2 {w1 W : World} (h : Below w1.heap.size w1 W) (o : Obj) : Below w1.heap.size w1 (W.alloc o) := h.alloc h.size o

theorem keepSt2 {w1 W : World} (h : Below w1.heap.size w1 W) (g o : Nat) (hg : w1.heap.size ≤ g) (u : Value) : Below w1.heap.size w1 (W.setCell ⟨g, o, none⟩ u) := h.setCell hg u

def W2 (v : World) (g X : Nat) : Prop := v.cell? ⟨g, 0, none⟩ = some (.int .u64 (M.hiN X : Int)) ∧ v.cell? ⟨g, 1, none⟩ = some (.int .u64 (M.loN X : Int)) ∧ v.frozen? ⟨g, 0, none⟩ = false ∧ v.frozen? ⟨g, 1, none⟩ = false ∧ g < v.heap.size

theorem W2_new (v : World) (X : Nat) (t : TypeId) : W2 (v.alloc (.cells #[.int .u64 (M.hiN X : Int), .int .u64 (M.loN X : Int)] t)) v.heap.size X := by
 unfold W2; simp [go_sem]

theorem W2_set {v : World} {g X : Nat} {a b : Value} (h0 : v.cell? ⟨g, 0, none⟩ = some a) (h1 : v.cell? ⟨g, 1, none⟩ = some b) (f0 : v.frozen? ⟨g, 0, none⟩ = false) (f1 : v.frozen? ⟨g, 1, none⟩ = false) :
 W2 ((v.setCell ⟨g, 0, none⟩ (.int .u64 (M.hiN X : Int))).setCell ⟨g, 1, none⟩ (.int .u64 (M.loN X : Int))) g X := by
 have := World.block_lt_of_cell? v ⟨g, 0, none⟩ h0
 unfold W2; simp [go_sem, h0, h1, f0, f1]; simpa using this

theorem far2 (v : World) (x y : Value) {g b o : Nat} (h : b ≠ g) : ((v.setCell ⟨g, 0, none⟩ x).setCell ⟨g, 1, none⟩ y).cell? ⟨b, o, none⟩ = v.cell? ⟨b, o, none⟩ :=
 World.cell?_of_block (w := v) (a := ⟨b, o, none⟩) ((Below.heap_setCell _ _ _ _ h).trans (Below.heap_setCell _ _ _ _ h))

theorem ffar2 (v : World) (x y : Value) {g b o : Nat} (h : b ≠ g) : ((v.setCell ⟨g, 0, none⟩ x).setCell ⟨g, 1, none⟩ y).frozen? ⟨b, o, none⟩ = v.frozen? ⟨b, o, none⟩ :=
 World.frozen?_of_block (w := v) (a := ⟨b, o, none⟩) ((Below.heap_setCell _ _ _ _ h).trans (Below.heap_setCell _ _ _ _ h))

theorem cmpN_le1 {n : Nat} {r : Int} (e : r = M.cmpN n 1) (h : ¬ 0 < r) : n ≤ 1 := by
 rw [e] at h
 unfold M.cmpN at h
 rcases Nat.lt_or_ge 1 n with hh | hh
 · rw [if_neg (by omega), if_pos hh] at h
   exact absurd (by omega) h
 · exact hh

def pv (t : M.Pt) : Value := .agg #[.int .i64 t.c, .bool t.n, .int .u64 (M.hiN t.s : Int), .int .u64 (M.loN t.s : Int), .int .i64 t.q]

theorem cmpN_ge {a b : Nat} {r : Int} (e : r = M.cmpN a b) : 0 ≤ r ↔ b ≤ a := by
 rw [e]; unfold M.cmpN
 by_cases h : a < b
 · rw [if_pos h]; omega
 · rw [if_neg h]
   by_cases h2 : b < a
   · rw [if_pos h2]; omega
   · rw [if_neg h2]; omega

theorem cmpN_gt {a b : Nat} {r : Int} (e : r = M.cmpN a b) : 0 < r ↔ b < a := by
 rw [e]; unfold M.cmpN
 by_cases h : a < b
 · rw [if_pos h]; omega
 · rw [if_neg h]
   by_cases h2 : b < a
   · rw [if_pos h2]; omega
   · rw [if_neg h2]; omega

theorem upk_eq {F : M.Fm} {X fl Sg Sn : Nat} (h1 : fl = F.fld X) (h2 : Sg = F.sig X) (h3 : Sn = F.sgn X) :
 F.upk X = if 1 < Sn ∨ ¬ (F.lead ≤ Sg ↔ 0 < fl) then ⟨0, false, 0, 0⟩
  else if fl = F.top then (if Sg = F.lead then ⟨4, decide (Sn = 1), 0, 0⟩ else ⟨5, false, 0, 0⟩)
  else if 0 < fl then ⟨3, decide (Sn = 1), Sg, (fl : Int) - F.emax - F.p + 1⟩
  else if Sg = 0 then ⟨1, decide (Sn = 1), 0, 0⟩ else ⟨2, decide (Sn = 1), Sg, F.qmin⟩ := by
 subst h1; subst h2; subst h3
 unfold M.Fm.upk M.Fm.bad
 rfl

theorem hi0 : M.hiN 0 = 0 := by unfold M.hiN; omega

theorem lo0 : M.loN 0 = 0 := by unfold M.loN; omega

theorem pv_ret (t : M.Pt) {a e : Int} {b : Bool} {c d : Nat} (h1 : a = t.c) (h2 : b = t.n) (h3 : c = M.hiN t.s) (h4 : d = M.loN t.s) (h5 : e = t.q) :
 Ending.returned (.agg #[.int .i64 a, .bool b, .int .u64 (c : Int), .int .u64 (d : Int), .int .i64 e]) = .returned (pv t) := by
 subst h1; subst h2; subst h3; subst h4; subst h5; rfl

theorem far5 (v : World) (a b c d e : Value) {g k o : Nat} (h : k ≠ g) : (((((v.setCell ⟨g, 0, none⟩ a).setCell ⟨g, 1, none⟩ b).setCell ⟨g, 2, none⟩ c).setCell ⟨g, 3, none⟩ d).setCell ⟨g, 4, none⟩ e).cell? ⟨k, o, none⟩ = v.cell? ⟨k, o, none⟩ :=
 World.cell?_of_block (w := v) (a := ⟨k, o, none⟩) ((((((Below.heap_setCell _ _ _ _ h).trans (Below.heap_setCell _ _ _ _ h)).trans (Below.heap_setCell _ _ _ _ h)).trans (Below.heap_setCell _ _ _ _ h)).trans (Below.heap_setCell _ _ _ _ h)))

theorem below5 {w v : World} {g : Nat} (h : Below w.heap.size w v) (hg : w.heap.size ≤ g) (a b c d e : Value) : Below w.heap.size w (((((v.setCell ⟨g, 0, none⟩ a).setCell ⟨g, 1, none⟩ b).setCell ⟨g, 2, none⟩ c).setCell ⟨g, 3, none⟩ d).setCell ⟨g, 4, none⟩ e) :=
 ((((h.setCell (p := ⟨g, 0, none⟩) hg a).setCell (p := ⟨g, 1, none⟩) hg b).setCell (p := ⟨g, 2, none⟩) hg c).setCell (p := ⟨g, 3, none⟩) hg d).setCell (p := ⟨g, 4, none⟩) hg e

theorem mod_pow (A e : Nat) (he : e ≤ 64) : A % 18446744073709551616 % 2 ^ e = A % 2 ^ e := by
 have h : (18446744073709551616 : Nat) = 2 ^ e * 2 ^ (64 - e) := by rw [← Nat.pow_add, show e + (64 - e) = 64 by omega]
 rw [h]
 exact Nat.mod_mul_right_mod _ _ _

theorem i64_mod (l : Nat) (hl : l < 18446744073709551616) : (((l : Int) + 9223372036854775808) % 18446744073709551616 - 9223372036854775808) % 18446744073709551616 = (l : Int) := by omega

theorem i64_small (l : Nat) (hl : l < 40000) : ((l : Int) + 9223372036854775808) % 18446744073709551616 - 9223372036854775808 = (l : Int) := by omega

theorem and_key (l e t : Nat) (hl : l < 18446744073709551616) (ht : 2 ^ e = t + 1) (hb : t < 40000) : bits BinOp.and IntKind.i64 (IntKind.i64.wrap (l : Int)) (t : Int) = ((l % 2 ^ e : Nat) : Int) := by
 have e64 : ((2 ^ 64 : Nat) : Int) = 18446744073709551616 := by rfl
 have ht2 : (BitVec.ofInt 64 (t : Int)).toNat = 2 ^ e - 1 := by
  rw [BitVec.toNat_ofInt, ht, e64, Int.emod_eq_of_lt (by omega) (by omega)]
  rfl
 have h2 : l % 2 ^ e < t + 1 := by rw [ht]; exact Nat.mod_lt _ (by omega)
 have key : (BitVec.ofInt 64 (IntKind.i64.wrap (l : Int)) &&& BitVec.ofInt 64 (t : Int)).toNat = ((IntKind.i64.wrap (l : Int)) % ((2 ^ 64 : Nat) : Int)).toNat % 2 ^ e := by
  rw [BitVec.toNat_and, BitVec.toNat_ofInt, ht2, Nat.and_two_pow_sub_one_eq_mod]
 rw [e64, IntKind.wrap_i64, i64_mod l hl, Int.toNat_natCast] at key
 rw [← IntKind.wrap_i64] at key
 show IntKind.i64.wrap ((BitVec.ofInt 64 (IntKind.i64.wrap (l : Int)) &&& BitVec.ofInt 64 (t : Int)).toNat : Nat) = _
 rw [key, IntKind.wrap_i64, i64_small _ (by omega)]

theorem and_top (A e t : Nat) (ht : 2 ^ e = t + 1) (he : e ≤ 15) : bits BinOp.and IntKind.i64 (IntKind.i64.wrap (M.loN A : Int)) (t : Int) = ((A % 2 ^ e : Nat) : Int) := by
 have hb : 2 ^ e ≤ 2 ^ 15 := Nat.pow_le_pow_right (by omega) he
 rw [and_key (M.loN A) e t (M.loLt A) ht (by omega)]
 unfold M.loN
 rw [mod_pow A e (by omega)]

end Go.Proofs.YtogkkecnmlnajaaDoor
