import Derived.Test.YtehplfmnipadmacTb3
import Derived.Test.YtehplfmnipadmacWoA
import Derived.Test.YtehplfmnipadmacWdM
import Derived.Test.YtehplfmnipadmacDiv7
import Derived.Laws.CopyOwn
import Derived.Test.YtehplfmnipadmacLzM
import Derived.Test.YtehplfmnipadmacProg
import Derived.Conc.RwLib
import Derived.Conc.MuData
import Derived.KernelRfl
import Derived.OpenShut
import Derived.Conc.MuLone
import Derived.Maps.OwnSet
import Derived.DeepKeys4
import Derived.Recover
import Derived.Carry
import Derived.Deep.CutBlock
import Derived.Deep.DeepCutAuto
import Derived.Deep.RegionHeld3
import Derived.Test.YtehplfmnipadmacW4
import Derived.Test.YtehplfmnipadmacBcl
import Derived.Test.YtehplfmnipadmacW6
import Derived.Test.YtehplfmnipadmacW17
namespace Go.Proofs.Ytehplfmnipadmac
open Go.RowKit
set_option linter.unusedVariables false
set_option maxRecDepth 100000

set_option maxHeartbeats 1000000 in
theorem rdivMod_any (a b : Option Addr) (c d n m N De : Nat) (w : World) (hl : (L N).length = n) (hm : (L De).length = m) (h0 : 0 < De) (hn : n ≤ 1048576) (hn2 : m ≤ 1048576) (ra : Rd w a (L N)) (rb : Rd w b (L De)) :
    Calls Try.prog 118 #[.agg #[.slice a n c, .slice b m d]] w fun e w' => ∃ a1 c1 a2 c2, e = .returned (.tuple #[.slice a1 (L (N / De)).length c1, .slice a2 (L (N % De)).length c2]) ∧ Rd w' a1 (L (N / De)) ∧ Below w.heap.size w w' := by
  have bn : Below w.heap.size w (w.alloc (.cells #[.slice a n c, .slice b m d] 182)) := (Below.refl _ _).alloc (Nat.le_refl _) _
  obtain ⟨t0, t1, t2, t3⟩ := two_new w 182 (.slice a n c) (.slice b m d)
  have kd := divMod_any a b n m c d N De _ hl hm h0 hn hn2 (ra.below bn) (rb.below bn)
  go_enter Try.func118, Try.ntmps118
  go_wp2_with fail
  refine kd.mono ?_
  rintro e w1 ⟨a1, c1, a2, c2, mid, rfl, g1, g2, o1, o2, hb⟩
  go_wp2_with fail
  go_ret2
  exact ⟨a1, c1, a2, c2, rfl, o1.rd, bn.trans (hb.mono bn.size)⟩

end Go.Proofs.Ytehplfmnipadmac

namespace Go.Proofs.Ytehplfmnipadmac
open Go.RowKit
set_option linter.unusedVariables false
set_option maxRecDepth 100000

/-- A truncated power as a value. -/
def pwv (k w : Int) (T : Nat) (E : Int) (x ok : Bool) : Value := .agg #[.int .i64 k, .int .i64 w, .int .u64 (M.hiN T : Int), .int .u64 (M.loN T : Int), .int .i64 E, .bool x, .bool ok]

theorem below7 {w v : World} {g : Nat} (h : Below w.heap.size w v) (hg : w.heap.size ≤ g) (a b c d e f i : Value) : Below w.heap.size w (((((((v.setCell ⟨g, 0, none⟩ a).setCell ⟨g, 1, none⟩ b).setCell ⟨g, 2, none⟩ c).setCell ⟨g, 3, none⟩ d).setCell ⟨g, 4, none⟩ e).setCell ⟨g, 5, none⟩ f).setCell ⟨g, 6, none⟩ i) :=
  ((((((h.setCell (p := ⟨g, 0, none⟩) hg a).setCell (p := ⟨g, 1, none⟩) hg b).setCell (p := ⟨g, 2, none⟩) hg c).setCell (p := ⟨g, 3, none⟩) hg d).setCell (p := ⟨g, 4, none⟩) hg e).setCell (p := ⟨g, 5, none⟩) hg f).setCell (p := ⟨g, 6, none⟩) hg i

set_option maxRecDepth 10000 in
set_option maxHeartbeats 2000000 in
theorem trunc_neg (k W b : Int) (N De s : Nat) (w : World) (hW1 : 1 ≤ W) (hW2 : W ≤ 128) (hb1 : -30000 ≤ b) (hb2 : b ≤ 30000) (hE : b - W + 1 = (s : Int))
    (hD : 0 < De) (lN : (L N).length ≤ 1201) (lD : (L De).length ≤ 1201) (hs : s ≤ 90000) (hQ : N * 2 ^ 0 / (De * 2 ^ s) < 2 ^ 128)
    (kT : ∀ v : World, Calls Try.prog 115 #[.int .i64 k] v fun e v' => RR v v' e N De)
    (kH : ∀ (v : World) (a b' : Option Addr) (c d : Nat), Rd v a (L N) → Rd v b' (L De) → Calls Try.prog 116 #[.int .i64 k, .agg #[.slice a (L N).length c, .slice b' (L De).length d]] v fun e v' => e = .returned (.int .i64 b) ∧ Below v.heap.size v v') :
    Calls Try.prog 101 #[.int .i64 k, .int .i64 W] w fun e w' => e = .returned (pwv k W (N * 2 ^ 0 / (De * 2 ^ s)) (b - W + 1) (decide (N * 2 ^ 0 % (De * 2 ^ s) = 0)) true) ∧ Below w.heap.size w w' := by
  have kS := fun (v : World) (a b' : Option Addr) (c d : Nat) (ra : Rd v a (L N)) (rb : Rd v b' (L De)) => timesTwo_neg a b' c d _ _ N De s v rfl rfl (by omega) (by omega) (by omega) ra rb
  have hP : 0 < De * 2 ^ s := Nat.mul_pos hD (Nat.pow_pos (by omega))
  have m1 : (L (N * 2 ^ 0)).length ≤ 1048576 := Nat.le_trans (len_shiftK N 0 1201 1500 lN (by omega)) (by omega)
  have m2 : (L (De * 2 ^ s)).length ≤ 1048576 := Nat.le_trans (len_shiftK De s 1201 1500 lD (by omega)) (by omega)
  obtain ⟨X, hX⟩ : ∃ X, X = N * 2 ^ 0 := ⟨_, rfl⟩
  obtain ⟨Y, hY⟩ : ∃ Y, Y = De * 2 ^ s := ⟨_, rfl⟩
  rw [← hX, ← hY] at hQ ⊢
  rw [← hX] at m1
  rw [← hY] at m2 hP
  simp only [← hX, ← hY] at kS
  clear hX hY
  have kD := fun (v : World) (a b' : Option Addr) (c d : Nat) (ra : Rd v a (L X)) (rb : Rd v b' (L Y)) => rdivMod_any a b' c d _ _ X Y v rfl rfl hP m1 m2 ra rb
  have hz := L_zero_iff (X % Y)
  have kO := fun (v : World) (a : Option Addr) (c : Nat) (ra : Rd v a (L (X / Y))) => wordOf_any a _ c (X / Y) v rfl hQ ra
  generalize X / Y = Q at *
  generalize X % Y = R at *
  generalize decide (R = 0) = ex at *
  unfold pwv
  rw [hE]
  have b0 : Below w.heap.size w (w.alloc (.cells #[.int .i64 0, .int .i64 0, .int .u64 0, .int .u64 0, .int .i64 0, .bool false, .bool false] 58)) := (Below.refl _ _).alloc (Nat.le_refl _) _
  have p0 : (w.alloc (.cells #[.int .i64 0, .int .i64 0, .int .u64 0, .int .u64 0, .int .i64 0, .bool false, .bool false] 58)).cell? ⟨w.heap.size, 0, none⟩ = some (.int .i64 0) := by simp [go_sem]
  have f0 : (w.alloc (.cells #[.int .i64 0, .int .i64 0, .int .u64 0, .int .u64 0, .int .i64 0, .bool false, .bool false] 58)).frozen? ⟨w.heap.size, 0, none⟩ = false := by simp [go_sem]
  have p1 : (w.alloc (.cells #[.int .i64 0, .int .i64 0, .int .u64 0, .int .u64 0, .int .i64 0, .bool false, .bool false] 58)).cell? ⟨w.heap.size, 1, none⟩ = some (.int .i64 0) := by simp [go_sem]
  have f1 : (w.alloc (.cells #[.int .i64 0, .int .i64 0, .int .u64 0, .int .u64 0, .int .i64 0, .bool false, .bool false] 58)).frozen? ⟨w.heap.size, 1, none⟩ = false := by simp [go_sem]
  have p2 : (w.alloc (.cells #[.int .i64 0, .int .i64 0, .int .u64 0, .int .u64 0, .int .i64 0, .bool false, .bool false] 58)).cell? ⟨w.heap.size, 2, none⟩ = some (.int .u64 0) := by simp [go_sem]
  have f2 : (w.alloc (.cells #[.int .i64 0, .int .i64 0, .int .u64 0, .int .u64 0, .int .i64 0, .bool false, .bool false] 58)).frozen? ⟨w.heap.size, 2, none⟩ = false := by simp [go_sem]
  have p3 : (w.alloc (.cells #[.int .i64 0, .int .i64 0, .int .u64 0, .int .u64 0, .int .i64 0, .bool false, .bool false] 58)).cell? ⟨w.heap.size, 3, none⟩ = some (.int .u64 0) := by simp [go_sem]
  have f3 : (w.alloc (.cells #[.int .i64 0, .int .i64 0, .int .u64 0, .int .u64 0, .int .i64 0, .bool false, .bool false] 58)).frozen? ⟨w.heap.size, 3, none⟩ = false := by simp [go_sem]
  have p4 : (w.alloc (.cells #[.int .i64 0, .int .i64 0, .int .u64 0, .int .u64 0, .int .i64 0, .bool false, .bool false] 58)).cell? ⟨w.heap.size, 4, none⟩ = some (.int .i64 0) := by simp [go_sem]
  have f4 : (w.alloc (.cells #[.int .i64 0, .int .i64 0, .int .u64 0, .int .u64 0, .int .i64 0, .bool false, .bool false] 58)).frozen? ⟨w.heap.size, 4, none⟩ = false := by simp [go_sem]
  have p5 : (w.alloc (.cells #[.int .i64 0, .int .i64 0, .int .u64 0, .int .u64 0, .int .i64 0, .bool false, .bool false] 58)).cell? ⟨w.heap.size, 5, none⟩ = some (.bool false) := by simp [go_sem]
  have f5 : (w.alloc (.cells #[.int .i64 0, .int .i64 0, .int .u64 0, .int .u64 0, .int .i64 0, .bool false, .bool false] 58)).frozen? ⟨w.heap.size, 5, none⟩ = false := by simp [go_sem]
  have p6 : (w.alloc (.cells #[.int .i64 0, .int .i64 0, .int .u64 0, .int .u64 0, .int .i64 0, .bool false, .bool false] 58)).cell? ⟨w.heap.size, 6, none⟩ = some (.bool false) := by simp [go_sem]
  have f6 : (w.alloc (.cells #[.int .i64 0, .int .i64 0, .int .u64 0, .int .u64 0, .int .i64 0, .bool false, .bool false] 58)).frozen? ⟨w.heap.size, 6, none⟩ = false := by simp [go_sem]
  have l0 : w.heap.size < (w.alloc (.cells #[.int .i64 0, .int .i64 0, .int .u64 0, .int .u64 0, .int .i64 0, .bool false, .bool false] 58)).heap.size := by simp
  generalize hw0 : (w.alloc (.cells #[.int .i64 0, .int .i64 0, .int .u64 0, .int .u64 0, .int .i64 0, .bool false, .bool false] 58)) = w0 at *
  have HE := hid hE; clear hE
  go_enter Try.func101, Try.ntmps101
  go_wp2_with fail
  refine (kT _).mono ?_
  rintro e v1 ⟨a1, c1, a2, c2, rfl, r1, r2, hb1⟩
  clear hw0
  go_upto_region 2 with fail
  obtain ⟨t0, t1, t2, t3⟩ := two_new v1 182 (.slice a1 (L N).length c1) (.slice a2 (L De).length c2)
  have bn : Below v1.heap.size v1 (v1.alloc (.cells #[.slice a1 (L N).length c1, .slice a2 (L De).length c2] 182)) := (Below.refl _ _).alloc (Nat.le_refl _) _
  have lt : v1.heap.size < (v1.alloc (.cells #[.slice a1 (L N).length c1, .slice a2 (L De).length c2] 182)).heap.size := by simp
  replace r1 := r1.below bn
  replace r2 := r2.below bn
  have B1 := keepC1 hb1 bn
  clear t2 t3 bn hb1
  generalize v1.alloc (.cells #[.slice a1 (L N).length c1, .slice a2 (L De).length c2] 182) = v2 at *
  generalize v1.heap.size = g at *
  go_wp2_with fail
  refine (kH v2 a1 a2 c1 c2 r1 r2).mono ?_
  rintro e v3 ⟨rfl, hb3⟩
  have s1 := (hb3.cell (p := ⟨g, 0, none⟩) lt).trans t0
  have s2 := (hb3.cell (p := ⟨g, 1, none⟩) lt).trans t1
  replace r1 := r1.below hb3
  replace r2 := r2.below hb3
  have B2 := keepC1 B1 hb3
  clear t0 t1 lt hb3 B1
  have w1 : IntKind.i64.wrap (b - W) = b - W := by rw [IntKind.wrap_i64]; omega
  have w2 : IntKind.i64.wrap (b - W + 1) = b - W + 1 := by rw [IntKind.wrap_i64]; omega
  have w3 : IntKind.i64.wrap (-(b - W + 1)) = -(s : Int) := by rw [IntKind.wrap_i64]; have := HE.out; omega
  have w4 : -(b - W + 1) = -(s : Int) := by have := HE.out; omega
  go_wp2_with fail
  try rw [w4]
  refine (kS v3 a1 a2 c1 c2 r1 r2).mono ?_
  rintro e v4 ⟨a3, c3, a4, c4, rfl, r3, r4, hb4⟩
  have B3 := keepC1 B2 hb4
  clear hb4 B2 s1 s2 r1 r2
  go_wp2_with fail
  refine (kD v4 a3 a4 c3 c4 r3 r4).mono ?_
  rintro e v5 ⟨a5, c5, a6, c6, rfl, r5, hb5⟩
  have B4 := keepC1 B3 hb5
  clear hb5 B3 r3 r4
  go_wp2_with fail
  refine (kO v5 a5 c5 r5).mono ?_
  rintro e v6 ⟨rfl, hb6⟩
  have B5 := keepC1 B4 hb6
  clear hb6 B4 r5
  have q0 := (B5.cell (p := ⟨w.heap.size, 0, none⟩) l0).trans p0
  have z0 := (B5.frozen (p := ⟨w.heap.size, 0, none⟩) l0).trans f0
  have q1 := (B5.cell (p := ⟨w.heap.size, 1, none⟩) l0).trans p1
  have z1 := (B5.frozen (p := ⟨w.heap.size, 1, none⟩) l0).trans f1
  have q2 := (B5.cell (p := ⟨w.heap.size, 2, none⟩) l0).trans p2
  have z2 := (B5.frozen (p := ⟨w.heap.size, 2, none⟩) l0).trans f2
  have q3 := (B5.cell (p := ⟨w.heap.size, 3, none⟩) l0).trans p3
  have z3 := (B5.frozen (p := ⟨w.heap.size, 3, none⟩) l0).trans f3
  have q4 := (B5.cell (p := ⟨w.heap.size, 4, none⟩) l0).trans p4
  have z4 := (B5.frozen (p := ⟨w.heap.size, 4, none⟩) l0).trans f4
  have q5 := (B5.cell (p := ⟨w.heap.size, 5, none⟩) l0).trans p5
  have z5 := (B5.frozen (p := ⟨w.heap.size, 5, none⟩) l0).trans f5
  have q6 := (B5.cell (p := ⟨w.heap.size, 6, none⟩) l0).trans p6
  have z6 := (B5.frozen (p := ⟨w.heap.size, 6, none⟩) l0).trans f6
  clear p0 p1 p2 p3 p4 p5 p6 f0 f1 f2 f3 f4 f5 f6
  go_wp2_with fail
  rw [HE.out]
  have BB := b0.trans (B5.mono b0.size)
  exact bodyPost_ret (v := .agg #[.int .i64 k, .int .i64 W, .int .u64 (M.hiN Q : Int), .int .u64 (M.loN Q : Int), .int .i64 ((s : Int)), .bool ex, .bool true]) (by simp [results, Try.results101, go_sem, q0, q1, q2, q3, q4, q5, q6]) rfl ⟨rfl, below7 BB (Nat.le_refl _) _ _ _ _ _ _ _⟩

set_option maxRecDepth 10000 in
set_option maxHeartbeats 2000000 in
theorem trunc_pos (k W b : Int) (N De s : Nat) (w : World) (hW1 : 1 ≤ W) (hW2 : W ≤ 128) (hb1 : -30000 ≤ b) (hb2 : b ≤ 30000) (hE : b - W + 1 = -(s : Int))
    (hD : 0 < De) (lN : (L N).length ≤ 1201) (lD : (L De).length ≤ 1201) (hs : s ≤ 90000) (hQ : N * 2 ^ s / (De * 2 ^ 0) < 2 ^ 128)
    (kT : ∀ v : World, Calls Try.prog 115 #[.int .i64 k] v fun e v' => RR v v' e N De)
    (kH : ∀ (v : World) (a b' : Option Addr) (c d : Nat), Rd v a (L N) → Rd v b' (L De) → Calls Try.prog 116 #[.int .i64 k, .agg #[.slice a (L N).length c, .slice b' (L De).length d]] v fun e v' => e = .returned (.int .i64 b) ∧ Below v.heap.size v v') :
    Calls Try.prog 101 #[.int .i64 k, .int .i64 W] w fun e w' => e = .returned (pwv k W (N * 2 ^ s / (De * 2 ^ 0)) (b - W + 1) (decide (N * 2 ^ s % (De * 2 ^ 0) = 0)) true) ∧ Below w.heap.size w w' := by
  have kS := fun (v : World) (a b' : Option Addr) (c d : Nat) (ra : Rd v a (L N)) (rb : Rd v b' (L De)) => timesTwo_pos a b' c d _ _ N De s v rfl rfl (by omega) (by omega) (by omega) ra rb
  have hP : 0 < De * 2 ^ 0 := Nat.mul_pos hD (Nat.pow_pos (by omega))
  have m1 : (L (N * 2 ^ s)).length ≤ 1048576 := Nat.le_trans (len_shiftK N s 1201 1500 lN (by omega)) (by omega)
  have m2 : (L (De * 2 ^ 0)).length ≤ 1048576 := Nat.le_trans (len_shiftK De 0 1201 1500 lD (by omega)) (by omega)
  obtain ⟨X, hX⟩ : ∃ X, X = N * 2 ^ s := ⟨_, rfl⟩
  obtain ⟨Y, hY⟩ : ∃ Y, Y = De * 2 ^ 0 := ⟨_, rfl⟩
  rw [← hX, ← hY] at hQ ⊢
  rw [← hX] at m1
  rw [← hY] at m2 hP
  simp only [← hX, ← hY] at kS
  clear hX hY
  have kD := fun (v : World) (a b' : Option Addr) (c d : Nat) (ra : Rd v a (L X)) (rb : Rd v b' (L Y)) => rdivMod_any a b' c d _ _ X Y v rfl rfl hP m1 m2 ra rb
  have hz := L_zero_iff (X % Y)
  have kO := fun (v : World) (a : Option Addr) (c : Nat) (ra : Rd v a (L (X / Y))) => wordOf_any a _ c (X / Y) v rfl hQ ra
  generalize X / Y = Q at *
  generalize X % Y = R at *
  generalize decide (R = 0) = ex at *
  unfold pwv
  rw [hE]
  have b0 : Below w.heap.size w (w.alloc (.cells #[.int .i64 0, .int .i64 0, .int .u64 0, .int .u64 0, .int .i64 0, .bool false, .bool false] 58)) := (Below.refl _ _).alloc (Nat.le_refl _) _
  have p0 : (w.alloc (.cells #[.int .i64 0, .int .i64 0, .int .u64 0, .int .u64 0, .int .i64 0, .bool false, .bool false] 58)).cell? ⟨w.heap.size, 0, none⟩ = some (.int .i64 0) := by simp [go_sem]
  have f0 : (w.alloc (.cells #[.int .i64 0, .int .i64 0, .int .u64 0, .int .u64 0, .int .i64 0, .bool false, .bool false] 58)).frozen? ⟨w.heap.size, 0, none⟩ = false := by simp [go_sem]
  have p1 : (w.alloc (.cells #[.int .i64 0, .int .i64 0, .int .u64 0, .int .u64 0, .int .i64 0, .bool false, .bool false] 58)).cell? ⟨w.heap.size, 1, none⟩ = some (.int .i64 0) := by simp [go_sem]
  have f1 : (w.alloc (.cells #[.int .i64 0, .int .i64 0, .int .u64 0, .int .u64 0, .int .i64 0, .bool false, .bool false] 58)).frozen? ⟨w.heap.size, 1, none⟩ = false := by simp [go_sem]
  have p2 : (w.alloc (.cells #[.int .i64 0, .int .i64 0, .int .u64 0, .int .u64 0, .int .i64 0, .bool false, .bool false] 58)).cell? ⟨w.heap.size, 2, none⟩ = some (.int .u64 0) := by simp [go_sem]
  have f2 : (w.alloc (.cells #[.int .i64 0, .int .i64 0, .int .u64 0, .int .u64 0, .int .i64 0, .bool false, .bool false] 58)).frozen? ⟨w.heap.size, 2, none⟩ = false := by simp [go_sem]
  have p3 : (w.alloc (.cells #[.int .i64 0, .int .i64 0, .int .u64 0, .int .u64 0, .int .i64 0, .bool false, .bool false] 58)).cell? ⟨w.heap.size, 3, none⟩ = some (.int .u64 0) := by simp [go_sem]
  have f3 : (w.alloc (.cells #[.int .i64 0, .int .i64 0, .int .u64 0, .int .u64 0, .int .i64 0, .bool false, .bool false] 58)).frozen? ⟨w.heap.size, 3, none⟩ = false := by simp [go_sem]
  have p4 : (w.alloc (.cells #[.int .i64 0, .int .i64 0, .int .u64 0, .int .u64 0, .int .i64 0, .bool false, .bool false] 58)).cell? ⟨w.heap.size, 4, none⟩ = some (.int .i64 0) := by simp [go_sem]
  have f4 : (w.alloc (.cells #[.int .i64 0, .int .i64 0, .int .u64 0, .int .u64 0, .int .i64 0, .bool false, .bool false] 58)).frozen? ⟨w.heap.size, 4, none⟩ = false := by simp [go_sem]
  have p5 : (w.alloc (.cells #[.int .i64 0, .int .i64 0, .int .u64 0, .int .u64 0, .int .i64 0, .bool false, .bool false] 58)).cell? ⟨w.heap.size, 5, none⟩ = some (.bool false) := by simp [go_sem]
  have f5 : (w.alloc (.cells #[.int .i64 0, .int .i64 0, .int .u64 0, .int .u64 0, .int .i64 0, .bool false, .bool false] 58)).frozen? ⟨w.heap.size, 5, none⟩ = false := by simp [go_sem]
  have p6 : (w.alloc (.cells #[.int .i64 0, .int .i64 0, .int .u64 0, .int .u64 0, .int .i64 0, .bool false, .bool false] 58)).cell? ⟨w.heap.size, 6, none⟩ = some (.bool false) := by simp [go_sem]
  have f6 : (w.alloc (.cells #[.int .i64 0, .int .i64 0, .int .u64 0, .int .u64 0, .int .i64 0, .bool false, .bool false] 58)).frozen? ⟨w.heap.size, 6, none⟩ = false := by simp [go_sem]
  have l0 : w.heap.size < (w.alloc (.cells #[.int .i64 0, .int .i64 0, .int .u64 0, .int .u64 0, .int .i64 0, .bool false, .bool false] 58)).heap.size := by simp
  generalize hw0 : (w.alloc (.cells #[.int .i64 0, .int .i64 0, .int .u64 0, .int .u64 0, .int .i64 0, .bool false, .bool false] 58)) = w0 at *
  have HE := hid hE; clear hE
  go_enter Try.func101, Try.ntmps101
  go_wp2_with fail
  refine (kT _).mono ?_
  rintro e v1 ⟨a1, c1, a2, c2, rfl, r1, r2, hb1⟩
  clear hw0
  go_upto_region 2 with fail
  obtain ⟨t0, t1, t2, t3⟩ := two_new v1 182 (.slice a1 (L N).length c1) (.slice a2 (L De).length c2)
  have bn : Below v1.heap.size v1 (v1.alloc (.cells #[.slice a1 (L N).length c1, .slice a2 (L De).length c2] 182)) := (Below.refl _ _).alloc (Nat.le_refl _) _
  have lt : v1.heap.size < (v1.alloc (.cells #[.slice a1 (L N).length c1, .slice a2 (L De).length c2] 182)).heap.size := by simp
  replace r1 := r1.below bn
  replace r2 := r2.below bn
  have B1 := keepC1 hb1 bn
  clear t2 t3 bn hb1
  generalize v1.alloc (.cells #[.slice a1 (L N).length c1, .slice a2 (L De).length c2] 182) = v2 at *
  generalize v1.heap.size = g at *
  go_wp2_with fail
  refine (kH v2 a1 a2 c1 c2 r1 r2).mono ?_
  rintro e v3 ⟨rfl, hb3⟩
  have s1 := (hb3.cell (p := ⟨g, 0, none⟩) lt).trans t0
  have s2 := (hb3.cell (p := ⟨g, 1, none⟩) lt).trans t1
  replace r1 := r1.below hb3
  replace r2 := r2.below hb3
  have B2 := keepC1 B1 hb3
  clear t0 t1 lt hb3 B1
  have w1 : IntKind.i64.wrap (b - W) = b - W := by rw [IntKind.wrap_i64]; omega
  have w2 : IntKind.i64.wrap (b - W + 1) = b - W + 1 := by rw [IntKind.wrap_i64]; omega
  have w3 : IntKind.i64.wrap (-(b - W + 1)) = (s : Int) := by rw [IntKind.wrap_i64]; have := HE.out; omega
  have w4 : -(b - W + 1) = (s : Int) := by have := HE.out; omega
  go_wp2_with fail
  try rw [w4]
  refine (kS v3 a1 a2 c1 c2 r1 r2).mono ?_
  rintro e v4 ⟨a3, c3, a4, c4, rfl, r3, r4, hb4⟩
  have B3 := keepC1 B2 hb4
  clear hb4 B2 s1 s2 r1 r2
  go_wp2_with fail
  refine (kD v4 a3 a4 c3 c4 r3 r4).mono ?_
  rintro e v5 ⟨a5, c5, a6, c6, rfl, r5, hb5⟩
  have B4 := keepC1 B3 hb5
  clear hb5 B3 r3 r4
  go_wp2_with fail
  refine (kO v5 a5 c5 r5).mono ?_
  rintro e v6 ⟨rfl, hb6⟩
  have B5 := keepC1 B4 hb6
  clear hb6 B4 r5
  have q0 := (B5.cell (p := ⟨w.heap.size, 0, none⟩) l0).trans p0
  have z0 := (B5.frozen (p := ⟨w.heap.size, 0, none⟩) l0).trans f0
  have q1 := (B5.cell (p := ⟨w.heap.size, 1, none⟩) l0).trans p1
  have z1 := (B5.frozen (p := ⟨w.heap.size, 1, none⟩) l0).trans f1
  have q2 := (B5.cell (p := ⟨w.heap.size, 2, none⟩) l0).trans p2
  have z2 := (B5.frozen (p := ⟨w.heap.size, 2, none⟩) l0).trans f2
  have q3 := (B5.cell (p := ⟨w.heap.size, 3, none⟩) l0).trans p3
  have z3 := (B5.frozen (p := ⟨w.heap.size, 3, none⟩) l0).trans f3
  have q4 := (B5.cell (p := ⟨w.heap.size, 4, none⟩) l0).trans p4
  have z4 := (B5.frozen (p := ⟨w.heap.size, 4, none⟩) l0).trans f4
  have q5 := (B5.cell (p := ⟨w.heap.size, 5, none⟩) l0).trans p5
  have z5 := (B5.frozen (p := ⟨w.heap.size, 5, none⟩) l0).trans f5
  have q6 := (B5.cell (p := ⟨w.heap.size, 6, none⟩) l0).trans p6
  have z6 := (B5.frozen (p := ⟨w.heap.size, 6, none⟩) l0).trans f6
  clear p0 p1 p2 p3 p4 p5 p6 f0 f1 f2 f3 f4 f5 f6
  go_wp2_with fail
  rw [HE.out]
  have BB := b0.trans (B5.mono b0.size)
  exact bodyPost_ret (v := .agg #[.int .i64 k, .int .i64 W, .int .u64 (M.hiN Q : Int), .int .u64 (M.loN Q : Int), .int .i64 (-(s : Int)), .bool ex, .bool true]) (by simp [results, Try.results101, go_sem, q0, q1, q2, q3, q4, q5, q6]) rfl ⟨rfl, below7 BB (Nat.le_refl _) _ _ _ _ _ _ _⟩

end Go.Proofs.Ytehplfmnipadmac

namespace Go.Proofs
set_option linter.unusedVariables false
set_option maxRecDepth 100000

abbrev Try.muLink : Go.Conc.Locks.MuLink := { lock := 99, unlock := 100, ilock := 113, iunlock := 114, lockSlow := 126, unlockSlow := 129, disable := 122, enable := 124, acquire := 125, relMerge := 127, cas32 := 123, add32 := 128, tMutex := 161, tIMutex := 159, tPMutex := 180, tPIMutex := 191, tPI32 := 193, tUP := 195, tNoCopy := 156, tU32 := 157 }

theorem Try.muLib : Go.Conc.Locks.MuLib Try.prog Try.muLink :=
  ⟨Try.func99, Try.func100, Try.func113, Try.func114, Try.func122, Try.func124, Try.func125, Try.func127, Try.func123, Try.func128, Try.underlying159, Try.runUnderlying159, Try.sizeOf159, Try.isAgg159, Try.zeroValue159, Try.underlying161, Try.runUnderlying161, Try.sizeOf161, Try.isAgg161, Try.zeroValue161, Try.underlying180, Try.runUnderlying180, Try.sizeOf180, Try.isAgg180, Try.zeroValue180, Try.underlying191, Try.runUnderlying191, Try.sizeOf191, Try.isAgg191, Try.zeroValue191, Try.underlying193, Try.runUnderlying193, Try.sizeOf193, Try.isAgg193, Try.zeroValue193, Try.underlying195, Try.runUnderlying195, Try.sizeOf195, Try.isAgg195, Try.zeroValue195, Try.underlying156, Try.runUnderlying156, Try.sizeOf156, Try.isAgg156, Try.zeroValue156, Try.underlying21, Try.runUnderlying21, Try.sizeOf21, Try.isAgg21, Try.zeroValue21, (by kernel_rfl)⟩

end Go.Proofs

namespace Go.Proofs.Ytehplfmnipadmac
open Go.RowKit
set_option linter.unusedVariables false
set_option maxRecDepth 100000

/-- The number of the highest bit of ten to the k, as the document says it. -/
def tb (k : Int) : Int := if 5200 < k ∨ k < -5200 then 0 else if 0 ≤ k then (blen (10 ^ k.toNat) : Int) - 1 else -(blen (10 ^ (-k).toNat) : Int)

theorem tb_out {k : Int} (h : 5200 < k ∨ k < -5200) : tb k = 0 := by unfold tb; rw [if_pos h]
theorem tb_pos (m : Nat) (h : m ≤ 5200) : tb (m : Int) = (blen (10 ^ m) : Int) - 1 := by
  unfold tb; rw [if_neg (by omega), if_pos (by omega), Int.toNat_natCast]
theorem tb_neg (m : Nat) (h : m ≤ 5200) (h0 : 0 < m) : tb (-(m : Int)) = -(blen (10 ^ m) : Int) := by
  unfold tb; rw [if_neg (by omega), if_neg (by omega), show (- -(m : Int)).toNat = m by omega]

theorem blen_tenK (m K : Nat) (h : 4 * m < K) : blen (10 ^ m) ≤ K :=
  blen_le_of _ _ (Nat.lt_of_le_of_lt (pow16 m) (Nat.pow_lt_pow_right (by omega) h))
theorem blen_ten (m : Nat) (h : m ≤ 5200) : blen (10 ^ m) ≤ 20801 := blen_tenK m _ (by omega)

set_option maxHeartbeats 1000000 in
theorem specTenBits_any (k : Int) (w : World) :
    Calls Try.prog 67 #[.int .i64 k] w fun e w' => e = .returned (.int .i64 (tb k)) ∧ Below w.heap.size w w' := by
  by_cases hk : 5200 < k ∨ k < -5200
  · rw [tb_out hk]
    by_cases h1 : 5200 < k
    · go_enter Try.func67, Try.ntmps67
      go_wp2_with fail
      go_ret
      exact ⟨rfl, Below.refl _ _⟩
    · have h2 : k < -5200 := by omega
      go_enter Try.func67, Try.ntmps67
      go_wp2_with fail
      go_ret
      exact ⟨rfl, Below.refl _ _⟩
  · by_cases h0 : 0 ≤ k
    · obtain ⟨m, rfl⟩ : ∃ m : Nat, k = m := ⟨k.toNat, by omega⟩
      have hm : m ≤ 5200 := by omega
      rw [tb_pos m hm]
      have g1 : ¬ (5200 : Int) < (m : Int) := by omega
      have g2 : ¬ (m : Int) < -5200 := by omega
      have hbl := blen_ten m hm
      have hD : (D (10 ^ m)).length ≤ 2401 := ten_len m _ 2401 (k := 0) (by omega) (by simp)
      obtain ⟨b, hb⟩ : ∃ b : Nat, b = blen (10 ^ m) := ⟨_, rfl⟩
      rw [← hb] at hbl ⊢
      have HB := hid hb; clear hb hk
      go_enter Try.func67, Try.ntmps67
      go_wp2_with fail
      refine (l1Ten_any m _ hm).mono ?_
      rintro e v1 ⟨a1, c1, rfl, ho1, hb1⟩
      go_wp2_with fail
      refine (l1Bits_any a1 _ c1 (10 ^ m) _ rfl (by omega) (Rd.own ho1) b HB.out).mono ?_
      rintro e v2 ⟨rfl, rfl⟩
      go_wp2_with fail
      go_ret
      exact ⟨rfl, hb1⟩
    · obtain ⟨m, rfl⟩ : ∃ m : Nat, k = -(m : Int) := ⟨(-k).toNat, by omega⟩
      have hm : m ≤ 5200 := by omega
      rw [tb_neg m hm (by omega)]
      have g1 : ¬ (5200 : Int) < -(m : Int) := by omega
      have g2 : ¬ -(m : Int) < -5200 := by omega
      have hbl := blen_ten m hm
      have hD : (D (10 ^ m)).length ≤ 2401 := ten_len m _ 2401 (k := 0) (by omega) (by simp)
      obtain ⟨b, hb⟩ : ∃ b : Nat, b = blen (10 ^ m) := ⟨_, rfl⟩
      rw [← hb] at hbl ⊢
      have HB := hid hb; clear hb hk
      go_enter Try.func67, Try.ntmps67
      go_wp2_with fail
      try rw [show - -(m : Int) = (m : Int) by omega]
      refine (l1Ten_any m _ hm).mono ?_
      rintro e v1 ⟨a1, c1, rfl, ho1, hb1⟩
      go_wp2_with fail
      refine (l1Bits_any a1 _ c1 (10 ^ m) _ rfl (by omega) (Rd.own ho1) b HB.out).mono ?_
      rintro e v2 ⟨rfl, rfl⟩
      go_wp2_with fail
      go_ret
      exact ⟨rfl, hb1⟩

set_option maxHeartbeats 1000000 in
theorem within_any (k : Int) (w : World) :
    Calls Try.prog 85 #[.int .i64 k] w fun e w' => e = .returned (.bool (decide (-5200 ≤ k ∧ k ≤ 5200))) ∧ w' = w := by
  by_cases h1 : -5200 ≤ k
  · by_cases h2 : k ≤ 5200
    · rw [decide_eq_true ⟨h1, h2⟩]
      go_enter Try.func85, Try.ntmps85
      go_wp2_with fail
      go_ret
      exact ⟨rfl, rfl⟩
    · rw [decide_eq_false (by omega)]
      go_enter Try.func85, Try.ntmps85
      go_wp2_with fail
      go_ret
      exact ⟨rfl, rfl⟩
  · rw [decide_eq_false (by omega)]
    go_enter Try.func85, Try.ntmps85
    go_wp2_with fail
    go_ret
    exact ⟨rfl, rfl⟩

end Go.Proofs.Ytehplfmnipadmac

namespace Go.Proofs.Ytehplfmnipadmac
open Go.RowKit Go.Maps
open Go.MuLone
set_option linter.unusedVariables false
set_option maxRecDepth 100000

theorem Try.cells3 : Try.prog.cellsOf 3 = 1 := by kernel_rfl
theorem Try.cellsA2 : Try.prog.cellsOf 164 = 2 := by kernel_rfl
theorem Try.typesPos : 0 < Try.prog.types.size := of_decide_eq_true (by kernel_rfl)
theorem Try.rowA2 : (164 : TypeId) < Try.prog.types.size := of_decide_eq_true (by kernel_rfl)
theorem Try.wideA2 : (match Try.prog.underlying 164 with | some (.array _ _) | some (.struct _) => true | _ => false) = true := by kernel_rfl

theorem lawA2 : Keyed Try.prog 164 := Keyed.of_law (deep_law_laid (by kernel_rfl) (m := 3) (by omega) Try.rowA2 (by kernel_rfl) Try.wideA2)

theorem key2 (k w : Int) (hk : (Lit.int .i64 k).wf = true) (hw : (Lit.int .i64 w).wf = true) : ∃ kl, keyOf Try.prog 164 (.agg #[.int .i64 k, .int .i64 w]) = some kl := by
  obtain ⟨d, hd⟩ : ∃ d, Try.prog.types.size = d + 1 := ⟨_, (Nat.succ_pred_eq_of_pos Try.typesPos).symm⟩
  refine Option.isSome_iff_exists.1 ?_
  unfold keyOf
  simp [Try.underlying164, Value.formed, Try.cellsA2, hd, Program.keyLits, Try.underlying3, Try.cells3, Value.cells, hk, hw, List.range, List.range.loop]
  kernel_rfl

theorem zeroP (w : World) : (zeroValue 58).run Try.prog w = .ok (.agg #[.int .i64 0, .int .i64 0, .int .u64 0, .int .u64 0, .int .i64 0, .bool false, .bool false]) w := by kernel_rfl

open Classical in
/-- How a map's element reads: the zero power, or another. -/
noncomputable def Rz (v : Value) : Option (DataW Unit × List MemPlace) := if v = .agg #[.int .i64 0, .int .i64 0, .int .u64 0, .int .u64 0, .int .i64 0, .bool false, .bool false] then some (.lit (.bool false), []) else some (.lit (.bool true), [])

theorem Rz_zero : Rz (.agg #[.int .i64 0, .int .i64 0, .int .u64 0, .int .u64 0, .int .i64 0, .bool false, .bool false]) = some (.lit (.bool false), []) := by
  unfold Rz; rw [if_pos rfl]
theorem Rz_inv {v : Value} {ps : List MemPlace} (h : Rz v = some (.lit (.bool false), ps)) : v = .agg #[.int .i64 0, .int .i64 0, .int .u64 0, .int .u64 0, .int .i64 0, .bool false, .bool false] := by
  unfold Rz at h
  split at h
  · assumption
  · simp at h
theorem Rz_any (v : Value) : ∃ d ps, Rz v = some (d, ps) := by
  unfold Rz
  split
  · exact ⟨_, _, rfl⟩
  · exact ⟨_, _, rfl⟩

/-- A search in a map that is empty. -/
theorem look_empty (v : World) (bm : Nat) (h : v.ownsMap Try.prog 164 Rz bm 0 (.map [])) (key : Value) (hkey : ∃ kl, keyOf Try.prog 164 key = some kl) :
    (Instr.lookup 154 (.map (some bm)) key true).run Try.prog v = .ok (.tuple #[.agg #[.int .i64 0, .int .i64 0, .int .u64 0, .int .u64 0, .int .i64 0, .bool false, .bool false], .bool false]) v := by
  obtain ⟨kl, hkl⟩ := hkey
  obtain ⟨x, ps, hrun, hR⟩ := h.look_ok lawA2 Try.underlying154 (zeroP v) Rz_zero hkl
  have e := Rz_inv (ps := ps) (by simpa [DataW.atKey] using hR)
  rw [e] at hrun
  simpa [Maps.has] using hrun

/-- A store into it: the map's block alone is turned. -/
theorem store_empty (v : World) (bm : Nat) (h : v.ownsMap Try.prog 164 Rz bm 0 (.map [])) (key val : Value) (hkey : ∃ kl, keyOf Try.prog 164 key = some kl) :
    ∃ v', (Instr.mapUpdate 154 (.map (some bm)) key val).run Try.prog v = .ok () v' ∧ v.mapTurned v' bm := by
  obtain ⟨kl, hkl⟩ := hkey
  obtain ⟨d, ps, hR⟩ := Rz_any val
  obtain ⟨v', hrun, _, ht⟩ := h.store lawA2 Try.underlying154 (by unfold maxLen; omega) hkl hR
  exact ⟨v', hrun, ht⟩

theorem newTable_any (w : World) :
    Calls Try.prog 70 #[] w fun e w' => e = .returned (.pointer (some ⟨w.heap.size + 1, 0, none⟩)) ∧ w' = (w.alloc (.map #[] 0)).alloc (.cells #[.int .i32 0, .int .u32 0, .map (some w.heap.size)] 163) := by
  have hmk := fun v : World => run_makeMap (P := Try.prog) 154 v
  go_enter Try.func70, Try.ntmps70
  go_wp2_with fail
  go_ret
  exact ⟨rfl, rfl⟩

theorem width_any (b : Int) (w : World) :
    Calls Try.prog 86 #[.int .i64 b] w fun r w' => r = .returned (.bool (decide (1 ≤ b ∧ b ≤ 128))) ∧ w' = w := by
  go_enter Try.func86, Try.ntmps86
  by_cases h0 : 1 ≤ b
  · by_cases h1 : b ≤ 128
    · rw [show decide (1 ≤ b ∧ b ≤ 128) = true from decide_eq_true (⟨h0, h1⟩)]
      go_wp2_with fail
      go_ret
      exact ⟨rfl, rfl⟩
    · rw [show decide (1 ≤ b ∧ b ≤ 128) = false from decide_eq_false (fun h => by omega)]
      go_wp2_with fail
      go_ret
      exact ⟨rfl, rfl⟩
  · rw [show decide (1 ≤ b ∧ b ≤ 128) = false from decide_eq_false (fun h => by omega)]
    go_wp2_with fail
    go_ret
    exact ⟨rfl, rfl⟩

/-- Out of the powers or the widths: nothing is made. -/
theorem entry_out (tb : Nat) (k W : Int) (w : World) (h : ¬ (-5200 ≤ k ∧ k ≤ 5200 ∧ 1 ≤ W ∧ W ≤ 128)) :
    Calls Try.prog 71 #[.pointer (some ⟨tb, 0, none⟩), .int .i64 k, .int .i64 W] w fun e w' => e = .returned (pwv 0 0 0 0 false false) ∧ Below w.heap.size w w' := by
  have e0 : pwv 0 0 0 0 false false = .agg #[.int .i64 0, .int .i64 0, .int .u64 0, .int .u64 0, .int .i64 0, .bool false, .bool false] := by unfold pwv; rfl
  rw [e0]
  by_cases h1 : -5200 ≤ k ∧ k ≤ 5200
  · have hd : decide (-5200 ≤ k ∧ k ≤ 5200) = true := decide_eq_true h1
    have hw : decide (1 ≤ W ∧ W ≤ 128) = false := decide_eq_false (fun h2 => h ⟨h1.1, h1.2, h2.1, h2.2⟩)
    clear h h1
    go_enter_defers Try.func71, Try.ntmps71
    go_wp2_with fail
    refine (within_any k _).mono ?_
    rw [hd]
    rintro e v1 ⟨rfl, rfl⟩
    go_wp2_with fail
    refine (width_any W _).mono ?_
    rw [hw]
    rintro e v1 ⟨rfl, rfl⟩
    go_wp2_with fail
    exact ⟨.agg #[.int .i64 0, .int .i64 0, .int .u64 0, .int .u64 0, .int .i64 0, .bool false, .bool false], by simp [results, Try.results71, go_sem], rfl, (Below.refl _ _).alloc (Nat.le_refl _) _⟩
  · have hd : decide (-5200 ≤ k ∧ k ≤ 5200) = false := decide_eq_false h1
    go_enter_defers Try.func71, Try.ntmps71
    go_wp2_with fail
    refine (within_any k _).mono ?_
    rw [hd]
    rintro e v1 ⟨rfl, rfl⟩
    go_wp2_with fail
    exact ⟨.agg #[.int .i64 0, .int .i64 0, .int .u64 0, .int .u64 0, .int .i64 0, .bool false, .bool false], by simp [results, Try.results71, go_sem], rfl, (Below.refl _ _).alloc (Nat.le_refl _) _⟩

end Go.Proofs.Ytehplfmnipadmac

namespace Go.Proofs.Ytehplfmnipadmac
open Go.RowKit Go.Maps
open Go.MuLone
set_option linter.unusedVariables false
set_option maxRecDepth 100000

/-- Seven cells of a variable of a power that is still zero. -/
structure Z7 (v : World) (g : Nat) : Prop where
  c0 : v.cell? ⟨g, 0, none⟩ = some (.int .i64 0)
  c1 : v.cell? ⟨g, 1, none⟩ = some (.int .i64 0)
  c2 : v.cell? ⟨g, 2, none⟩ = some (.int .u64 0)
  c3 : v.cell? ⟨g, 3, none⟩ = some (.int .u64 0)
  c4 : v.cell? ⟨g, 4, none⟩ = some (.int .i64 0)
  c5 : v.cell? ⟨g, 5, none⟩ = some (.bool false)
  c6 : v.cell? ⟨g, 6, none⟩ = some (.bool false)
  f0 : v.frozen? ⟨g, 0, none⟩ = false
  f1 : v.frozen? ⟨g, 1, none⟩ = false
  f2 : v.frozen? ⟨g, 2, none⟩ = false
  f3 : v.frozen? ⟨g, 3, none⟩ = false
  f4 : v.frozen? ⟨g, 4, none⟩ = false
  f5 : v.frozen? ⟨g, 5, none⟩ = false
  f6 : v.frozen? ⟨g, 6, none⟩ = false
  lt : g < v.heap.size

theorem Z7_new (v : World) : Z7 (v.alloc (.cells #[.int .i64 0, .int .i64 0, .int .u64 0, .int .u64 0, .int .i64 0, .bool false, .bool false] 58)) v.heap.size := by
  constructor <;> simp [go_sem]

theorem Z7.below {v v' : World} {g : Nat} (h : Z7 v g) (hb : Below v.heap.size v v') : Z7 v' g :=
  ⟨(hb.cell h.lt).trans h.c0, (hb.cell h.lt).trans h.c1, (hb.cell h.lt).trans h.c2, (hb.cell h.lt).trans h.c3, (hb.cell h.lt).trans h.c4, (hb.cell h.lt).trans h.c5, (hb.cell h.lt).trans h.c6, (hb.frozen h.lt).trans h.f0, (hb.frozen h.lt).trans h.f1, (hb.frozen h.lt).trans h.f2, (hb.frozen h.lt).trans h.f3, (hb.frozen h.lt).trans h.f4, (hb.frozen h.lt).trans h.f5, (hb.frozen h.lt).trans h.f6, Nat.lt_of_lt_of_le h.lt hb.size⟩

theorem Z7.al {v : World} {g : Nat} (h : Z7 v g) (o : Obj) : Z7 (v.alloc o) g := h.below ((Below.refl _ _).alloc (Nat.le_refl _) o)

theorem own_keep {v v' : World} {bm : Nat} (h : v.ownsMap Try.prog 164 Rz bm 0 (.map [])) (hb : Below v.heap.size v v') (hl : bm < v.heap.size) : v'.ownsMap Try.prog 164 Rz bm 0 (.map []) := by
  obtain ⟨es, clock, h1, r⟩ := h
  exact ⟨es, clock, (hb.block bm hl).trans h1, r⟩

theorem far7 (v : World) (g : Nat) (a b c d e f i : Value) : (∀ k o, k ≠ g → (((((((v.setCell ⟨g, 0, none⟩ (a)).setCell ⟨g, 1, none⟩ (b)).setCell ⟨g, 2, none⟩ (c)).setCell ⟨g, 3, none⟩ (d)).setCell ⟨g, 4, none⟩ (e)).setCell ⟨g, 5, none⟩ (f)).setCell ⟨g, 6, none⟩ (i)).cell? ⟨k, o, none⟩ = v.cell? ⟨k, o, none⟩) ∧ (∀ k o, k ≠ g → (((((((v.setCell ⟨g, 0, none⟩ (a)).setCell ⟨g, 1, none⟩ (b)).setCell ⟨g, 2, none⟩ (c)).setCell ⟨g, 3, none⟩ (d)).setCell ⟨g, 4, none⟩ (e)).setCell ⟨g, 5, none⟩ (f)).setCell ⟨g, 6, none⟩ (i)).frozen? ⟨k, o, none⟩ = v.frozen? ⟨k, o, none⟩) ∧ (((((((v.setCell ⟨g, 0, none⟩ (a)).setCell ⟨g, 1, none⟩ (b)).setCell ⟨g, 2, none⟩ (c)).setCell ⟨g, 3, none⟩ (d)).setCell ⟨g, 4, none⟩ (e)).setCell ⟨g, 5, none⟩ (f)).setCell ⟨g, 6, none⟩ (i)).heap.size = v.heap.size ∧ (∀ (n : Nat) (w : World), Below n w v → n ≤ g → Below n w (((((((v.setCell ⟨g, 0, none⟩ (a)).setCell ⟨g, 1, none⟩ (b)).setCell ⟨g, 2, none⟩ (c)).setCell ⟨g, 3, none⟩ (d)).setCell ⟨g, 4, none⟩ (e)).setCell ⟨g, 5, none⟩ (f)).setCell ⟨g, 6, none⟩ (i))) := by
  have hh : ∀ k, k ≠ g → (((((((v.setCell ⟨g, 0, none⟩ (a)).setCell ⟨g, 1, none⟩ (b)).setCell ⟨g, 2, none⟩ (c)).setCell ⟨g, 3, none⟩ (d)).setCell ⟨g, 4, none⟩ (e)).setCell ⟨g, 5, none⟩ (f)).setCell ⟨g, 6, none⟩ (i)).heap[k]? = v.heap[k]? := fun k hk => ((((((Below.heap_setCell _ _ _ _ hk).trans (Below.heap_setCell _ _ _ _ hk)).trans (Below.heap_setCell _ _ _ _ hk)).trans (Below.heap_setCell _ _ _ _ hk)).trans (Below.heap_setCell _ _ _ _ hk)).trans (Below.heap_setCell _ _ _ _ hk)).trans (Below.heap_setCell _ _ _ _ hk)
  refine ⟨fun k o hk => World.cell?_of_block (w := v) (a := ⟨k, o, none⟩) (hh k hk), fun k o hk => World.frozen?_of_block (w := v) (a := ⟨k, o, none⟩) (hh k hk), by simp, fun n w h hg => ?_⟩
  exact ((((((h.setCell (p := ⟨g, 0, none⟩) hg a).setCell (p := ⟨g, 1, none⟩) hg b).setCell (p := ⟨g, 2, none⟩) hg c).setCell (p := ⟨g, 3, none⟩) hg d).setCell (p := ⟨g, 4, none⟩) hg e).setCell (p := ⟨g, 5, none⟩) hg f).setCell (p := ⟨g, 6, none⟩) hg i

theorem set7_cells {v : World} {g : Nat} (h : Z7 v g) (a b c d e f i : Value) : (((((((v.setCell ⟨g, 0, none⟩ (a)).setCell ⟨g, 1, none⟩ (b)).setCell ⟨g, 2, none⟩ (c)).setCell ⟨g, 3, none⟩ (d)).setCell ⟨g, 4, none⟩ (e)).setCell ⟨g, 5, none⟩ (f)).setCell ⟨g, 6, none⟩ (i)).cell? ⟨g, 0, none⟩ = some a ∧ (((((((v.setCell ⟨g, 0, none⟩ (a)).setCell ⟨g, 1, none⟩ (b)).setCell ⟨g, 2, none⟩ (c)).setCell ⟨g, 3, none⟩ (d)).setCell ⟨g, 4, none⟩ (e)).setCell ⟨g, 5, none⟩ (f)).setCell ⟨g, 6, none⟩ (i)).cell? ⟨g, 1, none⟩ = some b ∧ (((((((v.setCell ⟨g, 0, none⟩ (a)).setCell ⟨g, 1, none⟩ (b)).setCell ⟨g, 2, none⟩ (c)).setCell ⟨g, 3, none⟩ (d)).setCell ⟨g, 4, none⟩ (e)).setCell ⟨g, 5, none⟩ (f)).setCell ⟨g, 6, none⟩ (i)).cell? ⟨g, 2, none⟩ = some c ∧ (((((((v.setCell ⟨g, 0, none⟩ (a)).setCell ⟨g, 1, none⟩ (b)).setCell ⟨g, 2, none⟩ (c)).setCell ⟨g, 3, none⟩ (d)).setCell ⟨g, 4, none⟩ (e)).setCell ⟨g, 5, none⟩ (f)).setCell ⟨g, 6, none⟩ (i)).cell? ⟨g, 3, none⟩ = some d ∧ (((((((v.setCell ⟨g, 0, none⟩ (a)).setCell ⟨g, 1, none⟩ (b)).setCell ⟨g, 2, none⟩ (c)).setCell ⟨g, 3, none⟩ (d)).setCell ⟨g, 4, none⟩ (e)).setCell ⟨g, 5, none⟩ (f)).setCell ⟨g, 6, none⟩ (i)).cell? ⟨g, 4, none⟩ = some e ∧ (((((((v.setCell ⟨g, 0, none⟩ (a)).setCell ⟨g, 1, none⟩ (b)).setCell ⟨g, 2, none⟩ (c)).setCell ⟨g, 3, none⟩ (d)).setCell ⟨g, 4, none⟩ (e)).setCell ⟨g, 5, none⟩ (f)).setCell ⟨g, 6, none⟩ (i)).cell? ⟨g, 5, none⟩ = some f ∧ (((((((v.setCell ⟨g, 0, none⟩ (a)).setCell ⟨g, 1, none⟩ (b)).setCell ⟨g, 2, none⟩ (c)).setCell ⟨g, 3, none⟩ (d)).setCell ⟨g, 4, none⟩ (e)).setCell ⟨g, 5, none⟩ (f)).setCell ⟨g, 6, none⟩ (i)).cell? ⟨g, 6, none⟩ = some i := by
  obtain ⟨z0, z1, z2, z3, z4, z5, z6, g0, g1, g2, g3, g4, g5, g6, gl⟩ := h
  simp [go_sem, z0, z1, z2, z3, z4, z5, z6]

theorem turned_cell {w w' : World} {b : Nat} (h : w.mapTurned w' b) (g o : Nat) (hl : g < w.heap.size) (hn : g ≠ b) : w'.cell? ⟨g, o, none⟩ = w.cell? ⟨g, o, none⟩ := by
  have hblk := h.grown.block g hl (fun e => hn (Option.some.inj e))
  simp only [World.cell?, hblk]

/-- Of what lay, only two blocks have turned. -/
structure T2 (tb bm : Nat) (w v : World) : Prop where
  os : v.os = w.os
  tape : v.tape = w.tape
  output : v.output = w.output
  size : w.heap.size ≤ v.heap.size
  block : ∀ k, k < w.heap.size → k ≠ tb → k ≠ bm → v.heap[k]? = w.heap[k]?

theorem T2.refl (tb bm : Nat) (w : World) : T2 tb bm w w := ⟨rfl, rfl, rfl, Nat.le_refl _, fun _ _ _ _ => rfl⟩
theorem T2.below {tb bm n : Nat} {w v v' : World} (h : T2 tb bm w v) (hb : Below n v v') (hn : w.heap.size ≤ n) : T2 tb bm w v' :=
  ⟨hb.os.trans h.os, hb.tape.trans h.tape, hb.output.trans h.output, Nat.le_trans h.size hb.size, fun k hk h1 h2 => (hb.block k (by omega)).trans (h.block k hk h1 h2)⟩
theorem T2.grown {tb bm : Nat} {w v v' : World} {row : Option Nat} (h : T2 tb bm w v) (hg : v.grownBy v' row) (hr : ∀ k, row = some k → k = tb ∨ k = bm ∨ w.heap.size ≤ k) : T2 tb bm w v' :=
  ⟨hg.os.trans h.os, hg.tape.trans h.tape, hg.output.trans h.output, Nat.le_trans h.size hg.size, fun k hk h1 h2 => (hg.block k (by have := h.size; omega) (fun e => by have := hr k e.symm; omega)).trans (h.block k hk h1 h2)⟩
theorem T2.set {tb bm : Nat} {w v : World} (h : T2 tb bm w v) (g j : Nat) (x : Value) (hg : g = tb ∨ g = bm ∨ w.heap.size ≤ g) : T2 tb bm w (v.setCell ⟨g, j, none⟩ x) :=
  h.grown (row := some g) ⟨rfl, rfl, rfl, by simp, fun k _ hk => Below.heap_setCell _ _ _ k (fun e => hk (by rw [e]))⟩ (fun k hk => by cases hk; exact hg)
theorem T2.set7 {tb bm : Nat} {w v : World} (h : T2 tb bm w v) (g : Nat) (a b c d e f i : Value) (hg : g = tb ∨ g = bm ∨ w.heap.size ≤ g) : T2 tb bm w (((((((v.setCell ⟨g, 0, none⟩ (a)).setCell ⟨g, 1, none⟩ (b)).setCell ⟨g, 2, none⟩ (c)).setCell ⟨g, 3, none⟩ (d)).setCell ⟨g, 4, none⟩ (e)).setCell ⟨g, 5, none⟩ (f)).setCell ⟨g, 6, none⟩ (i)) :=
  ((((((h.set g 0 a hg).set g 1 b hg).set g 2 c hg).set g 3 d hg).set g 4 e hg).set g 5 f hg).set g 6 i hg
theorem T2.under {tb bm : Nat} {w v : World} (h : T2 tb bm w v) (B : Nat) (h1 : B ≤ tb) (h2 : B ≤ bm) (h3 : B ≤ w.heap.size) : Below B w v :=
  ⟨h.os, h.tape, h.output, h.size, fun k hk => h.block k (by omega) (by omega) (by omega)⟩

set_option maxRecDepth 10000 in
set_option maxHeartbeats 4000000 in
theorem entry_in2 (tb bm : Nat) (k W E : Int) (T : Nat) (x : Bool) (w : World) (h : -5200 ≤ k ∧ k ≤ 5200 ∧ 1 ≤ W ∧ W ≤ 128)
    (c0 : w.cell? ⟨tb, 0, none⟩ = some (.int .i32 0)) (c2 : w.cell? ⟨tb, 2, none⟩ = some (.map (some bm))) (f0 : w.frozen? ⟨tb, 0, none⟩ = false) (hbt : bm ≠ tb) (hown : w.ownsMap Try.prog 164 Rz bm 0 (.map []))
    (lbm : bm < w.heap.size)
    (kT : ∀ v : World, Calls Try.prog 101 #[.int .i64 k, .int .i64 W] v fun e v' => e = .returned (pwv k W T E x true) ∧ Below v.heap.size v v') :
    Calls Try.prog 71 #[.pointer (some ⟨tb, 0, none⟩), .int .i64 k, .int .i64 W] w fun e w' => e = .returned (pwv k W T E x true) ∧ T2 tb bm w w' := by
  have hd : decide (-5200 ≤ k ∧ k ≤ 5200) = true := decide_eq_true ⟨h.1, h.2.1⟩
  have hwd : decide (1 ≤ W ∧ W ≤ 128) = true := decide_eq_true ⟨h.2.2.1, h.2.2.2⟩
  have hkey := key2 k W (WalkArith.wf_i64 (by omega)) (WalkArith.wf_i64 (by omega))
  have ltb : tb < w.heap.size := World.block_lt_of_cell? w _ c0
  unfold pwv at kT ⊢
  have b0 : Below w.heap.size w (w.alloc (.cells #[.int .i64 0, .int .i64 0, .int .u64 0, .int .u64 0, .int .i64 0, .bool false, .bool false] 58)) := (Below.refl _ _).alloc (Nat.le_refl _) _
  have d0 := (b0.cell (p := ⟨tb, 0, none⟩) ltb).trans c0
  have e0 := (b0.frozen (p := ⟨tb, 0, none⟩) ltb).trans f0
  -- the world ahead of the search in the map
  obtain ⟨V, hV⟩ : ∃ V, V = ((w.setCell ⟨tb, 0, none⟩ (.int .i32 1)).alloc (.cells #[.int .i64 0, .int .i64 0, .int .u64 0, .int .u64 0, .int .i64 0, .bool false, .bool false] 58)).alloc (.cells #[.int .i64 k, .int .i64 W] 164) := ⟨_, rfl⟩
  have g0 : (w.setCell ⟨tb, 0, none⟩ (.int .i32 1)).cell? ⟨tb, 0, none⟩ = some (.int .i32 1) := World.cell?_setCell_same w ⟨tb, 0, none⟩ (.int .i32 1) c0
  have g2 : (w.setCell ⟨tb, 0, none⟩ (.int .i32 1)).cell? ⟨tb, 2, none⟩ = some (.map (some bm)) := (World.cell?_setCell_other w ⟨tb, 0, none⟩ ⟨tb, 2, none⟩ _ (by simp)).trans c2
  have gf : (w.setCell ⟨tb, 0, none⟩ (.int .i32 1)).frozen? ⟨tb, 0, none⟩ = false := by simp [f0]
  have hsz : (w.setCell ⟨tb, 0, none⟩ (.int .i32 1)).heap.size = w.heap.size := by simp
  have ownS := hown.setCell (a := ⟨tb, 0, none⟩) hbt (.int .i32 1)
  have bS : T2 tb bm w (w.setCell ⟨tb, 0, none⟩ (.int .i32 1)) := (T2.refl _ _ w).set _ _ _ (.inl rfl)
  have bV1 : Below (w.setCell ⟨tb, 0, none⟩ (.int .i32 1)).heap.size (w.setCell ⟨tb, 0, none⟩ (.int .i32 1)) V := by rw [hV]; exact ((Below.refl _ _).alloc (Nat.le_refl _) _).alloc (by simp) _
  have ownV : V.ownsMap Try.prog 164 Rz bm 0 (.map []) := by rw [hV]; exact (ownS.alloc _).alloc _
  have t0 := (bV1.cell (p := ⟨tb, 0, none⟩) (by rw [hsz]; exact ltb)).trans g0
  have t2 := (bV1.cell (p := ⟨tb, 2, none⟩) (by rw [hsz]; exact ltb)).trans g2
  have tf := (bV1.frozen (p := ⟨tb, 0, none⟩) (by rw [hsz]; exact ltb)).trans gf
  have zR : Z7 V w.heap.size := by
    have := (Z7_new (w.setCell ⟨tb, 0, none⟩ (.int .i32 1))).al (.cells #[.int .i64 k, .int .i64 W] 164)
    rw [hsz] at this
    rw [hV]; exact this
  have k0 : V.cell? ⟨w.heap.size + 1, 0, none⟩ = some (.int .i64 k) := by rw [hV]; simp [go_sem]
  have k1 : V.cell? ⟨w.heap.size + 1, 1, none⟩ = some (.int .i64 W) := by rw [hV]; simp [go_sem]
  have sV : w.heap.size + 2 ≤ V.heap.size := by rw [hV]; simp
  have bV : T2 tb bm w V := bS.below bV1 (by rw [hsz]; exact Nat.le_refl _)
  clear g0 g2 gf ownS bS bV1 hsz
  go_enter_defers Try.func71, Try.ntmps71
  go_wp2_with fail
  refine (within_any k _).mono ?_
  rw [hd]
  rintro e v1 ⟨rfl, rfl⟩
  go_wp2_with fail
  refine (width_any W _).mono ?_
  rw [hwd]
  rintro e v1 ⟨rfl, rfl⟩
  go_wp2_with fail
  refine (lock_free Try.muLib ⟨tb, 0, none⟩ _ d0 e0).mono ?_
  rintro e v2 ⟨rfl, rfl⟩
  go_upto_region 6 with fail
  rw [← hV]
  clear hV d0 e0 b0 c0 c2 f0 hown hd hwd
  have hL0 := look_empty V.drew bm (ownV.drew) (.agg #[.int .i64 k, .int .i64 W]) hkey
  have hL1 := look_empty (V.alloc (.cells #[.int .i64 0, .int .i64 0, .int .u64 0, .int .u64 0, .int .i64 0, .bool false, .bool false] 58)).drew bm ((ownV.alloc _).drew) (.agg #[.int .i64 k, .int .i64 W]) hkey
  go_cut [8, 9] from 32 to 41 (fun p q wx => ∃ pb, p = .pointer (some ⟨pb, 0, none⟩) ∧ q = .bool false ∧ V.heap.size ≤ pb ∧ Z7 wx pb ∧ Below V.heap.size V wx)
  case first =>
    have lk : w.heap.size + 1 < V.heap.size := by omega
    have lt2 : tb < V.heap.size := by omega
    have KH : ∀ v, Below V.heap.size V v → (fun v => v.cell? ⟨tb, 2, none⟩ = some (.map (some bm)) ∧ v.cell? ⟨w.heap.size + 1, 0, none⟩ = some (.int .i64 k) ∧ v.cell? ⟨w.heap.size + 1, 1, none⟩ = some (.int .i64 W)) v := fun v hv => ⟨(hv.cell lt2).trans t2, (hv.cell lk).trans k0, (hv.cell lk).trans k1⟩
    have A0 : Below V.heap.size V V.drew := (Below.refl _ _).drew
    have A1 : Below V.heap.size V (V.alloc (.cells #[.int .i64 0, .int .i64 0, .int .u64 0, .int .u64 0, .int .i64 0, .bool false, .bool false] 58)).drew := ((Below.refl _ _).alloc (Nat.le_refl _) _).drew
    go_region_held3 (fun v => v.cell? ⟨tb, 2, none⟩ = some (.map (some bm)) ∧ v.cell? ⟨w.heap.size + 1, 0, none⟩ = some (.int .i64 k) ∧ v.cell? ⟨w.heap.size + 1, 1, none⟩ = some (.int .i64 W)) (first | with_reducible exact KH _ A0 | with_reducible exact KH _ A1) (fail)
    all_goals go_wp2_with fail
    all_goals go_meet
    all_goals exact ⟨V.heap.size, rfl, rfl, Nat.le_refl _, (Z7_new V).below (Below.refl _ _).drew, A1⟩
  case rest =>
    obtain ⟨pb, rfl, rfl, hpb, zP, hbx⟩ := hcut
    rename World => wx
    clear hL0 hL1
    go_wp2_with fail
    refine (kT _).mono ?_
    rintro e v3 ⟨rfl, hb3⟩
    clear kT
    have zP3 := zP.below hb3
    have b3 : Below V.heap.size V v3 := keepC1 hbx hb3
    have zR3 := zR.below b3
    have lk : w.heap.size + 1 < V.heap.size := by omega
    have lt2 : tb < V.heap.size := by omega
    have u0 := (b3.cell (p := ⟨tb, 0, none⟩) lt2).trans t0
    have u2 := (b3.cell (p := ⟨tb, 2, none⟩) lt2).trans t2
    have uf := (b3.frozen (p := ⟨tb, 0, none⟩) lt2).trans tf
    have m0 := (b3.cell (p := ⟨w.heap.size + 1, 0, none⟩) lk).trans k0
    have m1 := (b3.cell (p := ⟨w.heap.size + 1, 1, none⟩) lk).trans k1
    have own3 : v3.ownsMap Try.prog 164 Rz bm 0 (.map []) := own_keep ownV b3 (by omega)
    have B3 : T2 tb bm w v3 := bV.below b3 (by omega)
    have hs3 : V.heap.size ≤ v3.heap.size := b3.size
    clear zP hbx hb3 zR t0 t2 tf k0 k1 ownV bV b3
    have npb : bm ≠ pb := by omega
    have ntb : tb ≠ pb := by omega
    have nkb : w.heap.size + 1 ≠ pb := by omega
    have nrb : w.heap.size ≠ pb := by omega
    -- the world behind the variable's store
    obtain ⟨X, hX⟩ : ∃ X, X = (((((((v3.setCell ⟨pb, 0, none⟩ (.int .i64 k)).setCell ⟨pb, 1, none⟩ (.int .i64 W)).setCell ⟨pb, 2, none⟩ (.int .u64 (M.hiN T : Int))).setCell ⟨pb, 3, none⟩ (.int .u64 (M.loN T : Int))).setCell ⟨pb, 4, none⟩ (.int .i64 E)).setCell ⟨pb, 5, none⟩ (.bool x)).setCell ⟨pb, 6, none⟩ (.bool true)) := ⟨_, rfl⟩
    obtain ⟨hXc, hXf, hXs, hXo⟩ := far7 v3 pb (.int .i64 k) (.int .i64 W) (.int .u64 (M.hiN T : Int)) (.int .u64 (M.loN T : Int)) (.int .i64 E) (.bool x) (.bool true)
    rw [← hX] at hXc hXf hXs
    have X0 : X.cell? ⟨pb, 0, none⟩ = some (.int .i64 k) ∧ X.cell? ⟨pb, 1, none⟩ = some (.int .i64 W) ∧ X.cell? ⟨pb, 2, none⟩ = some (.int .u64 (M.hiN T : Int)) ∧ X.cell? ⟨pb, 3, none⟩ = some (.int .u64 (M.loN T : Int)) ∧ X.cell? ⟨pb, 4, none⟩ = some (.int .i64 E) ∧ X.cell? ⟨pb, 5, none⟩ = some (.bool x) ∧ X.cell? ⟨pb, 6, none⟩ = some (.bool true) := by rw [hX]; exact set7_cells zP3 _ _ _ _ _ _ _
    have ownX : X.ownsMap Try.prog 164 Rz bm 0 (.map []) := by rw [hX]; exact ((((((own3.setCell (a := ⟨pb, 0, none⟩) npb _).setCell (a := ⟨pb, 1, none⟩) npb _).setCell (a := ⟨pb, 2, none⟩) npb _).setCell (a := ⟨pb, 3, none⟩) npb _).setCell (a := ⟨pb, 4, none⟩) npb _).setCell (a := ⟨pb, 5, none⟩) npb _).setCell (a := ⟨pb, 6, none⟩) npb _
    obtain ⟨v5, hU, hT5⟩ := store_empty X.drew bm ownX.drew (.agg #[.int .i64 k, .int .i64 W]) (.agg #[.int .i64 k, .int .i64 W, .int .u64 (M.hiN T : Int), .int .u64 (M.loN T : Int), .int .i64 E, .bool x, .bool true]) hkey
    have BX : T2 tb bm w X := by rw [hX]; exact B3.set7 pb _ _ _ _ _ _ _ (by omega)
    have B5 : T2 tb bm w v5 := (BX.below (Below.refl X.heap.size X).drew BX.size).grown hT5.grown (fun k hk => by cases hk; exact .inr (.inl rfl))
    obtain ⟨z0, z1, z2, z3, z4, z5, z6, g0, g1, g2, g3, g4, g5, g6, gl⟩ := zP3
    go_upto_region 9 with fail
    rw [← hX]
    clear z0 z1 z2 z3 z4 z5 z6
    clear g0 g1 g2 g3 g4 g5 g6 own3 ownX
    have c2 : X.cell? ⟨tb, 2, none⟩ = some (.map (some bm)) := (hXc tb 2 ntb).trans u2
    have c0 : X.cell? ⟨tb, 0, none⟩ = some (.int .i32 1) := (hXc tb 0 ntb).trans u0
    have cf : X.frozen? ⟨tb, 0, none⟩ = false := (hXf tb 0 ntb).trans uf
    have n0 : X.cell? ⟨w.heap.size + 1, 0, none⟩ = some (.int .i64 k) := (hXc _ 0 nkb).trans m0
    have n1 : X.cell? ⟨w.heap.size + 1, 1, none⟩ = some (.int .i64 W) := (hXc _ 1 nkb).trans m1
    have ltX : tb < X.heap.size := by omega
    have lkX : w.heap.size + 1 < X.heap.size := by omega
    have lrX : w.heap.size < X.heap.size := by omega
    have lpX : pb < X.heap.size := by omega
    have A0 : Below X.heap.size X X.drew := (Below.refl _ _).drew
    have tc : ∀ g o, g < X.heap.size → g ≠ bm → v5.cell? ⟨g, o, none⟩ = X.cell? ⟨g, o, none⟩ := fun g o h1 h2 => (turned_cell hT5 g o h1 h2).trans (A0.cell h1)
    have tf : ∀ g o, g < X.heap.size → v5.frozen? ⟨g, o, none⟩ = X.frozen? ⟨g, o, none⟩ := fun g o h1 => (hT5.frozen _).trans (A0.frozen (p := ⟨g, o, none⟩) h1)
    obtain ⟨x0, x1, x2, x3, x4, x5, x6⟩ := X0
    have K0 : (fun v => v.cell? ⟨tb, 2, none⟩ = some (.map (some bm)) ∧ v.cell? ⟨w.heap.size + 1, 0, none⟩ = some (.int .i64 k) ∧ v.cell? ⟨w.heap.size + 1, 1, none⟩ = some (.int .i64 W) ∧ v.cell? ⟨pb, 0, none⟩ = some (.int .i64 k) ∧ v.cell? ⟨pb, 1, none⟩ = some (.int .i64 W) ∧ v.cell? ⟨pb, 2, none⟩ = some (.int .u64 (M.hiN T : Int)) ∧ v.cell? ⟨pb, 3, none⟩ = some (.int .u64 (M.loN T : Int)) ∧ v.cell? ⟨pb, 4, none⟩ = some (.int .i64 E) ∧ v.cell? ⟨pb, 5, none⟩ = some (.bool x) ∧ v.cell? ⟨pb, 6, none⟩ = some (.bool true)) X.drew := ⟨(A0.cell ltX).trans c2, (A0.cell lkX).trans n0, (A0.cell lkX).trans n1, (A0.cell lpX).trans x0, (A0.cell lpX).trans x1, (A0.cell lpX).trans x2, (A0.cell lpX).trans x3, (A0.cell lpX).trans x4, (A0.cell lpX).trans x5, (A0.cell lpX).trans x6⟩
    have K5 : (fun v => v.cell? ⟨tb, 2, none⟩ = some (.map (some bm)) ∧ v.cell? ⟨w.heap.size + 1, 0, none⟩ = some (.int .i64 k) ∧ v.cell? ⟨w.heap.size + 1, 1, none⟩ = some (.int .i64 W) ∧ v.cell? ⟨pb, 0, none⟩ = some (.int .i64 k) ∧ v.cell? ⟨pb, 1, none⟩ = some (.int .i64 W) ∧ v.cell? ⟨pb, 2, none⟩ = some (.int .u64 (M.hiN T : Int)) ∧ v.cell? ⟨pb, 3, none⟩ = some (.int .u64 (M.loN T : Int)) ∧ v.cell? ⟨pb, 4, none⟩ = some (.int .i64 E) ∧ v.cell? ⟨pb, 5, none⟩ = some (.bool x) ∧ v.cell? ⟨pb, 6, none⟩ = some (.bool true)) v5 := ⟨(tc tb 2 ltX (Ne.symm hbt)).trans c2, (tc _ 0 lkX (by omega)).trans n0, (tc _ 1 lkX (by omega)).trans n1, (tc pb 0 lpX (Ne.symm npb)).trans x0, (tc pb 1 lpX (Ne.symm npb)).trans x1, (tc pb 2 lpX (Ne.symm npb)).trans x2, (tc pb 3 lpX (Ne.symm npb)).trans x3, (tc pb 4 lpX (Ne.symm npb)).trans x4, (tc pb 5 lpX (Ne.symm npb)).trans x5, (tc pb 6 lpX (Ne.symm npb)).trans x6⟩
    obtain ⟨r0, r1, r2, r3, r4, r5, r6, s0, s1, s2, s3, s4, s5, s6, sl⟩ := zR3
    have zR5 : Z7 v5 w.heap.size := ⟨((tc w.heap.size 0 lrX (by omega)).trans (hXc _ 0 nrb)).trans r0, ((tc w.heap.size 1 lrX (by omega)).trans (hXc _ 1 nrb)).trans r1, ((tc w.heap.size 2 lrX (by omega)).trans (hXc _ 2 nrb)).trans r2, ((tc w.heap.size 3 lrX (by omega)).trans (hXc _ 3 nrb)).trans r3, ((tc w.heap.size 4 lrX (by omega)).trans (hXc _ 4 nrb)).trans r4, ((tc w.heap.size 5 lrX (by omega)).trans (hXc _ 5 nrb)).trans r5, ((tc w.heap.size 6 lrX (by omega)).trans (hXc _ 6 nrb)).trans r6, ((tf w.heap.size 0 lrX).trans (hXf _ 0 nrb)).trans s0, ((tf w.heap.size 1 lrX).trans (hXf _ 1 nrb)).trans s1, ((tf w.heap.size 2 lrX).trans (hXf _ 2 nrb)).trans s2, ((tf w.heap.size 3 lrX).trans (hXf _ 3 nrb)).trans s3, ((tf w.heap.size 4 lrX).trans (hXf _ 4 nrb)).trans s4, ((tf w.heap.size 5 lrX).trans (hXf _ 5 nrb)).trans s5, ((tf w.heap.size 6 lrX).trans (hXf _ 6 nrb)).trans s6, Nat.lt_of_lt_of_le (show w.heap.size < X.drew.heap.size from lrX) hT5.grown.size⟩
    have q0 : v5.cell? ⟨tb, 0, none⟩ = some (.int .i32 1) := (tc tb 0 ltX (Ne.symm hbt)).trans c0
    have qf : v5.frozen? ⟨tb, 0, none⟩ = false := (tf tb 0 ltX).trans cf
    have w7 := set7_cells zR5 (.int .i64 k) (.int .i64 W) (.int .u64 (M.hiN T : Int)) (.int .u64 (M.loN T : Int)) (.int .i64 E) (.bool x) (.bool true)
    obtain ⟨hYc, hYf, hYs, hYo⟩ := far7 v5 w.heap.size (.int .i64 k) (.int .i64 W) (.int .u64 (M.hiN T : Int)) (.int .u64 (M.loN T : Int)) (.int .i64 E) (.bool x) (.bool true)
    have ntr : tb ≠ w.heap.size := by omega
    have y0 := (hYc tb 0 ntr).trans q0
    have yf := (hYf tb 0 ntr).trans qf
    have BY := B5.set7 w.heap.size (.int .i64 k) (.int .i64 W) (.int .u64 (M.hiN T : Int)) (.int .u64 (M.loN T : Int)) (.int .i64 E) (.bool x) (.bool true) (.inr (.inr (Nat.le_refl _)))
    clear hYc hYf hYs hYo tc tf hT5 x0 x1 x2 x3 x4 x5 x6 c0 cf n0 n1 u0 u2 uf m0 m1 r0 r1 r2 r3 r4 r5 r6 s0 s1 s2 s3 s4 s5 s6 B5 BX hXc hXf hXs hXo
    have HZ := hid zR5; have H7 := hid w7; have HY := hid y0; have HF := hid yf; have HB := hid BY; have HK := hid K5; have HQ := hid (q0)
    clear zR5 w7 y0 yf BY q0 qf c2 hX
    go_region_held3 (fun v => v.cell? ⟨tb, 2, none⟩ = some (.map (some bm)) ∧ v.cell? ⟨w.heap.size + 1, 0, none⟩ = some (.int .i64 k) ∧ v.cell? ⟨w.heap.size + 1, 1, none⟩ = some (.int .i64 W) ∧ v.cell? ⟨pb, 0, none⟩ = some (.int .i64 k) ∧ v.cell? ⟨pb, 1, none⟩ = some (.int .i64 W) ∧ v.cell? ⟨pb, 2, none⟩ = some (.int .u64 (M.hiN T : Int)) ∧ v.cell? ⟨pb, 3, none⟩ = some (.int .u64 (M.loN T : Int)) ∧ v.cell? ⟨pb, 4, none⟩ = some (.int .i64 E) ∧ v.cell? ⟨pb, 5, none⟩ = some (.bool x) ∧ v.cell? ⟨pb, 6, none⟩ = some (.bool true)) (first | with_reducible exact K0 | with_reducible exact K5) (fail)
    clear K0 K5 hU
    obtain ⟨o0, o1, o2, o3, o4, o5, o6, p0, p1, p2, p3, p4, p5, p6, pl⟩ := HZ.out
    obtain ⟨-, -, -, i0, i1, i2, i3, i4, i5, i6⟩ := HK.out
    go_wp2_with fail
    clear o0 o1 o2 o3 o4 o5 o6 p0 p1 p2 p3 p4 p5 p6 pl i0 i1 i2 i3 i4 i5 i6 HZ HK
    have ntr2 : tb ≠ w.heap.size := by omega
    obtain ⟨a0, a1, a2, a3, a4, a5, a6⟩ := H7.out
    have a7 := HB.out; have a8 := HY.out; have a9 := HF.out
    clear H7 HB HY HF HQ
    generalize (((((((v5.setCell ⟨w.heap.size, 0, none⟩ (.int .i64 k)).setCell ⟨w.heap.size, 1, none⟩ (.int .i64 W)).setCell ⟨w.heap.size, 2, none⟩ (.int .u64 (M.hiN T : Int))).setCell ⟨w.heap.size, 3, none⟩ (.int .u64 (M.loN T : Int))).setCell ⟨w.heap.size, 4, none⟩ (.int .i64 E)).setCell ⟨w.heap.size, 5, none⟩ (.bool x)).setCell ⟨w.heap.size, 6, none⟩ (.bool true)) = Y at *
    refine leaves_cons (f := 100) (args := #[.pointer (some ⟨tb, 0, none⟩)]) (by simp) (by simp [go_sem]) ?_
    refine (unlock_deferred Try.muLib ⟨tb, 0, none⟩ .returning _ a8 a9).mono ?_
    rintro e u' w'' ⟨rfl, rfl, rfl⟩
    have hne : ∀ j, (⟨tb, 0, none⟩ : Addr) ≠ ⟨w.heap.size, j, none⟩ := fun j e => ntr2 (by injection e)
    replace a0 := (World.cell?_setCell_other Y ⟨tb, 0, none⟩ ⟨w.heap.size, 0, none⟩ (.int .i32 0) (hne 0)).trans a0
    replace a1 := (World.cell?_setCell_other Y ⟨tb, 0, none⟩ ⟨w.heap.size, 1, none⟩ (.int .i32 0) (hne 1)).trans a1
    replace a2 := (World.cell?_setCell_other Y ⟨tb, 0, none⟩ ⟨w.heap.size, 2, none⟩ (.int .i32 0) (hne 2)).trans a2
    replace a3 := (World.cell?_setCell_other Y ⟨tb, 0, none⟩ ⟨w.heap.size, 3, none⟩ (.int .i32 0) (hne 3)).trans a3
    replace a4 := (World.cell?_setCell_other Y ⟨tb, 0, none⟩ ⟨w.heap.size, 4, none⟩ (.int .i32 0) (hne 4)).trans a4
    replace a5 := (World.cell?_setCell_other Y ⟨tb, 0, none⟩ ⟨w.heap.size, 5, none⟩ (.int .i32 0) (hne 5)).trans a5
    replace a6 := (World.cell?_setCell_other Y ⟨tb, 0, none⟩ ⟨w.heap.size, 6, none⟩ (.int .i32 0) (hne 6)).trans a6
    replace a7 := a7.set tb 0 (.int .i32 0) (.inl rfl)
    generalize Y.setCell ⟨tb, 0, none⟩ (.int .i32 0) = Z at *
    exact ⟨.agg #[.int .i64 k, .int .i64 W, .int .u64 (M.hiN T : Int), .int .u64 (M.loN T : Int), .int .i64 E, .bool x, .bool true], by simp [results, Try.results71, go_sem, a0, a1, a2, a3, a4, a5, a6], rfl, a7⟩

theorem entry_in (tb bm : Nat) (k W E : Int) (T : Nat) (x : Bool) (w : World) (h : -5200 ≤ k ∧ k ≤ 5200 ∧ 1 ≤ W ∧ W ≤ 128)
    (c0 : w.cell? ⟨tb, 0, none⟩ = some (.int .i32 0)) (c2 : w.cell? ⟨tb, 2, none⟩ = some (.map (some bm))) (f0 : w.frozen? ⟨tb, 0, none⟩ = false) (hbt : bm ≠ tb) (hown : w.ownsMap Try.prog 164 Rz bm 0 (.map []))
    (B : Nat) (hB1 : B ≤ tb) (hB2 : B ≤ bm) (hB3 : B ≤ w.heap.size) (lbm : bm < w.heap.size)
    (kT : ∀ v : World, Calls Try.prog 101 #[.int .i64 k, .int .i64 W] v fun e v' => e = .returned (pwv k W T E x true) ∧ Below v.heap.size v v') :
    Calls Try.prog 71 #[.pointer (some ⟨tb, 0, none⟩), .int .i64 k, .int .i64 W] w fun e w' => e = .returned (pwv k W T E x true) ∧ Below B w w' :=
  (entry_in2 tb bm k W E T x w h c0 c2 f0 hbt hown lbm kT).mono fun e w' ⟨he, ht⟩ => ⟨he, ht.under B hB1 hB2 hB3⟩

end Go.Proofs.Ytehplfmnipadmac

namespace Go.Proofs.Ytehplfmnipadmac
open Go.RowKit Go.Maps
set_option linter.unusedVariables false
set_option maxRecDepth 100000

def tNum (k : Int) : Nat := 10 ^ k.toNat
def tDen (k : Int) : Nat := 10 ^ (-k).toNat
def tExp (k W : Int) : Int := tb k - W + 1
def tX (k W : Int) : Nat := tNum k * 2 ^ (-(tExp k W)).toNat
def tY (k W : Int) : Nat := tDen k * 2 ^ (tExp k W).toNat

theorem tNum_pos (m : Nat) : tNum (m : Int) = 10 ^ m := by unfold tNum; rw [Int.toNat_natCast]
theorem tDen_pos (m : Nat) : tDen (m : Int) = 1 := by unfold tDen; rw [show (-(m : Int)).toNat = 0 by omega]
theorem tNum_neg (m : Nat) : tNum (-(m : Int)) = 1 := by unfold tNum; rw [show (-(m : Int)).toNat = 0 by omega]
theorem tDen_neg (m : Nat) : tDen (-(m : Int)) = 10 ^ m := by unfold tDen; rw [show (- -(m : Int)).toNat = m by omega]

theorem tDen_gt (k : Int) : 0 < tDen k := Nat.pow_pos (by omega)

theorem tb_bound (k : Int) (h : -5200 ≤ k ∧ k ≤ 5200) : -20801 ≤ tb k ∧ tb k ≤ 20801 := by
  rcases Int.lt_or_le k 0 with h0 | h0
  · obtain ⟨m, rfl⟩ : ∃ m : Nat, k = -(m : Int) := ⟨(-k).toNat, by omega⟩
    rw [tb_neg m (by omega) (by omega)]
    have := blen_ten m (by omega)
    omega
  · obtain ⟨m, rfl⟩ : ∃ m : Nat, k = (m : Int) := ⟨k.toNat, by omega⟩
    rw [tb_pos m (by omega)]
    have := blen_ten m (by omega)
    omega

/-- The top bits are no more than W. -/
theorem top_lt (k W : Int) (h : -5200 ≤ k ∧ k ≤ 5200 ∧ 1 ≤ W ∧ W ≤ 128) : tX k W / tY k W < 2 ^ 128 := by
  have hY : 0 < tY k W := Nat.mul_pos (tDen_gt k) (Nat.pow_pos (by omega))
  rw [Nat.div_lt_iff_lt_mul hY]
  unfold tX tY
  rcases Int.lt_or_le k 0 with h0 | h0
  · obtain ⟨m, rfl⟩ : ∃ m : Nat, k = -(m : Int) := ⟨(-k).toNat, by omega⟩
    have hm : 0 < m := by omega
    have hb := blen_pos (10 ^ m) (Nat.pow_pos (by omega))
    have h1 := blen_le (10 ^ m) (Nat.pow_pos (by omega))
    have h2 := two_ne_ten (blen (10 ^ m) - 1) m hm
    rw [tNum_neg, tDen_neg]
    unfold tExp
    rw [tb_neg m (by omega) hm]
    generalize blen (10 ^ m) = b at *
    obtain ⟨v, rfl⟩ : ∃ v : Nat, W = (v : Int) := ⟨W.toNat, by omega⟩
    have e1 : (-(-(b : Int) - (v : Int) + 1)).toNat = (b - 1) + v := by omega
    have e2 : (-(b : Int) - (v : Int) + 1).toNat = 0 := by omega
    rw [e1, e2, Nat.pow_add, Nat.one_mul, Nat.pow_zero, Nat.mul_one]
    have h3 : 2 ^ v ≤ 2 ^ 128 := Nat.pow_le_pow_right (by omega) (by omega)
    have h4 : 2 ^ (b - 1) * 2 ^ v < 10 ^ m * 2 ^ v := Nat.mul_lt_mul_of_pos_right (by omega) (Nat.pow_pos (by omega))
    have h5 := Nat.lt_of_lt_of_le h4 (Nat.mul_le_mul_left (10 ^ m) h3)
    rw [Nat.mul_comm (2 ^ 128)]
    exact h5
  · obtain ⟨m, rfl⟩ : ∃ m : Nat, k = (m : Int) := ⟨k.toNat, by omega⟩
    have hb := blen_pos (10 ^ m) (Nat.pow_pos (by omega))
    have h1 := lt_blen (10 ^ m)
    rw [tNum_pos, tDen_pos]
    unfold tExp
    rw [tb_pos m (by omega)]
    generalize blen (10 ^ m) = b at *
    obtain ⟨v, rfl⟩ : ∃ v : Nat, W = (v : Int) := ⟨W.toNat, by omega⟩
    obtain ⟨p, hp⟩ : ∃ p : Nat, p = (-((b : Int) - 1 - (v : Int) + 1)).toNat := ⟨_, rfl⟩
    obtain ⟨q, hq⟩ : ∃ q : Nat, q = ((b : Int) - 1 - (v : Int) + 1).toNat := ⟨_, rfl⟩
    rw [← hp, ← hq, Nat.one_mul]
    have e1 : b + p = v + q := by omega
    have h3 : 10 ^ m * 2 ^ p < 2 ^ b * 2 ^ p := Nat.mul_lt_mul_of_pos_right h1 (Nat.pow_pos (by omega))
    rw [← Nat.pow_add, e1, Nat.pow_add] at h3
    exact Nat.lt_of_lt_of_le h3 (Nat.mul_le_mul_right _ (Nat.pow_le_pow_right (by omega) (by omega)))

theorem trunc_any (k W : Int) (h : -5200 ≤ k ∧ k ≤ 5200 ∧ 1 ≤ W ∧ W ≤ 128) (w : World) :
    Calls Try.prog 101 #[.int .i64 k, .int .i64 W] w fun e w' => e = .returned (pwv k W (tX k W / tY k W) (tExp k W) (decide (tX k W % tY k W = 0)) true) ∧ Below w.heap.size w w' := by
  have hq := top_lt k W h
  have hb := tb_bound k ⟨h.1, h.2.1⟩
  have hd := tDen_gt k
  have hE : tExp k W = tb k - W + 1 := rfl
  have kk : (∀ v : World, Calls Try.prog 115 #[.int .i64 k] v fun e v' => RR v v' e (tNum k) (tDen k)) ∧ (∀ (v : World) (a b' : Option Addr) (c d : Nat), Rd v a (L (tNum k)) → Rd v b' (L (tDen k)) → Calls Try.prog 116 #[.int .i64 k, .agg #[.slice a (L (tNum k)).length c, .slice b' (L (tDen k)).length d]] v fun e v' => e = .returned (.int .i64 (tb k)) ∧ Below v.heap.size v v') ∧ (L (tNum k)).length ≤ 1201 ∧ (L (tDen k)).length ≤ 1201 := by
    rcases Int.lt_or_le k 0 with h0 | h0
    · obtain ⟨m, rfl⟩ : ∃ m : Nat, k = -(m : Int) := ⟨(-k).toNat, by omega⟩
      rw [tNum_neg, tDen_neg, tb_neg m (by omega) (by omega)]
      exact ⟨fun v => tenPower_neg m v (by omega), fun v a b' c d ra rb => highest_neg a b' c d _ _ m v (by omega) (by omega) rfl rfl ra rb, len_one, len_ten m (by omega)⟩
    · obtain ⟨m, rfl⟩ : ∃ m : Nat, k = (m : Int) := ⟨k.toNat, by omega⟩
      rw [tNum_pos, tDen_pos, tb_pos m (by omega)]
      exact ⟨fun v => tenPower_pos m v (by omega), fun v a b' c d ra rb => highest_pos a b' c d _ _ m v (by omega) rfl rfl ra rb, len_ten m (by omega), len_one⟩
  obtain ⟨kT, kH, l1, l2⟩ := kk
  rcases Int.lt_or_le (tExp k W) 0 with h0 | h0
  · obtain ⟨s, hs⟩ : ∃ s : Nat, tExp k W = -(s : Int) := ⟨(-(tExp k W)).toNat, by omega⟩
    have eX : tX k W = tNum k * 2 ^ s := by unfold tX; rw [hs, show (- -(s : Int)).toNat = s by omega]
    have eY : tY k W = tDen k * 2 ^ 0 := by unfold tY; rw [hs, show (-(s : Int)).toNat = 0 by omega]
    rw [eX, eY] at hq ⊢
    rw [hE] at hs ⊢
    exact trunc_pos k W (tb k) (tNum k) (tDen k) s w (by omega) (by omega) (by omega) (by omega) hs hd l1 l2 (by omega) hq kT kH
  · obtain ⟨s, hs⟩ : ∃ s : Nat, tExp k W = (s : Int) := ⟨(tExp k W).toNat, by omega⟩
    have eX : tX k W = tNum k * 2 ^ 0 := by unfold tX; rw [hs, show (-(s : Int)).toNat = 0 by omega]
    have eY : tY k W = tDen k * 2 ^ s := by unfold tY; rw [hs, Int.toNat_natCast]
    rw [eX, eY] at hq ⊢
    rw [hE] at hs ⊢
    exact trunc_neg k W (tb k) (tNum k) (tDen k) s w (by omega) (by omega) (by omega) (by omega) hs hd l1 l2 (by omega) hq kT kH

/-- What the document asks of a truncated power. -/
def tpv (k W : Int) : Value := if -5200 ≤ k ∧ k ≤ 5200 ∧ 1 ≤ W ∧ W ≤ 128 then pwv k W (tX k W / tY k W) (tExp k W) (decide (tX k W % tY k W = 0)) true else pwv 0 0 0 0 false false

theorem entry_any (k W : Int) (v0 : World) (tbk bm : Nat) (B : Nat) (hB1 : B ≤ tbk) (hB2 : B ≤ bm) (hB3 : B ≤ v0.heap.size) (lbm : bm < v0.heap.size)
    (c0 : v0.cell? ⟨tbk, 0, none⟩ = some (.int .i32 0)) (c2 : v0.cell? ⟨tbk, 2, none⟩ = some (.map (some bm))) (f0 : v0.frozen? ⟨tbk, 0, none⟩ = false) (hbt : bm ≠ tbk) (hown : v0.ownsMap Try.prog 164 Rz bm 0 (.map [])) :
    Calls Try.prog 71 #[.pointer (some ⟨tbk, 0, none⟩), .int .i64 k, .int .i64 W] v0 fun e w' => e = .returned (tpv k W) ∧ Below B v0 w' := by
  unfold tpv
  by_cases h : -5200 ≤ k ∧ k ≤ 5200 ∧ 1 ≤ W ∧ W ≤ 128
  · rw [if_pos h]
    exact entry_in tbk bm k W _ _ _ v0 h c0 c2 f0 hbt hown B hB1 hB2 hB3 lbm (fun v => trunc_any k W h v)
  · rw [if_neg h]
    exact (entry_out tbk k W v0 h).mono fun e w' ⟨he, hb⟩ => ⟨he, hb.mono hB3⟩

theorem entry_any2 (k W : Int) (v0 : World) (tbk bm : Nat) (lbm : bm < v0.heap.size)
    (c0 : v0.cell? ⟨tbk, 0, none⟩ = some (.int .i32 0)) (c2 : v0.cell? ⟨tbk, 2, none⟩ = some (.map (some bm))) (f0 : v0.frozen? ⟨tbk, 0, none⟩ = false) (hbt : bm ≠ tbk) (hown : v0.ownsMap Try.prog 164 Rz bm 0 (.map [])) :
    Calls Try.prog 71 #[.pointer (some ⟨tbk, 0, none⟩), .int .i64 k, .int .i64 W] v0 fun e w' => e = .returned (tpv k W) ∧ T2 tbk bm v0 w' := by
  unfold tpv
  by_cases h : -5200 ≤ k ∧ k ≤ 5200 ∧ 1 ≤ W ∧ W ≤ 128
  · rw [if_pos h]
    exact entry_in2 tbk bm k W _ _ _ v0 h c0 c2 f0 hbt hown lbm (fun v => trunc_any k W h v)
  · rw [if_neg h]
    exact (entry_out tbk k W v0 h).mono fun e w' ⟨he, hb⟩ => ⟨he, (T2.refl _ _ _).below hb (Nat.le_refl _)⟩

theorem tpv_shape (k W : Int) : ∃ (a b : Int) (T : Nat) (E : Int) (x y : Bool), tpv k W = pwv a b T E x y := by
  unfold tpv
  split
  · exact ⟨_, _, _, _, _, _, rfl⟩
  · exact ⟨_, _, _, _, _, _, rfl⟩

end Go.Proofs.Ytehplfmnipadmac

namespace Go.Proofs.Ytehplfmnipadmac
open Go.RowKit Go.Maps
set_option linter.unusedVariables false
set_option maxRecDepth 100000

set_option maxRecDepth 10000 in
set_option maxHeartbeats 2000000 in
theorem implTenPower_any (k W : Int) (w : World) :
    Calls Try.prog 27 #[.int .i64 k, .int .i64 W] w fun e w' => e = .returned (tpv k W) ∧ Below w.heap.size w w' := by
  have kE := entry_any k W
  obtain ⟨a, b, T, E, x, y, hv⟩ := tpv_shape k W
  rw [hv] at kE ⊢
  clear hv
  unfold pwv at kE ⊢
  obtain ⟨v0, hv0⟩ : ∃ v0, v0 = w.alloc (.cells #[.int .i64 0, .int .i64 0, .int .u64 0, .int .u64 0, .int .i64 0, .bool false, .bool false] 58) := ⟨_, rfl⟩
  have zR := Z7_new w
  rw [← hv0] at zR
  have b0 : Below w.heap.size w v0 := by rw [hv0]; exact (Below.refl _ _).alloc (Nat.le_refl _) _
  have HV0 := hid hv0
  obtain ⟨v1, hv1⟩ : ∃ v1, v1 = (v0.alloc (.map #[] 0)).alloc (.cells #[.int .i32 0, .int .u32 0, .map (some v0.heap.size)] 163) := ⟨_, rfl⟩
  have b1 : Below v0.heap.size v0 v1 := by rw [hv1]; exact ((Below.refl _ _).alloc (Nat.le_refl _) _).alloc (by simp) _
  have own1 : v1.ownsMap Try.prog 164 Rz v0.heap.size 0 (.map []) := by rw [hv1]; exact (World.ownsMap_made v0 Try.prog 164 Rz).alloc _
  have c0 : v1.cell? ⟨v0.heap.size + 1, 0, none⟩ = some (.int .i32 0) := by rw [hv1]; simp [go_sem]
  have c2 : v1.cell? ⟨v0.heap.size + 1, 2, none⟩ = some (.map (some v0.heap.size)) := by rw [hv1]; simp [go_sem]
  have f0 : v1.frozen? ⟨v0.heap.size + 1, 0, none⟩ = false := by rw [hv1]; simp [go_sem]
  have ls : v0.heap.size < v1.heap.size := by rw [hv1]; simp; omega
  have kC := kE v1 (v0.heap.size + 1) v0.heap.size v0.heap.size (by omega) (Nat.le_refl _) (by omega) ls c0 c2 f0 (by omega) own1
  have kN := newTable_any v0
  rw [← hv1] at kN
  clear hv1 own1 c0 c2 f0 kE hv0
  go_enter Try.func27, Try.ntmps27
  go_wp2_with fail
  rw [← HV0.out]
  refine kN.mono ?_
  rintro e v2 ⟨rfl, rfl⟩
  go_wp2_with fail
  refine kC.mono ?_
  rintro e v3 ⟨rfl, hb3⟩
  have b3 : Below v0.heap.size v0 v3 := b1.trans hb3
  obtain ⟨o0, o1, o2, o3, o4, o5, o6, p0, p1, p2, p3, p4, p5, p6, pl⟩ := zR.below b3
  have BB := (far7 v3 w.heap.size (.int .i64 a) (.int .i64 b) (.int .u64 (M.hiN T : Int)) (.int .u64 (M.loN T : Int)) (.int .i64 E) (.bool x) (.bool y)).2.2.2 w.heap.size w (b0.trans (b3.mono b0.size)) (Nat.le_refl _)
  obtain ⟨a0, a1, a2, a3, a4, a5, a6⟩ := set7_cells (zR.below b3) (.int .i64 a) (.int .i64 b) (.int .u64 (M.hiN T : Int)) (.int .u64 (M.loN T : Int)) (.int .i64 E) (.bool x) (.bool y)
  have HA := hid (And.intro a0 (And.intro a1 (And.intro a2 (And.intro a3 (And.intro a4 (And.intro a5 a6))))))
  have HB := hid BB
  clear a0 a1 a2 a3 a4 a5 a6 BB b3 hb3 kN kC b1 zR HV0
  go_wp2_with fail
  obtain ⟨a0, a1, a2, a3, a4, a5, a6⟩ := HA.out
  have BB := HB.out
  clear HA HB
  generalize (((((((v3.setCell ⟨w.heap.size, 0, none⟩ (.int .i64 a)).setCell ⟨w.heap.size, 1, none⟩ (.int .i64 b)).setCell ⟨w.heap.size, 2, none⟩ (.int .u64 (M.hiN T : Int))).setCell ⟨w.heap.size, 3, none⟩ (.int .u64 (M.loN T : Int))).setCell ⟨w.heap.size, 4, none⟩ (.int .i64 E)).setCell ⟨w.heap.size, 5, none⟩ (.bool x)).setCell ⟨w.heap.size, 6, none⟩ (.bool y)) = Y at *
  exact bodyPost_ret (v := .agg #[.int .i64 a, .int .i64 b, .int .u64 (M.hiN T : Int), .int .u64 (M.loN T : Int), .int .i64 E, .bool x, .bool y]) (by simp [results, Try.results27, go_sem, a0, a1, a2, a3, a4, a5, a6]) rfl ⟨rfl, BB⟩

end Go.Proofs.Ytehplfmnipadmac

namespace Go.Proofs.Ytehplfmnipadmac
open Go.RowKit
set_option linter.unusedVariables false
set_option maxRecDepth 100000

/-- What the model's division hands back: two lists that can be read. -/
def RetM (w w' : World) (e : Ending) (q r : List Nat) : Prop :=
  ∃ ao ca bo cb, e = .returned (.tuple #[.slice ao q.length ca, .slice bo r.length cb]) ∧ Rd w' ao q ∧ Rd w' bo r ∧ Below w.heap.size w w'

/-- What holds ahead of the bit t - 1: qs is the quotient so far, R the rest. -/
structure BitI (a b t : Nat) (qs : List Nat) (R : Nat) : Prop where
  sum : a = b * X qs + R
  lt : R < b * 2 ^ t
  top : ∃ y, qs.getD (t / 32) 0 = y * 2 ^ (t % 32)
  low : ∀ j, j < t / 32 → qs.getD j 0 = 0

theorem BitI.le_a {a b t : Nat} {qs : List Nat} {R : Nat} (h : BitI a b t qs R) : R ≤ a := by have := h.sum; omega

theorem BitI.place {a b i : Nat} {qs : List Nat} {R : Nat} (h : BitI a b (i + 1) qs R) : (∃ y, qs.getD (i / 32) 0 = y * 2 ^ (i % 32 + 1)) ∧ ∀ j, j < i / 32 → qs.getD j 0 = 0 := by
  rcases Nat.lt_or_ge (i % 32) 31 with hp | hp
  · obtain ⟨y, hy⟩ := h.top
    rw [show (i + 1) / 32 = i / 32 by omega, show (i + 1) % 32 = i % 32 + 1 by omega] at hy
    exact ⟨⟨y, hy⟩, fun j hj => h.low j (by omega)⟩
  · exact ⟨⟨0, by rw [Nat.zero_mul]; exact h.low _ (by omega)⟩, fun j hj => h.low j (by omega)⟩

theorem BitI.skip {a b i : Nat} {qs : List Nat} {R : Nat} (h : BitI a b (i + 1) qs R) (hlt : R < b * 2 ^ i) : BitI a b i qs R := by
  obtain ⟨⟨y, hy⟩, hl⟩ := h.place
  exact ⟨h.sum, hlt, ⟨y * 2, by rw [hy, Nat.pow_succ, Nat.mul_assoc, Nat.mul_comm 2]⟩, hl⟩

/-- The word with its bit set. -/
theorem bit_word {x p : Nat} (hx : x < 4294967296) (hp : p < 32) (h : ∃ y, x = y * 2 ^ (p + 1)) : 2 ^ p ||| x = x + 2 ^ p ∧ x + 2 ^ p < 4294967296 := by
  obtain ⟨y, rfl⟩ := h
  have h1 : 2 ^ p < 2 ^ (p + 1) := Nat.pow_lt_pow_right (by omega) (by omega)
  constructor
  · rw [or_nat (2 ^ p) y (p + 1) h1, Nat.add_comm]
  · have hKP : 2 ^ (32 - (p + 1)) * 2 ^ (p + 1) = 4294967296 := by rw [← Nat.pow_add, show 32 - (p + 1) + (p + 1) = 32 by omega]
    have h2 : y < 2 ^ (32 - (p + 1)) := by
      have : y * 2 ^ (p + 1) < 2 ^ (32 - (p + 1)) * 2 ^ (p + 1) := by rw [hKP]; exact hx
      exact Nat.lt_of_mul_lt_mul_right this
    have h3 : (y + 1) * 2 ^ (p + 1) ≤ 2 ^ (32 - (p + 1)) * 2 ^ (p + 1) := Nat.mul_le_mul_right _ h2
    rw [hKP, Nat.add_mul] at h3
    omega

theorem BitI.set {a b i : Nat} {qs : List Nat} {R : Nat} (h : BitI a b (i + 1) qs R) (hle : b * 2 ^ i ≤ R) (hl : i / 32 < qs.length) : BitI a b i (qs.set (i / 32) (qs.getD (i / 32) 0 + 2 ^ (i % 32))) (R - b * 2 ^ i) := by
  obtain ⟨⟨y, hy⟩, hlow⟩ := h.place
  have hs := M.val_set 4294967296 (i / 32) qs (qs.getD (i / 32) 0 + 2 ^ (i % 32)) hl
  have e2 : 4294967296 ^ (i / 32) * 2 ^ (i % 32) = 2 ^ i := by
    rw [show (4294967296 : Nat) = 2 ^ 32 from rfl, ← Nat.pow_mul, ← Nat.pow_add]; congr 1; omega
  rw [Nat.mul_add, e2] at hs
  refine ⟨?_, ?_, ⟨y * 2 + 1, ?_⟩, fun j hj => ?_⟩
  · have h1 : X (qs.set (i / 32) (qs.getD (i / 32) 0 + 2 ^ (i % 32))) = X qs + 2 ^ i := by unfold X; omega
    rw [h1, Nat.mul_add]
    have := h.sum
    omega
  · have := h.lt
    rw [Nat.pow_succ, ← Nat.mul_assoc] at this
    omega
  · rw [M.getD_set_eq _ _ _ hl, hy, Nat.pow_succ, Nat.add_mul, Nat.mul_assoc, Nat.mul_comm 2, Nat.one_mul]
  · rw [M.getD_set_ne _ _ _ _ (by omega)]; exact hlow j hj

theorem BitI.start {a b k : Nat} (m : Nat) (h : a < b * 2 ^ (k + 1)) : BitI a b (k + 1) (List.replicate m 0) a := by
  have h0 : ∀ j, (List.replicate m 0).getD j 0 = 0 := fun j => by rw [List.getD_eq_getElem?_getD, List.getElem?_replicate]; split <;> rfl
  refine ⟨?_, h, ⟨0, by rw [h0, Nat.zero_mul]⟩, fun j _ => h0 j⟩
  unfold X; rw [M.val_replicate]; omega

theorem BitI.done {a b : Nat} {qs : List Nat} {R : Nat} (h : BitI a b 0 qs R) : X qs = a / b ∧ R = a % b := by
  have h1 := h.sum
  have h2 := h.lt
  rw [Nat.pow_zero, Nat.mul_one] at h2
  rw [h1]
  exact ⟨by rw [Nat.mul_add_div (by omega), Nat.div_eq_of_lt h2, Nat.add_zero], by rw [Nat.mul_add_mod, Nat.mod_eq_of_lt h2]⟩

theorem half_pow (b i : Nat) : b * 2 ^ (i + 1) / 2 = b * 2 ^ i := by rw [Nat.pow_succ, ← Nat.mul_assoc, Nat.mul_div_cancel _ (by omega)]

/-- A list lies apart from a block. -/
def Apart (ao : Option Addr) (xs : List Nat) (g : Nat) : Prop := 0 < xs.length → ∀ b2 o2, ao = some ⟨b2, o2, none⟩ → b2 ≠ g

theorem Rd.apart {w w' : World} {bo : Option Addr} {ys : List Nat} {g : Nat} (h : Rd w bo ys) (hg : w.grownBy w' (some g)) (hsep : Apart bo ys g) : Rd w' bo ys := by
  intro hp
  obtain ⟨b, off, e, hc⟩ := h hp
  exact ⟨b, off, e, fun i hi => hg.cell (hc i hi) (by simpa using hsep hp b off e)⟩

theorem apart_own {w : World} {base cap g : Nat} {ao : Option Addr} {xs : List Nat} (h : w.ownsRow base 50 1 (.slice ao xs.length cap) xs.length (U xs)) (hg : g < base) : Apart ao xs g := by
  intro h0 b2 o2 e
  obtain ⟨g3, e3, hg3⟩ := own_addr h h0
  rw [e3] at e
  cases e
  omega

theorem apart_lt {w : World} {ao : Option Addr} {xs : List Nat} {g : Nat} (h : Rd w ao xs) (hg : w.heap.size ≤ g) : Apart ao xs g := by
  intro h0 b2 o2 e
  obtain ⟨b, off, e2, hc⟩ := h h0
  have h1 : b < w.heap.size := World.block_lt_of_cell? w _ (hc 0 h0)
  rw [e2] at e
  cases e
  omega

set_option maxHeartbeats 2000000 in
theorem l1Div_wide (ao bo : Option Addr) (n m c d : Nat) (a b : Nat) (w : World) (hl : (D a).length = n) (hm : (D b).length = m) (hb : 0 < b) (hn : n ≤ 2600) (hn2 : m ≤ 2600) (hcn : n ≤ c) (hr : Rd w ao (D a)) (hr2 : Rd w bo (D b)) :
    Calls Try.prog 50 #[.slice ao n c, .slice bo m d] w fun e w' => RetM w w' e (D (a / b)) (D (a % b)) := by
  obtain ⟨i0, hi, hz0, hz1, hz2⟩ := info_parts Try.infoU
  obtain ⟨x, ex⟩ : ∃ x, x = blen a := ⟨_, rfl⟩
  obtain ⟨y, ey⟩ : ∃ x, x = blen b := ⟨_, rfl⟩
  have hbits : ∀ v l, (D v).length = l → blen v ≤ 32 * l := by
    intro v l hv
    refine blen_le_of v (32 * l) ?_
    have h1 := M.lt_dig (B := 4294967296) (by omega) v
    rw [show (M.dig 4294967296 v).length = l from hv, show (4294967296 : Nat) = 2 ^ 32 from rfl, ← Nat.pow_mul] at h1
    exact h1
  have hxb : x ≤ 83200 := by have := hbits a n hl; omega
  have hyb : y ≤ 83200 := by have := hbits b m hm; omega
  clear hbits
  have ha1 : a < 2 ^ x := by rw [ex]; exact lt_blen a
  have hb1 : 2 ^ (y - 1) ≤ b := by rw [ey]; exact blen_le b hb
  have hy0 : 0 < y := by rw [ey]; exact blen_pos b hb
  have EX := hid ex; have EY := hid ey; have HA1 := hid ha1; have HB1 := hid hb1
  clear ex ey ha1 hb1
  by_cases hxy : x < y
  · have hab : a < b := by
      have h1 : 2 ^ x ≤ 2 ^ (y - 1) := Nat.pow_le_pow_right (by omega) (by omega)
      have := HA1.out; have := HB1.out; omega
    rw [Nat.div_eq_of_lt hab, Nat.mod_eq_of_lt hab, show D 0 = [] from M.dig_zero _]
    have hneg : (x : Int) - (y : Int) < 0 := by omega
    go_enter Try.func50, Try.ntmps50
    go_wp2_with fail
    refine (l1Bits_any ao n c a _ hl (by omega) hr x EX.out).mono ?_
    rintro e w1 ⟨rfl, rfl⟩
    go_wp2_with fail
    refine (l1Bits_any bo m d b _ hm (by omega) hr2 y EY.out).mono ?_
    rintro e w2 ⟨rfl, rfl⟩
    go_wp2_with fail
    refine (l1Trim_any 4294967296 (by omega) ao n c (D a) _ hl hcn (by omega) (F32_D a) hr).mono ?_
    rw [show M.val 4294967296 (D a) = a from X_D a]
    rintro e w3 ⟨xa, xc, rfl, hox, hb3⟩
    go_wp2_with fail
    go_ret2
    exact ⟨none, 0, xa, xc, rfl, Rd.nil _ _, Rd.own hox, hb3⟩
  · obtain ⟨k, ek⟩ : ∃ k, k = x - y := ⟨_, rfl⟩
    have hkI : (x : Int) - (y : Int) = (k : Int) := by omega
    have hneg : ¬ (k : Int) < 0 := by omega
    have hkb : k ≤ 83200 := by omega
    obtain ⟨kj, ekj⟩ : ∃ j, j = k / 32 := ⟨_, rfl⟩
    have hkjI : (k : Int) / 32 = (kj : Int) := by omega
    have hmk := fun (wx : World) => run_make (P := Try.prog) wx 41 50 i0 (.int .u64 0) Try.underlying41 hi hz0 .i64 .i64 ((kj + 1 : Nat) : Int) ((kj + 1 : Nat) : Int) (by omega) (Int.le_refl _) (by rw [hz2]; omega) (by omega)
    have es : ((kj + 1 : Nat) : Int) = (kj : Int) + 1 := by omega
    rw [es] at hmk
    have et : ((kj : Int) + 1).toNat = kj + 1 := by omega
    rw [et] at hmk
    clear es et
    have EK := hid ek; have EKJ := hid ekj
    clear ek ekj
    go_enter Try.func50, Try.ntmps50
    go_wp2_with fail
    refine (l1Bits_any ao n c a _ hl (by omega) hr x EX.out).mono ?_
    rintro e w1 ⟨rfl, rfl⟩
    go_wp2_with fail
    refine (l1Bits_any bo m d b _ hm (by omega) hr2 y EY.out).mono ?_
    rintro e w2 ⟨rfl, rfl⟩
    go_wp2_with fail
    refine (l1Trim_any 4294967296 (by omega) ao n c (D a) _ hl hcn (by omega) (F32_D a) hr).mono ?_
    rw [show M.val 4294967296 (D a) = a from X_D a]
    rintro e w3 ⟨xa, xc, rfl, hox, hb3⟩
    have hB4 := blk_made w3 (kj + 1)
    have hb4 : Below w3.heap.size w3 (w3.alloc (.cells (madeCells #[Value.int .u64 0] (kj + 1)) 50)) := (Below.refl _ _).alloc (Nat.le_refl _) _
    have HB4 := hid hB4; have Hb4 := hid hb4
    clear hB4 hb4
    go_wp2_with fail
    have hB4 := HB4.out; have hb4 := Hb4.out
    generalize w3.alloc (.cells (madeCells #[Value.int .u64 0] (kj + 1)) 50) = w4 at hB4 hb4 ⊢
    have hbw4 := hb3.trans (hb4.mono hb3.size)
    refine (l1Left_any bo m d k b _ hm (by omega) (by omega) (hr2.below hbw4)).mono ?_
    rintro e w5 ⟨da, dc, rfl, hod, hb5⟩
    have hbw5 := hbw4.trans (hb5.mono hbw4.size)
    have hB5 := hB4.keep hb5
    have hrr := ((Rd.own hox).below hb4).below hb5
    have hrd := Rd.own hod
    have har : Apart xa (D a) w3.heap.size := apart_lt (Rd.own hox) (Nat.le_refl _)
    have had : Apart da (D (b * 2 ^ k)) w3.heap.size := apart_own hod (by have := hB4.lt; omega)
    have hab : a < b * 2 ^ (k + 1) := by
      have h1 := HA1.out
      have h2 := HB1.out
      have h3 : 2 ^ (y - 1) * 2 ^ (k + 1) ≤ b * 2 ^ (k + 1) := Nat.mul_le_mul_right _ h2
      rw [← Nat.pow_add, show y - 1 + (k + 1) = x by have := EK.out; omega] at h3
      omega
    have hst := BitI.start (kj + 1) hab
    have hdd := half_pow b k
    have hlen : ∀ v, v < 2 ^ x → (D v).length ≤ 2600 := by
      intro v hv
      obtain ⟨NN, eNN⟩ : ∃ NN, NN = 2600 := ⟨_, rfl⟩
      rw [← eNN]
      refine M.len_of_lt (B := 4294967296) (by omega) _ _ ?_
      rw [show (4294967296 : Nat) = 2 ^ 32 from rfl, ← Nat.pow_mul]
      exact Nat.lt_of_lt_of_le hv (Nat.pow_le_pow_right (by omega) (by omega))
    have hln : ∀ R, R ≤ a → (D R).length ≤ 2600 := fun R h => hlen R (Nat.lt_of_le_of_lt h HA1.out)
    have hldd : ∀ i, i ≤ k → (D (b * 2 ^ i)).length ≤ 2600 := by
      intro i hi
      refine hlen _ ?_
      have h1 : b < 2 ^ y := by rw [EY.out]; exact lt_blen b
      have h2 : b * 2 ^ i < 2 ^ y * 2 ^ i := Nat.mul_lt_mul_of_pos_right h1 (Nat.pow_pos (by omega))
      have h3 : 2 ^ y * 2 ^ i ≤ 2 ^ x := by rw [← Nat.pow_add]; exact Nat.pow_le_pow_right (by omega) (by have := EK.out; omega)
      omega
    have HAR := hid har; have HAD := hid had; have HST := hid hst; have HLN := hid hln; have HLD := hid hldd
    clear har had hab hst hlen hln hldd
    have HB5 := hid hB5; have HBW5 := hid hbw5; have HRR := hid hrr; have HRD := hid hrd
    clear hmk HB4 Hb4 hB4 hb4 hbw4 hbw5 hB5 hrr hrd hox hod
    go_wp2_with fail
    obtain ⟨g, eg⟩ : ∃ g, g = w3.heap.size := ⟨_, rfl⟩
    have hgw : w2.heap.size ≤ w3.heap.size := hb3.size
    go_loopw [7, 9, 10] (fun rs dv i wr => ∃ (t : Nat) (qs : List Nat) (R : Nat) (ra da : Option Addr) (rc dc : Nat), t ≤ k + 1 ∧ i = .int .i64 ((t : Int) - 1) ∧ rs = .slice ra (D R).length rc ∧ Rd wr ra (D R) ∧ dv = .slice da (D (b * 2 ^ t / 2)).length dc ∧ Rd wr da (D (b * 2 ^ t / 2)) ∧ Blk wr w3.heap.size qs ∧ qs.length = kj + 1 ∧ F32 qs ∧ BitI a b t qs R ∧ Apart ra (D R) w3.heap.size ∧ Apart da (D (b * 2 ^ t / 2)) w3.heap.size ∧ Below w2.heap.size w2 wr) (fun _ _ i _ => (intOf i + 1).toNat)
    case atStart =>
      refine ⟨k + 1, List.replicate (kj + 1) 0, a, xa, da, xc, dc, Nat.le_refl _, by go_num, rfl, HRR.out, ?_, ?_, HB5.out, by simp, fun x hx => by simp at hx; omega, ?_, HAR.out, ?_, HBW5.out⟩
      · rw [hdd]
      · rw [hdd]; exact HRD.out
      · exact HST.out
      · rw [hdd]; exact HAD.out
    case round =>
      obtain ⟨t, qs, R, ra, da, rc, dc, ht, rfl, rfl, hrR, rfl, hrD, hBq, hql, hqf, hI, hAR, hAD, hbl⟩ := hrel
      by_cases ht0 : 0 < t
      · obtain ⟨i, rfl⟩ : ∃ i, t = i + 1 := ⟨t - 1, by omega⟩
        have e1 : (((i + 1 : Nat) : Int) - 1) = (i : Int) := by omega
        rw [e1]
        rw [half_pow] at hrD hAD ⊢
        have hlr : (D R).length ≤ 2600 := HLN.out R (hI.le_a)
        have hld : (D (b * 2 ^ i)).length ≤ 2600 := HLD.out i (by omega)
        obtain ⟨j, ej⟩ : ∃ j, j = i / 32 := ⟨_, rfl⟩
        obtain ⟨p, ep⟩ : ∃ p, p = i % 32 := ⟨_, rfl⟩
        have ijI : (i : Int) / 32 = (j : Int) := by omega
        have ipI : (i : Int) % 32 = (p : Int) := by omega
        have hjb : j < kj + 1 := by have := EKJ.out; omega
        have hjI : (j : Int) < (kj : Int) + 1 := by omega
        have hpb : p < 32 := by omega
        have EJ := hid ej; have EP := hid ep
        clear ej ep
        have hge0 : (0 : Int) ≤ (i : Int) := by omega
        obtain ⟨dd, edd⟩ : ∃ dd, dd = b * 2 ^ i := ⟨_, rfl⟩
        rw [← edd] at hrD hAD hld ⊢
        have EDD := hid edd; clear edd
        by_cases hcm : dd ≤ R
        · have hcmp := cmpI_nonneg hcm
          have HI := hid hI; clear hI
          obtain ⟨x0, ex0⟩ : ∃ x0, x0 = qs.getD j 0 := ⟨_, rfl⟩
          have hx0 : x0 < 4294967296 := by rw [ex0]; exact hqf.get j
          have hpl := HI.out.place
          rw [← EJ.out, ← EP.out, ← ex0] at hpl
          obtain ⟨hor, hob⟩ := bit_word hx0 hpb hpl.1
          have hset := HI.out.set (by rw [← EDD.out]; exact hcm) (by rw [← EJ.out]; omega)
          rw [← EJ.out, ← EP.out, ← ex0, ← EDD.out] at hset
          obtain ⟨tp, etp⟩ : ∃ tp, tp = 2 ^ p := ⟨_, rfl⟩
          rw [← etp] at hor hob hset
          have wsh : ((2 : Int) ^ p) = (tp : Int) := by rw [pow_cast, etp]
          obtain ⟨x1, ex1⟩ : ∃ x1, x1 = x0 + tp := ⟨_, rfl⟩
          have wor : bits BinOp.or IntKind.u64 (x0 : Int) (tp : Int) = (x1 : Int) := by
            rw [or_comm_nat _ _ (by omega) (by omega), hor, ex1]
          rw [← ex1] at hset hob
          have htpb : tp < 18446744073709551616 := by omega
          have HSET := hid hset; have EX0 := hid ex0; have HOB := hid hob
          clear hset ex0 hob hor hpl etp ex1
          go_wp2_with fail
          refine (l1Cmp_any ra da _ _ rc dc R dd _ rfl rfl (by omega) (by omega) hrR hrD).mono ?_
          rintro e v1 ⟨rfl, rfl⟩
          go_wp2_with fail
          refine (l1Sub_any ra da _ _ rc dc R dd _ rfl rfl hcm (by omega) hrR hrD).mono ?_
          rintro e v2 ⟨sa, sc, rfl, hos, hbs⟩
          have hBq2 := hBq.keep hbs
          have hcq := hBq2.cell j (by omega)
          rw [← EX0.out] at hcq
          have hfq := hBq2.frozen j
          have hbl2 := hbl.trans (hbs.mono hbl.size)
          have hgs : v2.grownBy (v2.setCell ⟨w3.heap.size, j, none⟩ (.int .u64 (x1 : Int))) (some w3.heap.size) := grown_setCell _ _ _ _
          have hBq3 : Blk (v2.setCell ⟨w3.heap.size, j, none⟩ (.int .u64 (x1 : Int))) w3.heap.size (qs.set j x1) := hBq2.set _ _ _ rfl
          have hbl3 : Below w2.heap.size w2 (v2.setCell ⟨w3.heap.size, j, none⟩ (.int .u64 (x1 : Int))) := hbl2.setCell (by simpa using hgw) _
          have haps : Apart sa (D (R - dd)) w3.heap.size := apart_own hos (by have := hBq.lt; omega)
          have hrs3 := (Rd.own hos).apart hgs haps
          have hrd3 := (hrD.below hbs).apart hgs hAD
          have HBq3 := hid hBq3; have Hbl3 := hid hbl3; have Hrs3 := hid hrs3; have Hrd3 := hid hrd3
          clear hBq3 hbl3 hrs3 hrd3 hBq2 hgs hos hbs hbl2
          go_wp2_with fail
          have hBq3 := HBq3.out; have hbl3 := Hbl3.out; have hrs3 := Hrs3.out; have hrd3 := Hrd3.out
          generalize v2.setCell ⟨w3.heap.size, j, none⟩ (.int .u64 (x1 : Int)) = v3 at hBq3 hbl3 hrs3 hrd3 ⊢
          clear HBq3 Hbl3 Hrs3 Hrd3 hcq hfq
          refine (l1Right_any da _ dc 1 dd _ rfl (by omega) (by omega) hrd3).mono ?_
          rw [Nat.pow_one]
          rintro e v4 ⟨ta, tc, rfl, hot, hbt⟩
          have hbl4 := hbl3.trans (hbt.mono hbl3.size)
          have hBq4 := hBq3.keep hbt
          have hrs4 := hrs3.below hbt
          have hrt4 := Rd.own hot
          have hapt : Apart ta (D (dd / 2)) w3.heap.size := apart_own hot (by have := hBq3.lt; omega)
          have Hbl4 := hid hbl4; have HBq4 := hid hBq4; have Hrs4 := hid hrs4; have Hrt4 := hid hrt4; have Hapt := hid hapt; have Haps := hid haps
          clear hbl4 hBq4 hrs4 hrt4 hapt haps hot hbt hBq3 hbl3 hrs3 hrd3
          go_wp2_with fail
          go_roundw
          case rel =>
            have hfs : F32 (qs.set j x1) := by
              intro v hv
              rcases List.mem_or_eq_of_mem_set hv with hv | rfl
              · exact hqf v hv
              · exact HOB.out
            have R1 : ∃ (t : Nat) (qs : List Nat) (R' : Nat) (ra da : Option Addr) (rc dc : Nat), t ≤ k + 1 ∧ Value.int .i64 ((i : Int) - 1) = .int .i64 ((t : Int) - 1) ∧ Value.slice sa (D (R - dd)).length sc = .slice ra (D R').length rc ∧ Rd v4 ra (D R') ∧ Value.slice ta (D (dd / 2)).length tc = .slice da (D (b * 2 ^ t / 2)).length dc ∧ Rd v4 da (D (b * 2 ^ t / 2)) ∧ Blk v4 w3.heap.size qs ∧ qs.length = kj + 1 ∧ F32 qs ∧ BitI a b t qs R' ∧ Apart ra (D R') w3.heap.size ∧ Apart da (D (b * 2 ^ t / 2)) w3.heap.size ∧ Below w2.heap.size w2 v4 := by
              refine ⟨i, qs.set j x1, R - dd, sa, ta, sc, tc, by omega, rfl, rfl, Hrs4.out, ?_, ?_, HBq4.out, by rw [List.length_set]; exact hql, hfs, HSET.out, Haps.out, ?_, Hbl4.out⟩
              · rw [← EDD.out]
              · rw [← EDD.out]; exact Hrt4.out
              · rw [← EDD.out]; exact Hapt.out
            first | exact R1 | ((repeat apply Exists.intro); exact ⟨R1, rfl⟩)
          case measure => simp [intOf] <;> omega
        · have hcmp := cmpI_neg (show R < dd by omega)
          have hset := hI.skip (by rw [← EDD.out]; omega)
          have HSET := hid hset; clear hset hI
          go_wp2_with fail
          refine (l1Cmp_any ra da _ _ rc dc R dd _ rfl rfl (by omega) (by omega) hrR hrD).mono ?_
          rintro e v3 ⟨rfl, rfl⟩
          go_wp2_with fail
          refine (l1Right_any da _ dc 1 dd _ rfl (by omega) (by omega) hrD).mono ?_
          rw [Nat.pow_one]
          rintro e v4 ⟨ta, tc, rfl, hot, hbt⟩
          have hbl4 := hbl.trans (hbt.mono hbl.size)
          have hBq4 := hBq.keep hbt
          have hrs4 := hrR.below hbt
          have hrt4 := Rd.own hot
          have hapt : Apart ta (D (dd / 2)) w3.heap.size := apart_own hot (by have := hBq.lt; omega)
          have Hbl4 := hid hbl4; have HBq4 := hid hBq4; have Hrs4 := hid hrs4; have Hrt4 := hid hrt4; have Hapt := hid hapt
          clear hbl4 hBq4 hrs4 hrt4 hapt hot hbt
          go_wp2_with fail
          go_roundw
          case rel =>
            have R1 : ∃ (t : Nat) (qs : List Nat) (R' : Nat) (ra' da : Option Addr) (rc' dc : Nat), t ≤ k + 1 ∧ Value.int .i64 ((i : Int) - 1) = .int .i64 ((t : Int) - 1) ∧ Value.slice ra (D R).length rc = .slice ra' (D R').length rc' ∧ Rd v4 ra' (D R') ∧ Value.slice ta (D (dd / 2)).length tc = .slice da (D (b * 2 ^ t / 2)).length dc ∧ Rd v4 da (D (b * 2 ^ t / 2)) ∧ Blk v4 w3.heap.size qs ∧ qs.length = kj + 1 ∧ F32 qs ∧ BitI a b t qs R' ∧ Apart ra' (D R') w3.heap.size ∧ Apart da (D (b * 2 ^ t / 2)) w3.heap.size ∧ Below w2.heap.size w2 v4 := by
              refine ⟨i, qs, R, ra, ta, rc, tc, by omega, rfl, rfl, Hrs4.out, ?_, ?_, HBq4.out, hql, hqf, HSET.out, hAR, ?_, Hbl4.out⟩
              · rw [← EDD.out]
              · rw [← EDD.out]; exact Hrt4.out
              · rw [← EDD.out]; exact Hapt.out
            first | exact R1 | ((repeat apply Exists.intro); exact ⟨R1, rfl⟩)
          case measure => simp [intOf] <;> omega
      · have e : t = 0 := by omega
        subst e
        obtain ⟨hq, hR⟩ := hI.done
        have hge0 : ¬ (0 : Int) ≤ ((0 : Nat) : Int) - 1 := by omega
        have hrdq := hBq.rd0
        have HQ := hid hq; have HR := hid hR
        clear hI hq hR hrD hAD
        go_wp2_with fail
        refine (l1Trim_any 4294967296 (by omega) _ (kj + 1) (kj + 1) qs _ hql (Nat.le_refl _) (by omega) hqf hrdq).mono ?_
        rw [show M.val 4294967296 qs = a / b from HQ.out]
        rintro e v1 ⟨qa, qc, rfl, hoq, hbq⟩
        go_wp2_with fail
        go_ret2
        rw [← HR.out]
        exact ⟨qa, qc, ra, rc, rfl, Rd.own hoq, hrR.below hbq, hbl.trans (hbq.mono hbl.size)⟩

theorem l1Div_any (ao bo : Option Addr) (n m c d : Nat) (a b : Nat) (w : World) (hl : (D a).length = n) (hm : (D b).length = m) (hb : 0 < b) (hn : n ≤ 2400) (hn2 : m ≤ 2400) (hcn : n ≤ c) (hr : Rd w ao (D a)) (hr2 : Rd w bo (D b)) :
    Calls Try.prog 50 #[.slice ao n c, .slice bo m d] w fun e w' => RetM w w' e (D (a / b)) (D (a % b)) :=
  l1Div_wide ao bo n m c d a b w hl hm hb (by omega) (by omega) hcn hr hr2

end Go.Proofs.Ytehplfmnipadmac

namespace Go.Proofs.Ytehplfmnipadmac
open Go.RowKit
set_option linter.unusedVariables false
set_option maxRecDepth 100000

theorem D_small (a : Nat) (h : a < 2 ^ 192) : (D a).length ≤ 6 := by
  apply M.len_of_lt (by omega)
  rw [show (4294967296 : Nat) = 2 ^ 32 from rfl, ← Nat.pow_mul]
  exact h

theorem L_get (a k : Nat) : (L a).getD k 0 = a / 18446744073709551616 ^ k % 18446744073709551616 := M.dig_get (by omega) k a

theorem getD_app0 (xs : List Nat) (k : Nat) : (xs ++ [0, 0]).getD k 0 = xs.getD k 0 := by
  rcases Nat.lt_or_ge k xs.length with h | h
  · simp [List.getD_eq_getElem?_getD, List.getElem?_append_left h]
  · rw [List.getD_eq_getElem?_getD, List.getD_eq_getElem?_getD, List.getElem?_append_right h, List.getElem?_eq_none (by omega : xs.length ≤ k)]
    rcases k - xs.length with _ | _ | m <;> simp

set_option maxHeartbeats 1000000 in
theorem l2Word_any (ao : Option Addr) (n c : Nat) (a : Nat) (w : World) (hl : (D a).length = n) (ha : a < 2 ^ 128) (hr : Rd w ao (D a)) :
    Calls Try.prog 69 #[.slice ao n c] w fun e w' => e = .returned (.agg #[.int .u64 (M.hiN a : Int), .int .u64 (M.loN a : Int)]) ∧ Below w.heap.size w w' := by
  obtain ⟨i0, hi, hz0, hz1, hz2⟩ := info_parts Try.infoU
  have hn : n ≤ 6 := by rw [← hl]; exact D_small a (by omega)
  have hL : (L a).length ≤ 4 := M.len_of_lt (by omega) _ _ (by omega)
  have g0 : (L a ++ [0, 0]).getD 0 0 = M.loN a := by rw [getD_app0, L_get]; simp [M.loN]
  have g1 : (L a ++ [0, 0]).getD 1 0 = M.hiN a := by rw [getD_app0, L_get]; have := M.hiLt ha; unfold M.hiN at *; simp; omega
  have G0 := hid g0; have G1 := hid g1
  clear g0 g1
  generalize M.hiN a = h at *
  generalize M.loN a = l at *
  go_enter Try.func69, Try.ntmps69
  go_wp2_with fail
  have b0 : Below w.heap.size w (w.alloc (.cells #[.int .u64 0, .int .u64 0] 56)) := (Below.refl _ _).alloc (Nat.le_refl _) _
  refine (l1Out_any ao n c a _ hl (by omega) (hr.below b0)).mono ?_
  rintro e w1 ⟨ao1, cap1, rfl, ho1, hb1⟩
  have hc1 := (bcell hb1).1
  have hf1 := (bcell hb1).2
  have b1 := b0.trans (hb1.mono b0.size)
  have hz : w.heap.size < w1.heap.size := by have := hb1.size; simp at this; omega
  go_wp2_with (at_builtin; refine wpList_append_own _ rfl _ _ 41 rfl (w.heap.size + 1) 50 i0 (.int .u64 0) 1 8 Try.underlying41 hi hz0 hz1 hz2 rfl (by decide) _ _ _ rfl ((own_base ho1 (by simp)).alloc _) ⟨w1.heap.size, 0, none⟩ 2 2 (U [0, 0]) rfl rfl ?c1 ?c2 ?c3 ?c4 ?c5 ?_)
  case c1 =>
    intro j u hj
    match j, hj with
    | 0, hj => simp [U] at hj; subst hj; simp [Addr.add]
    | 1, hj => simp [U] at hj; subst hj; simp [Addr.add]
  case c2 => exact U_one _
  case c3 => unfold maxLen; omega
  case c4 => omega
  case c5 => have := hb1.size; simp at this ⊢; omega
  intro v' w2 hown' hgrow hnn
  clear hnn
  have hb2 : Below (w.alloc (.cells #[.int .u64 0, .int .u64 0] 56)).heap.size (w.alloc (.cells #[.int .u64 0, .int .u64 0] 56)) w2 :=
    (hb1.alloc hb1.size _).grown hgrow (by have := hb1.size; simp at this ⊢; omega) (fun k hk => (ho1.lt k hk).1)
  have b2 := b0.trans (hb2.mono b0.size)
  rw [← U_append] at hown'
  obtain ⟨ao2, cap2, hv⟩ := own_shape hown'
  subst hv
  have hcap := own_cap hown'
  have hrd := Rd.own hown'
  obtain ⟨b, off, hao, hcl⟩ := hrd (by simp)
  subst hao
  have hbge : w.heap.size + 1 ≤ b := (hown'.lt b rfl).1
  have k0 := hcl 0 (by simp)
  have k1 := hcl 1 (by simp)
  rw [G0.out] at k0
  rw [G1.out] at k1
  rw [Nat.add_zero] at k0
  have hne : w.heap.size ≠ b := by omega
  have hlt : b < w2.heap.size := World.block_lt_of_cell? w2 ⟨b, off, none⟩ k0
  have r0 : w2.cell? ⟨w.heap.size, 0, none⟩ = some (.int .u64 0) := (hb2.cell (by simp)).trans (by simp [go_sem])
  have r1 : w2.cell? ⟨w.heap.size, 1, none⟩ = some (.int .u64 0) := (hb2.cell (by simp)).trans (by simp [go_sem])
  have z0 : w2.frozen? ⟨w.heap.size, 0, none⟩ = false := (hb2.frozen (by simp)).trans (by simp [go_sem])
  have z1 : w2.frozen? ⟨w.heap.size, 1, none⟩ = false := (hb2.frozen (by simp)).trans (by simp [go_sem])
  clear hown' hgrow hrd hcl ho1 hb1 hb2 hc1 hf1 b1 hz
  generalize (L a).length = m at *
  have m1 : (1 : Int) < (m : Int) + 2 := by omega
  have m0 : (0 : Int) < (m : Int) + 2 := by omega
  go_wp2_with fail
  go_region_held3 (fun v => v.cell? ⟨b, off, none⟩ = some (.int .u64 (l : Int)) ∧ v.cell? ⟨b, off + 1, none⟩ = some (.int .u64 (h : Int))) (go_keep) (fail)
  go_wp2_with fail
  exact bodyPost_ret (v := .agg #[.int .u64 (h : Int), .int .u64 (l : Int)]) (by simp [results, Try.results69, go_sem, r0, r1]) rfl ⟨rfl, ((b2.setCell (p := ⟨w.heap.size, 0, none⟩) (Nat.le_refl _) _).setCell (p := ⟨w.heap.size, 1, none⟩) (Nat.le_refl _) _).drew⟩

end Go.Proofs.Ytehplfmnipadmac



namespace Go.Proofs.Ytehplfmnipadmac
open Go.RowKit
set_option linter.unusedVariables false
set_option maxRecDepth 100000

theorem ten_bits (m : Nat) : 10 ^ m < 2 ^ (4 * m + 1) := Nat.lt_of_le_of_lt (pow16 m) (Nat.pow_lt_pow_right (by omega) (by omega))
theorem ten_bits2 (m s : Nat) : 10 ^ m * 2 ^ s < 2 ^ (4 * m + 1 + s) := by
  rw [Nat.pow_add 2 (4 * m + 1) s]; exact Nat.mul_lt_mul_of_pos_right (ten_bits m) (Nat.pow_pos (by omega))

set_option maxHeartbeats 2000000 in
theorem specTenPower_out (k W : Int) (w : World) (h : ¬ (-5200 ≤ k ∧ k ≤ 5200 ∧ 1 ≤ W ∧ W ≤ 128)) :
    Calls Try.prog 26 #[.int .i64 k, .int .i64 W] w fun e w' => e = .returned (.agg #[.int .i64 0, .int .i64 0, .int .u64 0, .int .u64 0, .int .i64 0, .bool false, .bool false]) ∧ Below w.heap.size w w' := by
  by_cases h1 : 5200 < k
  · go_enter Try.func26, Try.ntmps26
    go_wp2_with fail
    exact bodyPost_ret (v := .agg #[.int .i64 0, .int .i64 0, .int .u64 0, .int .u64 0, .int .i64 0, .bool false, .bool false]) (by simp [results, Try.results26, go_sem]) rfl ⟨rfl, (Below.refl _ _).alloc (Nat.le_refl _) _⟩
  · by_cases h2 : k < -5200
    · go_enter Try.func26, Try.ntmps26
      go_wp2_with fail
      exact bodyPost_ret (v := .agg #[.int .i64 0, .int .i64 0, .int .u64 0, .int .u64 0, .int .i64 0, .bool false, .bool false]) (by simp [results, Try.results26, go_sem]) rfl ⟨rfl, (Below.refl _ _).alloc (Nat.le_refl _) _⟩
    · by_cases h3 : W < 1
      · go_enter Try.func26, Try.ntmps26
        go_wp2_with fail
        exact bodyPost_ret (v := .agg #[.int .i64 0, .int .i64 0, .int .u64 0, .int .u64 0, .int .i64 0, .bool false, .bool false]) (by simp [results, Try.results26, go_sem]) rfl ⟨rfl, (Below.refl _ _).alloc (Nat.le_refl _) _⟩
      · have h4 : 128 < W := by omega
        go_enter Try.func26, Try.ntmps26
        go_wp2_with fail
        exact bodyPost_ret (v := .agg #[.int .i64 0, .int .i64 0, .int .u64 0, .int .u64 0, .int .i64 0, .bool false, .bool false]) (by simp [results, Try.results26, go_sem]) rfl ⟨rfl, (Below.refl _ _).alloc (Nat.le_refl _) _⟩

set_option maxRecDepth 10000 in
set_option maxHeartbeats 4000000 in
theorem specTP_pp (m s : Nat) (W b : Int) (w : World) (hm : m ≤ 5200) (hW1 : 1 ≤ W) (hW2 : W ≤ 128) (hb1 : -30000 ≤ b) (hb2 : b ≤ 30000) (hE : b - W + 1 = (s : Int)) (hs : s ≤ 40000) 
    (hQ : 10 ^ m / (2 ^ s) < 2 ^ 128) (kB : ∀ v : World, Calls Try.prog 67 #[.int .i64 (m : Int)] v fun e v' => e = .returned (.int .i64 b) ∧ Below v.heap.size v v') :
    Calls Try.prog 26 #[.int .i64 (m : Int), .int .i64 W] w fun e w' => e = .returned (pwv (m : Int) W (10 ^ m / (2 ^ s)) ((s : Int)) (decide (10 ^ m % (2 ^ s) = 0)) true) ∧ Below w.heap.size w w' := by
  have hs9 : s ≤ 100000 := by omega
  have dT : (D (10 ^ m)).length ≤ 2400 := D_len_bits _ _ _ (ten_bits m) (by omega)
  have d1 : (D 1).length ≤ 2400 := D_len_bits 1 1 _ (by omega) (by omega)
  have dN : (D (10 ^ m)).length ≤ 2400 := dT
  have dD : (D (2 ^ s)).length ≤ 2400 := D_len_bits _ (s + 1) _ (Nat.pow_lt_pow_right (by omega) (by omega)) (by omega)
  have hP : 0 < 2 ^ s := Nat.pow_pos (by omega)
  have g1 : ¬ (5200 : Int) < (m : Int) := by omega
  have g2 : ¬ (m : Int) < -5200 := by omega
  have g3 : ¬ W < 1 := by omega
  have g4 : ¬ 128 < W := by omega
  have w1 : IntKind.i64.wrap (b - W) = b - W := by rw [IntKind.wrap_i64]; omega
  have w2 : IntKind.i64.wrap (b - W + 1) = b - W + 1 := by rw [IntKind.wrap_i64]; omega
  have hz := D_zero_eq (10 ^ m % (2 ^ s))
  have kD := fun (v : World) (a b : Option Addr) (c d : Nat) (hc : (D (10 ^ m)).length ≤ c) (ra : Rd v a (D (10 ^ m))) (rb : Rd v b (D (2 ^ s))) => l1Div_any a b _ _ c d (10 ^ m) (2 ^ s) v rfl rfl hP dN dD hc ra rb
  have kW := fun (v : World) (ao : Option Addr) (c : Nat) (r : Rd v ao (D (10 ^ m / (2 ^ s)))) => l2Word_any ao _ c (10 ^ m / (2 ^ s)) v rfl hQ r
  clear hQ hP dN dD
  generalize 10 ^ m / (2 ^ s) = Q at *
  generalize 10 ^ m % (2 ^ s) = R at *
  generalize decide (R = 0) = ex at *
  unfold pwv
  have zR := Z7_new w
  have b0 : Below w.heap.size w (w.alloc (.cells #[.int .i64 0, .int .i64 0, .int .u64 0, .int .u64 0, .int .i64 0, .bool false, .bool false] 58)) := (Below.refl _ _).alloc (Nat.le_refl _) _
  generalize hw0 : (w.alloc (.cells #[.int .i64 0, .int .i64 0, .int .u64 0, .int .u64 0, .int .i64 0, .bool false, .bool false] 58)) = v0 at *
  go_enter Try.func26, Try.ntmps26
  go_wp2_with fail
  refine (kB _).mono ?_
  rintro e v1 ⟨rfl, hb1'⟩
  have B1 : Below v0.heap.size v0 v1 := hb1'
  clear hw0 hb1'
  have e3 : b - W + 1 = (s : Int) := hE
  go_wp2_with fail
  refine (l1Of_any 1 _ (by omega)).mono ?_
  rintro e v2 ⟨n1, c1, rfl, on1, hb2'⟩
  have B2 := keepC1 B1 hb2'
  clear B1 hb2'
  go_wp2_with fail
  refine (l1Of_any 1 _ (by omega)).mono ?_
  rintro e v3 ⟨n2, c2, rfl, on2, hb3⟩
  replace on1 := own_below on1 hb3
  have B3 := keepC1 B2 hb3
  clear B2 hb3
  have g5 : (0 : Int) ≤ (m : Int) := by omega
  go_wp2_with fail
  refine (l1Ten_any m _ hm).mono ?_
  rintro e v4 ⟨n3, c3, rfl, on3, hb4⟩
  replace on1 := own_below on1 hb4
  replace on2 := own_below on2 hb4
  have B4 := keepC1 B3 hb4
  clear B3 hb4
  have g6 : (0 : Int) ≤ (s : Int) := by omega
  have g7 : (0 : Int) ≤ b - W + 1 := by omega
  go_wp2_with fail
  try rw [hE]
  refine (l1Left_any n2 _ c2 s (1) _ rfl (Nat.le_trans d1 (by decide)) hs9 (Rd.own on2)).mono ?_
  rw [Nat.one_mul]
  rintro e v5 ⟨n4, c4, rfl, on4, hb5⟩
  replace on1 := own_below on1 hb5
  replace on2 := own_below on2 hb5
  replace on3 := own_below on3 hb5
  have B5 := keepC1 B4 hb5
  clear B4 hb5
  have hcn := own_cap on3
  have rN := Rd.own on3
  have rD := Rd.own on4
  clear on1 on2 on3 on4 dT d1
  go_wp2_with fail
  refine (kD v5 n3 n4 c3 c4 hcn rN rD).mono ?_
  rintro e v6 ⟨n5, c5, n6, c6, rfl, r5, r6, hb6⟩
  have B6 := keepC1 B5 hb6
  clear B5 hb6 kD r6 rN rD hcn
  go_wp2_with fail
  refine (kW v6 n5 c5 r5).mono ?_
  rintro e v7 ⟨rfl, hb7⟩
  have B7 := keepC1 B6 hb7
  clear B6 hb7 kW r5
  obtain ⟨o0, o1, o2, o3, o4, o5, o6, p0, p1, p2, p3, p4, p5, p6, pl⟩ := zR.below B7
  have BB := (far7 v7 w.heap.size (.int .i64 (m : Int)) (.int .i64 W) (.int .u64 (M.hiN Q : Int)) (.int .u64 (M.loN Q : Int)) (.int .i64 ((s : Int))) (.bool ex) (.bool true)).2.2.2 w.heap.size w (b0.trans (B7.mono b0.size)) (Nat.le_refl _)
  obtain ⟨a0, a1, a2, a3, a4, a5, a6⟩ := set7_cells (zR.below B7) (.int .i64 (m : Int)) (.int .i64 W) (.int .u64 (M.hiN Q : Int)) (.int .u64 (M.loN Q : Int)) (.int .i64 ((s : Int))) (.bool ex) (.bool true)
  have HA := hid (And.intro a0 (And.intro a1 (And.intro a2 (And.intro a3 (And.intro a4 (And.intro a5 a6))))))
  have HB := hid BB
  clear a0 a1 a2 a3 a4 a5 a6 BB B7 zR
  go_wp2_with fail
  obtain ⟨a0, a1, a2, a3, a4, a5, a6⟩ := HA.out
  have BB := HB.out
  clear HA HB
  try rw [hE]
  generalize (((((((v7.setCell ⟨w.heap.size, 0, none⟩ (.int .i64 (m : Int))).setCell ⟨w.heap.size, 1, none⟩ (.int .i64 W)).setCell ⟨w.heap.size, 2, none⟩ (.int .u64 (M.hiN Q : Int))).setCell ⟨w.heap.size, 3, none⟩ (.int .u64 (M.loN Q : Int))).setCell ⟨w.heap.size, 4, none⟩ (.int .i64 ((s : Int)))).setCell ⟨w.heap.size, 5, none⟩ (.bool ex)).setCell ⟨w.heap.size, 6, none⟩ (.bool true)) = Y at *
  exact bodyPost_ret (v := .agg #[.int .i64 (m : Int), .int .i64 W, .int .u64 (M.hiN Q : Int), .int .u64 (M.loN Q : Int), .int .i64 ((s : Int)), .bool ex, .bool true]) (by simp [results, Try.results26, go_sem, a0, a1, a2, a3, a4, a5, a6]) rfl ⟨rfl, BB⟩

set_option maxRecDepth 10000 in
set_option maxHeartbeats 4000000 in
theorem specTP_pn (m s : Nat) (W b : Int) (w : World) (hm : m ≤ 5200) (hW1 : 1 ≤ W) (hW2 : W ≤ 128) (hb1 : -30000 ≤ b) (hb2 : b ≤ 30000) (hE : b - W + 1 = -(s : Int)) (hs : s ≤ 40000) (hs0 : 0 < s) 
    (hQ : 10 ^ m * 2 ^ s / (1) < 2 ^ 128) (kB : ∀ v : World, Calls Try.prog 67 #[.int .i64 (m : Int)] v fun e v' => e = .returned (.int .i64 b) ∧ Below v.heap.size v v') :
    Calls Try.prog 26 #[.int .i64 (m : Int), .int .i64 W] w fun e w' => e = .returned (pwv (m : Int) W (10 ^ m * 2 ^ s / (1)) (-(s : Int)) (decide (10 ^ m * 2 ^ s % (1) = 0)) true) ∧ Below w.heap.size w w' := by
  have hs9 : s ≤ 100000 := by omega
  have dT : (D (10 ^ m)).length ≤ 2400 := D_len_bits _ _ _ (ten_bits m) (by omega)
  have d1 : (D 1).length ≤ 2400 := D_len_bits 1 1 _ (by omega) (by omega)
  have dN : (D (10 ^ m * 2 ^ s)).length ≤ 2400 := D_len_bits _ _ _ (ten_bits2 m s) (by omega)
  have dD : (D (1)).length ≤ 2400 := d1
  have hP : 0 < 1 := by omega
  have g1 : ¬ (5200 : Int) < (m : Int) := by omega
  have g2 : ¬ (m : Int) < -5200 := by omega
  have g3 : ¬ W < 1 := by omega
  have g4 : ¬ 128 < W := by omega
  have w1 : IntKind.i64.wrap (b - W) = b - W := by rw [IntKind.wrap_i64]; omega
  have w2 : IntKind.i64.wrap (b - W + 1) = b - W + 1 := by rw [IntKind.wrap_i64]; omega
  have hz := D_zero_eq (10 ^ m * 2 ^ s % (1))
  have kD := fun (v : World) (a b : Option Addr) (c d : Nat) (hc : (D (10 ^ m * 2 ^ s)).length ≤ c) (ra : Rd v a (D (10 ^ m * 2 ^ s))) (rb : Rd v b (D (1))) => l1Div_any a b _ _ c d (10 ^ m * 2 ^ s) (1) v rfl rfl hP dN dD hc ra rb
  have kW := fun (v : World) (ao : Option Addr) (c : Nat) (r : Rd v ao (D (10 ^ m * 2 ^ s / (1)))) => l2Word_any ao _ c (10 ^ m * 2 ^ s / (1)) v rfl hQ r
  clear hQ hP dN dD
  generalize 10 ^ m * 2 ^ s / (1) = Q at *
  generalize 10 ^ m * 2 ^ s % (1) = R at *
  generalize decide (R = 0) = ex at *
  unfold pwv
  have zR := Z7_new w
  have b0 : Below w.heap.size w (w.alloc (.cells #[.int .i64 0, .int .i64 0, .int .u64 0, .int .u64 0, .int .i64 0, .bool false, .bool false] 58)) := (Below.refl _ _).alloc (Nat.le_refl _) _
  generalize hw0 : (w.alloc (.cells #[.int .i64 0, .int .i64 0, .int .u64 0, .int .u64 0, .int .i64 0, .bool false, .bool false] 58)) = v0 at *
  go_enter Try.func26, Try.ntmps26
  go_wp2_with fail
  refine (kB _).mono ?_
  rintro e v1 ⟨rfl, hb1'⟩
  have B1 : Below v0.heap.size v0 v1 := hb1'
  clear hw0 hb1'
  have e3 : b - W + 1 = -(s : Int) := hE
  go_wp2_with fail
  refine (l1Of_any 1 _ (by omega)).mono ?_
  rintro e v2 ⟨n1, c1, rfl, on1, hb2'⟩
  have B2 := keepC1 B1 hb2'
  clear B1 hb2'
  go_wp2_with fail
  refine (l1Of_any 1 _ (by omega)).mono ?_
  rintro e v3 ⟨n2, c2, rfl, on2, hb3⟩
  replace on1 := own_below on1 hb3
  have B3 := keepC1 B2 hb3
  clear B2 hb3
  have g5 : (0 : Int) ≤ (m : Int) := by omega
  go_wp2_with fail
  refine (l1Ten_any m _ hm).mono ?_
  rintro e v4 ⟨n3, c3, rfl, on3, hb4⟩
  replace on1 := own_below on1 hb4
  replace on2 := own_below on2 hb4
  have B4 := keepC1 B3 hb4
  clear B3 hb4
  have g6 : ¬ (0 : Int) ≤ -(s : Int) := by omega
  have g7 : ¬ (0 : Int) ≤ b - W + 1 := by omega
  go_wp2_with fail
  try rw [show - -(s : Int) = (s : Int) by omega]
  try rw [show -(b - W + 1) = (s : Int) by omega]
  refine (l1Left_any n3 _ c3 s (10 ^ m) _ rfl (Nat.le_trans dT (by decide)) hs9 (Rd.own on3)).mono ?_
  skip
  rintro e v5 ⟨n4, c4, rfl, on4, hb5⟩
  replace on1 := own_below on1 hb5
  replace on2 := own_below on2 hb5
  replace on3 := own_below on3 hb5
  have B5 := keepC1 B4 hb5
  clear B4 hb5
  have hcn := own_cap on4
  have rN := Rd.own on4
  have rD := Rd.own on2
  clear on1 on2 on3 on4 dT d1
  go_wp2_with fail
  refine (kD v5 n4 n2 c4 c2 hcn rN rD).mono ?_
  rintro e v6 ⟨n5, c5, n6, c6, rfl, r5, r6, hb6⟩
  have B6 := keepC1 B5 hb6
  clear B5 hb6 kD r6 rN rD hcn
  go_wp2_with fail
  refine (kW v6 n5 c5 r5).mono ?_
  rintro e v7 ⟨rfl, hb7⟩
  have B7 := keepC1 B6 hb7
  clear B6 hb7 kW r5
  obtain ⟨o0, o1, o2, o3, o4, o5, o6, p0, p1, p2, p3, p4, p5, p6, pl⟩ := zR.below B7
  have BB := (far7 v7 w.heap.size (.int .i64 (m : Int)) (.int .i64 W) (.int .u64 (M.hiN Q : Int)) (.int .u64 (M.loN Q : Int)) (.int .i64 (-(s : Int))) (.bool ex) (.bool true)).2.2.2 w.heap.size w (b0.trans (B7.mono b0.size)) (Nat.le_refl _)
  obtain ⟨a0, a1, a2, a3, a4, a5, a6⟩ := set7_cells (zR.below B7) (.int .i64 (m : Int)) (.int .i64 W) (.int .u64 (M.hiN Q : Int)) (.int .u64 (M.loN Q : Int)) (.int .i64 (-(s : Int))) (.bool ex) (.bool true)
  have HA := hid (And.intro a0 (And.intro a1 (And.intro a2 (And.intro a3 (And.intro a4 (And.intro a5 a6))))))
  have HB := hid BB
  clear a0 a1 a2 a3 a4 a5 a6 BB B7 zR
  go_wp2_with fail
  obtain ⟨a0, a1, a2, a3, a4, a5, a6⟩ := HA.out
  have BB := HB.out
  clear HA HB
  try rw [hE]
  generalize (((((((v7.setCell ⟨w.heap.size, 0, none⟩ (.int .i64 (m : Int))).setCell ⟨w.heap.size, 1, none⟩ (.int .i64 W)).setCell ⟨w.heap.size, 2, none⟩ (.int .u64 (M.hiN Q : Int))).setCell ⟨w.heap.size, 3, none⟩ (.int .u64 (M.loN Q : Int))).setCell ⟨w.heap.size, 4, none⟩ (.int .i64 (-(s : Int)))).setCell ⟨w.heap.size, 5, none⟩ (.bool ex)).setCell ⟨w.heap.size, 6, none⟩ (.bool true)) = Y at *
  exact bodyPost_ret (v := .agg #[.int .i64 (m : Int), .int .i64 W, .int .u64 (M.hiN Q : Int), .int .u64 (M.loN Q : Int), .int .i64 (-(s : Int)), .bool ex, .bool true]) (by simp [results, Try.results26, go_sem, a0, a1, a2, a3, a4, a5, a6]) rfl ⟨rfl, BB⟩

set_option maxRecDepth 10000 in
set_option maxHeartbeats 4000000 in
theorem specTP_nn (m s : Nat) (W b : Int) (w : World) (hm : m ≤ 5200) (h0 : 0 < m) (hW1 : 1 ≤ W) (hW2 : W ≤ 128) (hb1 : -30000 ≤ b) (hb2 : b ≤ 30000) (hE : b - W + 1 = -(s : Int)) (hs : s ≤ 40000) (hs0 : 0 < s) 
    (hQ : 2 ^ s / (10 ^ m) < 2 ^ 128) (kB : ∀ v : World, Calls Try.prog 67 #[.int .i64 (-(m : Int))] v fun e v' => e = .returned (.int .i64 b) ∧ Below v.heap.size v v') :
    Calls Try.prog 26 #[.int .i64 (-(m : Int)), .int .i64 W] w fun e w' => e = .returned (pwv (-(m : Int)) W (2 ^ s / (10 ^ m)) (-(s : Int)) (decide (2 ^ s % (10 ^ m) = 0)) true) ∧ Below w.heap.size w w' := by
  have hs9 : s ≤ 100000 := by omega
  have dT : (D (10 ^ m)).length ≤ 2400 := D_len_bits _ _ _ (ten_bits m) (by omega)
  have d1 : (D 1).length ≤ 2400 := D_len_bits 1 1 _ (by omega) (by omega)
  have dN : (D (2 ^ s)).length ≤ 2400 := D_len_bits _ (s + 1) _ (Nat.pow_lt_pow_right (by omega) (by omega)) (by omega)
  have dD : (D (10 ^ m)).length ≤ 2400 := dT
  have hP : 0 < 10 ^ m := Nat.pow_pos (by omega)
  have g1 : ¬ (5200 : Int) < (-(m : Int)) := by omega
  have g2 : ¬ (-(m : Int)) < -5200 := by omega
  have g3 : ¬ W < 1 := by omega
  have g4 : ¬ 128 < W := by omega
  have w1 : IntKind.i64.wrap (b - W) = b - W := by rw [IntKind.wrap_i64]; omega
  have w2 : IntKind.i64.wrap (b - W + 1) = b - W + 1 := by rw [IntKind.wrap_i64]; omega
  have hz := D_zero_eq (2 ^ s % (10 ^ m))
  have kD := fun (v : World) (a b : Option Addr) (c d : Nat) (hc : (D (2 ^ s)).length ≤ c) (ra : Rd v a (D (2 ^ s))) (rb : Rd v b (D (10 ^ m))) => l1Div_any a b _ _ c d (2 ^ s) (10 ^ m) v rfl rfl hP dN dD hc ra rb
  have kW := fun (v : World) (ao : Option Addr) (c : Nat) (r : Rd v ao (D (2 ^ s / (10 ^ m)))) => l2Word_any ao _ c (2 ^ s / (10 ^ m)) v rfl hQ r
  clear hQ hP dN dD
  generalize 2 ^ s / (10 ^ m) = Q at *
  generalize 2 ^ s % (10 ^ m) = R at *
  generalize decide (R = 0) = ex at *
  unfold pwv
  have zR := Z7_new w
  have b0 : Below w.heap.size w (w.alloc (.cells #[.int .i64 0, .int .i64 0, .int .u64 0, .int .u64 0, .int .i64 0, .bool false, .bool false] 58)) := (Below.refl _ _).alloc (Nat.le_refl _) _
  generalize hw0 : (w.alloc (.cells #[.int .i64 0, .int .i64 0, .int .u64 0, .int .u64 0, .int .i64 0, .bool false, .bool false] 58)) = v0 at *
  go_enter Try.func26, Try.ntmps26
  go_wp2_with fail
  refine (kB _).mono ?_
  rintro e v1 ⟨rfl, hb1'⟩
  have B1 : Below v0.heap.size v0 v1 := hb1'
  clear hw0 hb1'
  have e3 : b - W + 1 = -(s : Int) := hE
  go_wp2_with fail
  refine (l1Of_any 1 _ (by omega)).mono ?_
  rintro e v2 ⟨n1, c1, rfl, on1, hb2'⟩
  have B2 := keepC1 B1 hb2'
  clear B1 hb2'
  go_wp2_with fail
  refine (l1Of_any 1 _ (by omega)).mono ?_
  rintro e v3 ⟨n2, c2, rfl, on2, hb3⟩
  replace on1 := own_below on1 hb3
  have B3 := keepC1 B2 hb3
  clear B2 hb3
  have g5 : ¬ (0 : Int) ≤ -(m : Int) := by omega
  go_wp2_with fail
  try rw [show - -(m : Int) = (m : Int) by omega]
  refine (l1Ten_any m _ hm).mono ?_
  rintro e v4 ⟨n3, c3, rfl, on3, hb4⟩
  replace on1 := own_below on1 hb4
  replace on2 := own_below on2 hb4
  have B4 := keepC1 B3 hb4
  clear B3 hb4
  have g6 : ¬ (0 : Int) ≤ -(s : Int) := by omega
  have g7 : ¬ (0 : Int) ≤ b - W + 1 := by omega
  go_wp2_with fail
  try rw [show - -(s : Int) = (s : Int) by omega]
  try rw [show -(b - W + 1) = (s : Int) by omega]
  refine (l1Left_any n1 _ c1 s (1) _ rfl (Nat.le_trans d1 (by decide)) hs9 (Rd.own on1)).mono ?_
  rw [Nat.one_mul]
  rintro e v5 ⟨n4, c4, rfl, on4, hb5⟩
  replace on1 := own_below on1 hb5
  replace on2 := own_below on2 hb5
  replace on3 := own_below on3 hb5
  have B5 := keepC1 B4 hb5
  clear B4 hb5
  have hcn := own_cap on4
  have rN := Rd.own on4
  have rD := Rd.own on3
  clear on1 on2 on3 on4 dT d1
  go_wp2_with fail
  refine (kD v5 n4 n3 c4 c3 hcn rN rD).mono ?_
  rintro e v6 ⟨n5, c5, n6, c6, rfl, r5, r6, hb6⟩
  have B6 := keepC1 B5 hb6
  clear B5 hb6 kD r6 rN rD hcn
  go_wp2_with fail
  refine (kW v6 n5 c5 r5).mono ?_
  rintro e v7 ⟨rfl, hb7⟩
  have B7 := keepC1 B6 hb7
  clear B6 hb7 kW r5
  obtain ⟨o0, o1, o2, o3, o4, o5, o6, p0, p1, p2, p3, p4, p5, p6, pl⟩ := zR.below B7
  have BB := (far7 v7 w.heap.size (.int .i64 (-(m : Int))) (.int .i64 W) (.int .u64 (M.hiN Q : Int)) (.int .u64 (M.loN Q : Int)) (.int .i64 (-(s : Int))) (.bool ex) (.bool true)).2.2.2 w.heap.size w (b0.trans (B7.mono b0.size)) (Nat.le_refl _)
  obtain ⟨a0, a1, a2, a3, a4, a5, a6⟩ := set7_cells (zR.below B7) (.int .i64 (-(m : Int))) (.int .i64 W) (.int .u64 (M.hiN Q : Int)) (.int .u64 (M.loN Q : Int)) (.int .i64 (-(s : Int))) (.bool ex) (.bool true)
  have HA := hid (And.intro a0 (And.intro a1 (And.intro a2 (And.intro a3 (And.intro a4 (And.intro a5 a6))))))
  have HB := hid BB
  clear a0 a1 a2 a3 a4 a5 a6 BB B7 zR
  go_wp2_with fail
  obtain ⟨a0, a1, a2, a3, a4, a5, a6⟩ := HA.out
  have BB := HB.out
  clear HA HB
  try rw [hE]
  generalize (((((((v7.setCell ⟨w.heap.size, 0, none⟩ (.int .i64 (-(m : Int)))).setCell ⟨w.heap.size, 1, none⟩ (.int .i64 W)).setCell ⟨w.heap.size, 2, none⟩ (.int .u64 (M.hiN Q : Int))).setCell ⟨w.heap.size, 3, none⟩ (.int .u64 (M.loN Q : Int))).setCell ⟨w.heap.size, 4, none⟩ (.int .i64 (-(s : Int)))).setCell ⟨w.heap.size, 5, none⟩ (.bool ex)).setCell ⟨w.heap.size, 6, none⟩ (.bool true)) = Y at *
  exact bodyPost_ret (v := .agg #[.int .i64 (-(m : Int)), .int .i64 W, .int .u64 (M.hiN Q : Int), .int .u64 (M.loN Q : Int), .int .i64 (-(s : Int)), .bool ex, .bool true]) (by simp [results, Try.results26, go_sem, a0, a1, a2, a3, a4, a5, a6]) rfl ⟨rfl, BB⟩

end Go.Proofs.Ytehplfmnipadmac

namespace Go.Proofs.Ytehplfmnipadmac
open Go.RowKit
set_option linter.unusedVariables false
set_option maxRecDepth 100000

theorem specTenPower_any (k W : Int) (w : World) :
    Calls Try.prog 26 #[.int .i64 k, .int .i64 W] w fun e w' => e = .returned (tpv k W) ∧ Below w.heap.size w w' := by
  by_cases h : -5200 ≤ k ∧ k ≤ 5200 ∧ 1 ≤ W ∧ W ≤ 128
  · have ht : tpv k W = pwv k W (tX k W / tY k W) (tExp k W) (decide (tX k W % tY k W = 0)) true := by unfold tpv; rw [if_pos h]
    rw [ht]
    have hq := top_lt k W h
    have hb := tb_bound k ⟨h.1, h.2.1⟩
    have hE : tExp k W = tb k - W + 1 := rfl
    rcases Int.lt_or_le k 0 with h0 | h0
    · obtain ⟨m, rfl⟩ : ∃ m : Nat, k = -(m : Int) := ⟨(-k).toNat, by omega⟩
      have hm : 0 < m := by omega
      have hbp := blen_pos (10 ^ m) (Nat.pow_pos (by omega))
      have htb := tb_neg m (by omega) hm
      obtain ⟨s, hs⟩ : ∃ s : Nat, tExp (-(m : Int)) W = -(s : Int) := ⟨(-(tExp (-(m : Int)) W)).toNat, by rw [hE, htb]; omega⟩
      have hs0 : 0 < s := by rw [hE, htb] at hs; omega
      have eX : tX (-(m : Int)) W = 2 ^ s := by unfold tX; rw [hs, tNum_neg, show (- -(s : Int)).toNat = s by omega, Nat.one_mul]
      have eY : tY (-(m : Int)) W = 10 ^ m := by unfold tY; rw [hs, tDen_neg, show (-(s : Int)).toNat = 0 by omega, Nat.pow_zero, Nat.mul_one]
      rw [eX, eY] at hq ⊢
      rw [hs]
      rw [hE] at hs
      exact specTP_nn m s W (tb (-(m : Int))) w (by omega) hm (by omega) (by omega) (by omega) (by omega) hs (by omega) hs0 hq (fun v => specTenBits_any _ v)
    · obtain ⟨m, rfl⟩ : ∃ m : Nat, k = (m : Int) := ⟨k.toNat, by omega⟩
      rcases Int.lt_or_le (tExp (m : Int) W) 0 with h1 | h1
      · obtain ⟨s, hs⟩ : ∃ s : Nat, tExp (m : Int) W = -(s : Int) := ⟨(-(tExp (m : Int) W)).toNat, by omega⟩
        have hs0 : 0 < s := by omega
        have eX : tX (m : Int) W = 10 ^ m * 2 ^ s := by unfold tX; rw [hs, tNum_pos, show (- -(s : Int)).toNat = s by omega]
        have eY : tY (m : Int) W = 1 := by unfold tY; rw [hs, tDen_pos, show (-(s : Int)).toNat = 0 by omega, Nat.pow_zero]
        rw [eX, eY] at hq ⊢
        rw [hs]
        rw [hE] at hs
        exact specTP_pn m s W (tb (m : Int)) w (by omega) (by omega) (by omega) (by omega) (by omega) hs (by omega) hs0 hq (fun v => specTenBits_any _ v)
      · obtain ⟨s, hs⟩ : ∃ s : Nat, tExp (m : Int) W = (s : Int) := ⟨(tExp (m : Int) W).toNat, by omega⟩
        have eX : tX (m : Int) W = 10 ^ m := by unfold tX; rw [hs, tNum_pos, show (-(s : Int)).toNat = 0 by omega, Nat.pow_zero, Nat.mul_one]
        have eY : tY (m : Int) W = 2 ^ s := by unfold tY; rw [hs, tDen_pos, Int.toNat_natCast, Nat.one_mul]
        rw [eX, eY] at hq ⊢
        rw [hs]
        rw [hE] at hs
        exact specTP_pp m s W (tb (m : Int)) w (by omega) (by omega) (by omega) (by omega) (by omega) hs (by omega) hq (fun v => specTenBits_any _ v)
  · have ht : tpv k W = pwv 0 0 0 0 false false := by unfold tpv; rw [if_neg h]
    rw [ht]
    exact specTenPower_out k W w h

set_option maxHeartbeats 400000 in
theorem eqWord_same2 (a b : Int) (w : World) :
    Calls Try.prog 72 #[.agg #[.int .u64 a, .int .u64 b], .agg #[.int .u64 a, .int .u64 b]] w fun r w' => r = .returned (.bool true) ∧ Below w.heap.size w w' := by
  go_enter Try.func72, Try.ntmps72
  go_wp2_with fail
  go_ret
  exact ⟨rfl, ((Below.refl _ _).alloc (Nat.le_refl _) _).alloc (by simp) _⟩

set_option maxHeartbeats 1000000 in
theorem eqPower_same (a b h l E : Int) (x y : Bool) (w : World) :
    Calls Try.prog 28 #[.agg #[.int .i64 a, .int .i64 b, .int .u64 h, .int .u64 l, .int .i64 E, .bool x, .bool y], .agg #[.int .i64 a, .int .i64 b, .int .u64 h, .int .u64 l, .int .i64 E, .bool x, .bool y]] w fun r w' => r = .returned (.bool true) ∧ Below w.heap.size w w' := by
  have b0 := ((Below.refl w.heap.size w).alloc (Nat.le_refl _) (.cells #[.int .i64 a, .int .i64 b, .int .u64 h, .int .u64 l, .int .i64 E, .bool x, .bool y] 58)).alloc (by simp) (.cells #[.int .i64 a, .int .i64 b, .int .u64 h, .int .u64 l, .int .i64 E, .bool x, .bool y] 58)
  go_enter Try.func28, Try.ntmps28
  go_wp2_with fail
  refine (eqWord_same2 h l _).mono ?_
  rintro e v1 ⟨rfl, hb1⟩
  have c4 : v1.cell? ⟨w.heap.size, 4, none⟩ = some (.int .i64 E) := (hb1.cell (by simp <;> omega)).trans (by simp [go_sem])
  have d4 : v1.cell? ⟨w.heap.size + 1, 4, none⟩ = some (.int .i64 E) := (hb1.cell (by simp <;> omega)).trans (by simp [go_sem])
  have c5 : v1.cell? ⟨w.heap.size, 5, none⟩ = some (.bool x) := (hb1.cell (by simp <;> omega)).trans (by simp [go_sem])
  have d5 : v1.cell? ⟨w.heap.size + 1, 5, none⟩ = some (.bool x) := (hb1.cell (by simp <;> omega)).trans (by simp [go_sem])
  have c6 : v1.cell? ⟨w.heap.size, 6, none⟩ = some (.bool y) := (hb1.cell (by simp <;> omega)).trans (by simp [go_sem])
  have d6 : v1.cell? ⟨w.heap.size + 1, 6, none⟩ = some (.bool y) := (hb1.cell (by simp <;> omega)).trans (by simp [go_sem])
  have b1 := b0.trans (hb1.mono b0.size)
  clear hb1 b0
  have hx : (x != x) = false := by simp
  have hy : (y != y) = false := by simp
  go_wp2_with fail
  go_ret
  exact ⟨rfl, b1⟩

set_option maxRecDepth 10000 in
set_option maxHeartbeats 2000000 in
theorem lawTenPower (k W : Int) (w : World) (w0 : (Lit.int .i64 k).wf = true) (w1 : (Lit.int .i64 W).wf = true) :
    Calls Try.prog 7 #[.int .i64 k, .int .i64 W] w fun e w' => e = .returned (.bool true) ∧ Below w.heap.size w w' := by
  have k1 := fun v : World => specTenPower_any k W v
  have k2 := fun v : World => implTenPower_any k W v
  obtain ⟨a, b, T, E, x, y, hv⟩ := tpv_shape k W
  rw [hv] at k1 k2
  clear hv
  unfold pwv at k1 k2
  generalize (M.hiN T : Int) = h at *
  generalize (M.loN T : Int) = l at *
  go_enter Try.func7, Try.ntmps7
  go_wp2_with fail
  refine (k1 _).mono ?_
  rintro e v1 ⟨rfl, hb1⟩
  go_upto_region 2 with fail
  have bn : Below v1.heap.size v1 (v1.alloc (.cells #[.int .i64 a, .int .i64 b, .int .u64 h, .int .u64 l, .int .i64 E, .bool x, .bool y] 58)) := (Below.refl _ _).alloc (Nat.le_refl _) _
  have ln : v1.heap.size < (v1.alloc (.cells #[.int .i64 a, .int .i64 b, .int .u64 h, .int .u64 l, .int .i64 E, .bool x, .bool y] 58)).heap.size := by simp
  have p0 : (v1.alloc (.cells #[.int .i64 a, .int .i64 b, .int .u64 h, .int .u64 l, .int .i64 E, .bool x, .bool y] 58)).cell? ⟨v1.heap.size, 0, none⟩ = some (.int .i64 a) := by simp [go_sem]
  have p1 : (v1.alloc (.cells #[.int .i64 a, .int .i64 b, .int .u64 h, .int .u64 l, .int .i64 E, .bool x, .bool y] 58)).cell? ⟨v1.heap.size, 1, none⟩ = some (.int .i64 b) := by simp [go_sem]
  have p2 : (v1.alloc (.cells #[.int .i64 a, .int .i64 b, .int .u64 h, .int .u64 l, .int .i64 E, .bool x, .bool y] 58)).cell? ⟨v1.heap.size, 2, none⟩ = some (.int .u64 h) := by simp [go_sem]
  have p3 : (v1.alloc (.cells #[.int .i64 a, .int .i64 b, .int .u64 h, .int .u64 l, .int .i64 E, .bool x, .bool y] 58)).cell? ⟨v1.heap.size, 3, none⟩ = some (.int .u64 l) := by simp [go_sem]
  have p4 : (v1.alloc (.cells #[.int .i64 a, .int .i64 b, .int .u64 h, .int .u64 l, .int .i64 E, .bool x, .bool y] 58)).cell? ⟨v1.heap.size, 4, none⟩ = some (.int .i64 E) := by simp [go_sem]
  have p5 : (v1.alloc (.cells #[.int .i64 a, .int .i64 b, .int .u64 h, .int .u64 l, .int .i64 E, .bool x, .bool y] 58)).cell? ⟨v1.heap.size, 5, none⟩ = some (.bool x) := by simp [go_sem]
  have p6 : (v1.alloc (.cells #[.int .i64 a, .int .i64 b, .int .u64 h, .int .u64 l, .int .i64 E, .bool x, .bool y] 58)).cell? ⟨v1.heap.size, 6, none⟩ = some (.bool y) := by simp [go_sem]
  have B1 := keepC1 hb1 bn
  clear hb1 bn
  generalize v1.alloc (.cells #[.int .i64 a, .int .i64 b, .int .u64 h, .int .u64 l, .int .i64 E, .bool x, .bool y] 58) = v2 at *
  generalize v1.heap.size = g at *
  go_wp2_with fail
  refine (k2 _).mono ?_
  rintro e v3 ⟨rfl, hb3⟩
  replace p0 := (hb3.cell (p := ⟨g, 0, none⟩) ln).trans p0
  replace p1 := (hb3.cell (p := ⟨g, 1, none⟩) ln).trans p1
  replace p2 := (hb3.cell (p := ⟨g, 2, none⟩) ln).trans p2
  replace p3 := (hb3.cell (p := ⟨g, 3, none⟩) ln).trans p3
  replace p4 := (hb3.cell (p := ⟨g, 4, none⟩) ln).trans p4
  replace p5 := (hb3.cell (p := ⟨g, 5, none⟩) ln).trans p5
  replace p6 := (hb3.cell (p := ⟨g, 6, none⟩) ln).trans p6
  replace ln : g < v3.heap.size := Nat.lt_of_lt_of_le ln hb3.size
  have B2 := keepC1 B1 hb3
  clear hb3 B1 k1 k2
  have B3 : Below w.heap.size w (v3.alloc (.cells #[.int .i64 a, .int .i64 b, .int .u64 h, .int .u64 l, .int .i64 E, .bool x, .bool y] 58)) := B2.alloc B2.size _
  go_wp2_with fail
  refine (eqPower_same a b h l E x y _).mono ?_
  rintro e v4 ⟨rfl, hb4⟩
  go_wp2_with fail
  go_ret
  exact ⟨rfl, keepC1 B3 hb4⟩

end Go.Proofs.Ytehplfmnipadmac
