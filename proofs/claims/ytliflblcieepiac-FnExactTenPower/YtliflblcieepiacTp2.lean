import Derived.Test.YtliflblcieepiacTp1
namespace Go.Proofs.Ytliflblcieepiac
open Go.RowKit
set_option linter.unusedVariables false
set_option maxRecDepth 100000

/-- A truncated power as a value. -/
def pwv (k w : Int) (T : Nat) (E : Int) (x ok : Bool) : Value := .agg #[.int .i64 k, .int .i64 w, .int .u64 (M.hiN T : Int), .int .u64 (M.loN T : Int), .int .i64 E, .bool x, .bool ok]

theorem L_zero_iff (a : Nat) : (((L a).length : Int) == 0) = decide (a = 0) := by
  rw [Bool.eq_iff_iff]
  simp only [beq_iff_eq, decide_eq_true_eq]
  constructor
  · intro h
    have h1 : L a = [] := List.eq_nil_of_length_eq_zero (by omega)
    have h2 : V (L a) = a := V_L a
    rw [h1] at h2
    simpa [V, M.val] using h2.symm
  · intro h
    subst h
    simp [L, M.dig_zero]

theorem below7 {w v : World} {g : Nat} (h : Below w.heap.size w v) (hg : w.heap.size ≤ g) (a b c d e f i : Value) : Below w.heap.size w (((((((v.setCell ⟨g, 0, none⟩ a).setCell ⟨g, 1, none⟩ b).setCell ⟨g, 2, none⟩ c).setCell ⟨g, 3, none⟩ d).setCell ⟨g, 4, none⟩ e).setCell ⟨g, 5, none⟩ f).setCell ⟨g, 6, none⟩ i) :=
  ((((((h.setCell (p := ⟨g, 0, none⟩) hg a).setCell (p := ⟨g, 1, none⟩) hg b).setCell (p := ⟨g, 2, none⟩) hg c).setCell (p := ⟨g, 3, none⟩) hg d).setCell (p := ⟨g, 4, none⟩) hg e).setCell (p := ⟨g, 5, none⟩) hg f).setCell (p := ⟨g, 6, none⟩) hg i

set_option maxRecDepth 10000 in
set_option maxHeartbeats 2000000 in
theorem trunc_neg (k W b : Int) (N De s : Nat) (w : World) (hW1 : 1 ≤ W) (hW2 : W ≤ 128) (hb1 : -30000 ≤ b) (hb2 : b ≤ 30000) (hE : b - W + 1 = (s : Int))
    (hD : 0 < De) (lN : (L N).length ≤ 1201) (lD : (L De).length ≤ 1201) (hs : s ≤ 90000) (hQ : N * 2 ^ 0 / (De * 2 ^ s) < 2 ^ 128)
    (kT : ∀ v : World, Calls Try.prog 115 #[.int .i64 k] v fun e v' => RR v v' e N De)
    (kH : ∀ (v : World) (a b' : Option Addr) (c d : Nat), Rd v a (L N) → Rd v b' (L De) → Calls Try.prog 116 #[.int .i64 k, .agg #[.slice a (L N).length c, .slice b' (L De).length d]] v fun e v' => e = .returned (.int .i64 b) ∧ Below v.heap.size v v') :
    Calls Try.prog 101 #[.int .i64 k, .int .i64 W] w fun e w' => e = .returned (pwv k W (N * 2 ^ 0 / (De * 2 ^ s)) (b - W + 1) (decide (N * 2 ^ 0 % (De * 2 ^ s) = 0)) true) ∧ Below w.heap.size w w' := by
  have kS := fun (v : World) (a b' : Option Addr) (c d : Nat) (ra : Rd v a (L N)) (rb : Rd v b' (L De)) => timesTwo_neg a b' c d _ _ N De s v rfl rfl (by omega) (by omega) (by omega) ra rb
  have hP : 0 < De * 2 ^ s := Nat.mul_pos hD (Nat.pow_pos (by omega))
  have m1 : (L (N * 2 ^ 0)).length ≤ 1048576 := Nat.le_trans (len_shiftK N 0 1201 1500 lN (by omega)) (by omega)
  have m2 : (L (De * 2 ^ s)).length ≤ 1048576 := Nat.le_trans (len_shiftK De s 1201 1500 lD (by omega)) (by omega)
  obtain ⟨X, hX⟩ : ∃ X, X = N * 2 ^ 0 := ⟨_, rfl⟩
  obtain ⟨Y, hY⟩ : ∃ Y, Y = De * 2 ^ s := ⟨_, rfl⟩
  rw [← hX, ← hY] at hQ ⊢
  rw [← hX] at m1
  rw [← hY] at m2 hP
  simp only [← hX, ← hY] at kS
  clear hX hY
  have kD := fun (v : World) (a b' : Option Addr) (c d : Nat) (ra : Rd v a (L X)) (rb : Rd v b' (L Y)) => rdivMod_any a b' c d _ _ X Y v rfl rfl hP m1 m2 ra rb
  have hz := L_zero_iff (X % Y)
  have kO := fun (v : World) (a : Option Addr) (c : Nat) (ra : Rd v a (L (X / Y))) => wordOf_any a _ c (X / Y) v rfl hQ ra
  generalize X / Y = Q at *
  generalize X % Y = R at *
  generalize decide (R = 0) = ex at *
  unfold pwv
  rw [hE]
  have b0 : Below w.heap.size w (w.alloc (.cells #[.int .i64 0, .int .i64 0, .int .u64 0, .int .u64 0, .int .i64 0, .bool false, .bool false] 58)) := (Below.refl _ _).alloc (Nat.le_refl _) _
  have p0 : (w.alloc (.cells #[.int .i64 0, .int .i64 0, .int .u64 0, .int .u64 0, .int .i64 0, .bool false, .bool false] 58)).cell? ⟨w.heap.size, 0, none⟩ = some (.int .i64 0) := by simp [go_sem]
  have f0 : (w.alloc (.cells #[.int .i64 0, .int .i64 0, .int .u64 0, .int .u64 0, .int .i64 0, .bool false, .bool false] 58)).frozen? ⟨w.heap.size, 0, none⟩ = false := by simp [go_sem]
  have p1 : (w.alloc (.cells #[.int .i64 0, .int .i64 0, .int .u64 0, .int .u64 0, .int .i64 0, .bool false, .bool false] 58)).cell? ⟨w.heap.size, 1, none⟩ = some (.int .i64 0) := by simp [go_sem]
  have f1 : (w.alloc (.cells #[.int .i64 0, .int .i64 0, .int .u64 0, .int .u64 0, .int .i64 0, .bool false, .bool false] 58)).frozen? ⟨w.heap.size, 1, none⟩ = false := by simp [go_sem]
  have p2 : (w.alloc (.cells #[.int .i64 0, .int .i64 0, .int .u64 0, .int .u64 0, .int .i64 0, .bool false, .bool false] 58)).cell? ⟨w.heap.size, 2, none⟩ = some (.int .u64 0) := by simp [go_sem]
  have f2 : (w.alloc (.cells #[.int .i64 0, .int .i64 0, .int .u64 0, .int .u64 0, .int .i64 0, .bool false, .bool false] 58)).frozen? ⟨w.heap.size, 2, none⟩ = false := by simp [go_sem]
  have p3 : (w.alloc (.cells #[.int .i64 0, .int .i64 0, .int .u64 0, .int .u64 0, .int .i64 0, .bool false, .bool false] 58)).cell? ⟨w.heap.size, 3, none⟩ = some (.int .u64 0) := by simp [go_sem]
  have f3 : (w.alloc (.cells #[.int .i64 0, .int .i64 0, .int .u64 0, .int .u64 0, .int .i64 0, .bool false, .bool false] 58)).frozen? ⟨w.heap.size, 3, none⟩ = false := by simp [go_sem]
  have p4 : (w.alloc (.cells #[.int .i64 0, .int .i64 0, .int .u64 0, .int .u64 0, .int .i64 0, .bool false, .bool false] 58)).cell? ⟨w.heap.size, 4, none⟩ = some (.int .i64 0) := by simp [go_sem]
  have f4 : (w.alloc (.cells #[.int .i64 0, .int .i64 0, .int .u64 0, .int .u64 0, .int .i64 0, .bool false, .bool false] 58)).frozen? ⟨w.heap.size, 4, none⟩ = false := by simp [go_sem]
  have p5 : (w.alloc (.cells #[.int .i64 0, .int .i64 0, .int .u64 0, .int .u64 0, .int .i64 0, .bool false, .bool false] 58)).cell? ⟨w.heap.size, 5, none⟩ = some (.bool false) := by simp [go_sem]
  have f5 : (w.alloc (.cells #[.int .i64 0, .int .i64 0, .int .u64 0, .int .u64 0, .int .i64 0, .bool false, .bool false] 58)).frozen? ⟨w.heap.size, 5, none⟩ = false := by simp [go_sem]
  have p6 : (w.alloc (.cells #[.int .i64 0, .int .i64 0, .int .u64 0, .int .u64 0, .int .i64 0, .bool false, .bool false] 58)).cell? ⟨w.heap.size, 6, none⟩ = some (.bool false) := by simp [go_sem]
  have f6 : (w.alloc (.cells #[.int .i64 0, .int .i64 0, .int .u64 0, .int .u64 0, .int .i64 0, .bool false, .bool false] 58)).frozen? ⟨w.heap.size, 6, none⟩ = false := by simp [go_sem]
  have l0 : w.heap.size < (w.alloc (.cells #[.int .i64 0, .int .i64 0, .int .u64 0, .int .u64 0, .int .i64 0, .bool false, .bool false] 58)).heap.size := by simp
  generalize hw0 : (w.alloc (.cells #[.int .i64 0, .int .i64 0, .int .u64 0, .int .u64 0, .int .i64 0, .bool false, .bool false] 58)) = w0 at *
  have HE := hid hE; clear hE
  go_enter Try.func101, Try.ntmps101
  go_wp2_with fail
  refine (kT _).mono ?_
  rintro e v1 ⟨a1, c1, a2, c2, rfl, r1, r2, hb1⟩
  clear hw0
  go_upto_region 2 with fail
  obtain ⟨t0, t1, t2, t3⟩ := two_new v1 182 (.slice a1 (L N).length c1) (.slice a2 (L De).length c2)
  have bn : Below v1.heap.size v1 (v1.alloc (.cells #[.slice a1 (L N).length c1, .slice a2 (L De).length c2] 182)) := (Below.refl _ _).alloc (Nat.le_refl _) _
  have lt : v1.heap.size < (v1.alloc (.cells #[.slice a1 (L N).length c1, .slice a2 (L De).length c2] 182)).heap.size := by simp
  replace r1 := r1.below bn
  replace r2 := r2.below bn
  have B1 := keepC1 hb1 bn
  clear t2 t3 bn hb1
  generalize v1.alloc (.cells #[.slice a1 (L N).length c1, .slice a2 (L De).length c2] 182) = v2 at *
  generalize v1.heap.size = g at *
  go_wp2_with fail
  refine (kH v2 a1 a2 c1 c2 r1 r2).mono ?_
  rintro e v3 ⟨rfl, hb3⟩
  have s1 := (hb3.cell (p := ⟨g, 0, none⟩) lt).trans t0
  have s2 := (hb3.cell (p := ⟨g, 1, none⟩) lt).trans t1
  replace r1 := r1.below hb3
  replace r2 := r2.below hb3
  have B2 := keepC1 B1 hb3
  clear t0 t1 lt hb3 B1
  have w1 : IntKind.i64.wrap (b - W) = b - W := by rw [IntKind.wrap_i64]; omega
  have w2 : IntKind.i64.wrap (b - W + 1) = b - W + 1 := by rw [IntKind.wrap_i64]; omega
  have w3 : IntKind.i64.wrap (-(b - W + 1)) = -(s : Int) := by rw [IntKind.wrap_i64]; have := HE.out; omega
  have w4 : -(b - W + 1) = -(s : Int) := by have := HE.out; omega
  go_wp2_with fail
  try rw [w4]
  refine (kS v3 a1 a2 c1 c2 r1 r2).mono ?_
  rintro e v4 ⟨a3, c3, a4, c4, rfl, r3, r4, hb4⟩
  have B3 := keepC1 B2 hb4
  clear hb4 B2 s1 s2 r1 r2
  go_wp2_with fail
  refine (kD v4 a3 a4 c3 c4 r3 r4).mono ?_
  rintro e v5 ⟨a5, c5, a6, c6, rfl, r5, hb5⟩
  have B4 := keepC1 B3 hb5
  clear hb5 B3 r3 r4
  go_wp2_with fail
  refine (kO v5 a5 c5 r5).mono ?_
  rintro e v6 ⟨rfl, hb6⟩
  have B5 := keepC1 B4 hb6
  clear hb6 B4 r5
  have q0 := (B5.cell (p := ⟨w.heap.size, 0, none⟩) l0).trans p0
  have z0 := (B5.frozen (p := ⟨w.heap.size, 0, none⟩) l0).trans f0
  have q1 := (B5.cell (p := ⟨w.heap.size, 1, none⟩) l0).trans p1
  have z1 := (B5.frozen (p := ⟨w.heap.size, 1, none⟩) l0).trans f1
  have q2 := (B5.cell (p := ⟨w.heap.size, 2, none⟩) l0).trans p2
  have z2 := (B5.frozen (p := ⟨w.heap.size, 2, none⟩) l0).trans f2
  have q3 := (B5.cell (p := ⟨w.heap.size, 3, none⟩) l0).trans p3
  have z3 := (B5.frozen (p := ⟨w.heap.size, 3, none⟩) l0).trans f3
  have q4 := (B5.cell (p := ⟨w.heap.size, 4, none⟩) l0).trans p4
  have z4 := (B5.frozen (p := ⟨w.heap.size, 4, none⟩) l0).trans f4
  have q5 := (B5.cell (p := ⟨w.heap.size, 5, none⟩) l0).trans p5
  have z5 := (B5.frozen (p := ⟨w.heap.size, 5, none⟩) l0).trans f5
  have q6 := (B5.cell (p := ⟨w.heap.size, 6, none⟩) l0).trans p6
  have z6 := (B5.frozen (p := ⟨w.heap.size, 6, none⟩) l0).trans f6
  clear p0 p1 p2 p3 p4 p5 p6 f0 f1 f2 f3 f4 f5 f6
  go_wp2_with fail
  rw [HE.out]
  have BB := b0.trans (B5.mono b0.size)
  exact bodyPost_ret (v := .agg #[.int .i64 k, .int .i64 W, .int .u64 (M.hiN Q : Int), .int .u64 (M.loN Q : Int), .int .i64 ((s : Int)), .bool ex, .bool true]) (by simp [results, Try.results101, go_sem, q0, q1, q2, q3, q4, q5, q6]) rfl ⟨rfl, below7 BB (Nat.le_refl _) _ _ _ _ _ _ _⟩

set_option maxRecDepth 10000 in
set_option maxHeartbeats 2000000 in
theorem trunc_pos (k W b : Int) (N De s : Nat) (w : World) (hW1 : 1 ≤ W) (hW2 : W ≤ 128) (hb1 : -30000 ≤ b) (hb2 : b ≤ 30000) (hE : b - W + 1 = -(s : Int))
    (hD : 0 < De) (lN : (L N).length ≤ 1201) (lD : (L De).length ≤ 1201) (hs : s ≤ 90000) (hQ : N * 2 ^ s / (De * 2 ^ 0) < 2 ^ 128)
    (kT : ∀ v : World, Calls Try.prog 115 #[.int .i64 k] v fun e v' => RR v v' e N De)
    (kH : ∀ (v : World) (a b' : Option Addr) (c d : Nat), Rd v a (L N) → Rd v b' (L De) → Calls Try.prog 116 #[.int .i64 k, .agg #[.slice a (L N).length c, .slice b' (L De).length d]] v fun e v' => e = .returned (.int .i64 b) ∧ Below v.heap.size v v') :
    Calls Try.prog 101 #[.int .i64 k, .int .i64 W] w fun e w' => e = .returned (pwv k W (N * 2 ^ s / (De * 2 ^ 0)) (b - W + 1) (decide (N * 2 ^ s % (De * 2 ^ 0) = 0)) true) ∧ Below w.heap.size w w' := by
  have kS := fun (v : World) (a b' : Option Addr) (c d : Nat) (ra : Rd v a (L N)) (rb : Rd v b' (L De)) => timesTwo_pos a b' c d _ _ N De s v rfl rfl (by omega) (by omega) (by omega) ra rb
  have hP : 0 < De * 2 ^ 0 := Nat.mul_pos hD (Nat.pow_pos (by omega))
  have m1 : (L (N * 2 ^ s)).length ≤ 1048576 := Nat.le_trans (len_shiftK N s 1201 1500 lN (by omega)) (by omega)
  have m2 : (L (De * 2 ^ 0)).length ≤ 1048576 := Nat.le_trans (len_shiftK De 0 1201 1500 lD (by omega)) (by omega)
  obtain ⟨X, hX⟩ : ∃ X, X = N * 2 ^ s := ⟨_, rfl⟩
  obtain ⟨Y, hY⟩ : ∃ Y, Y = De * 2 ^ 0 := ⟨_, rfl⟩
  rw [← hX, ← hY] at hQ ⊢
  rw [← hX] at m1
  rw [← hY] at m2 hP
  simp only [← hX, ← hY] at kS
  clear hX hY
  have kD := fun (v : World) (a b' : Option Addr) (c d : Nat) (ra : Rd v a (L X)) (rb : Rd v b' (L Y)) => rdivMod_any a b' c d _ _ X Y v rfl rfl hP m1 m2 ra rb
  have hz := L_zero_iff (X % Y)
  have kO := fun (v : World) (a : Option Addr) (c : Nat) (ra : Rd v a (L (X / Y))) => wordOf_any a _ c (X / Y) v rfl hQ ra
  generalize X / Y = Q at *
  generalize X % Y = R at *
  generalize decide (R = 0) = ex at *
  unfold pwv
  rw [hE]
  have b0 : Below w.heap.size w (w.alloc (.cells #[.int .i64 0, .int .i64 0, .int .u64 0, .int .u64 0, .int .i64 0, .bool false, .bool false] 58)) := (Below.refl _ _).alloc (Nat.le_refl _) _
  have p0 : (w.alloc (.cells #[.int .i64 0, .int .i64 0, .int .u64 0, .int .u64 0, .int .i64 0, .bool false, .bool false] 58)).cell? ⟨w.heap.size, 0, none⟩ = some (.int .i64 0) := by simp [go_sem]
  have f0 : (w.alloc (.cells #[.int .i64 0, .int .i64 0, .int .u64 0, .int .u64 0, .int .i64 0, .bool false, .bool false] 58)).frozen? ⟨w.heap.size, 0, none⟩ = false := by simp [go_sem]
  have p1 : (w.alloc (.cells #[.int .i64 0, .int .i64 0, .int .u64 0, .int .u64 0, .int .i64 0, .bool false, .bool false] 58)).cell? ⟨w.heap.size, 1, none⟩ = some (.int .i64 0) := by simp [go_sem]
  have f1 : (w.alloc (.cells #[.int .i64 0, .int .i64 0, .int .u64 0, .int .u64 0, .int .i64 0, .bool false, .bool false] 58)).frozen? ⟨w.heap.size, 1, none⟩ = false := by simp [go_sem]
  have p2 : (w.alloc (.cells #[.int .i64 0, .int .i64 0, .int .u64 0, .int .u64 0, .int .i64 0, .bool false, .bool false] 58)).cell? ⟨w.heap.size, 2, none⟩ = some (.int .u64 0) := by simp [go_sem]
  have f2 : (w.alloc (.cells #[.int .i64 0, .int .i64 0, .int .u64 0, .int .u64 0, .int .i64 0, .bool false, .bool false] 58)).frozen? ⟨w.heap.size, 2, none⟩ = false := by simp [go_sem]
  have p3 : (w.alloc (.cells #[.int .i64 0, .int .i64 0, .int .u64 0, .int .u64 0, .int .i64 0, .bool false, .bool false] 58)).cell? ⟨w.heap.size, 3, none⟩ = some (.int .u64 0) := by simp [go_sem]
  have f3 : (w.alloc (.cells #[.int .i64 0, .int .i64 0, .int .u64 0, .int .u64 0, .int .i64 0, .bool false, .bool false] 58)).frozen? ⟨w.heap.size, 3, none⟩ = false := by simp [go_sem]
  have p4 : (w.alloc (.cells #[.int .i64 0, .int .i64 0, .int .u64 0, .int .u64 0, .int .i64 0, .bool false, .bool false] 58)).cell? ⟨w.heap.size, 4, none⟩ = some (.int .i64 0) := by simp [go_sem]
  have f4 : (w.alloc (.cells #[.int .i64 0, .int .i64 0, .int .u64 0, .int .u64 0, .int .i64 0, .bool false, .bool false] 58)).frozen? ⟨w.heap.size, 4, none⟩ = false := by simp [go_sem]
  have p5 : (w.alloc (.cells #[.int .i64 0, .int .i64 0, .int .u64 0, .int .u64 0, .int .i64 0, .bool false, .bool false] 58)).cell? ⟨w.heap.size, 5, none⟩ = some (.bool false) := by simp [go_sem]
  have f5 : (w.alloc (.cells #[.int .i64 0, .int .i64 0, .int .u64 0, .int .u64 0, .int .i64 0, .bool false, .bool false] 58)).frozen? ⟨w.heap.size, 5, none⟩ = false := by simp [go_sem]
  have p6 : (w.alloc (.cells #[.int .i64 0, .int .i64 0, .int .u64 0, .int .u64 0, .int .i64 0, .bool false, .bool false] 58)).cell? ⟨w.heap.size, 6, none⟩ = some (.bool false) := by simp [go_sem]
  have f6 : (w.alloc (.cells #[.int .i64 0, .int .i64 0, .int .u64 0, .int .u64 0, .int .i64 0, .bool false, .bool false] 58)).frozen? ⟨w.heap.size, 6, none⟩ = false := by simp [go_sem]
  have l0 : w.heap.size < (w.alloc (.cells #[.int .i64 0, .int .i64 0, .int .u64 0, .int .u64 0, .int .i64 0, .bool false, .bool false] 58)).heap.size := by simp
  generalize hw0 : (w.alloc (.cells #[.int .i64 0, .int .i64 0, .int .u64 0, .int .u64 0, .int .i64 0, .bool false, .bool false] 58)) = w0 at *
  have HE := hid hE; clear hE
  go_enter Try.func101, Try.ntmps101
  go_wp2_with fail
  refine (kT _).mono ?_
  rintro e v1 ⟨a1, c1, a2, c2, rfl, r1, r2, hb1⟩
  clear hw0
  go_upto_region 2 with fail
  obtain ⟨t0, t1, t2, t3⟩ := two_new v1 182 (.slice a1 (L N).length c1) (.slice a2 (L De).length c2)
  have bn : Below v1.heap.size v1 (v1.alloc (.cells #[.slice a1 (L N).length c1, .slice a2 (L De).length c2] 182)) := (Below.refl _ _).alloc (Nat.le_refl _) _
  have lt : v1.heap.size < (v1.alloc (.cells #[.slice a1 (L N).length c1, .slice a2 (L De).length c2] 182)).heap.size := by simp
  replace r1 := r1.below bn
  replace r2 := r2.below bn
  have B1 := keepC1 hb1 bn
  clear t2 t3 bn hb1
  generalize v1.alloc (.cells #[.slice a1 (L N).length c1, .slice a2 (L De).length c2] 182) = v2 at *
  generalize v1.heap.size = g at *
  go_wp2_with fail
  refine (kH v2 a1 a2 c1 c2 r1 r2).mono ?_
  rintro e v3 ⟨rfl, hb3⟩
  have s1 := (hb3.cell (p := ⟨g, 0, none⟩) lt).trans t0
  have s2 := (hb3.cell (p := ⟨g, 1, none⟩) lt).trans t1
  replace r1 := r1.below hb3
  replace r2 := r2.below hb3
  have B2 := keepC1 B1 hb3
  clear t0 t1 lt hb3 B1
  have w1 : IntKind.i64.wrap (b - W) = b - W := by rw [IntKind.wrap_i64]; omega
  have w2 : IntKind.i64.wrap (b - W + 1) = b - W + 1 := by rw [IntKind.wrap_i64]; omega
  have w3 : IntKind.i64.wrap (-(b - W + 1)) = (s : Int) := by rw [IntKind.wrap_i64]; have := HE.out; omega
  have w4 : -(b - W + 1) = (s : Int) := by have := HE.out; omega
  go_wp2_with fail
  try rw [w4]
  refine (kS v3 a1 a2 c1 c2 r1 r2).mono ?_
  rintro e v4 ⟨a3, c3, a4, c4, rfl, r3, r4, hb4⟩
  have B3 := keepC1 B2 hb4
  clear hb4 B2 s1 s2 r1 r2
  go_wp2_with fail
  refine (kD v4 a3 a4 c3 c4 r3 r4).mono ?_
  rintro e v5 ⟨a5, c5, a6, c6, rfl, r5, hb5⟩
  have B4 := keepC1 B3 hb5
  clear hb5 B3 r3 r4
  go_wp2_with fail
  refine (kO v5 a5 c5 r5).mono ?_
  rintro e v6 ⟨rfl, hb6⟩
  have B5 := keepC1 B4 hb6
  clear hb6 B4 r5
  have q0 := (B5.cell (p := ⟨w.heap.size, 0, none⟩) l0).trans p0
  have z0 := (B5.frozen (p := ⟨w.heap.size, 0, none⟩) l0).trans f0
  have q1 := (B5.cell (p := ⟨w.heap.size, 1, none⟩) l0).trans p1
  have z1 := (B5.frozen (p := ⟨w.heap.size, 1, none⟩) l0).trans f1
  have q2 := (B5.cell (p := ⟨w.heap.size, 2, none⟩) l0).trans p2
  have z2 := (B5.frozen (p := ⟨w.heap.size, 2, none⟩) l0).trans f2
  have q3 := (B5.cell (p := ⟨w.heap.size, 3, none⟩) l0).trans p3
  have z3 := (B5.frozen (p := ⟨w.heap.size, 3, none⟩) l0).trans f3
  have q4 := (B5.cell (p := ⟨w.heap.size, 4, none⟩) l0).trans p4
  have z4 := (B5.frozen (p := ⟨w.heap.size, 4, none⟩) l0).trans f4
  have q5 := (B5.cell (p := ⟨w.heap.size, 5, none⟩) l0).trans p5
  have z5 := (B5.frozen (p := ⟨w.heap.size, 5, none⟩) l0).trans f5
  have q6 := (B5.cell (p := ⟨w.heap.size, 6, none⟩) l0).trans p6
  have z6 := (B5.frozen (p := ⟨w.heap.size, 6, none⟩) l0).trans f6
  clear p0 p1 p2 p3 p4 p5 p6 f0 f1 f2 f3 f4 f5 f6
  go_wp2_with fail
  rw [HE.out]
  have BB := b0.trans (B5.mono b0.size)
  exact bodyPost_ret (v := .agg #[.int .i64 k, .int .i64 W, .int .u64 (M.hiN Q : Int), .int .u64 (M.loN Q : Int), .int .i64 (-(s : Int)), .bool ex, .bool true]) (by simp [results, Try.results101, go_sem, q0, q1, q2, q3, q4, q5, q6]) rfl ⟨rfl, below7 BB (Nat.le_refl _) _ _ _ _ _ _ _⟩

end Go.Proofs.Ytliflblcieepiac
