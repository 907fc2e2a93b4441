import Derived.OpenShut
import Derived.Test.YtjffpclidcloeaaGreatDoorrTA
import Derived.Test.YtjffpclidcloeaaGreatDoorrBW
set_option maxHeartbeats 2000000
set_option maxRecDepth 10000
namespace Go.Proofs.YtjffpclidcloeaaGreatDoor
open Go.RowKit
set_option linter.unusedVariables false
set_option maxRecDepth 100000
theorem copy_arr (dT sT t : TypeId) (hu : Tryz.prog.underlying dT = some (.slice 23)) (w1 : World) (g dn dc : Nat) (zs : List Value) (hg : w1.heap[g]? = some (.cells zs.toArray t (0, 0)))
 (ao : Option Addr) (ys : List Nat) (sn sc : Nat) (hy : ys.length = sn) (hr : Rd w1 ao ys) (h1 : sn ≤ dn) (h2 : sn ≤ zs.length) :
 ∃ w2, (Builtin.copy_ #[dT, sT] 3 #[.slice (some ⟨g, 0, none⟩) dn dc, .slice ao sn sc]).run Tryz.prog w1 = .ok (.int .i64 (sn : Int)) w2 ∧
   w2.heap[g]? = some (.cells (U ys ++ zs.drop sn).toArray t (0, 0)) ∧ w1.grownBy w2 (some g) := by
 have hs : (Tryz.prog.info? 23).map (·.size) = some 1 := by
  obtain ⟨i0, hi, hz0, hz1, hz2⟩ := info_parts Tryz.infoU
  rw [hi]; simp [hz1]
 by_cases h0 : sn = 0
 · subst h0
   have : ys = [] := List.eq_nil_of_length_eq_zero hy
   subst this
   refine ⟨w1, run_copy_none w1 dT sT 3 23 _ ao dn dc 0 sc hu hs (by simp), ?_, World.grownBy.refl _ _⟩
   simpa [U] using hg
 · obtain ⟨b, off, rfl, hc⟩ := hr (by omega)
   have hl : (U ys).length = sn := by rw [U_length, hy]
   have e := run_copy_row (P := Tryz.prog) w1 dT sT 3 23 g 0 dn dc ⟨b, off, none⟩ sn sc zs.toArray t (U ys) hu hs hg (by rw [hl]; show sn = min sn dn; omega) (Rd.cellAdd (ao := none) hc) (by simp [hl]; omega) (U_one ys)
   rw [hl] at e
   refine ⟨_, e, ?_, ?_⟩
   · rw [setRow_heap w1 g _ _ _ _ hg]; simp
   · exact ⟨rfl, rfl, rfl, by simp, fun k _ hk => setRow_other w1 g k _ (fun e => hk (by simp [e]))⟩

theorem L_get2 (a k : Nat) : (L a).getD k 0 = a / 18446744073709551616 ^ k % 18446744073709551616 := M.dig_get (by omega) k a

theorem lay2 (a : Nat) (h : (L a).length ≤ 2) (ha : a < 2 ^ 128) : U (L a) ++ (U [0, 0]).drop (L a).length = U [M.loN a, M.hiN a] := by
 have e2 : L a ++ [0, 0].drop (L a).length = [M.loN a, M.hiN a] := by
  have h0 := L_get2 a 0
  have h1 := L_get2 a 1
  have hh := M.hiLt ha
  have hlo : M.loN a = a % 18446744073709551616 := rfl
  have hhi : M.hiN a = a / 18446744073709551616 := rfl
  match hL : L a, h with
  | [], _ =>
    rw [hL] at h0 h1
    simp at h0 h1 ⊢
    exact ⟨by omega, by omega⟩
  | [x], _ =>
    rw [hL] at h0 h1
    simp at h0 h1 ⊢
    exact ⟨by omega, by omega⟩
  | [x, y], _ =>
    rw [hL] at h0 h1
    simp at h0 h1 ⊢
    exact ⟨by omega, by omega⟩
 rw [← e2, U_append]
 simp [U]

theorem cell_arr {w : World} {g x y : Nat} {t : TypeId} (h : w.heap[g]? = some (.cells (U [x, y]).toArray t (0, 0))) : w.cell? ⟨g, 0, none⟩ = some (.int .u64 (x : Int)) ∧ w.cell? ⟨g, 1, none⟩ = some (.int .u64 (y : Int)) := by
 simp [World.cell?, h, U]

theorem wordOf_any (ao : Option Addr) (n c a : Nat) (w : World) (hl : (L a).length = n) (ha : a < 2 ^ 128) (hr : Rd w ao (L a)) :
 Calls Tryz.prog 97 #[.slice ao n c] w fun e w' => e = .returned (.agg #[.int .u64 (M.hiN a : Int), .int .u64 (M.loN a : Int)]) ∧ Below w.heap.size w w' := by
 have hn : n ≤ 2 := by rw [← hl]; exact M.len_of_lt (by omega) a 2 (by omega)
 have b0 : Below w.heap.size w ((w.alloc (.cells #[.int .u64 0, .int .u64 0] 25)).alloc (.cells #[.int .u64 0, .int .u64 0] 169)) := ((Below.refl _ _).alloc (Nat.le_refl _) _).alloc (by simp) _
 have HG : ((w.alloc (.cells #[.int .u64 0, .int .u64 0] 25)).alloc (.cells #[.int .u64 0, .int .u64 0] 169)).heap[w.heap.size + 1]? = some (.cells (U [0, 0]).toArray 169 (0, 0)) := by
  have := heap_alloc_new (w.alloc (.cells #[.int .u64 0, .int .u64 0] 25)) (.cells #[.int .u64 0, .int .u64 0] 169)
  simpa [U] using this
 obtain ⟨w2, hcp, hg2, hgr2⟩ := copy_arr 43 97 169 Tryz.underlying43 _ (w.heap.size + 1) 2 2 (U [0, 0]) HG ao (L a) n c hl (hr.below b0) hn (by simp [U]; exact hn)
 rw [← hl, lay2 a (by omega) ha] at hg2
 obtain ⟨q0, q1⟩ := cell_arr hg2
 obtain ⟨t0, t1, t2, t3⟩ := two_new w 25 (.int .u64 0) (.int .u64 0)
 have ba : Below (w.alloc (.cells #[.int .u64 0, .int .u64 0] 25)).heap.size (w.alloc (.cells #[.int .u64 0, .int .u64 0] 25)) w2 := ((Below.refl _ _).alloc (Nat.le_refl _) _).grown hgr2 (by simp) (fun k hk => by cases hk; simp)
 have bb : Below w.heap.size w w2 := ((Below.refl w.heap.size w).alloc (Nat.le_refl _) _).trans (ba.mono (by simp))
 have r0 := (ba.cell (p := ⟨w.heap.size, 0, none⟩) (by simp)).trans t0
 have r1 := (ba.cell (p := ⟨w.heap.size, 1, none⟩) (by simp)).trans t1
 have z0 := (ba.frozen (p := ⟨w.heap.size, 0, none⟩) (by simp)).trans t2
 have z1 := (ba.frozen (p := ⟨w.heap.size, 1, none⟩) (by simp)).trans t3
 clear t0 t1 t2 t3 ba HG hgr2 hg2 hl
 go_enter Tryz.func97, Tryz.ntmps97
 go_wp2_with fail
 exact bodyPost_ret (v := .agg #[.int .u64 (M.hiN a : Int), .int .u64 (M.loN a : Int)]) (by simp [results, Tryz.results97, go_sem, r0, r1]) rfl ⟨rfl, (bb.setCell (p := ⟨w.heap.size, 0, none⟩) (Nat.le_refl _) _).setCell (p := ⟨w.heap.size, 1, none⟩) (Nat.le_refl _) _⟩

theorem rdivMod_any (a b : Option Addr) (c d n m N De : Nat) (w : World) (hl : (L N).length = n) (hm : (L De).length = m) (h0 : 0 < De) (hn : n ≤ 1048576) (hn2 : m ≤ 1048576) (ra : Rd w a (L N)) (rb : Rd w b (L De)) :
 Calls Tryz.prog 96 #[.agg #[.slice a n c, .slice b m d]] w fun e w' => ∃ a1 c1 a2 c2, e = .returned (.tuple #[.slice a1 (L (N / De)).length c1, .slice a2 (L (N % De)).length c2]) ∧ Rd w' a1 (L (N / De)) ∧ Below w.heap.size w w' := by
 have bn : Below w.heap.size w (w.alloc (.cells #[.slice a n c, .slice b m d] 99)) := (Below.refl _ _).alloc (Nat.le_refl _) _
 obtain ⟨t0, t1, t2, t3⟩ := two_new w 99 (.slice a n c) (.slice b m d)
 have kd := divMod_any a b n m c d N De _ hl hm h0 hn hn2 (ra.below bn) (rb.below bn)
 go_enter Tryz.func96, Tryz.ntmps96
 go_wp2_with fail
 refine kd.mono ?_
 rintro e w1 ⟨a1, c1, a2, c2, mid, rfl, g1, g2, o1, o2, hb⟩
 go_wp2_with fail
 go_ret2
 exact ⟨a1, c1, a2, c2, rfl, o1.rd, bn.trans (hb.mono bn.size)⟩

def pwv (k w : Int) (T : Nat) (E : Int) (x ok : Bool) : Value := .agg #[.int .i64 k, .int .i64 w, .int .u64 (M.hiN T : Int), .int .u64 (M.loN T : Int), .int .i64 E, .bool x, .bool ok]

theorem below7 {w v : World} {g : Nat} (h : Below w.heap.size w v) (hg : w.heap.size ≤ g) (a b c d e f i : Value) : Below w.heap.size w (((((((v.setCell ⟨g, 0, none⟩ a).setCell ⟨g, 1, none⟩ b).setCell ⟨g, 2, none⟩ c).setCell ⟨g, 3, none⟩ d).setCell ⟨g, 4, none⟩ e).setCell ⟨g, 5, none⟩ f).setCell ⟨g, 6, none⟩ i) :=
 ((((((h.setCell (p := ⟨g, 0, none⟩) hg a).setCell (p := ⟨g, 1, none⟩) hg b).setCell (p := ⟨g, 2, none⟩) hg c).setCell (p := ⟨g, 3, none⟩) hg d).setCell (p := ⟨g, 4, none⟩) hg e).setCell (p := ⟨g, 5, none⟩) hg f).setCell (p := ⟨g, 6, none⟩) hg i

theorem trunc_neg (k W b : Int) (N De s : Nat) (w : World) (hW1 : 1 ≤ W) (hW2 : W ≤ 128) (hb1 : -30000 ≤ b) (hb2 : b ≤ 30000) (hE : b - W + 1 = (s : Int))
 (hD : 0 < De) (lN : (L N).length ≤ 1201) (lD : (L De).length ≤ 1201) (hs : s ≤ 90000) (hQ : N * 2 ^ 0 / (De * 2 ^ s) < 2 ^ 128)
 (kT : ∀ v : World, Calls Tryz.prog 94 #[.int .i64 k] v fun e v' => RR v v' e N De)
 (kH : ∀ (v : World) (a b' : Option Addr) (c d : Nat), Rd v a (L N) → Rd v b' (L De) → Calls Tryz.prog 95 #[.int .i64 k, .agg #[.slice a (L N).length c, .slice b' (L De).length d]] v fun e v' => e = .returned (.int .i64 b) ∧ Below v.heap.size v v') :
 Calls Tryz.prog 71 #[.int .i64 k, .int .i64 W] w fun e w' => e = .returned (pwv k W (N * 2 ^ 0 / (De * 2 ^ s)) (b - W + 1) (decide (N * 2 ^ 0 % (De * 2 ^ s) = 0)) true) ∧ Below w.heap.size w w' := by
 have kS := fun (v : World) (a b' : Option Addr) (c d : Nat) (ra : Rd v a (L N)) (rb : Rd v b' (L De)) => timesTwo_neg a b' c d _ _ N De s v rfl rfl (by omega) (by omega) (by omega) ra rb
 have hP : 0 < De * 2 ^ s := Nat.mul_pos hD (Nat.pow_pos (by omega))
 have m1 : (L (N * 2 ^ 0)).length ≤ 1048576 := Nat.le_trans (len_shiftK N 0 1201 1500 lN (by omega)) (by omega)
 have m2 : (L (De * 2 ^ s)).length ≤ 1048576 := Nat.le_trans (len_shiftK De s 1201 1500 lD (by omega)) (by omega)
 obtain ⟨X, hX⟩ : ∃ X, X = N * 2 ^ 0 := ⟨_, rfl⟩
 obtain ⟨Y, hY⟩ : ∃ Y, Y = De * 2 ^ s := ⟨_, rfl⟩
 rw [← hX, ← hY] at hQ ⊢
 rw [← hX] at m1
 rw [← hY] at m2 hP
 simp only [← hX, ← hY] at kS
 clear hX hY
 have kD := fun (v : World) (a b' : Option Addr) (c d : Nat) (ra : Rd v a (L X)) (rb : Rd v b' (L Y)) => rdivMod_any a b' c d _ _ X Y v rfl rfl hP m1 m2 ra rb
 have hz := L_zero_iff (X % Y)
 have kO := fun (v : World) (a : Option Addr) (c : Nat) (ra : Rd v a (L (X / Y))) => wordOf_any a _ c (X / Y) v rfl hQ ra
 generalize X / Y = Q at *
 generalize X % Y = R at *
 generalize decide (R = 0) = ex at *
 unfold pwv
 rw [hE]
 have b0 : Below w.heap.size w (w.alloc (.cells #[.int .i64 0, .int .i64 0, .int .u64 0, .int .u64 0, .int .i64 0, .bool false, .bool false] 41)) := (Below.refl _ _).alloc (Nat.le_refl _) _
 have p0 : (w.alloc (.cells #[.int .i64 0, .int .i64 0, .int .u64 0, .int .u64 0, .int .i64 0, .bool false, .bool false] 41)).cell? ⟨w.heap.size, 0, none⟩ = some (.int .i64 0) := by simp [go_sem]
 have f0 : (w.alloc (.cells #[.int .i64 0, .int .i64 0, .int .u64 0, .int .u64 0, .int .i64 0, .bool false, .bool false] 41)).frozen? ⟨w.heap.size, 0, none⟩ = false := by simp [go_sem]
 have p1 : (w.alloc (.cells #[.int .i64 0, .int .i64 0, .int .u64 0, .int .u64 0, .int .i64 0, .bool false, .bool false] 41)).cell? ⟨w.heap.size, 1, none⟩ = some (.int .i64 0) := by simp [go_sem]
 have f1 : (w.alloc (.cells #[.int .i64 0, .int .i64 0, .int .u64 0, .int .u64 0, .int .i64 0, .bool false, .bool false] 41)).frozen? ⟨w.heap.size, 1, none⟩ = false := by simp [go_sem]
 have p2 : (w.alloc (.cells #[.int .i64 0, .int .i64 0, .int .u64 0, .int .u64 0, .int .i64 0, .bool false, .bool false] 41)).cell? ⟨w.heap.size, 2, none⟩ = some (.int .u64 0) := by simp [go_sem]
 have f2 : (w.alloc (.cells #[.int .i64 0, .int .i64 0, .int .u64 0, .int .u64 0, .int .i64 0, .bool false, .bool false] 41)).frozen? ⟨w.heap.size, 2, none⟩ = false := by simp [go_sem]
 have p3 : (w.alloc (.cells #[.int .i64 0, .int .i64 0, .int .u64 0, .int .u64 0, .int .i64 0, .bool false, .bool false] 41)).cell? ⟨w.heap.size, 3, none⟩ = some (.int .u64 0) := by simp [go_sem]
 have f3 : (w.alloc (.cells #[.int .i64 0, .int .i64 0, .int .u64 0, .int .u64 0, .int .i64 0, .bool false, .bool false] 41)).frozen? ⟨w.heap.size, 3, none⟩ = false := by simp [go_sem]
 have p4 : (w.alloc (.cells #[.int .i64 0, .int .i64 0, .int .u64 0, .int .u64 0, .int .i64 0, .bool false, .bool false] 41)).cell? ⟨w.heap.size, 4, none⟩ = some (.int .i64 0) := by simp [go_sem]
 have f4 : (w.alloc (.cells #[.int .i64 0, .int .i64 0, .int .u64 0, .int .u64 0, .int .i64 0, .bool false, .bool false] 41)).frozen? ⟨w.heap.size, 4, none⟩ = false := by simp [go_sem]
 have p5 : (w.alloc (.cells #[.int .i64 0, .int .i64 0, .int .u64 0, .int .u64 0, .int .i64 0, .bool false, .bool false] 41)).cell? ⟨w.heap.size, 5, none⟩ = some (.bool false) := by simp [go_sem]
 have f5 : (w.alloc (.cells #[.int .i64 0, .int .i64 0, .int .u64 0, .int .u64 0, .int .i64 0, .bool false, .bool false] 41)).frozen? ⟨w.heap.size, 5, none⟩ = false := by simp [go_sem]
 have p6 : (w.alloc (.cells #[.int .i64 0, .int .i64 0, .int .u64 0, .int .u64 0, .int .i64 0, .bool false, .bool false] 41)).cell? ⟨w.heap.size, 6, none⟩ = some (.bool false) := by simp [go_sem]
 have f6 : (w.alloc (.cells #[.int .i64 0, .int .i64 0, .int .u64 0, .int .u64 0, .int .i64 0, .bool false, .bool false] 41)).frozen? ⟨w.heap.size, 6, none⟩ = false := by simp [go_sem]
 have l0 : w.heap.size < (w.alloc (.cells #[.int .i64 0, .int .i64 0, .int .u64 0, .int .u64 0, .int .i64 0, .bool false, .bool false] 41)).heap.size := by simp
 generalize hw0 : (w.alloc (.cells #[.int .i64 0, .int .i64 0, .int .u64 0, .int .u64 0, .int .i64 0, .bool false, .bool false] 41)) = w0 at *
 have HE := hid hE; clear hE
 go_enter Tryz.func71, Tryz.ntmps71
 go_wp2_with fail
 refine (kT _).mono ?_
 rintro e v1 ⟨a1, c1, a2, c2, rfl, r1, r2, hb1⟩
 clear hw0
 go_upto_region 2 with fail
 obtain ⟨t0, t1, t2, t3⟩ := two_new v1 99 (.slice a1 (L N).length c1) (.slice a2 (L De).length c2)
 have bn : Below v1.heap.size v1 (v1.alloc (.cells #[.slice a1 (L N).length c1, .slice a2 (L De).length c2] 99)) := (Below.refl _ _).alloc (Nat.le_refl _) _
 have lt : v1.heap.size < (v1.alloc (.cells #[.slice a1 (L N).length c1, .slice a2 (L De).length c2] 99)).heap.size := by simp
 replace r1 := r1.below bn
 replace r2 := r2.below bn
 have B1 := keepC1 hb1 bn
 clear t2 t3 bn hb1
 generalize v1.alloc (.cells #[.slice a1 (L N).length c1, .slice a2 (L De).length c2] 99) = v2 at *
 generalize v1.heap.size = g at *
 go_wp2_with fail
 refine (kH v2 a1 a2 c1 c2 r1 r2).mono ?_
 rintro e v3 ⟨rfl, hb3⟩
 have s1 := (hb3.cell (p := ⟨g, 0, none⟩) lt).trans t0
 have s2 := (hb3.cell (p := ⟨g, 1, none⟩) lt).trans t1
 replace r1 := r1.below hb3
 replace r2 := r2.below hb3
 have B2 := keepC1 B1 hb3
 clear t0 t1 lt hb3 B1
 have w1 : IntKind.i64.wrap (b - W) = b - W := by rw [IntKind.wrap_i64]; omega
 have w2 : IntKind.i64.wrap (b - W + 1) = b - W + 1 := by rw [IntKind.wrap_i64]; omega
 have w3 : IntKind.i64.wrap (-(b - W + 1)) = -(s : Int) := by rw [IntKind.wrap_i64]; have := HE.out; omega
 have w4 : -(b - W + 1) = -(s : Int) := by have := HE.out; omega
 go_wp2_with fail
 try rw [w4]
 refine (kS v3 a1 a2 c1 c2 r1 r2).mono ?_
 rintro e v4 ⟨a3, c3, a4, c4, rfl, r3, r4, hb4⟩
 have B3 := keepC1 B2 hb4
 clear hb4 B2 s1 s2 r1 r2
 go_wp2_with fail
 refine (kD v4 a3 a4 c3 c4 r3 r4).mono ?_
 rintro e v5 ⟨a5, c5, a6, c6, rfl, r5, hb5⟩
 have B4 := keepC1 B3 hb5
 clear hb5 B3 r3 r4
 go_wp2_with fail
 refine (kO v5 a5 c5 r5).mono ?_
 rintro e v6 ⟨rfl, hb6⟩
 have B5 := keepC1 B4 hb6
 clear hb6 B4 r5
 have q0 := (B5.cell (p := ⟨w.heap.size, 0, none⟩) l0).trans p0
 have z0 := (B5.frozen (p := ⟨w.heap.size, 0, none⟩) l0).trans f0
 have q1 := (B5.cell (p := ⟨w.heap.size, 1, none⟩) l0).trans p1
 have z1 := (B5.frozen (p := ⟨w.heap.size, 1, none⟩) l0).trans f1
 have q2 := (B5.cell (p := ⟨w.heap.size, 2, none⟩) l0).trans p2
 have z2 := (B5.frozen (p := ⟨w.heap.size, 2, none⟩) l0).trans f2
 have q3 := (B5.cell (p := ⟨w.heap.size, 3, none⟩) l0).trans p3
 have z3 := (B5.frozen (p := ⟨w.heap.size, 3, none⟩) l0).trans f3
 have q4 := (B5.cell (p := ⟨w.heap.size, 4, none⟩) l0).trans p4
 have z4 := (B5.frozen (p := ⟨w.heap.size, 4, none⟩) l0).trans f4
 have q5 := (B5.cell (p := ⟨w.heap.size, 5, none⟩) l0).trans p5
 have z5 := (B5.frozen (p := ⟨w.heap.size, 5, none⟩) l0).trans f5
 have q6 := (B5.cell (p := ⟨w.heap.size, 6, none⟩) l0).trans p6
 have z6 := (B5.frozen (p := ⟨w.heap.size, 6, none⟩) l0).trans f6
 clear p0 p1 p2 p3 p4 p5 p6 f0 f1 f2 f3 f4 f5 f6
 go_wp2_with fail
 rw [HE.out]
 have BB := b0.trans (B5.mono b0.size)
 exact bodyPost_ret (v := .agg #[.int .i64 k, .int .i64 W, .int .u64 (M.hiN Q : Int), .int .u64 (M.loN Q : Int), .int .i64 ((s : Int)), .bool ex, .bool true]) (by simp [results, Tryz.results71, go_sem, q0, q1, q2, q3, q4, q5, q6]) rfl ⟨rfl, below7 BB (Nat.le_refl _) _ _ _ _ _ _ _⟩

theorem trunc_pos (k W b : Int) (N De s : Nat) (w : World) (hW1 : 1 ≤ W) (hW2 : W ≤ 128) (hb1 : -30000 ≤ b) (hb2 : b ≤ 30000) (hE : b - W + 1 = -(s : Int))
 (hD : 0 < De) (lN : (L N).length ≤ 1201) (lD : (L De).length ≤ 1201) (hs : s ≤ 90000) (hQ : N * 2 ^ s / (De * 2 ^ 0) < 2 ^ 128)
 (kT : ∀ v : World, Calls Tryz.prog 94 #[.int .i64 k] v fun e v' => RR v v' e N De)
 (kH : ∀ (v : World) (a b' : Option Addr) (c d : Nat), Rd v a (L N) → Rd v b' (L De) → Calls Tryz.prog 95 #[.int .i64 k, .agg #[.slice a (L N).length c, .slice b' (L De).length d]] v fun e v' => e = .returned (.int .i64 b) ∧ Below v.heap.size v v') :
 Calls Tryz.prog 71 #[.int .i64 k, .int .i64 W] w fun e w' => e = .returned (pwv k W (N * 2 ^ s / (De * 2 ^ 0)) (b - W + 1) (decide (N * 2 ^ s % (De * 2 ^ 0) = 0)) true) ∧ Below w.heap.size w w' := by
 have kS := fun (v : World) (a b' : Option Addr) (c d : Nat) (ra : Rd v a (L N)) (rb : Rd v b' (L De)) => timesTwo_pos a b' c d _ _ N De s v rfl rfl (by omega) (by omega) (by omega) ra rb
 have hP : 0 < De * 2 ^ 0 := Nat.mul_pos hD (Nat.pow_pos (by omega))
 have m1 : (L (N * 2 ^ s)).length ≤ 1048576 := Nat.le_trans (len_shiftK N s 1201 1500 lN (by omega)) (by omega)
 have m2 : (L (De * 2 ^ 0)).length ≤ 1048576 := Nat.le_trans (len_shiftK De 0 1201 1500 lD (by omega)) (by omega)
 obtain ⟨X, hX⟩ : ∃ X, X = N * 2 ^ s := ⟨_, rfl⟩
 obtain ⟨Y, hY⟩ : ∃ Y, Y = De * 2 ^ 0 := ⟨_, rfl⟩
 rw [← hX, ← hY] at hQ ⊢
 rw [← hX] at m1
 rw [← hY] at m2 hP
 simp only [← hX, ← hY] at kS
 clear hX hY
 have kD := fun (v : World) (a b' : Option Addr) (c d : Nat) (ra : Rd v a (L X)) (rb : Rd v b' (L Y)) => rdivMod_any a b' c d _ _ X Y v rfl rfl hP m1 m2 ra rb
 have hz := L_zero_iff (X % Y)
 have kO := fun (v : World) (a : Option Addr) (c : Nat) (ra : Rd v a (L (X / Y))) => wordOf_any a _ c (X / Y) v rfl hQ ra
 generalize X / Y = Q at *
 generalize X % Y = R at *
 generalize decide (R = 0) = ex at *
 unfold pwv
 rw [hE]
 have b0 : Below w.heap.size w (w.alloc (.cells #[.int .i64 0, .int .i64 0, .int .u64 0, .int .u64 0, .int .i64 0, .bool false, .bool false] 41)) := (Below.refl _ _).alloc (Nat.le_refl _) _
 have p0 : (w.alloc (.cells #[.int .i64 0, .int .i64 0, .int .u64 0, .int .u64 0, .int .i64 0, .bool false, .bool false] 41)).cell? ⟨w.heap.size, 0, none⟩ = some (.int .i64 0) := by simp [go_sem]
 have f0 : (w.alloc (.cells #[.int .i64 0, .int .i64 0, .int .u64 0, .int .u64 0, .int .i64 0, .bool false, .bool false] 41)).frozen? ⟨w.heap.size, 0, none⟩ = false := by simp [go_sem]
 have p1 : (w.alloc (.cells #[.int .i64 0, .int .i64 0, .int .u64 0, .int .u64 0, .int .i64 0, .bool false, .bool false] 41)).cell? ⟨w.heap.size, 1, none⟩ = some (.int .i64 0) := by simp [go_sem]
 have f1 : (w.alloc (.cells #[.int .i64 0, .int .i64 0, .int .u64 0, .int .u64 0, .int .i64 0, .bool false, .bool false] 41)).frozen? ⟨w.heap.size, 1, none⟩ = false := by simp [go_sem]
 have p2 : (w.alloc (.cells #[.int .i64 0, .int .i64 0, .int .u64 0, .int .u64 0, .int .i64 0, .bool false, .bool false] 41)).cell? ⟨w.heap.size, 2, none⟩ = some (.int .u64 0) := by simp [go_sem]
 have f2 : (w.alloc (.cells #[.int .i64 0, .int .i64 0, .int .u64 0, .int .u64 0, .int .i64 0, .bool false, .bool false] 41)).frozen? ⟨w.heap.size, 2, none⟩ = false := by simp [go_sem]
 have p3 : (w.alloc (.cells #[.int .i64 0, .int .i64 0, .int .u64 0, .int .u64 0, .int .i64 0, .bool false, .bool false] 41)).cell? ⟨w.heap.size, 3, none⟩ = some (.int .u64 0) := by simp [go_sem]
 have f3 : (w.alloc (.cells #[.int .i64 0, .int .i64 0, .int .u64 0, .int .u64 0, .int .i64 0, .bool false, .bool false] 41)).frozen? ⟨w.heap.size, 3, none⟩ = false := by simp [go_sem]
 have p4 : (w.alloc (.cells #[.int .i64 0, .int .i64 0, .int .u64 0, .int .u64 0, .int .i64 0, .bool false, .bool false] 41)).cell? ⟨w.heap.size, 4, none⟩ = some (.int .i64 0) := by simp [go_sem]
 have f4 : (w.alloc (.cells #[.int .i64 0, .int .i64 0, .int .u64 0, .int .u64 0, .int .i64 0, .bool false, .bool false] 41)).frozen? ⟨w.heap.size, 4, none⟩ = false := by simp [go_sem]
 have p5 : (w.alloc (.cells #[.int .i64 0, .int .i64 0, .int .u64 0, .int .u64 0, .int .i64 0, .bool false, .bool false] 41)).cell? ⟨w.heap.size, 5, none⟩ = some (.bool false) := by simp [go_sem]
 have f5 : (w.alloc (.cells #[.int .i64 0, .int .i64 0, .int .u64 0, .int .u64 0, .int .i64 0, .bool false, .bool false] 41)).frozen? ⟨w.heap.size, 5, none⟩ = false := by simp [go_sem]
 have p6 : (w.alloc (.cells #[.int .i64 0, .int .i64 0, .int .u64 0, .int .u64 0, .int .i64 0, .bool false, .bool false] 41)).cell? ⟨w.heap.size, 6, none⟩ = some (.bool false) := by simp [go_sem]
 have f6 : (w.alloc (.cells #[.int .i64 0, .int .i64 0, .int .u64 0, .int .u64 0, .int .i64 0, .bool false, .bool false] 41)).frozen? ⟨w.heap.size, 6, none⟩ = false := by simp [go_sem]
 have l0 : w.heap.size < (w.alloc (.cells #[.int .i64 0, .int .i64 0, .int .u64 0, .int .u64 0, .int .i64 0, .bool false, .bool false] 41)).heap.size := by simp
 generalize hw0 : (w.alloc (.cells #[.int .i64 0, .int .i64 0, .int .u64 0, .int .u64 0, .int .i64 0, .bool false, .bool false] 41)) = w0 at *
 have HE := hid hE; clear hE
 go_enter Tryz.func71, Tryz.ntmps71
 go_wp2_with fail
 refine (kT _).mono ?_
 rintro e v1 ⟨a1, c1, a2, c2, rfl, r1, r2, hb1⟩
 clear hw0
 go_upto_region 2 with fail
 obtain ⟨t0, t1, t2, t3⟩ := two_new v1 99 (.slice a1 (L N).length c1) (.slice a2 (L De).length c2)
 have bn : Below v1.heap.size v1 (v1.alloc (.cells #[.slice a1 (L N).length c1, .slice a2 (L De).length c2] 99)) := (Below.refl _ _).alloc (Nat.le_refl _) _
 have lt : v1.heap.size < (v1.alloc (.cells #[.slice a1 (L N).length c1, .slice a2 (L De).length c2] 99)).heap.size := by simp
 replace r1 := r1.below bn
 replace r2 := r2.below bn
 have B1 := keepC1 hb1 bn
 clear t2 t3 bn hb1
 generalize v1.alloc (.cells #[.slice a1 (L N).length c1, .slice a2 (L De).length c2] 99) = v2 at *
 generalize v1.heap.size = g at *
 go_wp2_with fail
 refine (kH v2 a1 a2 c1 c2 r1 r2).mono ?_
 rintro e v3 ⟨rfl, hb3⟩
 have s1 := (hb3.cell (p := ⟨g, 0, none⟩) lt).trans t0
 have s2 := (hb3.cell (p := ⟨g, 1, none⟩) lt).trans t1
 replace r1 := r1.below hb3
 replace r2 := r2.below hb3
 have B2 := keepC1 B1 hb3
 clear t0 t1 lt hb3 B1
 have w1 : IntKind.i64.wrap (b - W) = b - W := by rw [IntKind.wrap_i64]; omega
 have w2 : IntKind.i64.wrap (b - W + 1) = b - W + 1 := by rw [IntKind.wrap_i64]; omega
 have w3 : IntKind.i64.wrap (-(b - W + 1)) = (s : Int) := by rw [IntKind.wrap_i64]; have := HE.out; omega
 have w4 : -(b - W + 1) = (s : Int) := by have := HE.out; omega
 go_wp2_with fail
 try rw [w4]
 refine (kS v3 a1 a2 c1 c2 r1 r2).mono ?_
 rintro e v4 ⟨a3, c3, a4, c4, rfl, r3, r4, hb4⟩
 have B3 := keepC1 B2 hb4
 clear hb4 B2 s1 s2 r1 r2
 go_wp2_with fail
 refine (kD v4 a3 a4 c3 c4 r3 r4).mono ?_
 rintro e v5 ⟨a5, c5, a6, c6, rfl, r5, hb5⟩
 have B4 := keepC1 B3 hb5
 clear hb5 B3 r3 r4
 go_wp2_with fail
 refine (kO v5 a5 c5 r5).mono ?_
 rintro e v6 ⟨rfl, hb6⟩
 have B5 := keepC1 B4 hb6
 clear hb6 B4 r5
 have q0 := (B5.cell (p := ⟨w.heap.size, 0, none⟩) l0).trans p0
 have z0 := (B5.frozen (p := ⟨w.heap.size, 0, none⟩) l0).trans f0
 have q1 := (B5.cell (p := ⟨w.heap.size, 1, none⟩) l0).trans p1
 have z1 := (B5.frozen (p := ⟨w.heap.size, 1, none⟩) l0).trans f1
 have q2 := (B5.cell (p := ⟨w.heap.size, 2, none⟩) l0).trans p2
 have z2 := (B5.frozen (p := ⟨w.heap.size, 2, none⟩) l0).trans f2
 have q3 := (B5.cell (p := ⟨w.heap.size, 3, none⟩) l0).trans p3
 have z3 := (B5.frozen (p := ⟨w.heap.size, 3, none⟩) l0).trans f3
 have q4 := (B5.cell (p := ⟨w.heap.size, 4, none⟩) l0).trans p4
 have z4 := (B5.frozen (p := ⟨w.heap.size, 4, none⟩) l0).trans f4
 have q5 := (B5.cell (p := ⟨w.heap.size, 5, none⟩) l0).trans p5
 have z5 := (B5.frozen (p := ⟨w.heap.size, 5, none⟩) l0).trans f5
 have q6 := (B5.cell (p := ⟨w.heap.size, 6, none⟩) l0).trans p6
 have z6 := (B5.frozen (p := ⟨w.heap.size, 6, none⟩) l0).trans f6
 clear p0 p1 p2 p3 p4 p5 p6 f0 f1 f2 f3 f4 f5 f6
 go_wp2_with fail
 rw [HE.out]
 have BB := b0.trans (B5.mono b0.size)
 exact bodyPost_ret (v := .agg #[.int .i64 k, .int .i64 W, .int .u64 (M.hiN Q : Int), .int .u64 (M.loN Q : Int), .int .i64 (-(s : Int)), .bool ex, .bool true]) (by simp [results, Tryz.results71, go_sem, q0, q1, q2, q3, q4, q5, q6]) rfl ⟨rfl, below7 BB (Nat.le_refl _) _ _ _ _ _ _ _⟩

def tb (k : Int) : Int := if 5200 < k ∨ k < -5200 then 0 else if 0 ≤ k then (blen (10 ^ k.toNat) : Int) - 1 else -(blen (10 ^ (-k).toNat) : Int)

theorem tb_out {k : Int} (h : 5200 < k ∨ k < -5200) : tb k = 0 := by unfold tb; rw [if_pos h]

theorem tb_pos (m : Nat) (h : m ≤ 5200) : tb (m : Int) = (blen (10 ^ m) : Int) - 1 := by
 unfold tb; rw [if_neg (by omega), if_pos (by omega), Int.toNat_natCast]

theorem tb_neg (m : Nat) (h : m ≤ 5200) (h0 : 0 < m) : tb (-(m : Int)) = -(blen (10 ^ m) : Int) := by
 unfold tb; rw [if_neg (by omega), if_neg (by omega), show (- -(m : Int)).toNat = m by omega]

theorem blen_tenK (m K : Nat) (h : 4 * m < K) : blen (10 ^ m) ≤ K :=
 blen_le_of _ _ (Nat.lt_of_le_of_lt (pow16 m) (Nat.pow_lt_pow_right (by omega) h))

theorem blen_ten (m : Nat) (h : m ≤ 5200) : blen (10 ^ m) ≤ 20801 := blen_tenK m _ (by omega)

theorem specTenBits_any (k : Int) (w : World) :
 Calls Tryz.prog 30 #[.int .i64 k] w fun e w' => e = .returned (.int .i64 (tb k)) ∧ Below w.heap.size w w' := by
 by_cases hk : 5200 < k ∨ k < -5200
 · rw [tb_out hk]
   by_cases h1 : 5200 < k
   · go_enter Tryz.func30, Tryz.ntmps30
     go_wp2_with fail
     go_ret
     exact ⟨rfl, Below.refl _ _⟩
   · have h2 : k < -5200 := by omega
     go_enter Tryz.func30, Tryz.ntmps30
     go_wp2_with fail
     go_ret
     exact ⟨rfl, Below.refl _ _⟩
 · by_cases h0 : 0 ≤ k
   · obtain ⟨m, rfl⟩ : ∃ m : Nat, k = m := ⟨k.toNat, by omega⟩
     have hm : m ≤ 5200 := by omega
     rw [tb_pos m hm]
     have g1 : ¬ (5200 : Int) < (m : Int) := by omega
     have g2 : ¬ (m : Int) < -5200 := by omega
     have hbl := blen_ten m hm
     have hD : (D (10 ^ m)).length ≤ 2401 := ten_len m _ 2401 (k := 0) (by omega) (by simp)
     obtain ⟨b, hb⟩ : ∃ b : Nat, b = blen (10 ^ m) := ⟨_, rfl⟩
     rw [← hb] at hbl ⊢
     have HB := hid hb; clear hb hk
     go_enter Tryz.func30, Tryz.ntmps30
     go_wp2_with fail
     refine (l1Ten_any m _ (by omega)).mono ?_
     rintro e v1 ⟨a1, c1, rfl, ho1, hb1⟩
     go_wp2_with fail
     refine (l1Bits_any a1 _ c1 (10 ^ m) _ rfl (by omega) (Rd.own ho1) b HB.out).mono ?_
     rintro e v2 ⟨rfl, rfl⟩
     go_wp2_with fail
     go_ret
     exact ⟨rfl, hb1⟩
   · obtain ⟨m, rfl⟩ : ∃ m : Nat, k = -(m : Int) := ⟨(-k).toNat, by omega⟩
     have hm : m ≤ 5200 := by omega
     rw [tb_neg m hm (by omega)]
     have g1 : ¬ (5200 : Int) < -(m : Int) := by omega
     have g2 : ¬ -(m : Int) < -5200 := by omega
     have hbl := blen_ten m hm
     have hD : (D (10 ^ m)).length ≤ 2401 := ten_len m _ 2401 (k := 0) (by omega) (by simp)
     obtain ⟨b, hb⟩ : ∃ b : Nat, b = blen (10 ^ m) := ⟨_, rfl⟩
     rw [← hb] at hbl ⊢
     have HB := hid hb; clear hb hk
     go_enter Tryz.func30, Tryz.ntmps30
     go_wp2_with fail
     try rw [show - -(m : Int) = (m : Int) by omega]
     refine (l1Ten_any m _ (by omega)).mono ?_
     rintro e v1 ⟨a1, c1, rfl, ho1, hb1⟩
     go_wp2_with fail
     refine (l1Bits_any a1 _ c1 (10 ^ m) _ rfl (by omega) (Rd.own ho1) b HB.out).mono ?_
     rintro e v2 ⟨rfl, rfl⟩
     go_wp2_with fail
     go_ret
     exact ⟨rfl, hb1⟩

theorem within_any (k : Int) (w : World) :
 Calls Tryz.prog 67 #[.int .i64 k] w fun e w' => e = .returned (.bool (decide (-5200 ≤ k ∧ k ≤ 5200))) ∧ w' = w := by
 by_cases h1 : -5200 ≤ k
 · by_cases h2 : k ≤ 5200
   · rw [decide_eq_true ⟨h1, h2⟩]
     go_enter Tryz.func67, Tryz.ntmps67
     go_wp2_with fail
     go_ret
     exact ⟨rfl, rfl⟩
   · rw [decide_eq_false (by omega)]
     go_enter Tryz.func67, Tryz.ntmps67
     go_wp2_with fail
     go_ret
     exact ⟨rfl, rfl⟩
 · rw [decide_eq_false (by omega)]
   go_enter Tryz.func67, Tryz.ntmps67
   go_wp2_with fail
   go_ret
   exact ⟨rfl, rfl⟩

end Go.Proofs.YtjffpclidcloeaaGreatDoor
