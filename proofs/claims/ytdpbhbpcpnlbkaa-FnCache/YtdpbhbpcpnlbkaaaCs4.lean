import Derived.BigRegion
import Derived.Test.YtdpbhbpcpnlbkaaaCaJ
set_option maxHeartbeats 2000000
namespace Go.Proofs.Ytdpbhbpcpnlbkaa
open Go.RowKit Go.Maps
set_option linter.unusedVariables false
set_option maxRecDepth 100000
theorem choose_late (g n c p : Nat) (ao : Option Addr) (s m L : Nat) (w : World) (c0 : w.cell? ⟨g, 0, none⟩ = some (.slice ao n c)) (c1 : w.cell? ⟨g, 1, none⟩ = some (.int .i64 s)) (c2 : w.cell? ⟨g, 2, none⟩ = some (.int .i64 m)) (z : ∀ o, w.frozen? ⟨g, o, none⟩ = false) (hs : n ≤ s) (hs2 : s < 1000000) (hm : m ≤ s) (hL : 0 < L) (hp : m % L = p) :
 Calls Try.prog 35 #[.pointer (some ⟨g, 0, none⟩), .int .i64 L] w fun e w' => e = .returned (.int .i64 p) ∧ Qt ((w.setCell ⟨g, 2, none⟩ (.int .i64 ((m : Int) + 1))).setCell ⟨g, 1, none⟩ (.int .i64 ((s : Int) + 1))) w' := by
 have f0 : ¬ (s : Int) < (n : Int) := by omega
 have f0' : decide ((s : Int) < (n : Int)) = false := decide_eq_false f0
 have f1 : IntKind.i64.wrap ((s : Int) + 1) = (s : Int) + 1 := by simp only [IntKind.wrap_i64]; omega
 have f1' : IntKind.i64.wrap ((m : Int) + 1) = (m : Int) + 1 := by simp only [IntKind.wrap_i64]; omega
 have f2 : (m : Int) % (L : Int) = (p : Int) := by rw [← hp]; simp
 have f3 : ¬ (L : Int) = 0 := by omega
 clear hp hs2 hm hs
 go_enter Try.func35, Try.ntmps35
 go_wp2_with fail
 go_quiet (fail)
 go_wp2_with fail
 go_ret
 exact ⟨by rw [← f2]; rfl, ((Qt.drewN _ _).set _ _).set _ _⟩

theorem choose_pick (g n c b off p : Nat) (s L : Nat) (x : Int) (w : World) (c0 : w.cell? ⟨g, 0, none⟩ = some (.slice (some ⟨b, off, none⟩) n c)) (c1 : w.cell? ⟨g, 1, none⟩ = some (.int .i64 s)) (z : ∀ o, w.frozen? ⟨g, o, none⟩ = false) (hs : s < n) (hs2 : s < 1000000) (cx : w.cell? ⟨b, off + s, none⟩ = some (.int .i64 x)) (hL : 0 < L) (hL2 : L < 1000000) (hp : (x % (L : Int)) = (p : Int)) :
 Calls Try.prog 35 #[.pointer (some ⟨g, 0, none⟩), .int .i64 L] w fun e w' => e = .returned (.int .i64 p) ∧ Qt (w.setCell ⟨g, 1, none⟩ (.int .i64 ((s : Int) + 1))) w' := by
 obtain ⟨y, hy⟩ : ∃ y : Int, x.tmod (L : Int) = y := ⟨_, rfl⟩
 have hy1 : -(L : Int) < y ∧ y < (L : Int) := by
  rw [← hy]
  have h1 := Int.emod_lt_of_pos x (b := (L : Int)) (by omega)
  have h2 := Int.emod_nonneg x (b := (L : Int)) (by omega)
  rw [Int.tmod_eq_emod]
  split
  · omega
  · simp only [Int.natAbs_natCast]; omega
 obtain ⟨z1, hz1⟩ : ∃ z1 : Int, y + (L : Int) = z1 := ⟨_, rfl⟩
 have f0 : (s : Int) < (n : Int) := by omega
 have f1 : IntKind.i64.wrap ((s : Int) + 1) = (s : Int) + 1 := by simp only [IntKind.wrap_i64]; omega
 have f2 : IntKind.i64.wrap (y + (L : Int)) = z1 := by simp only [IntKind.wrap_i64]; omega
 have f3 : ¬ (L : Int) = 0 := by omega
 have f4 : z1.tmod (L : Int) = (p : Int) := by
  rw [Int.tmod_eq_emod_of_nonneg (by omega), ← hp, ← hz1, Int.add_emod_right, ← hy, Int.tmod_eq_emod]
  split
  · simp
  · simp
 clear hp hs2 hs hy1 hz1 hL hL2
 go_enter Try.func35, Try.ntmps35
 go_wp2_with fail
 go_quiet (fail)
 go_wp2_with fail
 go_quiet (fail)
 go_wp2_with fail
 go_ret
 refine ⟨rfl, ?_⟩
 repeat (first | with_reducible exact Qt.refl _ | with_reducible exact Qt.drewN _ _ | with_reducible refine Qt.set ?_ _ _ | with_reducible refine Qt.trans ?_ (Qt.drewN _ _))

theorem infoL4 : (Try.prog.info? 123).map (fun i => (i.zero, i.size, i.bytes)) = some (some (.agg #[.bool false, .int .i64 0, .int .i64 0, .bool false, .int .i64 0]), 5, 40) := by kernel_rfl

def fnq (N S M sb hb : Nat) : Nat → Value := fun i => (#[.int .i64 (N : Int), .int .i64 (S : Int), .slice (some ⟨sb, 0, none⟩) M M, .slice (some ⟨hb, 0, none⟩) N N, .int .i64 0, .int .i64 0, .int .i64 0, .int .i64 0, .int .i64 0] : Array Value).getD i default

def fns : Nat → Value := fun i => if i % 5 = 0 ∨ i % 5 = 3 then .bool false else .int .i64 0

theorem four_new (w : World) (o0 A B C : Obj) : ((((w.alloc o0).alloc A).alloc B).alloc C).heap[w.heap.size + 1]? = some A ∧ ((((w.alloc o0).alloc A).alloc B).alloc C).heap[w.heap.size + 1 + 1]? = some B ∧ ((((w.alloc o0).alloc A).alloc B).alloc C).heap[w.heap.size + 1 + 1 + 1]? = some C ∧ Below w.heap.size w ((((w.alloc o0).alloc A).alloc B).alloc C) := by
 have s1 : (w.alloc o0).heap.size = w.heap.size + 1 := by simp
 have s2 : ((w.alloc o0).alloc A).heap.size = w.heap.size + 1 + 1 := by simp
 have s3 : (((w.alloc o0).alloc A).alloc B).heap.size = w.heap.size + 1 + 1 + 1 := by simp
 refine ⟨?_, ?_, ?_, ?_⟩
 · rw [Below.heap_alloc _ _ _ (by omega), Below.heap_alloc _ _ _ (by omega), ← s1]; exact heap_alloc_new _ _
 · rw [Below.heap_alloc _ _ _ (by omega), ← s2]; exact heap_alloc_new _ _
 · rw [← s3]; exact heap_alloc_new _ _
 · exact ((((Below.refl _ _).alloc (Nat.le_refl _) _).alloc (by omega) _).alloc (by omega) _).alloc (by omega) _

theorem made5 (M : Nat) (i : Nat) (hi : i < M * 5) : (madeCells #[.bool false, .int .i64 0, .int .i64 0, .bool false, .int .i64 0] (M * 5))[i]? = some (fns i) := by
 have h2 : i % 5 = 0 ∨ i % 5 = 1 ∨ i % 5 = 2 ∨ i % 5 = 3 ∨ i % 5 = 4 := by omega
 simp only [madeCells, fns]
 rw [Array.getElem?_map, Array.getElem?_eq_getElem (by simpa using hi)]
 rcases h2 with h | h | h | h | h <;> simp [h]

theorem made1 (N : Nat) (i : Nat) (hi : i < N) : (madeCells #[.int .i64 0] N)[i]? = some (.int .i64 0) := by
 simp only [madeCells]
 rw [Array.getElem?_map, Array.getElem?_eq_getElem (by simpa using hi)]
 simp [Nat.mod_one]

theorem l4New_any (N S : Nat) (hN : 0 < N ∧ N ≤ 16) (hS : 0 < S ∧ S ≤ 64) (w : World) :
 Calls Try.prog 34 #[.agg #[.int .i64 N, .int .i64 S]] w fun e w' => ∃ qb sb hb : Nat, e = .returned (.pointer (some ⟨qb, 0, none⟩)) ∧ Bf w' qb 89 9 (fnq N S (N * S) sb hb) ∧ Bf w' sb 123 (N * S * 5) fns ∧ Bf w' hb 3 N (fun _ => .int .i64 0) ∧ w.heap.size < qb ∧ w.heap.size < sb ∧ w.heap.size < hb ∧ Below w.heap.size w w' := by
 obtain ⟨i0, hi, hz0, hz1, hz2⟩ := info_parts infoL4
 obtain ⟨i1, hi1, hy0, hy1, hy2⟩ := info_parts infoI
 obtain ⟨M, hM⟩ : ∃ M, N * S = M := ⟨_, rfl⟩
 have hMl : M ≤ 1024 := by rw [← hM]; exact Nat.mul_le_mul hN.2 hS.2
 have f1 : IntKind.i64.wrap ((N : Int) * (S : Int)) = (M : Int) := by rw [← hM] at *; simp only [IntKind.wrap_i64]; omega
 have hmk := fun (wx : World) => run_make (P := Try.prog) wx 87 123 i0 _ Try.underlying87 hi hz0 .i64 .i64 ((M : Nat) : Int) ((M : Nat) : Int) (by omega) (Int.le_refl _) (by rw [hz2]; omega) (by omega)
 have hmk1 := fun (wx : World) => run_make (P := Try.prog) wx 26 3 i1 (.int .i64 0) Try.underlying26 hi1 hy0 .i64 .i64 ((N : Nat) : Int) ((N : Nat) : Int) (by omega) (Int.le_refl _) (by rw [hy2]; omega) (by omega)
 simp only [Int.toNat_natCast, hz1, hy1, Value.cells] at hmk hmk1
 rw [hM]
 clear hi hz0 hz1 hz2 hi1 hy0 hy1 hy2 hM
 go_enter Try.func34, Try.ntmps34
 go_wp2_with fail
 go_region
 all_goals go_wp2_with fail
 all_goals go_ret
 · obtain ⟨h1, h2, h3, h4⟩ := four_new w (.cells #[.int .i64 (N : Int), .int .i64 (S : Int)] 24) (.cells (madeCells #[.bool false, .int .i64 0, .int .i64 0, .bool false, .int .i64 0] (M * 5)) 123) (.cells (madeCells #[.int .i64 0] N) 3) (.cells #[.int .i64 (N : Int), .int .i64 (S : Int), .slice (some ⟨w.heap.size + 1, 0, none⟩) M M, .slice (some ⟨w.heap.size + 1 + 1, 0, none⟩) N N, .int .i64 0, .int .i64 0, .int .i64 0, .int .i64 0, .int .i64 0] 89)
   refine ⟨_, w.heap.size + 1, w.heap.size + 1 + 1, rfl, ?_, ?_, ?_, by omega, by omega, by omega, h4.drew⟩
   · exact ⟨_, h3, rfl, fun i hi => by simp [fnq, Array.getD, show i < 9 from hi]⟩
   · exact ⟨_, h1, size_madeCells _ _, fun i hi => made5 M i hi⟩
   · exact ⟨_, h2, size_madeCells _ _, fun i hi => made1 N i hi⟩
 · obtain ⟨h1, h2, h3, h4⟩ := four_new w (.cells #[.int .i64 (N : Int), .int .i64 (S : Int)] 24) (.cells (madeCells #[.int .i64 0] N) 3) (.cells (madeCells #[.bool false, .int .i64 0, .int .i64 0, .bool false, .int .i64 0] (M * 5)) 123) (.cells #[.int .i64 (N : Int), .int .i64 (S : Int), .slice (some ⟨w.heap.size + 1 + 1, 0, none⟩) M M, .slice (some ⟨w.heap.size + 1, 0, none⟩) N N, .int .i64 0, .int .i64 0, .int .i64 0, .int .i64 0, .int .i64 0] 89)
   refine ⟨_, w.heap.size + 1 + 1, w.heap.size + 1, rfl, ?_, ?_, ?_, by omega, by omega, by omega, h4.drew⟩
   · exact ⟨_, h3, rfl, fun i hi => by simp [fnq, Array.getD, show i < 9 from hi]⟩
   · exact ⟨_, h2, size_madeCells _ _, fun i hi => made5 M i hi⟩
   · exact ⟨_, h1, size_madeCells _ _, fun i hi => made1 N i hi⟩

end Go.Proofs.Ytdpbhbpcpnlbkaa
