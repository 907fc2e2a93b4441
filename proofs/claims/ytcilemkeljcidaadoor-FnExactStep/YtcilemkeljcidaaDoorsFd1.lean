import Derived.Test.YtcilemkeljcidaaDoorRows
import Derived.WalkSpells
import Derived.WalkLawsBesides
import Derived.Deep.QuietTactic
import Derived.BigQuiet
import Derived.Test.YtcilemkeljcidaaDoorsFmM
set_option maxHeartbeats 400000
namespace Go.Proofs.YtcilemkeljcidaaDoor
open Go.RowKit
set_option linter.unusedVariables false
set_option maxRecDepth 100000
def fmtC : Array Value := #[.int .i64 24, .int .i64 (-126), .int .i64 127, .int .i64 32, .int .i64 8, .bool false,
 .int .i64 53, .int .i64 (-1022), .int .i64 1023, .int .i64 64, .int .i64 11, .bool false,
 .int .i64 64, .int .i64 (-16382), .int .i64 16383, .int .i64 80, .int .i64 15, .bool true,
 .int .i64 113, .int .i64 (-16382), .int .i64 16383, .int .i64 128, .int .i64 15, .bool false]

def Fmt (w : World) : Prop := 0 < w.heap.size ∧ ∀ j, j < 24 → w.cell? ⟨0, j, none⟩ = fmtC[j]?

theorem Fmt.below {w w' : World} (h : Fmt w) (hb : Below w.heap.size w w') : Fmt w' :=
 ⟨Nat.lt_of_lt_of_le h.1 hb.size, fun j hj => (hb.cell (p := ⟨0, j, none⟩) h.1).trans (h.2 j hj)⟩

theorem describe0 (w : World) (h : Fmt w) : Calls Tryd.prog 9 #[.int .i64 0] w fun e w' => e = .returned (.agg #[.int .i64 24, .int .i64 (-126), .int .i64 127, .int .i64 32, .int .i64 8, .bool false]) ∧ Below w.heap.size w w' := by
 have h1 := h.1
 have c0 := h.2 0 (by omega)
 have c1 := h.2 1 (by omega)
 have c2 := h.2 2 (by omega)
 have c3 := h.2 3 (by omega)
 have c4 := h.2 4 (by omega)
 have c5 := h.2 5 (by omega)
 simp [fmtC] at c0 c1 c2 c3 c4 c5
 clear h
 go_enter Tryd.func9, Tryd.ntmps9
 go_wp2_with fail
 exact bodyPost_ret (v := .agg #[.int .i64 24, .int .i64 (-126), .int .i64 127, .int .i64 32, .int .i64 8, .bool false]) (by simp [results, Tryd.results9, go_sem]) rfl ⟨rfl, (Below.refl _ _).alloc (Nat.le_refl _) _⟩

theorem sdescribe0 (w : World) : Calls Tryd.prog 8 #[.int .i64 0] w fun e w' => e = .returned (.agg #[.int .i64 24, .int .i64 (-126), .int .i64 127, .int .i64 32, .int .i64 8, .bool false]) ∧ Below w.heap.size w w' := by
 go_enter Tryd.func8, Tryd.ntmps8
 go_wp2_with fail
 exact bodyPost_ret (v := .agg #[.int .i64 24, .int .i64 (-126), .int .i64 127, .int .i64 32, .int .i64 8, .bool false]) (by simp [results, Tryd.results8, go_sem]) rfl ⟨rfl, (Below.refl _ _).alloc (Nat.le_refl _) _⟩

theorem describe1 (w : World) (h : Fmt w) : Calls Tryd.prog 9 #[.int .i64 1] w fun e w' => e = .returned (.agg #[.int .i64 53, .int .i64 (-1022), .int .i64 1023, .int .i64 64, .int .i64 11, .bool false]) ∧ Below w.heap.size w w' := by
 have h1 := h.1
 have c0 := h.2 6 (by omega)
 have c1 := h.2 7 (by omega)
 have c2 := h.2 8 (by omega)
 have c3 := h.2 9 (by omega)
 have c4 := h.2 10 (by omega)
 have c5 := h.2 11 (by omega)
 simp [fmtC] at c0 c1 c2 c3 c4 c5
 clear h
 go_enter Tryd.func9, Tryd.ntmps9
 go_wp2_with fail
 exact bodyPost_ret (v := .agg #[.int .i64 53, .int .i64 (-1022), .int .i64 1023, .int .i64 64, .int .i64 11, .bool false]) (by simp [results, Tryd.results9, go_sem]) rfl ⟨rfl, (Below.refl _ _).alloc (Nat.le_refl _) _⟩

theorem sdescribe1 (w : World) : Calls Tryd.prog 8 #[.int .i64 1] w fun e w' => e = .returned (.agg #[.int .i64 53, .int .i64 (-1022), .int .i64 1023, .int .i64 64, .int .i64 11, .bool false]) ∧ Below w.heap.size w w' := by
 go_enter Tryd.func8, Tryd.ntmps8
 go_wp2_with fail
 exact bodyPost_ret (v := .agg #[.int .i64 53, .int .i64 (-1022), .int .i64 1023, .int .i64 64, .int .i64 11, .bool false]) (by simp [results, Tryd.results8, go_sem]) rfl ⟨rfl, (Below.refl _ _).alloc (Nat.le_refl _) _⟩

theorem describe2 (w : World) (h : Fmt w) : Calls Tryd.prog 9 #[.int .i64 2] w fun e w' => e = .returned (.agg #[.int .i64 64, .int .i64 (-16382), .int .i64 16383, .int .i64 80, .int .i64 15, .bool true]) ∧ Below w.heap.size w w' := by
 have h1 := h.1
 have c0 := h.2 12 (by omega)
 have c1 := h.2 13 (by omega)
 have c2 := h.2 14 (by omega)
 have c3 := h.2 15 (by omega)
 have c4 := h.2 16 (by omega)
 have c5 := h.2 17 (by omega)
 simp [fmtC] at c0 c1 c2 c3 c4 c5
 clear h
 go_enter Tryd.func9, Tryd.ntmps9
 go_wp2_with fail
 exact bodyPost_ret (v := .agg #[.int .i64 64, .int .i64 (-16382), .int .i64 16383, .int .i64 80, .int .i64 15, .bool true]) (by simp [results, Tryd.results9, go_sem]) rfl ⟨rfl, (Below.refl _ _).alloc (Nat.le_refl _) _⟩

theorem sdescribe2 (w : World) : Calls Tryd.prog 8 #[.int .i64 2] w fun e w' => e = .returned (.agg #[.int .i64 64, .int .i64 (-16382), .int .i64 16383, .int .i64 80, .int .i64 15, .bool true]) ∧ Below w.heap.size w w' := by
 go_enter Tryd.func8, Tryd.ntmps8
 go_wp2_with fail
 exact bodyPost_ret (v := .agg #[.int .i64 64, .int .i64 (-16382), .int .i64 16383, .int .i64 80, .int .i64 15, .bool true]) (by simp [results, Tryd.results8, go_sem]) rfl ⟨rfl, (Below.refl _ _).alloc (Nat.le_refl _) _⟩

theorem describe3 (w : World) (h : Fmt w) : Calls Tryd.prog 9 #[.int .i64 3] w fun e w' => e = .returned (.agg #[.int .i64 113, .int .i64 (-16382), .int .i64 16383, .int .i64 128, .int .i64 15, .bool false]) ∧ Below w.heap.size w w' := by
 have h1 := h.1
 have c0 := h.2 18 (by omega)
 have c1 := h.2 19 (by omega)
 have c2 := h.2 20 (by omega)
 have c3 := h.2 21 (by omega)
 have c4 := h.2 22 (by omega)
 have c5 := h.2 23 (by omega)
 simp [fmtC] at c0 c1 c2 c3 c4 c5
 clear h
 go_enter Tryd.func9, Tryd.ntmps9
 go_wp2_with fail
 exact bodyPost_ret (v := .agg #[.int .i64 113, .int .i64 (-16382), .int .i64 16383, .int .i64 128, .int .i64 15, .bool false]) (by simp [results, Tryd.results9, go_sem]) rfl ⟨rfl, (Below.refl _ _).alloc (Nat.le_refl _) _⟩

theorem sdescribe3 (w : World) : Calls Tryd.prog 8 #[.int .i64 3] w fun e w' => e = .returned (.agg #[.int .i64 113, .int .i64 (-16382), .int .i64 16383, .int .i64 128, .int .i64 15, .bool false]) ∧ Below w.heap.size w w' := by
 go_enter Tryd.func8, Tryd.ntmps8
 go_wp2_with fail
 exact bodyPost_ret (v := .agg #[.int .i64 113, .int .i64 (-16382), .int .i64 16383, .int .i64 128, .int .i64 15, .bool false]) (by simp [results, Tryd.results8, go_sem]) rfl ⟨rfl, (Below.refl _ _).alloc (Nat.le_refl _) _⟩

theorem describeNo (f : Int) (w : World) (h : f < 0 ∨ 4 ≤ f) : Calls Tryd.prog 9 #[.int .i64 f] w fun e w' => e = .returned (.agg #[.int .i64 0, .int .i64 0, .int .i64 0, .int .i64 0, .int .i64 0, .bool false]) ∧ Below w.heap.size w w' := by
 by_cases h1 : f < 0
 · go_enter Tryd.func9, Tryd.ntmps9
   go_wp2_with fail
   exact bodyPost_ret (v := .agg #[.int .i64 0, .int .i64 0, .int .i64 0, .int .i64 0, .int .i64 0, .bool false]) (by simp [results, Tryd.results9, go_sem]) rfl ⟨rfl, (Below.refl _ _).alloc (Nat.le_refl _) _⟩
 · have h2 : 4 ≤ f := by omega
   clear h
   go_enter Tryd.func9, Tryd.ntmps9
   go_wp2_with fail
   exact bodyPost_ret (v := .agg #[.int .i64 0, .int .i64 0, .int .i64 0, .int .i64 0, .int .i64 0, .bool false]) (by simp [results, Tryd.results9, go_sem]) rfl ⟨rfl, (Below.refl _ _).alloc (Nat.le_refl _) _⟩

theorem sdescribeNo (f : Int) (w : World) (h : f < 0 ∨ 4 ≤ f) : Calls Tryd.prog 8 #[.int .i64 f] w fun e w' => e = .returned (.agg #[.int .i64 0, .int .i64 0, .int .i64 0, .int .i64 0, .int .i64 0, .bool false]) ∧ Below w.heap.size w w' := by
 have h0 : (f == 0) = false := by simp; omega
 have h1 : (f == 1) = false := by simp; omega
 have h2 : (f == 2) = false := by simp; omega
 have h3 : (f == 3) = false := by simp; omega
 clear h
 go_enter Tryd.func8, Tryd.ntmps8
 go_wp2_with fail
 exact bodyPost_ret (v := .agg #[.int .i64 0, .int .i64 0, .int .i64 0, .int .i64 0, .int .i64 0, .bool false]) (by simp [results, Tryd.results8, go_sem]) rfl ⟨rfl, (Below.refl _ _).alloc (Nat.le_refl _) _⟩

def dv (F : M.Fm) : Value := .agg #[.int .i64 (F.p : Int), .int .i64 (1 - (F.emax : Int)), .int .i64 (F.emax : Int), .int .i64 (F.wd : Int), .int .i64 (F.e : Int), .bool F.x]

theorem describe_ok (f : Nat) (hf : f < 4) (w : World) (h : Fmt w) : Calls Tryd.prog 9 #[.int .i64 (f : Int)] w fun e w' => e = .returned (dv (M.fm f)) ∧ Below w.heap.size w w' := by
 match f, hf with
 | 0, _ => exact describe0 w h
 | 1, _ => exact describe1 w h
 | 2, _ => exact describe2 w h
 | 3, _ => exact describe3 w h

theorem sdescribe_ok (f : Nat) (hf : f < 4) (w : World) : Calls Tryd.prog 8 #[.int .i64 (f : Int)] w fun e w' => e = .returned (dv (M.fm f)) ∧ Below w.heap.size w w' := by
 match f, hf with
 | 0, _ => exact sdescribe0 w
 | 1, _ => exact sdescribe1 w
 | 2, _ => exact sdescribe2 w
 | 3, _ => exact sdescribe3 w

end Go.Proofs.YtcilemkeljcidaaDoor
