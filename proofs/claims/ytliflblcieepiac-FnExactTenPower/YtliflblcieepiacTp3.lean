import Derived.Test.YtliflblcieepiacTp2
import Derived.Test.YtliflblcieepiacLocks
import Derived.Test.YtliflblcieepiacLTenBits
import Derived.Conc.MuLone
import Derived.Maps.OwnSet
import Derived.DeepKeys4
import Derived.Recover
import Derived.Carry
namespace Go.Proofs.Ytliflblcieepiac
open Go.RowKit Go.Maps
open Go.MuLone
set_option linter.unusedVariables false
set_option maxRecDepth 100000

theorem Try.cells3 : Try.prog.cellsOf 3 = 1 := by kernel_rfl
theorem Try.cellsA2 : Try.prog.cellsOf 164 = 2 := by kernel_rfl
theorem Try.typesPos : 0 < Try.prog.types.size := of_decide_eq_true (by kernel_rfl)
theorem Try.rowA2 : (164 : TypeId) < Try.prog.types.size := of_decide_eq_true (by kernel_rfl)
theorem Try.wideA2 : (match Try.prog.underlying 164 with | some (.array _ _) | some (.struct _) => true | _ => false) = true := by kernel_rfl

theorem lawA2 : Keyed Try.prog 164 := Keyed.of_law (deep_law_laid (by kernel_rfl) (m := 3) (by omega) Try.rowA2 (by kernel_rfl) Try.wideA2)

theorem key2 (k w : Int) (hk : (Lit.int .i64 k).wf = true) (hw : (Lit.int .i64 w).wf = true) : ∃ kl, keyOf Try.prog 164 (.agg #[.int .i64 k, .int .i64 w]) = some kl := by
  obtain ⟨d, hd⟩ : ∃ d, Try.prog.types.size = d + 1 := ⟨_, (Nat.succ_pred_eq_of_pos Try.typesPos).symm⟩
  refine Option.isSome_iff_exists.1 ?_
  unfold keyOf
  simp [Try.underlying164, Value.formed, Try.cellsA2, hd, Program.keyLits, Try.underlying3, Try.cells3, Value.cells, hk, hw, List.range, List.range.loop]
  kernel_rfl

theorem zeroP (w : World) : (zeroValue 58).run Try.prog w = .ok (.agg #[.int .i64 0, .int .i64 0, .int .u64 0, .int .u64 0, .int .i64 0, .bool false, .bool false]) w := by kernel_rfl

open Classical in
/-- How a map's element reads: the zero power, or another. -/
noncomputable def Rz (v : Value) : Option (DataW Unit × List MemPlace) := if v = .agg #[.int .i64 0, .int .i64 0, .int .u64 0, .int .u64 0, .int .i64 0, .bool false, .bool false] then some (.lit (.bool false), []) else some (.lit (.bool true), [])

theorem Rz_zero : Rz (.agg #[.int .i64 0, .int .i64 0, .int .u64 0, .int .u64 0, .int .i64 0, .bool false, .bool false]) = some (.lit (.bool false), []) := by
  unfold Rz; rw [if_pos rfl]
theorem Rz_inv {v : Value} {ps : List MemPlace} (h : Rz v = some (.lit (.bool false), ps)) : v = .agg #[.int .i64 0, .int .i64 0, .int .u64 0, .int .u64 0, .int .i64 0, .bool false, .bool false] := by
  unfold Rz at h
  split at h
  · assumption
  · simp at h
theorem Rz_any (v : Value) : ∃ d ps, Rz v = some (d, ps) := by
  unfold Rz
  split
  · exact ⟨_, _, rfl⟩
  · exact ⟨_, _, rfl⟩

/-- A search in a map that is empty. -/
theorem look_empty (v : World) (bm : Nat) (h : v.ownsMap Try.prog 164 Rz bm 0 (.map [])) (key : Value) (hkey : ∃ kl, keyOf Try.prog 164 key = some kl) :
    (Instr.lookup 154 (.map (some bm)) key true).run Try.prog v = .ok (.tuple #[.agg #[.int .i64 0, .int .i64 0, .int .u64 0, .int .u64 0, .int .i64 0, .bool false, .bool false], .bool false]) v := by
  obtain ⟨kl, hkl⟩ := hkey
  obtain ⟨x, ps, hrun, hR⟩ := h.look_ok lawA2 Try.underlying154 (zeroP v) Rz_zero hkl
  have e := Rz_inv (ps := ps) (by simpa [DataW.atKey] using hR)
  rw [e] at hrun
  simpa [Maps.has] using hrun

/-- A store into it: the map's block alone is turned. -/
theorem store_empty (v : World) (bm : Nat) (h : v.ownsMap Try.prog 164 Rz bm 0 (.map [])) (key val : Value) (hkey : ∃ kl, keyOf Try.prog 164 key = some kl) :
    ∃ v', (Instr.mapUpdate 154 (.map (some bm)) key val).run Try.prog v = .ok () v' ∧ v.mapTurned v' bm := by
  obtain ⟨kl, hkl⟩ := hkey
  obtain ⟨d, ps, hR⟩ := Rz_any val
  obtain ⟨v', hrun, _, ht⟩ := h.store lawA2 Try.underlying154 (by unfold maxLen; omega) hkl hR
  exact ⟨v', hrun, ht⟩

theorem newTable_any (w : World) :
    Calls Try.prog 70 #[] w fun e w' => e = .returned (.pointer (some ⟨w.heap.size + 1, 0, none⟩)) ∧ w' = (w.alloc (.map #[] 0)).alloc (.cells #[.int .i32 0, .int .u32 0, .map (some w.heap.size)] 163) := by
  have hmk := fun v : World => run_makeMap (P := Try.prog) 154 v
  go_enter Try.func70, Try.ntmps70
  go_wp2_with fail
  go_ret
  exact ⟨rfl, rfl⟩

theorem width_any (b : Int) (w : World) :
    Calls Try.prog 86 #[.int .i64 b] w fun r w' => r = .returned (.bool (decide (1 ≤ b ∧ b ≤ 128))) ∧ w' = w := by
  go_enter Try.func86, Try.ntmps86
  by_cases h0 : 1 ≤ b
  · by_cases h1 : b ≤ 128
    · rw [show decide (1 ≤ b ∧ b ≤ 128) = true from decide_eq_true (⟨h0, h1⟩)]
      go_wp2_with fail
      go_ret
      exact ⟨rfl, rfl⟩
    · rw [show decide (1 ≤ b ∧ b ≤ 128) = false from decide_eq_false (fun h => by omega)]
      go_wp2_with fail
      go_ret
      exact ⟨rfl, rfl⟩
  · rw [show decide (1 ≤ b ∧ b ≤ 128) = false from decide_eq_false (fun h => by omega)]
    go_wp2_with fail
    go_ret
    exact ⟨rfl, rfl⟩

/-- Out of the powers or the widths: nothing is made. -/
theorem entry_out (tb : Nat) (k W : Int) (w : World) (h : ¬ (-5200 ≤ k ∧ k ≤ 5200 ∧ 1 ≤ W ∧ W ≤ 128)) :
    Calls Try.prog 71 #[.pointer (some ⟨tb, 0, none⟩), .int .i64 k, .int .i64 W] w fun e w' => e = .returned (pwv 0 0 0 0 false false) ∧ Below w.heap.size w w' := by
  have e0 : pwv 0 0 0 0 false false = .agg #[.int .i64 0, .int .i64 0, .int .u64 0, .int .u64 0, .int .i64 0, .bool false, .bool false] := by unfold pwv; rfl
  rw [e0]
  by_cases h1 : -5200 ≤ k ∧ k ≤ 5200
  · have hd : decide (-5200 ≤ k ∧ k ≤ 5200) = true := decide_eq_true h1
    have hw : decide (1 ≤ W ∧ W ≤ 128) = false := decide_eq_false (fun h2 => h ⟨h1.1, h1.2, h2.1, h2.2⟩)
    clear h h1
    go_enter_defers Try.func71, Try.ntmps71
    go_wp2_with fail
    refine (within_any k _).mono ?_
    rw [hd]
    rintro e v1 ⟨rfl, rfl⟩
    go_wp2_with fail
    refine (width_any W _).mono ?_
    rw [hw]
    rintro e v1 ⟨rfl, rfl⟩
    go_wp2_with fail
    exact ⟨.agg #[.int .i64 0, .int .i64 0, .int .u64 0, .int .u64 0, .int .i64 0, .bool false, .bool false], by simp [results, Try.results71, go_sem], rfl, (Below.refl _ _).alloc (Nat.le_refl _) _⟩
  · have hd : decide (-5200 ≤ k ∧ k ≤ 5200) = false := decide_eq_false h1
    go_enter_defers Try.func71, Try.ntmps71
    go_wp2_with fail
    refine (within_any k _).mono ?_
    rw [hd]
    rintro e v1 ⟨rfl, rfl⟩
    go_wp2_with fail
    exact ⟨.agg #[.int .i64 0, .int .i64 0, .int .u64 0, .int .u64 0, .int .i64 0, .bool false, .bool false], by simp [results, Try.results71, go_sem], rfl, (Below.refl _ _).alloc (Nat.le_refl _) _⟩

end Go.Proofs.Ytliflblcieepiac
