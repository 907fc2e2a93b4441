/-
  A word among a law's arguments: read and shown again.
-/
import Derived.Test.YtcilemkeljcidaaDoorRowL
import Derived.ChangeSame
namespace Go.Proofs.YtcilemkeljcidaaDoor
open Go.ChangeShapes Go.WideShapes Go.ChangeAt Go.RowKit
set_option linter.unusedVariables false
set_option maxRecDepth 100000

theorem Tryd.cellsU64 : Tryd.prog.cellsOf 27 = 1 := by kernel_rfl
theorem Tryd.cellsLWord : Tryd.prog.cellsOf 29 = 2 := by kernel_rfl

theorem agg_of_cells {v : Value} {l : List Value} (h : v.cells.toList = l) (hl : 2 ≤ l.length) : v = .agg l.toArray := by
  subst h
  cases v <;> first | (simp [Value.cells] at hl; done) | simp [Value.cells]

theorem open_word {H : Type} {enc : TypeId × Value → H} {w : World} {base : Nat} {sp : Nat → Bool} {held : Bool} {v : Value} {d : DataW H} {ps : List MemPlace} (h : DataW.Trod enc Tryd.prog w base sp held 29 v d ps) :
    ∃ a b : Int, v = .agg #[.int .u64 a, .int .u64 b] ∧ d = .agg [.lit (.int .u64 a), .lit (.int .u64 b)] ∧ ps = [] ∧ (Lit.int .u64 a).wf = true ∧ (Lit.int .u64 b).wf = true := by
  obtain ⟨fuel, hf⟩ := h
  obtain ⟨xs, n, rfl, hx, hl, hxl, hall⟩ := DataW.trod_struct Tryd.underlying29 hf
  rw [Tryd.cellsLWord] at hl
  have f0 : DataW.trod enc Tryd.prog w base sp held n 27 ((v.cells.toList.drop 0).take (Tryd.prog.cellsOf 27)) = xs[0]? := hall 0 _ rfl
  have f1 : DataW.trod enc Tryd.prog w base sp held n 27 ((v.cells.toList.drop 1).take (Tryd.prog.cellsOf 27)) = xs[1]? := hall 1 _ rfl
  rw [Tryd.cellsU64] at f0 f1
  match xs, hxl, hx, f0, f1 with
  | [x0, x1], _, hx, f0, f1 =>
    obtain ⟨z0, e0, y0, k0⟩ := DataW.trod_int Tryd.underlying27 f0
    obtain ⟨z1, e1, y1, k1⟩ := DataW.trod_int Tryd.underlying27 f1
    subst y0; subst y1
    have hv : v.cells.toList = [.int .u64 z0, .int .u64 z1] := by
      generalize v.cells.toList = l at *
      match l, hl with
      | [l0, l1], _ =>
        simp at e0 e1
        rw [e0, e1]
    have := agg_of_cells hv (by simp)
    simp at hx
    exact ⟨z0, z1, this, hx.1, hx.2, k0, k1⟩

theorem shut_word {H : Type} {enc : TypeId × Value → H} {w : World} {base : Nat} {sp : Nat → Bool} {held : Bool} {a b : Int} (ha : (Lit.int .u64 a).wf = true) (hb : (Lit.int .u64 b).wf = true) :
    DataW.Trod enc Tryd.prog w base sp held 29 (.agg #[.int .u64 a, .int .u64 b]) (.agg [.lit (.int .u64 a), .lit (.int .u64 b)]) [] := by
  refine ⟨2, ?_⟩
  refine trod_struct_mk (xs := [(.lit (.int .u64 a), []), (.lit (.int .u64 b), [])]) Tryd.underlying29 (by rw [Tryd.cellsLWord]; rfl) ?_
  simp [DataW.trod, Tryd.underlying27, Tryd.cellsU64, Value.cells, ha, hb]

end Go.Proofs.YtcilemkeljcidaaDoor
