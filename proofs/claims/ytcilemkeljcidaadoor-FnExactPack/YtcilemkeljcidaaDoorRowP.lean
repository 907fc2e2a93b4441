/-
  Parts among a law's arguments: read and shown again.
-/
import Derived.Test.YtcilemkeljcidaaDoorRowW
namespace Go.Proofs.YtcilemkeljcidaaDoor
open Go.ChangeShapes Go.WideShapes Go.ChangeAt Go.RowKit
set_option linter.unusedVariables false
set_option maxRecDepth 100000

theorem Tryd.cellsI64 : Tryd.prog.cellsOf 3 = 1 := by kernel_rfl
theorem Tryd.cellsLParts : Tryd.prog.cellsOf 40 = 5 := by kernel_rfl

theorem open_parts {H : Type} {enc : TypeId × Value → H} {w : World} {base : Nat} {sp : Nat → Bool} {held : Bool} {v : Value} {d : DataW H} {ps : List MemPlace} (h : DataW.Trod enc Tryd.prog w base sp held 40 v d ps) :
    ∃ (c : Int) (n : Bool) (a b q : Int), v = .agg #[.int .i64 c, .bool n, .int .u64 a, .int .u64 b, .int .i64 q] ∧ d = .agg [.lit (.int .i64 c), .lit (.bool n), .agg [.lit (.int .u64 a), .lit (.int .u64 b)], .lit (.int .i64 q)] ∧ ps = [] ∧ (Lit.int .i64 c).wf = true ∧ (Lit.int .u64 a).wf = true ∧ (Lit.int .u64 b).wf = true ∧ (Lit.int .i64 q).wf = true := by
  obtain ⟨fuel, hf⟩ := h
  obtain ⟨xs, n, rfl, hx, hl, hxl, hall⟩ := DataW.trod_struct Tryd.underlying40 hf
  rw [Tryd.cellsLParts] at hl
  have f0 : DataW.trod enc Tryd.prog w base sp held n 3 ((v.cells.toList.drop 0).take (Tryd.prog.cellsOf 3)) = xs[0]? := hall 0 _ rfl
  have f1 : DataW.trod enc Tryd.prog w base sp held n 4 ((v.cells.toList.drop 1).take (Tryd.prog.cellsOf 4)) = xs[1]? := hall 1 _ rfl
  have f2 : DataW.trod enc Tryd.prog w base sp held n 29 ((v.cells.toList.drop 2).take (Tryd.prog.cellsOf 29)) = xs[2]? := hall 2 _ rfl
  have f3 : DataW.trod enc Tryd.prog w base sp held n 3 ((v.cells.toList.drop 4).take (Tryd.prog.cellsOf 3)) = xs[3]? := hall 3 _ rfl
  rw [Tryd.cellsI64] at f0 f3
  rw [Tryd.cellsBool] at f1
  rw [Tryd.cellsLWord] at f2
  match xs, hxl, hx, f0, f1, f2, f3 with
  | [x0, x1, x2, x3], _, hx, f0, f1, f2, f3 =>
    obtain ⟨z0, e0, y0, k0⟩ := DataW.trod_int Tryd.underlying3 f0
    obtain ⟨z1, e1, y1⟩ := DataW.trod_bool Tryd.underlying4 f1
    obtain ⟨z3, e3, y3, k3⟩ := DataW.trod_int Tryd.underlying3 f3
    subst y0; subst y1; subst y3
    obtain ⟨ys, m, rfl, hy, hl2, hyl, hall2⟩ := DataW.trod_struct Tryd.underlying29 f2
    have g0 : DataW.trod enc Tryd.prog w base sp held m 27 ((((v.cells.toList.drop 2).take 2).drop 0).take (Tryd.prog.cellsOf 27)) = ys[0]? := hall2 0 _ rfl
    have g1 : DataW.trod enc Tryd.prog w base sp held m 27 ((((v.cells.toList.drop 2).take 2).drop 1).take (Tryd.prog.cellsOf 27)) = ys[1]? := hall2 1 _ rfl
    rw [Tryd.cellsU64] at g0 g1
    match ys, hyl, hy, g0, g1 with
    | [u0, u1], _, hy, g0, g1 =>
      obtain ⟨t0, r0, s0, j0⟩ := DataW.trod_int Tryd.underlying27 g0
      obtain ⟨t1, r1, s1, j1⟩ := DataW.trod_int Tryd.underlying27 g1
      subst s0; subst s1
      have hv : v.cells.toList = [.int .i64 z0, .bool z1, .int .u64 t0, .int .u64 t1, .int .i64 z3] := by
        generalize v.cells.toList = l at *
        match l, hl with
        | [l0, l1, l2, l3, l4], _ =>
          simp at e0 e1 e3 r0 r1
          rw [e0, e1, e3, r0, r1]
      have := agg_of_cells hv (by simp)
      subst hy
      simp at hx
      exact ⟨z0, z1, t0, t1, z3, this, hx.1, hx.2, k0, j0, j1, k3⟩

theorem shut_parts {H : Type} {enc : TypeId × Value → H} {w : World} {base : Nat} {sp : Nat → Bool} {held : Bool} {c : Int} {n : Bool} {a b q : Int} (hc : (Lit.int .i64 c).wf = true) (ha : (Lit.int .u64 a).wf = true) (hb : (Lit.int .u64 b).wf = true) (hq : (Lit.int .i64 q).wf = true) :
    DataW.Trod enc Tryd.prog w base sp held 40 (.agg #[.int .i64 c, .bool n, .int .u64 a, .int .u64 b, .int .i64 q]) (.agg [.lit (.int .i64 c), .lit (.bool n), .agg [.lit (.int .u64 a), .lit (.int .u64 b)], .lit (.int .i64 q)]) [] := by
  refine ⟨3, ?_⟩
  refine trod_struct_mk (xs := [(.lit (.int .i64 c), []), (.lit (.bool n), []), (.agg [.lit (.int .u64 a), .lit (.int .u64 b)], []), (.lit (.int .i64 q), [])]) Tryd.underlying40 (by rw [Tryd.cellsLParts]; rfl) ?_
  have hwd : DataW.trod enc Tryd.prog w base sp held 2 29 [.int .u64 a, .int .u64 b] = some (.agg [.lit (.int .u64 a), .lit (.int .u64 b)], []) := by
    refine trod_struct_mk (xs := [(.lit (.int .u64 a), []), (.lit (.int .u64 b), [])]) Tryd.underlying29 (by rw [Tryd.cellsLWord]; rfl) ?_
    simp [DataW.trod, Tryd.underlying27, Tryd.cellsU64, ha, hb]
  have h0 : DataW.trod enc Tryd.prog w base sp held 2 3 [.int .i64 c] = some (.lit (.int .i64 c), []) := by simp [DataW.trod, Tryd.underlying3, hc]
  have h1 : DataW.trod enc Tryd.prog w base sp held 2 4 [.bool n] = some (.lit (.bool n), []) := by simp [DataW.trod, Tryd.underlying4]
  have h3 : DataW.trod enc Tryd.prog w base sp held 2 3 [.int .i64 q] = some (.lit (.int .i64 q), []) := by simp [DataW.trod, Tryd.underlying3, hq]
  simp [Tryd.cellsI64, Tryd.cellsBool, Tryd.cellsLWord, Value.cells, h0, h1, h3, hwd]

end Go.Proofs.YtcilemkeljcidaaDoor
