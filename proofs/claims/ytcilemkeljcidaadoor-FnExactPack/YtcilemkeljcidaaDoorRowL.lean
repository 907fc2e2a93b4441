/-
  From the row's list of the table of formats to its cells, and the witness.
-/
import Derived.Test.YtcilemkeljcidaaDoorCards
import Derived.Test.YtcilemkeljcidaaDoorTie
import Derived.Test.YtcilemkeljcidaaDoorFd1
import Derived.ProofKit
import Derived.OpenShut
import Derived.Deep.DeepHandedRow
import Derived.Lib.LaidTab
import Derived.Lib.LaidU8
import Derived.ChangeOld
import Derived.Below
namespace Go.Proofs.YtcilemkeljcidaaDoor
open Go.ChangeShapes Go.WideShapes Go.ChangeAt Go.RowKit
set_option linter.unusedVariables false
set_option maxRecDepth 100000

theorem Tryd.own : ownKnob Tryd.prog.godebug = none := by kernel_rfl
theorem Tryd.gFmt : Tryd.prog.globalNamed "loop.example/s01493/impl.formats" = some 0 := by kernel_rfl
theorem Tryd.gFmtType : (Tryd.prog.globals[0]?).map (·.type) = some 48 := by kernel_rfl
theorem Tryd.cellsInt : Tryd.prog.cellsOf 3 = 1 := by kernel_rfl
theorem Tryd.cellsBool : Tryd.prog.cellsOf 4 = 1 := by kernel_rfl
theorem Tryd.cellsDesc : Tryd.prog.cellsOf 23 = 6 := by kernel_rfl
theorem Tryd.cellsFmts : Tryd.prog.cellsOf 48 = 24 := by kernel_rfl

theorem take1 {l : List Value} {k : Nat} {v : Value} (h : (l.drop k).take 1 = [v]) : l[k]? = some v := by
  have := congrArg (·[0]?) h
  simpa [List.getElem?_take, List.getElem?_drop] using this

/-- A description that reads so holds it, cell for cell. -/
theorem desc6 {H : Type} {enc : TypeId × Value → H} {w : World} {base : Nat} {sp : Nat → Bool} {held : Bool} {fuel : Nat} {l : List Value} {a b c d e : Int} {x : Bool} {p : List MemPlace}
    (h : DataW.trod enc Tryd.prog w base sp held fuel 23 l = some (.agg [.lit (.int .i64 a), .lit (.int .i64 b), .lit (.int .i64 c), .lit (.int .i64 d), .lit (.int .i64 e), .lit (.bool x)], p)) :
    l = [.int .i64 a, .int .i64 b, .int .i64 c, .int .i64 d, .int .i64 e, .bool x] := by
  obtain ⟨xs, n, rfl, hx, hl, hxl, hall⟩ := DataW.trod_struct Tryd.underlying23 h
  rw [Tryd.cellsDesc] at hl
  have f0 : DataW.trod enc Tryd.prog w base sp held n 3 ((l.drop 0).take (Tryd.prog.cellsOf 3)) = xs[0]? := hall 0 _ rfl
  have f1 : DataW.trod enc Tryd.prog w base sp held n 3 ((l.drop 1).take (Tryd.prog.cellsOf 3)) = xs[1]? := hall 1 _ rfl
  have f2 : DataW.trod enc Tryd.prog w base sp held n 3 ((l.drop 2).take (Tryd.prog.cellsOf 3)) = xs[2]? := hall 2 _ rfl
  have f3 : DataW.trod enc Tryd.prog w base sp held n 3 ((l.drop 3).take (Tryd.prog.cellsOf 3)) = xs[3]? := hall 3 _ rfl
  have f4 : DataW.trod enc Tryd.prog w base sp held n 3 ((l.drop 4).take (Tryd.prog.cellsOf 3)) = xs[4]? := hall 4 _ rfl
  have f5 : DataW.trod enc Tryd.prog w base sp held n 4 ((l.drop 5).take (Tryd.prog.cellsOf 4)) = xs[5]? := hall 5 _ rfl
  match xs, hxl, hx, f0, f1, f2, f3, f4, f5 with
  | [x0, x1, x2, x3, x4, x5], _, hx, f0, f1, f2, f3, f4, f5 =>
    simp only [List.map_cons, List.map_nil, Prod.mk.injEq, DataW.agg.injEq, List.cons.injEq, and_true] at hx
    obtain ⟨⟨g0, g1, g2, g3, g4, g5⟩, _⟩ := hx
    rw [Tryd.cellsInt] at f0 f1 f2 f3 f4
    rw [Tryd.cellsBool] at f5
    obtain ⟨z0, e0, y0, _⟩ := DataW.trod_int Tryd.underlying3 f0
    obtain ⟨z1, e1, y1, _⟩ := DataW.trod_int Tryd.underlying3 f1
    obtain ⟨z2, e2, y2, _⟩ := DataW.trod_int Tryd.underlying3 f2
    obtain ⟨z3, e3, y3, _⟩ := DataW.trod_int Tryd.underlying3 f3
    obtain ⟨z4, e4, y4, _⟩ := DataW.trod_int Tryd.underlying3 f4
    obtain ⟨z5, e5, y5⟩ := DataW.trod_bool Tryd.underlying4 f5
    subst y0; subst y1; subst y2; subst y3; subst y4; subst y5
    simp only [DataW.lit.injEq, Lit.int.injEq, Lit.bool.injEq, true_and] at g0 g1 g2 g3 g4 g5
    subst g0; subst g1; subst g2; subst g3; subst g4; subst g5
    match l, hl with
    | [l0, l1, l2, l3, l4, l5], _ =>
      simp at e0 e1 e2 e3 e4 e5
      rw [e0, e1, e2, e3, e4, e5]

/-- What the row's list gives: the variable's cells. -/
theorem var_of_laid {W : World} (h : laidMetH Tryd.prog [("loop.example/s01493/impl.formats", Rows.laid_loop_example_s01493_impl_formats)] W) :
    W.var? Tryd.prog "loop.example/s01493/impl.formats" = some fmtC := by
  rw [MakeChecks.laidMetH_plain _ _ _ (by kernel_rfl)] at h
  obtain ⟨g, t, cs, fuel, p, h1, h2, h3, h4⟩ := Lib.laidMet.reads h (List.mem_singleton.2 rfl)
  obtain rfl := Option.some.inj (Tryd.gFmt.symm.trans h1)
  obtain rfl := Option.some.inj (Tryd.gFmtType.symm.trans h2)
  rw [h3]
  have hlen : cs.toList.length = 24 := by
    obtain ⟨xs, m, rfl, hx, hl, hn, hel⟩ := DataW.trod_array Tryd.underlying48 h4
    rw [hl, Tryd.cellsFmts]
  obtain ⟨f0, d0, q0, e0, t0⟩ := Lib.array_elem Tryd.underlying48 h4 0 (by decide)
  obtain ⟨f1, d1, q1, e1, t1⟩ := Lib.array_elem Tryd.underlying48 h4 1 (by decide)
  obtain ⟨f2, d2, q2, e2, t2⟩ := Lib.array_elem Tryd.underlying48 h4 2 (by decide)
  obtain ⟨f3, d3, q3, e3, t3⟩ := Lib.array_elem Tryd.underlying48 h4 3 (by decide)
  rw [Tryd.cellsDesc] at t0 t1 t2 t3
  obtain rfl := Option.some.inj e0
  obtain rfl := Option.some.inj e1
  obtain rfl := Option.some.inj e2
  obtain rfl := Option.some.inj e3
  have k0 := desc6 t0
  have k1 := desc6 t1
  have k2 := desc6 t2
  have k3 := desc6 t3
  clear t0 t1 t2 t3 h4 h1 h2 h3 h e0 e1 e2 e3
  obtain ⟨l⟩ := cs
  simp only at hlen k0 k1 k2 k3
  have e : l = l.take 6 ++ ((l.drop 6).take 6 ++ ((l.drop 12).take 6 ++ (l.drop 18).take 6)) := by
    have a1 : (l.drop 18).take 6 = l.drop 18 := List.take_of_length_le (by simp; omega)
    have a2 : l.drop 18 = (l.drop 12).drop 6 := by simp
    have a3 : l.drop 12 = (l.drop 6).drop 6 := by simp
    rw [a1, a2, List.take_append_drop, a3, List.take_append_drop, List.take_append_drop]
  simp at k0 k1 k2 k3
  rw [k0, k1, k2, k3] at e
  rw [e]
  rfl

theorem fmt_of_var {W : World} (h : W.var? Tryd.prog "loop.example/s01493/impl.formats" = some fmtC) : Fmt W := by
  have hc := fun i => World.var?_cell Tryd.gFmt h i
  refine ⟨?_, fun j hj => hc j⟩
  exact World.block_lt_of_cell? W ⟨0, 0, none⟩ (hc 0)

/-- How the variable reads, in every world that holds it. -/
theorem fmt_reads {H : Type} (enc : TypeId × Value → H) (W : World) (sp : Nat → Bool) (held : Bool) :
    DataW.trod enc Tryd.prog W 0 sp held 8 48 fmtC.toList = some (Rows.laid_loop_example_s01493_impl_formats, []) := by kernel_rfl

theorem fmt_vars {H : Type} (enc : TypeId × Value → H) {W : World} (h : W.var? Tryd.prog "loop.example/s01493/impl.formats" = some fmtC) (sp : Nat → Bool) :
    DataW.TrodVars enc Tryd.prog W sp ["loop.example/s01493/impl.formats"] [Rows.laid_loop_example_s01493_impl_formats] (MemPlace.row ⟨0, 0, none⟩ 24 ++ [] ++ []) :=
  ⟨0, 48, fmtC, 8, [], [], Tryd.gFmt, Tryd.gFmtType, h, fmt_reads enc W sp true, rfl, rfl⟩

theorem var_below {W W' : World} (h : W.var? Tryd.prog "loop.example/s01493/impl.formats" = some fmtC) (hb : Below W.heap.size W W') : W'.var? Tryd.prog "loop.example/s01493/impl.formats" = some fmtC := by
  have hlt := (fmt_of_var h).1
  unfold World.var? at h ⊢
  simp only [Tryd.gFmt, Option.bind_some] at h ⊢
  rw [hb.block 0 hlt]
  exact h

/-- A world for the witness: the settled one, the table holding what its initialiser lays. -/
noncomputable def laidWorld (os : Os) : World :=
  { World.holding Tryd.prog os ⟨#[], #[], []⟩ with heap := (World.holding Tryd.prog os ⟨#[], #[], []⟩).heap.modify 0 fun
      | .cells _ t frozen => .cells fmtC t frozen
      | o => o }

end Go.Proofs.YtcilemkeljcidaaDoor
