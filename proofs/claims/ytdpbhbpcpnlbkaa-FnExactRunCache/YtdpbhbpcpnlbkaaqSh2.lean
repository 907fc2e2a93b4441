import Derived.Test.YtdpbhbpcpnlbkaaRows
import Derived.WalkKit
import Derived.WalkSpells
import Derived.WalkLawsBesides
import Derived.Deep.QuietTactic
import Derived.BigQuiet
import Derived.Below
import Derived.OpenShut
import Derived.Deep.CutBlock
import Derived.Deep.DeepCutAuto
import Derived.ProofKit
import Derived.ChangeOld
import Derived.ChangeSame
import Derived.Deep.RegionHeld3
namespace Go.Proofs.Ytdpbhbpcpnlbkaa
open Go.ChangeShapes Go.WideShapes Go.ChangeAt Go.RowKit
set_option linter.unusedVariables false
set_option maxRecDepth 100000
theorem Try.cellsI64 : Try.prog.cellsOf 3 = 1 := by kernel_rfl

theorem Try.cellsLCfg : Try.prog.cellsOf 41 = 2 := by kernel_rfl

theorem Try.cellsLKey : Try.prog.cellsOf 126 = 2 := by kernel_rfl

theorem agg_of2 {v : Value} {l : List Value} (h : v.cells.toList = l) (hl : 2 ≤ l.length) : v = .agg l.toArray := by
 subst h
 cases v <;> first | (simp [Value.cells] at hl; done) | simp [Value.cells]

theorem open_cfg {H : Type} {enc : TypeId × Value → H} {w : World} {base : Nat} {sp : Nat → Bool} {held : Bool} {v : Value} {d : DataW H} {ps : List MemPlace} (h : DataW.Trod enc Try.prog w base sp held 41 v d ps) :
 ∃ a b : Int, v = .agg #[.int .i64 a, .int .i64 b] ∧ d = .agg [.lit (.int .i64 a), .lit (.int .i64 b)] ∧ ps = [] ∧ (Lit.int .i64 a).wf = true ∧ (Lit.int .i64 b).wf = true := by
 obtain ⟨fuel, hf⟩ := h
 obtain ⟨xs, n, rfl, hx, hl, hxl, hall⟩ := DataW.trod_struct Try.underlying41 hf
 rw [Try.cellsLCfg] at hl
 have f0 : DataW.trod enc Try.prog w base sp held n 3 ((v.cells.toList.drop 0).take (Try.prog.cellsOf 3)) = xs[0]? := hall 0 _ rfl
 have f1 : DataW.trod enc Try.prog w base sp held n 3 ((v.cells.toList.drop 1).take (Try.prog.cellsOf 3)) = xs[1]? := hall 1 _ rfl
 rw [Try.cellsI64] at f0 f1
 match xs, hxl, hx, f0, f1 with
 | [x0, x1], _, hx, f0, f1 =>
   obtain ⟨z0, e0, y0, k0⟩ := DataW.trod_int Try.underlying3 f0
   obtain ⟨z1, e1, y1, k1⟩ := DataW.trod_int Try.underlying3 f1
   subst y0; subst y1
   have hv : v.cells.toList = [.int .i64 z0, .int .i64 z1] := by
    generalize v.cells.toList = l at *
    match l, hl with
    | [l0, l1], _ =>
      simp at e0 e1
      rw [e0, e1]
   have := agg_of2 hv (by simp)
   simp at hx
   exact ⟨z0, z1, this, hx.1, hx.2, k0, k1⟩

theorem shut_cfg {H : Type} {enc : TypeId × Value → H} {w : World} {base : Nat} {sp : Nat → Bool} {held : Bool} {a b : Int} (ha : (Lit.int .i64 a).wf = true) (hb : (Lit.int .i64 b).wf = true) :
 DataW.Trod enc Try.prog w base sp held 41 (.agg #[.int .i64 a, .int .i64 b]) (.agg [.lit (.int .i64 a), .lit (.int .i64 b)]) [] := by
 refine ⟨2, ?_⟩
 refine trod_struct_mk (xs := [(.lit (.int .i64 a), []), (.lit (.int .i64 b), [])]) Try.underlying41 (by rw [Try.cellsLCfg]; rfl) ?_
 simp [DataW.trod, Try.underlying3, Try.cellsI64, Value.cells, ha, hb]

end Go.Proofs.Ytdpbhbpcpnlbkaa
