import Derived.Test.YtchfkmompciooaaSh1
import Derived.OpenShut
import Derived.Deep.CutBlock
import Derived.Deep.DeepCutAuto
import Derived.ProofKit
import Derived.ChangeOld
import Derived.Below
import Derived.ChangeSame
import Derived.Deep.RegionHeld3
namespace Go.Proofs.Ytchfkmompciooaa
open Go.ChangeShapes Go.WideShapes Go.ChangeAt Go.RowKit
set_option linter.unusedVariables false

theorem keepS {w1 W v : World} (h : Below w1.heap.size w1 W) (k : Below W.heap.size W v) : Below w1.heap.size w1 v := h.trans (k.mono h.size)

set_option maxRecDepth 10000 in
set_option maxHeartbeats 4000000 in
theorem lawShardOf (a b k n : Int) (w : World) :
    Calls Try.prog 3 #[.agg #[.int .i64 a, .int .i64 b], .agg #[.int .i64 k, .int .i64 n]] w fun r w' => r = .returned (.bool true) ∧ Below w.heap.size w w' := by
  have kS := fun v : World => sshard_any a b k n v
  have kI := fun v : World => ishard_any a b k n v
  generalize (if cfgOk a b ∧ keyOk k n then ((k + 5200) * 7 + n).tmod a else -1) = r at *
  go_enter Try.func3, Try.ntmps3
  go_wp2_with fail
  have b0 : Below w.heap.size w ((w.alloc (.cells #[.int .i64 a, .int .i64 b] 23)).alloc (.cells #[.int .i64 k, .int .i64 n] 25)) := ((Below.refl w.heap.size w).alloc (Nat.le_refl _) _).alloc (by simp) _
  generalize hw1 : ((w.alloc (.cells #[.int .i64 a, .int .i64 b] 23)).alloc (.cells #[.int .i64 k, .int .i64 n] 25)) = w1 at *
  have x0 : w1.cell? ⟨w.heap.size, 0, none⟩ = some (.int .i64 a) := by rw [← hw1]; simp [go_sem]
  have x1 : w1.cell? ⟨w.heap.size, 1, none⟩ = some (.int .i64 b) := by rw [← hw1]; simp [go_sem]
  have y0 : w1.cell? ⟨w.heap.size + 1, 0, none⟩ = some (.int .i64 k) := by rw [← hw1]; simp [go_sem]
  have y1 : w1.cell? ⟨w.heap.size + 1, 1, none⟩ = some (.int .i64 n) := by rw [← hw1]; simp [go_sem]
  have n1 : w.heap.size + 1 < w1.heap.size := by rw [← hw1]; simp
  clear hw1
  have KH : ∀ v, Below w1.heap.size w1 v → (fun v => v.cell? ⟨w.heap.size, 0, none⟩ = some (.int .i64 a) ∧ v.cell? ⟨w.heap.size, 1, none⟩ = some (.int .i64 b) ∧ v.cell? ⟨w.heap.size + 1, 0, none⟩ = some (.int .i64 k) ∧ v.cell? ⟨w.heap.size + 1, 1, none⟩ = some (.int .i64 n)) v := fun v hv => ⟨(hv.cell (by simp only; omega)).trans x0, (hv.cell (by simp only; omega)).trans x1, (hv.cell n1).trans y0, (hv.cell n1).trans y1⟩
  clear x0 x1 y0 y1
  have A0 : Below w1.heap.size w1 w1.drew := (Below.refl _ _).drew
  go_region_held3 (fun v => v.cell? ⟨w.heap.size, 0, none⟩ = some (.int .i64 a) ∧ v.cell? ⟨w.heap.size, 1, none⟩ = some (.int .i64 b) ∧ v.cell? ⟨w.heap.size + 1, 0, none⟩ = some (.int .i64 k) ∧ v.cell? ⟨w.heap.size + 1, 1, none⟩ = some (.int .i64 n)) (first | with_reducible exact KH _ hb3 | with_reducible exact KH _ hb2 | with_reducible exact KH _ hb1 | with_reducible exact KH _ A0)
    (first | (have hq := hb2; clear hq; go_at_call 9; refine (kS _).mono ?_; rintro e u3 ⟨rfl, hb0⟩; have hb3 := keepS (w1 := w1) hb2 hb0; clear hb0) | (have hq := hb1; clear hq; go_at_call 11; refine (toKey_any k n _).mono ?_; rintro e u2 ⟨rfl, hb0⟩; have hb2 := keepS (w1 := w1) hb1 hb0; clear hb0) | (go_at_call 10; refine (toCacheConfig_any a b _).mono ?_; rintro e u1 ⟨rfl, hb0⟩; have hb1 := keepS (w1 := w1) A0 hb0; clear hb0))
  all_goals go_upto_region 2 with fail
  have BB : Below w.heap.size w u3 := b0.trans (hb3.mono b0.size)
  replace KH : ∀ v, Below u3.heap.size u3 v → (fun v => v.cell? ⟨w.heap.size, 0, none⟩ = some (.int .i64 a) ∧ v.cell? ⟨w.heap.size, 1, none⟩ = some (.int .i64 b) ∧ v.cell? ⟨w.heap.size + 1, 0, none⟩ = some (.int .i64 k) ∧ v.cell? ⟨w.heap.size + 1, 1, none⟩ = some (.int .i64 n)) v := fun v hv => KH v (keepS hb3 hv)
  clear hb1 hb2 hb3 A0 kS b0
  have A0 : Below u3.heap.size u3 u3.drew := (Below.refl _ _).drew
  go_region_held3 (fun v => v.cell? ⟨w.heap.size, 0, none⟩ = some (.int .i64 a) ∧ v.cell? ⟨w.heap.size, 1, none⟩ = some (.int .i64 b) ∧ v.cell? ⟨w.heap.size + 1, 0, none⟩ = some (.int .i64 k) ∧ v.cell? ⟨w.heap.size + 1, 1, none⟩ = some (.int .i64 n)) (first | with_reducible exact KH _ hb3 | with_reducible exact KH _ hb2 | with_reducible exact KH _ hb1 | with_reducible exact KH _ A0)
    (first | (have hq := hb2; clear hq; go_at_call 12; refine (kI _).mono ?_; rintro e u6 ⟨rfl, hb0⟩; have hb3 := keepS (w1 := u3) hb2 hb0; clear hb0) | (have hq := hb1; clear hq; go_at_call 11; refine (toKey_any k n _).mono ?_; rintro e u5 ⟨rfl, hb0⟩; have hb2 := keepS (w1 := u3) hb1 hb0; clear hb0) | (go_at_call 10; refine (toCacheConfig_any a b _).mono ?_; rintro e u4 ⟨rfl, hb0⟩; have hb1 := keepS (w1 := u3) A0 hb0; clear hb0))
  have hne : (r != r) = false := by simp
  all_goals go_wp2_with fail
  all_goals go_ret
  all_goals exact ⟨rfl, BB.trans (hb3.mono BB.size)⟩

set_option maxRecDepth 10000 in
set_option maxHeartbeats 4000000 in
theorem lawHomeOf (a b k n : Int) (w : World) :
    Calls Try.prog 4 #[.agg #[.int .i64 a, .int .i64 b], .agg #[.int .i64 k, .int .i64 n]] w fun r w' => r = .returned (.bool true) ∧ Below w.heap.size w w' := by
  have kS := fun v : World => shome_any a b k n v
  have kI := fun v : World => ihome_any a b k n v
  generalize (if cfgOk a b ∧ keyOk k n then (k + 5200 + 3 * n).tmod b else -1) = r at *
  go_enter Try.func4, Try.ntmps4
  go_wp2_with fail
  have b0 : Below w.heap.size w ((w.alloc (.cells #[.int .i64 a, .int .i64 b] 23)).alloc (.cells #[.int .i64 k, .int .i64 n] 25)) := ((Below.refl w.heap.size w).alloc (Nat.le_refl _) _).alloc (by simp) _
  generalize hw1 : ((w.alloc (.cells #[.int .i64 a, .int .i64 b] 23)).alloc (.cells #[.int .i64 k, .int .i64 n] 25)) = w1 at *
  have x0 : w1.cell? ⟨w.heap.size, 0, none⟩ = some (.int .i64 a) := by rw [← hw1]; simp [go_sem]
  have x1 : w1.cell? ⟨w.heap.size, 1, none⟩ = some (.int .i64 b) := by rw [← hw1]; simp [go_sem]
  have y0 : w1.cell? ⟨w.heap.size + 1, 0, none⟩ = some (.int .i64 k) := by rw [← hw1]; simp [go_sem]
  have y1 : w1.cell? ⟨w.heap.size + 1, 1, none⟩ = some (.int .i64 n) := by rw [← hw1]; simp [go_sem]
  have n1 : w.heap.size + 1 < w1.heap.size := by rw [← hw1]; simp
  clear hw1
  have KH : ∀ v, Below w1.heap.size w1 v → (fun v => v.cell? ⟨w.heap.size, 0, none⟩ = some (.int .i64 a) ∧ v.cell? ⟨w.heap.size, 1, none⟩ = some (.int .i64 b) ∧ v.cell? ⟨w.heap.size + 1, 0, none⟩ = some (.int .i64 k) ∧ v.cell? ⟨w.heap.size + 1, 1, none⟩ = some (.int .i64 n)) v := fun v hv => ⟨(hv.cell (by simp only; omega)).trans x0, (hv.cell (by simp only; omega)).trans x1, (hv.cell n1).trans y0, (hv.cell n1).trans y1⟩
  clear x0 x1 y0 y1
  have A0 : Below w1.heap.size w1 w1.drew := (Below.refl _ _).drew
  go_region_held3 (fun v => v.cell? ⟨w.heap.size, 0, none⟩ = some (.int .i64 a) ∧ v.cell? ⟨w.heap.size, 1, none⟩ = some (.int .i64 b) ∧ v.cell? ⟨w.heap.size + 1, 0, none⟩ = some (.int .i64 k) ∧ v.cell? ⟨w.heap.size + 1, 1, none⟩ = some (.int .i64 n)) (first | with_reducible exact KH _ hb3 | with_reducible exact KH _ hb2 | with_reducible exact KH _ hb1 | with_reducible exact KH _ A0)
    (first | (have hq := hb2; clear hq; go_at_call 13; refine (kS _).mono ?_; rintro e u3 ⟨rfl, hb0⟩; have hb3 := keepS (w1 := w1) hb2 hb0; clear hb0) | (have hq := hb1; clear hq; go_at_call 11; refine (toKey_any k n _).mono ?_; rintro e u2 ⟨rfl, hb0⟩; have hb2 := keepS (w1 := w1) hb1 hb0; clear hb0) | (go_at_call 10; refine (toCacheConfig_any a b _).mono ?_; rintro e u1 ⟨rfl, hb0⟩; have hb1 := keepS (w1 := w1) A0 hb0; clear hb0))
  all_goals go_upto_region 2 with fail
  have BB : Below w.heap.size w u3 := b0.trans (hb3.mono b0.size)
  replace KH : ∀ v, Below u3.heap.size u3 v → (fun v => v.cell? ⟨w.heap.size, 0, none⟩ = some (.int .i64 a) ∧ v.cell? ⟨w.heap.size, 1, none⟩ = some (.int .i64 b) ∧ v.cell? ⟨w.heap.size + 1, 0, none⟩ = some (.int .i64 k) ∧ v.cell? ⟨w.heap.size + 1, 1, none⟩ = some (.int .i64 n)) v := fun v hv => KH v (keepS hb3 hv)
  clear hb1 hb2 hb3 A0 kS b0
  have A0 : Below u3.heap.size u3 u3.drew := (Below.refl _ _).drew
  go_region_held3 (fun v => v.cell? ⟨w.heap.size, 0, none⟩ = some (.int .i64 a) ∧ v.cell? ⟨w.heap.size, 1, none⟩ = some (.int .i64 b) ∧ v.cell? ⟨w.heap.size + 1, 0, none⟩ = some (.int .i64 k) ∧ v.cell? ⟨w.heap.size + 1, 1, none⟩ = some (.int .i64 n)) (first | with_reducible exact KH _ hb3 | with_reducible exact KH _ hb2 | with_reducible exact KH _ hb1 | with_reducible exact KH _ A0)
    (first | (have hq := hb2; clear hq; go_at_call 14; refine (kI _).mono ?_; rintro e u6 ⟨rfl, hb0⟩; have hb3 := keepS (w1 := u3) hb2 hb0; clear hb0) | (have hq := hb1; clear hq; go_at_call 11; refine (toKey_any k n _).mono ?_; rintro e u5 ⟨rfl, hb0⟩; have hb2 := keepS (w1 := u3) hb1 hb0; clear hb0) | (go_at_call 10; refine (toCacheConfig_any a b _).mono ?_; rintro e u4 ⟨rfl, hb0⟩; have hb1 := keepS (w1 := u3) A0 hb0; clear hb0))
  have hne : (r != r) = false := by simp
  all_goals go_wp2_with fail
  all_goals go_ret
  all_goals exact ⟨rfl, BB.trans (hb3.mono BB.size)⟩

theorem Try.cellsI64 : Try.prog.cellsOf 3 = 1 := by kernel_rfl
theorem Try.cellsLCfg : Try.prog.cellsOf 23 = 2 := by kernel_rfl
theorem Try.cellsLKey : Try.prog.cellsOf 25 = 2 := by kernel_rfl

theorem agg_of2 {v : Value} {l : List Value} (h : v.cells.toList = l) (hl : 2 ≤ l.length) : v = .agg l.toArray := by
  subst h
  cases v <;> first | (simp [Value.cells] at hl; done) | simp [Value.cells]

theorem open_cfg {H : Type} {enc : TypeId × Value → H} {w : World} {base : Nat} {sp : Nat → Bool} {held : Bool} {v : Value} {d : DataW H} {ps : List MemPlace} (h : DataW.Trod enc Try.prog w base sp held 23 v d ps) :
    ∃ a b : Int, v = .agg #[.int .i64 a, .int .i64 b] ∧ d = .agg [.lit (.int .i64 a), .lit (.int .i64 b)] ∧ ps = [] ∧ (Lit.int .i64 a).wf = true ∧ (Lit.int .i64 b).wf = true := by
  obtain ⟨fuel, hf⟩ := h
  obtain ⟨xs, n, rfl, hx, hl, hxl, hall⟩ := DataW.trod_struct Try.underlying23 hf
  rw [Try.cellsLCfg] at hl
  have f0 : DataW.trod enc Try.prog w base sp held n 3 ((v.cells.toList.drop 0).take (Try.prog.cellsOf 3)) = xs[0]? := hall 0 _ rfl
  have f1 : DataW.trod enc Try.prog w base sp held n 3 ((v.cells.toList.drop 1).take (Try.prog.cellsOf 3)) = xs[1]? := hall 1 _ rfl
  rw [Try.cellsI64] at f0 f1
  match xs, hxl, hx, f0, f1 with
  | [x0, x1], _, hx, f0, f1 =>
    obtain ⟨z0, e0, y0, k0⟩ := DataW.trod_int Try.underlying3 f0
    obtain ⟨z1, e1, y1, k1⟩ := DataW.trod_int Try.underlying3 f1
    subst y0; subst y1
    have hv : v.cells.toList = [.int .i64 z0, .int .i64 z1] := by
      generalize v.cells.toList = l at *
      match l, hl with
      | [l0, l1], _ =>
        simp at e0 e1
        rw [e0, e1]
    have := agg_of2 hv (by simp)
    simp at hx
    exact ⟨z0, z1, this, hx.1, hx.2, k0, k1⟩

theorem shut_cfg {H : Type} {enc : TypeId × Value → H} {w : World} {base : Nat} {sp : Nat → Bool} {held : Bool} {a b : Int} (ha : (Lit.int .i64 a).wf = true) (hb : (Lit.int .i64 b).wf = true) :
    DataW.Trod enc Try.prog w base sp held 23 (.agg #[.int .i64 a, .int .i64 b]) (.agg [.lit (.int .i64 a), .lit (.int .i64 b)]) [] := by
  refine ⟨2, ?_⟩
  refine trod_struct_mk (xs := [(.lit (.int .i64 a), []), (.lit (.int .i64 b), [])]) Try.underlying23 (by rw [Try.cellsLCfg]; rfl) ?_
  simp [DataW.trod, Try.underlying3, Try.cellsI64, Value.cells, ha, hb]

theorem open_key {H : Type} {enc : TypeId × Value → H} {w : World} {base : Nat} {sp : Nat → Bool} {held : Bool} {v : Value} {d : DataW H} {ps : List MemPlace} (h : DataW.Trod enc Try.prog w base sp held 25 v d ps) :
    ∃ a b : Int, v = .agg #[.int .i64 a, .int .i64 b] ∧ d = .agg [.lit (.int .i64 a), .lit (.int .i64 b)] ∧ ps = [] ∧ (Lit.int .i64 a).wf = true ∧ (Lit.int .i64 b).wf = true := by
  obtain ⟨fuel, hf⟩ := h
  obtain ⟨xs, n, rfl, hx, hl, hxl, hall⟩ := DataW.trod_struct Try.underlying25 hf
  rw [Try.cellsLKey] at hl
  have f0 : DataW.trod enc Try.prog w base sp held n 3 ((v.cells.toList.drop 0).take (Try.prog.cellsOf 3)) = xs[0]? := hall 0 _ rfl
  have f1 : DataW.trod enc Try.prog w base sp held n 3 ((v.cells.toList.drop 1).take (Try.prog.cellsOf 3)) = xs[1]? := hall 1 _ rfl
  rw [Try.cellsI64] at f0 f1
  match xs, hxl, hx, f0, f1 with
  | [x0, x1], _, hx, f0, f1 =>
    obtain ⟨z0, e0, y0, k0⟩ := DataW.trod_int Try.underlying3 f0
    obtain ⟨z1, e1, y1, k1⟩ := DataW.trod_int Try.underlying3 f1
    subst y0; subst y1
    have hv : v.cells.toList = [.int .i64 z0, .int .i64 z1] := by
      generalize v.cells.toList = l at *
      match l, hl with
      | [l0, l1], _ =>
        simp at e0 e1
        rw [e0, e1]
    have := agg_of2 hv (by simp)
    simp at hx
    exact ⟨z0, z1, this, hx.1, hx.2, k0, k1⟩

theorem shut_key {H : Type} {enc : TypeId × Value → H} {w : World} {base : Nat} {sp : Nat → Bool} {held : Bool} {a b : Int} (ha : (Lit.int .i64 a).wf = true) (hb : (Lit.int .i64 b).wf = true) :
    DataW.Trod enc Try.prog w base sp held 25 (.agg #[.int .i64 a, .int .i64 b]) (.agg [.lit (.int .i64 a), .lit (.int .i64 b)]) [] := by
  refine ⟨2, ?_⟩
  refine trod_struct_mk (xs := [(.lit (.int .i64 a), []), (.lit (.int .i64 b), [])]) Try.underlying25 (by rw [Try.cellsLKey]; rfl) ?_
  simp [DataW.trod, Try.underlying3, Try.cellsI64, Value.cells, ha, hb]

end Go.Proofs.Ytchfkmompciooaa
