import Derived.Test.YtcilemkeljcidaaDoorPk1
namespace Go.Proofs.YtcilemkeljcidaaDoor
open Go.RowKit
set_option linter.unusedVariables false
set_option maxRecDepth 100000

theorem fb_lt {F : M.Fm} (h : F.Ok) : F.fb < 128 := by
  have := h.p2
  unfold M.Fm.fb
  split <;> omega
theorem wd_pos {F : M.Fm} (h : F.Ok) : 1 ≤ F.wd := by
  unfold M.Fm.wd; omega
theorem lead_lt {F : M.Fm} (h : F.Ok) : F.lead < 2 ^ 128 := by
  have := h.p2
  unfold M.Fm.lead
  exact Nat.pow_lt_pow_right (by omega) (by omega)

theorem jshl (F : M.Fm) (h : F.Ok) (fld : Int) (v : World) : Calls Tryd.prog 54 #[.agg #[.int .u64 0, .int .u64 (IntKind.u64.wrap fld)], .int .i64 (F.fb : Int)] v fun e w' => e = .returned (.agg #[.int .u64 (M.hiN (uw fld * 2 ^ F.fb % 2 ^ 128) : Int), .int .u64 (M.loN (uw fld * 2 ^ F.fb % 2 ^ 128) : Int)]) ∧ Below v.heap.size v w' := by
  obtain ⟨e1, e2⟩ := uw_eq fld
  have k := wshl (uw fld) F.fb v (by omega) (fb_lt h) _ rfl
  have h1 : M.hiN (uw fld) = 0 := by unfold M.hiN; omega
  have h2 : M.loN (uw fld) = uw fld := by unfold M.loN; omega
  rw [h1, h2] at k
  rw [e1]
  exact k

theorem djoin (F : M.Fm) (h : F.Ok) (n : Bool) (fld : Int) (sg : Nat) (hsg : sg < 2 ^ 128) (w : World) :
    Calls Tryd.prog 60 #[.agg #[.int .i64 (F.p : Int), .int .i64 (1 - (F.emax : Int)), .int .i64 (F.emax : Int), .int .i64 (F.wd : Int), .int .i64 (F.e : Int), .bool F.x], .bool n, .int .i64 fld, .agg #[.int .u64 (M.hiN sg : Int), .int .u64 (M.loN sg : Int)]] w fun e w' => e = .returned (.agg #[.int .u64 (M.hiN (jn F n fld sg) : Int), .int .u64 (M.loN (jn F n fld sg) : Int)]) ∧ Below w.heap.size w w' := by
  have kF := fun v : World => dFrac F h v
  have kL := fun v : World => dLead F h v
  have hjs := js_lt F fld hsg
  have hU : uw fld * 2 ^ F.fb % 2 ^ 128 < 2 ^ 128 := Nat.mod_lt _ (by omega)
  have hY : jy F fld sg < 2 ^ 128 := Nat.mod_lt _ (by omega)
  have hT : 2 ^ (F.wd - 1) < 2 ^ 128 := Nat.pow_lt_pow_right (by omega) (by have := h.w; have := wd_pos h; omega)
  have kP := fun v : World => wplus _ _ v hU hjs (jy F fld sg) rfl
  have kB : ∀ (v : World) (z : Int), z = (F.wd : Int) - 1 → Calls Tryd.prog 61 #[.int .i64 z] v fun e w' => e = .returned (.agg #[.int .u64 (M.hiN (2 ^ (F.wd - 1)) : Int), .int .u64 (M.loN (2 ^ (F.wd - 1)) : Int)]) ∧ Below v.heap.size v w' := fun v z hz => by
    have hp := wd_pos h
    rw [hz, show (F.wd : Int) - 1 = ((F.wd - 1 : Nat) : Int) by omega]
    exact wbitAt (F.wd - 1) v (by have := h.w; omega) _ rfl
  have kQ := fun v : World => wplus _ _ v hY hT _ rfl
  have hQ : jn F n fld sg = if n = true then (jy F fld sg + 2 ^ (F.wd - 1)) % 2 ^ 128 else jy F fld sg := rfl
  simp only [dv] at kF kL
  exact djoin_m F F.x n fld sg (js F fld sg) w (js_no sg) kL (fun hh v => wminus sg F.lead v hsg (lead_lt h) (js F fld sg) (js_yes sg hh)) _ _ _ _ _ h.w (wd_pos h) hQ kB kQ kF (fun v => jshl F h fld v) kP

end Go.Proofs.YtcilemkeljcidaaDoor
