import Derived.Test.YtcilemkeljcidaaDoorsWd3
import Derived.Test.YtcilemkeljcidaaDoorsCls
import Derived.Test.YtcilemkeljcidaaDoorsPk1
namespace Go.Proofs.YtcilemkeljcidaaDoor
open Go.RowKit
set_option linter.unusedVariables false
set_option maxRecDepth 100000
theorem fb_lt {F : M.Fm} (h : F.Ok) : F.fb < 128 := by
 have := h.p2
 unfold M.Fm.fb
 split <;> omega

theorem wd_pos {F : M.Fm} (h : F.Ok) : 1 ≤ F.wd := by
 unfold M.Fm.wd; omega

theorem lead_lt {F : M.Fm} (h : F.Ok) : F.lead < 2 ^ 128 := by
 have := h.p2
 unfold M.Fm.lead
 exact Nat.pow_lt_pow_right (by omega) (by omega)

theorem jshl (F : M.Fm) (h : F.Ok) (fld : Int) (v : World) : Calls Tryd.prog 54 #[.agg #[.int .u64 0, .int .u64 (IntKind.u64.wrap fld)], .int .i64 (F.fb : Int)] v fun e w' => e = .returned (.agg #[.int .u64 (M.hiN (uw fld * 2 ^ F.fb % 2 ^ 128) : Int), .int .u64 (M.loN (uw fld * 2 ^ F.fb % 2 ^ 128) : Int)]) ∧ Below v.heap.size v w' := by
 obtain ⟨e1, e2⟩ := uw_eq fld
 have k := wshl (uw fld) F.fb v (by omega) (fb_lt h) _ rfl
 have h1 : M.hiN (uw fld) = 0 := by unfold M.hiN; omega
 have h2 : M.loN (uw fld) = uw fld := by unfold M.loN; omega
 rw [h1, h2] at k
 rw [e1]
 exact k

theorem djoin (F : M.Fm) (h : F.Ok) (n : Bool) (fld : Int) (sg : Nat) (hsg : sg < 2 ^ 128) (w : World) :
 Calls Tryd.prog 60 #[.agg #[.int .i64 (F.p : Int), .int .i64 (1 - (F.emax : Int)), .int .i64 (F.emax : Int), .int .i64 (F.wd : Int), .int .i64 (F.e : Int), .bool F.x], .bool n, .int .i64 fld, .agg #[.int .u64 (M.hiN sg : Int), .int .u64 (M.loN sg : Int)]] w fun e w' => e = .returned (.agg #[.int .u64 (M.hiN (jn F n fld sg) : Int), .int .u64 (M.loN (jn F n fld sg) : Int)]) ∧ Below w.heap.size w w' := by
 have kF := fun v : World => dFrac F h v
 have kL := fun v : World => dLead F h v
 have hjs := js_lt F fld hsg
 have hU : uw fld * 2 ^ F.fb % 2 ^ 128 < 2 ^ 128 := Nat.mod_lt _ (by omega)
 have hY : jy F fld sg < 2 ^ 128 := Nat.mod_lt _ (by omega)
 have hT : 2 ^ (F.wd - 1) < 2 ^ 128 := Nat.pow_lt_pow_right (by omega) (by have := h.w; have := wd_pos h; omega)
 have kP := fun v : World => wplus _ _ v hU hjs (jy F fld sg) rfl
 have kB : ∀ (v : World) (z : Int), z = (F.wd : Int) - 1 → Calls Tryd.prog 61 #[.int .i64 z] v fun e w' => e = .returned (.agg #[.int .u64 (M.hiN (2 ^ (F.wd - 1)) : Int), .int .u64 (M.loN (2 ^ (F.wd - 1)) : Int)]) ∧ Below v.heap.size v w' := fun v z hz => by
  have hp := wd_pos h
  rw [hz, show (F.wd : Int) - 1 = ((F.wd - 1 : Nat) : Int) by omega]
  exact wbitAt (F.wd - 1) v (by have := h.w; omega) _ rfl
 have kQ := fun v : World => wplus _ _ v hY hT _ rfl
 have hQ : jn F n fld sg = if n = true then (jy F fld sg + 2 ^ (F.wd - 1)) % 2 ^ 128 else jy F fld sg := rfl
 simp only [dv] at kF kL
 exact djoin_m F F.x n fld sg (js F fld sg) w (js_no sg) kL (fun hh v => wminus sg F.lead v hsg (lead_lt h) (js F fld sg) (js_yes sg hh)) _ _ _ _ _ h.w (wd_pos h) hQ kB kQ kF (fun v => jshl F h fld v) kP

structure Qv (w v : World) (c : Int) (n : Bool) (s : Nat) (q : Int) : Prop where
 b : Below w.heap.size w v
 p : v.cell? ⟨w.heap.size, 0, none⟩ = some (.int .i64 c) ∧ v.cell? ⟨w.heap.size, 1, none⟩ = some (.bool n) ∧ v.cell? ⟨w.heap.size, 2, none⟩ = some (.int .u64 (M.hiN s : Int)) ∧ v.cell? ⟨w.heap.size, 3, none⟩ = some (.int .u64 (M.loN s : Int)) ∧ v.cell? ⟨w.heap.size, 4, none⟩ = some (.int .i64 q)
 r : W2 v (w.heap.size + 1) 0

theorem Qv.below {w v v' : World} {c : Int} {n : Bool} {s : Nat} {q : Int} (h : Qv w v c n s q) (hb : Below v.heap.size v v') : Qv w v' c n s q := by
 have hl : w.heap.size < v.heap.size := Nat.lt_trans (Nat.lt_succ_self _) h.r.2.2.2.2
 obtain ⟨d0, d1, d2, d3, d4⟩ := h.p
 exact ⟨h.b.trans (hb.mono h.b.size), ⟨(hb.cell hl).trans d0, (hb.cell hl).trans d1, (hb.cell hl).trans d2, (hb.cell hl).trans d3, (hb.cell hl).trans d4⟩, h.r.below hb⟩

theorem uw_nat {k : Nat} (h : k < 18446744073709551616) : uw (k : Int) = k := by
 unfold uw
 rw [IntKind.wrap_u64]
 omega

theorem js_nat {F : M.Fm} (h : F.Ok) {fld sg : Nat} (hs : sg < 2 ^ 128) (hl : F.x = false ∧ 0 < fld → F.lead ≤ sg) : js F (fld : Int) sg = if F.x = false ∧ 0 < fld then sg - F.lead else sg := by
 by_cases hc : F.x = false ∧ 0 < fld
 · rw [js_yes sg ⟨hc.1, by omega⟩, if_pos hc]
   have h1 := hl hc
   have h2 := lead_lt h
   generalize F.lead = L at *
   have e : sg + (2 ^ 128 - L) = (sg - L) + 2 ^ 128 := by omega
   rw [e, Nat.add_mod_right]
   exact Nat.mod_eq_of_lt (by omega)
 · rw [js_no sg (fun hh => hc ⟨hh.1, by omega⟩), if_neg hc]

theorem jn_word {F : M.Fm} (h : F.Ok) (n : Bool) {fld sg : Nat} (hf : fld < 18446744073709551616) (hs : sg < 2 ^ 128) (hl : F.x = false ∧ 0 < fld → F.lead ≤ sg) (hw : F.word n fld sg < 2 ^ 128) : jn F n (fld : Int) sg = F.word n fld sg := by
 have e1 := js_nat h hs hl
 unfold jn jy
 unfold M.Fm.word at hw ⊢
 rw [uw_nat hf, e1]
 generalize (if F.x = false ∧ 0 < fld then sg - F.lead else sg) = S at *
 generalize fld * 2 ^ F.fb = A at *
 cases n
 · simp only [Bool.false_eq_true, if_false] at hw ⊢
   rw [Nat.mod_eq_of_lt (a := A) (by omega), Nat.mod_eq_of_lt (by omega)]
   omega
 · simp only [if_true] at hw ⊢
   generalize 2 ^ (F.wd - 1) = B at *
   rw [Nat.mod_eq_of_lt (a := A) (by omega), Nat.mod_eq_of_lt (a := A + S) (by omega), Nat.mod_eq_of_lt (by omega)]

end Go.Proofs.YtcilemkeljcidaaDoor
