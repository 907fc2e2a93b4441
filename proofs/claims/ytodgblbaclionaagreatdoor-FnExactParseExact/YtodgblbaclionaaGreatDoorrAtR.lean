import Derived.Test.YtodgblbaclionaaGreatDoorrBE
namespace Go.Proofs.YtodgblbaclionaaGreatDoor

open Go.RowKit

set_option linter.unusedVariables false
set_option maxRecDepth 100000

/-- A description in memory. -/
def D6 (v : World) (g : Nat) (e0 e1 e2 e3 e4 : Int) (e5 : Bool) : Prop := v.cell? ⟨g, 0, none⟩ = some (.int .i64 e0) ∧ v.cell? ⟨g, 1, none⟩ = some (.int .i64 e1) ∧ v.cell? ⟨g, 2, none⟩ = some (.int .i64 e2) ∧ v.cell? ⟨g, 3, none⟩ = some (.int .i64 e3) ∧ v.cell? ⟨g, 4, none⟩ = some (.int .i64 e4) ∧ v.cell? ⟨g, 5, none⟩ = some (.bool e5) ∧ g < v.heap.size

theorem D6.below {v v' : World} {g : Nat} {e0 e1 e2 e3 e4 : Int} {e5 : Bool} (h : D6 v g e0 e1 e2 e3 e4 e5) (hb : Below v.heap.size v v') : D6 v' g e0 e1 e2 e3 e4 e5 := by
  obtain ⟨d0, d1, d2, d3, d4, d5, l⟩ := h
  exact ⟨(hb.cell l).trans d0, (hb.cell l).trans d1, (hb.cell l).trans d2, (hb.cell l).trans d3, (hb.cell l).trans d4, (hb.cell l).trans d5, Nat.lt_of_lt_of_le l hb.size⟩

theorem D6_new (v : World) (e0 e1 e2 e3 e4 : Int) (e5 : Bool) (t : TypeId) : D6 (v.alloc (.cells #[.int .i64 e0, .int .i64 e1, .int .i64 e2, .int .i64 e3, .int .i64 e4, .bool e5] t)) v.heap.size e0 e1 e2 e3 e4 e5 := by
  unfold D6; simp [go_sem]

theorem D6.far {v : World} {g k : Nat} {e0 e1 e2 e3 e4 : Int} {e5 : Bool} (h : D6 v g e0 e1 e2 e3 e4 e5) (hk : g ≠ k) (a b : Value) : D6 ((v.setCell ⟨k, 0, none⟩ a).setCell ⟨k, 1, none⟩ b) g e0 e1 e2 e3 e4 e5 := by
  obtain ⟨d0, d1, d2, d3, d4, d5, l⟩ := h
  exact ⟨(far2 v _ _ hk).trans d0, (far2 v _ _ hk).trans d1, (far2 v _ _ hk).trans d2, (far2 v _ _ hk).trans d3, (far2 v _ _ hk).trans d4, (far2 v _ _ hk).trans d5, by simpa using l⟩

theorem W2.bl {v v' : World} {g X : Nat} (h : W2 v g X) (hb : Below v.heap.size v v') : W2 v' g X :=
  ⟨(hb.cell h.2.2.2.2).trans h.1, (hb.cell h.2.2.2.2).trans h.2.1, (hb.frozen h.2.2.2.2).trans h.2.2.1, (hb.frozen h.2.2.2.2).trans h.2.2.2.1, Nat.lt_of_lt_of_le h.2.2.2.2 hb.size⟩

theorem W2.farS {v : World} {g k X : Nat} (h : W2 v g X) (hk : g ≠ k) (a b : Value) : W2 ((v.setCell ⟨k, 0, none⟩ a).setCell ⟨k, 1, none⟩ b) g X := by
  obtain ⟨d0, d1, f0, f1, l⟩ := h
  exact ⟨(far2 v _ _ hk).trans d0, (far2 v _ _ hk).trans d1, (ffar2 v _ _ hk).trans f0, (ffar2 v _ _ hk).trans f1, by simpa using l⟩

/-- The variables of atRank. -/
structure At (w v : World) (gf gs : Nat) (e0 e1 e2 e3 e4 : Int) (e5 : Bool) (A X : Nat) : Prop where
  b : Below w.heap.size w v
  d : D6 v w.heap.size e0 e1 e2 e3 e4 e5
  o : W2 v (w.heap.size + 1 + 1) 0
  f : W2 v gf A
  s : W2 v gs X
  l : w.heap.size + 1 + 1 < gf
  k : gf < gs

theorem At.below {w v v' : World} {gf gs : Nat} {e0 e1 e2 e3 e4 : Int} {e5 : Bool} {A X : Nat} (h : At w v gf gs e0 e1 e2 e3 e4 e5 A X) (hb : Below v.heap.size v v') : At w v' gf gs e0 e1 e2 e3 e4 e5 A X :=
  ⟨h.b.trans (hb.mono h.b.size), h.d.below hb, h.o.bl hb, h.f.bl hb, h.s.bl hb, h.l, h.k⟩

theorem At.set {w v : World} {gf gs : Nat} {e0 e1 e2 e3 e4 : Int} {e5 : Bool} {A X : Nat} (h : At w v gf gs e0 e1 e2 e3 e4 e5 A X) (Y : Nat) : At w ((v.setCell ⟨gs, 0, none⟩ (.int .u64 (M.hiN Y : Int))).setCell ⟨gs, 1, none⟩ (.int .u64 (M.loN Y : Int))) gf gs e0 e1 e2 e3 e4 e5 A Y := by
  have l := h.l
  have k := h.k
  refine ⟨(h.b.setCell (p := ⟨gs, 0, none⟩) (by simp only; omega) _).setCell (p := ⟨gs, 1, none⟩) (by simp only; omega) _, h.d.far (by omega) _ _, h.o.farS (by omega) _ _, h.f.farS (by omega) _ _, ?_, l, k⟩
  exact W2_set h.s.1 h.s.2.1 h.s.2.2.1 h.s.2.2.2.1

end Go.Proofs.YtodgblbaclionaaGreatDoor

