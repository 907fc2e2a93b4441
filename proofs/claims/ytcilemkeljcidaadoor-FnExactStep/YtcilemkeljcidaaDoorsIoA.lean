import Derived.Test.YtcilemkeljcidaaDoorsFd1
import Derived.Test.YtcilemkeljcidaaDoorsSeg
import Derived.Test.YtcilemkeljcidaaDoorsUnA
namespace Go.Proofs.YtcilemkeljcidaaDoor
open Go.RowKit
set_option linter.unusedVariables false
set_option maxRecDepth 100000
theorem keepSt5 {w1 W : World} (h : Below w1.heap.size w1 W) (g : Nat) (hg : w1.heap.size ≤ g) (a b c d e : Value) : Below w1.heap.size w1 (((((W.setCell ⟨g, 0, none⟩ a).setCell ⟨g, 1, none⟩ b).setCell ⟨g, 2, none⟩ c).setCell ⟨g, 3, none⟩ d).setCell ⟨g, 4, none⟩ e) :=
 ((((h.setCell (p := ⟨g, 0, none⟩) hg a).setCell (p := ⟨g, 1, none⟩) hg b).setCell (p := ⟨g, 2, none⟩) hg c).setCell (p := ⟨g, 3, none⟩) hg d).setCell (p := ⟨g, 4, none⟩) hg e

structure Z5 (v : World) (g : Nat) : Prop where
 c0 : v.cell? ⟨g, 0, none⟩ = some (.int .i64 0)
 c1 : v.cell? ⟨g, 1, none⟩ = some (.bool false)
 c2 : v.cell? ⟨g, 2, none⟩ = some (.int .u64 0)
 c3 : v.cell? ⟨g, 3, none⟩ = some (.int .u64 0)
 c4 : v.cell? ⟨g, 4, none⟩ = some (.int .i64 0)
 f0 : v.frozen? ⟨g, 0, none⟩ = false
 f1 : v.frozen? ⟨g, 1, none⟩ = false
 f2 : v.frozen? ⟨g, 2, none⟩ = false
 f3 : v.frozen? ⟨g, 3, none⟩ = false
 f4 : v.frozen? ⟨g, 4, none⟩ = false
 lt : g < v.heap.size

theorem Z5_new (v : World) : Z5 (v.alloc (.cells #[.int .i64 0, .bool false, .int .u64 0, .int .u64 0, .int .i64 0] 32)) v.heap.size := by
 constructor <;> simp [go_sem]

theorem Z5.below {v v' : World} {g : Nat} (h : Z5 v g) (hb : Below v.heap.size v v') : Z5 v' g :=
 ⟨(hb.cell h.lt).trans h.c0, (hb.cell h.lt).trans h.c1, (hb.cell h.lt).trans h.c2, (hb.cell h.lt).trans h.c3, (hb.cell h.lt).trans h.c4, (hb.frozen h.lt).trans h.f0, (hb.frozen h.lt).trans h.f1, (hb.frozen h.lt).trans h.f2, (hb.frozen h.lt).trans h.f3, (hb.frozen h.lt).trans h.f4, Nat.lt_of_lt_of_le h.lt hb.size⟩

theorem Z5.al {v : World} {g : Nat} (h : Z5 v g) (o : Obj) : Z5 (v.alloc o) g := h.below ((Below.refl _ _).alloc (Nat.le_refl _) o)

def P5 (v : World) (g : Nat) (t : M.Pt) : Prop := v.cell? ⟨g, 0, none⟩ = some (.int .i64 t.c) ∧ v.cell? ⟨g, 1, none⟩ = some (.bool t.n) ∧ v.cell? ⟨g, 2, none⟩ = some (.int .u64 (M.hiN t.s : Int)) ∧ v.cell? ⟨g, 3, none⟩ = some (.int .u64 (M.loN t.s : Int)) ∧ v.cell? ⟨g, 4, none⟩ = some (.int .i64 t.q) ∧ g < v.heap.size

theorem P5_set {v : World} {g : Nat} (h : Z5 v g) (t : M.Pt) : P5 (((((v.setCell ⟨g, 0, none⟩ (.int .i64 t.c)).setCell ⟨g, 1, none⟩ (.bool t.n)).setCell ⟨g, 2, none⟩ (.int .u64 (M.hiN t.s : Int))).setCell ⟨g, 3, none⟩ (.int .u64 (M.loN t.s : Int))).setCell ⟨g, 4, none⟩ (.int .i64 t.q)) g t := by
 obtain ⟨c0, c1, c2, c3, c4, f0, f1, f2, f3, f4, lt⟩ := h
 unfold P5
 simp [go_sem, c0, c1, c2, c3, c4]
 simpa using lt

theorem Z5.far {v : World} {g k : Nat} (h : Z5 v g) (hk : g ≠ k) (a b c d e : Value) : Z5 (((((v.setCell ⟨k, 0, none⟩ a).setCell ⟨k, 1, none⟩ b).setCell ⟨k, 2, none⟩ c).setCell ⟨k, 3, none⟩ d).setCell ⟨k, 4, none⟩ e) g := by
 have hh : (((((v.setCell ⟨k, 0, none⟩ a).setCell ⟨k, 1, none⟩ b).setCell ⟨k, 2, none⟩ c).setCell ⟨k, 3, none⟩ d).setCell ⟨k, 4, none⟩ e).heap[g]? = v.heap[g]? := (((((Below.heap_setCell _ _ _ _ hk).trans (Below.heap_setCell _ _ _ _ hk)).trans (Below.heap_setCell _ _ _ _ hk)).trans (Below.heap_setCell _ _ _ _ hk)).trans (Below.heap_setCell _ _ _ _ hk))
 have hc : ∀ o, (((((v.setCell ⟨k, 0, none⟩ a).setCell ⟨k, 1, none⟩ b).setCell ⟨k, 2, none⟩ c).setCell ⟨k, 3, none⟩ d).setCell ⟨k, 4, none⟩ e).cell? ⟨g, o, none⟩ = v.cell? ⟨g, o, none⟩ := fun o => World.cell?_of_block (w := v) (a := ⟨g, o, none⟩) hh
 have hf : ∀ o, (((((v.setCell ⟨k, 0, none⟩ a).setCell ⟨k, 1, none⟩ b).setCell ⟨k, 2, none⟩ c).setCell ⟨k, 3, none⟩ d).setCell ⟨k, 4, none⟩ e).frozen? ⟨g, o, none⟩ = v.frozen? ⟨g, o, none⟩ := fun o => World.frozen?_of_block (w := v) (a := ⟨g, o, none⟩) hh
 exact ⟨(hc 0).trans h.c0, (hc 1).trans h.c1, (hc 2).trans h.c2, (hc 3).trans h.c3, (hc 4).trans h.c4, (hf 0).trans h.f0, (hf 1).trans h.f1, (hf 2).trans h.f2, (hf 3).trans h.f3, (hf 4).trans h.f4, by simpa using h.lt⟩

theorem P5.far {v : World} {g k : Nat} {t : M.Pt} (h : P5 v g t) (hk : g ≠ k) (a b c d e : Value) : P5 (((((v.setCell ⟨k, 0, none⟩ a).setCell ⟨k, 1, none⟩ b).setCell ⟨k, 2, none⟩ c).setCell ⟨k, 3, none⟩ d).setCell ⟨k, 4, none⟩ e) g t := by
 have hh : (((((v.setCell ⟨k, 0, none⟩ a).setCell ⟨k, 1, none⟩ b).setCell ⟨k, 2, none⟩ c).setCell ⟨k, 3, none⟩ d).setCell ⟨k, 4, none⟩ e).heap[g]? = v.heap[g]? := (((((Below.heap_setCell _ _ _ _ hk).trans (Below.heap_setCell _ _ _ _ hk)).trans (Below.heap_setCell _ _ _ _ hk)).trans (Below.heap_setCell _ _ _ _ hk)).trans (Below.heap_setCell _ _ _ _ hk))
 have hc : ∀ o, (((((v.setCell ⟨k, 0, none⟩ a).setCell ⟨k, 1, none⟩ b).setCell ⟨k, 2, none⟩ c).setCell ⟨k, 3, none⟩ d).setCell ⟨k, 4, none⟩ e).cell? ⟨g, o, none⟩ = v.cell? ⟨g, o, none⟩ := fun o => World.cell?_of_block (w := v) (a := ⟨g, o, none⟩) hh
 exact ⟨(hc 0).trans h.1, (hc 1).trans h.2.1, (hc 2).trans h.2.2.1, (hc 3).trans h.2.2.2.1, (hc 4).trans h.2.2.2.2.1, by simpa using h.2.2.2.2.2⟩

theorem P5_new (v : World) (t : M.Pt) : P5 (v.alloc (.cells #[.int .i64 t.c, .bool t.n, .int .u64 (M.hiN t.s : Int), .int .u64 (M.loN t.s : Int), .int .i64 t.q] 32)) v.heap.size t := by
 unfold P5; simp [go_sem]

theorem P5.below {v v' : World} {g : Nat} {t : M.Pt} (h : P5 v g t) (hb : Below v.heap.size v v') : P5 v' g t :=
 ⟨(hb.cell h.2.2.2.2.2).trans h.1, (hb.cell h.2.2.2.2.2).trans h.2.1, (hb.cell h.2.2.2.2.2).trans h.2.2.1, (hb.cell h.2.2.2.2.2).trans h.2.2.2.1, (hb.cell h.2.2.2.2.2).trans h.2.2.2.2.1, Nat.lt_of_lt_of_le h.2.2.2.2.2 hb.size⟩

theorem P5.al {v : World} {g : Nat} {t : M.Pt} (h : P5 v g t) (o : Obj) : P5 (v.alloc o) g t := h.below ((Below.refl _ _).alloc (Nat.le_refl _) o)

def Rel2 (v2 : World) (S T : M.Pt) (p q : Value) (wx : World) : Prop := ∃ g k, p = .pointer (some ⟨g, 0, none⟩) ∧ q = .pointer (some ⟨k, 0, none⟩) ∧ P5 wx g S ∧ P5 wx k T ∧ Below v2.heap.size v2 wx

theorem Rel2.new {v2 v4 : World} (S T : M.Pt) (hb : Below v2.heap.size v2 v4) : Rel2 v2 S T (.pointer (some ⟨v4.heap.size, 0, none⟩)) (.pointer (some ⟨v4.heap.size + 1, 0, none⟩)) ((v4.alloc (.cells #[.int .i64 S.c, .bool S.n, .int .u64 (M.hiN S.s : Int), .int .u64 (M.loN S.s : Int), .int .i64 S.q] 32)).alloc (.cells #[.int .i64 T.c, .bool T.n, .int .u64 (M.hiN T.s : Int), .int .u64 (M.loN T.s : Int), .int .i64 T.q] 32)) := by
 have h := P5_new (v4.alloc (.cells #[.int .i64 S.c, .bool S.n, .int .u64 (M.hiN S.s : Int), .int .u64 (M.loN S.s : Int), .int .i64 S.q] 32)) T
 have e : (v4.alloc (.cells #[.int .i64 S.c, .bool S.n, .int .u64 (M.hiN S.s : Int), .int .u64 (M.loN S.s : Int), .int .i64 S.q] 32)).heap.size = v4.heap.size + 1 := by simp
 rw [e] at h
 exact ⟨_, _, rfl, rfl, (P5_new v4 S).al _, h, keepAl2 (keepAl2 hb _) _⟩

theorem Rel2.old {v2 v4 : World} {g k : Nat} (S T : M.Pt) (hb : Below v2.heap.size v2 v4) (z : Z5 v4 g) (y : Z5 v4 k) (hg : v2.heap.size ≤ g) (hk : v2.heap.size ≤ k) (hne : g ≠ k) : Rel2 v2 S T (.pointer (some ⟨g, 0, none⟩)) (.pointer (some ⟨k, 0, none⟩)) ((((((((((v4.setCell ⟨g, 0, none⟩ (.int .i64 S.c)).setCell ⟨g, 1, none⟩ (.bool S.n)).setCell ⟨g, 2, none⟩ (.int .u64 (M.hiN S.s : Int))).setCell ⟨g, 3, none⟩ (.int .u64 (M.loN S.s : Int))).setCell ⟨g, 4, none⟩ (.int .i64 S.q)).setCell ⟨k, 0, none⟩ (.int .i64 T.c)).setCell ⟨k, 1, none⟩ (.bool T.n)).setCell ⟨k, 2, none⟩ (.int .u64 (M.hiN T.s : Int))).setCell ⟨k, 3, none⟩ (.int .u64 (M.loN T.s : Int))).setCell ⟨k, 4, none⟩ (.int .i64 T.q)) :=
 ⟨_, _, rfl, rfl, (P5_set z S).far hne _ _ _ _ _, P5_set (y.far (Ne.symm hne) _ _ _ _ _) T, keepSt5 (keepSt5 hb g hg _ _ _ _ _) k hk _ _ _ _ _⟩

end Go.Proofs.YtcilemkeljcidaaDoor
