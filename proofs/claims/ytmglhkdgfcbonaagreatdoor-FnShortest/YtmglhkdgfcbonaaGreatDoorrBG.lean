import Derived.Test.YtmglhkdgfcbonaaGreatDoorrBY
import Derived.Test.YtmglhkdgfcbonaaGreatDoorrBE
namespace Go.Proofs.YtmglhkdgfcbonaaGreatDoor
open Go.RowKit
set_option linter.unusedVariables false
set_option maxRecDepth 100000
def D6 (v : World) (g : Nat) (e0 e1 e2 e3 e4 : Int) (e5 : Bool) : Prop := v.cell? ⟨g, 0, none⟩ = some (.int .i64 e0) ∧ v.cell? ⟨g, 1, none⟩ = some (.int .i64 e1) ∧ v.cell? ⟨g, 2, none⟩ = some (.int .i64 e2) ∧ v.cell? ⟨g, 3, none⟩ = some (.int .i64 e3) ∧ v.cell? ⟨g, 4, none⟩ = some (.int .i64 e4) ∧ v.cell? ⟨g, 5, none⟩ = some (.bool e5) ∧ g < v.heap.size

theorem D6.below {v v' : World} {g : Nat} {e0 e1 e2 e3 e4 : Int} {e5 : Bool} (h : D6 v g e0 e1 e2 e3 e4 e5) (hb : Below v.heap.size v v') : D6 v' g e0 e1 e2 e3 e4 e5 := by
 obtain ⟨d0, d1, d2, d3, d4, d5, l⟩ := h
 exact ⟨(hb.cell l).trans d0, (hb.cell l).trans d1, (hb.cell l).trans d2, (hb.cell l).trans d3, (hb.cell l).trans d4, (hb.cell l).trans d5, Nat.lt_of_lt_of_le l hb.size⟩

theorem D6_new (v : World) (e0 e1 e2 e3 e4 : Int) (e5 : Bool) (t : TypeId) : D6 (v.alloc (.cells #[.int .i64 e0, .int .i64 e1, .int .i64 e2, .int .i64 e3, .int .i64 e4, .bool e5] t)) v.heap.size e0 e1 e2 e3 e4 e5 := by
 unfold D6; simp [go_sem]

theorem D6.far {v : World} {g k : Nat} {e0 e1 e2 e3 e4 : Int} {e5 : Bool} (h : D6 v g e0 e1 e2 e3 e4 e5) (hk : g ≠ k) (a b : Value) : D6 ((v.setCell ⟨k, 0, none⟩ a).setCell ⟨k, 1, none⟩ b) g e0 e1 e2 e3 e4 e5 := by
 obtain ⟨d0, d1, d2, d3, d4, d5, l⟩ := h
 exact ⟨(far2 v _ _ hk).trans d0, (far2 v _ _ hk).trans d1, (far2 v _ _ hk).trans d2, (far2 v _ _ hk).trans d3, (far2 v _ _ hk).trans d4, (far2 v _ _ hk).trans d5, by simpa using l⟩

theorem W2.bl {v v' : World} {g X : Nat} (h : W2 v g X) (hb : Below v.heap.size v v') : W2 v' g X :=
 ⟨(hb.cell h.2.2.2.2).trans h.1, (hb.cell h.2.2.2.2).trans h.2.1, (hb.frozen h.2.2.2.2).trans h.2.2.1, (hb.frozen h.2.2.2.2).trans h.2.2.2.1, Nat.lt_of_lt_of_le h.2.2.2.2 hb.size⟩

theorem W2.farS {v : World} {g k X : Nat} (h : W2 v g X) (hk : g ≠ k) (a b : Value) : W2 ((v.setCell ⟨k, 0, none⟩ a).setCell ⟨k, 1, none⟩ b) g X := by
 obtain ⟨d0, d1, f0, f1, l⟩ := h
 exact ⟨(far2 v _ _ hk).trans d0, (far2 v _ _ hk).trans d1, (ffar2 v _ _ hk).trans f0, (ffar2 v _ _ hk).trans f1, by simpa using l⟩

structure At (w v : World) (gf gs : Nat) (e0 e1 e2 e3 e4 : Int) (e5 : Bool) (A X : Nat) : Prop where
 b : Below w.heap.size w v
 d : D6 v w.heap.size e0 e1 e2 e3 e4 e5
 o : W2 v (w.heap.size + 1 + 1) 0
 f : W2 v gf A
 s : W2 v gs X
 l : w.heap.size + 1 + 1 < gf
 k : gf < gs

theorem At.below {w v v' : World} {gf gs : Nat} {e0 e1 e2 e3 e4 : Int} {e5 : Bool} {A X : Nat} (h : At w v gf gs e0 e1 e2 e3 e4 e5 A X) (hb : Below v.heap.size v v') : At w v' gf gs e0 e1 e2 e3 e4 e5 A X :=
 ⟨h.b.trans (hb.mono h.b.size), h.d.below hb, h.o.bl hb, h.f.bl hb, h.s.bl hb, h.l, h.k⟩

theorem At.set {w v : World} {gf gs : Nat} {e0 e1 e2 e3 e4 : Int} {e5 : Bool} {A X : Nat} (h : At w v gf gs e0 e1 e2 e3 e4 e5 A X) (Y : Nat) : At w ((v.setCell ⟨gs, 0, none⟩ (.int .u64 (M.hiN Y : Int))).setCell ⟨gs, 1, none⟩ (.int .u64 (M.loN Y : Int))) gf gs e0 e1 e2 e3 e4 e5 A Y := by
 have l := h.l
 have k := h.k
 refine ⟨(h.b.setCell (p := ⟨gs, 0, none⟩) (by simp only; omega) _).setCell (p := ⟨gs, 1, none⟩) (by simp only; omega) _, h.d.far (by omega) _ _, h.o.farS (by omega) _ _, h.f.farS (by omega) _ _, ?_, l, k⟩
 exact W2_set h.s.1 h.s.2.1 h.s.2.2.1 h.s.2.2.2.1

theorem keepSt5 {w1 W : World} (h : Below w1.heap.size w1 W) (g : Nat) (hg : w1.heap.size ≤ g) (a b c d e : Value) : Below w1.heap.size w1 (((((W.setCell ⟨g, 0, none⟩ a).setCell ⟨g, 1, none⟩ b).setCell ⟨g, 2, none⟩ c).setCell ⟨g, 3, none⟩ d).setCell ⟨g, 4, none⟩ e) :=
 ((((h.setCell (p := ⟨g, 0, none⟩) hg a).setCell (p := ⟨g, 1, none⟩) hg b).setCell (p := ⟨g, 2, none⟩) hg c).setCell (p := ⟨g, 3, none⟩) hg d).setCell (p := ⟨g, 4, none⟩) hg e

structure Z5 (v : World) (g : Nat) : Prop where
 c0 : v.cell? ⟨g, 0, none⟩ = some (.int .i64 0)
 c1 : v.cell? ⟨g, 1, none⟩ = some (.bool false)
 c2 : v.cell? ⟨g, 2, none⟩ = some (.int .u64 0)
 c3 : v.cell? ⟨g, 3, none⟩ = some (.int .u64 0)
 c4 : v.cell? ⟨g, 4, none⟩ = some (.int .i64 0)
 f0 : v.frozen? ⟨g, 0, none⟩ = false
 f1 : v.frozen? ⟨g, 1, none⟩ = false
 f2 : v.frozen? ⟨g, 2, none⟩ = false
 f3 : v.frozen? ⟨g, 3, none⟩ = false
 f4 : v.frozen? ⟨g, 4, none⟩ = false
 lt : g < v.heap.size

theorem Z5.below {v v' : World} {g : Nat} (h : Z5 v g) (hb : Below v.heap.size v v') : Z5 v' g :=
 ⟨(hb.cell h.lt).trans h.c0, (hb.cell h.lt).trans h.c1, (hb.cell h.lt).trans h.c2, (hb.cell h.lt).trans h.c3, (hb.cell h.lt).trans h.c4, (hb.frozen h.lt).trans h.f0, (hb.frozen h.lt).trans h.f1, (hb.frozen h.lt).trans h.f2, (hb.frozen h.lt).trans h.f3, (hb.frozen h.lt).trans h.f4, Nat.lt_of_lt_of_le h.lt hb.size⟩

theorem Z5.al {v : World} {g : Nat} (h : Z5 v g) (o : Obj) : Z5 (v.alloc o) g := h.below ((Below.refl _ _).alloc (Nat.le_refl _) o)

def P5 (v : World) (g : Nat) (t : M.Pt) : Prop := v.cell? ⟨g, 0, none⟩ = some (.int .i64 t.c) ∧ v.cell? ⟨g, 1, none⟩ = some (.bool t.n) ∧ v.cell? ⟨g, 2, none⟩ = some (.int .u64 (M.hiN t.s : Int)) ∧ v.cell? ⟨g, 3, none⟩ = some (.int .u64 (M.loN t.s : Int)) ∧ v.cell? ⟨g, 4, none⟩ = some (.int .i64 t.q) ∧ g < v.heap.size

theorem P5_set {v : World} {g : Nat} (h : Z5 v g) (t : M.Pt) : P5 (((((v.setCell ⟨g, 0, none⟩ (.int .i64 t.c)).setCell ⟨g, 1, none⟩ (.bool t.n)).setCell ⟨g, 2, none⟩ (.int .u64 (M.hiN t.s : Int))).setCell ⟨g, 3, none⟩ (.int .u64 (M.loN t.s : Int))).setCell ⟨g, 4, none⟩ (.int .i64 t.q)) g t := by
 obtain ⟨c0, c1, c2, c3, c4, f0, f1, f2, f3, f4, lt⟩ := h
 unfold P5
 simp [go_sem, c0, c1, c2, c3, c4]
 simpa using lt

theorem Z5.far {v : World} {g k : Nat} (h : Z5 v g) (hk : g ≠ k) (a b c d e : Value) : Z5 (((((v.setCell ⟨k, 0, none⟩ a).setCell ⟨k, 1, none⟩ b).setCell ⟨k, 2, none⟩ c).setCell ⟨k, 3, none⟩ d).setCell ⟨k, 4, none⟩ e) g := by
 have hh : (((((v.setCell ⟨k, 0, none⟩ a).setCell ⟨k, 1, none⟩ b).setCell ⟨k, 2, none⟩ c).setCell ⟨k, 3, none⟩ d).setCell ⟨k, 4, none⟩ e).heap[g]? = v.heap[g]? := (((((Below.heap_setCell _ _ _ _ hk).trans (Below.heap_setCell _ _ _ _ hk)).trans (Below.heap_setCell _ _ _ _ hk)).trans (Below.heap_setCell _ _ _ _ hk)).trans (Below.heap_setCell _ _ _ _ hk))
 have hc : ∀ o, (((((v.setCell ⟨k, 0, none⟩ a).setCell ⟨k, 1, none⟩ b).setCell ⟨k, 2, none⟩ c).setCell ⟨k, 3, none⟩ d).setCell ⟨k, 4, none⟩ e).cell? ⟨g, o, none⟩ = v.cell? ⟨g, o, none⟩ := fun o => World.cell?_of_block (w := v) (a := ⟨g, o, none⟩) hh
 have hf : ∀ o, (((((v.setCell ⟨k, 0, none⟩ a).setCell ⟨k, 1, none⟩ b).setCell ⟨k, 2, none⟩ c).setCell ⟨k, 3, none⟩ d).setCell ⟨k, 4, none⟩ e).frozen? ⟨g, o, none⟩ = v.frozen? ⟨g, o, none⟩ := fun o => World.frozen?_of_block (w := v) (a := ⟨g, o, none⟩) hh
 exact ⟨(hc 0).trans h.c0, (hc 1).trans h.c1, (hc 2).trans h.c2, (hc 3).trans h.c3, (hc 4).trans h.c4, (hf 0).trans h.f0, (hf 1).trans h.f1, (hf 2).trans h.f2, (hf 3).trans h.f3, (hf 4).trans h.f4, by simpa using h.lt⟩

theorem P5.far {v : World} {g k : Nat} {t : M.Pt} (h : P5 v g t) (hk : g ≠ k) (a b c d e : Value) : P5 (((((v.setCell ⟨k, 0, none⟩ a).setCell ⟨k, 1, none⟩ b).setCell ⟨k, 2, none⟩ c).setCell ⟨k, 3, none⟩ d).setCell ⟨k, 4, none⟩ e) g t := by
 have hh : (((((v.setCell ⟨k, 0, none⟩ a).setCell ⟨k, 1, none⟩ b).setCell ⟨k, 2, none⟩ c).setCell ⟨k, 3, none⟩ d).setCell ⟨k, 4, none⟩ e).heap[g]? = v.heap[g]? := (((((Below.heap_setCell _ _ _ _ hk).trans (Below.heap_setCell _ _ _ _ hk)).trans (Below.heap_setCell _ _ _ _ hk)).trans (Below.heap_setCell _ _ _ _ hk)).trans (Below.heap_setCell _ _ _ _ hk))
 have hc : ∀ o, (((((v.setCell ⟨k, 0, none⟩ a).setCell ⟨k, 1, none⟩ b).setCell ⟨k, 2, none⟩ c).setCell ⟨k, 3, none⟩ d).setCell ⟨k, 4, none⟩ e).cell? ⟨g, o, none⟩ = v.cell? ⟨g, o, none⟩ := fun o => World.cell?_of_block (w := v) (a := ⟨g, o, none⟩) hh
 exact ⟨(hc 0).trans h.1, (hc 1).trans h.2.1, (hc 2).trans h.2.2.1, (hc 3).trans h.2.2.2.1, (hc 4).trans h.2.2.2.2.1, by simpa using h.2.2.2.2.2⟩

theorem P5_new (v : World) (t : M.Pt) : P5 (v.alloc (.cells #[.int .i64 t.c, .bool t.n, .int .u64 (M.hiN t.s : Int), .int .u64 (M.loN t.s : Int), .int .i64 t.q] 42)) v.heap.size t := by
 unfold P5; simp [go_sem]

theorem P5.below {v v' : World} {g : Nat} {t : M.Pt} (h : P5 v g t) (hb : Below v.heap.size v v') : P5 v' g t :=
 ⟨(hb.cell h.2.2.2.2.2).trans h.1, (hb.cell h.2.2.2.2.2).trans h.2.1, (hb.cell h.2.2.2.2.2).trans h.2.2.1, (hb.cell h.2.2.2.2.2).trans h.2.2.2.1, (hb.cell h.2.2.2.2.2).trans h.2.2.2.2.1, Nat.lt_of_lt_of_le h.2.2.2.2.2 hb.size⟩

theorem P5.al {v : World} {g : Nat} {t : M.Pt} (h : P5 v g t) (o : Obj) : P5 (v.alloc o) g t := h.below ((Below.refl _ _).alloc (Nat.le_refl _) o)

def Rel2 (v2 : World) (S T : M.Pt) (p q : Value) (wx : World) : Prop := ∃ g k, p = .pointer (some ⟨g, 0, none⟩) ∧ q = .pointer (some ⟨k, 0, none⟩) ∧ P5 wx g S ∧ P5 wx k T ∧ Below v2.heap.size v2 wx

theorem Rel2.new {v2 v4 : World} (S T : M.Pt) (hb : Below v2.heap.size v2 v4) : Rel2 v2 S T (.pointer (some ⟨v4.heap.size, 0, none⟩)) (.pointer (some ⟨v4.heap.size + 1, 0, none⟩)) ((v4.alloc (.cells #[.int .i64 S.c, .bool S.n, .int .u64 (M.hiN S.s : Int), .int .u64 (M.loN S.s : Int), .int .i64 S.q] 42)).alloc (.cells #[.int .i64 T.c, .bool T.n, .int .u64 (M.hiN T.s : Int), .int .u64 (M.loN T.s : Int), .int .i64 T.q] 42)) := by
 have h := P5_new (v4.alloc (.cells #[.int .i64 S.c, .bool S.n, .int .u64 (M.hiN S.s : Int), .int .u64 (M.loN S.s : Int), .int .i64 S.q] 42)) T
 have e : (v4.alloc (.cells #[.int .i64 S.c, .bool S.n, .int .u64 (M.hiN S.s : Int), .int .u64 (M.loN S.s : Int), .int .i64 S.q] 42)).heap.size = v4.heap.size + 1 := by simp
 rw [e] at h
 exact ⟨_, _, rfl, rfl, (P5_new v4 S).al _, h, keepAl2 (keepAl2 hb _) _⟩

theorem Rel2.mid {v2 v4 : World} {g : Nat} (S T : M.Pt) (hb : Below v2.heap.size v2 v4) (z : Z5 v4 g) (hg : v2.heap.size ≤ g) : Rel2 v2 S T (.pointer (some ⟨g, 0, none⟩)) (.pointer (some ⟨v4.heap.size, 0, none⟩)) ((((((v4.setCell ⟨g, 0, none⟩ (.int .i64 S.c)).setCell ⟨g, 1, none⟩ (.bool S.n)).setCell ⟨g, 2, none⟩ (.int .u64 (M.hiN S.s : Int))).setCell ⟨g, 3, none⟩ (.int .u64 (M.loN S.s : Int))).setCell ⟨g, 4, none⟩ (.int .i64 S.q)).alloc (.cells #[.int .i64 T.c, .bool T.n, .int .u64 (M.hiN T.s : Int), .int .u64 (M.loN T.s : Int), .int .i64 T.q] 42)) := by
 have h := P5_new (((((v4.setCell ⟨g, 0, none⟩ (.int .i64 S.c)).setCell ⟨g, 1, none⟩ (.bool S.n)).setCell ⟨g, 2, none⟩ (.int .u64 (M.hiN S.s : Int))).setCell ⟨g, 3, none⟩ (.int .u64 (M.loN S.s : Int))).setCell ⟨g, 4, none⟩ (.int .i64 S.q)) T
 have e : (((((v4.setCell ⟨g, 0, none⟩ (.int .i64 S.c)).setCell ⟨g, 1, none⟩ (.bool S.n)).setCell ⟨g, 2, none⟩ (.int .u64 (M.hiN S.s : Int))).setCell ⟨g, 3, none⟩ (.int .u64 (M.loN S.s : Int))).setCell ⟨g, 4, none⟩ (.int .i64 S.q)).heap.size = v4.heap.size := by simp
 rw [e] at h
 exact ⟨_, _, rfl, rfl, (P5_set z S).al _, h, keepAl2 (keepSt5 hb g hg _ _ _ _ _) _⟩

theorem Rel2.old {v2 v4 : World} {g k : Nat} (S T : M.Pt) (hb : Below v2.heap.size v2 v4) (z : Z5 v4 g) (y : Z5 v4 k) (hg : v2.heap.size ≤ g) (hk : v2.heap.size ≤ k) (hne : g ≠ k) : Rel2 v2 S T (.pointer (some ⟨g, 0, none⟩)) (.pointer (some ⟨k, 0, none⟩)) ((((((((((v4.setCell ⟨g, 0, none⟩ (.int .i64 S.c)).setCell ⟨g, 1, none⟩ (.bool S.n)).setCell ⟨g, 2, none⟩ (.int .u64 (M.hiN S.s : Int))).setCell ⟨g, 3, none⟩ (.int .u64 (M.loN S.s : Int))).setCell ⟨g, 4, none⟩ (.int .i64 S.q)).setCell ⟨k, 0, none⟩ (.int .i64 T.c)).setCell ⟨k, 1, none⟩ (.bool T.n)).setCell ⟨k, 2, none⟩ (.int .u64 (M.hiN T.s : Int))).setCell ⟨k, 3, none⟩ (.int .u64 (M.loN T.s : Int))).setCell ⟨k, 4, none⟩ (.int .i64 T.q)) :=
 ⟨_, _, rfl, rfl, (P5_set z S).far hne _ _ _ _ _, P5_set (y.far (Ne.symm hne) _ _ _ _ _) T, keepSt5 (keepSt5 hb g hg _ _ _ _ _) k hk _ _ _ _ _⟩

structure Hv (w v : World) (gd g k : Nat) (e0 e1 e2 e3 e4 : Int) (e5 : Bool) (S T : M.Pt) : Prop where
 b : Below w.heap.size w v
 d : v.cell? ⟨gd, 0, none⟩ = some (.int .i64 e0) ∧ v.cell? ⟨gd, 1, none⟩ = some (.int .i64 e1) ∧ v.cell? ⟨gd, 2, none⟩ = some (.int .i64 e2) ∧ v.cell? ⟨gd, 3, none⟩ = some (.int .i64 e3) ∧ v.cell? ⟨gd, 4, none⟩ = some (.int .i64 e4) ∧ v.cell? ⟨gd, 5, none⟩ = some (.bool e5) ∧ gd < v.heap.size
 s : P5 v g S
 t : P5 v k T

theorem Hv.below {w v v' : World} {gd g k : Nat} {e0 e1 e2 e3 e4 : Int} {e5 : Bool} {S T : M.Pt} (h : Hv w v gd g k e0 e1 e2 e3 e4 e5 S T) (hb : Below v.heap.size v v') : Hv w v' gd g k e0 e1 e2 e3 e4 e5 S T := by
 obtain ⟨b, ⟨d0, d1, d2, d3, d4, d5, ld⟩, s, t⟩ := h
 exact ⟨b.trans (hb.mono b.size), ⟨(hb.cell ld).trans d0, (hb.cell ld).trans d1, (hb.cell ld).trans d2, (hb.cell ld).trans d3, (hb.cell ld).trans d4, (hb.cell ld).trans d5, Nat.lt_of_lt_of_le ld hb.size⟩, s.below hb, t.below hb⟩

structure I5 (v : World) (g : Nat) : Prop where
 c0 : v.cell? ⟨g, 0, none⟩ = some (.slice none 0 0)
 c1 : v.cell? ⟨g, 1, none⟩ = some (.slice none 0 0)
 c2 : v.cell? ⟨g, 2, none⟩ = some (.slice none 0 0)
 c3 : v.cell? ⟨g, 3, none⟩ = some (.bool false)
 c4 : v.cell? ⟨g, 4, none⟩ = some (.bool false)
 f0 : v.frozen? ⟨g, 0, none⟩ = false
 f1 : v.frozen? ⟨g, 1, none⟩ = false
 f2 : v.frozen? ⟨g, 2, none⟩ = false
 f3 : v.frozen? ⟨g, 3, none⟩ = false
 f4 : v.frozen? ⟨g, 4, none⟩ = false
 lt : g < v.heap.size

theorem I5_new (v : World) : I5 (v.alloc (.cells #[.slice none 0 0, .slice none 0 0, .slice none 0 0, .bool false, .bool false] 48)) v.heap.size := by
 constructor <;> simp [go_sem]

theorem I5.below {v v' : World} {g : Nat} (h : I5 v g) (hb : Below v.heap.size v v') : I5 v' g :=
 ⟨(hb.cell h.lt).trans h.c0, (hb.cell h.lt).trans h.c1, (hb.cell h.lt).trans h.c2, (hb.cell h.lt).trans h.c3, (hb.cell h.lt).trans h.c4, (hb.frozen h.lt).trans h.f0, (hb.frozen h.lt).trans h.f1, (hb.frozen h.lt).trans h.f2, (hb.frozen h.lt).trans h.f3, (hb.frozen h.lt).trans h.f4, Nat.lt_of_lt_of_le h.lt hb.size⟩

theorem I5.far {v : World} {g k : Nat} (h : I5 v g) (hk : g ≠ k) (a b : Value) : I5 ((v.setCell ⟨k, 0, none⟩ a).setCell ⟨k, 1, none⟩ b) g := by
 obtain ⟨c0, c1, c2, c3, c4, f0, f1, f2, f3, f4, l⟩ := h
 exact ⟨(far2 v _ _ hk).trans c0, (far2 v _ _ hk).trans c1, (far2 v _ _ hk).trans c2, (far2 v _ _ hk).trans c3, (far2 v _ _ hk).trans c4, (ffar2 v _ _ hk).trans f0, (ffar2 v _ _ hk).trans f1, (ffar2 v _ _ hk).trans f2, (ffar2 v _ _ hk).trans f3, (ffar2 v _ _ hk).trans f4, by simpa using l⟩

theorem P5.far2 {v : World} {g k : Nat} {t : M.Pt} (h : P5 v g t) (hk : g ≠ k) (a b : Value) : P5 ((v.setCell ⟨k, 0, none⟩ a).setCell ⟨k, 1, none⟩ b) g t := by
 obtain ⟨c0, c1, c2, c3, c4, l⟩ := h
 exact ⟨(Go.Proofs.YtmglhkdgfcbonaaGreatDoor.far2 v _ _ hk).trans c0, (Go.Proofs.YtmglhkdgfcbonaaGreatDoor.far2 v _ _ hk).trans c1, (Go.Proofs.YtmglhkdgfcbonaaGreatDoor.far2 v _ _ hk).trans c2, (Go.Proofs.YtmglhkdgfcbonaaGreatDoor.far2 v _ _ hk).trans c3, (Go.Proofs.YtmglhkdgfcbonaaGreatDoor.far2 v _ _ hk).trans c4, by simpa using l⟩

def Iv (w w' : World) (e : Ending) (A B C : Nat) (cl : Bool) : Prop :=
 ∃ (a : Option Addr) (ca : Nat) (b : Option Addr) (cb : Nat) (c : Option Addr) (cc m1 m2 : Nat), e = .returned (.agg #[.slice a (L A).length ca, .slice b (L B).length cb, .slice c (L C).length cc, .bool cl, .bool true]) ∧ w.heap.size ≤ m1 ∧ m1 ≤ m2 ∧ m2 ≤ w'.heap.size ∧ Own w' w.heap.size m1 a ca (L A) ∧ Own w' m1 m2 b cb (L B) ∧ Own w' m2 w'.heap.size c cc (L C) ∧ Below w.heap.size w w'

theorem grown1 (W : World) (g j : Nat) (v : Value) : W.grownBy (W.setCell ⟨g, j, none⟩ v) (some g) :=
 ⟨rfl, rfl, rfl, by simp, fun k _ hk => Below.heap_setCell _ _ _ k (fun e => hk (by rw [e]))⟩

theorem Own.set5 {v : World} {lo hi : Nat} {ao : Option Addr} {cap : Nat} {r : List Nat} {g : Nat} (h : Own v lo hi ao cap r) (hg : g < lo) (a b c d e : Value) : Own (((((v.setCell ⟨g, 0, none⟩ a).setCell ⟨g, 1, none⟩ b).setCell ⟨g, 2, none⟩ c).setCell ⟨g, 3, none⟩ d).setCell ⟨g, 4, none⟩ e) lo hi ao cap r :=
 h.grown (grown_trans (grown_trans (grown_trans (grown_trans (grown1 _ _ _ _) (grown1 _ _ _ _)) (grown1 _ _ _ _)) (grown1 _ _ _ _)) (grown1 _ _ _ _)) (fun k h1 h2 e => by injection e; omega)

theorem Own.wide {v : World} {lo hi lo' hi' : Nat} {ao : Option Addr} {cap : Nat} {r : List Nat} (h : Own v lo hi ao cap r) (h1 : lo' ≤ lo) (h2 : hi ≤ hi') : Own v lo' hi' ao cap r :=
 ⟨h.row, fun k hk => by have := h.place k hk; omega⟩

theorem stepAl {u W' : World} (o : Obj) (hb : Below (u.alloc o).heap.size (u.alloc o) W') : Below u.heap.size u W' := ((Below.refl _ _).alloc (Nat.le_refl _) o).trans (hb.mono (by simp))

theorem ownFrom {v W u : World} {ao : Option Addr} {cap : Nat} {r : List Nat} (hB : Below v.heap.size v W) (ho : u.ownsRow W.heap.size 22 1 (.slice ao r.length cap) r.length (U r)) : Own u v.heap.size u.heap.size ao cap r := (Own.of ho).wide hB.size (Nat.le_refl _)

theorem one_rd (u : World) (t : TypeId) : Rd (u.alloc (.cells #[.int .u64 1] t)) (some ⟨u.heap.size, 0, none⟩) [1] := by
 intro _
 refine ⟨u.heap.size, 0, rfl, fun i hi => ?_⟩
 have : i = 0 := by simp at hi; omega
 subst this
 simp [go_sem]

theorem far5c {v : World} {g k : Nat} (hk : g ≠ k) (a b c d e : Value) (j : Nat) : (((((v.setCell ⟨k, 0, none⟩ a).setCell ⟨k, 1, none⟩ b).setCell ⟨k, 2, none⟩ c).setCell ⟨k, 3, none⟩ d).setCell ⟨k, 4, none⟩ e).cell? ⟨g, j, none⟩ = v.cell? ⟨g, j, none⟩ := by
 have e1 : ∀ (u : World) (o : Nat) (x : Value), (u.setCell ⟨k, o, none⟩ x).cell? ⟨g, j, none⟩ = u.cell? ⟨g, j, none⟩ := fun u o x => World.cell?_setCell_other u ⟨k, o, none⟩ ⟨g, j, none⟩ x (by intro hh; have := congrArg Addr.block hh; simp only at this; omega)
 rw [e1, e1, e1, e1, e1]

structure Bv (w v : World) (gq gl : Nat) (e0 e1 e2 e3 e4 : Int) (e5 : Bool) (T : M.Pt) (Q X : Nat) : Prop where
 b : Below w.heap.size w v
 d : D6 v w.heap.size e0 e1 e2 e3 e4 e5
 p : P5 v (w.heap.size + 1) T
 r : I5 v (w.heap.size + 1 + 1)
 q : W2 v gq Q
 x : W2 v gl X
 l : w.heap.size + 1 + 1 < gq
 k : gq < gl

theorem Bv.below {w v v' : World} {gq gl : Nat} {e0 e1 e2 e3 e4 : Int} {e5 : Bool} {T : M.Pt} {Q X : Nat} (h : Bv w v gq gl e0 e1 e2 e3 e4 e5 T Q X) (hb : Below v.heap.size v v') : Bv w v' gq gl e0 e1 e2 e3 e4 e5 T Q X :=
 ⟨h.b.trans (hb.mono h.b.size), h.d.below hb, h.p.below hb, h.r.below hb, h.q.bl hb, h.x.bl hb, h.l, h.k⟩

theorem Bv.set {w v : World} {gq gl : Nat} {e0 e1 e2 e3 e4 : Int} {e5 : Bool} {T : M.Pt} {Q X : Nat} (h : Bv w v gq gl e0 e1 e2 e3 e4 e5 T Q X) (Y : Nat) : Bv w ((v.setCell ⟨gl, 0, none⟩ (.int .u64 (M.hiN Y : Int))).setCell ⟨gl, 1, none⟩ (.int .u64 (M.loN Y : Int))) gq gl e0 e1 e2 e3 e4 e5 T Q Y := by
 have l := h.l
 have k := h.k
 exact ⟨(h.b.setCell (p := ⟨gl, 0, none⟩) (by simp only; omega) _).setCell (p := ⟨gl, 1, none⟩) (by simp only; omega) _, h.d.far (by omega) _ _, h.p.far2 (by omega) _ _, h.r.far (by omega) _ _, h.q.farS (by omega) _ _, W2_set h.x.1 h.x.2.1 h.x.2.2.1 h.x.2.2.2.1, l, k⟩

structure Jv (w v : World) (F : M.Fm) (fx : Bool) (sg : Nat) : Prop where
 b : Below w.heap.size w v
 d : v.cell? ⟨w.heap.size, 0, none⟩ = some (.int .i64 (F.p : Int)) ∧ v.cell? ⟨w.heap.size, 1, none⟩ = some (.int .i64 (1 - (F.emax : Int))) ∧ v.cell? ⟨w.heap.size, 2, none⟩ = some (.int .i64 (F.emax : Int)) ∧ v.cell? ⟨w.heap.size, 3, none⟩ = some (.int .i64 (F.wd : Int)) ∧ v.cell? ⟨w.heap.size, 4, none⟩ = some (.int .i64 (F.e : Int)) ∧ v.cell? ⟨w.heap.size, 5, none⟩ = some (.bool fx)
 s : W2 v (w.heap.size + 1) sg
 r : W2 v (w.heap.size + 1 + 1) 0

theorem W2.below {v v' : World} {g X : Nat} (h : W2 v g X) (hb : Below v.heap.size v v') : W2 v' g X :=
 ⟨(hb.cell h.2.2.2.2).trans h.1, (hb.cell h.2.2.2.2).trans h.2.1, (hb.frozen h.2.2.2.2).trans h.2.2.1, (hb.frozen h.2.2.2.2).trans h.2.2.2.1, Nat.lt_of_lt_of_le h.2.2.2.2 hb.size⟩

theorem Jv.below {w v v' : World} {F : M.Fm} {fx : Bool} {sg : Nat} (h : Jv w v F fx sg) (hb : Below v.heap.size v v') : Jv w v' F fx sg := by
 have hl : w.heap.size < v.heap.size := Nat.lt_trans (Nat.lt_succ_self _) h.s.2.2.2.2
 obtain ⟨d0, d1, d2, d3, d4, d5⟩ := h.d
 exact ⟨h.b.trans (hb.mono h.b.size), ⟨(hb.cell hl).trans d0, (hb.cell hl).trans d1, (hb.cell hl).trans d2, (hb.cell hl).trans d3, (hb.cell hl).trans d4, (hb.cell hl).trans d5⟩, h.s.below hb, h.r.below hb⟩

theorem Jv.set {w v : World} {F : M.Fm} {fx : Bool} {sg : Nat} (h : Jv w v F fx sg) (s' : Nat) : Jv w ((v.setCell ⟨w.heap.size + 1, 0, none⟩ (.int .u64 (M.hiN s' : Int))).setCell ⟨w.heap.size + 1, 1, none⟩ (.int .u64 (M.loN s' : Int))) F fx s' := by
 obtain ⟨d0, d1, d2, d3, d4, d5⟩ := h.d
 obtain ⟨s0, s1, s2, s3, s4⟩ := h.s
 obtain ⟨r0, r1, r2, r3, r4⟩ := h.r
 refine ⟨(h.b.setCell (p := ⟨w.heap.size + 1, 0, none⟩) (Nat.le_succ _) _).setCell (p := ⟨w.heap.size + 1, 1, none⟩) (Nat.le_succ _) _, ⟨?_, ?_, ?_, ?_, ?_, ?_⟩, W2_set s0 s1 s2 s3, ⟨?_, ?_, ?_, ?_, by simpa using r4⟩⟩
 · exact (far2 v _ _ (by omega)).trans d0
 · exact (far2 v _ _ (by omega)).trans d1
 · exact (far2 v _ _ (by omega)).trans d2
 · exact (far2 v _ _ (by omega)).trans d3
 · exact (far2 v _ _ (by omega)).trans d4
 · exact (far2 v _ _ (by omega)).trans d5
 · exact (far2 v _ _ (by omega)).trans r0
 · exact (far2 v _ _ (by omega)).trans r1
 · exact (ffar2 v _ _ (by omega)).trans r2
 · exact (ffar2 v _ _ (by omega)).trans r3

theorem wd_pos {F : M.Fm} (h : F.Ok) : 1 ≤ F.wd := by
 unfold M.Fm.wd; omega

theorem lead_lt {F : M.Fm} (h : F.Ok) : F.lead < 2 ^ 128 := by
 have := h.p2
 unfold M.Fm.lead
 exact Nat.pow_lt_pow_right (by omega) (by omega)

structure Qv (w v : World) (c : Int) (n : Bool) (s : Nat) (q : Int) : Prop where
 b : Below w.heap.size w v
 p : v.cell? ⟨w.heap.size, 0, none⟩ = some (.int .i64 c) ∧ v.cell? ⟨w.heap.size, 1, none⟩ = some (.bool n) ∧ v.cell? ⟨w.heap.size, 2, none⟩ = some (.int .u64 (M.hiN s : Int)) ∧ v.cell? ⟨w.heap.size, 3, none⟩ = some (.int .u64 (M.loN s : Int)) ∧ v.cell? ⟨w.heap.size, 4, none⟩ = some (.int .i64 q)
 r : W2 v (w.heap.size + 1) 0

theorem Qv.below {w v v' : World} {c : Int} {n : Bool} {s : Nat} {q : Int} (h : Qv w v c n s q) (hb : Below v.heap.size v v') : Qv w v' c n s q := by
 have hl : w.heap.size < v.heap.size := Nat.lt_trans (Nat.lt_succ_self _) h.r.2.2.2.2
 obtain ⟨d0, d1, d2, d3, d4⟩ := h.p
 exact ⟨h.b.trans (hb.mono h.b.size), ⟨(hb.cell hl).trans d0, (hb.cell hl).trans d1, (hb.cell hl).trans d2, (hb.cell hl).trans d3, (hb.cell hl).trans d4⟩, h.r.below hb⟩

theorem lo_small {A : Nat} (h : A < 40000) : M.loN A = A := by unfold M.loN; omega

theorem sub_word {r B C : Nat} (h : B + C = r) (hr : r < 2 ^ 128) : C = (r + (2 ^ 128 - B)) % 2 ^ 128 := by
 have : r + (2 ^ 128 - B) = C + 2 ^ 128 := by omega
 rw [this, Nat.add_mod_right, Nat.mod_eq_of_lt (by omega)]

theorem wp1 {F : M.Fm} (h : F.Ok) : wrap64 ((F.p : Int) - 1) = (F.p : Int) - 1 := by have := h.p1; have := h.p2; simp only [wrap64]; omega

theorem wp2 {F : M.Fm} (h : F.Ok) : IntKind.i64.wrap ((F.p : Int) - 1) = (F.p : Int) - 1 := by have := h.p1; have := h.p2; simp only [IntKind.wrap_i64]; omega

end Go.Proofs.YtmglhkdgfcbonaaGreatDoor
