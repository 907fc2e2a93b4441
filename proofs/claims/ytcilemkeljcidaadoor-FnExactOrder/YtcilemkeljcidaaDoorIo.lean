import Derived.Test.YtcilemkeljcidaaDoorIoA
import Derived.Test.YtcilemkeljcidaaDoorUnA
import Derived.Test.YtcilemkeljcidaaDoorFd1
namespace Go.Proofs.YtcilemkeljcidaaDoor
open Go.RowKit
set_option linter.unusedVariables false
set_option maxRecDepth 100000

/-- What holds behind both variables: the description, both parts, and that nothing old has turned. -/
structure Hv (w v : World) (gd g k : Nat) (e0 e1 e2 e3 e4 : Int) (e5 : Bool) (S T : M.Pt) : Prop where
  b : Below w.heap.size w v
  d : v.cell? ⟨gd, 0, none⟩ = some (.int .i64 e0) ∧ v.cell? ⟨gd, 1, none⟩ = some (.int .i64 e1) ∧ v.cell? ⟨gd, 2, none⟩ = some (.int .i64 e2) ∧ v.cell? ⟨gd, 3, none⟩ = some (.int .i64 e3) ∧ v.cell? ⟨gd, 4, none⟩ = some (.int .i64 e4) ∧ v.cell? ⟨gd, 5, none⟩ = some (.bool e5) ∧ gd < v.heap.size
  s : P5 v g S
  t : P5 v k T

theorem Hv.below {w v v' : World} {gd g k : Nat} {e0 e1 e2 e3 e4 : Int} {e5 : Bool} {S T : M.Pt} (h : Hv w v gd g k e0 e1 e2 e3 e4 e5 S T) (hb : Below v.heap.size v v') : Hv w v' gd g k e0 e1 e2 e3 e4 e5 S T := by
  obtain ⟨b, ⟨d0, d1, d2, d3, d4, d5, ld⟩, s, t⟩ := h
  exact ⟨b.trans (hb.mono b.size), ⟨(hb.cell ld).trans d0, (hb.cell ld).trans d1, (hb.cell ld).trans d2, (hb.cell ld).trans d3, (hb.cell ld).trans d4, (hb.cell ld).trans d5, Nat.lt_of_lt_of_le ld hb.size⟩, s.below hb, t.below hb⟩

theorem Hv.raw {w v : World} {gd g k : Nat} {e0 e1 e2 e3 e4 : Int} {e5 : Bool} {S T : M.Pt} (h : Hv w v gd g k e0 e1 e2 e3 e4 e5 S T) :
    v.cell? ⟨gd, 0, none⟩ = some (.int .i64 e0) ∧ v.cell? ⟨gd, 1, none⟩ = some (.int .i64 e1) ∧ v.cell? ⟨gd, 2, none⟩ = some (.int .i64 e2) ∧ v.cell? ⟨gd, 3, none⟩ = some (.int .i64 e3) ∧ v.cell? ⟨gd, 4, none⟩ = some (.int .i64 e4) ∧ v.cell? ⟨gd, 5, none⟩ = some (.bool e5)
    ∧ v.cell? ⟨g, 0, none⟩ = some (.int .i64 S.c) ∧ v.cell? ⟨g, 1, none⟩ = some (.bool S.n) ∧ v.cell? ⟨g, 2, none⟩ = some (.int .u64 (M.hiN S.s : Int)) ∧ v.cell? ⟨g, 3, none⟩ = some (.int .u64 (M.loN S.s : Int)) ∧ v.cell? ⟨g, 4, none⟩ = some (.int .i64 S.q)
    ∧ v.cell? ⟨k, 0, none⟩ = some (.int .i64 T.c) ∧ v.cell? ⟨k, 1, none⟩ = some (.bool T.n) ∧ v.cell? ⟨k, 2, none⟩ = some (.int .u64 (M.hiN T.s : Int)) ∧ v.cell? ⟨k, 3, none⟩ = some (.int .u64 (M.loN T.s : Int)) ∧ v.cell? ⟨k, 4, none⟩ = some (.int .i64 T.q) := by
  obtain ⟨b, ⟨d0, d1, d2, d3, d4, d5, ld⟩, ⟨s0, s1, s2, s3, s4, sl⟩, t0, t1, t2, t3, t4, tl⟩ := h
  exact ⟨d0, d1, d2, d3, d4, d5, s0, s1, s2, s3, s4, t0, t1, t2, t3, t4⟩

set_option maxRecDepth 10000 in
set_option maxHeartbeats 8000000 in
theorem iorder_key (f : Int) (X Y : Nat) (S T : M.Pt) (e0 e1 e2 e3 e4 : Int) (e5 : Bool) (vS vT bS bT : Bool) (RS RT : Nat) (cST cTS : Int) (r : Int) (w : World) (hm : Fmt w)
    (kE : ∀ v : World, Fmt v → Calls Tryd.prog 9 #[.int .i64 f] v fun e w' => e = .returned (.agg #[.int .i64 e0, .int .i64 e1, .int .i64 e2, .int .i64 e3, .int .i64 e4, .bool e5]) ∧ Below v.heap.size v w')
    (kX : ∀ v : World, Fmt v → Calls Tryd.prog 13 #[.int .i64 f, .agg #[.int .u64 (M.hiN X : Int), .int .u64 (M.loN X : Int)]] v fun e w' => e = .returned (.agg #[.int .i64 S.c, .bool S.n, .int .u64 (M.hiN S.s : Int), .int .u64 (M.loN S.s : Int), .int .i64 S.q]) ∧ Below v.heap.size v w')
    (kY : ∀ v : World, Fmt v → Calls Tryd.prog 13 #[.int .i64 f, .agg #[.int .u64 (M.hiN Y : Int), .int .u64 (M.loN Y : Int)]] v fun e w' => e = .returned (.agg #[.int .i64 T.c, .bool T.n, .int .u64 (M.hiN T.s : Int), .int .u64 (M.loN T.s : Int), .int .i64 T.q]) ∧ Below v.heap.size v w')
    (kvS : ∀ v : World, Calls Tryd.prog 34 #[.agg #[.int .i64 S.c, .bool S.n, .int .u64 (M.hiN S.s : Int), .int .u64 (M.loN S.s : Int), .int .i64 S.q]] v fun e w' => e = .returned (.bool vS) ∧ Below v.heap.size v w')
    (kvT : ∀ v : World, Calls Tryd.prog 34 #[.agg #[.int .i64 T.c, .bool T.n, .int .u64 (M.hiN T.s : Int), .int .u64 (M.loN T.s : Int), .int .i64 T.q]] v fun e w' => e = .returned (.bool vT) ∧ Below v.heap.size v w')
    (kbS : ∀ v : World, Calls Tryd.prog 35 #[.agg #[.int .i64 S.c, .bool S.n, .int .u64 (M.hiN S.s : Int), .int .u64 (M.loN S.s : Int), .int .i64 S.q]] v fun e w' => e = .returned (.bool bS) ∧ Below v.heap.size v w')
    (kbT : ∀ v : World, Calls Tryd.prog 35 #[.agg #[.int .i64 T.c, .bool T.n, .int .u64 (M.hiN T.s : Int), .int .u64 (M.loN T.s : Int), .int .i64 T.q]] v fun e w' => e = .returned (.bool bT) ∧ Below v.heap.size v w')
    (krS : vS = true → vT = true → ∀ v : World, Calls Tryd.prog 36 #[.agg #[.int .i64 e0, .int .i64 e1, .int .i64 e2, .int .i64 e3, .int .i64 e4, .bool e5], .agg #[.int .i64 S.c, .bool S.n, .int .u64 (M.hiN S.s : Int), .int .u64 (M.loN S.s : Int), .int .i64 S.q]] v fun e w' => e = .returned (.agg #[.int .u64 (M.hiN RS : Int), .int .u64 (M.loN RS : Int)]) ∧ Below v.heap.size v w')
    (krT : vS = true → vT = true → ∀ v : World, Calls Tryd.prog 36 #[.agg #[.int .i64 e0, .int .i64 e1, .int .i64 e2, .int .i64 e3, .int .i64 e4, .bool e5], .agg #[.int .i64 T.c, .bool T.n, .int .u64 (M.hiN T.s : Int), .int .u64 (M.loN T.s : Int), .int .i64 T.q]] v fun e w' => e = .returned (.agg #[.int .u64 (M.hiN RT : Int), .int .u64 (M.loN RT : Int)]) ∧ Below v.heap.size v w')
    (kcST : ∀ v : World, Calls Tryd.prog 37 #[.agg #[.int .u64 (M.hiN RS : Int), .int .u64 (M.loN RS : Int)], .agg #[.int .u64 (M.hiN RT : Int), .int .u64 (M.loN RT : Int)]] v fun e w' => e = .returned (.int .i64 cST) ∧ Below v.heap.size v w')
    (kcTS : ∀ v : World, Calls Tryd.prog 37 #[.agg #[.int .u64 (M.hiN RT : Int), .int .u64 (M.loN RT : Int)], .agg #[.int .u64 (M.hiN RS : Int), .int .u64 (M.loN RS : Int)]] v fun e w' => e = .returned (.int .i64 cTS) ∧ Below v.heap.size v w')
    (hr : r = if (vS && vT) = false then 2 else if (bS && bT) = true then cTS else if bS = true then -1 else if bT = true then 1 else cST)
    : Calls Tryd.prog 16 #[.int .i64 f, .agg #[.int .u64 (M.hiN X : Int), .int .u64 (M.loN X : Int)], .agg #[.int .u64 (M.hiN Y : Int), .int .u64 (M.loN Y : Int)]] w fun e w' => e = .returned (.int .i64 r) ∧ Below w.heap.size w w' := by
  have b0 := ((Below.refl w.heap.size w).alloc (Nat.le_refl _) (.cells #[.int .u64 (M.hiN X : Int), .int .u64 (M.loN X : Int)] 30)).alloc (by simp) (.cells #[.int .u64 (M.hiN Y : Int), .int .u64 (M.loN Y : Int)] 30)
  go_enter Tryd.func16, Tryd.ntmps16
  go_wp2_with fail
  refine (kE _ (hm.below b0)).mono ?_
  rintro e v1 ⟨rfl, hb1⟩
  have x0 : v1.cell? ⟨w.heap.size, 0, none⟩ = some (.int .u64 (M.hiN X : Int)) := (hb1.cell (by simp <;> omega)).trans (by simp [go_sem])
  have x1 : v1.cell? ⟨w.heap.size, 1, none⟩ = some (.int .u64 (M.loN X : Int)) := (hb1.cell (by simp <;> omega)).trans (by simp [go_sem])
  have y0 : v1.cell? ⟨w.heap.size + 1, 0, none⟩ = some (.int .u64 (M.hiN Y : Int)) := (hb1.cell (by simp <;> omega)).trans (by simp [go_sem])
  have y1 : v1.cell? ⟨w.heap.size + 1, 1, none⟩ = some (.int .u64 (M.loN Y : Int)) := (hb1.cell (by simp <;> omega)).trans (by simp [go_sem])
  have n1 : w.heap.size + 2 ≤ v1.heap.size := by have := hb1.size; simp at this; omega
  have b1 := b0.trans (hb1.mono b0.size)
  clear hb1 b0 kE
  go_upto_region 2 with fail
  have hbd : Below v1.heap.size v1 (v1.alloc (.cells #[.int .i64 e0, .int .i64 e1, .int .i64 e2, .int .i64 e3, .int .i64 e4, .bool e5] 23)) := (Below.refl _ _).alloc (Nat.le_refl _) _
  have d0 : (v1.alloc (.cells #[.int .i64 e0, .int .i64 e1, .int .i64 e2, .int .i64 e3, .int .i64 e4, .bool e5] 23)).cell? ⟨v1.heap.size, 0, none⟩ = some (.int .i64 e0) := by simp [go_sem]
  have d1 : (v1.alloc (.cells #[.int .i64 e0, .int .i64 e1, .int .i64 e2, .int .i64 e3, .int .i64 e4, .bool e5] 23)).cell? ⟨v1.heap.size, 1, none⟩ = some (.int .i64 e1) := by simp [go_sem]
  have d2 : (v1.alloc (.cells #[.int .i64 e0, .int .i64 e1, .int .i64 e2, .int .i64 e3, .int .i64 e4, .bool e5] 23)).cell? ⟨v1.heap.size, 2, none⟩ = some (.int .i64 e2) := by simp [go_sem]
  have d3 : (v1.alloc (.cells #[.int .i64 e0, .int .i64 e1, .int .i64 e2, .int .i64 e3, .int .i64 e4, .bool e5] 23)).cell? ⟨v1.heap.size, 3, none⟩ = some (.int .i64 e3) := by simp [go_sem]
  have d4 : (v1.alloc (.cells #[.int .i64 e0, .int .i64 e1, .int .i64 e2, .int .i64 e3, .int .i64 e4, .bool e5] 23)).cell? ⟨v1.heap.size, 4, none⟩ = some (.int .i64 e4) := by simp [go_sem]
  have d5 : (v1.alloc (.cells #[.int .i64 e0, .int .i64 e1, .int .i64 e2, .int .i64 e3, .int .i64 e4, .bool e5] 23)).cell? ⟨v1.heap.size, 5, none⟩ = some (.bool e5) := by simp [go_sem]
  replace x0 : (v1.alloc (.cells #[.int .i64 e0, .int .i64 e1, .int .i64 e2, .int .i64 e3, .int .i64 e4, .bool e5] 23)).cell? ⟨w.heap.size, 0, none⟩ = some (.int .u64 (M.hiN X : Int)) := (hbd.cell (by simp only; omega)).trans x0
  replace x1 : (v1.alloc (.cells #[.int .i64 e0, .int .i64 e1, .int .i64 e2, .int .i64 e3, .int .i64 e4, .bool e5] 23)).cell? ⟨w.heap.size, 1, none⟩ = some (.int .u64 (M.loN X : Int)) := (hbd.cell (by simp only; omega)).trans x1
  replace y0 : (v1.alloc (.cells #[.int .i64 e0, .int .i64 e1, .int .i64 e2, .int .i64 e3, .int .i64 e4, .bool e5] 23)).cell? ⟨w.heap.size + 1, 0, none⟩ = some (.int .u64 (M.hiN Y : Int)) := (hbd.cell (by simp only; omega)).trans y0
  replace y1 : (v1.alloc (.cells #[.int .i64 e0, .int .i64 e1, .int .i64 e2, .int .i64 e3, .int .i64 e4, .bool e5] 23)).cell? ⟨w.heap.size + 1, 1, none⟩ = some (.int .u64 (M.loN Y : Int)) := (hbd.cell (by simp only; omega)).trans y1
  have ld : v1.heap.size < (v1.alloc (.cells #[.int .i64 e0, .int .i64 e1, .int .i64 e2, .int .i64 e3, .int .i64 e4, .bool e5] 23)).heap.size := by simp
  replace b1 := b1.trans (hbd.mono b1.size)
  clear hbd
  generalize (v1.alloc (.cells #[.int .i64 e0, .int .i64 e1, .int .i64 e2, .int .i64 e3, .int .i64 e4, .bool e5] 23)) = v2 at *
  generalize v1.heap.size = gd at *
  have hm2 : ∀ v, Below v2.heap.size v2 v → Fmt v := fun v hv => hm.below (b1.trans (hv.mono b1.size))
  have l0 : w.heap.size + 1 < v2.heap.size := by omega
  have Kof : ∀ v, Below v2.heap.size v2 v → (fun v => Below v2.heap.size v2 v ∧ v.cell? ⟨w.heap.size, 0, none⟩ = some (.int .u64 (M.hiN X : Int)) ∧ v.cell? ⟨w.heap.size, 1, none⟩ = some (.int .u64 (M.loN X : Int)) ∧ v.cell? ⟨w.heap.size + 1, 0, none⟩ = some (.int .u64 (M.hiN Y : Int)) ∧ v.cell? ⟨w.heap.size + 1, 1, none⟩ = some (.int .u64 (M.loN Y : Int))) v := fun v hv => ⟨hv, (hv.cell (by simp only; omega)).trans x0, (hv.cell (by simp only; omega)).trans x1, (hv.cell l0).trans y0, (hv.cell l0).trans y1⟩
  have KS1 : ∀ (W : World) (g : Nat) (a b c d e : Value), Below v2.heap.size v2 W → v2.heap.size ≤ g → (fun v => Below v2.heap.size v2 v ∧ v.cell? ⟨w.heap.size, 0, none⟩ = some (.int .u64 (M.hiN X : Int)) ∧ v.cell? ⟨w.heap.size, 1, none⟩ = some (.int .u64 (M.loN X : Int)) ∧ v.cell? ⟨w.heap.size + 1, 0, none⟩ = some (.int .u64 (M.hiN Y : Int)) ∧ v.cell? ⟨w.heap.size + 1, 1, none⟩ = some (.int .u64 (M.loN Y : Int))) (((((W.setCell ⟨g, 0, none⟩ a).setCell ⟨g, 1, none⟩ b).setCell ⟨g, 2, none⟩ c).setCell ⟨g, 3, none⟩ d).setCell ⟨g, 4, none⟩ e) := fun W g a b c d e h hg => Kof _ (keepSt5 h g hg a b c d e)
  have KS2 : ∀ (W : World) (g : Nat) (a b c d e : Value) (k : Nat) (i j l m n : Value), Below v2.heap.size v2 W → v2.heap.size ≤ g → v2.heap.size ≤ k → (fun v => Below v2.heap.size v2 v ∧ v.cell? ⟨w.heap.size, 0, none⟩ = some (.int .u64 (M.hiN X : Int)) ∧ v.cell? ⟨w.heap.size, 1, none⟩ = some (.int .u64 (M.loN X : Int)) ∧ v.cell? ⟨w.heap.size + 1, 0, none⟩ = some (.int .u64 (M.hiN Y : Int)) ∧ v.cell? ⟨w.heap.size + 1, 1, none⟩ = some (.int .u64 (M.loN Y : Int))) ((((((((((W.setCell ⟨g, 0, none⟩ a).setCell ⟨g, 1, none⟩ b).setCell ⟨g, 2, none⟩ c).setCell ⟨g, 3, none⟩ d).setCell ⟨g, 4, none⟩ e).setCell ⟨k, 0, none⟩ i).setCell ⟨k, 1, none⟩ j).setCell ⟨k, 2, none⟩ l).setCell ⟨k, 3, none⟩ m).setCell ⟨k, 4, none⟩ n) := fun W g a b c d e k i j l m n h hg hk => Kof _ (keepSt5 (keepSt5 h g hg a b c d e) k hk i j l m n)
  go_cut [8, 9] (fun p q wx => Rel2 v2 S T p q wx)
  case first =>
    clear x0 x1 y0 y1 d0 d1 d2 d3 d4 d5
    have A0 : Below v2.heap.size v2 v2.drew := (Below.refl _ _).drew
    have A1 : Below v2.heap.size v2 (v2.alloc (.cells #[.int .i64 0, .bool false, .int .u64 0, .int .u64 0, .int .i64 0] 32)).drew := (keepAl2 (Below.refl _ _) _).drew
    have A2 : Below v2.heap.size v2 ((v2.alloc (.cells #[.int .i64 0, .bool false, .int .u64 0, .int .u64 0, .int .i64 0] 32)).alloc (.cells #[.int .i64 0, .bool false, .int .u64 0, .int .u64 0, .int .i64 0] 32)).drew := (keepAl2 (keepAl2 (Below.refl _ _) _) _).drew
    have ZA : Z5 (v2.alloc (.cells #[.int .i64 0, .bool false, .int .u64 0, .int .u64 0, .int .i64 0] 32)).drew v2.heap.size := (Z5_new v2).below (Below.refl _ _).drew
    have ZB1 : Z5 ((v2.alloc (.cells #[.int .i64 0, .bool false, .int .u64 0, .int .u64 0, .int .i64 0] 32)).alloc (.cells #[.int .i64 0, .bool false, .int .u64 0, .int .u64 0, .int .i64 0] 32)).drew v2.heap.size := (Z5_new2 v2).1.below (Below.refl _ _).drew
    have ZB2 : Z5 ((v2.alloc (.cells #[.int .i64 0, .bool false, .int .u64 0, .int .u64 0, .int .i64 0] 32)).alloc (.cells #[.int .i64 0, .bool false, .int .u64 0, .int .u64 0, .int .i64 0] 32)).drew (v2.heap.size + 1) := (Z5_new2 v2).2.below (Below.refl _ _).drew
    go_region_held3 (fun v => Below v2.heap.size v2 v ∧ v.cell? ⟨w.heap.size, 0, none⟩ = some (.int .u64 (M.hiN X : Int)) ∧ v.cell? ⟨w.heap.size, 1, none⟩ = some (.int .u64 (M.loN X : Int)) ∧ v.cell? ⟨w.heap.size + 1, 0, none⟩ = some (.int .u64 (M.hiN Y : Int)) ∧ v.cell? ⟨w.heap.size + 1, 1, none⟩ = some (.int .u64 (M.loN Y : Int))) (first | (have hq := hb2; clear hq; refine Kof _ ?_; first | with_reducible exact hb2 | (with_reducible refine keepSt5 ?_ _ (by first | with_reducible exact hs3 | with_reducible exact hs5 | with_reducible exact Nat.le_refl _ | with_reducible exact Nat.le_succ _ | with_reducible exact Nat.le_succ_of_le hs3 | with_reducible exact Nat.le_succ_of_le hs5) _ _ _ _ _; first | with_reducible exact hb2 | (with_reducible refine keepSt5 ?_ _ (by first | with_reducible exact hs3 | with_reducible exact hs5 | with_reducible exact Nat.le_refl _ | with_reducible exact Nat.le_succ _ | with_reducible exact Nat.le_succ_of_le hs3 | with_reducible exact Nat.le_succ_of_le hs5) _ _ _ _ _; first | with_reducible exact hb2 | (with_reducible refine keepSt5 ?_ _ (by first | with_reducible exact hs3 | with_reducible exact hs5 | with_reducible exact Nat.le_refl _ | with_reducible exact Nat.le_succ _ | with_reducible exact Nat.le_succ_of_le hs3 | with_reducible exact Nat.le_succ_of_le hs5) _ _ _ _ _; first | with_reducible exact hb2 | (with_reducible refine keepSt5 ?_ _ (by first | with_reducible exact hs3 | with_reducible exact hs5 | with_reducible exact Nat.le_refl _ | with_reducible exact Nat.le_succ _ | with_reducible exact Nat.le_succ_of_le hs3 | with_reducible exact Nat.le_succ_of_le hs5) _ _ _ _ _; with_reducible exact hb2) | (with_reducible refine keepAl2 ?_ _; with_reducible exact hb2)) | (with_reducible refine keepAl2 ?_ _; first | with_reducible exact hb2 | (with_reducible refine keepSt5 ?_ _ (by first | with_reducible exact hs3 | with_reducible exact hs5 | with_reducible exact Nat.le_refl _ | with_reducible exact Nat.le_succ _ | with_reducible exact Nat.le_succ_of_le hs3 | with_reducible exact Nat.le_succ_of_le hs5) _ _ _ _ _; with_reducible exact hb2) | (with_reducible refine keepAl2 ?_ _; with_reducible exact hb2))) | (with_reducible refine keepAl2 ?_ _; first | with_reducible exact hb2 | (with_reducible refine keepSt5 ?_ _ (by first | with_reducible exact hs3 | with_reducible exact hs5 | with_reducible exact Nat.le_refl _ | with_reducible exact Nat.le_succ _ | with_reducible exact Nat.le_succ_of_le hs3 | with_reducible exact Nat.le_succ_of_le hs5) _ _ _ _ _; first | with_reducible exact hb2 | (with_reducible refine keepSt5 ?_ _ (by first | with_reducible exact hs3 | with_reducible exact hs5 | with_reducible exact Nat.le_refl _ | with_reducible exact Nat.le_succ _ | with_reducible exact Nat.le_succ_of_le hs3 | with_reducible exact Nat.le_succ_of_le hs5) _ _ _ _ _; with_reducible exact hb2) | (with_reducible refine keepAl2 ?_ _; with_reducible exact hb2)) | (with_reducible refine keepAl2 ?_ _; first | with_reducible exact hb2 | (with_reducible refine keepSt5 ?_ _ (by first | with_reducible exact hs3 | with_reducible exact hs5 | with_reducible exact Nat.le_refl _ | with_reducible exact Nat.le_succ _ | with_reducible exact Nat.le_succ_of_le hs3 | with_reducible exact Nat.le_succ_of_le hs5) _ _ _ _ _; with_reducible exact hb2) | (with_reducible refine keepAl2 ?_ _; with_reducible exact hb2)))) | (with_reducible refine keepAl2 ?_ _; first | with_reducible exact hb2 | (with_reducible refine keepSt5 ?_ _ (by first | with_reducible exact hs3 | with_reducible exact hs5 | with_reducible exact Nat.le_refl _ | with_reducible exact Nat.le_succ _ | with_reducible exact Nat.le_succ_of_le hs3 | with_reducible exact Nat.le_succ_of_le hs5) _ _ _ _ _; first | with_reducible exact hb2 | (with_reducible refine keepSt5 ?_ _ (by first | with_reducible exact hs3 | with_reducible exact hs5 | with_reducible exact Nat.le_refl _ | with_reducible exact Nat.le_succ _ | with_reducible exact Nat.le_succ_of_le hs3 | with_reducible exact Nat.le_succ_of_le hs5) _ _ _ _ _; first | with_reducible exact hb2 | (with_reducible refine keepSt5 ?_ _ (by first | with_reducible exact hs3 | with_reducible exact hs5 | with_reducible exact Nat.le_refl _ | with_reducible exact Nat.le_succ _ | with_reducible exact Nat.le_succ_of_le hs3 | with_reducible exact Nat.le_succ_of_le hs5) _ _ _ _ _; with_reducible exact hb2) | (with_reducible refine keepAl2 ?_ _; with_reducible exact hb2)) | (with_reducible refine keepAl2 ?_ _; first | with_reducible exact hb2 | (with_reducible refine keepSt5 ?_ _ (by first | with_reducible exact hs3 | with_reducible exact hs5 | with_reducible exact Nat.le_refl _ | with_reducible exact Nat.le_succ _ | with_reducible exact Nat.le_succ_of_le hs3 | with_reducible exact Nat.le_succ_of_le hs5) _ _ _ _ _; with_reducible exact hb2) | (with_reducible refine keepAl2 ?_ _; with_reducible exact hb2))) | (with_reducible refine keepAl2 ?_ _; first | with_reducible exact hb2 | (with_reducible refine keepSt5 ?_ _ (by first | with_reducible exact hs3 | with_reducible exact hs5 | with_reducible exact Nat.le_refl _ | with_reducible exact Nat.le_succ _ | with_reducible exact Nat.le_succ_of_le hs3 | with_reducible exact Nat.le_succ_of_le hs5) _ _ _ _ _; first | with_reducible exact hb2 | (with_reducible refine keepSt5 ?_ _ (by first | with_reducible exact hs3 | with_reducible exact hs5 | with_reducible exact Nat.le_refl _ | with_reducible exact Nat.le_succ _ | with_reducible exact Nat.le_succ_of_le hs3 | with_reducible exact Nat.le_succ_of_le hs5) _ _ _ _ _; with_reducible exact hb2) | (with_reducible refine keepAl2 ?_ _; with_reducible exact hb2)) | (with_reducible refine keepAl2 ?_ _; first | with_reducible exact hb2 | (with_reducible refine keepSt5 ?_ _ (by first | with_reducible exact hs3 | with_reducible exact hs5 | with_reducible exact Nat.le_refl _ | with_reducible exact Nat.le_succ _ | with_reducible exact Nat.le_succ_of_le hs3 | with_reducible exact Nat.le_succ_of_le hs5) _ _ _ _ _; with_reducible exact hb2) | (with_reducible refine keepAl2 ?_ _; with_reducible exact hb2))))) | (have hq := hb1; clear hq; refine Kof _ ?_; first | with_reducible exact hb1 | (with_reducible refine keepAl2 ?_ _; first | with_reducible exact hb1 | (with_reducible refine keepAl2 ?_ _; with_reducible exact hb1))) | with_reducible exact Kof _ A0 | with_reducible exact Kof _ A1 | with_reducible exact Kof _ A2)
      (first | (have hq := hb1; clear hq; go_at_call 13; refine (kY _ (hm2 _ (by first | with_reducible exact hb1 | with_reducible exact keepAl2 hb1 _ | with_reducible exact keepAl2 (keepAl2 hb1 _) _))).mono ?_; rintro e v4 ⟨rfl, hb0⟩; have hb2 := keepC (w1 := v2) (by first | with_reducible exact hb1 | with_reducible exact keepAl2 hb1 _ | with_reducible exact keepAl2 (keepAl2 hb1 _) _) hb0; have hs5 := hb2.size; have hs4 := hb0.size; (try simp at hs4); (first | (with_reducible have z3 := (Z5_new2 v3).1.below hb0; with_reducible have z4 := (Z5_new2 v3).2.below hb0) | (with_reducible have z3 := (Z5_new v3).below hb0) | skip); (first | (with_reducible have y1 := z1.below hb0) | (with_reducible have y1 := (z1.al _).below hb0) | skip); (try (with_reducible have y2 := z2.below hb0)); clear hb0; (try clear z1); (try clear z2); (try (have pz := z3; obtain ⟨p0, p1, p2, p3, p4, p5, p6, p7, p8, p9, pl⟩ := pz)); (try (have qz := z4; obtain ⟨q0, q1, q2, q3, q4, q5, q6, q7, q8, q9, ql⟩ := qz)); (try (have rz := y1; obtain ⟨r0, r1, r2, r3, r4, r5, r6, r7, r8, r9, rl⟩ := rz)); (try (have sz := y2; obtain ⟨s0, s1, s2, s3, s4, s5, s6, s7, s8, s9, sl⟩ := sz))) | (go_at_call 13; refine (kX _ (hm2 _ (by first | with_reducible exact A0 | with_reducible exact A1 | with_reducible exact A2))).mono ?_; rintro e v3 ⟨rfl, hb0⟩; have hb1 := keepC (w1 := v2) (by first | with_reducible exact A0 | with_reducible exact A1 | with_reducible exact A2) hb0; have hs3 := hb1.size; (first | (with_reducible have z1 := ZB1.below hb0; with_reducible have z2 := ZB2.below hb0; have hl3 := z2.lt) | (with_reducible have z1 := ZA.below hb0; have hl3 := z1.lt) | skip); clear hb0 ZA ZB1 ZB2))
    all_goals go_wp2_with fail
    all_goals go_meet
    all_goals first | with_reducible exact Rel2.new S T hb2 | with_reducible exact Rel2.new' S T hb2 | with_reducible exact Rel2.mid S T hb2 z3 hs3 | with_reducible exact Rel2.mid' S T hb2 z3 hs3 | with_reducible exact Rel2.mid S T hb2 y1 (Nat.le_refl _) | with_reducible exact Rel2.mid' S T hb2 y1 (Nat.le_refl _) | with_reducible exact Rel2.old S T hb2 z3 z4 hs3 (Nat.le_succ_of_le hs3) (by omega) | with_reducible exact Rel2.old S T hb2 z4 z3 (Nat.le_succ_of_le hs3) hs3 (by omega) | with_reducible exact Rel2.old S T hb2 y1 z3 (Nat.le_refl _) hs3 (by omega) | with_reducible exact Rel2.old S T hb2 z3 y1 hs3 (Nat.le_refl _) (by omega) | with_reducible exact Rel2.old S T hb2 y1 y2 (Nat.le_refl _) (Nat.le_succ _) (by omega) | with_reducible exact Rel2.old S T hb2 y2 y1 (Nat.le_succ _) (Nat.le_refl _) (by omega)
  case rest =>
    rename World => wx
    clear kX kY hm hm2 x0 x1 y0 y1 Kof KS1 KS2
    obtain ⟨g, k, rfl, rfl, hS, hT, hbx⟩ := hcut
    have H0 : Hv w wx gd g k e0 e1 e2 e3 e4 e5 S T := ⟨b1.trans (hbx.mono b1.size), ⟨(hbx.cell ld).trans d0, (hbx.cell ld).trans d1, (hbx.cell ld).trans d2, (hbx.cell ld).trans d3, (hbx.cell ld).trans d4, (hbx.cell ld).trans d5, Nat.lt_of_lt_of_le ld hbx.size⟩, hS, hT⟩
    clear hbx b1 d0 d1 d2 d3 d4 d5 hS hT ld l0 n1
    have HR := hid hr; clear hr
    obtain ⟨-, ⟨d0, d1, d2, d3, d4, d5, -⟩, ⟨s0, s1, s2, s3, s4, -⟩, t0, t1, t2, t3, t4, -⟩ := id H0
    go_wp2_with fail
    refine (kvS _).mono ?_
    rintro e vv1 ⟨rfl, hb⟩
    clear d0 d1 d2 d3 d4 d5 s0 s1 s2 s3 s4 t0 t1 t2 t3 t4
    have H1 := H0.below hb
    clear hb H0
    obtain ⟨-, ⟨d0, d1, d2, d3, d4, d5, -⟩, ⟨s0, s1, s2, s3, s4, -⟩, t0, t1, t2, t3, t4, -⟩ := id H1
    cases vS
    · skip
      go_wp2_with fail
      go_ret
      exact ⟨by rw [HR.out]; rfl, H1.b⟩
    · skip
      go_wp2_with fail
      refine (kvT _).mono ?_
      rintro e vv2 ⟨rfl, hb⟩
      clear d0 d1 d2 d3 d4 d5 s0 s1 s2 s3 s4 t0 t1 t2 t3 t4
      have H2 := H1.below hb
      clear hb H1
      obtain ⟨-, ⟨d0, d1, d2, d3, d4, d5, -⟩, ⟨s0, s1, s2, s3, s4, -⟩, t0, t1, t2, t3, t4, -⟩ := id H2
      cases vT
      · skip
        go_wp2_with fail
        go_ret
        exact ⟨by rw [HR.out]; rfl, H2.b⟩
      · skip
        replace krS := krS (by first | trivial | rfl) (by first | trivial | rfl)
        replace krT := krT (by first | trivial | rfl) (by first | trivial | rfl)
        go_wp2_with fail
        refine (kbS _).mono ?_
        rintro e vv3 ⟨rfl, hb⟩
        clear d0 d1 d2 d3 d4 d5 s0 s1 s2 s3 s4 t0 t1 t2 t3 t4
        have H3 := H2.below hb
        clear hb H2
        obtain ⟨-, ⟨d0, d1, d2, d3, d4, d5, -⟩, ⟨s0, s1, s2, s3, s4, -⟩, t0, t1, t2, t3, t4, -⟩ := id H3
        cases bS
        · skip
          go_wp2_with fail
          refine (kbS _).mono ?_
          rintro e vv4 ⟨rfl, hb⟩
          clear d0 d1 d2 d3 d4 d5 s0 s1 s2 s3 s4 t0 t1 t2 t3 t4
          have H4 := H3.below hb
          clear hb H3
          obtain ⟨-, ⟨d0, d1, d2, d3, d4, d5, -⟩, ⟨s0, s1, s2, s3, s4, -⟩, t0, t1, t2, t3, t4, -⟩ := id H4
          go_wp2_with fail
          refine (kbT _).mono ?_
          rintro e vv5 ⟨rfl, hb⟩
          clear d0 d1 d2 d3 d4 d5 s0 s1 s2 s3 s4 t0 t1 t2 t3 t4
          have H5 := H4.below hb
          clear hb H4
          obtain ⟨-, ⟨d0, d1, d2, d3, d4, d5, -⟩, ⟨s0, s1, s2, s3, s4, -⟩, t0, t1, t2, t3, t4, -⟩ := id H5
          cases bT
          · skip
            go_wp2_with fail
            clear d0 d1 d2 d3 d4 d5 s0 s1 s2 s3 s4 t0 t1 t2 t3 t4
            have KH : ∀ v, Below vv5.heap.size vv5 v → (fun v => v.cell? ⟨gd, 0, none⟩ = some (.int .i64 e0) ∧ v.cell? ⟨gd, 1, none⟩ = some (.int .i64 e1) ∧ v.cell? ⟨gd, 2, none⟩ = some (.int .i64 e2) ∧ v.cell? ⟨gd, 3, none⟩ = some (.int .i64 e3) ∧ v.cell? ⟨gd, 4, none⟩ = some (.int .i64 e4) ∧ v.cell? ⟨gd, 5, none⟩ = some (.bool e5) ∧ v.cell? ⟨g, 0, none⟩ = some (.int .i64 S.c) ∧ v.cell? ⟨g, 1, none⟩ = some (.bool S.n) ∧ v.cell? ⟨g, 2, none⟩ = some (.int .u64 (M.hiN S.s : Int)) ∧ v.cell? ⟨g, 3, none⟩ = some (.int .u64 (M.loN S.s : Int)) ∧ v.cell? ⟨g, 4, none⟩ = some (.int .i64 S.q) ∧ v.cell? ⟨k, 0, none⟩ = some (.int .i64 T.c) ∧ v.cell? ⟨k, 1, none⟩ = some (.bool T.n) ∧ v.cell? ⟨k, 2, none⟩ = some (.int .u64 (M.hiN T.s : Int)) ∧ v.cell? ⟨k, 3, none⟩ = some (.int .u64 (M.loN T.s : Int)) ∧ v.cell? ⟨k, 4, none⟩ = some (.int .i64 T.q)) v := fun v hv => (H5.below hv).raw
            have A0 : Below vv5.heap.size vv5 vv5.drew := (Below.refl _ _).drew
            go_region_held3 (fun v => v.cell? ⟨gd, 0, none⟩ = some (.int .i64 e0) ∧ v.cell? ⟨gd, 1, none⟩ = some (.int .i64 e1) ∧ v.cell? ⟨gd, 2, none⟩ = some (.int .i64 e2) ∧ v.cell? ⟨gd, 3, none⟩ = some (.int .i64 e3) ∧ v.cell? ⟨gd, 4, none⟩ = some (.int .i64 e4) ∧ v.cell? ⟨gd, 5, none⟩ = some (.bool e5) ∧ v.cell? ⟨g, 0, none⟩ = some (.int .i64 S.c) ∧ v.cell? ⟨g, 1, none⟩ = some (.bool S.n) ∧ v.cell? ⟨g, 2, none⟩ = some (.int .u64 (M.hiN S.s : Int)) ∧ v.cell? ⟨g, 3, none⟩ = some (.int .u64 (M.loN S.s : Int)) ∧ v.cell? ⟨g, 4, none⟩ = some (.int .i64 S.q) ∧ v.cell? ⟨k, 0, none⟩ = some (.int .i64 T.c) ∧ v.cell? ⟨k, 1, none⟩ = some (.bool T.n) ∧ v.cell? ⟨k, 2, none⟩ = some (.int .u64 (M.hiN T.s : Int)) ∧ v.cell? ⟨k, 3, none⟩ = some (.int .u64 (M.loN T.s : Int)) ∧ v.cell? ⟨k, 4, none⟩ = some (.int .i64 T.q)) (first | with_reducible exact KH _ hb3 | with_reducible exact KH _ hb2 | with_reducible exact KH _ hb1 | with_reducible exact KH _ A0)
              (first | (have hq := hb2; clear hq; go_at_call 37; refine (kcST _).mono ?_; rintro e u3 ⟨rfl, hb0⟩; have hb3 := keepC (w1 := vv5) hb2 hb0; clear hb0) | (have hq := hb1; clear hq; go_at_call 36; refine (krT _).mono ?_; rintro e u2 ⟨rfl, hb0⟩; have hb2 := keepC (w1 := vv5) hb1 hb0; clear hb0) | (go_at_call 36; refine (krS _).mono ?_; rintro e u1 ⟨rfl, hb0⟩; have hb1 := keepC (w1 := vv5) A0 hb0; clear hb0))
            all_goals go_wp2_with fail
            all_goals go_ret
            all_goals exact ⟨by rw [HR.out]; rfl, (H5.below hb3).b⟩
          · skip
            go_wp2_with fail
            go_ret
            exact ⟨by rw [HR.out]; rfl, H5.b⟩
        · skip
          go_wp2_with fail
          refine (kbT _).mono ?_
          rintro e vv6 ⟨rfl, hb⟩
          clear d0 d1 d2 d3 d4 d5 s0 s1 s2 s3 s4 t0 t1 t2 t3 t4
          have H6 := H3.below hb
          clear hb H3
          obtain ⟨-, ⟨d0, d1, d2, d3, d4, d5, -⟩, ⟨s0, s1, s2, s3, s4, -⟩, t0, t1, t2, t3, t4, -⟩ := id H6
          cases bT
          · skip
            go_wp2_with fail
            refine (kbS _).mono ?_
            rintro e vv7 ⟨rfl, hb⟩
            clear d0 d1 d2 d3 d4 d5 s0 s1 s2 s3 s4 t0 t1 t2 t3 t4
            have H7 := H6.below hb
            clear hb H6
            obtain ⟨-, ⟨d0, d1, d2, d3, d4, d5, -⟩, ⟨s0, s1, s2, s3, s4, -⟩, t0, t1, t2, t3, t4, -⟩ := id H7
            go_wp2_with fail
            go_ret
            exact ⟨by rw [HR.out]; rfl, H7.b⟩
          · skip
            go_wp2_with fail
            clear d0 d1 d2 d3 d4 d5 s0 s1 s2 s3 s4 t0 t1 t2 t3 t4
            have KH : ∀ v, Below vv6.heap.size vv6 v → (fun v => v.cell? ⟨gd, 0, none⟩ = some (.int .i64 e0) ∧ v.cell? ⟨gd, 1, none⟩ = some (.int .i64 e1) ∧ v.cell? ⟨gd, 2, none⟩ = some (.int .i64 e2) ∧ v.cell? ⟨gd, 3, none⟩ = some (.int .i64 e3) ∧ v.cell? ⟨gd, 4, none⟩ = some (.int .i64 e4) ∧ v.cell? ⟨gd, 5, none⟩ = some (.bool e5) ∧ v.cell? ⟨g, 0, none⟩ = some (.int .i64 S.c) ∧ v.cell? ⟨g, 1, none⟩ = some (.bool S.n) ∧ v.cell? ⟨g, 2, none⟩ = some (.int .u64 (M.hiN S.s : Int)) ∧ v.cell? ⟨g, 3, none⟩ = some (.int .u64 (M.loN S.s : Int)) ∧ v.cell? ⟨g, 4, none⟩ = some (.int .i64 S.q) ∧ v.cell? ⟨k, 0, none⟩ = some (.int .i64 T.c) ∧ v.cell? ⟨k, 1, none⟩ = some (.bool T.n) ∧ v.cell? ⟨k, 2, none⟩ = some (.int .u64 (M.hiN T.s : Int)) ∧ v.cell? ⟨k, 3, none⟩ = some (.int .u64 (M.loN T.s : Int)) ∧ v.cell? ⟨k, 4, none⟩ = some (.int .i64 T.q)) v := fun v hv => (H6.below hv).raw
            have A0 : Below vv6.heap.size vv6 vv6.drew := (Below.refl _ _).drew
            go_region_held3 (fun v => v.cell? ⟨gd, 0, none⟩ = some (.int .i64 e0) ∧ v.cell? ⟨gd, 1, none⟩ = some (.int .i64 e1) ∧ v.cell? ⟨gd, 2, none⟩ = some (.int .i64 e2) ∧ v.cell? ⟨gd, 3, none⟩ = some (.int .i64 e3) ∧ v.cell? ⟨gd, 4, none⟩ = some (.int .i64 e4) ∧ v.cell? ⟨gd, 5, none⟩ = some (.bool e5) ∧ v.cell? ⟨g, 0, none⟩ = some (.int .i64 S.c) ∧ v.cell? ⟨g, 1, none⟩ = some (.bool S.n) ∧ v.cell? ⟨g, 2, none⟩ = some (.int .u64 (M.hiN S.s : Int)) ∧ v.cell? ⟨g, 3, none⟩ = some (.int .u64 (M.loN S.s : Int)) ∧ v.cell? ⟨g, 4, none⟩ = some (.int .i64 S.q) ∧ v.cell? ⟨k, 0, none⟩ = some (.int .i64 T.c) ∧ v.cell? ⟨k, 1, none⟩ = some (.bool T.n) ∧ v.cell? ⟨k, 2, none⟩ = some (.int .u64 (M.hiN T.s : Int)) ∧ v.cell? ⟨k, 3, none⟩ = some (.int .u64 (M.loN T.s : Int)) ∧ v.cell? ⟨k, 4, none⟩ = some (.int .i64 T.q)) (first | with_reducible exact KH _ hb3 | with_reducible exact KH _ hb2 | with_reducible exact KH _ hb1 | with_reducible exact KH _ A0)
              (first | (have hq := hb2; clear hq; go_at_call 37; refine (kcTS _).mono ?_; rintro e u3 ⟨rfl, hb0⟩; have hb3 := keepC (w1 := vv6) hb2 hb0; clear hb0) | (have hq := hb1; clear hq; go_at_call 36; refine (krS _).mono ?_; rintro e u2 ⟨rfl, hb0⟩; have hb2 := keepC (w1 := vv6) hb1 hb0; clear hb0) | (go_at_call 36; refine (krT _).mono ?_; rintro e u1 ⟨rfl, hb0⟩; have hb1 := keepC (w1 := vv6) A0 hb0; clear hb0))
            all_goals go_wp2_with fail
            all_goals go_ret
            all_goals exact ⟨by rw [HR.out]; rfl, (H6.below hb3).b⟩

end Go.Proofs.YtcilemkeljcidaaDoor
