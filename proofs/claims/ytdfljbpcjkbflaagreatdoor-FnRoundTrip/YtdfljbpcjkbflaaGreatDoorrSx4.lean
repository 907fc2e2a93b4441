import Derived.Test.YtdfljbpcjkbflaaGreatDoorrHAR
import Derived.Test.YtdfljbpcjkbflaaGreatDoorrHAZ
set_option maxHeartbeats 8000000
set_option maxRecDepth 10000
namespace Go.Proofs.YtdfljbpcjkbflaaGreatDoor
open Go.RowKit
set_option linter.unusedVariables false
set_option maxRecDepth 100000
theorem al1 (v : World) (o : Obj) : Below v.heap.size v (v.alloc o) := (Below.refl _ _).alloc (Nat.le_refl _) _

theorem al2 (v : World) (o p : Obj) : Below v.heap.size v ((v.alloc o).alloc p) := aD (al1 v o) p

theorem rdO {v : World} {g : Nat} (h : Cls v g #[.int .u64 1] 23) : Rd v (some ⟨g, 0, none⟩) (L 1) := by
 rw [iP]
 intro _
 refine ⟨g, 0, rfl, fun i hi => ?_⟩
 have hi' : i = 0 := by simp at hi; omega
 subst hi'
 exact h.cell 0 rfl

theorem BZ {v : World} {g : Nat} {x y : Option Addr} {m n c d : Nat} {a : Option Addr} {xs : List Nat} {t : TypeId} (h : Rd v a xs) (hc : Cls v g #[.slice x m c, .slice y n d] t) (u1 u2 : Value) : Rd ((v.setCell ⟨g, 0, none⟩ u1).setCell ⟨g, 1, none⟩ u2) a xs := by
 intro hp
 obtain ⟨b, off, e, hk⟩ := h hp
 have hb : b ≠ g := by
  intro hbg
  subst hbg
  have h0 := hk 0 hp
  have hcc : v.heap[b]? = some (.cells #[.slice x m c, .slice y n d] t) := hc
  rw [cell_of_row v b (off + 0) _ _ (0, 0) hcc] at h0
  rcases Nat.lt_or_ge off 2 with q | q
  · rcases Nat.lt_or_ge off 1 with q1 | q1
    · have : off = 0 := by omega
      subst this; simp at h0
    · have : off = 1 := by omega
      subst this; simp at h0
  · rw [Array.getElem?_eq_none (by simp; omega)] at h0; cases h0
 refine ⟨b, off, e, fun i hi => ?_⟩
 rw [← hk i hi]
 exact World.cell?_of_block (w := v) (a := ⟨b, off + i, none⟩) ((Below.heap_setCell _ ⟨g, 1, none⟩ _ _ hb).trans (Below.heap_setCell _ ⟨g, 0, none⟩ _ _ hb))

theorem lY {v : World} {g : Nat} {x0 : Int} {x1 x2 x3 x4 x5 : Option Addr} {n1 n2 n3 n4 n5 d1 d2 d3 d4 d5 : Nat} {a : Option Addr} {N : Nat} {t : TypeId} (h : Rd v a (L N)) (hc : Cls v g #[.int .i64 x0, .slice x1 n1 d1, .slice x2 n2 d2, .slice x3 n3 d3, .slice x4 n4 d4, .slice x5 n5 d5] t) (u0 u1 u2 u3 u4 u5 : Value) : Rd ((((((v.setCell ⟨g, 0, none⟩ u0).setCell ⟨g, 1, none⟩ u1).setCell ⟨g, 2, none⟩ u2).setCell ⟨g, 3, none⟩ u3).setCell ⟨g, 4, none⟩ u4).setCell ⟨g, 5, none⟩ u5) a (L N) := by
 intro hp
 obtain ⟨b, off, e, hk⟩ := h hp
 have hb : b ≠ g := by
  intro hbg
  subst hbg
  have h0 := hk 0 hp
  have hcc : v.heap[b]? = some (.cells #[.int .i64 x0, .slice x1 n1 d1, .slice x2 n2 d2, .slice x3 n3 d3, .slice x4 n4 d4, .slice x5 n5 d5] t) := hc
  rw [cell_of_row v b (off + 0) _ _ (0, 0) hcc] at h0
  match off, h0 with
  | 0, h0 => simp at h0
  | 1, h0 => simp at h0
  | 2, h0 => simp at h0
  | 3, h0 => simp at h0
  | 4, h0 => simp at h0
  | 5, h0 => simp at h0
  | k + 6, h0 => rw [Array.getElem?_eq_none (by simp)] at h0; cases h0
 refine ⟨b, off, e, fun i hi => ?_⟩
 rw [← hk i hi]
 exact World.cell?_of_block (w := v) (a := ⟨b, off + i, none⟩) ((((((Below.heap_setCell _ ⟨g, 5, none⟩ _ _ hb).trans (Below.heap_setCell _ ⟨g, 4, none⟩ _ _ hb)).trans (Below.heap_setCell _ ⟨g, 3, none⟩ _ _ hb)).trans (Below.heap_setCell _ ⟨g, 2, none⟩ _ _ hb)).trans (Below.heap_setCell _ ⟨g, 1, none⟩ _ _ hb)).trans (Below.heap_setCell _ ⟨g, 0, none⟩ _ _ hb))

theorem GN {w v : World} (h : Below w.heap.size w v) {g : Nat} (hg : w.heap.size ≤ g) (a b c d e f : Value) : Below w.heap.size w ((((((v.setCell ⟨g, 0, none⟩ a).setCell ⟨g, 1, none⟩ b).setCell ⟨g, 2, none⟩ c).setCell ⟨g, 3, none⟩ d).setCell ⟨g, 4, none⟩ e).setCell ⟨g, 5, none⟩ f) :=
 (((((h.setCell (p := ⟨g, 0, none⟩) hg _).setCell (p := ⟨g, 1, none⟩) hg _).setCell (p := ⟨g, 2, none⟩) hg _).setCell (p := ⟨g, 3, none⟩) hg _).setCell (p := ⟨g, 4, none⟩) hg _).setCell (p := ⟨g, 5, none⟩) hg _

def Vb (v3 : World) (X Y : Nat) (p : Value) (wx : World) : Prop :=
 ∃ g m1 k1 m2 k2, p = .pointer (some ⟨g, 0, none⟩) ∧ Cls wx g #[.slice m1 (L X).length k1, .slice m2 (L Y).length k2] 73 ∧ Rd wx m1 (L X) ∧ Rd wx m2 (L Y) ∧ Below v3.heap.size v3 wx

theorem Vb.new {v3 t3 : World} {X Y k1 k2 : Nat} {m1 m2 : Option Addr} (hb : Below v3.heap.size v3 t3) (r1 : Rd t3 m1 (L X)) (r2 : Rd t3 m2 (L Y)) : Vb v3 X Y (.pointer (some ⟨t3.heap.size, 0, none⟩)) (t3.alloc (.cells #[.slice m1 (L X).length k1, .slice m2 (L Y).length k2] 73)) :=
 ⟨_, m1, k1, m2, k2, rfl, Cls.new _ _ _, r1.below (al1 _ _), r2.below (al1 _ _), aD hb _⟩

theorem Vb.old {v3 t3 : World} {X Y k1 k2 g : Nat} {m1 m2 : Option Addr} (hb : Below v3.heap.size v3 t3) (z : Cls t3 g #[.slice none 0 0, .slice none 0 0] 73) (hg : v3.heap.size ≤ g) (r1 : Rd t3 m1 (L X)) (r2 : Rd t3 m2 (L Y)) : Vb v3 X Y (.pointer (some ⟨g, 0, none⟩)) ((t3.setCell ⟨g, 0, none⟩ (.slice m1 (L X).length k1)).setCell ⟨g, 1, none⟩ (.slice m2 (L Y).length k2)) :=
 ⟨g, m1, k1, m2, k2, rfl, (z.set 0 _ _ rfl).set 1 _ _ rfl, BZ r1 z _ _, BZ r2 z _ _, aM (aM hb _ _ hg _) _ _ hg _⟩

theorem r9 (a b c : Option Addr) (ca cb cc A B C : Nat) (cl tn : Bool) (tc q X : Int) (s N2 D2 P Q : Nat) (w : World) (hs : s < 2 ^ 128) (hq1 : -19000 ≤ q) (hq2 : q ≤ 19000)
 (hA : (L A).length ≤ 1000) (hB : (L B).length ≤ 1000) (hC : (L C).length ≤ 1000) (lN2 : (L N2).length ≤ 1000) (lD2 : (L D2).length ≤ 1000) (lP : (L P).length ≤ 1000) (lQ : (L Q).length ≤ 1000) (pD : 0 < D2) (pQ : 0 < Q) (pC : 0 < C) (pB : cl = false → 1 ≤ B * P / (C * Q))
 (hX : X = M.uB (q - 2)) (ra : Rd w a (L A)) (rb : Rd w b (L B)) (rc : Rd w c (L C))
 (kT : ∀ v : World, Calls Tryz.prog 54 #[.int .i64 (-X)] v fun e w' => RR v w' e P Q)
 (kW : ∀ (v : World) (x y : Option Addr) (d e : Nat), Rd v x (L s) → Rd v y (L 1) → Calls Tryz.prog 73 #[.agg #[.slice x (L s).length d, .slice y 1 e], .int .i64 q] v fun e w' => RR v w' e N2 D2) :
 Calls Tryz.prog 33 #[.agg #[.slice a (L A).length ca, .slice b (L B).length cb, .slice c (L C).length cc, .bool cl, .bool true], .agg #[.int .i64 tc, .bool tn, .int .u64 (M.hiN s : Int), .int .u64 (M.loN s : Int), .int .i64 q]] w fun e w' => ∃ a1 c1 a2 c2 a3 c3 a4 c4 a5 c5, e = .returned (.agg #[.int .i64 X, .slice a1 (L (N2 * P)).length c1, .slice a2 (L (D2 * Q)).length c2, .slice a3 (L (N2 * P / (D2 * Q))).length c3, .slice a4 (L (if A * P % (C * Q) ≠ 0 ∨ cl = false then A * P / (C * Q) + 1 else A * P / (C * Q))).length c4, .slice a5 (L (if B * P % (C * Q) = 0 ∧ cl = false then B * P / (C * Q) - 1 else B * P / (C * Q))).length c5]) ∧ Rd w' a1 (L (N2 * P)) ∧ Rd w' a2 (L (D2 * Q)) ∧ Rd w' a3 (L (N2 * P / (D2 * Q))) ∧ Rd w' a4 (L (if A * P % (C * Q) ≠ 0 ∨ cl = false then A * P / (C * Q) + 1 else A * P / (C * Q))) ∧ Rd w' a5 (L (if B * P % (C * Q) = 0 ∧ cl = false then B * P / (C * Q) - 1 else B * P / (C * Q))) ∧ Below w.heap.size w w' := by
 obtain ⟨R1, hR1⟩ : ∃ R1, R1 = (if A * P % (C * Q) ≠ 0 ∨ cl = false then A * P / (C * Q) + 1 else A * P / (C * Q)) := ⟨_, rfl⟩
 obtain ⟨R2, hR2⟩ : ∃ R2, R2 = (if B * P % (C * Q) = 0 ∧ cl = false then B * P / (C * Q) - 1 else B * P / (C * Q)) := ⟨_, rfl⟩
 rw [← hR1, ← hR2]
 have HR1 := hid hR1; have HR2 := hid hR2; clear hR1 hR2
 have lO : (L 1).length = 1 := by rw [iP]; rfl
 have l0 : (L 0).length = 0 := by decide
 obtain ⟨u1', u2'⟩ := x8 (q - 2) (by omega) (by omega)
 rw [← hX] at u1' u2'
 have kU := fun v : World => pG (q - 2) v (by omega) (by omega)
 rw [← hX] at kU
 clear hX
 obtain ⟨ci, cp, cr, b0⟩ := Cls.new3 w #[.slice a (L A).length ca, .slice b (L B).length cb, .slice c (L C).length cc, .bool cl, .bool true] #[.int .i64 tc, .bool tn, .int .u64 (M.hiN s : Int), .int .u64 (M.loN s : Int), .int .i64 q] #[.int .i64 0, .slice none 0 0, .slice none 0 0, .slice none 0 0, .slice none 0 0, .slice none 0 0] 78 35 75
 go_enter Tryz.func33, Tryz.ntmps33
 go_wp2_with fail
 refine (kU _).mono ?_
 rintro e v1 ⟨rfl, rfl⟩
 go_wp2_with fail
 refine (kT _).mono ?_
 rintro e v2 ⟨pa, pc, qa, qc, rfl, rP, rQ, hb⟩
 replace ci := ci.below hb
 replace cp := cp.below hb
 replace cr := cr.below hb
 replace b0 := b0.trans (hb.mono b0.size)
 clear hb kT kU
 go_upto_region 3 with fail
 have cs := Cls.new v2 #[.slice pa (L P).length pc, .slice qa (L Q).length qc] 73
 have hb := al1 v2 (.cells #[.slice pa (L P).length pc, .slice qa (L Q).length qc] 73)
 have l2 : w.heap.size + 1 < v2.heap.size := cp.lt
 replace ci := ci.below hb
 replace cp := cp.below hb
 replace cr := cr.below hb
 replace rP := rP.below hb
 replace rQ := rQ.below hb
 replace b0 := b0.trans (hb.mono b0.size)
 clear hb
 generalize v2.alloc (.cells #[.slice pa (L P).length pc, .slice qa (L Q).length qc] 73) = v3 at *
 generalize v2.heap.size = gs at *
 have A0 : Below v3.heap.size v3 v3.drew := (Below.refl _ _).drew
 have A1 : ∀ o, Below v3.heap.size v3 (v3.alloc o).drew := fun o => (al1 v3 o).drew
 have A2 : ∀ o p, Below v3.heap.size v3 ((v3.alloc o).alloc p).drew := fun o p => (al2 v3 o p).drew
 have dr : ∀ v : World, Below v.heap.size v v.drew := fun v => (Below.refl _ _).drew
 have CO1 : Cls (v3.alloc (Obj.cells #[.int .u64 1] 23)).drew v3.heap.size #[.int .u64 1] 23 := (Cls.new _ _ _).below (dr _)
 have CZ1 : Cls (v3.alloc (Obj.cells #[.slice none 0 0, .slice none 0 0] 73)).drew v3.heap.size #[.slice none 0 0, .slice none 0 0] 73 := (Cls.new _ _ _).below (dr _)
 have CO2 : Cls ((v3.alloc (Obj.cells #[.int .u64 1] 23)).alloc (Obj.cells #[.slice none 0 0, .slice none 0 0] 73)).drew v3.heap.size #[.int .u64 1] 23 := (Cls.new2 _ _ _ _ _).1.below (dr _)
 have CZ2 : Cls ((v3.alloc (Obj.cells #[.int .u64 1] 23)).alloc (Obj.cells #[.slice none 0 0, .slice none 0 0] 73)).drew (v3.heap.size + 1) #[.slice none 0 0, .slice none 0 0] 73 := (Cls.new2 _ _ _ _ _).2.1.below (dr _)
 have CZ3 : Cls ((v3.alloc (Obj.cells #[.slice none 0 0, .slice none 0 0] 73)).alloc (Obj.cells #[.int .u64 1] 23)).drew v3.heap.size #[.slice none 0 0, .slice none 0 0] 73 := (Cls.new2 _ _ _ _ _).1.below (dr _)
 have CO3 : Cls ((v3.alloc (Obj.cells #[.slice none 0 0, .slice none 0 0] 73)).alloc (Obj.cells #[.int .u64 1] 23)).drew (v3.heap.size + 1) #[.int .u64 1] 23 := (Cls.new2 _ _ _ _ _).2.1.below (dr _)
 clear dr
 have Kof : ∀ v, Below v3.heap.size v3 v → (fun v : World => v.cell? ⟨w.heap.size + 1, 2, none⟩ = some (.int .u64 (M.hiN s : Int)) ∧ v.cell? ⟨w.heap.size + 1, 3, none⟩ = some (.int .u64 (M.loN s : Int)) ∧ v.cell? ⟨w.heap.size + 1, 4, none⟩ = some (.int .i64 q) ∧ v.cell? ⟨gs, 0, none⟩ = some (.slice pa (L P).length pc) ∧ v.cell? ⟨gs, 1, none⟩ = some (.slice qa (L Q).length qc)) v := fun v hv => ⟨(cp.below hv).cell 2 rfl, (cp.below hv).cell 3 rfl, (cp.below hv).cell 4 rfl, (cs.below hv).cell 0 rfl, (cs.below hv).cell 1 rfl⟩
 have lgs := cs.lt
 go_cut [7] (fun p wx => Vb v3 (N2 * P) (D2 * Q) p wx)
 case first =>
  go_region_held3 (fun v : World => v.cell? ⟨w.heap.size + 1, 2, none⟩ = some (.int .u64 (M.hiN s : Int)) ∧ v.cell? ⟨w.heap.size + 1, 3, none⟩ = some (.int .u64 (M.loN s : Int)) ∧ v.cell? ⟨w.heap.size + 1, 4, none⟩ = some (.int .i64 q) ∧ v.cell? ⟨gs, 0, none⟩ = some (.slice pa (L P).length pc) ∧ v.cell? ⟨gs, 1, none⟩ = some (.slice qa (L Q).length qc)) (first | (have hq := hb3; clear hq; refine Kof _ ?_; first | with_reducible exact hb3 | with_reducible exact aD hb3 _ | (with_reducible refine aM (aM hb3 _ _ ?_ _) _ _ ?_ _ <;> omega) | (with_reducible refine aM (aM (aD hb3 _) _ _ ?_ _) _ _ ?_ _ <;> omega)) | (have hq := hb2; clear hq; first | with_reducible exact Kof _ hb2 | with_reducible exact Kof _ (aD hb2 _) | with_reducible exact Kof _ (aD (aD hb2 _) _)) | (have hq := hb1; clear hq; first | with_reducible exact Kof _ hb1 | with_reducible exact Kof _ (aD hb1 _) | with_reducible exact Kof _ (aD (aD hb1 _) _)) | with_reducible exact Kof _ A0 | with_reducible exact Kof _ (A1 _) | with_reducible exact Kof _ (A2 _ _))
   (first | (go_at_call 72; refine (oO s hs _).mono ?_; rintro e t1 ⟨xa, xc, rfl, rx, -, hb0⟩; have hb1 := aB (w1 := v3) (by first | with_reducible exact A0 | with_reducible exact A1 _ | with_reducible exact A2 _ _) hb0; have hs1 := hb1.size; (first | (with_reducible have o1 := CO3.below hb0; with_reducible have z1 := CZ3.below hb0) | (with_reducible have o1 := CO2.below hb0; with_reducible have z1 := CZ2.below hb0) | (with_reducible have o1 := CO1.below hb0) | (with_reducible have z1 := CZ1.below hb0) | skip); clear hb0) | (go_at_call 73; refine (kW _ _ _ _ _ (by first | with_reducible exact rx | with_reducible exact rx.below (al1 _ _) | with_reducible exact rx.below (al2 _ _ _)) (by first | with_reducible exact rdO o1 | with_reducible exact rdO (o1.below (al1 _ _)) | with_reducible exact rdO (Cls.new _ _ _) | with_reducible exact rdO (Cls.new2 _ _ _ _ _).1 | with_reducible exact rdO (Cls.new2 _ _ _ _ _).2.1)).mono ?_; rintro e t2 ⟨ya, yc, yb, yd, rfl, ry, ry', hb0⟩; have hb2 := aB (w1 := v3) (by first | with_reducible exact hb1 | with_reducible exact aD hb1 _ | with_reducible exact aD (aD hb1 _) _) hb0; have hs2 := hb2.size; (first | (with_reducible have z2 := z1.below hb0) | (with_reducible have z2 := (z1.below (al1 _ _)).below hb0) | (with_reducible have z2 := (show Cls (t1.alloc (Obj.cells #[.slice none 0 0, .slice none 0 0] 73)) t1.heap.size #[.slice none 0 0, .slice none 0 0] 73 from Cls.new _ _ _).below hb0) | (with_reducible have z2 := (Cls.new2 t1 #[.int .u64 1] #[.slice none 0 0, .slice none 0 0] 23 73).2.1.below hb0) | (with_reducible have z2 := (Cls.new2 t1 #[.slice none 0 0, .slice none 0 0] #[.int .u64 1] 73 23).1.below hb0) | skip); clear hb0) | (go_at_call 53; refine (jE ya yb pa qa yc yd _ _ pc qc _ _ N2 D2 P Q _ rfl rfl rfl rfl (by omega) (by omega) (by omega) (by omega) (by first | with_reducible exact ry | with_reducible exact ry.below (al1 _ _)) (by first | with_reducible exact ry' | with_reducible exact ry'.below (al1 _ _)) (rP.below (by first | with_reducible exact hb2 | with_reducible exact aD hb2 _)) (rQ.below (by first | with_reducible exact hb2 | with_reducible exact aD hb2 _))).mono ?_; rintro e t3 ⟨m1, k1, m2, k2, rfl, rm, rn, hb0⟩; have hb3 := aB (w1 := v3) (by first | with_reducible exact hb2 | with_reducible exact aD hb2 _) hb0; have hs3 := hb3.size; (first | (with_reducible have z3 := z2.below hb0) | (with_reducible have z3 := (show Cls (t2.alloc (Obj.cells #[.slice none 0 0, .slice none 0 0] 73)) t2.heap.size #[.slice none 0 0, .slice none 0 0] 73 from Cls.new _ _ _).below hb0) | skip); clear hb0; (try (have z30 := z3.cell 0 rfl; have z31 := z3.cell 1 rfl; have z32 := z3.frozen 0; have z33 := z3.frozen 1))))
  all_goals go_wp2_with fail
  all_goals go_meet
  all_goals first | with_reducible exact Vb.new hb3 rm rn | with_reducible exact Vb.old hb3 z3 (by omega) rm rn
 case rest =>
 rename World => wx
 obtain ⟨gv, m1, k1, m2, k2, rfl, cv, rm, rn, hb⟩ := hcut
 clear A0 A1 A2 CO1 CO2 CO3 CZ1 CZ2 CZ3 Kof kW
 replace ci := ci.below hb
 replace cp := cp.below hb
 replace cr := cr.below hb
 replace cs := cs.below hb
 replace rP := rP.below hb
 replace rQ := rQ.below hb
 replace b0 := b0.trans (hb.mono b0.size)
 clear hb
 have x0 := cv.cell 0 rfl
 have x1 := cv.cell 1 rfl
 have lC := fD C Q 1000 1000 hC lQ
 have lD := fD D2 Q 1000 1000 lD2 lQ
 have lN := fD N2 P 1000 1000 lN2 lP
 have lA := fD A P 1000 1000 hA lP
 have lB := fD B P 1000 1000 hB lP
 go_wp2_with fail
 refine (iN m1 m2 k1 k2 _ _ (N2 * P) (D2 * Q) _ rfl rfl (Nat.mul_pos pD pQ) (by omega) (by omega) rm rn).mono ?_
 rintro e y1 ⟨wa, wc, w2a, w2c, rfl, rw', hb⟩
 replace ci := ci.below hb
 replace cr := cr.below hb
 replace cs := cs.below hb
 replace cv := cv.below hb
 replace rP := rP.below hb
 replace rQ := rQ.below hb
 replace rm := rm.below hb
 replace rn := rn.below hb
 replace b0 := b0.trans (hb.mono b0.size)
 clear hb x0 x1
 have i0 := ci.cell 0 rfl
 have i1 := ci.cell 1 rfl
 have i2 := ci.cell 2 rfl
 have i3 := ci.cell 3 rfl
 have i4 := ci.cell 4 rfl
 have s0 := cs.cell 0 rfl
 have s1 := cs.cell 1 rfl
 have raB := ra.below b0
 have rcB := rc.below b0
 go_wp2_with fail
 refine (jE a c pa qa ca cc _ _ pc qc _ _ A C P Q _ rfl rfl rfl rfl (by omega) (by omega) (by omega) (by omega) raB rcB rP rQ).mono ?_
 rintro e y2 ⟨ta, tc', tb, td, rfl, rt, ru, hb⟩
 replace ci := ci.below hb
 replace cr := cr.below hb
 replace cs := cs.below hb
 replace cv := cv.below hb
 replace rP := rP.below hb
 replace rQ := rQ.below hb
 replace rm := rm.below hb
 replace rn := rn.below hb
 replace rw' := rw'.below hb
 replace b0 := b0.trans (hb.mono b0.size)
 clear hb i0 i1 i2 i3 i4 s0 s1 raB rcB
 go_wp2_with fail
 refine (iN ta tb tc' td _ _ (A * P) (C * Q) _ rfl rfl (Nat.mul_pos pC pQ) (by omega) (by omega) rt ru).mono ?_
 rintro e y3 ⟨la, lc, l2a, l2c, rfl, rl, hb⟩
 replace ci := ci.below hb
 replace cr := cr.below hb
 replace cs := cs.below hb
 replace cv := cv.below hb
 replace rP := rP.below hb
 replace rQ := rQ.below hb
 replace rm := rm.below hb
 replace rn := rn.below hb
 replace rw' := rw'.below hb
 replace b0 := b0.trans (hb.mono b0.size)
 clear hb rt ru
 go_upto_region 6 with fail
 generalize hov : A * P % (C * Q) = ov at *
 have HOV := hid hov; clear hov
 obtain ⟨b1, hb1⟩ : ∃ b1 : Bool, b1 = decide (ov ≠ 0 ∨ cl = false) := ⟨_, rfl⟩
 have HB1 := hid hb1; clear hb1
 go_cut [53] (fun z wx => z = .bool b1 ∧ wx = y3)
 case first =>
  have i0 := ci.cell 0 rfl; have i1 := ci.cell 1 rfl; have i2 := ci.cell 2 rfl; have i3 := ci.cell 3 rfl; have i4 := ci.cell 4 rfl
  by_cases hz : ov = 0
  · subst hz
    rw [l0]
    cases cl
    all_goals (
     go_wp2_with fail
     go_meet
     exact ⟨by rw [HB1.out]; rfl, rfl⟩)
  · have hl1 : (0 : Int) < ((L ov).length : Int) := by have := mt (mL ov).1 hz; omega
    generalize (L ov).length = kv at *
    have hl1' : ¬ (kv : Int) ≤ 0 := by omega
    go_wp2_with fail
    go_meet
    exact ⟨by rw [HB1.out]; simp [hz], rfl⟩
 case rest =>
 obtain ⟨rfl, hww⟩ := hcut
 replace hww := hww.symm
 subst hww
 generalize (L ov).length = kv at *
 go_upto_if 53 with fail
 go_cut [10] (fun z wx => ∃ la' lc', z = .slice la' (L R1).length lc' ∧ Rd wx la' (L R1) ∧ Below y3.heap.size y3 wx)
 case first =>
  cases b1
  · have eR1 : R1 = A * P / (C * Q) := by have h := HR1.out; rw [if_neg (of_decide_eq_false HB1.out.symm)] at h; exact h
    rw [← eR1] at rl ⊢
    clear eR1
    go_wp2_with fail
    go_meet
    exact ⟨la, lc, rfl, rl, Below.refl _ _⟩
  · have eR1 : R1 = A * P / (C * Q) + 1 := by have h := HR1.out; rw [if_pos (of_decide_eq_true HB1.out.symm)] at h; exact h
    go_wp2_with fail
    have rlx := rl.below (al1 y3 (.cells #[.int .u64 1] 23))
    refine (sH la _ _ _ lc _ (A * P / (C * Q)) 1 _ rfl lO (Nat.le_trans (dB (Nat.div_le_self _ _)) (by omega)) (by omega) rlx (rdO (Cls.new y3 _ _))).mono ?_
    rintro e y4 ⟨la', lc', rfl, no, hb'⟩
    have hb := aB (al1 y3 (.cells #[.int .u64 1] 23)) hb'
    have rl := Rd.own no
    rw [← eR1] at rl ⊢
    clear eR1
    go_wp2_with fail
    go_meet
    exact ⟨la', lc', rfl, rl, hb⟩
 case rest =>
 rename World => y4
 clear rl HB1
 obtain ⟨la', lc', rfl, rl, hb⟩ := hcut
 replace ci := ci.below hb
 replace cr := cr.below hb
 replace cs := cs.below hb
 replace cv := cv.below hb
 replace rP := rP.below hb
 replace rQ := rQ.below hb
 replace rm := rm.below hb
 replace rn := rn.below hb
 replace rw' := rw'.below hb
 replace b0 := b0.trans (hb.mono b0.size)
 clear hb
 have i0 := ci.cell 0 rfl; have i1 := ci.cell 1 rfl; have i2 := ci.cell 2 rfl; have i3 := ci.cell 3 rfl; have i4 := ci.cell 4 rfl
 have s0 := cs.cell 0 rfl; have s1 := cs.cell 1 rfl
 have rbB := rb.below b0
 have rcB := rc.below b0
 go_wp2_with fail
 refine (jE b c pa qa cb cc _ _ pc qc _ _ B C P Q _ rfl rfl rfl rfl (by omega) (by omega) (by omega) (by omega) rbB rcB rP rQ).mono ?_
 rintro e y5 ⟨ta, tc', tb, td, rfl, rt, ru, hb⟩
 replace ci := ci.below hb
 replace cr := cr.below hb
 replace cs := cs.below hb
 replace cv := cv.below hb
 replace rm := rm.below hb
 replace rn := rn.below hb
 replace rw' := rw'.below hb
 replace rl := rl.below hb
 replace b0 := b0.trans (hb.mono b0.size)
 clear hb i0 i1 i2 i3 i4 s0 s1 rbB rcB
 go_wp2_with fail
 refine (iN ta tb tc' td _ _ (B * P) (C * Q) _ rfl rfl (Nat.mul_pos pC pQ) (by omega) (by omega) rt ru).mono ?_
 rintro e y6 ⟨ma, mc, m2a, m2c, rfl, rk, hb⟩
 replace ci := ci.below hb
 replace cr := cr.below hb
 replace cs := cs.below hb
 replace cv := cv.below hb
 replace rm := rm.below hb
 replace rn := rn.below hb
 replace rw' := rw'.below hb
 replace rl := rl.below hb
 replace b0 := b0.trans (hb.mono b0.size)
 clear hb rt ru
 go_upto_region 9 with fail
 generalize hov2 : B * P % (C * Q) = ov2 at *
 have HOV2 := hid hov2; clear hov2
 obtain ⟨b2, hb2⟩ : ∃ b2 : Bool, b2 = decide (ov2 = 0 ∧ cl = false) := ⟨_, rfl⟩
 have HB2 := hid hb2; clear hb2
 go_cut [75] (fun z wx => z = .bool b2 ∧ wx = y6)
 case first =>
  have i0 := ci.cell 0 rfl; have i1 := ci.cell 1 rfl; have i2 := ci.cell 2 rfl; have i3 := ci.cell 3 rfl; have i4 := ci.cell 4 rfl
  by_cases hz2 : ov2 = 0
  · subst hz2
    rw [l0]
    cases cl
    all_goals (
     go_wp2_with fail
     go_meet
     exact ⟨by rw [HB2.out]; rfl, rfl⟩)
  · have hl2 : ((L ov2).length : Int) ≠ 0 := by have := mt (mL ov2).1 hz2; omega
    have hl2' : (((L ov2).length : Int) == 0) = false := by rw [beq_eq_false_iff_ne]; exact hl2
    go_wp2_with fail
    go_meet
    exact ⟨by rw [HB2.out]; simp [hz2], rfl⟩
 case rest =>
 obtain ⟨rfl, hww⟩ := hcut
 replace hww := hww.symm
 subst hww
 generalize (L ov2).length = kv2 at *
 go_upto_if 75 with fail
 go_cut [12] (fun z wx => ∃ na nc, z = .slice na (L R2).length nc ∧ Rd wx na (L R2) ∧ Below y6.heap.size y6 wx)
 case first =>
  cases b2
  · have eR2 : R2 = B * P / (C * Q) := by have h := HR2.out; rw [if_neg (of_decide_eq_false HB2.out.symm)] at h; exact h
    rw [← eR2] at rk ⊢
    clear eR2
    go_wp2_with fail
    go_meet
    exact ⟨ma, mc, rfl, rk, Below.refl _ _⟩
  · have hc := of_decide_eq_true HB2.out.symm
    have pB' := pB hc.2
    have eR2 : R2 = B * P / (C * Q) - 1 := by have h := HR2.out; rw [if_pos hc] at h; exact h
    clear hc
    go_wp2_with fail
    have rmx := rk.below (al1 y6 (.cells #[.int .u64 1] 23))
    refine (F5 ma _ _ _ mc _ (B * P / (C * Q)) 1 _ rfl lO pB' (Nat.le_trans (dB (Nat.div_le_self _ _)) (by omega)) rmx (rdO (Cls.new y6 _ _))).mono ?_
    rintro e y7 ⟨na, nc, rfl, no, hb'⟩
    have hb := aB (al1 y6 (.cells #[.int .u64 1] 23)) hb'
    have rk := Rd.own no
    rw [← eR2] at rk ⊢
    clear eR2
    go_wp2_with fail
    go_meet
    exact ⟨na, nc, rfl, rk, hb⟩
 case rest =>
 rename World => y7
 clear rk HB2
 obtain ⟨na, nc, rfl, rk', hb⟩ := hcut
 replace cr := cr.below hb
 replace cv := cv.below hb
 replace rm := rm.below hb
 replace rn := rn.below hb
 replace rw' := rw'.below hb
 replace rl := rl.below hb
 replace b0 := b0.trans (hb.mono b0.size)
 clear hb
 have x0 := cv.cell 0 rfl
 have x1 := cv.cell 1 rfl
 have r0 := cr.cell 0 rfl
 have r1 := cr.cell 1 rfl
 have r2 := cr.cell 2 rfl
 have r3 := cr.cell 3 rfl
 have r4 := cr.cell 4 rfl
 have r5 := cr.cell 5 rfl
 have z0 := cr.frozen 0
 have z1 := cr.frozen 1
 have z2 := cr.frozen 2
 have z3 := cr.frozen 3
 have z4 := cr.frozen 4
 have z5 := cr.frozen 5
 have lr := cr.lt
 have HRM := hid rm; have HRN := hid rn; have HRW := hid rw'; have HRL := hid rl; have HRK := hid rk'
 clear rm rn rw' rl rk'
 go_wp2_with fail
 refine bodyPost_ret (v := .agg #[.int .i64 X, .slice m1 (L (N2 * P)).length k1, .slice m2 (L (D2 * Q)).length k2, .slice wa (L (N2 * P / (D2 * Q))).length wc, .slice la' (L R1).length lc', .slice na (L R2).length nc]) (by simp [results, Tryz.results33, go_sem, r0, r1, r2, r3, r4, r5]) rfl ?_
 first | refine ⟨m1, k1, m2, k2, wa, wc, la', lc', na, nc, rfl, ?_⟩ | refine ⟨m1, k1, m2, k2, wa, wc, la', lc', na, ⟨nc, rfl⟩, ?_⟩
 exact ⟨lY HRM.out cr _ _ _ _ _ _, lY HRN.out cr _ _ _ _ _ _, lY HRW.out cr _ _ _ _ _ _, lY HRL.out cr _ _ _ _ _ _, lY HRK.out cr _ _ _ _ _ _, GN b0 (by omega) _ _ _ _ _ _⟩

end Go.Proofs.YtdfljbpcjkbflaaGreatDoor
