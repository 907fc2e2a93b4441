import Derived.OpenShut
import Derived.Test.YtmglhkdgfcbonaaGreatDoorqIU
import Derived.Test.YtmglhkdgfcbonaaGreatDoorqPT
import Derived.Test.YtmglhkdgfcbonaaGreatDoorqLB
namespace Go.Proofs.YtmglhkdgfcbonaaGreatDoor

open Go.RowKit

set_option linter.unusedVariables false
set_option maxRecDepth 100000

set_option maxHeartbeats 4000000 in
theorem lawPrKey (f a b : Int) (ds : List Nat) (k : Int) (w : World) (h : Fmt w) (ht : Pw w.heap.size w) (hl : ds.length ≤ 10000)
    (hS : ∀ v : World, Calls Tryz.prog 12 #[.int .i64 f, .agg #[.int .u64 a, .int .u64 b]] v fun e w' => PrR v w' e ds k)
    (hI : ∀ v : World, Fmt v → Pw v.heap.size v → Calls Tryz.prog 13 #[.int .i64 f, .agg #[.int .u64 a, .int .u64 b]] v fun e w' => PrO v w' e ds k) :
    Calls Tryz.prog 4 #[.int .i64 f, .agg #[.int .u64 a, .int .u64 b]] w fun e w' => e = .returned (.bool true) ∧ Below w.heap.size w w' := by
  have b0 := (Below.refl w.heap.size w).alloc (Nat.le_refl _) (.cells #[.int .u64 a, .int .u64 b] 24)
  have XW := Cls.new w #[.int .u64 a, .int .u64 b] 24
  go_enter Tryz.func4, Tryz.ntmps4
  go_wp2_with fail
  refine (toWord_any a b _).mono ?_
  rintro e v1 ⟨rfl, hb⟩
  replace XW := XW.below hb
  replace b0 := b0.trans (hb.mono b0.size)
  clear hb
  go_wp2_with fail
  refine (hS _).mono ?_
  rintro e v2 ⟨wa, wc, rfl, rW, hb⟩
  replace XW := XW.below hb
  replace b0 := b0.trans (hb.mono b0.size)
  clear hb hS
  go_upto_region 2 with fail
  have bA := (Below.refl v2.heap.size v2).alloc (Nat.le_refl _) (.cells #[.slice wa ds.length wc, .int .i64 k] 35)
  have W0 := Cls.new v2 #[.slice wa ds.length wc, .int .i64 k] 35
  replace XW := XW.below bA
  replace rW := rW.below bA
  replace b0 := b0.trans (bA.mono b0.size)
  clear bA
  generalize v2.alloc (.cells #[.slice wa ds.length wc, .int .i64 k] 35) = v3 at *
  obtain ⟨gw, hgw⟩ : ∃ gw, gw = v2.heap.size := ⟨_, rfl⟩
  rw [← hgw] at W0 ⊢
  clear hgw
  have x0 := XW.cell 0 rfl
  have x1 := XW.cell 1 rfl
  go_wp2_with fail
  refine (toWord_any a b _).mono ?_
  rintro e v4 ⟨rfl, hb⟩
  replace XW := XW.below hb
  replace W0 := W0.below hb
  replace rW := rW.below hb
  replace b0 := b0.trans (hb.mono b0.size)
  clear hb x0 x1
  go_wp2_with fail
  refine (hI _ (h.below b0) (fun u hu => ht u (b0.trans (hu.mono b0.size)))).mono ?_
  rintro e v5 ⟨ga, gc, rfl, oG, hb⟩
  have lx4 := XW.lt
  have lw4 := W0.lt
  have l45 := hb.size
  have B4 := hb
  replace b0 := b0.trans (hb.mono b0.size)
  clear hb
  have hag : 0 < ds.length → ∀ p, ga = some p → p.block < v5.heap.size := by
    intro hp p hpe
    obtain ⟨_, _, e, h5⟩ := oG
    cases e
    obtain ⟨b, off, cur, fz, e1, _, e3, _⟩ := h5 hp
    have := (Array.getElem?_eq_some_iff.1 e3).1
    rw [e1] at hpe
    cases hpe
    exact this
  go_upto_region 3 with fail
  have bA := (Below.refl v5.heap.size v5).alloc (Nat.le_refl _) (.cells #[.slice ga ds.length gc, .int .i64 k] 35)
  have G0 := Cls.new v5 #[.slice ga ds.length gc, .int .i64 k] 35
  replace oG := oG.below bA
  replace B4 := B4.trans (bA.mono B4.size)
  replace b0 := b0.trans (bA.mono b0.size)
  clear bA
  generalize v5.alloc (.cells #[.slice ga ds.length gc, .int .i64 k] 35) = v6 at *
  obtain ⟨gg, hgg⟩ : ∃ gg, gg = v5.heap.size := ⟨_, rfl⟩
  rw [← hgg] at G0 hag l45 ⊢
  clear hgg
  have W6 := W0.below B4
  have p0 := G0.cell 0 rfl
  have p1 := G0.cell 1 rfl
  have q0 := W6.cell 0 rfl
  have q1 := W6.cell 1 rfl
  go_wp2_with fail
  refine (eqPrinted_same k ga wa gc wc ds _ hl oG.y (rW.below B4)).mono ?_
  rintro e v7 ⟨rfl, hb⟩
  replace G0 := G0.below hb
  replace oG := oG.below hb
  replace B4 := B4.trans (hb.mono B4.size)
  replace b0 := b0.trans (hb.mono b0.size)
  clear hb p0 p1 q0 q1 W6
  have p0 := G0.cell 0 rfl
  have p1 := G0.cell 1 rfl
  have lg7 := G0.lt
  obtain ⟨ke, hke⟩ : ∃ ke : Nat, ke = 1 + ds.length := ⟨_, rfl⟩
  have HK := hid hke
  clear hke
  go_wp2_with fail
  refine (markPrinted_any v4.heap.size k ds ga gc _ ke HK.out hl B4.size oG).mono ?_
  rintro e v8 ⟨rfl, m1, bm, um⟩
  have G1 : Cls v8 gg #[.slice ga ds.length gc, .int .i64 k] 35 := (um gg lg7 (fun hp p e => by have := hag hp p e; omega)).trans G0
  replace B4 := B4.trans bm
  replace b0 := b0.trans (bm.mono (by omega))
  clear bm um oG p0 p1 lg7 G0
  have p0 := G1.cell 0 rfl
  have p1 := G1.cell 1 rfl
  have n3 : ¬ (ke : Int) < 0 := by omega
  have hne : ((ke : Int) != (ke : Int)) = false := by simp
  have X8 := XW.below B4
  have x0 := X8.cell 0 rfl
  have x1 := X8.cell 1 rfl
  go_wp2_with fail
  refine (heldPrinted_any k ds.length ga gc _ ke HK.out hl m1).mono ?_
  rintro e v9 ⟨rfl, hb⟩
  replace B4 := B4.trans (hb.mono B4.size)
  replace b0 := b0.trans (hb.mono b0.size)
  clear hb p0 p1 G1 m1 X8 x0 x1
  have X9 := XW.below B4
  have x0 := X9.cell 0 rfl
  have x1 := X9.cell 1 rfl
  go_wp2_with fail
  refine (toWord_any a b _).mono ?_
  rintro e v10 ⟨rfl, hb⟩
  replace B4 := B4.trans (hb.mono B4.size)
  replace b0 := b0.trans (hb.mono b0.size)
  clear hb x0 x1 X9
  go_wp2_with fail
  refine (hI _ (h.below b0) (fun u hu => ht u (b0.trans (hu.mono b0.size)))).mono ?_
  rintro e v11 ⟨ha, hc, rfl, oH, hb⟩
  replace B4 := B4.trans (hb.mono B4.size)
  replace b0 := b0.trans (hb.mono b0.size)
  clear hb
  go_upto_region 14 with fail
  have bA := (Below.refl v11.heap.size v11).alloc (Nat.le_refl _) (.cells #[.slice ha ds.length hc, .int .i64 k] 35)
  have H0 := Cls.new v11 #[.slice ha ds.length hc, .int .i64 k] 35
  replace oH := oH.below bA
  replace B4 := B4.trans (bA.mono B4.size)
  replace b0 := b0.trans (bA.mono b0.size)
  clear bA
  generalize v11.alloc (.cells #[.slice ha ds.length hc, .int .i64 k] 35) = v12 at *
  have W9 := W0.below B4
  generalize v11.heap.size = gh at *
  have p0 := H0.cell 0 rfl
  have p1 := H0.cell 1 rfl
  have q0 := W9.cell 0 rfl
  have q1 := W9.cell 1 rfl
  go_wp2_with fail
  refine (eqPrinted_same k ha wa hc wc ds _ hl oH.y (rW.below B4)).mono ?_
  rintro e v13 ⟨rfl, hb⟩
  have HB := hid (b0.trans (hb.mono b0.size))
  clear hb b0
  go_wp2_with fail
  go_ret
  exact ⟨rfl, HB.out⟩

end Go.Proofs.YtmglhkdgfcbonaaGreatDoor

namespace Go.Proofs.YtmglhkdgfcbonaaGreatDoor

open Go.RowKit

set_option linter.unusedVariables false
set_option maxRecDepth 100000

theorem below4t {w v : World} (h : Below w.heap.size w v) {g : Nat} (hg : w.heap.size ≤ g) (a b c d : Value) : Below w.heap.size w ((((v.setCell ⟨g, 0, none⟩ a).setCell ⟨g, 1, none⟩ b).setCell ⟨g, 2, none⟩ c).setCell ⟨g, 3, none⟩ d) :=
  (((h.setCell (p := ⟨g, 0, none⟩) hg _).setCell (p := ⟨g, 1, none⟩) hg _).setCell (p := ⟨g, 2, none⟩) hg _).setCell (p := ⟨g, 3, none⟩) hg _

set_option maxHeartbeats 1000000 in
set_option maxRecDepth 10000 in
theorem sshort_out0 (f : Int) (X : Nat) (T : M.Pt) (F : M.Fm) (w : World) (hp0 : F.p ≠ 0) (hc : T.c = 0)
    (kE : ∀ v : World, Calls Tryz.prog 29 #[.int .i64 f] v fun e w' => e = .returned (dv F) ∧ Below v.heap.size v w')
    (kU : ∀ v : World, Calls Tryz.prog 18 #[.int .i64 f, .agg #[.int .u64 (M.hiN X : Int), .int .u64 (M.loN X : Int)]] v fun e w' => e = .returned (pv T) ∧ Below v.heap.size v w') :
    Calls Tryz.prog 6 #[.int .i64 f, .agg #[.int .u64 (M.hiN X : Int), .int .u64 (M.loN X : Int)]] w fun e w' => ShR w w' e [] 0 false 3 := by
  obtain ⟨tc, tn, ts, tq⟩ := T
  simp only [dv, pv] at *
  have hp1 : ¬ (F.p : Int) = 0 := by omega
  subst hc
  have fd := fld_dp
  obtain ⟨cw, cr, b0⟩ := Cls.new2 w #[.int .u64 (M.hiN X : Int), .int .u64 (M.loN X : Int)] #[.slice none 0 0, .int .i64 0, .bool false, .int .i64 0] 29 27
  go_enter Tryz.func6, Tryz.ntmps6
  go_wp2_with fail
  refine (kE _).mono ?_
  rintro e v1 ⟨rfl, hb⟩
  replace cw := cw.below hb
  replace cr := cr.below hb
  replace b0 := b0.trans (hb.mono b0.size)
  clear hb
  have x0 := cw.cell 0 rfl
  have x1 := cw.cell 1 rfl
  go_wp2_with fail
  refine (kU _).mono ?_
  rintro e v2 ⟨rfl, hb⟩
  have cp := Cls.new v2 #[.int .i64 0, .bool tn, .int .u64 (M.hiN ts : Int), .int .u64 (M.loN ts : Int), .int .i64 tq] 42
  have hb2 : Below v2.heap.size v2 (v2.alloc (.cells #[.int .i64 0, .bool tn, .int .u64 (M.hiN ts : Int), .int .u64 (M.loN ts : Int), .int .i64 tq] 42)) := (Below.refl _ _).alloc (Nat.le_refl _) _
  replace hb := hb.trans (hb2.mono hb.size)
  replace cr := cr.below hb
  replace b0 := b0.trans (hb.mono b0.size)
  clear hb hb2 cw x0 x1
  go_upto_region 4 with fail
  generalize (v2.alloc (.cells #[.int .i64 0, .bool tn, .int .u64 (M.hiN ts : Int), .int .u64 (M.loN ts : Int), .int .i64 tq] 42)) = v3 at *
  generalize v2.heap.size = gp at *
  have p0 := cp.cell 0 rfl
  have p1 := cp.cell 1 rfl
  have p2 := cp.cell 2 rfl
  have p3 := cp.cell 3 rfl
  have p4 := cp.cell 4 rfl
  have r0 := cr.cell 0 rfl
  have r1 := cr.cell 1 rfl
  have r2 := cr.cell 2 rfl
  have r3 := cr.cell 3 rfl
  have z0 := cr.frozen 0
  have z1 := cr.frozen 1
  have z2 := cr.frozen 2
  have z3 := cr.frozen 3
  have lr : w.heap.size + 1 < v3.heap.size := cr.lt
  go_wp2_with fail
  exact bodyPost_ret (v := .agg #[.slice none 0 0, .int .i64 0, .bool false, .int .i64 3]) (by simp [results, Tryz.results6, go_sem, r0, r1, r2, r3]) rfl ⟨none, 0, rfl, OwnV.nil _ _, below4t b0 (by omega) _ _ _ _⟩

set_option maxHeartbeats 1000000 in
set_option maxRecDepth 10000 in
theorem sshort_out1 (f : Int) (X : Nat) (T : M.Pt) (F : M.Fm) (w : World) (hp0 : F.p ≠ 0) (hc : T.c = 1)
    (kE : ∀ v : World, Calls Tryz.prog 29 #[.int .i64 f] v fun e w' => e = .returned (dv F) ∧ Below v.heap.size v w')
    (kU : ∀ v : World, Calls Tryz.prog 18 #[.int .i64 f, .agg #[.int .u64 (M.hiN X : Int), .int .u64 (M.loN X : Int)]] v fun e w' => e = .returned (pv T) ∧ Below v.heap.size v w') :
    Calls Tryz.prog 6 #[.int .i64 f, .agg #[.int .u64 (M.hiN X : Int), .int .u64 (M.loN X : Int)]] w fun e w' => ShR w w' e [] 0 T.n 0 := by
  obtain ⟨tc, tn, ts, tq⟩ := T
  simp only [dv, pv] at *
  have hp1 : ¬ (F.p : Int) = 0 := by omega
  subst hc
  have fd := fld_dp
  obtain ⟨cw, cr, b0⟩ := Cls.new2 w #[.int .u64 (M.hiN X : Int), .int .u64 (M.loN X : Int)] #[.slice none 0 0, .int .i64 0, .bool false, .int .i64 0] 29 27
  go_enter Tryz.func6, Tryz.ntmps6
  go_wp2_with fail
  refine (kE _).mono ?_
  rintro e v1 ⟨rfl, hb⟩
  replace cw := cw.below hb
  replace cr := cr.below hb
  replace b0 := b0.trans (hb.mono b0.size)
  clear hb
  have x0 := cw.cell 0 rfl
  have x1 := cw.cell 1 rfl
  go_wp2_with fail
  refine (kU _).mono ?_
  rintro e v2 ⟨rfl, hb⟩
  have cp := Cls.new v2 #[.int .i64 1, .bool tn, .int .u64 (M.hiN ts : Int), .int .u64 (M.loN ts : Int), .int .i64 tq] 42
  have hb2 : Below v2.heap.size v2 (v2.alloc (.cells #[.int .i64 1, .bool tn, .int .u64 (M.hiN ts : Int), .int .u64 (M.loN ts : Int), .int .i64 tq] 42)) := (Below.refl _ _).alloc (Nat.le_refl _) _
  replace hb := hb.trans (hb2.mono hb.size)
  replace cr := cr.below hb
  replace b0 := b0.trans (hb.mono b0.size)
  clear hb hb2 cw x0 x1
  go_upto_region 4 with fail
  generalize (v2.alloc (.cells #[.int .i64 1, .bool tn, .int .u64 (M.hiN ts : Int), .int .u64 (M.loN ts : Int), .int .i64 tq] 42)) = v3 at *
  generalize v2.heap.size = gp at *
  have p0 := cp.cell 0 rfl
  have p1 := cp.cell 1 rfl
  have p2 := cp.cell 2 rfl
  have p3 := cp.cell 3 rfl
  have p4 := cp.cell 4 rfl
  have r0 := cr.cell 0 rfl
  have r1 := cr.cell 1 rfl
  have r2 := cr.cell 2 rfl
  have r3 := cr.cell 3 rfl
  have z0 := cr.frozen 0
  have z1 := cr.frozen 1
  have z2 := cr.frozen 2
  have z3 := cr.frozen 3
  have lr : w.heap.size + 1 < v3.heap.size := cr.lt
  go_wp2_with fail
  exact bodyPost_ret (v := .agg #[.slice none 0 0, .int .i64 0, .bool tn, .int .i64 0]) (by simp [results, Tryz.results6, go_sem, r0, r1, r2, r3]) rfl ⟨none, 0, rfl, OwnV.nil _ _, below4t b0 (by omega) _ _ _ _⟩

set_option maxHeartbeats 1000000 in
set_option maxRecDepth 10000 in
theorem sshort_out4 (f : Int) (X : Nat) (T : M.Pt) (F : M.Fm) (w : World) (hp0 : F.p ≠ 0) (hc : T.c = 4)
    (kE : ∀ v : World, Calls Tryz.prog 29 #[.int .i64 f] v fun e w' => e = .returned (dv F) ∧ Below v.heap.size v w')
    (kU : ∀ v : World, Calls Tryz.prog 18 #[.int .i64 f, .agg #[.int .u64 (M.hiN X : Int), .int .u64 (M.loN X : Int)]] v fun e w' => e = .returned (pv T) ∧ Below v.heap.size v w') :
    Calls Tryz.prog 6 #[.int .i64 f, .agg #[.int .u64 (M.hiN X : Int), .int .u64 (M.loN X : Int)]] w fun e w' => ShR w w' e [] 0 T.n 0 := by
  obtain ⟨tc, tn, ts, tq⟩ := T
  simp only [dv, pv] at *
  have hp1 : ¬ (F.p : Int) = 0 := by omega
  subst hc
  have fd := fld_dp
  obtain ⟨cw, cr, b0⟩ := Cls.new2 w #[.int .u64 (M.hiN X : Int), .int .u64 (M.loN X : Int)] #[.slice none 0 0, .int .i64 0, .bool false, .int .i64 0] 29 27
  go_enter Tryz.func6, Tryz.ntmps6
  go_wp2_with fail
  refine (kE _).mono ?_
  rintro e v1 ⟨rfl, hb⟩
  replace cw := cw.below hb
  replace cr := cr.below hb
  replace b0 := b0.trans (hb.mono b0.size)
  clear hb
  have x0 := cw.cell 0 rfl
  have x1 := cw.cell 1 rfl
  go_wp2_with fail
  refine (kU _).mono ?_
  rintro e v2 ⟨rfl, hb⟩
  have cp := Cls.new v2 #[.int .i64 4, .bool tn, .int .u64 (M.hiN ts : Int), .int .u64 (M.loN ts : Int), .int .i64 tq] 42
  have hb2 : Below v2.heap.size v2 (v2.alloc (.cells #[.int .i64 4, .bool tn, .int .u64 (M.hiN ts : Int), .int .u64 (M.loN ts : Int), .int .i64 tq] 42)) := (Below.refl _ _).alloc (Nat.le_refl _) _
  replace hb := hb.trans (hb2.mono hb.size)
  replace cr := cr.below hb
  replace b0 := b0.trans (hb.mono b0.size)
  clear hb hb2 cw x0 x1
  go_upto_region 4 with fail
  generalize (v2.alloc (.cells #[.int .i64 4, .bool tn, .int .u64 (M.hiN ts : Int), .int .u64 (M.loN ts : Int), .int .i64 tq] 42)) = v3 at *
  generalize v2.heap.size = gp at *
  have p0 := cp.cell 0 rfl
  have p1 := cp.cell 1 rfl
  have p2 := cp.cell 2 rfl
  have p3 := cp.cell 3 rfl
  have p4 := cp.cell 4 rfl
  have r0 := cr.cell 0 rfl
  have r1 := cr.cell 1 rfl
  have r2 := cr.cell 2 rfl
  have r3 := cr.cell 3 rfl
  have z0 := cr.frozen 0
  have z1 := cr.frozen 1
  have z2 := cr.frozen 2
  have z3 := cr.frozen 3
  have lr : w.heap.size + 1 < v3.heap.size := cr.lt
  go_wp2_with fail
  exact bodyPost_ret (v := .agg #[.slice none 0 0, .int .i64 0, .bool tn, .int .i64 0]) (by simp [results, Tryz.results6, go_sem, r0, r1, r2, r3]) rfl ⟨none, 0, rfl, OwnV.nil _ _, below4t b0 (by omega) _ _ _ _⟩

set_option maxHeartbeats 1000000 in
set_option maxRecDepth 10000 in
theorem sshort_out5 (f : Int) (X : Nat) (T : M.Pt) (F : M.Fm) (w : World) (hp0 : F.p ≠ 0) (hc : T.c = 5)
    (kE : ∀ v : World, Calls Tryz.prog 29 #[.int .i64 f] v fun e w' => e = .returned (dv F) ∧ Below v.heap.size v w')
    (kU : ∀ v : World, Calls Tryz.prog 18 #[.int .i64 f, .agg #[.int .u64 (M.hiN X : Int), .int .u64 (M.loN X : Int)]] v fun e w' => e = .returned (pv T) ∧ Below v.heap.size v w') :
    Calls Tryz.prog 6 #[.int .i64 f, .agg #[.int .u64 (M.hiN X : Int), .int .u64 (M.loN X : Int)]] w fun e w' => ShR w w' e [] 0 T.n 0 := by
  obtain ⟨tc, tn, ts, tq⟩ := T
  simp only [dv, pv] at *
  have hp1 : ¬ (F.p : Int) = 0 := by omega
  subst hc
  have fd := fld_dp
  obtain ⟨cw, cr, b0⟩ := Cls.new2 w #[.int .u64 (M.hiN X : Int), .int .u64 (M.loN X : Int)] #[.slice none 0 0, .int .i64 0, .bool false, .int .i64 0] 29 27
  go_enter Tryz.func6, Tryz.ntmps6
  go_wp2_with fail
  refine (kE _).mono ?_
  rintro e v1 ⟨rfl, hb⟩
  replace cw := cw.below hb
  replace cr := cr.below hb
  replace b0 := b0.trans (hb.mono b0.size)
  clear hb
  have x0 := cw.cell 0 rfl
  have x1 := cw.cell 1 rfl
  go_wp2_with fail
  refine (kU _).mono ?_
  rintro e v2 ⟨rfl, hb⟩
  have cp := Cls.new v2 #[.int .i64 5, .bool tn, .int .u64 (M.hiN ts : Int), .int .u64 (M.loN ts : Int), .int .i64 tq] 42
  have hb2 : Below v2.heap.size v2 (v2.alloc (.cells #[.int .i64 5, .bool tn, .int .u64 (M.hiN ts : Int), .int .u64 (M.loN ts : Int), .int .i64 tq] 42)) := (Below.refl _ _).alloc (Nat.le_refl _) _
  replace hb := hb.trans (hb2.mono hb.size)
  replace cr := cr.below hb
  replace b0 := b0.trans (hb.mono b0.size)
  clear hb hb2 cw x0 x1
  go_upto_region 4 with fail
  generalize (v2.alloc (.cells #[.int .i64 5, .bool tn, .int .u64 (M.hiN ts : Int), .int .u64 (M.loN ts : Int), .int .i64 tq] 42)) = v3 at *
  generalize v2.heap.size = gp at *
  have p0 := cp.cell 0 rfl
  have p1 := cp.cell 1 rfl
  have p2 := cp.cell 2 rfl
  have p3 := cp.cell 3 rfl
  have p4 := cp.cell 4 rfl
  have r0 := cr.cell 0 rfl
  have r1 := cr.cell 1 rfl
  have r2 := cr.cell 2 rfl
  have r3 := cr.cell 3 rfl
  have z0 := cr.frozen 0
  have z1 := cr.frozen 1
  have z2 := cr.frozen 2
  have z3 := cr.frozen 3
  have lr : w.heap.size + 1 < v3.heap.size := cr.lt
  go_wp2_with fail
  exact bodyPost_ret (v := .agg #[.slice none 0 0, .int .i64 0, .bool tn, .int .i64 0]) (by simp [results, Tryz.results6, go_sem, r0, r1, r2, r3]) rfl ⟨none, 0, rfl, OwnV.nil _ _, below4t b0 (by omega) _ _ _ _⟩

set_option maxHeartbeats 1000000 in
set_option maxRecDepth 10000 in
theorem sshort_no (f : Int) (hf : f < 0 ∨ 4 ≤ f) (X : Nat) (w : World) :
    Calls Tryz.prog 6 #[.int .i64 f, .agg #[.int .u64 (M.hiN X : Int), .int .u64 (M.loN X : Int)]] w fun e w' => ShR w w' e [] 0 false 4 := by
  have kE := fun v : World => sdescribeNo f v hf
  have fd := fld_dp
  obtain ⟨cw, cr, b0⟩ := Cls.new2 w #[.int .u64 (M.hiN X : Int), .int .u64 (M.loN X : Int)] #[.slice none 0 0, .int .i64 0, .bool false, .int .i64 0] 29 27
  go_enter Tryz.func6, Tryz.ntmps6
  go_wp2_with fail
  refine (kE _).mono ?_
  rintro e v1 ⟨rfl, hb⟩
  replace cr := cr.below hb
  replace b0 := b0.trans (hb.mono b0.size)
  clear hb cw
  have r0 := cr.cell 0 rfl
  have r1 := cr.cell 1 rfl
  have r2 := cr.cell 2 rfl
  have r3 := cr.cell 3 rfl
  have z0 := cr.frozen 0
  have z1 := cr.frozen 1
  have z2 := cr.frozen 2
  have z3 := cr.frozen 3
  have lr : w.heap.size + 1 < v1.heap.size := cr.lt
  go_wp2_with fail
  exact bodyPost_ret (v := .agg #[.slice none 0 0, .int .i64 0, .bool false, .int .i64 4]) (by simp [results, Tryz.results6, go_sem, r0, r1, r2, r3]) rfl ⟨none, 0, rfl, OwnV.nil _ _, below4t b0 (by omega) _ _ _ _⟩

end Go.Proofs.YtmglhkdgfcbonaaGreatDoor

namespace Go.Proofs.YtmglhkdgfcbonaaGreatDoor

open Go.RowKit

set_option linter.unusedVariables false
set_option maxRecDepth 100000

theorem pick_lt (t : M.Wd) (h : t.Ok) (r : Nat) : t.pick (t.X + r) < 10 ^ 40 := by
  have e0 : t.T (t.X + r) = t.T t.X / 10 ^ r := M.uT_add _ _ h.den_pos _ _
  have tb : t.pick (t.X + r) ≤ t.T t.X / 10 ^ r + 1 := by
    rw [← e0]
    unfold M.Wd.pick
    split
    · omega
    · split
      · omega
      · split <;> omega
  have := h.first.2.1
  have := Nat.div_le_self (t.T t.X) (10 ^ r)
  omega

theorem place_le (t : M.Wd) (h : t.Ok) (r : Nat) (b : t.Best r) : (1 ≤ (M.sd (t.pick (t.X + r))).length ∧ (M.sd (t.pick (t.X + r))).length ≤ 41) ∧ -9000 < ((M.sd (t.pick (t.X + r))).length : Int) + wdX t r ∧ ((M.sd (t.pick (t.X + r))).length : Int) + wdX t r < 9000 := by
  have q := pick_lt t h r
  have h1 := M.txt_len 39 _ q
  have h2 := M.tl_len 40 _ q
  have h3 := M.sd_len (t.pick (t.X + r))
  have h4 := List.length_pos_iff.2 (M.sd_ne _ (b.pick_pos h))
  obtain ⟨-, -, x1, x2⟩ := h.e_le
  have h5 := h.N_le
  have h6 := b.lt
  unfold wdX
  omega

theorem lawPrint (f a b : Int) (w : World) (wf0 : (Lit.int .i64 f).wf = true) (wa : (Lit.int .u64 a).wf = true) (wb : (Lit.int .u64 b).wf = true) (h : Fmt w) (ht : Pw w.heap.size w) :
    Calls Tryz.prog 4 #[.int .i64 f, .agg #[.int .u64 a, .int .u64 b]] w fun e w' => e = .returned (.bool true) ∧ Below w.heap.size w w' := by
  have ha := bounds_u64 wa
  have hb := bounds_u64 wb
  obtain ⟨x, rfl⟩ : ∃ x : Nat, a = (x : Int) := ⟨a.toNat, by omega⟩
  obtain ⟨y, rfl⟩ : ∃ y : Nat, b = (y : Int) := ⟨b.toNat, by omega⟩
  obtain ⟨X, hX, e1, e2⟩ : ∃ X : Nat, X < 2 ^ 128 ∧ (x : Int) = (M.hiN X : Int) ∧ (y : Int) = (M.loN X : Int) := ⟨x * 18446744073709551616 + y, by omega, by rw [M.hiOf x y (by omega)], by rw [M.loOf x y (by omega)]⟩
  rw [e1, e2]
  by_cases hf : 0 ≤ f ∧ f < 4
  · obtain ⟨k, rfl⟩ : ∃ k : Nat, f = (k : Int) := ⟨f.toNat, by omega⟩
    have hk : k < 4 := by omega
    have h' := M.fm_ok k
    obtain ⟨T, hT⟩ : ∃ T, T = (M.fm k).upk X := ⟨_, rfl⟩
    have hp := h'.upk_proper X
    rw [← hT] at hp
    have hp0 : (M.fm k).p ≠ 0 := by have := h'.p1; omega
    have kE := fun (v : World) (hv : Fmt v) => describe_ok k hk v hv
    have kK := fun v : World => dKnown (M.fm k) h' v
    have kU := fun v : World => unpack_any (M.fm k) h' X hX v
    have sE := fun v : World => sdescribe_ok k hk v
    have sU := fun v : World => sunpack_any k hk X hX v
    have iU := fun (v : World) (hv : Fmt v) => iunpack_any k hk X hX v hv
    rw [← hT] at kU sU iU
    by_cases hc : T.c = 2 ∨ T.c = 3
    · have hpr : (M.fm k).Proper T := by
        rcases hp with hp | hp
        · rw [hp] at hc; simp at hc
        · exact hp
      obtain ⟨t, htt⟩ : ∃ t, t = wdOf (M.fm k) T := ⟨_, rfl⟩
      have hok := wd_ok h' (fin_of h' hpr hc)
      rw [← htt] at hok
      obtain ⟨r, br⟩ := hok.exists_best
      have kS := fun v : World => sshort_any k hk X hX v T hT hc t htt r br
      have kI := fun (v : World) (hv : Fmt v) => ishort_any k hk X hX v hv T hT hc t htt r br
      obtain ⟨⟨l1, l2⟩, q1⟩ := place_le t hok r br
      generalize M.sd (t.pick (t.X + r)) = ds at *
      generalize wdX t r = xx at *
      have hlen := M.pt_len ds ((ds.length : Int) + xx) (by omega)
      have hsg := M.sgl_len T.n
      have c1 : (T.c : Int) ≠ 1 := by omega
      have c4 : (T.c : Int) ≠ 4 := by omega
      have c5 : (T.c : Int) ≠ 5 := by omega
      have hcs : ((T.c : Int) = 5 ∧ M.sgl T.n ++ M.pt ds ((ds.length : Int) + xx) = [78, 97, 78]) ∨ (T.c : Int) ≠ 5 ∧ (((T.c : Int) = 4 ∧ M.sgl T.n ++ M.pt ds ((ds.length : Int) + xx) = M.sgl T.n ++ [105, 110, 102]) ∨ ((T.c : Int) = 1 ∧ M.sgl T.n ++ M.pt ds ((ds.length : Int) + xx) = M.sgl T.n ++ [48]) ∨ ((T.c : Int) ≠ 1 ∧ (T.c : Int) ≠ 4 ∧ (1 ≤ ds.length ∧ ds.length ≤ 10000) ∧ ∃ p, (ds.length : Int) + xx = p ∧ (-9000 < p ∧ p < 9000) ∧ M.sgl T.n ++ M.pt ds ((ds.length : Int) + xx) = M.sgl T.n ++ M.pt ds p)) :=
        .inr ⟨c5, .inr (.inr ⟨c1, c4, ⟨l1, by omega⟩, _, rfl, q1, rfl⟩)⟩
      exact lawPrKey _ _ _ _ 0 w h ht (by rw [List.length_append]; omega) (fun v => sprint _ _ _ _ _ _ _ _ ds xx T.n _ v hcs kS sU) (fun v hv hw => iprint _ _ _ _ _ _ _ _ ds xx T.n _ v hv hw hcs kI iU)
    · have hcc : T.c = 0 ∨ T.c = 1 ∨ T.c = 4 ∨ T.c = 5 := by
        rcases hp with hp | hp
        · rw [hp]; exact .inl rfl
        · unfold M.Fm.Proper at hp; omega
      have hsg := M.sgl_len T.n
      rcases hcc with hc | hc | hc | hc
      · exact lawPrKey _ _ _ [] 3 w h ht (by simp) (fun v => sprint_no _ _ _ v 3 (by decide) (fun u => sshort_out0 (k : Int) X T (M.fm k) u hp0 hc sE sU)) (fun v hv _ => iprint_no _ _ _ v hv 3 (by decide) (fun u hu => ishort_out0 (k : Int) X T (M.fm k) u hu hc kE kK kU))
      · exact lawPrKey _ _ _ (M.sgl T.n ++ [48]) 0 w h ht (by simp; omega) (fun v => sprint _ _ _ _ _ _ _ _ [] 0 T.n _ v (.inr ⟨by omega, .inr (.inl ⟨by omega, rfl⟩)⟩) (fun u => sshort_out1 (k : Int) X T (M.fm k) u hp0 hc sE sU) sU) (fun v hv hw => iprint _ _ _ _ _ _ _ _ [] 0 T.n _ v hv hw (.inr ⟨by omega, .inr (.inl ⟨by omega, rfl⟩)⟩) (fun u hu => ishort_out1 (k : Int) X T (M.fm k) u hu hc kE kK kU) iU)
      · exact lawPrKey _ _ _ (M.sgl T.n ++ [105, 110, 102]) 0 w h ht (by simp; omega) (fun v => sprint _ _ _ _ _ _ _ _ [] 0 T.n _ v (.inr ⟨by omega, .inl ⟨by omega, rfl⟩⟩) (fun u => sshort_out4 (k : Int) X T (M.fm k) u hp0 hc sE sU) sU) (fun v hv hw => iprint _ _ _ _ _ _ _ _ [] 0 T.n _ v hv hw (.inr ⟨by omega, .inl ⟨by omega, rfl⟩⟩) (fun u hu => ishort_out4 (k : Int) X T (M.fm k) u hu hc kE kK kU) iU)
      · exact lawPrKey _ _ _ [78, 97, 78] 0 w h ht (by simp) (fun v => sprint _ _ _ _ _ _ _ _ [] 0 T.n _ v (.inl ⟨by omega, rfl⟩) (fun u => sshort_out5 (k : Int) X T (M.fm k) u hp0 hc sE sU) sU) (fun v hv hw => iprint _ _ _ _ _ _ _ _ [] 0 T.n _ v hv hw (.inl ⟨by omega, rfl⟩) (fun u hu => ishort_out5 (k : Int) X T (M.fm k) u hu hc kE kK kU) iU)
  · have hn : f < 0 ∨ 4 ≤ f := by omega
    exact lawPrKey _ _ _ [] 4 w h ht (by simp) (fun v => sprint_no _ _ _ v 4 (by decide) (fun u => sshort_no f hn X u)) (fun v hv _ => iprint_no _ _ _ v hv 4 (by decide) (fun u hu => ishort_no f hn X u hu))

end Go.Proofs.YtmglhkdgfcbonaaGreatDoor

