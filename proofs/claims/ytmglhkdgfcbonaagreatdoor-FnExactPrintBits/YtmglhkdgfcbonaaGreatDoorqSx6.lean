import Derived.Deep.Cut
import Derived.Test.YtmglhkdgfcbonaaGreatDoorqLS
import Derived.Test.YtmglhkdgfcbonaaGreatDoorqSA
import Derived.Test.YtmglhkdgfcbonaaGreatDoorqBW
import Derived.Test.YtmglhkdgfcbonaaGreatDoorqBG
namespace Go.Proofs.YtmglhkdgfcbonaaGreatDoor

open Go.RowKit

set_option linter.unusedVariables false
set_option maxRecDepth 100000

def NR (v w' : World) (e : Ending) (t : M.Wd) : Prop :=
  ∃ a1 c1 a2 c2 a3 c3 a4 c4 a5 c5, e = .returned (.agg #[.int .i64 t.X, .slice a1 (L t.vn).length c1, .slice a2 (L t.vd).length c2, .slice a3 (L (t.T t.X)).length c3, .slice a4 (L t.least).length c4, .slice a5 (L t.most).length c5]) ∧ Rd w' a1 (L t.vn) ∧ Rd w' a2 (L t.vd) ∧ Rd w' a3 (L (t.T t.X)) ∧ Rd w' a4 (L t.least) ∧ Rd w' a5 (L t.most) ∧ Below v.heap.size v w'

theorem OwnV.far4 {w : World} {lo g : Nat} {v : Value} {xs : List Nat} (h : OwnV w lo v xs) (hg : g < lo) (a b c d : Value) : OwnV ((((w.setCell ⟨g, 0, none⟩ a).setCell ⟨g, 1, none⟩ b).setCell ⟨g, 2, none⟩ c).setCell ⟨g, 3, none⟩ d) lo v xs :=
  (((h.far ⟨g, 0, none⟩ hg a).far ⟨g, 1, none⟩ hg b).far ⟨g, 2, none⟩ hg c).far ⟨g, 3, none⟩ hg d

theorem below4s {w v : World} (h : Below w.heap.size w v) {g : Nat} (hg : w.heap.size ≤ g) (a b c d : Value) : Below w.heap.size w ((((v.setCell ⟨g, 0, none⟩ a).setCell ⟨g, 1, none⟩ b).setCell ⟨g, 2, none⟩ c).setCell ⟨g, 3, none⟩ d) :=
  (((h.setCell (p := ⟨g, 0, none⟩) hg _).setCell (p := ⟨g, 1, none⟩) hg _).setCell (p := ⟨g, 2, none⟩) hg _).setCell (p := ⟨g, 3, none⟩) hg _

set_option maxHeartbeats 2000000 in
set_option maxRecDepth 10000 in
theorem ishort_fin2 (f : Int) (X : Nat) (T : M.Pt) (F : M.Fm) (t : M.Wd) (ds : List Nat) (xx : Int) (w : World) (hm : Fmt w) (hc : T.c = 2)
    (kE : ∀ v : World, Fmt v → Calls Tryz.prog 44 #[.int .i64 f] v fun e w' => e = .returned (dv F) ∧ Below v.heap.size v w')
    (kK : ∀ v : World, Calls Tryz.prog 45 #[dv F] v fun e w' => e = .returned (.bool true) ∧ Below v.heap.size v w')
    (kU : ∀ v : World, Calls Tryz.prog 46 #[dv F, .agg #[.int .u64 (M.hiN X : Int), .int .u64 (M.loN X : Int)]] v fun e w' => e = .returned (pv T) ∧ Below v.heap.size v w')
    (kB : ∀ v : World, Calls Tryz.prog 48 #[dv F, pv T] v fun e w' => Iv v w' e t.lo t.hi t.den t.cl)
    (kR : ∀ (v : World) (a b c : Option Addr) (ca cb cc : Nat), Rd v a (L t.lo) → Rd v b (L t.hi) → Rd v c (L t.den) → Calls Tryz.prog 47 #[.agg #[.slice a (L t.lo).length ca, .slice b (L t.hi).length cb, .slice c (L t.den).length cc, .bool t.cl, .bool true], pv T] v fun e w' => NR v w' e t)
    (kS : ∀ (v : World) (a1 a2 a3 a4 a5 : Option Addr) (c1 c2 c3 c4 c5 : Nat), Rd v a1 (L t.vn) → Rd v a2 (L t.vd) → Rd v a3 (L (t.T t.X)) → Rd v a4 (L t.least) → Rd v a5 (L t.most) → Calls Tryz.prog 49 #[.agg #[.int .i64 t.X, .slice a1 (L t.vn).length c1, .slice a2 (L t.vd).length c2, .slice a3 (L (t.T t.X)).length c3, .slice a4 (L t.least).length c4, .slice a5 (L t.most).length c5]] v fun e w' => ∃ ra rc, e = .returned (.tuple #[.slice ra ds.length rc, .int .i64 xx]) ∧ OwnV w' v.heap.size (.slice ra ds.length rc) ds ∧ Below v.heap.size v w') :
    Calls Tryz.prog 8 #[.int .i64 f, .agg #[.int .u64 (M.hiN X : Int), .int .u64 (M.loN X : Int)]] w fun e w' => ShO w w' e ds xx T.n 0 := by
  obtain ⟨tc, tn, ts, tq⟩ := T
  simp only [dv, pv] at *
  subst hc
  obtain ⟨cw, cr, b0⟩ := Cls.new2 w #[.int .u64 (M.hiN X : Int), .int .u64 (M.loN X : Int)] #[.slice none 0 0, .int .i64 0, .bool false, .int .i64 0] 29 27
  go_enter Tryz.func8, Tryz.ntmps8
  go_wp2_with fail
  refine (kE _ (hm.below b0)).mono ?_
  rintro e v1 ⟨rfl, hb⟩
  replace cw := cw.below hb
  replace cr := cr.below hb
  replace b0 := b0.trans (hb.mono b0.size)
  clear hb
  go_upto_region 2 with fail
  have cd := Cls.new v1 #[.int .i64 (F.p : Int), .int .i64 (1 - (F.emax : Int)), .int .i64 (F.emax : Int), .int .i64 (F.wd : Int), .int .i64 (F.e : Int), .bool F.x] 61
  have hb : Below v1.heap.size v1 (v1.alloc (.cells #[.int .i64 (F.p : Int), .int .i64 (1 - (F.emax : Int)), .int .i64 (F.emax : Int), .int .i64 (F.wd : Int), .int .i64 (F.e : Int), .bool F.x] 61)) := (Below.refl _ _).alloc (Nat.le_refl _) _
  replace cw := cw.below hb
  replace cr := cr.below hb
  replace b0 := b0.trans (hb.mono b0.size)
  clear hb
  generalize v1.alloc (.cells #[.int .i64 (F.p : Int), .int .i64 (1 - (F.emax : Int)), .int .i64 (F.emax : Int), .int .i64 (F.wd : Int), .int .i64 (F.e : Int), .bool F.x] 61) = v2 at *
  generalize v1.heap.size = gd at *
  have d0 := cd.cell 0 rfl
  have d1 := cd.cell 1 rfl
  have d2 := cd.cell 2 rfl
  have d3 := cd.cell 3 rfl
  have d4 := cd.cell 4 rfl
  have d5 := cd.cell 5 rfl
  go_wp2_with fail
  refine (kK _).mono ?_
  rintro e v3 ⟨rfl, hb⟩
  replace cw := cw.below hb
  replace cr := cr.below hb
  replace cd := cd.below hb
  replace b0 := b0.trans (hb.mono b0.size)
  clear hb d0 d1 d2 d3 d4 d5
  have d0 := cd.cell 0 rfl
  have d1 := cd.cell 1 rfl
  have d2 := cd.cell 2 rfl
  have d3 := cd.cell 3 rfl
  have d4 := cd.cell 4 rfl
  have d5 := cd.cell 5 rfl
  have x0 := cw.cell 0 rfl
  have x1 := cw.cell 1 rfl
  go_wp2_with fail
  refine (kU _).mono ?_
  rintro e v4 ⟨rfl, hb⟩
  replace cr := cr.below hb
  replace cd := cd.below hb
  replace b0 := b0.trans (hb.mono b0.size)
  clear hb d0 d1 d2 d3 d4 d5 x0 x1
  go_upto_region 5 with fail
  have cp := Cls.new v4 #[.int .i64 2, .bool tn, .int .u64 (M.hiN ts : Int), .int .u64 (M.loN ts : Int), .int .i64 tq] 42
  have hb : Below v4.heap.size v4 (v4.alloc (.cells #[.int .i64 2, .bool tn, .int .u64 (M.hiN ts : Int), .int .u64 (M.loN ts : Int), .int .i64 tq] 42)) := (Below.refl _ _).alloc (Nat.le_refl _) _
  replace cr := cr.below hb
  replace cd := cd.below hb
  replace b0 := b0.trans (hb.mono b0.size)
  clear hb
  generalize v4.alloc (.cells #[.int .i64 2, .bool tn, .int .u64 (M.hiN ts : Int), .int .u64 (M.loN ts : Int), .int .i64 tq] 42) = v5 at *
  generalize v4.heap.size = gp at *
  have p0 := cp.cell 0 rfl
  have p1 := cp.cell 1 rfl
  have p2 := cp.cell 2 rfl
  have p3 := cp.cell 3 rfl
  have p4 := cp.cell 4 rfl
  go_upto_region 10 with fail
  clear p0 p1 p2 p3 p4
  have D1 : ∀ v, Below v5.heap.size v5 v → (fun v : World => v.cell? ⟨gd, 0, none⟩ = some (.int .i64 (F.p : Int)) ∧ v.cell? ⟨gd, 1, none⟩ = some (.int .i64 (1 - (F.emax : Int))) ∧ v.cell? ⟨gd, 2, none⟩ = some (.int .i64 (F.emax : Int)) ∧ v.cell? ⟨gd, 3, none⟩ = some (.int .i64 (F.wd : Int)) ∧ v.cell? ⟨gd, 4, none⟩ = some (.int .i64 (F.e : Int)) ∧ v.cell? ⟨gd, 5, none⟩ = some (.bool F.x) ∧ v.cell? ⟨gp, 0, none⟩ = some (.int .i64 2) ∧ v.cell? ⟨gp, 1, none⟩ = some (.bool tn) ∧ v.cell? ⟨gp, 2, none⟩ = some (.int .u64 (M.hiN ts : Int)) ∧ v.cell? ⟨gp, 3, none⟩ = some (.int .u64 (M.loN ts : Int)) ∧ v.cell? ⟨gp, 4, none⟩ = some (.int .i64 tq)) v := fun v hv => ⟨(cd.below hv).cell 0 rfl, (cd.below hv).cell 1 rfl, (cd.below hv).cell 2 rfl, (cd.below hv).cell 3 rfl, (cd.below hv).cell 4 rfl, (cd.below hv).cell 5 rfl, (cp.below hv).cell 0 rfl, (cp.below hv).cell 1 rfl, (cp.below hv).cell 2 rfl, (cp.below hv).cell 3 rfl, (cp.below hv).cell 4 rfl⟩
  have hdr : Below v5.heap.size v5 v5.drew := (Below.refl _ _).drew
  have lr : w.heap.size + 1 < v5.heap.size := cr.lt
  go_region_held3 (fun v : World => v.cell? ⟨gd, 0, none⟩ = some (.int .i64 (F.p : Int)) ∧ v.cell? ⟨gd, 1, none⟩ = some (.int .i64 (1 - (F.emax : Int))) ∧ v.cell? ⟨gd, 2, none⟩ = some (.int .i64 (F.emax : Int)) ∧ v.cell? ⟨gd, 3, none⟩ = some (.int .i64 (F.wd : Int)) ∧ v.cell? ⟨gd, 4, none⟩ = some (.int .i64 (F.e : Int)) ∧ v.cell? ⟨gd, 5, none⟩ = some (.bool F.x) ∧ v.cell? ⟨gp, 0, none⟩ = some (.int .i64 2) ∧ v.cell? ⟨gp, 1, none⟩ = some (.bool tn) ∧ v.cell? ⟨gp, 2, none⟩ = some (.int .u64 (M.hiN ts : Int)) ∧ v.cell? ⟨gp, 3, none⟩ = some (.int .u64 (M.loN ts : Int)) ∧ v.cell? ⟨gp, 4, none⟩ = some (.int .i64 tq)) (with_reducible exact D1 _ (by assumption))
    (first
      | (go_at_call 48; refine (kB _).mono ?_; rintro e t1 ⟨ia, ica, ib, icb, ic, icc, im1, im2, rfl, -, -, -, oA, oB, oC, hbt'⟩; have hb1 := hdr.trans (hbt'.mono (Nat.le_refl _)); clear hbt')
      | (go_at_call 47; refine (kR _ _ _ _ _ _ _ oA.rd oB.rd oC.rd).mono ?_; rintro e t2 ⟨n1, k1, n2, k2, n3, k3, n4, k4, n5, k5, rfl, r1, r2, r3, r4, r5, hbt'⟩; have hb2 := hb1.trans (hbt'.mono hb1.size); clear hbt' hb1 oA oB oC)
      | (go_at_call 49; refine (kS _ _ _ _ _ _ _ _ _ _ _ r1 r2 r3 r4 r5).mono ?_; rintro e t3 ⟨ra, rc, rfl, ov, hbt'⟩; have hs2 := hb2.size; have hb3 := hb2.trans (hbt'.mono hb2.size); clear hbt' hb2 r1 r2 r3 r4 r5))
  have hb := hb3
  replace cr := cr.below hb
  replace cp := cp.below hb
  replace b0 := b0.trans (hb.mono b0.size)
  replace ov := ov.low (show w.heap.size + 1 + 1 ≤ _ by omega)
  clear hb hb3
  have r0 := cr.cell 0 rfl
  have r1 := cr.cell 1 rfl
  have r2 := cr.cell 2 rfl
  have r3 := cr.cell 3 rfl
  have z0 := cr.frozen 0
  have z1 := cr.frozen 1
  have z2 := cr.frozen 2
  have z3 := cr.frozen 3
  have p0 := cp.cell 0 rfl
  have p1 := cp.cell 1 rfl
  have p2 := cp.cell 2 rfl
  have p3 := cp.cell 3 rfl
  have p4 := cp.cell 4 rfl
  go_wp2_with fail
  exact bodyPost_ret (v := .agg #[.slice ra ds.length rc, .int .i64 xx, .bool tn, .int .i64 0]) (by simp [results, Tryz.results8, go_sem, r0, r1, r2, r3]) rfl ⟨ra, rc, rfl, (ov.far4 (by omega) _ _ _ _).low (by omega), below4s b0 (by omega) _ _ _ _⟩

set_option maxHeartbeats 2000000 in
set_option maxRecDepth 10000 in
theorem ishort_fin3 (f : Int) (X : Nat) (T : M.Pt) (F : M.Fm) (t : M.Wd) (ds : List Nat) (xx : Int) (w : World) (hm : Fmt w) (hc : T.c = 3)
    (kE : ∀ v : World, Fmt v → Calls Tryz.prog 44 #[.int .i64 f] v fun e w' => e = .returned (dv F) ∧ Below v.heap.size v w')
    (kK : ∀ v : World, Calls Tryz.prog 45 #[dv F] v fun e w' => e = .returned (.bool true) ∧ Below v.heap.size v w')
    (kU : ∀ v : World, Calls Tryz.prog 46 #[dv F, .agg #[.int .u64 (M.hiN X : Int), .int .u64 (M.loN X : Int)]] v fun e w' => e = .returned (pv T) ∧ Below v.heap.size v w')
    (kB : ∀ v : World, Calls Tryz.prog 48 #[dv F, pv T] v fun e w' => Iv v w' e t.lo t.hi t.den t.cl)
    (kR : ∀ (v : World) (a b c : Option Addr) (ca cb cc : Nat), Rd v a (L t.lo) → Rd v b (L t.hi) → Rd v c (L t.den) → Calls Tryz.prog 47 #[.agg #[.slice a (L t.lo).length ca, .slice b (L t.hi).length cb, .slice c (L t.den).length cc, .bool t.cl, .bool true], pv T] v fun e w' => NR v w' e t)
    (kS : ∀ (v : World) (a1 a2 a3 a4 a5 : Option Addr) (c1 c2 c3 c4 c5 : Nat), Rd v a1 (L t.vn) → Rd v a2 (L t.vd) → Rd v a3 (L (t.T t.X)) → Rd v a4 (L t.least) → Rd v a5 (L t.most) → Calls Tryz.prog 49 #[.agg #[.int .i64 t.X, .slice a1 (L t.vn).length c1, .slice a2 (L t.vd).length c2, .slice a3 (L (t.T t.X)).length c3, .slice a4 (L t.least).length c4, .slice a5 (L t.most).length c5]] v fun e w' => ∃ ra rc, e = .returned (.tuple #[.slice ra ds.length rc, .int .i64 xx]) ∧ OwnV w' v.heap.size (.slice ra ds.length rc) ds ∧ Below v.heap.size v w') :
    Calls Tryz.prog 8 #[.int .i64 f, .agg #[.int .u64 (M.hiN X : Int), .int .u64 (M.loN X : Int)]] w fun e w' => ShO w w' e ds xx T.n 0 := by
  obtain ⟨tc, tn, ts, tq⟩ := T
  simp only [dv, pv] at *
  subst hc
  obtain ⟨cw, cr, b0⟩ := Cls.new2 w #[.int .u64 (M.hiN X : Int), .int .u64 (M.loN X : Int)] #[.slice none 0 0, .int .i64 0, .bool false, .int .i64 0] 29 27
  go_enter Tryz.func8, Tryz.ntmps8
  go_wp2_with fail
  refine (kE _ (hm.below b0)).mono ?_
  rintro e v1 ⟨rfl, hb⟩
  replace cw := cw.below hb
  replace cr := cr.below hb
  replace b0 := b0.trans (hb.mono b0.size)
  clear hb
  go_upto_region 2 with fail
  have cd := Cls.new v1 #[.int .i64 (F.p : Int), .int .i64 (1 - (F.emax : Int)), .int .i64 (F.emax : Int), .int .i64 (F.wd : Int), .int .i64 (F.e : Int), .bool F.x] 61
  have hb : Below v1.heap.size v1 (v1.alloc (.cells #[.int .i64 (F.p : Int), .int .i64 (1 - (F.emax : Int)), .int .i64 (F.emax : Int), .int .i64 (F.wd : Int), .int .i64 (F.e : Int), .bool F.x] 61)) := (Below.refl _ _).alloc (Nat.le_refl _) _
  replace cw := cw.below hb
  replace cr := cr.below hb
  replace b0 := b0.trans (hb.mono b0.size)
  clear hb
  generalize v1.alloc (.cells #[.int .i64 (F.p : Int), .int .i64 (1 - (F.emax : Int)), .int .i64 (F.emax : Int), .int .i64 (F.wd : Int), .int .i64 (F.e : Int), .bool F.x] 61) = v2 at *
  generalize v1.heap.size = gd at *
  have d0 := cd.cell 0 rfl
  have d1 := cd.cell 1 rfl
  have d2 := cd.cell 2 rfl
  have d3 := cd.cell 3 rfl
  have d4 := cd.cell 4 rfl
  have d5 := cd.cell 5 rfl
  go_wp2_with fail
  refine (kK _).mono ?_
  rintro e v3 ⟨rfl, hb⟩
  replace cw := cw.below hb
  replace cr := cr.below hb
  replace cd := cd.below hb
  replace b0 := b0.trans (hb.mono b0.size)
  clear hb d0 d1 d2 d3 d4 d5
  have d0 := cd.cell 0 rfl
  have d1 := cd.cell 1 rfl
  have d2 := cd.cell 2 rfl
  have d3 := cd.cell 3 rfl
  have d4 := cd.cell 4 rfl
  have d5 := cd.cell 5 rfl
  have x0 := cw.cell 0 rfl
  have x1 := cw.cell 1 rfl
  go_wp2_with fail
  refine (kU _).mono ?_
  rintro e v4 ⟨rfl, hb⟩
  replace cr := cr.below hb
  replace cd := cd.below hb
  replace b0 := b0.trans (hb.mono b0.size)
  clear hb d0 d1 d2 d3 d4 d5 x0 x1
  go_upto_region 5 with fail
  have cp := Cls.new v4 #[.int .i64 3, .bool tn, .int .u64 (M.hiN ts : Int), .int .u64 (M.loN ts : Int), .int .i64 tq] 42
  have hb : Below v4.heap.size v4 (v4.alloc (.cells #[.int .i64 3, .bool tn, .int .u64 (M.hiN ts : Int), .int .u64 (M.loN ts : Int), .int .i64 tq] 42)) := (Below.refl _ _).alloc (Nat.le_refl _) _
  replace cr := cr.below hb
  replace cd := cd.below hb
  replace b0 := b0.trans (hb.mono b0.size)
  clear hb
  generalize v4.alloc (.cells #[.int .i64 3, .bool tn, .int .u64 (M.hiN ts : Int), .int .u64 (M.loN ts : Int), .int .i64 tq] 42) = v5 at *
  generalize v4.heap.size = gp at *
  have p0 := cp.cell 0 rfl
  have p1 := cp.cell 1 rfl
  have p2 := cp.cell 2 rfl
  have p3 := cp.cell 3 rfl
  have p4 := cp.cell 4 rfl
  go_upto_region 10 with fail
  clear p0 p1 p2 p3 p4
  have D1 : ∀ v, Below v5.heap.size v5 v → (fun v : World => v.cell? ⟨gd, 0, none⟩ = some (.int .i64 (F.p : Int)) ∧ v.cell? ⟨gd, 1, none⟩ = some (.int .i64 (1 - (F.emax : Int))) ∧ v.cell? ⟨gd, 2, none⟩ = some (.int .i64 (F.emax : Int)) ∧ v.cell? ⟨gd, 3, none⟩ = some (.int .i64 (F.wd : Int)) ∧ v.cell? ⟨gd, 4, none⟩ = some (.int .i64 (F.e : Int)) ∧ v.cell? ⟨gd, 5, none⟩ = some (.bool F.x) ∧ v.cell? ⟨gp, 0, none⟩ = some (.int .i64 3) ∧ v.cell? ⟨gp, 1, none⟩ = some (.bool tn) ∧ v.cell? ⟨gp, 2, none⟩ = some (.int .u64 (M.hiN ts : Int)) ∧ v.cell? ⟨gp, 3, none⟩ = some (.int .u64 (M.loN ts : Int)) ∧ v.cell? ⟨gp, 4, none⟩ = some (.int .i64 tq)) v := fun v hv => ⟨(cd.below hv).cell 0 rfl, (cd.below hv).cell 1 rfl, (cd.below hv).cell 2 rfl, (cd.below hv).cell 3 rfl, (cd.below hv).cell 4 rfl, (cd.below hv).cell 5 rfl, (cp.below hv).cell 0 rfl, (cp.below hv).cell 1 rfl, (cp.below hv).cell 2 rfl, (cp.below hv).cell 3 rfl, (cp.below hv).cell 4 rfl⟩
  have hdr : Below v5.heap.size v5 v5.drew := (Below.refl _ _).drew
  have lr : w.heap.size + 1 < v5.heap.size := cr.lt
  go_region_held3 (fun v : World => v.cell? ⟨gd, 0, none⟩ = some (.int .i64 (F.p : Int)) ∧ v.cell? ⟨gd, 1, none⟩ = some (.int .i64 (1 - (F.emax : Int))) ∧ v.cell? ⟨gd, 2, none⟩ = some (.int .i64 (F.emax : Int)) ∧ v.cell? ⟨gd, 3, none⟩ = some (.int .i64 (F.wd : Int)) ∧ v.cell? ⟨gd, 4, none⟩ = some (.int .i64 (F.e : Int)) ∧ v.cell? ⟨gd, 5, none⟩ = some (.bool F.x) ∧ v.cell? ⟨gp, 0, none⟩ = some (.int .i64 3) ∧ v.cell? ⟨gp, 1, none⟩ = some (.bool tn) ∧ v.cell? ⟨gp, 2, none⟩ = some (.int .u64 (M.hiN ts : Int)) ∧ v.cell? ⟨gp, 3, none⟩ = some (.int .u64 (M.loN ts : Int)) ∧ v.cell? ⟨gp, 4, none⟩ = some (.int .i64 tq)) (with_reducible exact D1 _ (by assumption))
    (first
      | (go_at_call 48; refine (kB _).mono ?_; rintro e t1 ⟨ia, ica, ib, icb, ic, icc, im1, im2, rfl, -, -, -, oA, oB, oC, hbt'⟩; have hb1 := hdr.trans (hbt'.mono (Nat.le_refl _)); clear hbt')
      | (go_at_call 47; refine (kR _ _ _ _ _ _ _ oA.rd oB.rd oC.rd).mono ?_; rintro e t2 ⟨n1, k1, n2, k2, n3, k3, n4, k4, n5, k5, rfl, r1, r2, r3, r4, r5, hbt'⟩; have hb2 := hb1.trans (hbt'.mono hb1.size); clear hbt' hb1 oA oB oC)
      | (go_at_call 49; refine (kS _ _ _ _ _ _ _ _ _ _ _ r1 r2 r3 r4 r5).mono ?_; rintro e t3 ⟨ra, rc, rfl, ov, hbt'⟩; have hs2 := hb2.size; have hb3 := hb2.trans (hbt'.mono hb2.size); clear hbt' hb2 r1 r2 r3 r4 r5))
  have hb := hb3
  replace cr := cr.below hb
  replace cp := cp.below hb
  replace b0 := b0.trans (hb.mono b0.size)
  replace ov := ov.low (show w.heap.size + 1 + 1 ≤ _ by omega)
  clear hb hb3
  have r0 := cr.cell 0 rfl
  have r1 := cr.cell 1 rfl
  have r2 := cr.cell 2 rfl
  have r3 := cr.cell 3 rfl
  have z0 := cr.frozen 0
  have z1 := cr.frozen 1
  have z2 := cr.frozen 2
  have z3 := cr.frozen 3
  have p0 := cp.cell 0 rfl
  have p1 := cp.cell 1 rfl
  have p2 := cp.cell 2 rfl
  have p3 := cp.cell 3 rfl
  have p4 := cp.cell 4 rfl
  go_wp2_with fail
  exact bodyPost_ret (v := .agg #[.slice ra ds.length rc, .int .i64 xx, .bool tn, .int .i64 0]) (by simp [results, Tryz.results8, go_sem, r0, r1, r2, r3]) rfl ⟨ra, rc, rfl, (ov.far4 (by omega) _ _ _ _).low (by omega), below4s b0 (by omega) _ _ _ _⟩

set_option maxHeartbeats 1000000 in
set_option maxRecDepth 10000 in
theorem ishort_out0 (f : Int) (X : Nat) (T : M.Pt) (F : M.Fm) (w : World) (hm : Fmt w) (hc : T.c = 0)
    (kE : ∀ v : World, Fmt v → Calls Tryz.prog 44 #[.int .i64 f] v fun e w' => e = .returned (dv F) ∧ Below v.heap.size v w')
    (kK : ∀ v : World, Calls Tryz.prog 45 #[dv F] v fun e w' => e = .returned (.bool true) ∧ Below v.heap.size v w')
    (kU : ∀ v : World, Calls Tryz.prog 46 #[dv F, .agg #[.int .u64 (M.hiN X : Int), .int .u64 (M.loN X : Int)]] v fun e w' => e = .returned (pv T) ∧ Below v.heap.size v w') :
    Calls Tryz.prog 8 #[.int .i64 f, .agg #[.int .u64 (M.hiN X : Int), .int .u64 (M.loN X : Int)]] w fun e w' => ShO w w' e [] 0 false 3 := by
  obtain ⟨tc, tn, ts, tq⟩ := T
  simp only [dv, pv] at *
  subst hc
  obtain ⟨cw, cr, b0⟩ := Cls.new2 w #[.int .u64 (M.hiN X : Int), .int .u64 (M.loN X : Int)] #[.slice none 0 0, .int .i64 0, .bool false, .int .i64 0] 29 27
  go_enter Tryz.func8, Tryz.ntmps8
  go_wp2_with fail
  refine (kE _ (hm.below b0)).mono ?_
  rintro e v1 ⟨rfl, hb⟩
  replace cw := cw.below hb
  replace cr := cr.below hb
  replace b0 := b0.trans (hb.mono b0.size)
  clear hb
  go_upto_region 2 with fail
  have cd := Cls.new v1 #[.int .i64 (F.p : Int), .int .i64 (1 - (F.emax : Int)), .int .i64 (F.emax : Int), .int .i64 (F.wd : Int), .int .i64 (F.e : Int), .bool F.x] 61
  have hb : Below v1.heap.size v1 (v1.alloc (.cells #[.int .i64 (F.p : Int), .int .i64 (1 - (F.emax : Int)), .int .i64 (F.emax : Int), .int .i64 (F.wd : Int), .int .i64 (F.e : Int), .bool F.x] 61)) := (Below.refl _ _).alloc (Nat.le_refl _) _
  replace cw := cw.below hb
  replace cr := cr.below hb
  replace b0 := b0.trans (hb.mono b0.size)
  clear hb
  generalize v1.alloc (.cells #[.int .i64 (F.p : Int), .int .i64 (1 - (F.emax : Int)), .int .i64 (F.emax : Int), .int .i64 (F.wd : Int), .int .i64 (F.e : Int), .bool F.x] 61) = v2 at *
  generalize v1.heap.size = gd at *
  have d0 := cd.cell 0 rfl
  have d1 := cd.cell 1 rfl
  have d2 := cd.cell 2 rfl
  have d3 := cd.cell 3 rfl
  have d4 := cd.cell 4 rfl
  have d5 := cd.cell 5 rfl
  go_wp2_with fail
  refine (kK _).mono ?_
  rintro e v3 ⟨rfl, hb⟩
  replace cw := cw.below hb
  replace cr := cr.below hb
  replace cd := cd.below hb
  replace b0 := b0.trans (hb.mono b0.size)
  clear hb d0 d1 d2 d3 d4 d5
  have d0 := cd.cell 0 rfl
  have d1 := cd.cell 1 rfl
  have d2 := cd.cell 2 rfl
  have d3 := cd.cell 3 rfl
  have d4 := cd.cell 4 rfl
  have d5 := cd.cell 5 rfl
  have x0 := cw.cell 0 rfl
  have x1 := cw.cell 1 rfl
  go_wp2_with fail
  refine (kU _).mono ?_
  rintro e v4 ⟨rfl, hb⟩
  replace cr := cr.below hb
  replace cd := cd.below hb
  replace b0 := b0.trans (hb.mono b0.size)
  clear hb d0 d1 d2 d3 d4 d5 x0 x1
  go_upto_region 5 with fail
  have cp := Cls.new v4 #[.int .i64 0, .bool tn, .int .u64 (M.hiN ts : Int), .int .u64 (M.loN ts : Int), .int .i64 tq] 42
  have hb : Below v4.heap.size v4 (v4.alloc (.cells #[.int .i64 0, .bool tn, .int .u64 (M.hiN ts : Int), .int .u64 (M.loN ts : Int), .int .i64 tq] 42)) := (Below.refl _ _).alloc (Nat.le_refl _) _
  replace cr := cr.below hb
  replace cd := cd.below hb
  replace b0 := b0.trans (hb.mono b0.size)
  clear hb
  generalize v4.alloc (.cells #[.int .i64 0, .bool tn, .int .u64 (M.hiN ts : Int), .int .u64 (M.loN ts : Int), .int .i64 tq] 42) = v5 at *
  generalize v4.heap.size = gp at *
  have p0 := cp.cell 0 rfl
  have p1 := cp.cell 1 rfl
  have p2 := cp.cell 2 rfl
  have p3 := cp.cell 3 rfl
  have p4 := cp.cell 4 rfl
  have r0 := cr.cell 0 rfl
  have r1 := cr.cell 1 rfl
  have r2 := cr.cell 2 rfl
  have r3 := cr.cell 3 rfl
  have z0 := cr.frozen 0
  have z1 := cr.frozen 1
  have z2 := cr.frozen 2
  have z3 := cr.frozen 3
  have lr : w.heap.size + 1 < v5.heap.size := cr.lt
  go_wp2_with fail
  exact bodyPost_ret (v := .agg #[.slice none 0 0, .int .i64 0, .bool false, .int .i64 3]) (by simp [results, Tryz.results8, go_sem, r0, r1, r2, r3]) rfl ⟨none, 0, rfl, OwnV.nil _ _, below4s b0 (by omega) _ _ _ _⟩

set_option maxHeartbeats 1000000 in
set_option maxRecDepth 10000 in
theorem ishort_out1 (f : Int) (X : Nat) (T : M.Pt) (F : M.Fm) (w : World) (hm : Fmt w) (hc : T.c = 1)
    (kE : ∀ v : World, Fmt v → Calls Tryz.prog 44 #[.int .i64 f] v fun e w' => e = .returned (dv F) ∧ Below v.heap.size v w')
    (kK : ∀ v : World, Calls Tryz.prog 45 #[dv F] v fun e w' => e = .returned (.bool true) ∧ Below v.heap.size v w')
    (kU : ∀ v : World, Calls Tryz.prog 46 #[dv F, .agg #[.int .u64 (M.hiN X : Int), .int .u64 (M.loN X : Int)]] v fun e w' => e = .returned (pv T) ∧ Below v.heap.size v w') :
    Calls Tryz.prog 8 #[.int .i64 f, .agg #[.int .u64 (M.hiN X : Int), .int .u64 (M.loN X : Int)]] w fun e w' => ShO w w' e [] 0 T.n 0 := by
  obtain ⟨tc, tn, ts, tq⟩ := T
  simp only [dv, pv] at *
  subst hc
  obtain ⟨cw, cr, b0⟩ := Cls.new2 w #[.int .u64 (M.hiN X : Int), .int .u64 (M.loN X : Int)] #[.slice none 0 0, .int .i64 0, .bool false, .int .i64 0] 29 27
  go_enter Tryz.func8, Tryz.ntmps8
  go_wp2_with fail
  refine (kE _ (hm.below b0)).mono ?_
  rintro e v1 ⟨rfl, hb⟩
  replace cw := cw.below hb
  replace cr := cr.below hb
  replace b0 := b0.trans (hb.mono b0.size)
  clear hb
  go_upto_region 2 with fail
  have cd := Cls.new v1 #[.int .i64 (F.p : Int), .int .i64 (1 - (F.emax : Int)), .int .i64 (F.emax : Int), .int .i64 (F.wd : Int), .int .i64 (F.e : Int), .bool F.x] 61
  have hb : Below v1.heap.size v1 (v1.alloc (.cells #[.int .i64 (F.p : Int), .int .i64 (1 - (F.emax : Int)), .int .i64 (F.emax : Int), .int .i64 (F.wd : Int), .int .i64 (F.e : Int), .bool F.x] 61)) := (Below.refl _ _).alloc (Nat.le_refl _) _
  replace cw := cw.below hb
  replace cr := cr.below hb
  replace b0 := b0.trans (hb.mono b0.size)
  clear hb
  generalize v1.alloc (.cells #[.int .i64 (F.p : Int), .int .i64 (1 - (F.emax : Int)), .int .i64 (F.emax : Int), .int .i64 (F.wd : Int), .int .i64 (F.e : Int), .bool F.x] 61) = v2 at *
  generalize v1.heap.size = gd at *
  have d0 := cd.cell 0 rfl
  have d1 := cd.cell 1 rfl
  have d2 := cd.cell 2 rfl
  have d3 := cd.cell 3 rfl
  have d4 := cd.cell 4 rfl
  have d5 := cd.cell 5 rfl
  go_wp2_with fail
  refine (kK _).mono ?_
  rintro e v3 ⟨rfl, hb⟩
  replace cw := cw.below hb
  replace cr := cr.below hb
  replace cd := cd.below hb
  replace b0 := b0.trans (hb.mono b0.size)
  clear hb d0 d1 d2 d3 d4 d5
  have d0 := cd.cell 0 rfl
  have d1 := cd.cell 1 rfl
  have d2 := cd.cell 2 rfl
  have d3 := cd.cell 3 rfl
  have d4 := cd.cell 4 rfl
  have d5 := cd.cell 5 rfl
  have x0 := cw.cell 0 rfl
  have x1 := cw.cell 1 rfl
  go_wp2_with fail
  refine (kU _).mono ?_
  rintro e v4 ⟨rfl, hb⟩
  replace cr := cr.below hb
  replace cd := cd.below hb
  replace b0 := b0.trans (hb.mono b0.size)
  clear hb d0 d1 d2 d3 d4 d5 x0 x1
  go_upto_region 5 with fail
  have cp := Cls.new v4 #[.int .i64 1, .bool tn, .int .u64 (M.hiN ts : Int), .int .u64 (M.loN ts : Int), .int .i64 tq] 42
  have hb : Below v4.heap.size v4 (v4.alloc (.cells #[.int .i64 1, .bool tn, .int .u64 (M.hiN ts : Int), .int .u64 (M.loN ts : Int), .int .i64 tq] 42)) := (Below.refl _ _).alloc (Nat.le_refl _) _
  replace cr := cr.below hb
  replace cd := cd.below hb
  replace b0 := b0.trans (hb.mono b0.size)
  clear hb
  generalize v4.alloc (.cells #[.int .i64 1, .bool tn, .int .u64 (M.hiN ts : Int), .int .u64 (M.loN ts : Int), .int .i64 tq] 42) = v5 at *
  generalize v4.heap.size = gp at *
  have p0 := cp.cell 0 rfl
  have p1 := cp.cell 1 rfl
  have p2 := cp.cell 2 rfl
  have p3 := cp.cell 3 rfl
  have p4 := cp.cell 4 rfl
  have r0 := cr.cell 0 rfl
  have r1 := cr.cell 1 rfl
  have r2 := cr.cell 2 rfl
  have r3 := cr.cell 3 rfl
  have z0 := cr.frozen 0
  have z1 := cr.frozen 1
  have z2 := cr.frozen 2
  have z3 := cr.frozen 3
  have lr : w.heap.size + 1 < v5.heap.size := cr.lt
  go_wp2_with fail
  exact bodyPost_ret (v := .agg #[.slice none 0 0, .int .i64 0, .bool tn, .int .i64 0]) (by simp [results, Tryz.results8, go_sem, r0, r1, r2, r3]) rfl ⟨none, 0, rfl, OwnV.nil _ _, below4s b0 (by omega) _ _ _ _⟩

set_option maxHeartbeats 1000000 in
set_option maxRecDepth 10000 in
theorem ishort_out4 (f : Int) (X : Nat) (T : M.Pt) (F : M.Fm) (w : World) (hm : Fmt w) (hc : T.c = 4)
    (kE : ∀ v : World, Fmt v → Calls Tryz.prog 44 #[.int .i64 f] v fun e w' => e = .returned (dv F) ∧ Below v.heap.size v w')
    (kK : ∀ v : World, Calls Tryz.prog 45 #[dv F] v fun e w' => e = .returned (.bool true) ∧ Below v.heap.size v w')
    (kU : ∀ v : World, Calls Tryz.prog 46 #[dv F, .agg #[.int .u64 (M.hiN X : Int), .int .u64 (M.loN X : Int)]] v fun e w' => e = .returned (pv T) ∧ Below v.heap.size v w') :
    Calls Tryz.prog 8 #[.int .i64 f, .agg #[.int .u64 (M.hiN X : Int), .int .u64 (M.loN X : Int)]] w fun e w' => ShO w w' e [] 0 T.n 0 := by
  obtain ⟨tc, tn, ts, tq⟩ := T
  simp only [dv, pv] at *
  subst hc
  obtain ⟨cw, cr, b0⟩ := Cls.new2 w #[.int .u64 (M.hiN X : Int), .int .u64 (M.loN X : Int)] #[.slice none 0 0, .int .i64 0, .bool false, .int .i64 0] 29 27
  go_enter Tryz.func8, Tryz.ntmps8
  go_wp2_with fail
  refine (kE _ (hm.below b0)).mono ?_
  rintro e v1 ⟨rfl, hb⟩
  replace cw := cw.below hb
  replace cr := cr.below hb
  replace b0 := b0.trans (hb.mono b0.size)
  clear hb
  go_upto_region 2 with fail
  have cd := Cls.new v1 #[.int .i64 (F.p : Int), .int .i64 (1 - (F.emax : Int)), .int .i64 (F.emax : Int), .int .i64 (F.wd : Int), .int .i64 (F.e : Int), .bool F.x] 61
  have hb : Below v1.heap.size v1 (v1.alloc (.cells #[.int .i64 (F.p : Int), .int .i64 (1 - (F.emax : Int)), .int .i64 (F.emax : Int), .int .i64 (F.wd : Int), .int .i64 (F.e : Int), .bool F.x] 61)) := (Below.refl _ _).alloc (Nat.le_refl _) _
  replace cw := cw.below hb
  replace cr := cr.below hb
  replace b0 := b0.trans (hb.mono b0.size)
  clear hb
  generalize v1.alloc (.cells #[.int .i64 (F.p : Int), .int .i64 (1 - (F.emax : Int)), .int .i64 (F.emax : Int), .int .i64 (F.wd : Int), .int .i64 (F.e : Int), .bool F.x] 61) = v2 at *
  generalize v1.heap.size = gd at *
  have d0 := cd.cell 0 rfl
  have d1 := cd.cell 1 rfl
  have d2 := cd.cell 2 rfl
  have d3 := cd.cell 3 rfl
  have d4 := cd.cell 4 rfl
  have d5 := cd.cell 5 rfl
  go_wp2_with fail
  refine (kK _).mono ?_
  rintro e v3 ⟨rfl, hb⟩
  replace cw := cw.below hb
  replace cr := cr.below hb
  replace cd := cd.below hb
  replace b0 := b0.trans (hb.mono b0.size)
  clear hb d0 d1 d2 d3 d4 d5
  have d0 := cd.cell 0 rfl
  have d1 := cd.cell 1 rfl
  have d2 := cd.cell 2 rfl
  have d3 := cd.cell 3 rfl
  have d4 := cd.cell 4 rfl
  have d5 := cd.cell 5 rfl
  have x0 := cw.cell 0 rfl
  have x1 := cw.cell 1 rfl
  go_wp2_with fail
  refine (kU _).mono ?_
  rintro e v4 ⟨rfl, hb⟩
  replace cr := cr.below hb
  replace cd := cd.below hb
  replace b0 := b0.trans (hb.mono b0.size)
  clear hb d0 d1 d2 d3 d4 d5 x0 x1
  go_upto_region 5 with fail
  have cp := Cls.new v4 #[.int .i64 4, .bool tn, .int .u64 (M.hiN ts : Int), .int .u64 (M.loN ts : Int), .int .i64 tq] 42
  have hb : Below v4.heap.size v4 (v4.alloc (.cells #[.int .i64 4, .bool tn, .int .u64 (M.hiN ts : Int), .int .u64 (M.loN ts : Int), .int .i64 tq] 42)) := (Below.refl _ _).alloc (Nat.le_refl _) _
  replace cr := cr.below hb
  replace cd := cd.below hb
  replace b0 := b0.trans (hb.mono b0.size)
  clear hb
  generalize v4.alloc (.cells #[.int .i64 4, .bool tn, .int .u64 (M.hiN ts : Int), .int .u64 (M.loN ts : Int), .int .i64 tq] 42) = v5 at *
  generalize v4.heap.size = gp at *
  have p0 := cp.cell 0 rfl
  have p1 := cp.cell 1 rfl
  have p2 := cp.cell 2 rfl
  have p3 := cp.cell 3 rfl
  have p4 := cp.cell 4 rfl
  have r0 := cr.cell 0 rfl
  have r1 := cr.cell 1 rfl
  have r2 := cr.cell 2 rfl
  have r3 := cr.cell 3 rfl
  have z0 := cr.frozen 0
  have z1 := cr.frozen 1
  have z2 := cr.frozen 2
  have z3 := cr.frozen 3
  have lr : w.heap.size + 1 < v5.heap.size := cr.lt
  go_wp2_with fail
  exact bodyPost_ret (v := .agg #[.slice none 0 0, .int .i64 0, .bool tn, .int .i64 0]) (by simp [results, Tryz.results8, go_sem, r0, r1, r2, r3]) rfl ⟨none, 0, rfl, OwnV.nil _ _, below4s b0 (by omega) _ _ _ _⟩

set_option maxHeartbeats 1000000 in
set_option maxRecDepth 10000 in
theorem ishort_out5 (f : Int) (X : Nat) (T : M.Pt) (F : M.Fm) (w : World) (hm : Fmt w) (hc : T.c = 5)
    (kE : ∀ v : World, Fmt v → Calls Tryz.prog 44 #[.int .i64 f] v fun e w' => e = .returned (dv F) ∧ Below v.heap.size v w')
    (kK : ∀ v : World, Calls Tryz.prog 45 #[dv F] v fun e w' => e = .returned (.bool true) ∧ Below v.heap.size v w')
    (kU : ∀ v : World, Calls Tryz.prog 46 #[dv F, .agg #[.int .u64 (M.hiN X : Int), .int .u64 (M.loN X : Int)]] v fun e w' => e = .returned (pv T) ∧ Below v.heap.size v w') :
    Calls Tryz.prog 8 #[.int .i64 f, .agg #[.int .u64 (M.hiN X : Int), .int .u64 (M.loN X : Int)]] w fun e w' => ShO w w' e [] 0 T.n 0 := by
  obtain ⟨tc, tn, ts, tq⟩ := T
  simp only [dv, pv] at *
  subst hc
  obtain ⟨cw, cr, b0⟩ := Cls.new2 w #[.int .u64 (M.hiN X : Int), .int .u64 (M.loN X : Int)] #[.slice none 0 0, .int .i64 0, .bool false, .int .i64 0] 29 27
  go_enter Tryz.func8, Tryz.ntmps8
  go_wp2_with fail
  refine (kE _ (hm.below b0)).mono ?_
  rintro e v1 ⟨rfl, hb⟩
  replace cw := cw.below hb
  replace cr := cr.below hb
  replace b0 := b0.trans (hb.mono b0.size)
  clear hb
  go_upto_region 2 with fail
  have cd := Cls.new v1 #[.int .i64 (F.p : Int), .int .i64 (1 - (F.emax : Int)), .int .i64 (F.emax : Int), .int .i64 (F.wd : Int), .int .i64 (F.e : Int), .bool F.x] 61
  have hb : Below v1.heap.size v1 (v1.alloc (.cells #[.int .i64 (F.p : Int), .int .i64 (1 - (F.emax : Int)), .int .i64 (F.emax : Int), .int .i64 (F.wd : Int), .int .i64 (F.e : Int), .bool F.x] 61)) := (Below.refl _ _).alloc (Nat.le_refl _) _
  replace cw := cw.below hb
  replace cr := cr.below hb
  replace b0 := b0.trans (hb.mono b0.size)
  clear hb
  generalize v1.alloc (.cells #[.int .i64 (F.p : Int), .int .i64 (1 - (F.emax : Int)), .int .i64 (F.emax : Int), .int .i64 (F.wd : Int), .int .i64 (F.e : Int), .bool F.x] 61) = v2 at *
  generalize v1.heap.size = gd at *
  have d0 := cd.cell 0 rfl
  have d1 := cd.cell 1 rfl
  have d2 := cd.cell 2 rfl
  have d3 := cd.cell 3 rfl
  have d4 := cd.cell 4 rfl
  have d5 := cd.cell 5 rfl
  go_wp2_with fail
  refine (kK _).mono ?_
  rintro e v3 ⟨rfl, hb⟩
  replace cw := cw.below hb
  replace cr := cr.below hb
  replace cd := cd.below hb
  replace b0 := b0.trans (hb.mono b0.size)
  clear hb d0 d1 d2 d3 d4 d5
  have d0 := cd.cell 0 rfl
  have d1 := cd.cell 1 rfl
  have d2 := cd.cell 2 rfl
  have d3 := cd.cell 3 rfl
  have d4 := cd.cell 4 rfl
  have d5 := cd.cell 5 rfl
  have x0 := cw.cell 0 rfl
  have x1 := cw.cell 1 rfl
  go_wp2_with fail
  refine (kU _).mono ?_
  rintro e v4 ⟨rfl, hb⟩
  replace cr := cr.below hb
  replace cd := cd.below hb
  replace b0 := b0.trans (hb.mono b0.size)
  clear hb d0 d1 d2 d3 d4 d5 x0 x1
  go_upto_region 5 with fail
  have cp := Cls.new v4 #[.int .i64 5, .bool tn, .int .u64 (M.hiN ts : Int), .int .u64 (M.loN ts : Int), .int .i64 tq] 42
  have hb : Below v4.heap.size v4 (v4.alloc (.cells #[.int .i64 5, .bool tn, .int .u64 (M.hiN ts : Int), .int .u64 (M.loN ts : Int), .int .i64 tq] 42)) := (Below.refl _ _).alloc (Nat.le_refl _) _
  replace cr := cr.below hb
  replace cd := cd.below hb
  replace b0 := b0.trans (hb.mono b0.size)
  clear hb
  generalize v4.alloc (.cells #[.int .i64 5, .bool tn, .int .u64 (M.hiN ts : Int), .int .u64 (M.loN ts : Int), .int .i64 tq] 42) = v5 at *
  generalize v4.heap.size = gp at *
  have p0 := cp.cell 0 rfl
  have p1 := cp.cell 1 rfl
  have p2 := cp.cell 2 rfl
  have p3 := cp.cell 3 rfl
  have p4 := cp.cell 4 rfl
  have r0 := cr.cell 0 rfl
  have r1 := cr.cell 1 rfl
  have r2 := cr.cell 2 rfl
  have r3 := cr.cell 3 rfl
  have z0 := cr.frozen 0
  have z1 := cr.frozen 1
  have z2 := cr.frozen 2
  have z3 := cr.frozen 3
  have lr : w.heap.size + 1 < v5.heap.size := cr.lt
  go_wp2_with fail
  exact bodyPost_ret (v := .agg #[.slice none 0 0, .int .i64 0, .bool tn, .int .i64 0]) (by simp [results, Tryz.results8, go_sem, r0, r1, r2, r3]) rfl ⟨none, 0, rfl, OwnV.nil _ _, below4s b0 (by omega) _ _ _ _⟩

set_option maxHeartbeats 1000000 in
set_option maxRecDepth 10000 in
theorem ishort_no (f : Int) (hf : f < 0 ∨ 4 ≤ f) (X : Nat) (w : World) (hm : Fmt w) :
    Calls Tryz.prog 8 #[.int .i64 f, .agg #[.int .u64 (M.hiN X : Int), .int .u64 (M.loN X : Int)]] w fun e w' => ShO w w' e [] 0 false 4 := by
  have kE : ∀ v : World, Fmt v → Calls Tryz.prog 44 #[.int .i64 f] v fun e w' => e = .returned (.agg #[.int .i64 0, .int .i64 0, .int .i64 0, .int .i64 0, .int .i64 0, .bool false]) ∧ Below v.heap.size v w' := fun v _ => describeNo f v hf
  have kK := fun v : World => dKnown0 v
  obtain ⟨cw, cr, b0⟩ := Cls.new2 w #[.int .u64 (M.hiN X : Int), .int .u64 (M.loN X : Int)] #[.slice none 0 0, .int .i64 0, .bool false, .int .i64 0] 29 27
  go_enter Tryz.func8, Tryz.ntmps8
  go_wp2_with fail
  refine (kE _ (hm.below b0)).mono ?_
  rintro e v1 ⟨rfl, hb⟩
  replace cw := cw.below hb
  replace cr := cr.below hb
  replace b0 := b0.trans (hb.mono b0.size)
  clear hb
  go_upto_region 2 with fail
  have cd := Cls.new v1 #[.int .i64 0, .int .i64 0, .int .i64 0, .int .i64 0, .int .i64 0, .bool false] 61
  have hb : Below v1.heap.size v1 (v1.alloc (.cells #[.int .i64 0, .int .i64 0, .int .i64 0, .int .i64 0, .int .i64 0, .bool false] 61)) := (Below.refl _ _).alloc (Nat.le_refl _) _
  replace cw := cw.below hb
  replace cr := cr.below hb
  replace b0 := b0.trans (hb.mono b0.size)
  clear hb
  generalize v1.alloc (.cells #[.int .i64 0, .int .i64 0, .int .i64 0, .int .i64 0, .int .i64 0, .bool false] 61) = v2 at *
  generalize v1.heap.size = gd at *
  have d0 := cd.cell 0 rfl
  have d1 := cd.cell 1 rfl
  have d2 := cd.cell 2 rfl
  have d3 := cd.cell 3 rfl
  have d4 := cd.cell 4 rfl
  have d5 := cd.cell 5 rfl
  go_wp2_with fail
  refine (kK _).mono ?_
  rintro e v3 ⟨rfl, hb⟩
  replace cw := cw.below hb
  replace cr := cr.below hb
  replace cd := cd.below hb
  replace b0 := b0.trans (hb.mono b0.size)
  clear hb d0 d1 d2 d3 d4 d5
  have r0 := cr.cell 0 rfl
  have r1 := cr.cell 1 rfl
  have r2 := cr.cell 2 rfl
  have r3 := cr.cell 3 rfl
  have z0 := cr.frozen 0
  have z1 := cr.frozen 1
  have z2 := cr.frozen 2
  have z3 := cr.frozen 3
  have lr : w.heap.size + 1 < v3.heap.size := cr.lt
  go_wp2_with fail
  exact bodyPost_ret (v := .agg #[.slice none 0 0, .int .i64 0, .bool false, .int .i64 4]) (by simp [results, Tryz.results8, go_sem, r0, r1, r2, r3]) rfl ⟨none, 0, rfl, OwnV.nil _ _, below4s b0 (by omega) _ _ _ _⟩

end Go.Proofs.YtmglhkdgfcbonaaGreatDoor

