import Derived.Deep.LoopGhost
import Derived.Lib.SlBytesConst
import Derived.Test.YtdfljbpcjkbflaaGreatDoorrHAW
import Derived.Test.YtdfljbpcjkbflaaGreatDoorrSx4
set_option maxHeartbeats 2000000
set_option maxRecDepth 10000
namespace Go.Proofs.YtdfljbpcjkbflaaGreatDoor.M
set_option linter.unusedVariables false
set_option maxRecDepth 100000
theorem Wd.Ok.prog_pick {t : Wd} (h : t.Ok) (z : Nat) : nrI t.vn t.vd (t.T t.X / 10 ^ z) z t.least t.most = t.pick (t.X + z) * 10 ^ z := by
 have a := h.low_at z
 have b := h.high_at z
 have c := h.side z
 have e0 : t.T (t.X + z) = t.T t.X / 10 ^ z := dP _ _ h.den_pos _ _
 unfold nrI Wd.pick
 rw [e0] at c ⊢
 generalize t.T t.X / 10 ^ z = d at *
 have e1 : d * 10 ^ z + (d * 10 ^ z + 10 ^ z) = (2 * d + 1) * 10 ^ z := by rw [Nat.add_mul, Nat.one_mul, Nat.mul_assoc]; omega
 have e2 : d * 10 ^ z + 10 ^ z = (d + 1) * 10 ^ z := by rw [Nat.add_mul, Nat.one_mul]
 rw [e2] at b
 rw [e1, e2]
 simp only [a, b, c.1, c.2]
 split
 · rfl
 · split
   · rfl
   · split
     · rfl
     · rfl

end Go.Proofs.YtdfljbpcjkbflaaGreatDoor.M
namespace Go.Proofs.YtdfljbpcjkbflaaGreatDoor
open Go.RowKit
set_option linter.unusedVariables false
set_option maxRecDepth 100000
theorem zO (t : M.Wd) (h : t.Ok) (r : Nat) (b : t.Best r) (g : Nat) (l3 : (L (t.T t.X)).length ≤ 1000) (l4 : (L t.least).length ≤ 1000) (l5 : (L t.most).length ≤ 1000) (v : World) (hv : Rch v g t.X t.vn t.vd (t.T t.X) t.least t.most) :
 Calls Tryz.prog 79 #[.int .i64 0, .int .i64 ((t.N : Int) - 1), .func (.func 81) #[] #[.pointer (some ⟨g, 0, none⟩)]] v fun e w' => e = .returned (.int .i64 (r : Int)) ∧ Below v.heap.size v w' := by
 have hN := h.N_le
 have hr := b.lt
 have ka : ∀ z : Nat, t.asks z = (decide (t.least ≤ t.T t.X / 10 ^ z * 10 ^ z) || decide (t.T t.X / 10 ^ z * 10 ^ z + 10 ^ z ≤ t.most)) := fun z => rfl
 have kc := fun (z : Nat) (v2 : World) hv hz => GE g t.X t.vn t.vd (t.T t.X) t.least t.most z v2 hv hz l3 l4 l5
 simp only [← ka] at kc
 have kb := fun (z : Nat) h1 h2 h3 => h.best_of z h1 h2 h3
 generalize t.asks = P at kc kb
 generalize t.N = n at *
 refine (mA 0 ((n : Int) - 1) (fun x => P x.toNat) (.pointer (some ⟨g, 0, none⟩)) v (by omega) (by omega) (by omega) ?_).mono ?_
 · intro x v2 x1 x2 hb
   obtain ⟨z, rfl⟩ := Int.eq_ofNat_of_zero_le x1
   exact kc z v2 (hv.below hb) (by omega)
 · rintro e w' ⟨s, rfl, s1, s2, s3, s4, hb⟩
   obtain ⟨z, rfl⟩ := Int.eq_ofNat_of_zero_le s1
   have bz : t.Best z := kb z (by omega) (fun hp => s3 (by omega)) (fun hp => s4 (by omega))
   rw [bz.same b]
   exact ⟨rfl, hb⟩

theorem wT (ex xx : Int) (N De W Ls Ms K r n : Nat) (ds : List Nat) (a1 a2 a3 a4 a5 : Option Addr) (c1 c2 c3 c4 c5 : Nat) (w : World)
 (l3 : (L W).length ≤ 1000) (lK : (L K).length ≤ 1000) (hx1 : -10000 ≤ ex) (hx2 : ex ≤ 10000) (hn : (M.txt W).length = n) (hn2 : n ≤ 1000) (hn1 : 1 ≤ n) (hr : r ≤ 1000) (tK : (M.txt K).length ≤ 1000)
 (bd : M.aT (M.txt K) = ds) (be : M.fF (M.txt K) ex = xx)
 (h1 : Rd w a1 (L N)) (h2 : Rd w a2 (L De)) (h3 : Rd w a3 (L W)) (h4 : Rd w a4 (L Ls)) (h5 : Rd w a5 (L Ms))
 (kR : ∀ v : World, Rch v w.heap.size ex N De W Ls Ms → Calls Tryz.prog 79 #[.int .i64 0, .int .i64 ((n : Int) - 1), .func (.func 81) #[] #[.pointer (some ⟨w.heap.size, 0, none⟩)]] v fun e w' => e = .returned (.int .i64 (r : Int)) ∧ Below v.heap.size v w')
 (kN : ∀ v : World, Rd v a1 (L N) → Rd v a2 (L De) → Rd v a3 (L W) → Rd v a4 (L Ls) → Rd v a5 (L Ms) → Calls Tryz.prog 85 #[.agg #[.int .i64 ex, .slice a1 (L N).length c1, .slice a2 (L De).length c2, .slice a3 (L W).length c3, .slice a4 (L Ls).length c4, .slice a5 (L Ms).length c5], .int .i64 (r : Int)] v fun e w' => ∃ ra rc, e = .returned (.slice ra (L K).length rc) ∧ Rd w' ra (L K) ∧ Below v.heap.size v w') :
 Calls Tryz.prog 35 #[.agg #[.int .i64 ex, .slice a1 (L N).length c1, .slice a2 (L De).length c2, .slice a3 (L W).length c3, .slice a4 (L Ls).length c4, .slice a5 (L Ms).length c5]] w fun e w' => ∃ ra rc, e = .returned (.tuple #[.slice ra ds.length rc, .int .i64 xx]) ∧ OwnV w' w.heap.size (.slice ra ds.length rc) ds ∧ Below w.heap.size w w' := by
 have hdig : ∀ x ∈ M.txt K, x < 256 := fun x hx => by have := M.gG K x hx; omega
 have kD := fun (v : World) hr => jU W a3 _ c3 v rfl (by omega) hr
 rw [hn] at kD
 have c0 := Cls.new w #[.int .i64 ex, .slice a1 (L N).length c1, .slice a2 (L De).length c2, .slice a3 (L W).length c3, .slice a4 (L Ls).length c4, .slice a5 (L Ms).length c5] 75
 have b0 : Below w.heap.size w (w.alloc (.cells #[.int .i64 ex, .slice a1 (L N).length c1, .slice a2 (L De).length c2, .slice a3 (L W).length c3, .slice a4 (L Ls).length c4, .slice a5 (L Ms).length c5] 75)) := (Below.refl _ _).alloc (Nat.le_refl _) _
 have x2 := c0.cell 2 rfl
 go_enter Tryz.func35, Tryz.ntmps35
 go_wp2_with fail
 refine (kD _ (h3.below b0)).mono ?_
 rintro e v1 ⟨da, dc, rfl, -, hb⟩
 replace c0 := c0.below hb
 replace b0 := b0.trans (hb.mono b0.size)
 clear hb kD x2
 go_wp2_with fail
 refine (kR _ ⟨⟨a1, c1, a2, c2, a3, c3, a4, c4, a5, c5, c0, h1.below b0, h2.below b0, h3.below b0, h4.below b0, h5.below b0⟩⟩).mono ?_
 rintro e v2 ⟨rfl, hb⟩
 replace c0 := c0.below hb
 replace b0 := b0.trans (hb.mono b0.size)
 clear hb kR
 go_upto_region 2 with fail
 have D1 : ∀ v, Below v2.heap.size v2 v → (fun v : World => v.cell? ⟨w.heap.size, 0, none⟩ = some (.int .i64 ex) ∧ v.cell? ⟨w.heap.size, 1, none⟩ = some (.slice a1 (L N).length c1) ∧ v.cell? ⟨w.heap.size, 2, none⟩ = some (.slice a2 (L De).length c2) ∧ v.cell? ⟨w.heap.size, 3, none⟩ = some (.slice a3 (L W).length c3) ∧ v.cell? ⟨w.heap.size, 4, none⟩ = some (.slice a4 (L Ls).length c4) ∧ v.cell? ⟨w.heap.size, 5, none⟩ = some (.slice a5 (L Ms).length c5)) v := fun v hv => ⟨(c0.below hv).cell 0 rfl, (c0.below hv).cell 1 rfl, (c0.below hv).cell 2 rfl, (c0.below hv).cell 3 rfl, (c0.below hv).cell 4 rfl, (c0.below hv).cell 5 rfl⟩
 have hdr : Below v2.heap.size v2 v2.drew := (Below.refl _ _).drew
 have b1 := b0.trans (hdr.mono b0.size)
 go_region_held3 (fun v : World => v.cell? ⟨w.heap.size, 0, none⟩ = some (.int .i64 ex) ∧ v.cell? ⟨w.heap.size, 1, none⟩ = some (.slice a1 (L N).length c1) ∧ v.cell? ⟨w.heap.size, 2, none⟩ = some (.slice a2 (L De).length c2) ∧ v.cell? ⟨w.heap.size, 3, none⟩ = some (.slice a3 (L W).length c3) ∧ v.cell? ⟨w.heap.size, 4, none⟩ = some (.slice a4 (L Ls).length c4) ∧ v.cell? ⟨w.heap.size, 5, none⟩ = some (.slice a5 (L Ms).length c5)) (with_reducible exact D1 _ (by assumption))
  (first
    | (go_at_call 85; refine (kN _ (h1.below b1) (h2.below b1) (h3.below b1) (h4.below b1) (h5.below b1)).mono ?_; rintro e t1 ⟨na, nc, rfl, nr, hbt'⟩; have hb1 := hdr.trans (hbt'.mono (Nat.le_refl _)); clear hbt')
    | (go_at_call 80; refine (jU K na _ nc _ rfl (by omega) nr).mono ?_; rintro e t2 ⟨xa, xc, rfl, xo, hbt'⟩; have hb2 := hb1.trans (hbt'.mono hb1.size); have xv := (OwnV.of_own xo hdig).low (b0.trans (hb1.mono b0.size)).size; clear hbt' hb1 xo)
    | (go_at_call 84; refine (nS w.heap.size xa _ xc (M.txt K) ex _ rfl (by omega) (by omega) xv).mono ?_; rintro e t3 ⟨rfl, rfl⟩))
 have ov := xv.bv
 rw [bd] at ov
 obtain ⟨va, vc, ev, ov2⟩ := ov
 rw [ev]
 have HV : OwnV t3 w.heap.size (.slice va ds.length vc) ds := ⟨va, vc, rfl, ov2⟩
 have HB := hid (b0.trans (hb2.mono b0.size))
 clear b0 hb2 xv ov2
 go_wp2_with fail
 exact bodyPost_ret (v := .tuple #[.slice va ds.length vc, .int .i64 xx]) (by simp [results, Tryz.results35, go_sem]) rfl ⟨va, vc, rfl, HV, HB.out⟩

theorem vI (t : M.Wd) (h : t.Ok) (r : Nat) (b : t.Best r) (a1 a2 a3 a4 a5 : Option Addr) (c1 c2 c3 c4 c5 : Nat) (w : World)
 (l1 : (L t.vn).length ≤ 1000) (l2 : (L t.vd).length ≤ 1000) (l3 : (L (t.T t.X)).length ≤ 1000) (l4 : (L t.least).length ≤ 1000) (l5 : (L t.most).length ≤ 1000) (hX1 : -10000 ≤ t.X) (hX2 : t.X ≤ 10000)
 (h1 : Rd w a1 (L t.vn)) (h2 : Rd w a2 (L t.vd)) (h3 : Rd w a3 (L (t.T t.X))) (h4 : Rd w a4 (L t.least)) (h5 : Rd w a5 (L t.most)) :
 Calls Tryz.prog 35 #[.agg #[.int .i64 t.X, .slice a1 (L t.vn).length c1, .slice a2 (L t.vd).length c2, .slice a3 (L (t.T t.X)).length c3, .slice a4 (L t.least).length c4, .slice a5 (L t.most).length c5]] w fun e w' => ∃ ra rc, e = .returned (.tuple #[.slice ra (M.sd (t.pick (t.X + r))).length rc, .int .i64 (wdX t r)]) ∧ OwnV w' w.heap.size (.slice ra (M.sd (t.pick (t.X + r))).length rc) (M.sd (t.pick (t.X + r))) ∧ Below w.heap.size w w' := by
 have hN := h.N_le
 have hr := b.lt
 have ePk := h.prog_pick r
 have pp := b.pick_pos h
 have tp := b.T_pos h
 have e0 : t.T (t.X + r) = t.T t.X / 10 ^ r := M.dP _ _ h.den_pos _ _
 rw [e0] at tp
 have tx : (M.txt (t.T t.X / 10 ^ r)).length ≤ 20000 := by
  have := M.iC 39 (t.T t.X / 10 ^ r) (Nat.lt_of_le_of_lt (Nat.div_le_self _ _) (Nat.lt_trans h.first.2.1 (by decide)))
  omega
 have kN := fun (v : World) h1 h2 h3 h4 h5 => uJ t.X t.vn t.vd (t.T t.X) t.least t.most r a1 a2 a3 a4 a5 c1 c2 c3 c4 c5 v (by omega) tp tx l1 l2 l3 l4 l5 h1 h2 h3 h4 h5
 rw [ePk] at kN
 have tb : t.pick (t.X + r) ≤ t.T t.X / 10 ^ r + 1 := by
  rw [← e0]
  unfold M.Wd.pick
  split
  · omega
  · split
    · omega
    · split <;> omega
 have tk : t.pick (t.X + r) * 10 ^ r < 10 ^ 80 := by
  have q1 : t.pick (t.X + r) ≤ 10 ^ 39 := by
   have := h.first.2.1
   have := Nat.div_le_self (t.T t.X) (10 ^ r)
   omega
  have q2 : 10 ^ r ≤ 10 ^ 39 := Nat.pow_le_pow_right (by omega) (by omega)
  have := Nat.mul_le_mul q1 q2
  have q3 : 10 ^ 39 * 10 ^ 39 < 10 ^ 80 := by decide
  omega
 have lPk : (L (t.pick (t.X + r) * 10 ^ r)).length ≤ 5 := M.len_of_lt (B := 18446744073709551616) (by omega) _ _ (Nat.lt_trans tk (by decide))
 obtain ⟨bd, be⟩ := M.A6 (t.pick (t.X + r)) pp r t.X
 have be' : M.fF (M.txt (t.pick (t.X + r) * 10 ^ r)) t.X = wdX t r := be
 clear be
 have tl2 : (M.txt (t.pick (t.X + r) * 10 ^ r)).length ≤ 80 := M.iC 79 _ tk
 exact wT t.X (wdX t r) t.vn t.vd (t.T t.X) t.least t.most (t.pick (t.X + r) * 10 ^ r) r t.N _ a1 a2 a3 a4 a5 c1 c2 c3 c4 c5 w l3 (by omega) hX1 hX2 rfl (by omega) (by omega) (by omega) (by omega) bd be' h1 h2 h3 h4 h5 (fun v hv => zO t h r b w.heap.size l3 l4 l5 v hv) kN

end Go.Proofs.YtdfljbpcjkbflaaGreatDoor
namespace Go.Proofs.YtdfljbpcjkbflaaGreatDoor
open Go.RowKit
set_option linter.unusedVariables false
set_option maxRecDepth 100000
def NR (v w' : World) (e : Ending) (t : M.Wd) : Prop :=
 ∃ a1 c1 a2 c2 a3 c3 a4 c4 a5 c5, e = .returned (.agg #[.int .i64 t.X, .slice a1 (L t.vn).length c1, .slice a2 (L t.vd).length c2, .slice a3 (L (t.T t.X)).length c3, .slice a4 (L t.least).length c4, .slice a5 (L t.most).length c5]) ∧ Rd w' a1 (L t.vn) ∧ Rd w' a2 (L t.vd) ∧ Rd w' a3 (L (t.T t.X)) ∧ Rd w' a4 (L t.least) ∧ Rd w' a5 (L t.most) ∧ Below v.heap.size v w'

theorem OwnV.far4 {w : World} {lo g : Nat} {v : Value} {xs : List Nat} (h : OwnV w lo v xs) (hg : g < lo) (a b c d : Value) : OwnV ((((w.setCell ⟨g, 0, none⟩ a).setCell ⟨g, 1, none⟩ b).setCell ⟨g, 2, none⟩ c).setCell ⟨g, 3, none⟩ d) lo v xs :=
 (((h.far ⟨g, 0, none⟩ hg a).far ⟨g, 1, none⟩ hg b).far ⟨g, 2, none⟩ hg c).far ⟨g, 3, none⟩ hg d

theorem sD {w v : World} (h : Below w.heap.size w v) {g : Nat} (hg : w.heap.size ≤ g) (a b c d : Value) : Below w.heap.size w ((((v.setCell ⟨g, 0, none⟩ a).setCell ⟨g, 1, none⟩ b).setCell ⟨g, 2, none⟩ c).setCell ⟨g, 3, none⟩ d) :=
 (((h.setCell (p := ⟨g, 0, none⟩) hg _).setCell (p := ⟨g, 1, none⟩) hg _).setCell (p := ⟨g, 2, none⟩) hg _).setCell (p := ⟨g, 3, none⟩) hg _

theorem wH (f : Int) (X : Nat) (T : M.Pt) (F : M.Fm) (t : M.Wd) (ds : List Nat) (xx : Int) (w : World) (hm : Fmt w) (hc : T.c = 2 ∨ T.c = 3)
 (kE : ∀ v : World, Fmt v → Calls Tryz.prog 18 #[.int .i64 f] v fun e w' => e = .returned (dv F) ∧ Below v.heap.size v w')
 (kK : ∀ v : World, Calls Tryz.prog 31 #[dv F] v fun e w' => e = .returned (.bool true) ∧ Below v.heap.size v w')
 (kU : ∀ v : World, Calls Tryz.prog 32 #[dv F, .agg #[.int .u64 (M.hiN X : Int), .int .u64 (M.loN X : Int)]] v fun e w' => e = .returned (pv T) ∧ Below v.heap.size v w')
 (kB : ∀ v : World, Calls Tryz.prog 34 #[dv F, pv T] v fun e w' => Iv v w' e t.lo t.hi t.den t.cl)
 (kR : ∀ (v : World) (a b c : Option Addr) (ca cb cc : Nat), Rd v a (L t.lo) → Rd v b (L t.hi) → Rd v c (L t.den) → Calls Tryz.prog 33 #[.agg #[.slice a (L t.lo).length ca, .slice b (L t.hi).length cb, .slice c (L t.den).length cc, .bool t.cl, .bool true], pv T] v fun e w' => NR v w' e t)
 (kS : ∀ (v : World) (a1 a2 a3 a4 a5 : Option Addr) (c1 c2 c3 c4 c5 : Nat), Rd v a1 (L t.vn) → Rd v a2 (L t.vd) → Rd v a3 (L (t.T t.X)) → Rd v a4 (L t.least) → Rd v a5 (L t.most) → Calls Tryz.prog 35 #[.agg #[.int .i64 t.X, .slice a1 (L t.vn).length c1, .slice a2 (L t.vd).length c2, .slice a3 (L (t.T t.X)).length c3, .slice a4 (L t.least).length c4, .slice a5 (L t.most).length c5]] v fun e w' => ∃ ra rc, e = .returned (.tuple #[.slice ra ds.length rc, .int .i64 xx]) ∧ OwnV w' v.heap.size (.slice ra ds.length rc) ds ∧ Below v.heap.size v w') :
 Calls Tryz.prog 11 #[.int .i64 f, .agg #[.int .u64 (M.hiN X : Int), .int .u64 (M.loN X : Int)]] w fun e w' => ShO w w' e ds xx T.n 0 := by
 obtain ⟨tc, tn, ts, tq⟩ := T
 simp only [dv, pv] at *
 have HC := hid hc
 clear hc
 obtain ⟨cw, cr, b0⟩ := Cls.new2 w #[.int .u64 (M.hiN X : Int), .int .u64 (M.loN X : Int)] #[.slice none 0 0, .int .i64 0, .bool false, .int .i64 0] 25 41
 go_enter Tryz.func11, Tryz.ntmps11
 go_wp2_with fail
 refine (kE _ (hm.below b0)).mono ?_
 rintro e v1 ⟨rfl, hb⟩
 replace cw := cw.below hb
 replace cr := cr.below hb
 replace b0 := b0.trans (hb.mono b0.size)
 clear hb
 go_upto_region 2 with fail
 have cd := Cls.new v1 #[.int .i64 (F.p : Int), .int .i64 (1 - (F.emax : Int)), .int .i64 (F.emax : Int), .int .i64 (F.wd : Int), .int .i64 (F.e : Int), .bool F.x] 51
 have hb : Below v1.heap.size v1 (v1.alloc (.cells #[.int .i64 (F.p : Int), .int .i64 (1 - (F.emax : Int)), .int .i64 (F.emax : Int), .int .i64 (F.wd : Int), .int .i64 (F.e : Int), .bool F.x] 51)) := (Below.refl _ _).alloc (Nat.le_refl _) _
 replace cw := cw.below hb
 replace cr := cr.below hb
 replace b0 := b0.trans (hb.mono b0.size)
 clear hb
 generalize v1.alloc (.cells #[.int .i64 (F.p : Int), .int .i64 (1 - (F.emax : Int)), .int .i64 (F.emax : Int), .int .i64 (F.wd : Int), .int .i64 (F.e : Int), .bool F.x] 51) = v2 at *
 generalize v1.heap.size = gd at *
 have d0 := cd.cell 0 rfl
 have d1 := cd.cell 1 rfl
 have d2 := cd.cell 2 rfl
 have d3 := cd.cell 3 rfl
 have d4 := cd.cell 4 rfl
 have d5 := cd.cell 5 rfl
 go_wp2_with fail
 refine (kK _).mono ?_
 rintro e v3 ⟨rfl, hb⟩
 replace cw := cw.below hb
 replace cr := cr.below hb
 replace cd := cd.below hb
 replace b0 := b0.trans (hb.mono b0.size)
 clear hb d0 d1 d2 d3 d4 d5
 have d0 := cd.cell 0 rfl
 have d1 := cd.cell 1 rfl
 have d2 := cd.cell 2 rfl
 have d3 := cd.cell 3 rfl
 have d4 := cd.cell 4 rfl
 have d5 := cd.cell 5 rfl
 have x0 := cw.cell 0 rfl
 have x1 := cw.cell 1 rfl
 go_wp2_with fail
 refine (kU _).mono ?_
 rintro e v4 ⟨rfl, hb⟩
 replace cr := cr.below hb
 replace cd := cd.below hb
 replace b0 := b0.trans (hb.mono b0.size)
 clear hb d0 d1 d2 d3 d4 d5 x0 x1
 go_upto_region 5 with fail
 have cp := Cls.new v4 #[.int .i64 tc, .bool tn, .int .u64 (M.hiN ts : Int), .int .u64 (M.loN ts : Int), .int .i64 tq] 35
 have hb : Below v4.heap.size v4 (v4.alloc (.cells #[.int .i64 tc, .bool tn, .int .u64 (M.hiN ts : Int), .int .u64 (M.loN ts : Int), .int .i64 tq] 35)) := (Below.refl _ _).alloc (Nat.le_refl _) _
 replace cr := cr.below hb
 replace cd := cd.below hb
 replace b0 := b0.trans (hb.mono b0.size)
 clear hb
 generalize v4.alloc (.cells #[.int .i64 tc, .bool tn, .int .u64 (M.hiN ts : Int), .int .u64 (M.loN ts : Int), .int .i64 tq] 35) = v5 at *
 generalize v4.heap.size = gp at *
 have p0 := cp.cell 0 rfl
 have p1 := cp.cell 1 rfl
 have p2 := cp.cell 2 rfl
 have p3 := cp.cell 3 rfl
 have p4 := cp.cell 4 rfl
 rcases HC.out with hc | hc
 all_goals (
  go_upto_region 10 with fail
  clear p0 p1 p2 p3 p4 hc HC
  have D1 : ∀ v, Below v5.heap.size v5 v → (fun v : World => v.cell? ⟨gd, 0, none⟩ = some (.int .i64 (F.p : Int)) ∧ v.cell? ⟨gd, 1, none⟩ = some (.int .i64 (1 - (F.emax : Int))) ∧ v.cell? ⟨gd, 2, none⟩ = some (.int .i64 (F.emax : Int)) ∧ v.cell? ⟨gd, 3, none⟩ = some (.int .i64 (F.wd : Int)) ∧ v.cell? ⟨gd, 4, none⟩ = some (.int .i64 (F.e : Int)) ∧ v.cell? ⟨gd, 5, none⟩ = some (.bool F.x) ∧ v.cell? ⟨gp, 0, none⟩ = some (.int .i64 tc) ∧ v.cell? ⟨gp, 1, none⟩ = some (.bool tn) ∧ v.cell? ⟨gp, 2, none⟩ = some (.int .u64 (M.hiN ts : Int)) ∧ v.cell? ⟨gp, 3, none⟩ = some (.int .u64 (M.loN ts : Int)) ∧ v.cell? ⟨gp, 4, none⟩ = some (.int .i64 tq)) v := fun v hv => ⟨(cd.below hv).cell 0 rfl, (cd.below hv).cell 1 rfl, (cd.below hv).cell 2 rfl, (cd.below hv).cell 3 rfl, (cd.below hv).cell 4 rfl, (cd.below hv).cell 5 rfl, (cp.below hv).cell 0 rfl, (cp.below hv).cell 1 rfl, (cp.below hv).cell 2 rfl, (cp.below hv).cell 3 rfl, (cp.below hv).cell 4 rfl⟩
  have hdr : Below v5.heap.size v5 v5.drew := (Below.refl _ _).drew
  have lr : w.heap.size + 1 < v5.heap.size := cr.lt
  go_region_held3 (fun v : World => v.cell? ⟨gd, 0, none⟩ = some (.int .i64 (F.p : Int)) ∧ v.cell? ⟨gd, 1, none⟩ = some (.int .i64 (1 - (F.emax : Int))) ∧ v.cell? ⟨gd, 2, none⟩ = some (.int .i64 (F.emax : Int)) ∧ v.cell? ⟨gd, 3, none⟩ = some (.int .i64 (F.wd : Int)) ∧ v.cell? ⟨gd, 4, none⟩ = some (.int .i64 (F.e : Int)) ∧ v.cell? ⟨gd, 5, none⟩ = some (.bool F.x) ∧ v.cell? ⟨gp, 0, none⟩ = some (.int .i64 tc) ∧ v.cell? ⟨gp, 1, none⟩ = some (.bool tn) ∧ v.cell? ⟨gp, 2, none⟩ = some (.int .u64 (M.hiN ts : Int)) ∧ v.cell? ⟨gp, 3, none⟩ = some (.int .u64 (M.loN ts : Int)) ∧ v.cell? ⟨gp, 4, none⟩ = some (.int .i64 tq)) (with_reducible exact D1 _ (by assumption))
   (first
     | (go_at_call 34; refine (kB _).mono ?_; rintro e t1 ⟨ia, ica, ib, icb, ic, icc, im1, im2, rfl, -, -, -, oA, oB, oC, hbt'⟩; have hb1 := hdr.trans (hbt'.mono (Nat.le_refl _)); clear hbt')
     | (go_at_call 33; refine (kR _ _ _ _ _ _ _ oA.rd oB.rd oC.rd).mono ?_; rintro e t2 ⟨n1, k1, n2, k2, n3, k3, n4, k4, n5, k5, rfl, r1, r2, r3, r4, r5, hbt'⟩; have hb2 := hb1.trans (hbt'.mono hb1.size); clear hbt' hb1 oA oB oC)
     | (go_at_call 35; refine (kS _ _ _ _ _ _ _ _ _ _ _ r1 r2 r3 r4 r5).mono ?_; rintro e t3 ⟨ra, rc, rfl, ov, hbt'⟩; have hs2 := hb2.size; have hb3 := hb2.trans (hbt'.mono hb2.size); clear hbt' hb2 r1 r2 r3 r4 r5))
  have hb := hb3
  replace cr := cr.below hb
  replace cp := cp.below hb
  replace b0 := b0.trans (hb.mono b0.size)
  replace ov := ov.low (show w.heap.size + 1 + 1 ≤ _ by omega)
  clear hb hb3
  have r0 := cr.cell 0 rfl
  have r1 := cr.cell 1 rfl
  have r2 := cr.cell 2 rfl
  have r3 := cr.cell 3 rfl
  have z0 := cr.frozen 0
  have z1 := cr.frozen 1
  have z2 := cr.frozen 2
  have z3 := cr.frozen 3
  have p0 := cp.cell 0 rfl
  have p1 := cp.cell 1 rfl
  have p2 := cp.cell 2 rfl
  have p3 := cp.cell 3 rfl
  have p4 := cp.cell 4 rfl
  go_wp2_with fail
  exact bodyPost_ret (v := .agg #[.slice ra ds.length rc, .int .i64 xx, .bool tn, .int .i64 0]) (by simp [results, Tryz.results11, go_sem, r0, r1, r2, r3]) rfl ⟨ra, rc, rfl, (ov.far4 (by omega) _ _ _ _).low (by omega), sD b0 (by omega) _ _ _ _⟩)

theorem pE (f : Int) (X : Nat) (T : M.Pt) (F : M.Fm) (w : World) (hm : Fmt w) (ng : Bool) (k : Int) (hc : (T.c = 0 ∧ ng = false ∧ k = 3) ∨ ((T.c = 1 ∨ T.c = 4 ∨ T.c = 5) ∧ ng = T.n ∧ k = 0))
 (kE : ∀ v : World, Fmt v → Calls Tryz.prog 18 #[.int .i64 f] v fun e w' => e = .returned (dv F) ∧ Below v.heap.size v w')
 (kK : ∀ v : World, Calls Tryz.prog 31 #[dv F] v fun e w' => e = .returned (.bool true) ∧ Below v.heap.size v w')
 (kU : ∀ v : World, Calls Tryz.prog 32 #[dv F, .agg #[.int .u64 (M.hiN X : Int), .int .u64 (M.loN X : Int)]] v fun e w' => e = .returned (pv T) ∧ Below v.heap.size v w') :
 Calls Tryz.prog 11 #[.int .i64 f, .agg #[.int .u64 (M.hiN X : Int), .int .u64 (M.loN X : Int)]] w fun e w' => ShO w w' e [] 0 ng k := by
 obtain ⟨tc, tn, ts, tq⟩ := T
 simp only [dv, pv] at *
 have HC := hid hc
 clear hc
 obtain ⟨cw, cr, b0⟩ := Cls.new2 w #[.int .u64 (M.hiN X : Int), .int .u64 (M.loN X : Int)] #[.slice none 0 0, .int .i64 0, .bool false, .int .i64 0] 25 41
 go_enter Tryz.func11, Tryz.ntmps11
 go_wp2_with fail
 refine (kE _ (hm.below b0)).mono ?_
 rintro e v1 ⟨rfl, hb⟩
 replace cw := cw.below hb
 replace cr := cr.below hb
 replace b0 := b0.trans (hb.mono b0.size)
 clear hb
 go_upto_region 2 with fail
 have cd := Cls.new v1 #[.int .i64 (F.p : Int), .int .i64 (1 - (F.emax : Int)), .int .i64 (F.emax : Int), .int .i64 (F.wd : Int), .int .i64 (F.e : Int), .bool F.x] 51
 have hb : Below v1.heap.size v1 (v1.alloc (.cells #[.int .i64 (F.p : Int), .int .i64 (1 - (F.emax : Int)), .int .i64 (F.emax : Int), .int .i64 (F.wd : Int), .int .i64 (F.e : Int), .bool F.x] 51)) := (Below.refl _ _).alloc (Nat.le_refl _) _
 replace cw := cw.below hb
 replace cr := cr.below hb
 replace b0 := b0.trans (hb.mono b0.size)
 clear hb
 generalize v1.alloc (.cells #[.int .i64 (F.p : Int), .int .i64 (1 - (F.emax : Int)), .int .i64 (F.emax : Int), .int .i64 (F.wd : Int), .int .i64 (F.e : Int), .bool F.x] 51) = v2 at *
 generalize v1.heap.size = gd at *
 have d0 := cd.cell 0 rfl
 have d1 := cd.cell 1 rfl
 have d2 := cd.cell 2 rfl
 have d3 := cd.cell 3 rfl
 have d4 := cd.cell 4 rfl
 have d5 := cd.cell 5 rfl
 go_wp2_with fail
 refine (kK _).mono ?_
 rintro e v3 ⟨rfl, hb⟩
 replace cw := cw.below hb
 replace cr := cr.below hb
 replace cd := cd.below hb
 replace b0 := b0.trans (hb.mono b0.size)
 clear hb d0 d1 d2 d3 d4 d5
 have d0 := cd.cell 0 rfl
 have d1 := cd.cell 1 rfl
 have d2 := cd.cell 2 rfl
 have d3 := cd.cell 3 rfl
 have d4 := cd.cell 4 rfl
 have d5 := cd.cell 5 rfl
 have x0 := cw.cell 0 rfl
 have x1 := cw.cell 1 rfl
 go_wp2_with fail
 refine (kU _).mono ?_
 rintro e v4 ⟨rfl, hb⟩
 replace cr := cr.below hb
 replace cd := cd.below hb
 replace b0 := b0.trans (hb.mono b0.size)
 clear hb d0 d1 d2 d3 d4 d5 x0 x1
 go_upto_region 5 with fail
 have cp := Cls.new v4 #[.int .i64 tc, .bool tn, .int .u64 (M.hiN ts : Int), .int .u64 (M.loN ts : Int), .int .i64 tq] 35
 have hb : Below v4.heap.size v4 (v4.alloc (.cells #[.int .i64 tc, .bool tn, .int .u64 (M.hiN ts : Int), .int .u64 (M.loN ts : Int), .int .i64 tq] 35)) := (Below.refl _ _).alloc (Nat.le_refl _) _
 replace cr := cr.below hb
 replace cd := cd.below hb
 replace b0 := b0.trans (hb.mono b0.size)
 clear hb
 generalize v4.alloc (.cells #[.int .i64 tc, .bool tn, .int .u64 (M.hiN ts : Int), .int .u64 (M.loN ts : Int), .int .i64 tq] 35) = v5 at *
 generalize v4.heap.size = gp at *
 have p0 := cp.cell 0 rfl
 have p1 := cp.cell 1 rfl
 have p2 := cp.cell 2 rfl
 have p3 := cp.cell 3 rfl
 have p4 := cp.cell 4 rfl
 have r0 := cr.cell 0 rfl
 have r1 := cr.cell 1 rfl
 have r2 := cr.cell 2 rfl
 have r3 := cr.cell 3 rfl
 have z0 := cr.frozen 0
 have z1 := cr.frozen 1
 have z2 := cr.frozen 2
 have z3 := cr.frozen 3
 have lr : w.heap.size + 1 < v5.heap.size := cr.lt
 rcases HC.out with ⟨hc, rfl, rfl⟩ | ⟨hc | hc | hc, rfl, rfl⟩
 all_goals (
  clear HC
  go_wp2_with fail
  exact bodyPost_ret (v := .agg #[.slice none 0 0, .int .i64 0, .bool _, .int .i64 _]) (by simp [results, Tryz.results11, go_sem, r0, r1, r2, r3]) rfl ⟨none, 0, rfl, OwnV.nil _ _, sD b0 (by omega) _ _ _ _⟩)

theorem AT (f : Int) (hf : f < 0 ∨ 4 ≤ f) (X : Nat) (w : World) (hm : Fmt w) :
 Calls Tryz.prog 11 #[.int .i64 f, .agg #[.int .u64 (M.hiN X : Int), .int .u64 (M.loN X : Int)]] w fun e w' => ShO w w' e [] 0 false 4 := by
 have kE : ∀ v : World, Fmt v → Calls Tryz.prog 18 #[.int .i64 f] v fun e w' => e = .returned (.agg #[.int .i64 0, .int .i64 0, .int .i64 0, .int .i64 0, .int .i64 0, .bool false]) ∧ Below v.heap.size v w' := fun v _ => wF f v hf
 have kK := fun v : World => F2 v
 obtain ⟨cw, cr, b0⟩ := Cls.new2 w #[.int .u64 (M.hiN X : Int), .int .u64 (M.loN X : Int)] #[.slice none 0 0, .int .i64 0, .bool false, .int .i64 0] 25 41
 go_enter Tryz.func11, Tryz.ntmps11
 go_wp2_with fail
 refine (kE _ (hm.below b0)).mono ?_
 rintro e v1 ⟨rfl, hb⟩
 replace cw := cw.below hb
 replace cr := cr.below hb
 replace b0 := b0.trans (hb.mono b0.size)
 clear hb
 go_upto_region 2 with fail
 have cd := Cls.new v1 #[.int .i64 0, .int .i64 0, .int .i64 0, .int .i64 0, .int .i64 0, .bool false] 51
 have hb : Below v1.heap.size v1 (v1.alloc (.cells #[.int .i64 0, .int .i64 0, .int .i64 0, .int .i64 0, .int .i64 0, .bool false] 51)) := (Below.refl _ _).alloc (Nat.le_refl _) _
 replace cw := cw.below hb
 replace cr := cr.below hb
 replace b0 := b0.trans (hb.mono b0.size)
 clear hb
 generalize v1.alloc (.cells #[.int .i64 0, .int .i64 0, .int .i64 0, .int .i64 0, .int .i64 0, .bool false] 51) = v2 at *
 generalize v1.heap.size = gd at *
 have d0 := cd.cell 0 rfl
 have d1 := cd.cell 1 rfl
 have d2 := cd.cell 2 rfl
 have d3 := cd.cell 3 rfl
 have d4 := cd.cell 4 rfl
 have d5 := cd.cell 5 rfl
 go_wp2_with fail
 refine (kK _).mono ?_
 rintro e v3 ⟨rfl, hb⟩
 replace cw := cw.below hb
 replace cr := cr.below hb
 replace cd := cd.below hb
 replace b0 := b0.trans (hb.mono b0.size)
 clear hb d0 d1 d2 d3 d4 d5
 have r0 := cr.cell 0 rfl
 have r1 := cr.cell 1 rfl
 have r2 := cr.cell 2 rfl
 have r3 := cr.cell 3 rfl
 have z0 := cr.frozen 0
 have z1 := cr.frozen 1
 have z2 := cr.frozen 2
 have z3 := cr.frozen 3
 have lr : w.heap.size + 1 < v3.heap.size := cr.lt
 go_wp2_with fail
 exact bodyPost_ret (v := .agg #[.slice none 0 0, .int .i64 0, .bool false, .int .i64 4]) (by simp [results, Tryz.results11, go_sem, r0, r1, r2, r3]) rfl ⟨none, 0, rfl, OwnV.nil _ _, sD b0 (by omega) _ _ _ _⟩

theorem KL (X : Int) (w : World) (h1 : -19000 ≤ X) (h2 : X ≤ 19000) :
 Calls Tryz.prog 54 #[.int .i64 (-X)] w fun e w' => RR w w' e (10 ^ (-X).toNat) (10 ^ X.toNat) := by
 rcases Int.le_total 0 X with h | h
 · obtain ⟨k, rfl⟩ := Int.eq_ofNat_of_zero_le h
   have e1 : (-(k : Int)).toNat = 0 := by omega
   have e2 : ((k : Int)).toNat = k := by omega
   rw [e1, e2, Nat.pow_zero]
   exact lX k w (by omega)
 · obtain ⟨k, hk⟩ := Int.eq_ofNat_of_zero_le (show 0 ≤ -X by omega)
   have e0 : X = -(k : Int) := by omega
   subst e0
   have e1 : (-(-(k : Int))).toNat = k := by omega
   have e2 : (-(k : Int)).toNat = 0 := by omega
   rw [e1, e2, Nat.pow_zero, show -(-(k : Int)) = (k : Int) by omega]
   exact j7 k w (by omega)

theorem KJ (q : Int) (s : Nat) (w : World) (x y : Option Addr) (d e : Nat) (h1 : -19000 ≤ q) (h2 : q ≤ 19000) (hs : s < 2 ^ 128) (hx : Rd w x (L s)) (hy : Rd w y (L 1)) :
 Calls Tryz.prog 73 #[.agg #[.slice x (L s).length d, .slice y 1 e], .int .i64 q] w fun e w' => RR w w' e (s * 2 ^ q.toNat) (2 ^ (-q).toNat) := by
 have lO : (L 1).length = 1 := by rw [iP]; rfl
 have ls : (L s).length ≤ 2 := lH s 128 2 hs (by omega)
 rcases Int.le_total 0 q with h | h
 · obtain ⟨k, rfl⟩ := Int.eq_ofNat_of_zero_le h
   have e1 : (-(k : Int)).toNat = 0 := by omega
   have e2 : ((k : Int)).toNat = k := by omega
   rw [e1, e2]
   have := qY x y d e _ _ s 1 k w rfl lO (by omega) (by omega) (by omega) hx hy
   rwa [Nat.one_mul] at this
 · obtain ⟨k, hk⟩ := Int.eq_ofNat_of_zero_le (show 0 ≤ -q by omega)
   have e0 : q = -(k : Int) := by omega
   subst e0
   have e1 : (-(-(k : Int))).toNat = k := by omega
   have e2 : (-(k : Int)).toNat = 0 := by omega
   rw [e1, e2]
   have := rK x y d e _ _ s 1 k w rfl lO (by omega) (by omega) (by omega) hx hy
   rwa [Nat.one_mul] at this

theorem yC (m : Nat) (h : m ≤ 7100) : (L (10 ^ m)).length ≤ 450 := by
 refine lH (10 ^ m) (4 * m + 1) 450 ?_ (by omega)
 have := fR 10 m
 rw [nZ] at this
 exact Nat.lt_of_le_of_lt this (Nat.pow_lt_pow_right (by omega) (by omega))

theorem xH (f : Nat) (hf : f < 4) (X : Nat) (hX : X < 2 ^ 128) (w : World) (hm : Fmt w) (T : M.Pt) (hT : T = (M.fm f).upk X) (hc : T.c = 2 ∨ T.c = 3) (t : M.Wd) (ht : t = CQ (M.fm f) T) (r : Nat) (b : t.Best r) :
 Calls Tryz.prog 11 #[.int .i64 (f : Int), .agg #[.int .u64 (M.hiN X : Int), .int .u64 (M.loN X : Int)]] w fun e w' => ShO w w' e (M.sd (t.pick (t.X + r))) (wdX t r) T.n 0 := by
 have h := M.nD f
 have hp := h.upk_proper X
 have kU := fun v : World => jS (M.fm f) h X hX v
 rw [← hT] at kU hp
 have hpr : (M.fm f).Proper T := by
  rcases hp with hp | hp
  · rw [hp] at hc; simp at hc
  · exact hp
 have hfi := vM h hpr hc
 have hok := sP h hfi
 rw [← ht] at hok
 have kE := fun (v : World) (hv : Fmt v) => gB f hf v hv
 have kK := fun v : World => sN (M.fm f) h v
 have kB := fun v : World => GM (M.fm f) h T hfi v
 have eA : bA (M.fm f) T = t.lo := by rw [ht]; rfl
 have eB : bB T = t.hi := by rw [ht]; rfl
 have eC : bC T = t.den := by rw [ht]; rfl
 have eK : decide (T.s % 2 = 0) = t.cl := by rw [ht]; rfl
 have es : T.s = t.s := by rw [ht]; rfl
 have eq' : T.q = t.q := by rw [ht]; rfl
 rw [eA, eB, eC, eK] at kB
 obtain ⟨s1, s2, q1, q2, q3, q4, s3, s4⟩ := hfi
 obtain ⟨-, -, x1, x2⟩ := hok.e_le
 have lsL : ∀ x : Nat, x < 2 ^ 128 → ∀ u : Nat, u ≤ 17000 → (L (x * 2 ^ u)).length ≤ 300 := fun x hx u hu => lH _ (128 + u) 300 (nY hx) (by omega)
 have lt2 : ∀ u : Nat, u ≤ 17000 → (L (2 ^ u)).length ≤ 300 := fun u hu => by have := lsL 1 (by omega) u hu; rwa [Nat.one_mul] at this
 have lA : (L t.lo).length ≤ 300 := lsL t.l (by have := hok.l1; omega) _ (by omega)
 have lB : (L t.hi).length ≤ 300 := lsL (4 * t.s + 2) (by omega) _ (by omega)
 have lC : (L t.den).length ≤ 300 := lt2 _ (by omega)
 have lN2 : (L (T.s * 2 ^ T.q.toNat)).length ≤ 300 := lsL _ (by omega) _ (by omega)
 have lD2 : (L (2 ^ (-T.q).toNat)).length ≤ 300 := lt2 _ (by omega)
 have lP : (L (10 ^ (-t.X).toNat)).length ≤ 450 := yC _ (by omega)
 have lQ : (L (10 ^ t.X.toNat)).length ≤ 450 := yC _ (by omega)
 have pow2 : ∀ u : Nat, 0 < 2 ^ u := fun u => Nat.pow_pos (by omega)
 have pow10 : ∀ u : Nat, 0 < 10 ^ u := fun u => Nat.pow_pos (by omega)
 have pB : t.cl = false → 1 ≤ t.hi * 10 ^ (-t.X).toNat / (t.den * 10 ^ t.X.toNat) := fun _ => by
  have g1 := hok.first.1
  have g2 := M.DZ hok.mid_hi t.X
  exact Nat.le_trans g1 (Nat.div_le_div_right (Nat.le_of_lt g2))
 have e1 : T.s * 2 ^ T.q.toNat * 10 ^ (-t.X).toNat = t.vn := by rw [es, eq']; rfl
 have e2 : 2 ^ (-T.q).toNat * 10 ^ t.X.toNat = t.vd := by rw [eq']; rfl
 have e3 : (if t.lo * 10 ^ (-t.X).toNat % (t.den * 10 ^ t.X.toNat) ≠ 0 ∨ t.cl = false then t.lo * 10 ^ (-t.X).toNat / (t.den * 10 ^ t.X.toNat) + 1 else t.lo * 10 ^ (-t.X).toNat / (t.den * 10 ^ t.X.toNat)) = t.least := rfl
 have e4 : (if t.hi * 10 ^ (-t.X).toNat % (t.den * 10 ^ t.X.toNat) = 0 ∧ t.cl = false then t.hi * 10 ^ (-t.X).toNat / (t.den * 10 ^ t.X.toNat) - 1 else t.hi * 10 ^ (-t.X).toNat / (t.den * 10 ^ t.X.toNat)) = t.most := rfl
 have kR : ∀ (v : World) (a b c : Option Addr) (ca cb cc : Nat), Rd v a (L t.lo) → Rd v b (L t.hi) → Rd v c (L t.den) → Calls Tryz.prog 33 #[.agg #[.slice a (L t.lo).length ca, .slice b (L t.hi).length cb, .slice c (L t.den).length cc, .bool t.cl, .bool true], pv T] v fun e w' => NR v w' e t := fun v a b c ca cb cc ra rb rc => by
  have := r9 a b c ca cb cc t.lo t.hi t.den t.cl T.n T.c T.q t.X T.s (T.s * 2 ^ T.q.toNat) (2 ^ (-T.q).toNat) (10 ^ (-t.X).toNat) (10 ^ t.X.toNat) v (by omega) (by omega) (by omega) (by omega) (by omega) (by omega) (by omega) (by omega) (by omega) (by omega) (pow2 _) (pow10 _) (pow2 _) pB (by rw [eq']) ra rb rc (fun v => KL t.X v (by omega) (by omega)) (fun v x y d e hx hy => KJ T.q T.s v x y d e (by omega) (by omega) (by omega) hx hy)
  rw [e1, e2, hok.whole, e3, e4] at this
  exact this
 have lvn : (L t.vn).length ≤ 1000 := by rw [← e1]; exact Nat.le_trans (fD _ _ 300 450 lN2 lP) (by omega)
 have lvd : (L t.vd).length ≤ 1000 := by rw [← e2]; exact Nat.le_trans (fD _ _ 300 450 lD2 lQ) (by omega)
 have lT : (L (t.T t.X)).length ≤ 1000 := by rw [← hok.whole]; exact Nat.le_trans (dB (Nat.div_le_self _ _)) lvn
 have l1 : (L 1).length = 1 := by rw [iP]; rfl
 have lle : (L t.least).length ≤ 1000 := by
  have k1 := fD _ _ 300 450 lA lP
  have k2 := kZ _ 1 750 k1 (by omega)
  refine Nat.le_trans (dB (b := t.lo * 10 ^ (-t.X).toNat + 1) ?_) (by omega)
  rw [← e3]
  have := Nat.div_le_self (t.lo * 10 ^ (-t.X).toNat) (t.den * 10 ^ t.X.toNat)
  split <;> omega
 have lmo : (L t.most).length ≤ 1000 := by
  have k1 := fD _ _ 300 450 lB lP
  refine Nat.le_trans (dB (b := t.hi * 10 ^ (-t.X).toNat) ?_) (by omega)
  rw [← e4]
  have := Nat.div_le_self (t.hi * 10 ^ (-t.X).toNat) (t.den * 10 ^ t.X.toNat)
  split <;> omega
 have kS := fun (v : World) (a1 a2 a3 a4 a5 : Option Addr) (c1 c2 c3 c4 c5 : Nat) h1 h2 h3 h4 h5 => vI t hok r b a1 a2 a3 a4 a5 c1 c2 c3 c4 c5 v lvn lvd lT lle lmo (by omega) (by omega) h1 h2 h3 h4 h5
 exact wH (f : Int) X T (M.fm f) t _ _ w hm hc kE kK kU kB kR kS

theorem cF (a b K J : Nat) (h1 : (D a).length ≤ K) (h2 : (D b).length ≤ J) : (D (a * b)).length ≤ K + J := by
 refine M.len_of_lt (B := 4294967296) (by omega) _ _ ?_
 rw [Nat.pow_add]
 exact Nat.mul_lt_mul'' (oX a K h1) (oX b J h2)

theorem zP (m den : Nat) (y : Int) (a b : Option Addr) (c d : Nat) (w : World) (h1 : -9000 ≤ y) (h2 : y ≤ 9000) (lm : (D m).length ≤ 20000) (ld : (D den).length ≤ 20000) (ra : Rd w a (D m)) (rb : Rd w b (D den)) :
 Calls Tryz.prog 40 #[.slice a (D m).length c, .slice b (D den).length d, .int .i64 y] w fun e w' => e = .returned (.bool (decide (M.un m y < M.ud den y))) ∧ Below w.heap.size w w' := by
 unfold M.un M.ud
 by_cases hy : 0 ≤ y
 · obtain ⟨k, rfl⟩ := Int.eq_ofNat_of_zero_le hy
   have e0 : (-(k : Int)).toNat = 0 := by omega
   have e1 : ((k : Int)).toNat = k := by omega
   rw [e0, e1, Nat.pow_zero, Nat.mul_one]
   have lt : (D (10 ^ k)).length ≤ 2401 := i6 10 k (dU k (by omega))
   have lp := cF den (10 ^ k) 20000 2401 ld lt
   obtain ⟨P, hP⟩ : ∃ P, P = den * 10 ^ k := ⟨_, rfl⟩
   have kM := fun (v : World) (x : Option Addr) (cx : Nat) hr hr2 => cX b x _ _ d cx den (10 ^ k) v rfl rfl (by omega) (by omega) hr hr2
   rw [← hP] at kM lp ⊢
   clear hP e0 e1
   have kc := nQ (x := m) (y := P)
   go_enter Tryz.func40, Tryz.ntmps40
   go_wp2_with fail
   refine (gM k _ (by omega)).mono ?_
   rintro e v1 ⟨ta, tc, rfl, ot, hb⟩
   go_wp2_with fail
   refine (kM _ _ _ (rb.below hb) (Rd.own ot)).mono ?_
   rintro e v2 ⟨pa, pc, rfl, po, hb2⟩
   have b0 := hb.trans (hb2.mono hb.size)
   clear ot hb hb2 kM
   go_wp2_with fail
   refine (eZ a pa _ _ c pc m P _ rfl rfl (by omega) (by omega) (ra.below b0) (Rd.own po)).mono ?_
   rintro e v3 ⟨rfl, rfl⟩
   have HB := hid b0; clear b0
   go_wp2_with fail
   go_ret
   exact ⟨by simp, HB.out⟩
 · obtain ⟨k, hk⟩ := Int.eq_ofNat_of_zero_le (show 0 ≤ -y by omega)
   have ey : y = -(k : Int) := by omega
   subst ey
   have hy' : ¬ (0 : Int) ≤ -(k : Int) := hy
   have e0 : (-(-(k : Int))).toNat = k := by omega
   have e1 : (-(k : Int)).toNat = 0 := by omega
   rw [e0, e1, Nat.pow_zero, Nat.mul_one]
   have lt : (D (10 ^ k)).length ≤ 2401 := i6 10 k (dU k (by omega))
   have lp := cF m (10 ^ k) 20000 2401 lm lt
   obtain ⟨P, hP⟩ : ∃ P, P = m * 10 ^ k := ⟨_, rfl⟩
   have kM := fun (v : World) (x : Option Addr) (cx : Nat) hr hr2 => cX a x _ _ c cx m (10 ^ k) v rfl rfl (by omega) (by omega) hr hr2
   rw [← hP] at kM lp ⊢
   clear hP e0 e1 hk
   have kc := nQ (x := P) (y := den)
   have e2 : -(-(k : Int)) = (k : Int) := by omega
   go_enter Tryz.func40, Tryz.ntmps40
   go_wp2_with fail
   refine (gM k _ (by omega)).mono ?_
   rintro e v1 ⟨ta, tc, rfl, ot, hb⟩
   go_wp2_with fail
   refine (kM _ _ _ (ra.below hb) (Rd.own ot)).mono ?_
   rintro e v2 ⟨pa, pc, rfl, po, hb2⟩
   have b0 := hb.trans (hb2.mono hb.size)
   clear ot hb hb2 kM
   go_wp2_with fail
   refine (eZ pa b _ _ pc d P den _ rfl rfl (by omega) (by omega) (Rd.own po) (rb.below b0)).mono ?_
   rintro e v3 ⟨rfl, rfl⟩
   have HB := hid b0; clear b0
   go_wp2_with fail
   go_ret
   exact ⟨by simp, HB.out⟩

theorem iF (N u x den : Nat) (up : Bool) (a b c d : Option Addr) (ca cb cc cd : Nat) (w : World) (lN : (D N).length ≤ 20000) (lu : (D u).length ≤ 20000) (lx : (D x).length ≤ 20000) (ld : (D den).length ≤ 20000)
 (ra : Rd w a (D N)) (rb : Rd w b (D u)) (rc : Rd w c (D x)) (rd : Rd w d (D den)) :
 Calls Tryz.prog 46 #[.slice a (D N).length ca, .slice b (D u).length cb, .bool up, .slice c (D x).length cc, .slice d (D den).length cd] w fun e w' => e = .returned (.int .i64 (aR ((N * (if up then u else den) : Nat) : Int) (x : Int))) ∧ Below w.heap.size w w' := by
 cases up
 · simp only [Bool.false_eq_true, if_false]
   have lp := cF N den 20000 20000 lN ld
   obtain ⟨P, hP⟩ : ∃ P, P = N * den := ⟨_, rfl⟩
   have kM := fun (v : World) hr hr2 => cX a d _ _ ca cd N den v rfl rfl (by omega) (by omega) hr hr2
   rw [← hP] at kM lp ⊢
   clear hP
   go_enter Tryz.func46, Tryz.ntmps46
   go_wp2_with fail
   refine (kM _ ra rd).mono ?_
   rintro e v1 ⟨pa, pc, rfl, po, hb⟩
   go_wp2_with fail
   refine (eZ pa c _ _ pc cc P x _ rfl rfl (by omega) (by omega) (Rd.own po) (rc.below hb)).mono ?_
   rintro e v2 ⟨rfl, rfl⟩
   have HB := hid hb; clear hb
   go_wp2_with fail
   go_ret
   exact ⟨rfl, HB.out⟩
 · simp only [if_true]
   have lp := cF N u 20000 20000 lN lu
   obtain ⟨P, hP⟩ : ∃ P, P = N * u := ⟨_, rfl⟩
   have kM := fun (v : World) hr hr2 => cX a b _ _ ca cb N u v rfl rfl (by omega) (by omega) hr hr2
   rw [← hP] at kM lp ⊢
   clear hP
   go_enter Tryz.func46, Tryz.ntmps46
   go_wp2_with fail
   refine (kM _ ra rb).mono ?_
   rintro e v1 ⟨pa, pc, rfl, po, hb⟩
   go_wp2_with fail
   refine (eZ pa c _ _ pc cc P x _ rfl rfl (by omega) (by omega) (Rd.own po) (rc.below hb)).mono ?_
   rintro e v2 ⟨rfl, rfl⟩
   have HB := hid hb; clear hb
   go_wp2_with fail
   go_ret
   exact ⟨rfl, HB.out⟩

def wIn (P lo hi : Nat) (cl : Bool) : Bool := (if cl then decide (lo ≤ P) else decide (lo < P)) && (if cl then decide (P ≤ hi) else decide (P < hi))

theorem KA (x y : Nat) : aR (x : Int) (y : Int) = if x < y then -1 else if x = y then 0 else 1 := by
 unfold aR
 by_cases x1 : x < y
 · rw [if_pos (by omega), if_pos x1]
 · rw [if_neg (by omega), if_neg x1]
   by_cases x2 : x = y
   · rw [if_neg (by omega), if_pos x2]
   · rw [if_pos (by omega), if_neg x2]

theorem l9 (N u lo hi den : Nat) (up cl : Bool) (a b c d e : Option Addr) (ca cb cc cd ce : Nat) (w : World) (lN : (D N).length ≤ 20000) (lu : (D u).length ≤ 20000) (ll : (D lo).length ≤ 20000) (lh : (D hi).length ≤ 20000) (ld : (D den).length ≤ 20000)
 (ra : Rd w a (D N)) (rb : Rd w b (D u)) (rc : Rd w c (D lo)) (rd : Rd w d (D hi)) (re : Rd w e (D den)) :
 Calls Tryz.prog 45 #[.slice a (D N).length ca, .slice b (D u).length cb, .bool up, .slice c (D lo).length cc, .slice d (D hi).length cd, .slice e (D den).length ce, .bool cl] w fun r w' => r = .returned (.bool (wIn (N * (if up then u else den)) lo hi cl)) ∧ Below w.heap.size w w' := by
 have k1 := fun (v : World) h1 h2 h3 h4 => iF N u lo den up a b c e ca cb cc ce v lN lu ll ld h1 h2 h3 h4
 have k2 := fun (v : World) h1 h2 h3 h4 => iF N u hi den up a b d e ca cb cd ce v lN lu lh ld h1 h2 h3 h4
 obtain ⟨P, hP⟩ : ∃ P, P = N * (if up then u else den) := ⟨_, rfl⟩
 rw [← hP] at k1 k2 ⊢
 clear hP
 obtain ⟨R, hR⟩ : ∃ R, R = wIn P lo hi cl := ⟨_, rfl⟩
 rw [← hR]
 have HR := hid hR; clear hR
 have tri : ∀ y : Nat, ∃ z : Int, aR (P : Int) (y : Int) = z ∧ ((z = -1 ∧ P < y) ∨ (z = 0 ∧ P = y) ∨ (z = 1 ∧ y < P)) := fun y => by
  refine ⟨_, rfl, ?_⟩
  rw [KA]
  rcases Nat.lt_trichotomy P y with x | x | x
  · rw [if_pos x]; exact .inl ⟨rfl, x⟩
  · rw [if_neg (by omega), if_pos x]; exact .inr (.inl ⟨rfl, x⟩)
  · rw [if_neg (by omega), if_neg (by omega)]; exact .inr (.inr ⟨rfl, x⟩)
 obtain ⟨z1, e1, y1⟩ := tri lo
 obtain ⟨z2, e2, y2⟩ := tri hi
 rw [e1] at k1
 rw [e2] at k2
 clear e1 e2 tri
 rcases y1 with ⟨rfl, x1⟩ | ⟨rfl, x1⟩ | ⟨rfl, x1⟩
 all_goals rcases y2 with ⟨rfl, x2⟩ | ⟨rfl, x2⟩ | ⟨rfl, x2⟩
 all_goals cases cl
 all_goals (
  go_enter Tryz.func45, Tryz.ntmps45
  go_wp2_with fail
  refine (k1 _ ra rb rc re).mono ?_
  rintro r v1 ⟨rfl, hb⟩
  go_wp2_with fail
  refine (k2 _ (ra.below hb) (rb.below hb) (rd.below hb) (re.below hb)).mono ?_
  rintro r v2 ⟨rfl, hb2⟩
  have HB := hid (hb.trans (hb2.mono hb.size))
  clear hb hb2 k1 k2
  go_wp2_with fail
  go_ret
  refine ⟨?_, HB.out⟩
  rw [HR.out]
  unfold wIn
  simp
  try omega)

theorem vR (a b c d e : Int) (x : Bool) (v : World) : Sem.run Tryz.prog (Instr.field 51 (.agg #[.int .i64 a, .int .i64 b, .int .i64 c, .int .i64 d, .int .i64 e, .bool x]) 0) v = .ok (.int .i64 a) v := by kernel_rfl

theorem mV (a b K : Nat) (h1 : (D a).length ≤ K) (h2 : (D b).length ≤ K) : (D (a + b)).length ≤ K + 1 := by
 refine M.len_of_lt (B := 4294967296) (by omega) _ _ ?_
 have x1 := oX a K h1
 have x2 := oX b K h2
 rw [Nat.pow_succ]
 omega

theorem lZ (m : Nat) : 10 ^ m < 2 ^ (4 * m + 1) := by
 have := fR 10 m
 rw [nZ] at this
 exact Nat.lt_of_le_of_lt this (Nat.pow_lt_pow_right (by omega) (by omega))

theorem M.uB_le (m : Int) (h1 : -20000 ≤ m) (h2 : m ≤ 20000) : -8000 ≤ (m * 30103).tdiv 100000 ∧ (m * 30103).tdiv 100000 ≤ 8000 := by
 obtain ⟨a, b⟩ := x8 m h1 h2
 unfold M.uB at a b
 omega

theorem BY {ops : Array Oper} {o : Oper} {a : Act} {K : Act → World → Prop} {Q : Exit → Act → World → Prop} {E : Prop} (hgd : o.guard = none) (s x : Operand)
 (ho : o.op = .call { callee := .builtin .append, args := #[s, x], argTypes := #[22, 22] }) (w : World) (hs : a.eval s = .slice none 0 0) (ad : Addr) (m c : Nat) (ys : List Nat) (hx : a.eval x = .slice (some ad) m c) (hl : ys.length = m) (hm : 0 < m) (hm2 : m ≤ 1000000) (hr : RdB w (some ad) ys)
 (h : ∀ g cap w', w'.ownsRow w.heap.size 5 1 (.slice (some ⟨g, 0, none⟩) m cap) m (UB ys) → Below w.heap.size w w' → K (a.put o.dst (.slice (some ⟨g, 0, none⟩) m cap)) w') :
 if Region.wanted o (yielded ops a.tmps) = true then Oper.wp Tryz.prog o a w K Q else E := by
 obtain ⟨i0, hi, hz0, hz1, hz2⟩ := info_parts Tryz.infoY
 refine step_append_lies w hgd s x 22 ho w.heap.size 5 i0 (.int .u8 0) 1 1 Tryz.underlying22 hi hz0 hz1 hz2 rfl (by decide) (.slice none 0 0) 0 [] hs (World.ownsRow_nil _ _ _ _) ad m c (UB ys) hx (by rw [aU, hl, Nat.mul_one]) ?_ (jT _) hm (by unfold maxLen; omega) (by omega) (Nat.le_refl _) w.heap.size rfl ?_
 · intro j u hj
   have hjl : j < ys.length := by
    rcases Nat.lt_or_ge j ys.length with k | k
    · exact k
    · rw [List.getElem?_eq_none (by rw [aU]; exact k)] at hj; cases hj
   obtain ⟨b, off, e2, hc⟩ := hr.2 (by omega)
   cases e2
   rw [gV ys j hjl] at hj
   cases hj
   rw [Addr.add_lit]
   exact hc j hjl
 · intro g cap w' h1 h2 _ _
   rw [Nat.zero_add, List.nil_append] at h1
   rw [Nat.zero_add]
   exact h g cap w' h1 ((Below.refl _ _).grown h2 (Nat.le_refl _) (fun j e => by cases e))

theorem IJ {w : World} {B n c : Nat} {a : Option Addr} {bs : List Nat} (h : w.ownsRow B 5 1 (.slice a n c) n (UB bs)) (hl : bs.length = n) (hb : ∀ x ∈ bs, x < 256) : OwnV w B (.slice a bs.length c) bs := by
 subst hl
 exact OwnV.of_own h hb

theorem KW {v : World} {g b o : Nat} {x y z u : Value} (h : b ≠ g) : ((((v.setCell ⟨g, 0, none⟩ x).setCell ⟨g, 1, none⟩ y).setCell ⟨g, 2, none⟩ z).setCell ⟨g, 3, none⟩ u).cell? ⟨b, o, none⟩ = v.cell? ⟨b, o, none⟩ :=
 World.cell?_of_block (w := v) (a := ⟨b, o, none⟩) ((((Below.heap_setCell _ _ _ _ h).trans (Below.heap_setCell _ _ _ _ h)).trans (Below.heap_setCell _ _ _ _ h)).trans (Below.heap_setCell _ _ _ _ h))

theorem OwnV.far4y {w : World} {lo g : Nat} {v : Value} {xs : List Nat} (h : OwnV w lo v xs) (hg : g < lo) (a b c d : Value) : OwnV ((((w.setCell ⟨g, 0, none⟩ a).setCell ⟨g, 1, none⟩ b).setCell ⟨g, 2, none⟩ c).setCell ⟨g, 3, none⟩ d) lo v xs :=
 (((h.far ⟨g, 0, none⟩ hg a).far ⟨g, 1, none⟩ hg b).far ⟨g, 2, none⟩ hg c).far ⟨g, 3, none⟩ hg d

theorem yP {w v : World} (h : Below w.heap.size w v) {g : Nat} (hg : w.heap.size ≤ g) (a b c d : Value) : Below w.heap.size w ((((v.setCell ⟨g, 0, none⟩ a).setCell ⟨g, 1, none⟩ b).setCell ⟨g, 2, none⟩ c).setCell ⟨g, 3, none⟩ d) :=
 (((h.setCell (p := ⟨g, 0, none⟩) hg _).setCell (p := ⟨g, 1, none⟩) hg _).setCell (p := ⟨g, 2, none⟩) hg _).setCell (p := ⟨g, 3, none⟩) hg _

theorem zC {w v : World} (h : Below w.heap.size w v) {g : Nat} (hg : w.heap.size ≤ g) (a b c d : Value) : Below w.heap.size w ((((v.setCell ⟨g, 0, none⟩ a).setCell ⟨g, 1, none⟩ b).setCell ⟨g, 2, none⟩ c).setCell ⟨g, 3, none⟩ d) :=
 (((h.setCell (p := ⟨g, 0, none⟩) hg _).setCell (p := ⟨g, 1, none⟩) hg _).setCell (p := ⟨g, 2, none⟩) hg _).setCell (p := ⟨g, 3, none⟩) hg _

theorem o8 (f : Int) (X : Nat) (T : M.Pt) (F : M.Fm) (w : World) (hp0 : F.p ≠ 0) (ng : Bool) (k : Int) (hc : (T.c = 0 ∧ ng = false ∧ k = 3) ∨ ((T.c = 1 ∨ T.c = 4 ∨ T.c = 5) ∧ ng = T.n ∧ k = 0))
 (kE : ∀ v : World, Calls Tryz.prog 19 #[.int .i64 f] v fun e w' => e = .returned (dv F) ∧ Below v.heap.size v w')
 (kU : ∀ v : World, Calls Tryz.prog 8 #[.int .i64 f, .agg #[.int .u64 (M.hiN X : Int), .int .u64 (M.loN X : Int)]] v fun e w' => e = .returned (pv T) ∧ Below v.heap.size v w') :
 Calls Tryz.prog 14 #[.int .i64 f, .agg #[.int .u64 (M.hiN X : Int), .int .u64 (M.loN X : Int)]] w fun e w' => ShR w w' e [] 0 ng k := by
 obtain ⟨tc, tn, ts, tq⟩ := T
 simp only [dv, pv] at *
 have hp1 : ¬ (F.p : Int) = 0 := by omega
 have HC := hid hc
 clear hc
 have fd := vR
 obtain ⟨cw, cr, b0⟩ := Cls.new2 w #[.int .u64 (M.hiN X : Int), .int .u64 (M.loN X : Int)] #[.slice none 0 0, .int .i64 0, .bool false, .int .i64 0] 25 41
 go_enter Tryz.func14, Tryz.ntmps14
 go_wp2_with fail
 refine (kE _).mono ?_
 rintro e v1 ⟨rfl, hb⟩
 replace cw := cw.below hb
 replace cr := cr.below hb
 replace b0 := b0.trans (hb.mono b0.size)
 clear hb
 have x0 := cw.cell 0 rfl
 have x1 := cw.cell 1 rfl
 go_wp2_with fail
 refine (kU _).mono ?_
 rintro e v2 ⟨rfl, hb⟩
 have cp := Cls.new v2 #[.int .i64 tc, .bool tn, .int .u64 (M.hiN ts : Int), .int .u64 (M.loN ts : Int), .int .i64 tq] 35
 have hb2 : Below v2.heap.size v2 (v2.alloc (.cells #[.int .i64 tc, .bool tn, .int .u64 (M.hiN ts : Int), .int .u64 (M.loN ts : Int), .int .i64 tq] 35)) := (Below.refl _ _).alloc (Nat.le_refl _) _
 replace hb := hb.trans (hb2.mono hb.size)
 replace cr := cr.below hb
 replace b0 := b0.trans (hb.mono b0.size)
 clear hb hb2 cw x0 x1
 go_upto_region 4 with fail
 generalize (v2.alloc (.cells #[.int .i64 tc, .bool tn, .int .u64 (M.hiN ts : Int), .int .u64 (M.loN ts : Int), .int .i64 tq] 35)) = v3 at *
 generalize v2.heap.size = gp at *
 have p0 := cp.cell 0 rfl
 have p1 := cp.cell 1 rfl
 have p2 := cp.cell 2 rfl
 have p3 := cp.cell 3 rfl
 have p4 := cp.cell 4 rfl
 have r0 := cr.cell 0 rfl
 have r1 := cr.cell 1 rfl
 have r2 := cr.cell 2 rfl
 have r3 := cr.cell 3 rfl
 have z0 := cr.frozen 0
 have z1 := cr.frozen 1
 have z2 := cr.frozen 2
 have z3 := cr.frozen 3
 have lr : w.heap.size + 1 < v3.heap.size := cr.lt
 rcases HC.out with ⟨hc, rfl, rfl⟩ | ⟨hc | hc | hc, rfl, rfl⟩
 all_goals (
  clear HC
  go_wp2_with fail
  exact bodyPost_ret (v := .agg #[.slice none 0 0, .int .i64 0, .bool _, .int .i64 _]) (by simp [results, Tryz.results14, go_sem, r0, r1, r2, r3]) rfl ⟨none, 0, rfl, OwnV.nil _ _, zC b0 (by omega) _ _ _ _⟩)

theorem AL (f : Int) (hf : f < 0 ∨ 4 ≤ f) (X : Nat) (w : World) :
 Calls Tryz.prog 14 #[.int .i64 f, .agg #[.int .u64 (M.hiN X : Int), .int .u64 (M.loN X : Int)]] w fun e w' => ShR w w' e [] 0 false 4 := by
 have kE := fun v : World => nA f v hf
 have fd := vR
 obtain ⟨cw, cr, b0⟩ := Cls.new2 w #[.int .u64 (M.hiN X : Int), .int .u64 (M.loN X : Int)] #[.slice none 0 0, .int .i64 0, .bool false, .int .i64 0] 25 41
 go_enter Tryz.func14, Tryz.ntmps14
 go_wp2_with fail
 refine (kE _).mono ?_
 rintro e v1 ⟨rfl, hb⟩
 replace cr := cr.below hb
 replace b0 := b0.trans (hb.mono b0.size)
 clear hb cw
 have r0 := cr.cell 0 rfl
 have r1 := cr.cell 1 rfl
 have r2 := cr.cell 2 rfl
 have r3 := cr.cell 3 rfl
 have z0 := cr.frozen 0
 have z1 := cr.frozen 1
 have z2 := cr.frozen 2
 have z3 := cr.frozen 3
 have lr : w.heap.size + 1 < v1.heap.size := cr.lt
 go_wp2_with fail
 exact bodyPost_ret (v := .agg #[.slice none 0 0, .int .i64 0, .bool false, .int .i64 4]) (by simp [results, Tryz.results14, go_sem, r0, r1, r2, r3]) rfl ⟨none, 0, rfl, OwnV.nil _ _, zC b0 (by omega) _ _ _ _⟩

end Go.Proofs.YtdfljbpcjkbflaaGreatDoor
