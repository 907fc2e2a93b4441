import Derived.Test.YtmglhkdgfcbonaaGreatDoorrBG
import Derived.Test.YtmglhkdgfcbonaaGreatDoorrSB
set_option maxHeartbeats 2000000
set_option maxRecDepth 10000
namespace Go.Proofs.YtmglhkdgfcbonaaGreatDoor
open Go.RowKit
set_option linter.unusedVariables false
set_option maxRecDepth 100000
theorem zeros_any (t : M.Wd) (h : t.Ok) (r : Nat) (b : t.Best r) (g : Nat) (l3 : (L (t.T t.X)).length ≤ 1000) (l4 : (L t.least).length ≤ 1000) (l5 : (L t.most).length ≤ 1000) (v : World) (hv : Rch v g t.X t.vn t.vd (t.T t.X) t.least t.most) :
 Calls Tryz.prog 93 #[.int .i64 0, .int .i64 ((t.N : Int) - 1), .func (.func 95) #[] #[.pointer (some ⟨g, 0, none⟩)]] v fun e w' => e = .returned (.int .i64 (r : Int)) ∧ Below v.heap.size v w' := by
 have hN := h.N_le
 have hr := b.lt
 have ka : ∀ z : Nat, t.asks z = (decide (t.least ≤ t.T t.X / 10 ^ z * 10 ^ z) || decide (t.T t.X / 10 ^ z * 10 ^ z + 10 ^ z ≤ t.most)) := fun z => rfl
 have kc := fun (z : Nat) (v2 : World) hv hz => clo_any g t.X t.vn t.vd (t.T t.X) t.least t.most z v2 hv hz l3 l4 l5
 simp only [← ka] at kc
 have kb := fun (z : Nat) h1 h2 h3 => h.best_of z h1 h2 h3
 generalize t.asks = P at kc kb
 generalize t.N = n at *
 refine (greatest_any 0 ((n : Int) - 1) (fun x => P x.toNat) (.pointer (some ⟨g, 0, none⟩)) v (by omega) (by omega) (by omega) ?_).mono ?_
 · intro x v2 x1 x2 hb
   obtain ⟨z, rfl⟩ := Int.eq_ofNat_of_zero_le x1
   exact kc z v2 (hv.below hb) (by omega)
 · rintro e w' ⟨s, rfl, s1, s2, s3, s4, hb⟩
   obtain ⟨z, rfl⟩ := Int.eq_ofNat_of_zero_le s1
   have bz : t.Best z := kb z (by omega) (fun hp => s3 (by omega)) (fun hp => s4 (by omega))
   rw [bz.same b]
   exact ⟨rfl, hb⟩

theorem rshort_key (ex xx : Int) (N De W Ls Ms K r n : Nat) (ds : List Nat) (a1 a2 a3 a4 a5 : Option Addr) (c1 c2 c3 c4 c5 : Nat) (w : World)
 (l3 : (L W).length ≤ 1000) (lK : (L K).length ≤ 1000) (hx1 : -10000 ≤ ex) (hx2 : ex ≤ 10000) (hn : (M.txt W).length = n) (hn2 : n ≤ 1000) (hn1 : 1 ≤ n) (hr : r ≤ 1000) (tK : (M.txt K).length ≤ 1000)
 (bd : M.bareD (M.txt K) = ds) (be : M.bareE (M.txt K) ex = xx)
 (h1 : Rd w a1 (L N)) (h2 : Rd w a2 (L De)) (h3 : Rd w a3 (L W)) (h4 : Rd w a4 (L Ls)) (h5 : Rd w a5 (L Ms))
 (kR : ∀ v : World, Rch v w.heap.size ex N De W Ls Ms → Calls Tryz.prog 93 #[.int .i64 0, .int .i64 ((n : Int) - 1), .func (.func 95) #[] #[.pointer (some ⟨w.heap.size, 0, none⟩)]] v fun e w' => e = .returned (.int .i64 (r : Int)) ∧ Below v.heap.size v w')
 (kN : ∀ v : World, Rd v a1 (L N) → Rd v a2 (L De) → Rd v a3 (L W) → Rd v a4 (L Ls) → Rd v a5 (L Ms) → Calls Tryz.prog 99 #[.agg #[.int .i64 ex, .slice a1 (L N).length c1, .slice a2 (L De).length c2, .slice a3 (L W).length c3, .slice a4 (L Ls).length c4, .slice a5 (L Ms).length c5], .int .i64 (r : Int)] v fun e w' => ∃ ra rc, e = .returned (.slice ra (L K).length rc) ∧ Rd w' ra (L K) ∧ Below v.heap.size v w') :
 Calls Tryz.prog 49 #[.agg #[.int .i64 ex, .slice a1 (L N).length c1, .slice a2 (L De).length c2, .slice a3 (L W).length c3, .slice a4 (L Ls).length c4, .slice a5 (L Ms).length c5]] w fun e w' => ∃ ra rc, e = .returned (.tuple #[.slice ra ds.length rc, .int .i64 xx]) ∧ OwnV w' w.heap.size (.slice ra ds.length rc) ds ∧ Below w.heap.size w w' := by
 have hdig : ∀ x ∈ M.txt K, x < 256 := fun x hx => by have := M.txt_dig K x hx; omega
 have kD := fun (v : World) hr => digits_any W a3 _ c3 v rfl (by omega) hr
 rw [hn] at kD
 have c0 := Cls.new w #[.int .i64 ex, .slice a1 (L N).length c1, .slice a2 (L De).length c2, .slice a3 (L W).length c3, .slice a4 (L Ls).length c4, .slice a5 (L Ms).length c5] 84
 have b0 : Below w.heap.size w (w.alloc (.cells #[.int .i64 ex, .slice a1 (L N).length c1, .slice a2 (L De).length c2, .slice a3 (L W).length c3, .slice a4 (L Ls).length c4, .slice a5 (L Ms).length c5] 84)) := (Below.refl _ _).alloc (Nat.le_refl _) _
 have x2 := c0.cell 2 rfl
 go_enter Tryz.func49, Tryz.ntmps49
 go_wp2_with fail
 refine (kD _ (h3.below b0)).mono ?_
 rintro e v1 ⟨da, dc, rfl, -, hb⟩
 replace c0 := c0.below hb
 replace b0 := b0.trans (hb.mono b0.size)
 clear hb kD x2
 go_wp2_with fail
 refine (kR _ ⟨⟨a1, c1, a2, c2, a3, c3, a4, c4, a5, c5, c0, h1.below b0, h2.below b0, h3.below b0, h4.below b0, h5.below b0⟩⟩).mono ?_
 rintro e v2 ⟨rfl, hb⟩
 replace c0 := c0.below hb
 replace b0 := b0.trans (hb.mono b0.size)
 clear hb kR
 go_upto_region 2 with fail
 have D1 : ∀ v, Below v2.heap.size v2 v → (fun v : World => v.cell? ⟨w.heap.size, 0, none⟩ = some (.int .i64 ex) ∧ v.cell? ⟨w.heap.size, 1, none⟩ = some (.slice a1 (L N).length c1) ∧ v.cell? ⟨w.heap.size, 2, none⟩ = some (.slice a2 (L De).length c2) ∧ v.cell? ⟨w.heap.size, 3, none⟩ = some (.slice a3 (L W).length c3) ∧ v.cell? ⟨w.heap.size, 4, none⟩ = some (.slice a4 (L Ls).length c4) ∧ v.cell? ⟨w.heap.size, 5, none⟩ = some (.slice a5 (L Ms).length c5)) v := fun v hv => ⟨(c0.below hv).cell 0 rfl, (c0.below hv).cell 1 rfl, (c0.below hv).cell 2 rfl, (c0.below hv).cell 3 rfl, (c0.below hv).cell 4 rfl, (c0.below hv).cell 5 rfl⟩
 have hdr : Below v2.heap.size v2 v2.drew := (Below.refl _ _).drew
 have b1 := b0.trans (hdr.mono b0.size)
 go_region_held3 (fun v : World => v.cell? ⟨w.heap.size, 0, none⟩ = some (.int .i64 ex) ∧ v.cell? ⟨w.heap.size, 1, none⟩ = some (.slice a1 (L N).length c1) ∧ v.cell? ⟨w.heap.size, 2, none⟩ = some (.slice a2 (L De).length c2) ∧ v.cell? ⟨w.heap.size, 3, none⟩ = some (.slice a3 (L W).length c3) ∧ v.cell? ⟨w.heap.size, 4, none⟩ = some (.slice a4 (L Ls).length c4) ∧ v.cell? ⟨w.heap.size, 5, none⟩ = some (.slice a5 (L Ms).length c5)) (with_reducible exact D1 _ (by assumption))
  (first
    | (go_at_call 99; refine (kN _ (h1.below b1) (h2.below b1) (h3.below b1) (h4.below b1) (h5.below b1)).mono ?_; rintro e t1 ⟨na, nc, rfl, nr, hbt'⟩; have hb1 := hdr.trans (hbt'.mono (Nat.le_refl _)); clear hbt')
    | (go_at_call 94; refine (digits_any K na _ nc _ rfl (by omega) nr).mono ?_; rintro e t2 ⟨xa, xc, rfl, xo, hbt'⟩; have hb2 := hb1.trans (hbt'.mono hb1.size); have xv := (OwnV.of_own xo hdig).low (b0.trans (hb1.mono b0.size)).size; clear hbt' hb1 xo)
    | (go_at_call 98; refine (bare_any w.heap.size xa _ xc (M.txt K) ex _ rfl (by omega) (by omega) xv).mono ?_; rintro e t3 ⟨rfl, rfl⟩))
 have ov := xv.bv
 rw [bd] at ov
 obtain ⟨va, vc, ev, ov2⟩ := ov
 rw [ev]
 have HV : OwnV t3 w.heap.size (.slice va ds.length vc) ds := ⟨va, vc, rfl, ov2⟩
 have HB := hid (b0.trans (hb2.mono b0.size))
 clear b0 hb2 xv ov2
 go_wp2_with fail
 exact bodyPost_ret (v := .tuple #[.slice va ds.length vc, .int .i64 xx]) (by simp [results, Tryz.results49, go_sem]) rfl ⟨va, vc, rfl, HV, HB.out⟩

theorem rshort_any (t : M.Wd) (h : t.Ok) (r : Nat) (b : t.Best r) (a1 a2 a3 a4 a5 : Option Addr) (c1 c2 c3 c4 c5 : Nat) (w : World)
 (l1 : (L t.vn).length ≤ 1000) (l2 : (L t.vd).length ≤ 1000) (l3 : (L (t.T t.X)).length ≤ 1000) (l4 : (L t.least).length ≤ 1000) (l5 : (L t.most).length ≤ 1000) (hX1 : -10000 ≤ t.X) (hX2 : t.X ≤ 10000)
 (h1 : Rd w a1 (L t.vn)) (h2 : Rd w a2 (L t.vd)) (h3 : Rd w a3 (L (t.T t.X))) (h4 : Rd w a4 (L t.least)) (h5 : Rd w a5 (L t.most)) :
 Calls Tryz.prog 49 #[.agg #[.int .i64 t.X, .slice a1 (L t.vn).length c1, .slice a2 (L t.vd).length c2, .slice a3 (L (t.T t.X)).length c3, .slice a4 (L t.least).length c4, .slice a5 (L t.most).length c5]] w fun e w' => ∃ ra rc, e = .returned (.tuple #[.slice ra (M.sd (t.pick (t.X + r))).length rc, .int .i64 (wdX t r)]) ∧ OwnV w' w.heap.size (.slice ra (M.sd (t.pick (t.X + r))).length rc) (M.sd (t.pick (t.X + r))) ∧ Below w.heap.size w w' := by
 have hN := h.N_le
 have hr := b.lt
 have ePk := h.prog_pick r
 have pp := b.pick_pos h
 have tp := b.T_pos h
 have e0 : t.T (t.X + r) = t.T t.X / 10 ^ r := M.uT_add _ _ h.den_pos _ _
 rw [e0] at tp
 have tx : (M.txt (t.T t.X / 10 ^ r)).length ≤ 20000 := by
  have := M.txt_len 39 (t.T t.X / 10 ^ r) (Nat.lt_of_le_of_lt (Nat.div_le_self _ _) (Nat.lt_trans h.first.2.1 (by decide)))
  omega
 have kN := fun (v : World) h1 h2 h3 h4 h5 => nearest_any t.X t.vn t.vd (t.T t.X) t.least t.most r a1 a2 a3 a4 a5 c1 c2 c3 c4 c5 v (by omega) tp tx l1 l2 l3 l4 l5 h1 h2 h3 h4 h5
 rw [ePk] at kN
 have tb : t.pick (t.X + r) ≤ t.T t.X / 10 ^ r + 1 := by
  rw [← e0]
  unfold M.Wd.pick
  split
  · omega
  · split
    · omega
    · split <;> omega
 have tk : t.pick (t.X + r) * 10 ^ r < 10 ^ 80 := by
  have q1 : t.pick (t.X + r) ≤ 10 ^ 39 := by
   have := h.first.2.1
   have := Nat.div_le_self (t.T t.X) (10 ^ r)
   omega
  have q2 : 10 ^ r ≤ 10 ^ 39 := Nat.pow_le_pow_right (by omega) (by omega)
  have := Nat.mul_le_mul q1 q2
  have q3 : 10 ^ 39 * 10 ^ 39 < 10 ^ 80 := by decide
  omega
 have lPk : (L (t.pick (t.X + r) * 10 ^ r)).length ≤ 5 := M.len_of_lt (B := 18446744073709551616) (by omega) _ _ (Nat.lt_trans tk (by decide))
 obtain ⟨bd, be⟩ := M.bare_tens (t.pick (t.X + r)) pp r t.X
 have be' : M.bareE (M.txt (t.pick (t.X + r) * 10 ^ r)) t.X = wdX t r := be
 clear be
 have tl2 : (M.txt (t.pick (t.X + r) * 10 ^ r)).length ≤ 80 := M.txt_len 79 _ tk
 exact rshort_key t.X (wdX t r) t.vn t.vd (t.T t.X) t.least t.most (t.pick (t.X + r) * 10 ^ r) r t.N _ a1 a2 a3 a4 a5 c1 c2 c3 c4 c5 w l3 (by omega) hX1 hX2 rfl (by omega) (by omega) (by omega) (by omega) bd be' h1 h2 h3 h4 h5 (fun v hv => zeros_any t h r b w.heap.size l3 l4 l5 v hv) kN

def NR (v w' : World) (e : Ending) (t : M.Wd) : Prop :=
 ∃ a1 c1 a2 c2 a3 c3 a4 c4 a5 c5, e = .returned (.agg #[.int .i64 t.X, .slice a1 (L t.vn).length c1, .slice a2 (L t.vd).length c2, .slice a3 (L (t.T t.X)).length c3, .slice a4 (L t.least).length c4, .slice a5 (L t.most).length c5]) ∧ Rd w' a1 (L t.vn) ∧ Rd w' a2 (L t.vd) ∧ Rd w' a3 (L (t.T t.X)) ∧ Rd w' a4 (L t.least) ∧ Rd w' a5 (L t.most) ∧ Below v.heap.size v w'

theorem OwnV.far4 {w : World} {lo g : Nat} {v : Value} {xs : List Nat} (h : OwnV w lo v xs) (hg : g < lo) (a b c d : Value) : OwnV ((((w.setCell ⟨g, 0, none⟩ a).setCell ⟨g, 1, none⟩ b).setCell ⟨g, 2, none⟩ c).setCell ⟨g, 3, none⟩ d) lo v xs :=
 (((h.far ⟨g, 0, none⟩ hg a).far ⟨g, 1, none⟩ hg b).far ⟨g, 2, none⟩ hg c).far ⟨g, 3, none⟩ hg d

theorem below4s {w v : World} (h : Below w.heap.size w v) {g : Nat} (hg : w.heap.size ≤ g) (a b c d : Value) : Below w.heap.size w ((((v.setCell ⟨g, 0, none⟩ a).setCell ⟨g, 1, none⟩ b).setCell ⟨g, 2, none⟩ c).setCell ⟨g, 3, none⟩ d) :=
 (((h.setCell (p := ⟨g, 0, none⟩) hg _).setCell (p := ⟨g, 1, none⟩) hg _).setCell (p := ⟨g, 2, none⟩) hg _).setCell (p := ⟨g, 3, none⟩) hg _

theorem ishort_fin2 (f : Int) (X : Nat) (T : M.Pt) (F : M.Fm) (t : M.Wd) (ds : List Nat) (xx : Int) (w : World) (hm : Fmt w) (hc : T.c = 2)
 (kE : ∀ v : World, Fmt v → Calls Tryz.prog 44 #[.int .i64 f] v fun e w' => e = .returned (dv F) ∧ Below v.heap.size v w')
 (kK : ∀ v : World, Calls Tryz.prog 45 #[dv F] v fun e w' => e = .returned (.bool true) ∧ Below v.heap.size v w')
 (kU : ∀ v : World, Calls Tryz.prog 46 #[dv F, .agg #[.int .u64 (M.hiN X : Int), .int .u64 (M.loN X : Int)]] v fun e w' => e = .returned (pv T) ∧ Below v.heap.size v w')
 (kB : ∀ v : World, Calls Tryz.prog 48 #[dv F, pv T] v fun e w' => Iv v w' e t.lo t.hi t.den t.cl)
 (kR : ∀ (v : World) (a b c : Option Addr) (ca cb cc : Nat), Rd v a (L t.lo) → Rd v b (L t.hi) → Rd v c (L t.den) → Calls Tryz.prog 47 #[.agg #[.slice a (L t.lo).length ca, .slice b (L t.hi).length cb, .slice c (L t.den).length cc, .bool t.cl, .bool true], pv T] v fun e w' => NR v w' e t)
 (kS : ∀ (v : World) (a1 a2 a3 a4 a5 : Option Addr) (c1 c2 c3 c4 c5 : Nat), Rd v a1 (L t.vn) → Rd v a2 (L t.vd) → Rd v a3 (L (t.T t.X)) → Rd v a4 (L t.least) → Rd v a5 (L t.most) → Calls Tryz.prog 49 #[.agg #[.int .i64 t.X, .slice a1 (L t.vn).length c1, .slice a2 (L t.vd).length c2, .slice a3 (L (t.T t.X)).length c3, .slice a4 (L t.least).length c4, .slice a5 (L t.most).length c5]] v fun e w' => ∃ ra rc, e = .returned (.tuple #[.slice ra ds.length rc, .int .i64 xx]) ∧ OwnV w' v.heap.size (.slice ra ds.length rc) ds ∧ Below v.heap.size v w') :
 Calls Tryz.prog 8 #[.int .i64 f, .agg #[.int .u64 (M.hiN X : Int), .int .u64 (M.loN X : Int)]] w fun e w' => ShO w w' e ds xx T.n 0 := by
 obtain ⟨tc, tn, ts, tq⟩ := T
 simp only [dv, pv] at *
 subst hc
 obtain ⟨cw, cr, b0⟩ := Cls.new2 w #[.int .u64 (M.hiN X : Int), .int .u64 (M.loN X : Int)] #[.slice none 0 0, .int .i64 0, .bool false, .int .i64 0] 29 27
 go_enter Tryz.func8, Tryz.ntmps8
 go_wp2_with fail
 refine (kE _ (hm.below b0)).mono ?_
 rintro e v1 ⟨rfl, hb⟩
 replace cw := cw.below hb
 replace cr := cr.below hb
 replace b0 := b0.trans (hb.mono b0.size)
 clear hb
 go_upto_region 2 with fail
 have cd := Cls.new v1 #[.int .i64 (F.p : Int), .int .i64 (1 - (F.emax : Int)), .int .i64 (F.emax : Int), .int .i64 (F.wd : Int), .int .i64 (F.e : Int), .bool F.x] 61
 have hb : Below v1.heap.size v1 (v1.alloc (.cells #[.int .i64 (F.p : Int), .int .i64 (1 - (F.emax : Int)), .int .i64 (F.emax : Int), .int .i64 (F.wd : Int), .int .i64 (F.e : Int), .bool F.x] 61)) := (Below.refl _ _).alloc (Nat.le_refl _) _
 replace cw := cw.below hb
 replace cr := cr.below hb
 replace b0 := b0.trans (hb.mono b0.size)
 clear hb
 generalize v1.alloc (.cells #[.int .i64 (F.p : Int), .int .i64 (1 - (F.emax : Int)), .int .i64 (F.emax : Int), .int .i64 (F.wd : Int), .int .i64 (F.e : Int), .bool F.x] 61) = v2 at *
 generalize v1.heap.size = gd at *
 have d0 := cd.cell 0 rfl
 have d1 := cd.cell 1 rfl
 have d2 := cd.cell 2 rfl
 have d3 := cd.cell 3 rfl
 have d4 := cd.cell 4 rfl
 have d5 := cd.cell 5 rfl
 go_wp2_with fail
 refine (kK _).mono ?_
 rintro e v3 ⟨rfl, hb⟩
 replace cw := cw.below hb
 replace cr := cr.below hb
 replace cd := cd.below hb
 replace b0 := b0.trans (hb.mono b0.size)
 clear hb d0 d1 d2 d3 d4 d5
 have d0 := cd.cell 0 rfl
 have d1 := cd.cell 1 rfl
 have d2 := cd.cell 2 rfl
 have d3 := cd.cell 3 rfl
 have d4 := cd.cell 4 rfl
 have d5 := cd.cell 5 rfl
 have x0 := cw.cell 0 rfl
 have x1 := cw.cell 1 rfl
 go_wp2_with fail
 refine (kU _).mono ?_
 rintro e v4 ⟨rfl, hb⟩
 replace cr := cr.below hb
 replace cd := cd.below hb
 replace b0 := b0.trans (hb.mono b0.size)
 clear hb d0 d1 d2 d3 d4 d5 x0 x1
 go_upto_region 5 with fail
 have cp := Cls.new v4 #[.int .i64 2, .bool tn, .int .u64 (M.hiN ts : Int), .int .u64 (M.loN ts : Int), .int .i64 tq] 42
 have hb : Below v4.heap.size v4 (v4.alloc (.cells #[.int .i64 2, .bool tn, .int .u64 (M.hiN ts : Int), .int .u64 (M.loN ts : Int), .int .i64 tq] 42)) := (Below.refl _ _).alloc (Nat.le_refl _) _
 replace cr := cr.below hb
 replace cd := cd.below hb
 replace b0 := b0.trans (hb.mono b0.size)
 clear hb
 generalize v4.alloc (.cells #[.int .i64 2, .bool tn, .int .u64 (M.hiN ts : Int), .int .u64 (M.loN ts : Int), .int .i64 tq] 42) = v5 at *
 generalize v4.heap.size = gp at *
 have p0 := cp.cell 0 rfl
 have p1 := cp.cell 1 rfl
 have p2 := cp.cell 2 rfl
 have p3 := cp.cell 3 rfl
 have p4 := cp.cell 4 rfl
 go_upto_region 10 with fail
 clear p0 p1 p2 p3 p4
 have D1 : ∀ v, Below v5.heap.size v5 v → (fun v : World => v.cell? ⟨gd, 0, none⟩ = some (.int .i64 (F.p : Int)) ∧ v.cell? ⟨gd, 1, none⟩ = some (.int .i64 (1 - (F.emax : Int))) ∧ v.cell? ⟨gd, 2, none⟩ = some (.int .i64 (F.emax : Int)) ∧ v.cell? ⟨gd, 3, none⟩ = some (.int .i64 (F.wd : Int)) ∧ v.cell? ⟨gd, 4, none⟩ = some (.int .i64 (F.e : Int)) ∧ v.cell? ⟨gd, 5, none⟩ = some (.bool F.x) ∧ v.cell? ⟨gp, 0, none⟩ = some (.int .i64 2) ∧ v.cell? ⟨gp, 1, none⟩ = some (.bool tn) ∧ v.cell? ⟨gp, 2, none⟩ = some (.int .u64 (M.hiN ts : Int)) ∧ v.cell? ⟨gp, 3, none⟩ = some (.int .u64 (M.loN ts : Int)) ∧ v.cell? ⟨gp, 4, none⟩ = some (.int .i64 tq)) v := fun v hv => ⟨(cd.below hv).cell 0 rfl, (cd.below hv).cell 1 rfl, (cd.below hv).cell 2 rfl, (cd.below hv).cell 3 rfl, (cd.below hv).cell 4 rfl, (cd.below hv).cell 5 rfl, (cp.below hv).cell 0 rfl, (cp.below hv).cell 1 rfl, (cp.below hv).cell 2 rfl, (cp.below hv).cell 3 rfl, (cp.below hv).cell 4 rfl⟩
 have hdr : Below v5.heap.size v5 v5.drew := (Below.refl _ _).drew
 have lr : w.heap.size + 1 < v5.heap.size := cr.lt
 go_region_held3 (fun v : World => v.cell? ⟨gd, 0, none⟩ = some (.int .i64 (F.p : Int)) ∧ v.cell? ⟨gd, 1, none⟩ = some (.int .i64 (1 - (F.emax : Int))) ∧ v.cell? ⟨gd, 2, none⟩ = some (.int .i64 (F.emax : Int)) ∧ v.cell? ⟨gd, 3, none⟩ = some (.int .i64 (F.wd : Int)) ∧ v.cell? ⟨gd, 4, none⟩ = some (.int .i64 (F.e : Int)) ∧ v.cell? ⟨gd, 5, none⟩ = some (.bool F.x) ∧ v.cell? ⟨gp, 0, none⟩ = some (.int .i64 2) ∧ v.cell? ⟨gp, 1, none⟩ = some (.bool tn) ∧ v.cell? ⟨gp, 2, none⟩ = some (.int .u64 (M.hiN ts : Int)) ∧ v.cell? ⟨gp, 3, none⟩ = some (.int .u64 (M.loN ts : Int)) ∧ v.cell? ⟨gp, 4, none⟩ = some (.int .i64 tq)) (with_reducible exact D1 _ (by assumption))
  (first
    | (go_at_call 48; refine (kB _).mono ?_; rintro e t1 ⟨ia, ica, ib, icb, ic, icc, im1, im2, rfl, -, -, -, oA, oB, oC, hbt'⟩; have hb1 := hdr.trans (hbt'.mono (Nat.le_refl _)); clear hbt')
    | (go_at_call 47; refine (kR _ _ _ _ _ _ _ oA.rd oB.rd oC.rd).mono ?_; rintro e t2 ⟨n1, k1, n2, k2, n3, k3, n4, k4, n5, k5, rfl, r1, r2, r3, r4, r5, hbt'⟩; have hb2 := hb1.trans (hbt'.mono hb1.size); clear hbt' hb1 oA oB oC)
    | (go_at_call 49; refine (kS _ _ _ _ _ _ _ _ _ _ _ r1 r2 r3 r4 r5).mono ?_; rintro e t3 ⟨ra, rc, rfl, ov, hbt'⟩; have hs2 := hb2.size; have hb3 := hb2.trans (hbt'.mono hb2.size); clear hbt' hb2 r1 r2 r3 r4 r5))
 have hb := hb3
 replace cr := cr.below hb
 replace cp := cp.below hb
 replace b0 := b0.trans (hb.mono b0.size)
 replace ov := ov.low (show w.heap.size + 1 + 1 ≤ _ by omega)
 clear hb hb3
 have r0 := cr.cell 0 rfl
 have r1 := cr.cell 1 rfl
 have r2 := cr.cell 2 rfl
 have r3 := cr.cell 3 rfl
 have z0 := cr.frozen 0
 have z1 := cr.frozen 1
 have z2 := cr.frozen 2
 have z3 := cr.frozen 3
 have p0 := cp.cell 0 rfl
 have p1 := cp.cell 1 rfl
 have p2 := cp.cell 2 rfl
 have p3 := cp.cell 3 rfl
 have p4 := cp.cell 4 rfl
 go_wp2_with fail
 exact bodyPost_ret (v := .agg #[.slice ra ds.length rc, .int .i64 xx, .bool tn, .int .i64 0]) (by simp [results, Tryz.results8, go_sem, r0, r1, r2, r3]) rfl ⟨ra, rc, rfl, (ov.far4 (by omega) _ _ _ _).low (by omega), below4s b0 (by omega) _ _ _ _⟩

theorem ishort_fin3 (f : Int) (X : Nat) (T : M.Pt) (F : M.Fm) (t : M.Wd) (ds : List Nat) (xx : Int) (w : World) (hm : Fmt w) (hc : T.c = 3)
 (kE : ∀ v : World, Fmt v → Calls Tryz.prog 44 #[.int .i64 f] v fun e w' => e = .returned (dv F) ∧ Below v.heap.size v w')
 (kK : ∀ v : World, Calls Tryz.prog 45 #[dv F] v fun e w' => e = .returned (.bool true) ∧ Below v.heap.size v w')
 (kU : ∀ v : World, Calls Tryz.prog 46 #[dv F, .agg #[.int .u64 (M.hiN X : Int), .int .u64 (M.loN X : Int)]] v fun e w' => e = .returned (pv T) ∧ Below v.heap.size v w')
 (kB : ∀ v : World, Calls Tryz.prog 48 #[dv F, pv T] v fun e w' => Iv v w' e t.lo t.hi t.den t.cl)
 (kR : ∀ (v : World) (a b c : Option Addr) (ca cb cc : Nat), Rd v a (L t.lo) → Rd v b (L t.hi) → Rd v c (L t.den) → Calls Tryz.prog 47 #[.agg #[.slice a (L t.lo).length ca, .slice b (L t.hi).length cb, .slice c (L t.den).length cc, .bool t.cl, .bool true], pv T] v fun e w' => NR v w' e t)
 (kS : ∀ (v : World) (a1 a2 a3 a4 a5 : Option Addr) (c1 c2 c3 c4 c5 : Nat), Rd v a1 (L t.vn) → Rd v a2 (L t.vd) → Rd v a3 (L (t.T t.X)) → Rd v a4 (L t.least) → Rd v a5 (L t.most) → Calls Tryz.prog 49 #[.agg #[.int .i64 t.X, .slice a1 (L t.vn).length c1, .slice a2 (L t.vd).length c2, .slice a3 (L (t.T t.X)).length c3, .slice a4 (L t.least).length c4, .slice a5 (L t.most).length c5]] v fun e w' => ∃ ra rc, e = .returned (.tuple #[.slice ra ds.length rc, .int .i64 xx]) ∧ OwnV w' v.heap.size (.slice ra ds.length rc) ds ∧ Below v.heap.size v w') :
 Calls Tryz.prog 8 #[.int .i64 f, .agg #[.int .u64 (M.hiN X : Int), .int .u64 (M.loN X : Int)]] w fun e w' => ShO w w' e ds xx T.n 0 := by
 obtain ⟨tc, tn, ts, tq⟩ := T
 simp only [dv, pv] at *
 subst hc
 obtain ⟨cw, cr, b0⟩ := Cls.new2 w #[.int .u64 (M.hiN X : Int), .int .u64 (M.loN X : Int)] #[.slice none 0 0, .int .i64 0, .bool false, .int .i64 0] 29 27
 go_enter Tryz.func8, Tryz.ntmps8
 go_wp2_with fail
 refine (kE _ (hm.below b0)).mono ?_
 rintro e v1 ⟨rfl, hb⟩
 replace cw := cw.below hb
 replace cr := cr.below hb
 replace b0 := b0.trans (hb.mono b0.size)
 clear hb
 go_upto_region 2 with fail
 have cd := Cls.new v1 #[.int .i64 (F.p : Int), .int .i64 (1 - (F.emax : Int)), .int .i64 (F.emax : Int), .int .i64 (F.wd : Int), .int .i64 (F.e : Int), .bool F.x] 61
 have hb : Below v1.heap.size v1 (v1.alloc (.cells #[.int .i64 (F.p : Int), .int .i64 (1 - (F.emax : Int)), .int .i64 (F.emax : Int), .int .i64 (F.wd : Int), .int .i64 (F.e : Int), .bool F.x] 61)) := (Below.refl _ _).alloc (Nat.le_refl _) _
 replace cw := cw.below hb
 replace cr := cr.below hb
 replace b0 := b0.trans (hb.mono b0.size)
 clear hb
 generalize v1.alloc (.cells #[.int .i64 (F.p : Int), .int .i64 (1 - (F.emax : Int)), .int .i64 (F.emax : Int), .int .i64 (F.wd : Int), .int .i64 (F.e : Int), .bool F.x] 61) = v2 at *
 generalize v1.heap.size = gd at *
 have d0 := cd.cell 0 rfl
 have d1 := cd.cell 1 rfl
 have d2 := cd.cell 2 rfl
 have d3 := cd.cell 3 rfl
 have d4 := cd.cell 4 rfl
 have d5 := cd.cell 5 rfl
 go_wp2_with fail
 refine (kK _).mono ?_
 rintro e v3 ⟨rfl, hb⟩
 replace cw := cw.below hb
 replace cr := cr.below hb
 replace cd := cd.below hb
 replace b0 := b0.trans (hb.mono b0.size)
 clear hb d0 d1 d2 d3 d4 d5
 have d0 := cd.cell 0 rfl
 have d1 := cd.cell 1 rfl
 have d2 := cd.cell 2 rfl
 have d3 := cd.cell 3 rfl
 have d4 := cd.cell 4 rfl
 have d5 := cd.cell 5 rfl
 have x0 := cw.cell 0 rfl
 have x1 := cw.cell 1 rfl
 go_wp2_with fail
 refine (kU _).mono ?_
 rintro e v4 ⟨rfl, hb⟩
 replace cr := cr.below hb
 replace cd := cd.below hb
 replace b0 := b0.trans (hb.mono b0.size)
 clear hb d0 d1 d2 d3 d4 d5 x0 x1
 go_upto_region 5 with fail
 have cp := Cls.new v4 #[.int .i64 3, .bool tn, .int .u64 (M.hiN ts : Int), .int .u64 (M.loN ts : Int), .int .i64 tq] 42
 have hb : Below v4.heap.size v4 (v4.alloc (.cells #[.int .i64 3, .bool tn, .int .u64 (M.hiN ts : Int), .int .u64 (M.loN ts : Int), .int .i64 tq] 42)) := (Below.refl _ _).alloc (Nat.le_refl _) _
 replace cr := cr.below hb
 replace cd := cd.below hb
 replace b0 := b0.trans (hb.mono b0.size)
 clear hb
 generalize v4.alloc (.cells #[.int .i64 3, .bool tn, .int .u64 (M.hiN ts : Int), .int .u64 (M.loN ts : Int), .int .i64 tq] 42) = v5 at *
 generalize v4.heap.size = gp at *
 have p0 := cp.cell 0 rfl
 have p1 := cp.cell 1 rfl
 have p2 := cp.cell 2 rfl
 have p3 := cp.cell 3 rfl
 have p4 := cp.cell 4 rfl
 go_upto_region 10 with fail
 clear p0 p1 p2 p3 p4
 have D1 : ∀ v, Below v5.heap.size v5 v → (fun v : World => v.cell? ⟨gd, 0, none⟩ = some (.int .i64 (F.p : Int)) ∧ v.cell? ⟨gd, 1, none⟩ = some (.int .i64 (1 - (F.emax : Int))) ∧ v.cell? ⟨gd, 2, none⟩ = some (.int .i64 (F.emax : Int)) ∧ v.cell? ⟨gd, 3, none⟩ = some (.int .i64 (F.wd : Int)) ∧ v.cell? ⟨gd, 4, none⟩ = some (.int .i64 (F.e : Int)) ∧ v.cell? ⟨gd, 5, none⟩ = some (.bool F.x) ∧ v.cell? ⟨gp, 0, none⟩ = some (.int .i64 3) ∧ v.cell? ⟨gp, 1, none⟩ = some (.bool tn) ∧ v.cell? ⟨gp, 2, none⟩ = some (.int .u64 (M.hiN ts : Int)) ∧ v.cell? ⟨gp, 3, none⟩ = some (.int .u64 (M.loN ts : Int)) ∧ v.cell? ⟨gp, 4, none⟩ = some (.int .i64 tq)) v := fun v hv => ⟨(cd.below hv).cell 0 rfl, (cd.below hv).cell 1 rfl, (cd.below hv).cell 2 rfl, (cd.below hv).cell 3 rfl, (cd.below hv).cell 4 rfl, (cd.below hv).cell 5 rfl, (cp.below hv).cell 0 rfl, (cp.below hv).cell 1 rfl, (cp.below hv).cell 2 rfl, (cp.below hv).cell 3 rfl, (cp.below hv).cell 4 rfl⟩
 have hdr : Below v5.heap.size v5 v5.drew := (Below.refl _ _).drew
 have lr : w.heap.size + 1 < v5.heap.size := cr.lt
 go_region_held3 (fun v : World => v.cell? ⟨gd, 0, none⟩ = some (.int .i64 (F.p : Int)) ∧ v.cell? ⟨gd, 1, none⟩ = some (.int .i64 (1 - (F.emax : Int))) ∧ v.cell? ⟨gd, 2, none⟩ = some (.int .i64 (F.emax : Int)) ∧ v.cell? ⟨gd, 3, none⟩ = some (.int .i64 (F.wd : Int)) ∧ v.cell? ⟨gd, 4, none⟩ = some (.int .i64 (F.e : Int)) ∧ v.cell? ⟨gd, 5, none⟩ = some (.bool F.x) ∧ v.cell? ⟨gp, 0, none⟩ = some (.int .i64 3) ∧ v.cell? ⟨gp, 1, none⟩ = some (.bool tn) ∧ v.cell? ⟨gp, 2, none⟩ = some (.int .u64 (M.hiN ts : Int)) ∧ v.cell? ⟨gp, 3, none⟩ = some (.int .u64 (M.loN ts : Int)) ∧ v.cell? ⟨gp, 4, none⟩ = some (.int .i64 tq)) (with_reducible exact D1 _ (by assumption))
  (first
    | (go_at_call 48; refine (kB _).mono ?_; rintro e t1 ⟨ia, ica, ib, icb, ic, icc, im1, im2, rfl, -, -, -, oA, oB, oC, hbt'⟩; have hb1 := hdr.trans (hbt'.mono (Nat.le_refl _)); clear hbt')
    | (go_at_call 47; refine (kR _ _ _ _ _ _ _ oA.rd oB.rd oC.rd).mono ?_; rintro e t2 ⟨n1, k1, n2, k2, n3, k3, n4, k4, n5, k5, rfl, r1, r2, r3, r4, r5, hbt'⟩; have hb2 := hb1.trans (hbt'.mono hb1.size); clear hbt' hb1 oA oB oC)
    | (go_at_call 49; refine (kS _ _ _ _ _ _ _ _ _ _ _ r1 r2 r3 r4 r5).mono ?_; rintro e t3 ⟨ra, rc, rfl, ov, hbt'⟩; have hs2 := hb2.size; have hb3 := hb2.trans (hbt'.mono hb2.size); clear hbt' hb2 r1 r2 r3 r4 r5))
 have hb := hb3
 replace cr := cr.below hb
 replace cp := cp.below hb
 replace b0 := b0.trans (hb.mono b0.size)
 replace ov := ov.low (show w.heap.size + 1 + 1 ≤ _ by omega)
 clear hb hb3
 have r0 := cr.cell 0 rfl
 have r1 := cr.cell 1 rfl
 have r2 := cr.cell 2 rfl
 have r3 := cr.cell 3 rfl
 have z0 := cr.frozen 0
 have z1 := cr.frozen 1
 have z2 := cr.frozen 2
 have z3 := cr.frozen 3
 have p0 := cp.cell 0 rfl
 have p1 := cp.cell 1 rfl
 have p2 := cp.cell 2 rfl
 have p3 := cp.cell 3 rfl
 have p4 := cp.cell 4 rfl
 go_wp2_with fail
 exact bodyPost_ret (v := .agg #[.slice ra ds.length rc, .int .i64 xx, .bool tn, .int .i64 0]) (by simp [results, Tryz.results8, go_sem, r0, r1, r2, r3]) rfl ⟨ra, rc, rfl, (ov.far4 (by omega) _ _ _ _).low (by omega), below4s b0 (by omega) _ _ _ _⟩

theorem ishort_out0 (f : Int) (X : Nat) (T : M.Pt) (F : M.Fm) (w : World) (hm : Fmt w) (hc : T.c = 0)
 (kE : ∀ v : World, Fmt v → Calls Tryz.prog 44 #[.int .i64 f] v fun e w' => e = .returned (dv F) ∧ Below v.heap.size v w')
 (kK : ∀ v : World, Calls Tryz.prog 45 #[dv F] v fun e w' => e = .returned (.bool true) ∧ Below v.heap.size v w')
 (kU : ∀ v : World, Calls Tryz.prog 46 #[dv F, .agg #[.int .u64 (M.hiN X : Int), .int .u64 (M.loN X : Int)]] v fun e w' => e = .returned (pv T) ∧ Below v.heap.size v w') :
 Calls Tryz.prog 8 #[.int .i64 f, .agg #[.int .u64 (M.hiN X : Int), .int .u64 (M.loN X : Int)]] w fun e w' => ShO w w' e [] 0 false 3 := by
 obtain ⟨tc, tn, ts, tq⟩ := T
 simp only [dv, pv] at *
 subst hc
 obtain ⟨cw, cr, b0⟩ := Cls.new2 w #[.int .u64 (M.hiN X : Int), .int .u64 (M.loN X : Int)] #[.slice none 0 0, .int .i64 0, .bool false, .int .i64 0] 29 27
 go_enter Tryz.func8, Tryz.ntmps8
 go_wp2_with fail
 refine (kE _ (hm.below b0)).mono ?_
 rintro e v1 ⟨rfl, hb⟩
 replace cw := cw.below hb
 replace cr := cr.below hb
 replace b0 := b0.trans (hb.mono b0.size)
 clear hb
 go_upto_region 2 with fail
 have cd := Cls.new v1 #[.int .i64 (F.p : Int), .int .i64 (1 - (F.emax : Int)), .int .i64 (F.emax : Int), .int .i64 (F.wd : Int), .int .i64 (F.e : Int), .bool F.x] 61
 have hb : Below v1.heap.size v1 (v1.alloc (.cells #[.int .i64 (F.p : Int), .int .i64 (1 - (F.emax : Int)), .int .i64 (F.emax : Int), .int .i64 (F.wd : Int), .int .i64 (F.e : Int), .bool F.x] 61)) := (Below.refl _ _).alloc (Nat.le_refl _) _
 replace cw := cw.below hb
 replace cr := cr.below hb
 replace b0 := b0.trans (hb.mono b0.size)
 clear hb
 generalize v1.alloc (.cells #[.int .i64 (F.p : Int), .int .i64 (1 - (F.emax : Int)), .int .i64 (F.emax : Int), .int .i64 (F.wd : Int), .int .i64 (F.e : Int), .bool F.x] 61) = v2 at *
 generalize v1.heap.size = gd at *
 have d0 := cd.cell 0 rfl
 have d1 := cd.cell 1 rfl
 have d2 := cd.cell 2 rfl
 have d3 := cd.cell 3 rfl
 have d4 := cd.cell 4 rfl
 have d5 := cd.cell 5 rfl
 go_wp2_with fail
 refine (kK _).mono ?_
 rintro e v3 ⟨rfl, hb⟩
 replace cw := cw.below hb
 replace cr := cr.below hb
 replace cd := cd.below hb
 replace b0 := b0.trans (hb.mono b0.size)
 clear hb d0 d1 d2 d3 d4 d5
 have d0 := cd.cell 0 rfl
 have d1 := cd.cell 1 rfl
 have d2 := cd.cell 2 rfl
 have d3 := cd.cell 3 rfl
 have d4 := cd.cell 4 rfl
 have d5 := cd.cell 5 rfl
 have x0 := cw.cell 0 rfl
 have x1 := cw.cell 1 rfl
 go_wp2_with fail
 refine (kU _).mono ?_
 rintro e v4 ⟨rfl, hb⟩
 replace cr := cr.below hb
 replace cd := cd.below hb
 replace b0 := b0.trans (hb.mono b0.size)
 clear hb d0 d1 d2 d3 d4 d5 x0 x1
 go_upto_region 5 with fail
 have cp := Cls.new v4 #[.int .i64 0, .bool tn, .int .u64 (M.hiN ts : Int), .int .u64 (M.loN ts : Int), .int .i64 tq] 42
 have hb : Below v4.heap.size v4 (v4.alloc (.cells #[.int .i64 0, .bool tn, .int .u64 (M.hiN ts : Int), .int .u64 (M.loN ts : Int), .int .i64 tq] 42)) := (Below.refl _ _).alloc (Nat.le_refl _) _
 replace cr := cr.below hb
 replace cd := cd.below hb
 replace b0 := b0.trans (hb.mono b0.size)
 clear hb
 generalize v4.alloc (.cells #[.int .i64 0, .bool tn, .int .u64 (M.hiN ts : Int), .int .u64 (M.loN ts : Int), .int .i64 tq] 42) = v5 at *
 generalize v4.heap.size = gp at *
 have p0 := cp.cell 0 rfl
 have p1 := cp.cell 1 rfl
 have p2 := cp.cell 2 rfl
 have p3 := cp.cell 3 rfl
 have p4 := cp.cell 4 rfl
 have r0 := cr.cell 0 rfl
 have r1 := cr.cell 1 rfl
 have r2 := cr.cell 2 rfl
 have r3 := cr.cell 3 rfl
 have z0 := cr.frozen 0
 have z1 := cr.frozen 1
 have z2 := cr.frozen 2
 have z3 := cr.frozen 3
 have lr : w.heap.size + 1 < v5.heap.size := cr.lt
 go_wp2_with fail
 exact bodyPost_ret (v := .agg #[.slice none 0 0, .int .i64 0, .bool false, .int .i64 3]) (by simp [results, Tryz.results8, go_sem, r0, r1, r2, r3]) rfl ⟨none, 0, rfl, OwnV.nil _ _, below4s b0 (by omega) _ _ _ _⟩

theorem ishort_out1 (f : Int) (X : Nat) (T : M.Pt) (F : M.Fm) (w : World) (hm : Fmt w) (hc : T.c = 1)
 (kE : ∀ v : World, Fmt v → Calls Tryz.prog 44 #[.int .i64 f] v fun e w' => e = .returned (dv F) ∧ Below v.heap.size v w')
 (kK : ∀ v : World, Calls Tryz.prog 45 #[dv F] v fun e w' => e = .returned (.bool true) ∧ Below v.heap.size v w')
 (kU : ∀ v : World, Calls Tryz.prog 46 #[dv F, .agg #[.int .u64 (M.hiN X : Int), .int .u64 (M.loN X : Int)]] v fun e w' => e = .returned (pv T) ∧ Below v.heap.size v w') :
 Calls Tryz.prog 8 #[.int .i64 f, .agg #[.int .u64 (M.hiN X : Int), .int .u64 (M.loN X : Int)]] w fun e w' => ShO w w' e [] 0 T.n 0 := by
 obtain ⟨tc, tn, ts, tq⟩ := T
 simp only [dv, pv] at *
 subst hc
 obtain ⟨cw, cr, b0⟩ := Cls.new2 w #[.int .u64 (M.hiN X : Int), .int .u64 (M.loN X : Int)] #[.slice none 0 0, .int .i64 0, .bool false, .int .i64 0] 29 27
 go_enter Tryz.func8, Tryz.ntmps8
 go_wp2_with fail
 refine (kE _ (hm.below b0)).mono ?_
 rintro e v1 ⟨rfl, hb⟩
 replace cw := cw.below hb
 replace cr := cr.below hb
 replace b0 := b0.trans (hb.mono b0.size)
 clear hb
 go_upto_region 2 with fail
 have cd := Cls.new v1 #[.int .i64 (F.p : Int), .int .i64 (1 - (F.emax : Int)), .int .i64 (F.emax : Int), .int .i64 (F.wd : Int), .int .i64 (F.e : Int), .bool F.x] 61
 have hb : Below v1.heap.size v1 (v1.alloc (.cells #[.int .i64 (F.p : Int), .int .i64 (1 - (F.emax : Int)), .int .i64 (F.emax : Int), .int .i64 (F.wd : Int), .int .i64 (F.e : Int), .bool F.x] 61)) := (Below.refl _ _).alloc (Nat.le_refl _) _
 replace cw := cw.below hb
 replace cr := cr.below hb
 replace b0 := b0.trans (hb.mono b0.size)
 clear hb
 generalize v1.alloc (.cells #[.int .i64 (F.p : Int), .int .i64 (1 - (F.emax : Int)), .int .i64 (F.emax : Int), .int .i64 (F.wd : Int), .int .i64 (F.e : Int), .bool F.x] 61) = v2 at *
 generalize v1.heap.size = gd at *
 have d0 := cd.cell 0 rfl
 have d1 := cd.cell 1 rfl
 have d2 := cd.cell 2 rfl
 have d3 := cd.cell 3 rfl
 have d4 := cd.cell 4 rfl
 have d5 := cd.cell 5 rfl
 go_wp2_with fail
 refine (kK _).mono ?_
 rintro e v3 ⟨rfl, hb⟩
 replace cw := cw.below hb
 replace cr := cr.below hb
 replace cd := cd.below hb
 replace b0 := b0.trans (hb.mono b0.size)
 clear hb d0 d1 d2 d3 d4 d5
 have d0 := cd.cell 0 rfl
 have d1 := cd.cell 1 rfl
 have d2 := cd.cell 2 rfl
 have d3 := cd.cell 3 rfl
 have d4 := cd.cell 4 rfl
 have d5 := cd.cell 5 rfl
 have x0 := cw.cell 0 rfl
 have x1 := cw.cell 1 rfl
 go_wp2_with fail
 refine (kU _).mono ?_
 rintro e v4 ⟨rfl, hb⟩
 replace cr := cr.below hb
 replace cd := cd.below hb
 replace b0 := b0.trans (hb.mono b0.size)
 clear hb d0 d1 d2 d3 d4 d5 x0 x1
 go_upto_region 5 with fail
 have cp := Cls.new v4 #[.int .i64 1, .bool tn, .int .u64 (M.hiN ts : Int), .int .u64 (M.loN ts : Int), .int .i64 tq] 42
 have hb : Below v4.heap.size v4 (v4.alloc (.cells #[.int .i64 1, .bool tn, .int .u64 (M.hiN ts : Int), .int .u64 (M.loN ts : Int), .int .i64 tq] 42)) := (Below.refl _ _).alloc (Nat.le_refl _) _
 replace cr := cr.below hb
 replace cd := cd.below hb
 replace b0 := b0.trans (hb.mono b0.size)
 clear hb
 generalize v4.alloc (.cells #[.int .i64 1, .bool tn, .int .u64 (M.hiN ts : Int), .int .u64 (M.loN ts : Int), .int .i64 tq] 42) = v5 at *
 generalize v4.heap.size = gp at *
 have p0 := cp.cell 0 rfl
 have p1 := cp.cell 1 rfl
 have p2 := cp.cell 2 rfl
 have p3 := cp.cell 3 rfl
 have p4 := cp.cell 4 rfl
 have r0 := cr.cell 0 rfl
 have r1 := cr.cell 1 rfl
 have r2 := cr.cell 2 rfl
 have r3 := cr.cell 3 rfl
 have z0 := cr.frozen 0
 have z1 := cr.frozen 1
 have z2 := cr.frozen 2
 have z3 := cr.frozen 3
 have lr : w.heap.size + 1 < v5.heap.size := cr.lt
 go_wp2_with fail
 exact bodyPost_ret (v := .agg #[.slice none 0 0, .int .i64 0, .bool tn, .int .i64 0]) (by simp [results, Tryz.results8, go_sem, r0, r1, r2, r3]) rfl ⟨none, 0, rfl, OwnV.nil _ _, below4s b0 (by omega) _ _ _ _⟩

theorem ishort_out4 (f : Int) (X : Nat) (T : M.Pt) (F : M.Fm) (w : World) (hm : Fmt w) (hc : T.c = 4)
 (kE : ∀ v : World, Fmt v → Calls Tryz.prog 44 #[.int .i64 f] v fun e w' => e = .returned (dv F) ∧ Below v.heap.size v w')
 (kK : ∀ v : World, Calls Tryz.prog 45 #[dv F] v fun e w' => e = .returned (.bool true) ∧ Below v.heap.size v w')
 (kU : ∀ v : World, Calls Tryz.prog 46 #[dv F, .agg #[.int .u64 (M.hiN X : Int), .int .u64 (M.loN X : Int)]] v fun e w' => e = .returned (pv T) ∧ Below v.heap.size v w') :
 Calls Tryz.prog 8 #[.int .i64 f, .agg #[.int .u64 (M.hiN X : Int), .int .u64 (M.loN X : Int)]] w fun e w' => ShO w w' e [] 0 T.n 0 := by
 obtain ⟨tc, tn, ts, tq⟩ := T
 simp only [dv, pv] at *
 subst hc
 obtain ⟨cw, cr, b0⟩ := Cls.new2 w #[.int .u64 (M.hiN X : Int), .int .u64 (M.loN X : Int)] #[.slice none 0 0, .int .i64 0, .bool false, .int .i64 0] 29 27
 go_enter Tryz.func8, Tryz.ntmps8
 go_wp2_with fail
 refine (kE _ (hm.below b0)).mono ?_
 rintro e v1 ⟨rfl, hb⟩
 replace cw := cw.below hb
 replace cr := cr.below hb
 replace b0 := b0.trans (hb.mono b0.size)
 clear hb
 go_upto_region 2 with fail
 have cd := Cls.new v1 #[.int .i64 (F.p : Int), .int .i64 (1 - (F.emax : Int)), .int .i64 (F.emax : Int), .int .i64 (F.wd : Int), .int .i64 (F.e : Int), .bool F.x] 61
 have hb : Below v1.heap.size v1 (v1.alloc (.cells #[.int .i64 (F.p : Int), .int .i64 (1 - (F.emax : Int)), .int .i64 (F.emax : Int), .int .i64 (F.wd : Int), .int .i64 (F.e : Int), .bool F.x] 61)) := (Below.refl _ _).alloc (Nat.le_refl _) _
 replace cw := cw.below hb
 replace cr := cr.below hb
 replace b0 := b0.trans (hb.mono b0.size)
 clear hb
 generalize v1.alloc (.cells #[.int .i64 (F.p : Int), .int .i64 (1 - (F.emax : Int)), .int .i64 (F.emax : Int), .int .i64 (F.wd : Int), .int .i64 (F.e : Int), .bool F.x] 61) = v2 at *
 generalize v1.heap.size = gd at *
 have d0 := cd.cell 0 rfl
 have d1 := cd.cell 1 rfl
 have d2 := cd.cell 2 rfl
 have d3 := cd.cell 3 rfl
 have d4 := cd.cell 4 rfl
 have d5 := cd.cell 5 rfl
 go_wp2_with fail
 refine (kK _).mono ?_
 rintro e v3 ⟨rfl, hb⟩
 replace cw := cw.below hb
 replace cr := cr.below hb
 replace cd := cd.below hb
 replace b0 := b0.trans (hb.mono b0.size)
 clear hb d0 d1 d2 d3 d4 d5
 have d0 := cd.cell 0 rfl
 have d1 := cd.cell 1 rfl
 have d2 := cd.cell 2 rfl
 have d3 := cd.cell 3 rfl
 have d4 := cd.cell 4 rfl
 have d5 := cd.cell 5 rfl
 have x0 := cw.cell 0 rfl
 have x1 := cw.cell 1 rfl
 go_wp2_with fail
 refine (kU _).mono ?_
 rintro e v4 ⟨rfl, hb⟩
 replace cr := cr.below hb
 replace cd := cd.below hb
 replace b0 := b0.trans (hb.mono b0.size)
 clear hb d0 d1 d2 d3 d4 d5 x0 x1
 go_upto_region 5 with fail
 have cp := Cls.new v4 #[.int .i64 4, .bool tn, .int .u64 (M.hiN ts : Int), .int .u64 (M.loN ts : Int), .int .i64 tq] 42
 have hb : Below v4.heap.size v4 (v4.alloc (.cells #[.int .i64 4, .bool tn, .int .u64 (M.hiN ts : Int), .int .u64 (M.loN ts : Int), .int .i64 tq] 42)) := (Below.refl _ _).alloc (Nat.le_refl _) _
 replace cr := cr.below hb
 replace cd := cd.below hb
 replace b0 := b0.trans (hb.mono b0.size)
 clear hb
 generalize v4.alloc (.cells #[.int .i64 4, .bool tn, .int .u64 (M.hiN ts : Int), .int .u64 (M.loN ts : Int), .int .i64 tq] 42) = v5 at *
 generalize v4.heap.size = gp at *
 have p0 := cp.cell 0 rfl
 have p1 := cp.cell 1 rfl
 have p2 := cp.cell 2 rfl
 have p3 := cp.cell 3 rfl
 have p4 := cp.cell 4 rfl
 have r0 := cr.cell 0 rfl
 have r1 := cr.cell 1 rfl
 have r2 := cr.cell 2 rfl
 have r3 := cr.cell 3 rfl
 have z0 := cr.frozen 0
 have z1 := cr.frozen 1
 have z2 := cr.frozen 2
 have z3 := cr.frozen 3
 have lr : w.heap.size + 1 < v5.heap.size := cr.lt
 go_wp2_with fail
 exact bodyPost_ret (v := .agg #[.slice none 0 0, .int .i64 0, .bool tn, .int .i64 0]) (by simp [results, Tryz.results8, go_sem, r0, r1, r2, r3]) rfl ⟨none, 0, rfl, OwnV.nil _ _, below4s b0 (by omega) _ _ _ _⟩

theorem ishort_out5 (f : Int) (X : Nat) (T : M.Pt) (F : M.Fm) (w : World) (hm : Fmt w) (hc : T.c = 5)
 (kE : ∀ v : World, Fmt v → Calls Tryz.prog 44 #[.int .i64 f] v fun e w' => e = .returned (dv F) ∧ Below v.heap.size v w')
 (kK : ∀ v : World, Calls Tryz.prog 45 #[dv F] v fun e w' => e = .returned (.bool true) ∧ Below v.heap.size v w')
 (kU : ∀ v : World, Calls Tryz.prog 46 #[dv F, .agg #[.int .u64 (M.hiN X : Int), .int .u64 (M.loN X : Int)]] v fun e w' => e = .returned (pv T) ∧ Below v.heap.size v w') :
 Calls Tryz.prog 8 #[.int .i64 f, .agg #[.int .u64 (M.hiN X : Int), .int .u64 (M.loN X : Int)]] w fun e w' => ShO w w' e [] 0 T.n 0 := by
 obtain ⟨tc, tn, ts, tq⟩ := T
 simp only [dv, pv] at *
 subst hc
 obtain ⟨cw, cr, b0⟩ := Cls.new2 w #[.int .u64 (M.hiN X : Int), .int .u64 (M.loN X : Int)] #[.slice none 0 0, .int .i64 0, .bool false, .int .i64 0] 29 27
 go_enter Tryz.func8, Tryz.ntmps8
 go_wp2_with fail
 refine (kE _ (hm.below b0)).mono ?_
 rintro e v1 ⟨rfl, hb⟩
 replace cw := cw.below hb
 replace cr := cr.below hb
 replace b0 := b0.trans (hb.mono b0.size)
 clear hb
 go_upto_region 2 with fail
 have cd := Cls.new v1 #[.int .i64 (F.p : Int), .int .i64 (1 - (F.emax : Int)), .int .i64 (F.emax : Int), .int .i64 (F.wd : Int), .int .i64 (F.e : Int), .bool F.x] 61
 have hb : Below v1.heap.size v1 (v1.alloc (.cells #[.int .i64 (F.p : Int), .int .i64 (1 - (F.emax : Int)), .int .i64 (F.emax : Int), .int .i64 (F.wd : Int), .int .i64 (F.e : Int), .bool F.x] 61)) := (Below.refl _ _).alloc (Nat.le_refl _) _
 replace cw := cw.below hb
 replace cr := cr.below hb
 replace b0 := b0.trans (hb.mono b0.size)
 clear hb
 generalize v1.alloc (.cells #[.int .i64 (F.p : Int), .int .i64 (1 - (F.emax : Int)), .int .i64 (F.emax : Int), .int .i64 (F.wd : Int), .int .i64 (F.e : Int), .bool F.x] 61) = v2 at *
 generalize v1.heap.size = gd at *
 have d0 := cd.cell 0 rfl
 have d1 := cd.cell 1 rfl
 have d2 := cd.cell 2 rfl
 have d3 := cd.cell 3 rfl
 have d4 := cd.cell 4 rfl
 have d5 := cd.cell 5 rfl
 go_wp2_with fail
 refine (kK _).mono ?_
 rintro e v3 ⟨rfl, hb⟩
 replace cw := cw.below hb
 replace cr := cr.below hb
 replace cd := cd.below hb
 replace b0 := b0.trans (hb.mono b0.size)
 clear hb d0 d1 d2 d3 d4 d5
 have d0 := cd.cell 0 rfl
 have d1 := cd.cell 1 rfl
 have d2 := cd.cell 2 rfl
 have d3 := cd.cell 3 rfl
 have d4 := cd.cell 4 rfl
 have d5 := cd.cell 5 rfl
 have x0 := cw.cell 0 rfl
 have x1 := cw.cell 1 rfl
 go_wp2_with fail
 refine (kU _).mono ?_
 rintro e v4 ⟨rfl, hb⟩
 replace cr := cr.below hb
 replace cd := cd.below hb
 replace b0 := b0.trans (hb.mono b0.size)
 clear hb d0 d1 d2 d3 d4 d5 x0 x1
 go_upto_region 5 with fail
 have cp := Cls.new v4 #[.int .i64 5, .bool tn, .int .u64 (M.hiN ts : Int), .int .u64 (M.loN ts : Int), .int .i64 tq] 42
 have hb : Below v4.heap.size v4 (v4.alloc (.cells #[.int .i64 5, .bool tn, .int .u64 (M.hiN ts : Int), .int .u64 (M.loN ts : Int), .int .i64 tq] 42)) := (Below.refl _ _).alloc (Nat.le_refl _) _
 replace cr := cr.below hb
 replace cd := cd.below hb
 replace b0 := b0.trans (hb.mono b0.size)
 clear hb
 generalize v4.alloc (.cells #[.int .i64 5, .bool tn, .int .u64 (M.hiN ts : Int), .int .u64 (M.loN ts : Int), .int .i64 tq] 42) = v5 at *
 generalize v4.heap.size = gp at *
 have p0 := cp.cell 0 rfl
 have p1 := cp.cell 1 rfl
 have p2 := cp.cell 2 rfl
 have p3 := cp.cell 3 rfl
 have p4 := cp.cell 4 rfl
 have r0 := cr.cell 0 rfl
 have r1 := cr.cell 1 rfl
 have r2 := cr.cell 2 rfl
 have r3 := cr.cell 3 rfl
 have z0 := cr.frozen 0
 have z1 := cr.frozen 1
 have z2 := cr.frozen 2
 have z3 := cr.frozen 3
 have lr : w.heap.size + 1 < v5.heap.size := cr.lt
 go_wp2_with fail
 exact bodyPost_ret (v := .agg #[.slice none 0 0, .int .i64 0, .bool tn, .int .i64 0]) (by simp [results, Tryz.results8, go_sem, r0, r1, r2, r3]) rfl ⟨none, 0, rfl, OwnV.nil _ _, below4s b0 (by omega) _ _ _ _⟩

theorem ishort_no (f : Int) (hf : f < 0 ∨ 4 ≤ f) (X : Nat) (w : World) (hm : Fmt w) :
 Calls Tryz.prog 8 #[.int .i64 f, .agg #[.int .u64 (M.hiN X : Int), .int .u64 (M.loN X : Int)]] w fun e w' => ShO w w' e [] 0 false 4 := by
 have kE : ∀ v : World, Fmt v → Calls Tryz.prog 44 #[.int .i64 f] v fun e w' => e = .returned (.agg #[.int .i64 0, .int .i64 0, .int .i64 0, .int .i64 0, .int .i64 0, .bool false]) ∧ Below v.heap.size v w' := fun v _ => describeNo f v hf
 have kK := fun v : World => dKnown0 v
 obtain ⟨cw, cr, b0⟩ := Cls.new2 w #[.int .u64 (M.hiN X : Int), .int .u64 (M.loN X : Int)] #[.slice none 0 0, .int .i64 0, .bool false, .int .i64 0] 29 27
 go_enter Tryz.func8, Tryz.ntmps8
 go_wp2_with fail
 refine (kE _ (hm.below b0)).mono ?_
 rintro e v1 ⟨rfl, hb⟩
 replace cw := cw.below hb
 replace cr := cr.below hb
 replace b0 := b0.trans (hb.mono b0.size)
 clear hb
 go_upto_region 2 with fail
 have cd := Cls.new v1 #[.int .i64 0, .int .i64 0, .int .i64 0, .int .i64 0, .int .i64 0, .bool false] 61
 have hb : Below v1.heap.size v1 (v1.alloc (.cells #[.int .i64 0, .int .i64 0, .int .i64 0, .int .i64 0, .int .i64 0, .bool false] 61)) := (Below.refl _ _).alloc (Nat.le_refl _) _
 replace cw := cw.below hb
 replace cr := cr.below hb
 replace b0 := b0.trans (hb.mono b0.size)
 clear hb
 generalize v1.alloc (.cells #[.int .i64 0, .int .i64 0, .int .i64 0, .int .i64 0, .int .i64 0, .bool false] 61) = v2 at *
 generalize v1.heap.size = gd at *
 have d0 := cd.cell 0 rfl
 have d1 := cd.cell 1 rfl
 have d2 := cd.cell 2 rfl
 have d3 := cd.cell 3 rfl
 have d4 := cd.cell 4 rfl
 have d5 := cd.cell 5 rfl
 go_wp2_with fail
 refine (kK _).mono ?_
 rintro e v3 ⟨rfl, hb⟩
 replace cw := cw.below hb
 replace cr := cr.below hb
 replace cd := cd.below hb
 replace b0 := b0.trans (hb.mono b0.size)
 clear hb d0 d1 d2 d3 d4 d5
 have r0 := cr.cell 0 rfl
 have r1 := cr.cell 1 rfl
 have r2 := cr.cell 2 rfl
 have r3 := cr.cell 3 rfl
 have z0 := cr.frozen 0
 have z1 := cr.frozen 1
 have z2 := cr.frozen 2
 have z3 := cr.frozen 3
 have lr : w.heap.size + 1 < v3.heap.size := cr.lt
 go_wp2_with fail
 exact bodyPost_ret (v := .agg #[.slice none 0 0, .int .i64 0, .bool false, .int .i64 4]) (by simp [results, Tryz.results8, go_sem, r0, r1, r2, r3]) rfl ⟨none, 0, rfl, OwnV.nil _ _, below4s b0 (by omega) _ _ _ _⟩

end Go.Proofs.YtmglhkdgfcbonaaGreatDoor
