import Derived.Test.YtmglhkdgfcbonaaGreatDoorqSrI
namespace Go.Proofs.YtmglhkdgfcbonaaGreatDoor

open Go.RowKit

set_option linter.unusedVariables false
set_option maxRecDepth 100000

set_option maxHeartbeats 1000000 in
theorem zeros_any (t : M.Wd) (h : t.Ok) (r : Nat) (b : t.Best r) (g : Nat) (l3 : (L (t.T t.X)).length ≤ 1000) (l4 : (L t.least).length ≤ 1000) (l5 : (L t.most).length ≤ 1000) (v : World) (hv : Rch v g t.X t.vn t.vd (t.T t.X) t.least t.most) :
    Calls Tryz.prog 93 #[.int .i64 0, .int .i64 ((t.N : Int) - 1), .func (.func 95) #[] #[.pointer (some ⟨g, 0, none⟩)]] v fun e w' => e = .returned (.int .i64 (r : Int)) ∧ Below v.heap.size v w' := by
  have hN := h.N_le
  have hr := b.lt
  have ka : ∀ z : Nat, t.asks z = (decide (t.least ≤ t.T t.X / 10 ^ z * 10 ^ z) || decide (t.T t.X / 10 ^ z * 10 ^ z + 10 ^ z ≤ t.most)) := fun z => rfl
  have kc := fun (z : Nat) (v2 : World) hv hz => clo_any g t.X t.vn t.vd (t.T t.X) t.least t.most z v2 hv hz l3 l4 l5
  simp only [← ka] at kc
  have kb := fun (z : Nat) h1 h2 h3 => h.best_of z h1 h2 h3
  generalize t.asks = P at kc kb
  generalize t.N = n at *
  refine (greatest_any 0 ((n : Int) - 1) (fun x => P x.toNat) (.pointer (some ⟨g, 0, none⟩)) v (by omega) (by omega) (by omega) ?_).mono ?_
  · intro x v2 x1 x2 hb
    obtain ⟨z, rfl⟩ := Int.eq_ofNat_of_zero_le x1
    exact kc z v2 (hv.below hb) (by omega)
  · rintro e w' ⟨s, rfl, s1, s2, s3, s4, hb⟩
    obtain ⟨z, rfl⟩ := Int.eq_ofNat_of_zero_le s1
    have bz : t.Best z := kb z (by omega) (fun hp => s3 (by omega)) (fun hp => s4 (by omega))
    rw [bz.same b]
    exact ⟨rfl, hb⟩

set_option maxHeartbeats 2000000 in
set_option maxRecDepth 10000 in
theorem rshort_key (ex xx : Int) (N De W Ls Ms K r n : Nat) (ds : List Nat) (a1 a2 a3 a4 a5 : Option Addr) (c1 c2 c3 c4 c5 : Nat) (w : World)
    (l3 : (L W).length ≤ 1000) (lK : (L K).length ≤ 1000) (hx1 : -10000 ≤ ex) (hx2 : ex ≤ 10000) (hn : (M.txt W).length = n) (hn2 : n ≤ 1000) (hn1 : 1 ≤ n) (hr : r ≤ 1000) (tK : (M.txt K).length ≤ 1000)
    (bd : M.bareD (M.txt K) = ds) (be : M.bareE (M.txt K) ex = xx)
    (h1 : Rd w a1 (L N)) (h2 : Rd w a2 (L De)) (h3 : Rd w a3 (L W)) (h4 : Rd w a4 (L Ls)) (h5 : Rd w a5 (L Ms))
    (kR : ∀ v : World, Rch v w.heap.size ex N De W Ls Ms → Calls Tryz.prog 93 #[.int .i64 0, .int .i64 ((n : Int) - 1), .func (.func 95) #[] #[.pointer (some ⟨w.heap.size, 0, none⟩)]] v fun e w' => e = .returned (.int .i64 (r : Int)) ∧ Below v.heap.size v w')
    (kN : ∀ v : World, Rd v a1 (L N) → Rd v a2 (L De) → Rd v a3 (L W) → Rd v a4 (L Ls) → Rd v a5 (L Ms) → Calls Tryz.prog 99 #[.agg #[.int .i64 ex, .slice a1 (L N).length c1, .slice a2 (L De).length c2, .slice a3 (L W).length c3, .slice a4 (L Ls).length c4, .slice a5 (L Ms).length c5], .int .i64 (r : Int)] v fun e w' => ∃ ra rc, e = .returned (.slice ra (L K).length rc) ∧ Rd w' ra (L K) ∧ Below v.heap.size v w') :
    Calls Tryz.prog 49 #[.agg #[.int .i64 ex, .slice a1 (L N).length c1, .slice a2 (L De).length c2, .slice a3 (L W).length c3, .slice a4 (L Ls).length c4, .slice a5 (L Ms).length c5]] w fun e w' => ∃ ra rc, e = .returned (.tuple #[.slice ra ds.length rc, .int .i64 xx]) ∧ OwnV w' w.heap.size (.slice ra ds.length rc) ds ∧ Below w.heap.size w w' := by
  have hdig : ∀ x ∈ M.txt K, x < 256 := fun x hx => by have := M.txt_dig K x hx; omega
  have kD := fun (v : World) hr => digits_any W a3 _ c3 v rfl (by omega) hr
  rw [hn] at kD
  have c0 := Cls.new w #[.int .i64 ex, .slice a1 (L N).length c1, .slice a2 (L De).length c2, .slice a3 (L W).length c3, .slice a4 (L Ls).length c4, .slice a5 (L Ms).length c5] 84
  have b0 : Below w.heap.size w (w.alloc (.cells #[.int .i64 ex, .slice a1 (L N).length c1, .slice a2 (L De).length c2, .slice a3 (L W).length c3, .slice a4 (L Ls).length c4, .slice a5 (L Ms).length c5] 84)) := (Below.refl _ _).alloc (Nat.le_refl _) _
  have x2 := c0.cell 2 rfl
  go_enter Tryz.func49, Tryz.ntmps49
  go_wp2_with fail
  refine (kD _ (h3.below b0)).mono ?_
  rintro e v1 ⟨da, dc, rfl, -, hb⟩
  replace c0 := c0.below hb
  replace b0 := b0.trans (hb.mono b0.size)
  clear hb kD x2
  go_wp2_with fail
  refine (kR _ ⟨⟨a1, c1, a2, c2, a3, c3, a4, c4, a5, c5, c0, h1.below b0, h2.below b0, h3.below b0, h4.below b0, h5.below b0⟩⟩).mono ?_
  rintro e v2 ⟨rfl, hb⟩
  replace c0 := c0.below hb
  replace b0 := b0.trans (hb.mono b0.size)
  clear hb kR
  go_upto_region 2 with fail
  have D1 : ∀ v, Below v2.heap.size v2 v → (fun v : World => v.cell? ⟨w.heap.size, 0, none⟩ = some (.int .i64 ex) ∧ v.cell? ⟨w.heap.size, 1, none⟩ = some (.slice a1 (L N).length c1) ∧ v.cell? ⟨w.heap.size, 2, none⟩ = some (.slice a2 (L De).length c2) ∧ v.cell? ⟨w.heap.size, 3, none⟩ = some (.slice a3 (L W).length c3) ∧ v.cell? ⟨w.heap.size, 4, none⟩ = some (.slice a4 (L Ls).length c4) ∧ v.cell? ⟨w.heap.size, 5, none⟩ = some (.slice a5 (L Ms).length c5)) v := fun v hv => ⟨(c0.below hv).cell 0 rfl, (c0.below hv).cell 1 rfl, (c0.below hv).cell 2 rfl, (c0.below hv).cell 3 rfl, (c0.below hv).cell 4 rfl, (c0.below hv).cell 5 rfl⟩
  have hdr : Below v2.heap.size v2 v2.drew := (Below.refl _ _).drew
  have b1 := b0.trans (hdr.mono b0.size)
  go_region_held3 (fun v : World => v.cell? ⟨w.heap.size, 0, none⟩ = some (.int .i64 ex) ∧ v.cell? ⟨w.heap.size, 1, none⟩ = some (.slice a1 (L N).length c1) ∧ v.cell? ⟨w.heap.size, 2, none⟩ = some (.slice a2 (L De).length c2) ∧ v.cell? ⟨w.heap.size, 3, none⟩ = some (.slice a3 (L W).length c3) ∧ v.cell? ⟨w.heap.size, 4, none⟩ = some (.slice a4 (L Ls).length c4) ∧ v.cell? ⟨w.heap.size, 5, none⟩ = some (.slice a5 (L Ms).length c5)) (with_reducible exact D1 _ (by assumption))
    (first
      | (go_at_call 99; refine (kN _ (h1.below b1) (h2.below b1) (h3.below b1) (h4.below b1) (h5.below b1)).mono ?_; rintro e t1 ⟨na, nc, rfl, nr, hbt'⟩; have hb1 := hdr.trans (hbt'.mono (Nat.le_refl _)); clear hbt')
      | (go_at_call 94; refine (digits_any K na _ nc _ rfl (by omega) nr).mono ?_; rintro e t2 ⟨xa, xc, rfl, xo, hbt'⟩; have hb2 := hb1.trans (hbt'.mono hb1.size); have xv := (OwnV.of_own xo hdig).low (b0.trans (hb1.mono b0.size)).size; clear hbt' hb1 xo)
      | (go_at_call 98; refine (bare_any w.heap.size xa _ xc (M.txt K) ex _ rfl (by omega) (by omega) xv).mono ?_; rintro e t3 ⟨rfl, rfl⟩))
  have ov := xv.bv
  rw [bd] at ov
  obtain ⟨va, vc, ev, ov2⟩ := ov
  rw [ev]
  have HV : OwnV t3 w.heap.size (.slice va ds.length vc) ds := ⟨va, vc, rfl, ov2⟩
  have HB := hid (b0.trans (hb2.mono b0.size))
  clear b0 hb2 xv ov2
  go_wp2_with fail
  exact bodyPost_ret (v := .tuple #[.slice va ds.length vc, .int .i64 xx]) (by simp [results, Tryz.results49, go_sem]) rfl ⟨va, vc, rfl, HV, HB.out⟩

theorem rshort_any (t : M.Wd) (h : t.Ok) (r : Nat) (b : t.Best r) (a1 a2 a3 a4 a5 : Option Addr) (c1 c2 c3 c4 c5 : Nat) (w : World)
    (l1 : (L t.vn).length ≤ 1000) (l2 : (L t.vd).length ≤ 1000) (l3 : (L (t.T t.X)).length ≤ 1000) (l4 : (L t.least).length ≤ 1000) (l5 : (L t.most).length ≤ 1000) (hX1 : -10000 ≤ t.X) (hX2 : t.X ≤ 10000)
    (h1 : Rd w a1 (L t.vn)) (h2 : Rd w a2 (L t.vd)) (h3 : Rd w a3 (L (t.T t.X))) (h4 : Rd w a4 (L t.least)) (h5 : Rd w a5 (L t.most)) :
    Calls Tryz.prog 49 #[.agg #[.int .i64 t.X, .slice a1 (L t.vn).length c1, .slice a2 (L t.vd).length c2, .slice a3 (L (t.T t.X)).length c3, .slice a4 (L t.least).length c4, .slice a5 (L t.most).length c5]] w fun e w' => ∃ ra rc, e = .returned (.tuple #[.slice ra (M.sd (t.pick (t.X + r))).length rc, .int .i64 (wdX t r)]) ∧ OwnV w' w.heap.size (.slice ra (M.sd (t.pick (t.X + r))).length rc) (M.sd (t.pick (t.X + r))) ∧ Below w.heap.size w w' := by
  have hN := h.N_le
  have hr := b.lt
  have ePk := h.prog_pick r
  have pp := b.pick_pos h
  have tp := b.T_pos h
  have e0 : t.T (t.X + r) = t.T t.X / 10 ^ r := M.uT_add _ _ h.den_pos _ _
  rw [e0] at tp
  have tx : (M.txt (t.T t.X / 10 ^ r)).length ≤ 20000 := by
    have := M.txt_len 39 (t.T t.X / 10 ^ r) (Nat.lt_of_le_of_lt (Nat.div_le_self _ _) (Nat.lt_trans h.first.2.1 (by decide)))
    omega
  have kN := fun (v : World) h1 h2 h3 h4 h5 => nearest_any t.X t.vn t.vd (t.T t.X) t.least t.most r a1 a2 a3 a4 a5 c1 c2 c3 c4 c5 v (by omega) tp tx l1 l2 l3 l4 l5 h1 h2 h3 h4 h5
  rw [ePk] at kN
  have tb : t.pick (t.X + r) ≤ t.T t.X / 10 ^ r + 1 := by
    rw [← e0]
    unfold M.Wd.pick
    split
    · omega
    · split
      · omega
      · split <;> omega
  have tk : t.pick (t.X + r) * 10 ^ r < 10 ^ 80 := by
    have q1 : t.pick (t.X + r) ≤ 10 ^ 39 := by
      have := h.first.2.1
      have := Nat.div_le_self (t.T t.X) (10 ^ r)
      omega
    have q2 : 10 ^ r ≤ 10 ^ 39 := Nat.pow_le_pow_right (by omega) (by omega)
    have := Nat.mul_le_mul q1 q2
    have q3 : 10 ^ 39 * 10 ^ 39 < 10 ^ 80 := by decide
    omega
  have lPk : (L (t.pick (t.X + r) * 10 ^ r)).length ≤ 5 := M.len_of_lt (B := 18446744073709551616) (by omega) _ _ (Nat.lt_trans tk (by decide))
  obtain ⟨bd, be⟩ := M.bare_tens (t.pick (t.X + r)) pp r t.X
  have be' : M.bareE (M.txt (t.pick (t.X + r) * 10 ^ r)) t.X = wdX t r := be
  clear be
  have tl2 : (M.txt (t.pick (t.X + r) * 10 ^ r)).length ≤ 80 := M.txt_len 79 _ tk
  exact rshort_key t.X (wdX t r) t.vn t.vd (t.T t.X) t.least t.most (t.pick (t.X + r) * 10 ^ r) r t.N _ a1 a2 a3 a4 a5 c1 c2 c3 c4 c5 w l3 (by omega) hX1 hX2 rfl (by omega) (by omega) (by omega) (by omega) bd be' h1 h2 h3 h4 h5 (fun v hv => zeros_any t h r b w.heap.size l3 l4 l5 v hv) kN

end Go.Proofs.YtmglhkdgfcbonaaGreatDoor

