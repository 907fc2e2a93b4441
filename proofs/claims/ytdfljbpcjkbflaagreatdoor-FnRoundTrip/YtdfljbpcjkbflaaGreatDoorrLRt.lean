import Derived.OpenShut
import Derived.Test.YtdfljbpcjkbflaaGreatDoorrPsW
import Derived.Test.YtdfljbpcjkbflaaGreatDoorrSw
import Derived.Test.YtdfljbpcjkbflaaGreatDoorrSpw
import Derived.Test.YtdfljbpcjkbflaaGreatDoorrSrG
import Derived.Test.YtdfljbpcjkbflaaGreatDoorrHBB
set_option maxHeartbeats 1000000
set_option maxRecDepth 100000
namespace Go.Proofs.YtdfljbpcjkbflaaGreatDoor
open Go.RowKit
set_option linter.unusedVariables false
set_option maxRecDepth 100000
theorem JJ (a j : Nat) (x : Int) (h : a < 2 ^ j) (hj : j ≤ 17200) (hx : -7100 ≤ x) : (D (M.un a x)).length ≤ 1500 := by
 unfold M.un
 have l1 := aK a j 540 h (by omega)
 have l2 := aK (10 ^ (-x).toNat) (4 * (-x).toNat + 1) 900 (lZ _) (by omega)
 have := cF _ _ 540 900 l1 l2
 omega

theorem IX (a j : Nat) (x : Int) (h : a < 2 ^ j) (hj : j ≤ 17200) (hx : x ≤ 7100) : (D (M.ud a x)).length ≤ 1500 := by
 unfold M.ud
 have l1 := aK a j 540 h (by omega)
 have l2 := aK (10 ^ x.toNat) (4 * x.toNat + 1) 900 (lZ _) (by omega)
 have := cF _ _ 540 900 l1 l2
 omega

theorem FZ (t : M.Wd) (h : t.Ok) (r : Nat) : t.pick (t.X + r) < 10 ^ 40 := by
 have e0 : t.T (t.X + r) = t.T t.X / 10 ^ r := M.dP _ _ h.den_pos _ _
 have tb : t.pick (t.X + r) ≤ t.T t.X / 10 ^ r + 1 := by
  rw [← e0]
  unfold M.Wd.pick
  split
  · omega
  · split
    · omega
    · split <;> omega
 have := h.first.2.1
 have := Nat.div_le_self (t.T t.X) (10 ^ r)
 omega

theorem D7 (t : M.Wd) (h : t.Ok) (r : Nat) (b : t.Best r) : (1 ≤ (M.sd (t.pick (t.X + r))).length ∧ (M.sd (t.pick (t.X + r))).length ≤ 41) ∧ -9000 < ((M.sd (t.pick (t.X + r))).length : Int) + wdX t r ∧ ((M.sd (t.pick (t.X + r))).length : Int) + wdX t r < 9000 := by
 have q := FZ t h r
 have h1 := M.iC 39 _ q
 have h2 := M.sO 40 _ q
 have h3 := M.EA (t.pick (t.X + r))
 have h4 := List.length_pos_iff.2 (M.yB _ (b.pick_pos h))
 obtain ⟨-, -, x1, x2⟩ := h.e_le
 have h5 := h.N_le
 have h6 := b.lt
 unfold wdX
 omega

theorem AP (f : Nat) (hf : f < 4) (X : Nat) (hX : X < 2 ^ 128) (w : World) (T : M.Pt) (hT : T = (M.fm f).upk X) (hc : T.c = 2 ∨ T.c = 3) (hpr : (M.fm f).Proper T) :
 Calls Tryz.prog 14 #[.int .i64 (f : Int), .agg #[.int .u64 (M.hiN X : Int), .int .u64 (M.loN X : Int)]] w fun e w' => ∃ ds x n, ((ds = [] ∧ x = 0) ∨ (1 ≤ ds.length ∧ ds.length ≤ 100)) ∧ -9000 < (ds.length : Int) + x ∧ (ds.length : Int) + x < 9000 ∧ ShR w w' e ds x n 0 := by
 have h := M.nD f
 have kU := fun v : World => iW f hf X hX v
 rw [← hT] at kU
 have hfi := vM h hpr hc
 have hok := sP h hfi
 obtain ⟨t, ht⟩ : ∃ t, t = CQ (M.fm f) T := ⟨_, rfl⟩
 rw [← ht] at hok
 have kE := fun v : World => dZ f hf v
 have eM : t.mid = T.s * 2 ^ 2 * 2 ^ (T.q - 2).toNat := by rw [ht]; show 4 * T.s * _ = _; rw [show 4 * T.s = T.s * 2 ^ 2 by omega]; rfl
 have eC : t.den = 2 ^ (2 - T.q).toNat := by rw [ht]; rfl
 obtain ⟨s1, s2, q1, q2, q3, q4, s3, s4⟩ := hfi
 have p1 := h.p1
 have p2 := h.p2
 have em := h.emax_le
 have kP := fun v : World => I8 (f : Int) T (M.fm f) t.den v (by omega) (by omega) (by omega) (by omega) (by omega) p2 (by omega) eC kE
 have hM : t.mid < 2 ^ (128 + (T.q - 2).toNat) := by rw [eM]; exact nY (by omega)
 have l3 : t.den < 2 ^ (128 + (2 - T.q).toNat) := by rw [eC]; exact Nat.pow_lt_pow_right (by omega) (by omega)
 obtain ⟨e1, e2, -, -⟩ := hok.e_le
 have lm := JJ t.mid _ (t.e - 40 + 1) hM (by omega) (by omega)
 have lu := IX t.den _ (t.e - 40 + 1) l3 (by omega) (by omega)
 have lC := aK _ _ 540 l3 (by omega)
 have lM := aK _ _ 540 hM (by omega)
 have l4s := aK (T.s * 2 ^ 2) 128 540 (by omega) (by omega)
 have lS := aK T.s 128 540 (by omega) (by omega)
 have l6 := bW _ _ hM
 have l7 := bW _ _ l3
 exact CG (f : Int) X T (M.fm f) t.den t.mid w (by omega) hc (by omega) (by omega) (by omega) eM hok.den_pos (by omega) (by omega) (by omega) (by omega) (by omega) (by omega) t.e (by omega) (by omega) (by omega) (by omega) (fun y => hok.ten y) kE kU kP

theorem IM (w : World) (hm : Fmt w) (hF : Fol w) (hWd : Wds w) (ht : Pw w.heap.size w) (f : Int) (X : Nat) (hX : X < 2 ^ 128) : ∃ (bs : List Nat) (k : Int), (∀ x ∈ bs, x < 256) ∧
 (∀ v : World, Below w.heap.size w v → Calls Tryz.prog 5 #[.int .i64 f, .agg #[.int .u64 (M.hiN X : Int), .int .u64 (M.loN X : Int)]] v fun e w' => PrO v w' e bs k) ∧
 (∀ v : World, Calls Tryz.prog 6 #[.int .i64 f, .agg #[.int .u64 (M.hiN X : Int), .int .u64 (M.loN X : Int)]] v fun e w' => ∃ bs', PrR v w' e bs' k) ∧
 ((k ≠ 0 ∧ bs = []) ∨ (k = 0 ∧ ∃ (tc : Int) (tn : Bool) (th tl tq : Int) (Y : Nat) (fl : Int),
   (∀ (v : World) (a : Option Addr) (cc : Nat), Below w.heap.size w v → RdB v a bs → Calls Tryz.prog 7 #[.int .i64 f, .slice a bs.length cc] v fun e w' => e = .returned (.agg #[.int .u64 (M.hiN Y : Int), .int .u64 (M.loN Y : Int), .int .i64 0, .int .i64 0, .int .i64 fl]) ∧ Below v.heap.size v w') ∧
   (∀ v : World, Calls Tryz.prog 8 #[.int .i64 f, .agg #[.int .u64 (M.hiN X : Int), .int .u64 (M.loN X : Int)]] v fun e w' => e = .returned (.agg #[.int .i64 tc, .bool tn, .int .u64 th, .int .u64 tl, .int .i64 tq]) ∧ Below v.heap.size v w') ∧
   ((tc ≠ 5 ∧ Y = X) ∨ (tc = 5 ∧ ∃ ok : Bool, ∀ v : World, Calls Tryz.prog 9 #[.int .i64 f, .agg #[.int .i64 5, .bool false, .int .u64 0, .int .u64 0, .int .i64 0]] v fun e w' => e = .returned (.tuple #[.agg #[.int .u64 (M.hiN Y : Int), .int .u64 (M.loN Y : Int)], .bool ok]) ∧ Below v.heap.size v w')))) := by
 have hpw : ∀ v : World, Below w.heap.size w v → Pw v.heap.size v := fun v hv u hu => ht u (hv.trans (hu.mono hv.size))
 by_cases hf : 0 ≤ f ∧ f < 4
 · obtain ⟨k, rfl⟩ : ∃ k : Nat, f = (k : Int) := ⟨f.toNat, by omega⟩
   have hk : k < 4 := by omega
   have h' := M.nD k
   obtain ⟨T, hT⟩ : ∃ T, T = (M.fm k).upk X := ⟨_, rfl⟩
   have hp := h'.upk_proper X
   rw [← hT] at hp
   have hp0 : (M.fm k).p ≠ 0 := by have := h'.p1; omega
   have kE := fun (v : World) (hv : Fmt v) => gB k hk v hv
   have kK := fun v : World => sN (M.fm k) h' v
   have kU := fun v : World => jS (M.fm k) h' X hX v
   have sE := fun v : World => dZ k hk v
   have sU := fun v : World => iW k hk X hX v
   have iU := fun (v : World) (hv : Fmt v) => uK k hk X hX v hv
   rw [← hT] at kU sU iU
   have kR : ∀ (bs : List Nat) (d : M.Dec) (e : cJ bs = (d, 0, 0)) (v : World) (a : Option Addr) (cc : Nat), Below w.heap.size w v → RdB v a bs → Calls Tryz.prog 7 #[.int .i64 (k : Int), .slice a bs.length cc] v fun e w' => e = .returned (.agg #[.int .u64 (M.hiN (peY (M.fm k) d) : Int), .int .u64 (M.loN (peY (M.fm k) d) : Int), .int .i64 0, .int .i64 0, .int .i64 (peF (M.fm k) d)]) ∧ Below v.heap.size v w' := fun bs d e v a cc hv hr => by
    have := wZ k hk a bs.length cc bs v rfl hr (hm.below hv) (hF.below hv) (hWd.below hv)
    rw [e] at this
    exact this
   by_cases hc : T.c = 2 ∨ T.c = 3
   · have hpr : (M.fm k).Proper T := by
      rcases hp with hp | hp
      · rw [hp] at hc; simp at hc
      · exact hp
     obtain ⟨t, htt⟩ : ∃ t, t = CQ (M.fm k) T := ⟨_, rfl⟩
     have hok := sP h' (vM h' hpr hc)
     rw [← htt] at hok
     obtain ⟨r, br⟩ := hok.exists_best
     have kS := fun v : World => AP k hk X hX v T hT hc hpr
     have kI := fun (v : World) (hv : Fmt v) => xH k hk X hX v hv T hT hc t htt r br
     obtain ⟨⟨l1, l2⟩, q1⟩ := D7 t hok r br
     obtain ⟨r1, r2, r3⟩ := II h' X T hT hpr hc t htt hok r br _ rfl _ rfl l2 q1
     generalize M.sd (t.pick (t.X + r)) = ds at *
     generalize wdX t r = xx at *
     have c1 : (T.c : Int) ≠ 1 := by omega
     have c4 : (T.c : Int) ≠ 4 := by omega
     have c5 : (T.c : Int) ≠ 5 := by omega
     have k3 := kR _ _ r2
     rw [r3] at k3
     refine ⟨_, 0, r1, fun v hv => sY _ _ _ _ _ _ _ _ ds xx T.n _ v (hm.below hv) (hpw v hv) (.inr ⟨c5, .inr (.inr ⟨c1, c4, ⟨l1, by omega⟩, _, rfl, q1, rfl⟩)⟩) kI iU, fun v => uP _ _ _ _ _ _ _ _ v (fun u => (kS u).mono ?_) sU, .inr ⟨rfl, _, _, _, _, _, X, _, k3, sU, .inl ⟨c5, rfl⟩⟩⟩
     rintro e w' ⟨d, x, n, g1, g2, g3, g4⟩
     exact ⟨d, x, n, .inr ⟨c5, .inr (.inr ⟨c1, c4, g1, g2, g3⟩)⟩, g4⟩
   · have hcc : T.c = 0 ∨ T.c = 1 ∨ T.c = 4 ∨ T.c = 5 := by
      rcases hp with hp | hp
      · rw [hp]; exact .inl rfl
      · unfold M.Fm.Proper at hp; omega
     obtain ⟨g4, g1, g5⟩ := JU T.n
     by_cases hc0 : T.c = 0
     · exact ⟨[], 3, by simp, fun v hv => qU _ _ _ v (hm.below hv) 3 (by decide) (fun u hu => pE (k : Int) X T (M.fm k) u hu false 3 (.inl ⟨hc0, rfl, rfl⟩) kE kK kU), fun v => (p7 _ _ _ v 3 (by decide) (fun u => o8 (k : Int) X T (M.fm k) u hp0 false 3 (.inl ⟨hc0, rfl, rfl⟩) sE sU)).mono (fun e w' h => ⟨_, h⟩), .inl ⟨by decide, rfl⟩⟩
     have hpr : (M.fm k).Proper T := by
      rcases hp with hp | hp
      · rw [hp] at hc0; simp at hc0
      · exact hp
     have hcx : T.c = 1 ∨ T.c = 4 ∨ T.c = 5 := by omega
     obtain ⟨o4, o1⟩ := JH h' X T hT hpr
     have kI := fun (v : World) (hv : Fmt v) => pE (k : Int) X T (M.fm k) v hv T.n 0 (.inr ⟨hcx, rfl, rfl⟩) kE kK kU
     have kS := fun v : World => o8 (k : Int) X T (M.fm k) v hp0 T.n 0 (.inr ⟨hcx, rfl, rfl⟩) sE sU
     have kW := fun v : World => uP _ _ _ _ _ _ _ _ v (fun u => (kS u).mono (fun e w' g => ⟨[], 0, T.n, (show T.c = 5 ∨ T.c ≠ 5 ∧ (T.c = 4 ∨ T.c = 1 ∨ T.c ≠ 1 ∧ T.c ≠ 4 ∧ _) by omega), g⟩)) sU
     rcases hcx with hc | hc | hc
     · have k3 := kR _ _ g1
       rw [o1 hc] at k3
       exact ⟨_, 0, (by cases T.n <;> simp [M.sgl]), fun v hv => sY _ _ _ _ _ _ _ _ [] 0 T.n _ v (hm.below hv) (hpw v hv) (.inr ⟨by omega, .inr (.inl ⟨by omega, rfl⟩)⟩) kI iU, kW, .inr ⟨rfl, _, _, _, _, _, X, _, k3, sU, .inl ⟨by omega, rfl⟩⟩⟩
     · have k3 := kR _ _ g4
       rw [o4 hc] at k3
       exact ⟨_, 0, (by cases T.n <;> simp [M.sgl]), fun v hv => sY _ _ _ _ _ _ _ _ [] 0 T.n _ v (hm.below hv) (hpw v hv) (.inr ⟨by omega, .inl ⟨by omega, rfl⟩⟩) kI iU, kW, .inr ⟨rfl, _, _, _, _, _, X, _, k3, sU, .inl ⟨by omega, rfl⟩⟩⟩
     · have k3 := kR _ _ g5
       have pn : (M.fm k).Proper ⟨5, false, 0, 0⟩ := by unfold M.Fm.Proper; simp
       have kN := fun v : World => pZ k hk 5 false 0 (by omega) 0 (by omega) (by omega) v
       rw [show wV (M.fm k) ⟨5, false, 0, 0⟩ = peY (M.fm k) ⟨3, false, [], 0⟩ from if_pos pn] at kN
       simp only [hi0, lo0] at kN
       exact ⟨_, 0, (by simp), fun v hv => sY _ _ _ _ _ _ _ _ [] 0 T.n _ v (hm.below hv) (hpw v hv) (.inl ⟨by omega, rfl⟩) kI iU, kW, .inr ⟨rfl, _, _, _, _, _, _, _, k3, sU, .inr ⟨hc, _, kN⟩⟩⟩
 · have hn : f < 0 ∨ 4 ≤ f := by omega
   exact ⟨[], 4, by simp, fun v hv => qU _ _ _ v (hm.below hv) 4 (by decide) (fun u hu => AT f hn X u hu), fun v => (p7 _ _ _ v 4 (by decide) (fun u => AL f hn X u)).mono (fun e w' h => ⟨_, h⟩), .inl ⟨by decide, rfl⟩⟩

theorem lawFnRt (a0 : Option Addr) (n c : Nat) (bs : List Nat) (w : World) (w0 : InB w a0 n c bs) (hm : Fmt w) (hF : Fol w) (hWd : Wds w) (ht : Pw w.heap.size w) :
 Calls Tryz.prog 3 #[.slice a0 n c] w fun e w' => e = .returned (.bool true) ∧ Below w.heap.size w w' := by
 obtain ⟨hl, hc, hb⟩ := w0
 by_cases h1 : n ≤ 1048576
 · exact CC a0 n c w h1 (A8 a0 n c bs w hl h1 hb) (IM w hm hF hWd ht)
 · have h1' : (1048576 : Int) < (n : Int) := by omega
   go_enter Tryz.func3, Tryz.ntmps3
   go_wp2_with fail
   go_ret
   exact ⟨rfl, Below.refl _ _⟩

end Go.Proofs.YtdfljbpcjkbflaaGreatDoor
