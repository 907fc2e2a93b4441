import Derived.OpenShut
import Derived.Test.YtogkkecnmlnajaaDoorqWrL
import Derived.Test.YtogkkecnmlnajaaDoorqSB
import Derived.Test.YtogkkecnmlnajaaDoorqSN
import Derived.Test.YtogkkecnmlnajaaDoorqRA
import Derived.Test.YtogkkecnmlnajaaDoorqRrF
set_option maxHeartbeats 16000000
set_option maxRecDepth 100000
namespace Go.Proofs.YtogkkecnmlnajaaDoor
open Go.RowKit
set_option linter.unusedVariables false
set_option maxRecDepth 100000
theorem D_exp {x a u : Nat} (h : x < 2 ^ a) (ha : a ≤ 32 * u) : (D x).length ≤ u := D_bits (Nat.lt_of_lt_of_le h (Nat.pow_le_pow_right (by omega) ha))

def wf (f : Int) : Nat := if f < 0 ∨ 4 ≤ f then 1 else f.toNat

def wordF (F : M.Fm) (bs : List Nat) (i : Nat) : Nat × Nat := wdF F.p F.wd (1 - (F.emax : Int)) F.emax (1 - (F.emax : Int) - F.p + 1) (ansN F) (fun t => decide (F.Proper t)) bs i

theorem ansN_lt {F : M.Fm} (h : F.Ok) (t : M.Pt) : ansN F t < 2 ^ 128 := by
 unfold ansN
 by_cases hp : F.Proper t
 · rw [if_pos hp]
   exact Nat.lt_of_lt_of_le (h.upk_pk t hp).2 h.width.2.2
 · rw [if_neg hp]; exact Nat.pow_pos (by omega)

theorem word_of (f : Int) {w0 v : World} {ao : Option Addr} {n c i : Nat} {bs : List Nat} (hl : bs.length = n) (hn : n ≤ 1048576) (hb : RdB w0 ao bs) (h : Rp w0 v ao n c i) :
 Calls Tryd.prog 16 #[.pointer (some ⟨w0.heap.size, 0, none⟩), .int .i64 f] v fun e v' => ∃ X j : Nat, Hid ((X, j) = wordF (M.fm (wf f)) bs i) ∧ X < 2 ^ 128 ∧ e = .returned (.agg #[.int .u64 (M.hiN X : Int), .int .u64 (M.loN X : Int)]) ∧ Rp w0 v' ao n c j := by
 have hw4 : wf f < 4 := by unfold wf; split <;> omega
 have ok := M.fm_ok (wf f)
 have kE := fun u : World => sdescribe_ok (wf f) hw4 u
 have kP := fun (cl : Int) (ng : Bool) (s : Nat) (q : Int) (u : World) (hs : s < 2 ^ 128) (h1 : -1000000 ≤ q) (h2 : q ≤ 1000000) => spack_any (wf f) hw4 cl ng s hs q (by omega) (by omega) u
 simp only [dv] at kE
 have p1 := ok.p1; have p2 := ok.p2; have hwd := ok.w
 have hem : (M.fm (wf f)).emax ≤ 16383 ∧ 1 ≤ (M.fm (wf f)).emax := by
  have e2 := ok.e2
  have e1 := ok.e1
  unfold M.Fm.emax
  have a : 2 ^ ((M.fm (wf f)).e - 1) ≤ 2 ^ 14 := Nat.pow_le_pow_right (by omega) (by omega)
  have b : 2 ^ 7 ≤ 2 ^ ((M.fm (wf f)).e - 1) := Nat.pow_le_pow_right (by omega) (by omega)
  omega
 unfold wordF
 by_cases hf : f < 0 ∨ 4 ≤ f
 · have e1 : wf f = 1 := by unfold wf; rw [if_pos hf]
   rw [e1] at hw4 ok kE kP p1 p2 hwd hem ⊢
   generalize M.fm 1 = F at *
   exact word_at F.p (F.p - 1) F.wd (129 - F.p) f 1 (1 - (F.emax : Int)) F.emax F.e _ (F.emax - (1 - (F.emax : Int)) + 1) F.x (ansN F) _ (fun t => ansN_lt ok t) hl hn hb h (by omega) (by omega) (by omega) (by omega) hwd rfl rfl (by omega) (by omega) (by omega) (by omega) 0 0 0 0 0 false (fun u => sdescribeNo f u hf) (Or.inr ⟨rfl, kE, rfl⟩) kP
 · have e1 : ((wf f : Nat) : Int) = f := by unfold wf; rw [if_neg hf]; omega
   rw [e1] at kE kP
   generalize M.fm (wf f) = F at *
   exact word_at F.p (F.p - 1) F.wd (129 - F.p) f f (1 - (F.emax : Int)) F.emax F.e _ (F.emax - (1 - (F.emax : Int)) + 1) F.x (ansN F) _ (fun t => ansN_lt ok t) hl hn hb h (by omega) (by omega) (by omega) (by omega) hwd rfl rfl (by omega) (by omega) (by omega) (by omega) _ _ _ _ _ _ kE (Or.inl ⟨rfl, rfl, rfl, rfl, rfl, rfl, rfl⟩) kP

def drT (f : Int) (X : Nat) : M.Pt := if f < 0 ∨ 4 ≤ f then ⟨0, false, 0, 0⟩ else (M.fm f.toNat).upk X

theorem unpack_of (f : Int) (X : Nat) (hX : X < 2 ^ 128) (v : World) :
 Calls Tryd.prog 15 #[.int .i64 f, .agg #[.int .u64 (M.hiN X : Int), .int .u64 (M.loN X : Int)]] v fun e v' => e = .returned (.agg #[.int .i64 (drT f X).c, .bool (drT f X).n, .int .u64 (M.hiN (drT f X).s : Int), .int .u64 (M.loN (drT f X).s : Int), .int .i64 (drT f X).q]) ∧ Below v.heap.size v v' := by
 by_cases hf : f < 0 ∨ 4 ≤ f
 · have e : drT f X = ⟨0, false, 0, 0⟩ := by unfold drT; rw [if_pos hf]
   rw [e]
   exact sunpack_no f hf _ _ v
 · have e : drT f X = (M.fm f.toNat).upk X := by unfold drT; rw [if_neg hf]
   have := sunpack_any f.toNat (by omega) X hX v
   rw [show ((f.toNat : Nat) : Int) = f by omega] at this
   rw [e]
   exact this

theorem drr_any (n : Nat) (bs : List Nat) (hl : bs.length = n) (hn : n ≤ 1048576) :
 ∃ (f : Int) (ng : Bool) (xs ys : List Nat), ∀ (w : World) (ao : Option Addr) (c : Nat), RdB w ao bs → Calls Tryd.prog 4 #[.slice ao n c] w fun e w' => DrR w w' e f ng xs ys ∧ DrG xs ys := by
 obtain ⟨f, hf⟩ : ∃ f, f = fmtF bs 0 := ⟨_, rfl⟩
 obtain ⟨X, hX⟩ : ∃ X, X = (wordF (M.fm (wf f)) bs (drI bs)).1 := ⟨_, rfl⟩
 obtain ⟨j, hj⟩ : ∃ j, j = (wordF (M.fm (wf f)) bs (drI bs)).2 := ⟨_, rfl⟩
 refine ⟨f, drN bs, _, _, fun w ao c hb => drr_key f X j (bA (M.fm f.toNat) (drT f X)) (bB (drT f X)) (bC (drT f X)) (drT f X) ao n c bs w hl hn hb hf ?_ ?_ ?_ ?_⟩
 · intro v hr
   refine (word_of f hl hn hb hr).mono ?_
   rintro e v' ⟨X', j', HX, hX8, rfl, hr'⟩
   have e2 := HX.out
   have eX : X = X' := by rw [hX, ← e2]
   have ej : j = j' := by rw [hj, ← e2]
   rw [eX, ej]
   exact ⟨rfl, hX8, hr'⟩
 · exact fun hX8 v => unpack_of f X hX8 v
 · intro hc v
   by_cases hn4 : f < 0 ∨ 4 ≤ f
   · have e : drT f X = ⟨0, false, 0, 0⟩ := by unfold drT; rw [if_pos hn4]
     rw [e] at hc; simp at hc
   · have e : drT f X = (M.fm f.toNat).upk X := by unfold drT; rw [if_neg hn4]
     have e1 : ((f.toNat : Nat) : Int) = f := by omega
     have h := M.fm_ok f.toNat
     have hp : (M.fm f.toNat).Proper (drT f X) := by
      rw [e]
      rcases h.upk_proper X with e' | e'
      · rw [e, e'] at hc; simp at hc
      · exact e'
     have hfi := fin_of h hp hc.symm
     have := sspan_any f.toNat (by omega) (drT f X) h hfi hc.symm v (fun c3 he => sspanB f.toNat (by omega) (drT f X) h hfi c3 he v)
     rw [e1] at this
     exact this
 · intro hc
   by_cases hn4 : f < 0 ∨ 4 ≤ f
   · have e : drT f X = ⟨0, false, 0, 0⟩ := by unfold drT; rw [if_pos hn4]
     rw [e] at hc; simp at hc
   · have e : drT f X = (M.fm f.toNat).upk X := by unfold drT; rw [if_neg hn4]
     have h := M.fm_ok f.toNat
     have hp : (M.fm f.toNat).Proper (drT f X) := by
      rw [e]
      rcases h.upk_proper X with e' | e'
      · rw [e, e'] at hc; simp at hc
      · exact e'
     have hfi := fin_of h hp hc.symm
     obtain ⟨b1, b2, b3, b4, b5⟩ := bnd_lt hfi
     have s1 := hfi.s1
     refine ⟨?_, ?_, ?_, ?_, ?_⟩
     · unfold bA bLow
       exact Nat.mul_pos (by split <;> omega) (Nat.pow_pos (by omega))
     · unfold bB
       exact Nat.mul_pos (by omega) (Nat.pow_pos (by omega))
     · exact D_exp b1 (by omega)
     · exact D_exp b2 (by omega)
     · exact D_exp b3 (by omega)

theorem nr_no (f : Int) (ng : Bool) (xs ys bs : List Nat) (ao : Option Addr) (n c : Nat) (w : World) (hl : bs.length = n) (hn : n ≤ 1048576) (hb : RdB w ao bs) (hF : Fmt w)
 (kD : ∀ v : World, RdB v ao bs → Calls Tryd.prog 4 #[.slice ao n c] v fun e v' => DrR v v' e f ng xs ys ∧ DrG xs ys)
 (kS : ∀ (v : World) (a b : Option Addr) (cc dd : Nat), xs.length ≤ cc → ys.length ≤ dd → Rd v a xs → Rd v b ys → Calls Tryd.prog 5 #[.int .i64 f, .bool ng, .slice a xs.length cc, .slice b ys.length dd] v fun e w' => e = .returned (.agg #[.int .u64 0, .int .u64 0, .int .i64 0, .bool false]) ∧ Below v.heap.size v w')
 (kI : ∀ (v : World) (a b : Option Addr) (cc dd : Nat), Fmt v → xs.length ≤ cc → ys.length ≤ dd → Rd v a xs → Rd v b ys → Calls Tryd.prog 6 #[.int .i64 f, .bool ng, .slice a xs.length cc, .slice b ys.length dd] v fun e w' => e = .returned (.agg #[.int .u64 0, .int .u64 0, .int .i64 0, .bool false]) ∧ Below v.heap.size v w') :
 Calls Tryd.prog 3 #[.slice ao n c] w fun e w' => e = .returned (.bool true) ∧ Below w.heap.size w w' := by
 have hn' : ¬ (1048576 : Int) < (n : Int) := by omega
 go_enter Tryd.func3, Tryd.ntmps3
 go_wp2_with fail
 refine (kD _ hb).mono ?_
 rintro e v1 ⟨⟨xa, xc, ya, yc, rfl, rx, ry, cx, cy, b0⟩, hG⟩
 go_wp2_with fail
 refine (kS _ xa ya xc yc cx cy rx ry).mono ?_
 rintro e v2 ⟨rfl, hb2⟩
 replace rx := rx.below hb2
 replace ry := ry.below hb2
 replace b0 := b0.trans (hb2.mono b0.size)
 clear hb2 kS
 go_upto_region 5 with fail
 have cW := Cls.new v2 #[.int .u64 0, .int .u64 0, .int .i64 0, .bool false] 30
 have bA : Below v2.heap.size v2 (v2.alloc (.cells #[.int .u64 0, .int .u64 0, .int .i64 0, .bool false] 30)) := (Below.refl _ _).alloc (Nat.le_refl _) _
 replace rx := rx.below bA
 replace ry := ry.below bA
 replace b0 := b0.trans (bA.mono b0.size)
 clear bA
 generalize v2.alloc (.cells #[.int .u64 0, .int .u64 0, .int .i64 0, .bool false] 30) = v3 at *
 generalize v2.heap.size = gw at *
 go_wp2_with fail
 refine (kD _ (hb.below b0)).mono ?_
 rintro e v4 ⟨⟨xa2, xc2, ya2, yc2, rfl, rx2, ry2, cx2, cy2, hb2⟩, _⟩
 replace rx := rx.below hb2
 replace ry := ry.below hb2
 replace cW := cW.below hb2
 replace b0 := b0.trans (hb2.mono b0.size)
 clear hb2 kD rx2 ry2
 go_wp2_with fail
 refine (kI _ xa ya xc yc (hF.below b0) cx cy rx ry).mono ?_
 rintro e v5 ⟨rfl, hb2⟩
 replace cW := cW.below hb2
 replace b0 := b0.trans (hb2.mono b0.size)
 clear hb2 kI rx ry
 go_upto_region 7 with fail
 have cG := Cls.new v5 #[.int .u64 0, .int .u64 0, .int .i64 0, .bool false] 30
 have bA : Below v5.heap.size v5 (v5.alloc (.cells #[.int .u64 0, .int .u64 0, .int .i64 0, .bool false] 30)) := (Below.refl _ _).alloc (Nat.le_refl _) _
 replace cW := cW.below bA
 replace b0 := b0.trans (bA.mono b0.size)
 clear bA
 generalize v5.alloc (.cells #[.int .u64 0, .int .u64 0, .int .i64 0, .bool false] 30) = v6 at *
 generalize v5.heap.size = gg at *
 have w3 := cW.cell 3 rfl
 have g0 := cG.cell 0 rfl
 have g1 := cG.cell 1 rfl
 have g3 := cG.cell 3 rfl
 go_wp2_with fail
 go_ret
 exact ⟨rfl, b0⟩

def dst (a b : Nat) : Nat := if b ≤ a then a - b else b - a

def NrBad (N De n0 d0 n1 d1 : Nat) (odd : Prop) : Prop := cmpI ((dst (n0 * De) (d0 * N) * d1 : Nat) : Int) ((dst (n1 * De) (d1 * N) * d0 : Nat) : Int) = 1 ∨ cmpI ((dst (n0 * De) (d0 * N) * d1 : Nat) : Int) ((dst (n1 * De) (d1 * N) * d0 : Nat) : Int) = 0 ∧ odd

theorem nr_key (f fl cl q : Int) (ng : Bool) (X s : Nat) (Y : Bool → Nat) (sb : Bool → Bool) (n0 d0 : Nat) (n1 d1 : Bool → Nat) (xs ys bs : List Nat) (ao : Option Addr) (n c : Nat) (w : World) (hl : bs.length = n) (hn : n ≤ 1048576) (hb : RdB w ao bs) (hF : Fmt w)
 (kD : ∀ v : World, RdB v ao bs → Calls Tryd.prog 4 #[.slice ao n c] v fun e v' => DrR v v' e f ng xs ys ∧ DrG xs ys)
 (kS : ∀ (v : World) (a b : Option Addr) (cc dd : Nat), xs.length ≤ cc → ys.length ≤ dd → Rd v a xs → Rd v b ys → Calls Tryd.prog 5 #[.int .i64 f, .bool ng, .slice a xs.length cc, .slice b ys.length dd] v fun e w' => e = .returned (.agg #[.int .u64 (M.hiN X : Int), .int .u64 (M.loN X : Int), .int .i64 fl, .bool true]) ∧ Below v.heap.size v w')
 (kI : ∀ (v : World) (a b : Option Addr) (cc dd : Nat), Fmt v → xs.length ≤ cc → ys.length ≤ dd → Rd v a xs → Rd v b ys → Calls Tryd.prog 6 #[.int .i64 f, .bool ng, .slice a xs.length cc, .slice b ys.length dd] v fun e w' => e = .returned (.agg #[.int .u64 (M.hiN X : Int), .int .u64 (M.loN X : Int), .int .i64 fl, .bool true]) ∧ Below v.heap.size v w')
 (kU : ∀ v : World, Fmt v → Calls Tryd.prog 7 #[.int .i64 f, .agg #[.int .u64 (M.hiN X : Int), .int .u64 (M.loN X : Int)]] v fun e w' => e = .returned (.agg #[.int .i64 cl, .bool ng, .int .u64 (M.hiN s : Int), .int .u64 (M.loN s : Int), .int .i64 q]) ∧ Below v.heap.size v w')
 (kT : ∀ (v : World) (up : Bool), Fmt v → Calls Tryd.prog 11 #[.int .i64 f, .agg #[.int .u64 (M.hiN X : Int), .int .u64 (M.loN X : Int)], .bool up] v fun e w' => e = .returned (.tuple #[.agg #[.int .u64 (M.hiN (Y up) : Int), .int .u64 (M.loN (Y up) : Int)], .bool (sb up)]) ∧ Below v.heap.size v w')
 (kV : ∀ v : World, Calls Tryd.prog 8 #[.int .i64 f, .agg #[.int .u64 (M.hiN X : Int), .int .u64 (M.loN X : Int)]] v fun e w' => Vl v w' e n0 d0)
 (kV1 : ∀ (v : World) (up : Bool), sb up = true → Calls Tryd.prog 8 #[.int .i64 f, .agg #[.int .u64 (M.hiN (Y up) : Int), .int .u64 (M.loN (Y up) : Int)]] v fun e w' => Vl v w' e (n1 up) (d1 up))
 (c0 : cl ≠ 0) (c5 : cl ≠ 5) (hX : X < 2 ^ 128)
 (bd : xs.length + ys.length ≤ 400 → (L (n0 * V ys)).length ≤ 1200 ∧ (L (d0 * V xs)).length ≤ 1200 ∧ (L (dst (n0 * V ys) (d0 * V xs))).length ≤ 1200 ∧ ∀ up, sb up = true → (L (n1 up * V ys)).length ≤ 1200 ∧ (L (d1 up * V xs)).length ≤ 1200 ∧ (L (dst (n1 up * V ys) (d1 up * V xs))).length ≤ 1200 ∧ (L (dst (n0 * V ys) (d0 * V xs) * d1 up)).length ≤ 1200 ∧ (L (dst (n1 up * V ys) (d1 up * V xs) * d0)).length ≤ 1200)
 (good : ∀ up, sb up = true → ¬ NrBad (V xs) (V ys) n0 d0 (n1 up) (d1 up) (M.loN X % 2 = 1 ∧ cl ≠ 4)) :
 Calls Tryd.prog 3 #[.slice ao n c] w fun e w' => e = .returned (.bool true) ∧ Below w.heap.size w w' := by
 have hn' : ¬ (1048576 : Int) < (n : Int) := by omega
 have HBD := hid bd; have HGD := hid good
 clear bd good
 go_enter Tryd.func3, Tryd.ntmps3
 go_wp2_with fail
 refine (kD _ hb).mono ?_
 rintro e v1 ⟨⟨xa, xc, ya, yc, rfl, rx, ry, cx, cy, b0⟩, hG⟩
 go_wp2_with fail
 refine (kS _ xa ya xc yc cx cy rx ry).mono ?_
 rintro e v2 ⟨rfl, hb2⟩
 replace rx := rx.below hb2
 replace ry := ry.below hb2
 replace b0 := b0.trans (hb2.mono b0.size)
 clear hb2 kS
 go_upto_region 5 with fail
 have cW := Cls.new v2 #[.int .u64 (M.hiN X : Int), .int .u64 (M.loN X : Int), .int .i64 fl, .bool true] 30
 have bA : Below v2.heap.size v2 (v2.alloc (.cells #[.int .u64 (M.hiN X : Int), .int .u64 (M.loN X : Int), .int .i64 fl, .bool true] 30)) := (Below.refl _ _).alloc (Nat.le_refl _) _
 replace rx := rx.below bA
 replace ry := ry.below bA
 replace b0 := b0.trans (bA.mono b0.size)
 clear bA
 generalize v2.alloc (.cells #[.int .u64 (M.hiN X : Int), .int .u64 (M.loN X : Int), .int .i64 fl, .bool true] 30) = v3 at *
 generalize v2.heap.size = gw at *
 go_wp2_with fail
 refine (kD _ (hb.below b0)).mono ?_
 rintro e v4 ⟨⟨xa2, xc2, ya2, yc2, rfl, rx2, ry2, cx2, cy2, hb2⟩, _⟩
 replace rx := rx.below hb2
 replace ry := ry.below hb2
 replace cW := cW.below hb2
 replace b0 := b0.trans (hb2.mono b0.size)
 clear hb2 kD
 go_wp2_with fail
 refine (kI _ xa ya xc yc (hF.below b0) cx cy rx ry).mono ?_
 rintro e v5 ⟨rfl, hb2⟩
 replace rx2 := rx2.below hb2
 replace ry2 := ry2.below hb2
 replace cW := cW.below hb2
 replace b0 := b0.trans (hb2.mono b0.size)
 clear hb2 kI rx ry cx cy
 go_upto_region 7 with fail
 have cG := Cls.new v5 #[.int .u64 (M.hiN X : Int), .int .u64 (M.loN X : Int), .int .i64 fl, .bool true] 30
 have bA : Below v5.heap.size v5 (v5.alloc (.cells #[.int .u64 (M.hiN X : Int), .int .u64 (M.loN X : Int), .int .i64 fl, .bool true] 30)) := (Below.refl _ _).alloc (Nat.le_refl _) _
 replace rx2 := rx2.below bA
 replace ry2 := ry2.below bA
 replace cW := cW.below bA
 replace b0 := b0.trans (bA.mono b0.size)
 clear bA
 generalize v5.alloc (.cells #[.int .u64 (M.hiN X : Int), .int .u64 (M.loN X : Int), .int .i64 fl, .bool true] 30) = v6 at *
 generalize v5.heap.size = gg at *
 have w3 := cW.cell 3 rfl
 have g0 := cG.cell 0 rfl
 have g1 := cG.cell 1 rfl
 have g3 := cG.cell 3 rfl
 go_wp2_with fail
 refine (kU _ (hF.below b0)).mono ?_
 rintro e v7 ⟨rfl, hb2⟩
 replace rx2 := rx2.below hb2
 replace ry2 := ry2.below hb2
 replace cW := cW.below hb2
 replace cG := cG.below hb2
 replace b0 := b0.trans (hb2.mono b0.size)
 clear hb2 kU w3 g0 g1 g3
 go_upto_region 12 with fail
 have cP := Cls.new v7 #[.int .i64 cl, .bool ng, .int .u64 (M.hiN s : Int), .int .u64 (M.loN s : Int), .int .i64 q] 33
 have bA : Below v7.heap.size v7 (v7.alloc (.cells #[.int .i64 cl, .bool ng, .int .u64 (M.hiN s : Int), .int .u64 (M.loN s : Int), .int .i64 q] 33)) := (Below.refl _ _).alloc (Nat.le_refl _) _
 replace rx2 := rx2.below bA
 replace ry2 := ry2.below bA
 replace cW := cW.below bA
 replace cG := cG.below bA
 replace b0 := b0.trans (bA.mono b0.size)
 clear bA
 generalize v7.alloc (.cells #[.int .i64 cl, .bool ng, .int .u64 (M.hiN s : Int), .int .u64 (M.loN s : Int), .int .i64 q] 33) = v8 at *
 generalize v7.heap.size = gp at *
 have p0 := cP.cell 0 rfl
 have p1 := cP.cell 1 rfl
 have w0 := cW.cell 0 rfl
 have w1 := cW.cell 1 rfl
 have w2 := cW.cell 2 rfl
 have g0 := cG.cell 0 rfl
 have g1 := cG.cell 1 rfl
 have g2 := cG.cell 2 rfl
 have nn : (ng != ng) = false := by simp
 have e0 : (cl == 0) = false := by simp [c0]
 have e5 : (cl == 5) = false := by simp [c5]
 have ff : (fl == fl) = true := by simp
 obtain ⟨lx, hlx⟩ : ∃ lx, lx = xs.length := ⟨_, rfl⟩
 obtain ⟨ly, hly⟩ : ∃ ly, ly = ys.length := ⟨_, rfl⟩
 rw [← hlx, ← hly] at HBD ⊢
 have HLX := hid hlx; have HLY := hid hly
 have lx1 : lx ≤ 1201 := by rw [hlx]; exact hG.2.2.1
 have ly1 : ly ≤ 1201 := by rw [hly]; exact hG.2.2.2
 clear hlx hly
 by_cases h4 : lx + ly ≤ 400
 · have h4' : ¬ (400 : Int) < (lx : Int) + (ly : Int) := by omega
   obtain ⟨q1, q2, q3, q4⟩ := HBD.out h4
   have Q4 := hid q4
   have nX : Num v8 xa2 lx (V xs) := ⟨xs, HLX.out.symm, hG.1, rfl, by omega, rx2⟩
   have nY : Num v8 ya2 ly (V ys) := ⟨ys, HLY.out.symm, hG.2.1, rfl, by omega, ry2⟩
   clear HBD q4 rx2 ry2 hG HLX HLY cx2 cy2
   obtain ⟨N, hN⟩ : ∃ N, N = V xs := ⟨_, rfl⟩
   obtain ⟨De, hDe⟩ : ∃ De, De = V ys := ⟨_, rfl⟩
   rw [← hN] at nX q2
   rw [← hDe] at nY q1
   rw [← hN, ← hDe] at q3 HGD Q4
   clear hN hDe
   go_wp2_with fail
   refine (kV _).mono ?_
   rintro e v9 ⟨a0, k0, s0, a1, k1, s1, rfl, m0, m1, hb2⟩
   replace nX := nX.below hb2
   replace nY := nY.below hb2
   replace cW := cW.below hb2
   replace cG := cG.below hb2
   replace cP := cP.below hb2
   replace b0 := b0.trans (hb2.mono b0.size)
   clear hb2 kV p0 p1 w0 w1 w2 g0 g1 g2
   go_wp2_with fail
   refine (mulN n0 De _ _ _ _ _ _ _ m0 nY).mono ?_
   rintro e v10 ⟨a2, s2, rfl, r2, hb2⟩
   replace nX := nX.below hb2
   replace nY := nY.below hb2
   replace m1 := m1.below hb2
   replace cW := cW.below hb2
   replace cG := cG.below hb2
   replace cP := cP.below hb2
   replace b0 := b0.trans (hb2.mono b0.size)
   clear hb2 m0
   go_wp2_with fail
   refine (mulN d0 N _ _ _ _ _ _ _ m1 nX).mono ?_
   rintro e v11 ⟨a3, s3, rfl, r3, hb2⟩
   replace nX := nX.below hb2
   replace nY := nY.below hb2
   replace m1 := m1.below hb2
   replace r2 := r2.below hb2
   replace cW := cW.below hb2
   replace cG := cG.below hb2
   replace cP := cP.below hb2
   replace b0 := b0.trans (hb2.mono b0.size)
   clear hb2
   have kp : Calls Tryd.prog 9 #[.slice a2 (L (n0 * De)).length s2, .slice a3 (L (d0 * N)).length s3] v11 fun e w' => Sn v11 w' e (dst (n0 * De) (d0 * N)) := apart_any (n0 * De) (d0 * N) a2 a3 s2 s3 v11 q1 q2 r2 r3
   obtain ⟨H0, hH0⟩ : ∃ H0, H0 = dst (n0 * De) (d0 * N) := ⟨_, rfl⟩
   unfold NrBad at HGD
   rw [← hH0] at kp q3 HGD Q4
   clear hH0
   go_wp2_with fail
   refine kp.mono ?_
   rintro e v12 ⟨a4, s4, rfl, r4, hb2⟩
   replace nX := nX.below hb2
   replace nY := nY.below hb2
   replace m1 := m1.below hb2
   replace cW := cW.below hb2
   replace cG := cG.below hb2
   replace cP := cP.below hb2
   replace b0 := b0.trans (hb2.mono b0.size)
   have mH := Num.of q3 r4
   clear hb2 kp r2 r3 r4 q1 q2
   have cL := Cls.new v12 #[.bool false, .bool true] 4
   have bA : Below v12.heap.size v12 (v12.alloc (.cells #[.bool false, .bool true] 4)) := (Below.refl _ _).alloc (Nat.le_refl _) _
   replace nX := nX.below bA
   replace nY := nY.below bA
   replace m1 := m1.below bA
   replace mH := mH.below bA
   replace cW := cW.below bA
   replace cG := cG.below bA
   replace cP := cP.below bA
   replace b0 := b0.trans (bA.mono b0.size)
   clear bA
   go_wp2_with fail
   generalize v12.alloc (.cells #[.bool false, .bool true] 4) = v13 at *
   obtain ⟨gl, hgl⟩ : ∃ gl, gl = v12.heap.size := ⟨_, rfl⟩
   rw [← hgl] at cL ⊢
   clear hgl
   have xlt : M.loN X < 18446744073709551616 := by unfold M.loN; omega
   go_loopw [18, 19, 20, 21, 22, 23, 24, 116] (fun s18 s19 s20 s21 s22 s23 s24 iv wx => ∃ i : Nat, i ≤ 2 ∧ iv = .int .i64 (i : Int) ∧ (∃ c, s18 = c) ∧ (∃ c, s19 = c) ∧ (∃ c, s20 = c) ∧ (∃ c, s21 = c) ∧ (∃ c, s22 = c) ∧ (∃ c, s23 = c) ∧ (∃ c, s24 = c) ∧ Below v13.heap.size v13 wx) (fun _ _ _ _ _ _ _ iv _ => 2 - (intOf iv).toNat)
   case atStart => exact ⟨0, by omega, rfl, ⟨_, rfl⟩, ⟨_, rfl⟩, ⟨_, rfl⟩, ⟨_, rfl⟩, ⟨_, rfl⟩, ⟨_, rfl⟩, ⟨_, rfl⟩, Below.refl _ _⟩
   case round =>
    rename World => wx
    obtain ⟨i, hi2, rfl, ⟨s18, rfl⟩, ⟨s19, rfl⟩, ⟨s20, rfl⟩, ⟨s21, rfl⟩, ⟨s22, rfl⟩, ⟨s23, rfl⟩, ⟨s24, rfl⟩, hbx⟩ := hrel
    have bw := b0.trans (hbx.mono b0.size)
    by_cases hlt : i < 2
    · have hlt' : (i : Int) < 2 := by omega
      have hi0 : (0 : Int) ≤ (i : Int) := by omega
      obtain ⟨up, hcell⟩ : ∃ up, wx.cell? ⟨gl, i, none⟩ = some (.bool up) := by
       have cL2 := cL.below hbx
       rcases (show i = 0 ∨ i = 1 by omega) with rfl | rfl
       · exact ⟨false, cL2.cell 0 rfl⟩
       · exact ⟨true, cL2.cell 1 rfl⟩
      have cG1 := cG.below hbx
      have g0 := cG1.cell 0 rfl
      have g1 := cG1.cell 1 rfl
      go_wp2_with fail
      refine (kT _ up (hF.below bw)).mono ?_
      rintro e u1 ⟨rfl, hb2⟩
      have B1 := hbx.trans (hb2.mono hbx.size)
      clear hcell g0 g1 cG1 hb2 hbx bw
      have cY := Cls.new u1 #[.int .u64 (M.hiN (Y up) : Int), .int .u64 (M.loN (Y up) : Int)] 28
      have bA : Below u1.heap.size u1 (u1.alloc (.cells #[.int .u64 (M.hiN (Y up) : Int), .int .u64 (M.loN (Y up) : Int)] 28)) := (Below.refl _ _).alloc (Nat.le_refl _) _
      replace B1 := B1.trans (bA.mono B1.size)
      clear bA
      go_upto_region 22 with fail
      generalize u1.alloc (.cells #[.int .u64 (M.hiN (Y up) : Int), .int .u64 (M.loN (Y up) : Int)] 28) = u2 at *
      generalize u1.heap.size = gy at *
      obtain ⟨sk, hsk⟩ : ∃ sk, sk = sb up := ⟨_, rfl⟩
      rw [← hsk]
      cases sk
      · clear hsk
        go_wp2_with fail
        go_roundw
        case rel => exact ⟨i + 1, by omega, by go_num, ⟨_, rfl⟩, ⟨_, rfl⟩, ⟨_, rfl⟩, ⟨_, rfl⟩, ⟨_, rfl⟩, ⟨_, rfl⟩, ⟨_, rfl⟩, B1⟩
        case measure => simp [intOf]; omega
      · obtain ⟨l1, l2, l3, l4, l5⟩ := Q4.out up hsk.symm
        have hgd := HGD.out up hsk.symm
        have kv := kV1 u2 up hsk.symm
        clear hsk
        have y0 := cY.cell 0 rfl
        have y1 := cY.cell 1 rfl
        go_wp2_with fail
        refine kv.mono ?_
        rintro e u3 ⟨c0', k2, t0, c1', k3, t1, rfl, m2, m3, hb2⟩
        have B3 := B1.trans (hb2.mono B1.size)
        clear hb2 B1 kv y0 y1 cY
        obtain ⟨N1, hN1⟩ : ∃ N1, N1 = n1 up := ⟨_, rfl⟩
        obtain ⟨D1, hD1⟩ : ∃ D1, D1 = d1 up := ⟨_, rfl⟩
        rw [← hN1] at l1 l3 l5 m2 hgd
        rw [← hD1] at l2 l3 l4 l5 m3 hgd
        clear hN1 hD1
        go_wp2_with fail
        refine (mulN N1 De _ _ _ _ _ _ _ m2 (nY.below B3)).mono ?_
        rintro e u4 ⟨a5, s5, rfl, r5, hb2⟩
        replace m3 := m3.below hb2
        have B4 := B3.trans (hb2.mono B3.size)
        clear hb2 B3 m2
        go_wp2_with fail
        refine (mulN D1 N _ _ _ _ _ _ _ m3 (nX.below B4)).mono ?_
        rintro e u5 ⟨a6, s6, rfl, r6, hb2⟩
        replace m3 := m3.below hb2
        replace r5 := r5.below hb2
        have B5 := B4.trans (hb2.mono B4.size)
        clear hb2 B4
        have kp : Calls Tryd.prog 9 #[.slice a5 (L (N1 * De)).length s5, .slice a6 (L (D1 * N)).length s6] u5 fun e w' => Sn u5 w' e (dst (N1 * De) (D1 * N)) := apart_any (N1 * De) (D1 * N) a5 a6 s5 s6 u5 l1 l2 r5 r6
        obtain ⟨H1, hH1⟩ : ∃ H1, H1 = dst (N1 * De) (D1 * N) := ⟨_, rfl⟩
        rw [← hH1] at kp l3 l5 hgd
        clear hH1
        go_wp2_with fail
        refine kp.mono ?_
        rintro e u6 ⟨a7, s7, rfl, r7, hb2⟩
        replace m3 := m3.below hb2
        have B6 := B5.trans (hb2.mono B5.size)
        have m7 := Num.of l3 r7
        clear hb2 B5 kp r5 r6 r7
        go_wp2_with fail
        refine (mulN H0 D1 _ _ _ _ _ _ _ (mH.below B6) m3).mono ?_
        rintro e u7 ⟨a8, s8, rfl, r8, hb2⟩
        replace m7 := m7.below hb2
        have B7 := B6.trans (hb2.mono B6.size)
        clear hb2 B6 m3
        go_wp2_with fail
        refine (mulN H1 d0 _ _ _ _ _ _ _ m7 (m1.below B7)).mono ?_
        rintro e u8 ⟨a9, s9, rfl, r9, hb2⟩
        replace r8 := r8.below hb2
        have B8 := B7.trans (hb2.mono B7.size)
        clear hb2 B7 m7
        go_wp2_with fail
        refine (cmpN' (H0 * D1) (H1 * d0) _ _ _ _ _ _ _ (Num.of l4 r8) (Num.of l5 r9)).mono ?_
        rintro e u9 ⟨rfl, hb2⟩
        have B9 := B8.trans (hb2.mono B8.size)
        clear hb2 B8 r8 r9
        have cG1 := cG.below B9
        have cP1 := cP.below B9
        have g1 := cG1.cell 1 rfl
        have p0 := cP1.cell 0 rfl
        clear cG1 cP1
        rcases cmpI_or ((H0 * D1 : Nat) : Int) ((H1 * d0 : Nat) : Int) with hcmp | hcmp | hcmp
        · rw [hcmp]
          clear hcmp hgd
          go_wp2_with fail
          go_roundw
          case rel => exact ⟨i + 1, by omega, by go_num, ⟨_, rfl⟩, ⟨_, rfl⟩, ⟨_, rfl⟩, ⟨_, rfl⟩, ⟨_, rfl⟩, ⟨_, rfl⟩, ⟨_, rfl⟩, B9⟩
          case measure => simp [intOf]; omega
        · have hev : ¬ (M.loN X % 2 = 1 ∧ cl ≠ 4) := fun h => hgd (Or.inr ⟨hcmp, h⟩)
          rw [hcmp]
          clear hcmp hgd
          by_cases hodd : M.loN X % 2 = 1
          · have h4c : cl = 4 := by omega
            have h4b : (cl != 4) = false := by simp [h4c]
            have hr0 : ((M.loN X : Nat) : Int).tmod 2 = 1 := by
             have : ((M.loN X : Nat) : Int).tmod 2 = ((M.loN X % 2 : Nat) : Int) := rfl
             rw [this]; omega
            have hr1 : ((M.loN X : Nat) : Int) % 2 = 1 := by omega
            clear hev hodd h4c
            go_wp2_with fail
            go_roundw
            case rel => exact ⟨i + 1, by omega, by go_num, ⟨_, rfl⟩, ⟨_, rfl⟩, ⟨_, rfl⟩, ⟨_, rfl⟩, ⟨_, rfl⟩, ⟨_, rfl⟩, ⟨_, rfl⟩, B9⟩
            case measure => simp [intOf]; omega
          · have hr0 : ((M.loN X : Nat) : Int).tmod 2 = 0 := by
             have : ((M.loN X : Nat) : Int).tmod 2 = ((M.loN X % 2 : Nat) : Int) := rfl
             rw [this]; omega
            have hr1 : ((M.loN X : Nat) : Int) % 2 = 0 := by omega
            clear hev hodd
            go_wp2_with fail
            go_roundw
            case rel => exact ⟨i + 1, by omega, by go_num, ⟨_, rfl⟩, ⟨_, rfl⟩, ⟨_, rfl⟩, ⟨_, rfl⟩, ⟨_, rfl⟩, ⟨_, rfl⟩, ⟨_, rfl⟩, B9⟩
            case measure => simp [intOf]; omega
        · exact absurd (Or.inl hcmp) hgd
    · have hlt' : ¬ (i : Int) < 2 := by omega
      have cG1 := cG.below hbx
      have cW1 := cW.below hbx
      have g0 := cG1.cell 0 rfl
      have g1 := cG1.cell 1 rfl
      have g2 := cG1.cell 2 rfl
      have w0 := cW1.cell 0 rfl
      have w1 := cW1.cell 1 rfl
      have w2 := cW1.cell 2 rfl
      clear hbx cG1 cW1
      go_wp2_with fail
      go_ret
      exact ⟨rfl, bw⟩
 · have h4' : (400 : Int) < (lx : Int) + (ly : Int) := by omega
   go_wp2_with fail
   go_ret
   exact ⟨rfl, b0⟩

theorem par_n (F : M.Fm) (n m : Bool) (r : Nat) : (F.pat n r).c = (F.pat m r).c ∧ (F.pat n r).s = (F.pat m r).s ∧ (F.pat n r).q = (F.pat m r).q := by
 unfold M.Fm.pat
 split
 · exact ⟨rfl, rfl, rfl⟩
 · split
   · exact ⟨rfl, rfl, rfl⟩
   · split <;> exact ⟨rfl, rfl, rfl⟩

theorem upk_wat {F : M.Fm} (h : F.Ok) (n : Bool) (r : Nat) (hr : r ≤ F.top * F.lead) : F.upk (F.wat n r) = F.pat n r ∧ F.wat n r < 2 ^ 128 := by
 obtain ⟨a, b⟩ := h.pat_ok n r hr
 obtain ⟨c, d⟩ := h.upk_pk _ a
 rw [b] at c d
 exact ⟨c, Nat.lt_of_lt_of_le d h.width.2.2⟩

structure RndT (F : M.Fm) (ng : Bool) (N De : Nat) (X : Nat) (T : M.Pt) : Prop where
 up : F.upk X = T
 lt : X < 2 ^ 128
 pr : F.Proper T
 n : T.n = ng
 c : T.c = 1 ∨ T.c = 2 ∨ T.c = 3 ∨ T.c = 4
 z : T.c = 1 → N = 0 ∨ 0 < N ∧ F.rSig N De = 0
 i : T.c = 4 → 0 < N ∧ ¬ F.rSig N De < F.lead ∧ (F.emax : Int) < F.rExp N De + F.p - 1
 f : T.c = 2 ∨ T.c = 3 → 0 < N ∧ F.rPt false N De = ⟨T.c, false, T.s, T.q⟩
 par : T.c ≠ 4 → M.loN X % 2 = T.s % 2
 s0 : T.c = 1 → T.s = 0

theorem par_pk {F : M.Fm} (h : F.Ok) {T : M.Pt} (hp : F.Proper T) (h4 : T.c ≠ 4) (h5 : T.c ≠ 5) : M.loN (F.pk T) % 2 = T.s % 2 := by
 have e : M.loN (F.pk T) % 2 = F.pk T % 2 := by unfold M.loN; omega
 rw [e]
 unfold M.Fm.Proper at hp
 unfold M.Fm.pk
 by_cases c2 : T.c = 2
 · rw [if_pos c2]; exact h.word_par _ _ _ (by omega)
 · rw [if_neg c2]
   by_cases c3 : T.c = 3
   · rw [if_pos c3]; exact h.word_par _ _ _ (by intro _; omega)
   · rw [if_neg c3, if_neg h4, if_neg h5, h.word_par _ _ _ (by omega)]
     have : T.s = 0 := by omega
     rw [this]

theorem rnd_of {F : M.Fm} (h : F.Ok) (ng : Bool) (N De : Nat) (hd : 0 < De) : ∃ T, RndT F ng N De (rY F ng N De) T := by
 by_cases hN : N = 0
 · have e : rY F ng N De = F.pk ⟨1, ng, 0, 0⟩ := by unfold rY; rw [if_pos hN]
   have hp : F.Proper ⟨1, ng, 0, 0⟩ := Or.inl ⟨rfl, rfl, rfl⟩
   obtain ⟨a, b⟩ := h.upk_pk _ hp
   refine ⟨⟨1, ng, 0, 0⟩, by rw [e]; exact a, by rw [e]; exact Nat.lt_of_lt_of_le b h.width.2.2, hp, rfl, Or.inl rfl, fun _ => Or.inl hN, fun hc => by simp at hc, fun hc => by simp at hc, fun _ => ?_, fun _ => rfl⟩
   rw [e]; exact par_pk h hp (by simp) (by simp)
 · have hN' : 0 < N := by omega
   have e : rY F ng N De = F.pk (F.rPt ng N De) := by unfold rY; rw [if_neg hN]
   have hp := h.rPt_proper ng N De hN' hd
   obtain ⟨a, b⟩ := h.upk_pk _ hp
   have cs : (F.rPt ng N De = ⟨1, ng, 0, 0⟩ ∧ F.rSig N De = 0) ∨ (F.rPt ng N De = ⟨2, ng, F.rSig N De, F.rExp N De⟩ ∧ F.rPt false N De = ⟨2, false, F.rSig N De, F.rExp N De⟩) ∨
    (F.rPt ng N De = ⟨4, ng, 0, 0⟩ ∧ ¬ F.rSig N De < F.lead ∧ (F.emax : Int) < F.rExp N De + F.p - 1) ∨ (F.rPt ng N De = ⟨3, ng, F.rSig N De, F.rExp N De⟩ ∧ F.rPt false N De = ⟨3, false, F.rSig N De, F.rExp N De⟩) := by
    unfold M.Fm.rPt
    by_cases c1 : F.rSig N De = 0
    · left; rw [if_pos c1]; exact ⟨rfl, c1⟩
    · by_cases c2 : F.rSig N De < F.lead
      · right; left; rw [if_neg c1, if_pos c2, if_neg c1, if_pos c2]; exact ⟨rfl, rfl⟩
      · by_cases c3 : (F.emax : Int) < F.rExp N De + F.p - 1
        · right; right; left; rw [if_neg c1, if_neg c2, if_pos c3]; exact ⟨rfl, c2, c3⟩
        · right; right; right; rw [if_neg c1, if_neg c2, if_neg c3, if_neg c1, if_neg c2, if_neg c3]; exact ⟨rfl, rfl⟩
   rw [e]
   rcases cs with ⟨r, k⟩ | ⟨r, k⟩ | ⟨r, k1, k2⟩ | ⟨r, k⟩
   all_goals
    rw [r] at hp a b ⊢
    refine ⟨_, a, Nat.lt_of_lt_of_le b h.width.2.2, hp, rfl, by simp, ?_, ?_, ?_, fun h4 => par_pk h hp h4 (by simp), ?_⟩ <;> intro hc <;> simp at hc
   · exact Or.inr ⟨hN', k⟩
   · rfl
   · exact ⟨hN', k⟩
   · exact ⟨hN', k1, k2⟩
   · exact ⟨hN', k⟩

theorem step_fin {F : M.Fm} (h : F.Ok) {ng : Bool} {N De X : Nat} {T : M.Pt} (hd : 0 < De) (R : RndT F ng N De X T) (up : Bool) (hc : T.c = 2 ∨ T.c = 3) :
 stN F T up < 2 ^ 128 ∧ F.Proper (F.upk (stN F T up)) ∧ M.Nearer F T (F.upk (stN F T up)) N De (¬ (M.loN X % 2 = 1 ∧ T.c ≠ 4)) := by
 obtain ⟨f1, f2⟩ := R.f hc
 have hp0 : F.Proper ⟨T.c, false, T.s, T.q⟩ := by rw [← f2]; exact h.rPt_proper false N De f1 hd
 obtain ⟨g1, g2⟩ := h.grow_eq ⟨T.c, false, T.s, T.q⟩ hp0 hc
 obtain ⟨k1, k2⟩ := h.shrink_eq ⟨T.c, false, T.s, T.q⟩ hp0 hc
 have er : F.rank ⟨T.c, false, T.s, T.q⟩ = F.rank T := rfl
 rw [er] at g1 g2 k1 k2
 have main : ∀ r, (r = F.rank T + 1 ∨ r = F.rank T - 1) → stN F T up = F.wat T.n r → stN F T up < 2 ^ 128 ∧ F.Proper (F.upk (stN F T up)) ∧ M.Nearer F T (F.upk (stN F T up)) N De (¬ (M.loN X % 2 = 1 ∧ T.c ≠ 4)) := by
  intro r hr e
  have hr' : r ≤ F.top * F.lead := by omega
  obtain ⟨u1, u2⟩ := upk_wat h T.n r hr'
  rw [e]
  refine ⟨u2, by rw [u1]; exact (h.pat_ok _ _ hr').1, ?_⟩
  rw [u1]
  have pn := par_n F T.n false r
  have nf := h.near_fin hp0 hc rfl N De f1 hd f2 (F.pat T.n r) (by
   rcases hr with rfl | rfl
   · left; rw [g1]; exact pn
   · right; rw [k1]; exact pn)
  refine ⟨nf.1, fun hh ho => ?_⟩
  have a := nf.2 hh
  have b := R.par (by omega)
  simp only at a
  omega
 have c1 : ¬ T.c = 1 := by omega
 have c0 : ¬ T.c = 0 := by omega
 have c5 : ¬ T.c = 5 := by omega
 cases hu : (up == T.n)
 · exact main _ (Or.inl rfl) (stp_out c0 c5 c1 (by omega) hu).1
 · exact main _ (Or.inr rfl) (stp_in c0 c5 c1 hu).1

theorem step_near {F : M.Fm} (h : F.Ok) {ng : Bool} {N De X : Nat} {T : M.Pt} (hd : 0 < De) (R : RndT F ng N De X T) (up : Bool) (hs : stB T up = true) :
 stN F T up < 2 ^ 128 ∧ F.Proper (F.upk (stN F T up)) ∧ M.Nearer F T (F.upk (stN F T up)) N De (¬ (M.loN X % 2 = 1 ∧ T.c ≠ 4)) := by
 have lp := h.leadPos
 have tp := h.top2
 have tl : 2 * F.lead ≤ F.top * F.lead := Nat.mul_le_mul_right _ (by omega)
 have c5 : ¬ T.c = 5 := by have := R.c; omega
 have c0 : ¬ T.c = 0 := by have := R.c; omega
 rcases R.c with c | c | c | c
 · obtain ⟨e, _⟩ := stp_zero (F := F) (up := up) c
   obtain ⟨u1, u2⟩ := upk_wat h (!up) 1 (by omega)
   rw [e]
   refine ⟨u2, by rw [u1]; exact (h.pat_ok _ _ (by omega)).1, ?_⟩
   rw [u1, h.zero_step]
   have nz := h.near_zero N De hd (R.z c) T ⟨2, !up, 1, F.qmin⟩ (by omega) (R.s0 c) (by simp) rfl rfl
   refine ⟨nz.1, fun _ => ?_⟩
   have := R.par (by omega)
   rw [R.s0 c] at this
   omega
 · exact step_fin h hd R up (Or.inl c)
 · exact step_fin h hd R up (Or.inr c)
 · cases hu : (up == T.n)
   · have := (stp_inf (F := F) (up := up) c hu).2
     rw [this] at hs; simp at hs
   · obtain ⟨e, _⟩ := stp_in (F := F) c0 c5 (by omega) hu
     have er : F.rank T = F.top * F.lead := by unfold M.Fm.rank; rw [if_neg (by omega), if_pos c]
     rw [er] at e
     obtain ⟨u1, u2⟩ := upk_wat h T.n (F.top * F.lead - 1) (by omega)
     rw [e]
     refine ⟨u2, by rw [u1]; exact (h.pat_ok _ _ (by omega)).1, ?_⟩
     rw [u1, h.inf_step]
     obtain ⟨i1, i2, i3⟩ := R.i c
     have nz := h.near_inf N De i1 hd i2 i3 T ⟨3, T.n, 2 * F.lead - 1, (F.emax : Int) - F.p + 1⟩ c (by simp) rfl rfl
     exact ⟨nz.1, fun _ hh => hh.2 c⟩

theorem dst_eq (a b : Nat) : dst a b = M.dist a b := by
 unfold dst M.dist
 split <;> split <;> omega

theorem not_bad {F : M.Fm} {T T' : M.Pt} {N De : Nat} {O : Prop} (hn : M.Nearer F T T' N De (¬ O)) : ¬ NrBad N De (F.vN T) (F.vD T) (F.vN T') (F.vD T') O := by
 unfold NrBad
 rw [dst_eq, dst_eq]
 obtain ⟨a, b⟩ := hn
 generalize M.dist (F.vN T * De) (F.vD T * N) * F.vD T' = x at *
 generalize M.dist (F.vN T' * De) (F.vD T' * N) * F.vD T = y at *
 unfold cmpI
 rintro (hh | ⟨hh, ho⟩)
 · split at hh
   · omega
   · split at hh <;> omega
 · refine b ?_ ho
   split at hh
   · omega
   · split at hh <;> omega

theorem mul_lt2 {a b x y : Nat} (ha : a < 2 ^ x) (hb : b < 2 ^ y) : a * b < 2 ^ (x + y) := by
 rw [Nat.pow_add]
 exact Nat.mul_lt_mul'' ha hb

theorem dst_lt {a b j : Nat} (ha : a < 2 ^ j) (hb : b < 2 ^ j) : dst a b < 2 ^ j := by
 unfold dst
 split <;> omega

theorem val_bd {F : M.Fm} (h : F.Ok) {T : M.Pt} (hp : F.Proper T) (E : Nat) (hE : 16800 ≤ E) : F.vN T < 2 ^ E ∧ F.vD T < 2 ^ E ∧ T.s < 2 ^ 128 ∧ -20000 ≤ T.q ∧ T.q ≤ 20000 := by
 have e2 := h.e2
 have hem : F.emax ≤ 16383 := by
  unfold M.Fm.emax
  have : 2 ^ (F.e - 1) ≤ 2 ^ 14 := Nat.pow_le_pow_right (by omega) (by omega)
  omega
 have one : 1 < 2 ^ E := Nat.one_lt_two_pow (by omega)
 unfold M.Fm.vN M.Fm.vD
 by_cases c4 : T.c = 4
 · rw [if_pos c4, if_pos c4]
   have hz : T.s = 0 ∧ T.q = 0 := by unfold M.Fm.Proper at hp; omega
   refine ⟨Nat.pow_lt_pow_right (by omega) (by omega), one, ?_, by omega, by omega⟩
   rw [hz.1]; exact Nat.pow_pos (by omega)
 · rw [if_neg c4, if_neg c4]
   by_cases hc : T.c = 2 ∨ T.c = 3
   · obtain ⟨s1, s2, q1, q2, q3, q4, s3, s4⟩ := fin_of h hp hc
     refine ⟨Nat.lt_of_lt_of_le (mul_lt2 (y := T.q.toNat + 1) s3 (Nat.pow_lt_pow_right (by omega) (by omega))) (Nat.pow_le_pow_right (by omega) (by omega)), Nat.pow_lt_pow_right (by omega) (by omega), by omega, by omega, by omega⟩
   · have hz : T.s = 0 ∧ T.q = 0 := by unfold M.Fm.Proper at hp; omega
     rw [hz.1, hz.2]
     refine ⟨?_, ?_, Nat.pow_pos (by omega), by omega, by omega⟩
     · simp; exact Nat.pow_pos (by omega)
     · simpa using one

theorem value_any (f : Nat) (hf : f < 4) (X : Nat) (hX : X < 2 ^ 128) (hp : (M.fm f).Proper ((M.fm f).upk X)) (w : World) :
 Calls Tryd.prog 8 #[.int .i64 (f : Int), .agg #[.int .u64 (M.hiN X : Int), .int .u64 (M.loN X : Int)]] w fun e w' => Vl w w' e ((M.fm f).vN ((M.fm f).upk X)) ((M.fm f).vD ((M.fm f).upk X)) := by
 have h := M.fm_ok f
 have kE := fun v : World => sdescribe_ok f hf v
 have kU := fun v : World => sunpack_any f hf X hX v
 simp only [dv, pv] at kE kU
 have e2 := h.e2
 have hem : (M.fm f).emax ≤ 16383 := by
  unfold M.Fm.emax
  have : 2 ^ ((M.fm f).e - 1) ≤ 2 ^ 14 := Nat.pow_le_pow_right (by omega) (by omega)
  omega
 obtain ⟨b1, b2, b3, b4, b5⟩ := val_bd h hp (64 * 263) (by omega)
 have l1 := L_len_b _ _ 263 b1 (Nat.le_refl _)
 have l2 := L_len_b _ _ 263 b2 (Nat.le_refl _)
 generalize M.fm f = F at *
 generalize F.upk X = T at *
 refine value_key (f : Int) T.c T.q T.n X T.s w b3 _ _ _ _ _ F.emax (by omega) (F.vN T) (F.vD T) b4 b5 (by omega) (by omega) kU kE ?_ ?_ ?_
 · intro c4
   unfold M.Fm.vN M.Fm.vD
   rw [if_pos c4, if_pos c4, Nat.one_mul]; exact ⟨rfl, rfl⟩
 · intro c4 hq
   unfold M.Fm.vN M.Fm.vD
   rw [if_neg c4, if_neg c4, show (-T.q).toNat = 0 by omega]; exact ⟨rfl, rfl⟩
 · intro c4 hq
   unfold M.Fm.vN M.Fm.vD
   rw [if_neg c4, if_neg c4, show T.q.toNat = 0 by omega, Nat.one_mul, Nat.pow_zero, Nat.mul_one]; exact ⟨rfl, rfl⟩

theorem rr_two (z : Int) (ng : Bool) (xs ys : List Nat) (hn : xs.length ≤ 1048576) (hn2 : ys.length ≤ 1048576) (hx : F64 xs) (hy : F64 ys) :
 ((∀ (v : World) (ao bo : Option Addr) (cc dd : Nat), xs.length ≤ cc → ys.length ≤ dd → Rd v ao xs → Rd v bo ys → Calls Tryd.prog 5 #[.int .i64 z, .bool ng, .slice ao xs.length cc, .slice bo ys.length dd] v fun e w' => e = .returned (.agg #[.int .u64 0, .int .u64 0, .int .i64 0, .bool false]) ∧ Below v.heap.size v w') ∧
   (∀ (v : World) (ao bo : Option Addr) (cc dd : Nat), Fmt v → xs.length ≤ cc → ys.length ≤ dd → Rd v ao xs → Rd v bo ys → Calls Tryd.prog 6 #[.int .i64 z, .bool ng, .slice ao xs.length cc, .slice bo ys.length dd] v fun e w' => e = .returned (.agg #[.int .u64 0, .int .u64 0, .int .i64 0, .bool false]) ∧ Below v.heap.size v w')) ∨
 ∃ f : Nat, f < 4 ∧ z = (f : Int) ∧ 0 < V ys ∧
   (∀ (v : World) (ao bo : Option Addr) (cc dd : Nat), xs.length ≤ cc → ys.length ≤ dd → Rd v ao xs → Rd v bo ys → Calls Tryd.prog 5 #[.int .i64 z, .bool ng, .slice ao xs.length cc, .slice bo ys.length dd] v fun e w' => e = .returned (.agg #[.int .u64 (M.hiN (rY (M.fm f) ng (V xs) (V ys)) : Int), .int .u64 (M.loN (rY (M.fm f) ng (V xs) (V ys)) : Int), .int .i64 (rF (M.fm f) (V xs) (V ys)), .bool true]) ∧ Below v.heap.size v w') ∧
   (∀ (v : World) (ao bo : Option Addr) (cc dd : Nat), Fmt v → xs.length ≤ cc → ys.length ≤ dd → Rd v ao xs → Rd v bo ys → Calls Tryd.prog 6 #[.int .i64 z, .bool ng, .slice ao xs.length cc, .slice bo ys.length dd] v fun e w' => e = .returned (.agg #[.int .u64 (M.hiN (rY (M.fm f) ng (V xs) (V ys)) : Int), .int .u64 (M.loN (rY (M.fm f) ng (V xs) (V ys)) : Int), .int .i64 (rF (M.fm f) (V xs) (V ys)), .bool true]) ∧ Below v.heap.size v w') := by
 by_cases hf : z < 0 ∨ 4 ≤ z
 · exact Or.inl ⟨fun v ao bo cc dd hc hd hr hr2 => srr_no z hf ng ao bo _ _ cc dd xs ys v rfl rfl hc hd hn hn2 hx hy hr hr2, fun v ao bo cc dd _ hc hd hr hr2 => irr_no z hf ng ao bo _ _ cc dd xs ys v rfl rfl hc hd hn hn2 hx hy hr hr2⟩
 · obtain ⟨f, rfl⟩ := Int.eq_ofNat_of_zero_le (show 0 ≤ z by omega)
   have hf4 : f < 4 := by omega
   by_cases h1 : xs.length ≤ 1200
   · by_cases h2 : ys.length ≤ 1200
     · by_cases h3 : V ys = 0
       · exact Or.inl ⟨fun v ao bo cc dd hc hd hr hr2 => srr_den0 f hf4 ng ao bo _ _ cc dd xs ys v rfl rfl hc hd hn hn2 hx hy hr hr2 h1 h2 h3, fun v ao bo cc dd hF hc hd hr hr2 => irr_den0 f hf4 ng ao bo _ _ cc dd xs ys v rfl rfl hc hd hn hn2 hx hy hr hr2 hF h1 h2 h3⟩
       · refine Or.inr ⟨f, hf4, rfl, by omega, ?_, fun v ao bo cc dd hF hc hd hr hr2 => irr_pos f hf4 ng ao bo _ _ cc dd xs ys v rfl rfl hc hd hn hn2 hx hy hr hr2 hF h1 h2 (by omega)⟩
         intro v ao bo cc dd hc hd hr hr2
         by_cases h4 : V xs = 0
         · have := srr_num0 f hf4 ng ao bo _ _ cc dd xs ys v rfl rfl hc hd hn hn2 hx hy hr hr2 h1 h2 (by omega) h4
           unfold rY rF
           rw [if_pos h4, if_pos h4]
           exact this
         · have := srr_pos f hf4 ng ao bo _ _ cc dd xs ys v rfl rfl hc hd hn hn2 hx hy hr hr2 h1 h2 (by omega) (by omega)
           unfold rY rF
           rw [if_neg h4, if_neg h4]
           exact this
     · exact Or.inl ⟨fun v ao bo cc dd hc hd hr hr2 => srr_long2 f hf4 ng ao bo _ _ cc dd xs ys v rfl rfl hc hd hn hn2 hx hy hr hr2 h1 h2, fun v ao bo cc dd hF hc hd hr hr2 => irr_long f hf4 ng ao bo _ _ cc dd xs ys v rfl rfl hc hd hn hn2 hx hy hr hr2 hF (by omega)⟩
   · exact Or.inl ⟨fun v ao bo cc dd hc hd hr hr2 => srr_long1 f hf4 ng ao bo _ _ cc dd xs ys v rfl rfl hc hd hn hn2 hx hy hr hr2 h1, fun v ao bo cc dd hF hc hd hr hr2 => irr_long f hf4 ng ao bo _ _ cc dd xs ys v rfl rfl hc hd hn hn2 hx hy hr hr2 hF (by omega)⟩

theorem V_lt2 (xs : List Nat) (h : F64 xs) (J : Nat) (hJ : 64 * xs.length ≤ J) : V xs < 2 ^ J := by
 have a := L_lt (V xs) xs.length (L_len xs h)
 rw [show (18446744073709551616 : Nat) = 2 ^ 64 by rfl, ← Nat.pow_mul] at a
 exact Nat.lt_of_lt_of_le a (Nat.pow_le_pow_right (by omega) hJ)

theorem nr_bd {a b N De E J : Nat} (ha : a < 2 ^ E) (hb : b < 2 ^ E) (hN : N < 2 ^ J) (hDe : De < 2 ^ J) (hk : E + J + E ≤ 64 * 1200) :
 (L (a * De)).length ≤ 1200 ∧ (L (b * N)).length ≤ 1200 ∧ (L (dst (a * De) (b * N))).length ≤ 1200 ∧ ∀ c, c < 2 ^ E → (L (dst (a * De) (b * N) * c)).length ≤ 1200 := by
 have x := mul_lt2 ha hDe
 have y := mul_lt2 hb hN
 have z := dst_lt x y
 exact ⟨L_len_b _ _ _ x (by omega), L_len_b _ _ _ y (by omega), L_len_b _ _ _ z (by omega), fun c hc => L_len_b _ _ _ (mul_lt2 z hc) hk⟩

theorem lawFnNearest (a0 : Option Addr) (n c : Nat) (bs : List Nat) (w : World) (w0 : InB w a0 n c bs) (hm : Fmt w) :
 Calls Tryd.prog 3 #[.slice a0 n c] w fun e w' => e = .returned (.bool true) ∧ Below w.heap.size w w' := by
 obtain ⟨hl, hc, hb⟩ := w0
 by_cases h1 : n ≤ 1048576
 · obtain ⟨f, ng, xs, ys, kD0⟩ := drr_any n bs hl h1
   have kD := fun (v : World) (hv : RdB v a0 bs) => kD0 v a0 c hv
   by_cases hG : DrG xs ys
   · obtain ⟨hx, hy, lx, ly⟩ := hG
     rcases rr_two f ng xs ys (by omega) (by omega) hx hy with ⟨kS, kI⟩ | ⟨k, hk, rfl, hd, kS, kI⟩
     · exact nr_no f ng xs ys bs a0 n c w hl h1 hb hm kD kS kI
     · have h := M.fm_ok k
       obtain ⟨T, R⟩ := rnd_of h ng (V xs) (V ys) hd
       generalize rY (M.fm k) ng (V xs) (V ys) = X at *
       have hX := R.lt
       have kU := fun (v : World) (hv : Fmt v) => iunpack_any k hk X hX v hv
       have kT := fun (v : World) (up : Bool) (hv : Fmt v) => istep_any k hk X hX up v hv
       have kV := fun v : World => value_any k hk X hX (by rw [R.up]; exact R.pr) v
       rw [R.up] at kU kT kV
       simp only [pv] at kU
       rw [R.n] at kU
       have near := fun (up : Bool) (hs : stB T up = true) => step_near h hd R up hs
       have kV1 : ∀ (v : World) (up : Bool), stB T up = true → Calls Tryd.prog 8 #[.int .i64 (k : Int), .agg #[.int .u64 (M.hiN (stN (M.fm k) T up) : Int), .int .u64 (M.loN (stN (M.fm k) T up) : Int)]] v fun e w' => Vl v w' e ((M.fm k).vN ((M.fm k).upk (stN (M.fm k) T up))) ((M.fm k).vD ((M.fm k).upk (stN (M.fm k) T up))) := fun v up hs => value_any k hk _ (near up hs).1 (near up hs).2.1 v
       refine nr_key (k : Int) _ T.c T.q ng X T.s (stN (M.fm k) T) (stB T) ((M.fm k).vN T) ((M.fm k).vD T) (fun up => (M.fm k).vN ((M.fm k).upk (stN (M.fm k) T up))) (fun up => (M.fm k).vD ((M.fm k).upk (stN (M.fm k) T up))) xs ys bs a0 n c w hl h1 hb hm kD kS kI kU kT kV kV1 (by have := R.c; omega) (by have := R.c; omega) hX ?_ ?_
       · intro h4
         obtain ⟨b1, b2, _⟩ := val_bd h R.pr (64 * 263) (by omega)
         have hN := V_lt2 xs hx (64 * 400) (by omega)
         have hDe := V_lt2 ys hy (64 * 400) (by omega)
         obtain ⟨r1, r2, r3, r4⟩ := nr_bd b1 b2 hN hDe (by omega)
         refine ⟨r1, r2, r3, fun up hs => ?_⟩
         obtain ⟨d1, d2, _⟩ := val_bd h (near up hs).2.1 (64 * 263) (by omega)
         obtain ⟨s1, s2, s3, s4⟩ := nr_bd d1 d2 hN hDe (by omega)
         exact ⟨s1, s2, s3, r4 _ d2, s4 _ b2⟩
       · exact fun up hs => not_bad (near up hs).2.2
   · have h1' : ¬ (1048576 : Int) < (n : Int) := by omega
     go_enter Tryd.func3, Tryd.ntmps3
     go_wp2_with fail
     refine (kD _ hb).mono ?_
     rintro e v1 ⟨_, hg⟩
     exact absurd hg hG
 · have h1' : (1048576 : Int) < (n : Int) := by omega
   go_enter Tryd.func3, Tryd.ntmps3
   go_wp2_with fail
   go_ret
   exact ⟨rfl, Below.refl _ _⟩

end Go.Proofs.YtogkkecnmlnajaaDoor
