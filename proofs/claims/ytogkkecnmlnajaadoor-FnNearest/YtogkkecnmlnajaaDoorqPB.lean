import Derived.Test.YtogkkecnmlnajaaDoorqBG
import Derived.Test.YtogkkecnmlnajaaDoorqSp2
set_option maxHeartbeats 16000000
set_option maxRecDepth 10000
namespace Go.Proofs.YtogkkecnmlnajaaDoor
open Go.RowKit
set_option linter.unusedVariables false
set_option maxRecDepth 100000
theorem D_word {a : Nat} (h : a < 2 ^ 128) : (D a).length ≤ 6 := D_small a (by omega)

theorem make_w (p W ex R V : Nat) (e1 e2 e4 : Int) (x n ld : Bool) (ao : Option Addr) (c : Nat) (w : World) (hp1 : 2 ≤ p) (hp2 : p ≤ 113) (hW1 : 1 ≤ W) (hW2 : W ≤ 128) (hex : ex < 40000) (hr : Rd w ao (D R)) (fb A1 S1 A2 : Nat) (hfb : fb = if x then p else p - 1) (hA1 : A1 = R + if x = true ∧ ld = true then 2 ^ (p - 1) else 0) (hA2 : A2 = A1 + ex * 2 ^ fb) (hV : V = A2 + if n then 2 ^ (W - 1) else 0) (hVl : V < 2 ^ 128) :
 Calls Tryd.prog 55 #[.agg #[.int .i64 (p : Int), .int .i64 e1, .int .i64 e2, .int .i64 (W : Int), .int .i64 e4, .bool x], .bool n, .int .i64 (ex : Int), .bool ld, .slice ao (D R).length c] w fun e w' => e = .returned (.agg #[.int .u64 (M.hiN V : Int), .int .u64 (M.loN V : Int)]) ∧ Below w.heap.size w w' := by
 have k2 : ∀ (v : World) (z : Int) (k : Nat), z = (k : Int) → k ≤ 128 → Calls Tryd.prog 50 #[.int .i64 z] v fun e w' => Ret v w' e (D (2 ^ k)) := fun v z k hz hk => by
  rw [hz]; exact l2Two_any k v hk
 have lA2 : A2 < 2 ^ 128 := by omega
 have lA1 : A1 < 2 ^ 128 := by omega
 have lE : ex * 2 ^ fb < 2 ^ 128 := by omega
 have lR : R < 2 ^ 128 := by omega
 have dR := D_word lR
 have dA1 := D_word lA1
 have dA2 := D_word lA2
 have dE := D_word lE
 have dX := D_word (a := ex) (by omega)
 have hcv : IntKind.u64.wrap (ex : Int) = (ex : Int) := by rw [IntKind.wrap_u64]; omega
 have w1 : IntKind.i64.wrap ((p : Int) - 1) = (p : Int) - 1 := by rw [IntKind.wrap_i64]; omega
 have w2 : IntKind.i64.wrap ((W : Int) - 1) = (W : Int) - 1 := by rw [IntKind.wrap_i64]; omega
 obtain ⟨cD, cR, b0⟩ := Cls.new2 w #[.int .i64 (p : Int), .int .i64 e1, .int .i64 e2, .int .i64 (W : Int), .int .i64 e4, .bool x] #[.int .u64 0, .int .u64 0] 56 28
 replace hr := hr.below b0
 have HFB := hid hfb; have HA1 := hid hA1; have HA2 := hid hA2; have HV := hid hV
 clear hfb hA1 hA2 hV
 go_enter Tryd.func55, Tryd.ntmps55
 go_upto_region 1 with fail
 generalize (w.alloc (.cells #[.int .i64 (p : Int), .int .i64 e1, .int .i64 e2, .int .i64 (W : Int), .int .i64 e4, .bool x] 56)).alloc (.cells #[.int .u64 0, .int .u64 0] 28) = v0 at *
 have d0 := cD.cell 0 rfl
 have d5 := cD.cell 5 rfl
 go_upto_if 18 with fail
 go_cut [11, 12] (fun a b wx => ∃ a1 c1, a = .slice a1 (D A1).length c1 ∧ b = .int .i64 (fb : Int) ∧ Rd wx a1 (D A1) ∧ Below v0.heap.size v0 wx)
 case first =>
  cases x
  · have e1 : A1 = R := by rw [HA1.out]; simp
    have e2 : ((fb : Nat) : Int) = (p : Int) - 1 := by rw [HFB.out]; simp; omega
    have HE1 := hid e1; have HE2 := hid e2; clear e1 e2
    go_wp2_with fail
    go_meet
    case rel => exact ⟨ao, c, by rw [HE1.out], by rw [HE2.out], by rw [HE1.out]; exact hr, Below.refl _ _⟩
  · have e2 : fb = p := by rw [HFB.out]; simp
    have HE2 := hid e2; clear e2
    cases ld
    · have e1 : A1 = R := by rw [HA1.out]; simp
      have HE1 := hid e1; clear e1
      go_wp2_with fail
      go_meet
      case rel => exact ⟨ao, c, by rw [HE1.out], by rw [HE2.out], by rw [HE1.out]; exact hr, Below.refl _ _⟩
    · have e1 : R + 2 ^ (p - 1) = A1 := by rw [HA1.out]; simp
      have HE1 := hid e1; clear e1
      go_wp2_with fail
      refine (k2 _ _ (p - 1) (by omega) (by omega)).mono ?_
      rintro e t1 ⟨a1, c1, rfl, ho1, hb1⟩
      have kk := l1Add_any ao a1 _ _ c c1 R (2 ^ (p - 1)) t1 rfl rfl (by omega) (Nat.le_trans (D_word (Nat.pow_lt_pow_right (by omega) (by omega))) (by omega)) (hr.below hb1) (Rd.own ho1)
      rw [HE1.out] at kk
      go_wp2_with fail
      refine kk.mono ?_
      rintro e t2 ⟨a2, c2, rfl, ho2, hb2⟩
      have HB := hid (hb1.trans (hb2.mono hb1.size))
      have HR2 := hid (Rd.own ho2)
      clear hb1 hb2 ho1 ho2 kk
      go_wp2_with fail
      go_meet
      case rel => exact ⟨a2, c2, rfl, by rw [HE2.out], HR2.out, HB.out⟩
 case rest =>
 rename World => v1
 obtain ⟨a1, c1, rfl, rfl, r1, hb⟩ := hcut
 replace cD := cD.below hb
 replace cR := cR.below hb
 replace b0 := b0.trans (hb.mono b0.size)
 clear hb d0 d5 hr
 go_wp2_with fail
 refine (l1Of_any ex _ (by omega)).mono ?_
 rintro e v2 ⟨a2, c2, rfl, ho, hb⟩
 replace cD := cD.below hb
 replace cR := cR.below hb
 replace r1 := r1.below hb
 replace b0 := b0.trans (hb.mono b0.size)
 have kl := l1Left_any a2 _ c2 fb ex v2 rfl (by omega) (by have := HFB.out; split at this <;> omega) (Rd.own ho)
 clear hb ho
 go_wp2_with fail
 refine kl.mono ?_
 rintro e v3 ⟨a3, c3, rfl, ho, hb⟩
 replace cD := cD.below hb
 replace cR := cR.below hb
 replace r1 := r1.below hb
 replace b0 := b0.trans (hb.mono b0.size)
 have ka := l1Add_any a1 a3 _ _ c1 c3 A1 (ex * 2 ^ fb) v3 rfl rfl (by omega) (by omega) r1 (Rd.own ho)
 rw [← HA2.out] at ka
 clear hb ho kl
 go_wp2_with fail
 refine ka.mono ?_
 rintro e v4 ⟨a4, c4, rfl, ho, hb⟩
 replace cD := cD.below hb
 replace cR := cR.below hb
 replace b0 := b0.trans (hb.mono b0.size)
 have r4 := Rd.own ho
 clear hb ho ka r1
 have d3 := cD.cell 3 rfl
 go_upto_if 35 with fail
 go_cut [11] (fun a wx => ∃ a1 c1, a = .slice a1 (D V).length c1 ∧ Rd wx a1 (D V) ∧ Below v4.heap.size v4 wx)
 case first =>
  cases n
  · have e1 : V = A2 := by rw [HV.out]; simp
    have HE1 := hid e1; clear e1
    go_wp2_with fail
    go_meet
    case rel => exact ⟨a4, c4, by rw [HE1.out], by rw [HE1.out]; exact r4, Below.refl _ _⟩
  · have e1 : A2 + 2 ^ (W - 1) = V := by rw [HV.out]; simp
    have HE1 := hid e1; clear e1
    go_wp2_with fail
    refine (k2 _ _ (W - 1) (by omega) (by omega)).mono ?_
    rintro e t1 ⟨a5, c5, rfl, ho1, hb1⟩
    have kk := l1Add_any a4 a5 _ _ c4 c5 A2 (2 ^ (W - 1)) t1 rfl rfl (by omega) (Nat.le_trans (D_word (Nat.pow_lt_pow_right (by omega) (by omega))) (by omega)) (r4.below hb1) (Rd.own ho1)
    rw [HE1.out] at kk
    go_wp2_with fail
    refine kk.mono ?_
    rintro e t2 ⟨a6, c6, rfl, ho2, hb2⟩
    have HB := hid (hb1.trans (hb2.mono hb1.size))
    have HR2 := hid (Rd.own ho2)
    clear hb1 hb2 ho1 ho2 kk
    go_wp2_with fail
    go_meet
    case rel => exact ⟨a6, c6, rfl, HR2.out, HB.out⟩
 case rest =>
 rename World => v5
 obtain ⟨a5, c5, rfl, r5, hb⟩ := hcut
 replace cR := cR.below hb
 replace b0 := b0.trans (hb.mono b0.size)
 clear hb cD r4 d3
 go_wp2_with fail
 refine (l2Word_any a5 _ c5 V _ rfl hVl r5).mono ?_
 rintro e v6 ⟨rfl, hb⟩
 replace cR := cR.below hb
 replace b0 := b0.trans (hb.mono b0.size)
 clear hb
 have q0 := cR.cell 0 rfl
 have q1 := cR.cell 1 rfl
 have z0 := cR.frozen 0
 have z1 := cR.frozen 1
 go_wp2_with fail
 exact bodyPost_ret (v := .agg #[.int .u64 (M.hiN V : Int), .int .u64 (M.loN V : Int)]) (by simp [results, Tryd.results55, go_sem, q0, q1]) rfl ⟨rfl, (b0.setCell (p := ⟨w.heap.size + 1, 0, none⟩) (Nat.le_succ _) _).setCell (p := ⟨w.heap.size + 1, 1, none⟩) (Nat.le_succ _) _⟩

theorem make_any (F : M.Fm) (h : F.Ok) (n ld : Bool) (ex R V : Nat) (hex : ex < 40000)
 (hV : V = ex * 2 ^ F.fb + (if F.x = true ∧ ld = true then F.lead else 0) + R + (if n then 2 ^ (F.wd - 1) else 0)) (hVl : V < 2 ^ 128) (ao : Option Addr) (c : Nat) (w : World) (hr : Rd w ao (D R)) :
 Calls Tryd.prog 55 #[.agg #[.int .i64 (F.p : Int), .int .i64 (1 - (F.emax : Int)), .int .i64 (F.emax : Int), .int .i64 (F.wd : Int), .int .i64 (F.e : Int), .bool F.x], .bool n, .int .i64 (ex : Int), .bool ld, .slice ao (D R).length c] w fun e w' => e = .returned (.agg #[.int .u64 (M.hiN V : Int), .int .u64 (M.loN V : Int)]) ∧ Below w.heap.size w w' := by
 have p1 := h.p1
 have p2 := h.p2
 have w1 := wd_pos h
 have w2 := h.w
 have hf : F.fb = if F.x then F.p else F.p - 1 := rfl
 have hle : F.lead = 2 ^ (F.p - 1) := rfl
 rw [hle] at hV
 refine make_w F.p F.wd ex R V _ _ _ F.x n ld ao c w (by omega) p2 w1 w2 hex hr F.fb _ 0 _ hf rfl rfl ?_ hVl
 rw [hV]
 omega

theorem make_word (F : M.Fm) (h : F.Ok) (n ld : Bool) (ex sg R : Nat) (h2 : ex ≤ F.top) (h3 : sg < 2 * F.lead) (h4 : F.lead ≤ sg ↔ 0 < ex) (hld : ld = decide (0 < ex)) (hR : R = if 0 < ex then sg - F.lead else sg) (ao : Option Addr) (c : Nat) (w : World) (hr : Rd w ao (D R)) :
 Calls Tryd.prog 55 #[.agg #[.int .i64 (F.p : Int), .int .i64 (1 - (F.emax : Int)), .int .i64 (F.emax : Int), .int .i64 (F.wd : Int), .int .i64 (F.e : Int), .bool F.x], .bool n, .int .i64 (ex : Int), .bool ld, .slice ao (D R).length c] w fun e w' => e = .returned (.agg #[.int .u64 (M.hiN (F.word n ex sg) : Int), .int .u64 (M.loN (F.word n ex sg) : Int)]) ∧ Below w.heap.size w w' := by
 have ht := h.top2
 have hl := (h.fields n ex sg h2 h3 h4).2.2.2
 have hw := h.width.2.2
 refine make_any F h n ld ex R _ (by omega) ?_ (Nat.lt_of_lt_of_le hl hw) ao c w hr
 subst hld
 subst hR
 unfold M.Fm.word
 by_cases hx : 0 < ex
 · have := h4.2 hx
   cases F.x <;> simp [hx] <;> omega
 · cases F.x <;> simp [hx]

theorem stop_any (F : M.Fm) (h : F.Ok) (w : World) :
 Calls Tryd.prog 56 #[.agg #[.int .i64 (F.p : Int), .int .i64 (1 - (F.emax : Int)), .int .i64 (F.emax : Int), .int .i64 (F.wd : Int), .int .i64 (F.e : Int), .bool F.x]] w fun e w' => e = .returned (.int .i64 (F.top : Int)) ∧ Below w.heap.size w w' := by
 have ht := h.top2
 have e1 : (F.top : Int) = 2 * (F.emax : Int) + 1 := by omega
 have f1 : wrap64 (2 * (F.emax : Int)) = 2 * (F.emax : Int) := by simp only [wrap64]; omega
 have f2 : wrap64 (2 * (F.emax : Int) + 1) = 2 * (F.emax : Int) + 1 := by simp only [wrap64]; omega
 rw [e1]
 clear ht e1
 generalize (F.emax : Int) = E at *
 go_enter Tryd.func56, Tryd.ntmps56
 go_wp2_with fail
 go_ret
 exact ⟨congrArg (fun x => Ending.returned (Value.int .i64 x)) f2, (Below.refl _ _).alloc (Nat.le_refl _) _⟩

def Wo (P : Nat → Prop) (v w' : World) (e : Ending) : Prop := ∃ X : Nat, X < 2 ^ 128 ∧ P X ∧ e = .returned (.agg #[.int .u64 (M.hiN X : Int), .int .u64 (M.loN X : Int)]) ∧ Below v.heap.size v w'

def Wp (R : Nat → Bool → Prop) (w w' : World) (e : Ending) : Prop := ∃ (Y : Nat) (ok : Bool), R Y ok ∧ e = .returned (.tuple #[.agg #[.int .u64 (M.hiN Y : Int), .int .u64 (M.loN Y : Int)], .bool ok]) ∧ Below w.heap.size w w'

theorem packG (f cl : Int) (ng : Bool) (s : Nat) (q : Int) (hs : s < 2 ^ 128) (d0 d1 d2 d3 d4 : Int) (d5 : Bool) (hd : d0 ≠ 0) (tp b E : Int) (H Lw : Nat) (w : World) (P : Nat → Prop) (R : Nat → Bool → Prop)
 (r0 : cl ≠ 1 → cl ≠ 2 → cl ≠ 3 → cl ≠ 4 → cl ≠ 5 → R 0 false) (r2 : cl = 2 → d0 ≤ b → R 0 false) (r3 : cl = 3 → b ≠ d0 ∨ E < 1 ∨ tp ≤ E → R 0 false)
 (hE : wrap64 (wrap64 (wrap64 (q + d2) + d0) - 1) = E) (h2 : IntKind.i64.wrap (d0 - 2) = d0 - 2) (h1 : IntKind.i64.wrap (d0 - 1) = d0 - 1)
 (kE : ∀ v : World, Calls Tryd.prog 25 #[.int .i64 f] v fun e w' => e = .returned (.agg #[.int .i64 d0, .int .i64 d1, .int .i64 d2, .int .i64 d3, .int .i64 d4, .bool d5]) ∧ Below v.heap.size v w')
 (kT : ∀ v : World, Calls Tryd.prog 56 #[.agg #[.int .i64 d0, .int .i64 d1, .int .i64 d2, .int .i64 d3, .int .i64 d4, .bool d5]] v fun e w' => e = .returned (.int .i64 tp) ∧ Below v.heap.size v w')
 (kB : ∀ (v : World) (ao : Option Addr) (c : Nat), Rd v ao (D s) → Calls Tryd.prog 46 #[.slice ao (D s).length c] v fun e w' => e = .returned (.int .i64 b) ∧ w' = v)
 (k2 : ∀ v : World, Calls Tryd.prog 50 #[.int .i64 (d0 - 2)] v fun e w' => Ret v w' e (D H))
 (kL : ∀ (v : World) (ao : Option Addr) (c : Nat), Rd v ao (D s) → Calls Tryd.prog 47 #[.slice ao (D s).length c, .int .i64 (d0 - 1)] v fun e w' => Ret v w' e (D Lw))
 (kM1 : cl = 1 → ∀ v : World, Calls Tryd.prog 55 #[.agg #[.int .i64 d0, .int .i64 d1, .int .i64 d2, .int .i64 d3, .int .i64 d4, .bool d5], .bool ng, .int .i64 0, .bool false, .slice none 0 0] v fun e w' => Wo P v w' e)
 (kM4 : cl = 4 → ∀ v : World, Calls Tryd.prog 55 #[.agg #[.int .i64 d0, .int .i64 d1, .int .i64 d2, .int .i64 d3, .int .i64 d4, .bool d5], .bool ng, .int .i64 tp, .bool true, .slice none 0 0] v fun e w' => Wo P v w' e)
 (kM5 : cl = 5 → ∀ (v : World) (ao : Option Addr) (c : Nat), Rd v ao (D H) → Calls Tryd.prog 55 #[.agg #[.int .i64 d0, .int .i64 d1, .int .i64 d2, .int .i64 d3, .int .i64 d4, .bool d5], .bool false, .int .i64 tp, .bool true, .slice ao (D H).length c] v fun e w' => Wo P v w' e)
 (kM2 : cl = 2 → b < d0 → ∀ (v : World) (ao : Option Addr) (c : Nat), Rd v ao (D s) → Calls Tryd.prog 55 #[.agg #[.int .i64 d0, .int .i64 d1, .int .i64 d2, .int .i64 d3, .int .i64 d4, .bool d5], .bool ng, .int .i64 0, .bool false, .slice ao (D s).length c] v fun e w' => Wo P v w' e)
 (kM3 : cl = 3 → b = d0 → 1 ≤ E → E < tp → ∀ (v : World) (ao : Option Addr) (c : Nat), Rd v ao (D Lw) → Calls Tryd.prog 55 #[.agg #[.int .i64 d0, .int .i64 d1, .int .i64 d2, .int .i64 d3, .int .i64 d4, .bool d5], .bool ng, .int .i64 E, .bool true, .slice ao (D Lw).length c] v fun e w' => Wo P v w' e)
 (kU : ∀ X : Nat, X < 2 ^ 128 → P X → ∃ (tc : Int) (tn : Bool) (th tl tq : Int), (tc = cl ∧ tn = ng ∧ th = (M.hiN s : Int) ∧ tl = (M.loN s : Int) ∧ tq = q → R X true) ∧ (¬ (tc = cl ∧ tn = ng ∧ th = (M.hiN s : Int) ∧ tl = (M.loN s : Int) ∧ tq = q) → R 0 false) ∧ ∀ v : World, Calls Tryd.prog 15 #[.int .i64 f, .agg #[.int .u64 (M.hiN X : Int), .int .u64 (M.loN X : Int)]] v fun e w' => e = .returned (.agg #[.int .i64 tc, .bool tn, .int .u64 th, .int .u64 tl, .int .i64 tq]) ∧ Below v.heap.size v w') :
 Calls Tryd.prog 28 #[.int .i64 f, .agg #[.int .i64 cl, .bool ng, .int .u64 (M.hiN s : Int), .int .u64 (M.loN s : Int), .int .i64 q]] w fun e w' => Wp R w w' e := by
 have hz : (d0 == 0) = false := by simp [hd]
 have H0 := hid r0; have H2 := hid r2; have H3 := hid r3; have HU := hid kU
 clear r0 r2 r3 kU
 obtain ⟨cP, cR, b0⟩ := Cls.new2 w #[.int .i64 cl, .bool ng, .int .u64 (M.hiN s : Int), .int .u64 (M.loN s : Int), .int .i64 q] #[.int .u64 0, .int .u64 0] 33 28
 go_enter Tryd.func28, Tryd.ntmps28
 go_wp2_with fail
 refine (kE _).mono ?_
 rintro e v1 ⟨rfl, hb⟩
 replace cP := cP.below hb
 replace cR := cR.below hb
 replace b0 := b0.trans (hb.mono b0.size)
 clear hb kE
 have l1 := cR.lt
 go_upto_region 2 with fail
 have bA := (Below.refl v1.heap.size v1).alloc (Nat.le_refl _) (.cells #[.int .i64 d0, .int .i64 d1, .int .i64 d2, .int .i64 d3, .int .i64 d4, .bool d5] 56)
 have cD := Cls.new v1 #[.int .i64 d0, .int .i64 d1, .int .i64 d2, .int .i64 d3, .int .i64 d4, .bool d5] 56
 replace cP := cP.below bA
 replace cR := cR.below bA
 replace b0 := b0.trans (bA.mono b0.size)
 clear bA
 generalize v1.alloc (.cells #[.int .i64 d0, .int .i64 d1, .int .i64 d2, .int .i64 d3, .int .i64 d4, .bool d5] 56) = v2 at *
 obtain ⟨gd, hgd⟩ : ∃ gd, gd = v1.heap.size := ⟨_, rfl⟩
 rw [← hgd] at cD l1 ⊢
 clear hgd
 have i0 := cD.cell 0 rfl
 have l2 := cD.lt
 go_upto_region 5 with fail
 have bA := (Below.refl v2.heap.size v2).alloc (Nat.le_refl _) (.cells #[.int .u64 0, .int .u64 0] 28)
 have cW := Cls.new v2 #[.int .u64 0, .int .u64 0] 28
 replace cP := cP.below bA
 replace cR := cR.below bA
 replace cD := cD.below bA
 replace b0 := b0.trans (bA.mono b0.size)
 clear bA
 generalize v2.alloc (.cells #[.int .u64 0, .int .u64 0] 28) = v3 at *
 obtain ⟨gw, hgw⟩ : ∃ gw, gw = v2.heap.size := ⟨_, rfl⟩
 rw [← hgw] at cW l2 ⊢
 clear hgw i0
 have p2 := cP.cell 2 rfl
 have p3 := cP.cell 3 rfl
 go_wp2_with fail
 refine (l2Of_any s hs _).mono ?_
 rintro e v4 ⟨sa, sc, rfl, ho, hb⟩
 replace cP := cP.below hb
 replace cR := cR.below hb
 replace cD := cD.below hb
 replace cW := cW.below hb
 replace b0 := b0.trans (hb.mono b0.size)
 have rS := Rd.own ho
 clear hb ho p2 p3
 have n1 : gw ≠ w.heap.size := by omega
 have n2 : gw ≠ w.heap.size + 1 := by omega
 have n3 : gw ≠ gd := by omega
 have lw : w.heap.size ≤ gw := by omega
 clear l1 l2
 have KD : ∀ v, Below v4.heap.size v4 v → (fun v : World => v.cell? ⟨gd, 0, none⟩ = some (.int .i64 d0) ∧ v.cell? ⟨gd, 1, none⟩ = some (.int .i64 d1) ∧ v.cell? ⟨gd, 2, none⟩ = some (.int .i64 d2) ∧ v.cell? ⟨gd, 3, none⟩ = some (.int .i64 d3) ∧ v.cell? ⟨gd, 4, none⟩ = some (.int .i64 d4) ∧ v.cell? ⟨gd, 5, none⟩ = some (.bool d5) ∧ v.cell? ⟨w.heap.size, 1, none⟩ = some (.bool ng)) v := fun v hv => ⟨(cD.below hv).cell 0 rfl, (cD.below hv).cell 1 rfl, (cD.below hv).cell 2 rfl, (cD.below hv).cell 3 rfl, (cD.below hv).cell 4 rfl, (cD.below hv).cell 5 rfl, (cP.below hv).cell 1 rfl⟩
 have KS : ∀ v (X : Nat), Below v4.heap.size v4 v → (fun v : World => v.cell? ⟨gd, 0, none⟩ = some (.int .i64 d0) ∧ v.cell? ⟨gd, 1, none⟩ = some (.int .i64 d1) ∧ v.cell? ⟨gd, 2, none⟩ = some (.int .i64 d2) ∧ v.cell? ⟨gd, 3, none⟩ = some (.int .i64 d3) ∧ v.cell? ⟨gd, 4, none⟩ = some (.int .i64 d4) ∧ v.cell? ⟨gd, 5, none⟩ = some (.bool d5) ∧ v.cell? ⟨w.heap.size, 1, none⟩ = some (.bool ng)) ((v.setCell ⟨gw, 0, none⟩ (.int .u64 (M.hiN X : Int))).setCell ⟨gw, 1, none⟩ (.int .u64 (M.loN X : Int))) := fun v X hv => by
  have cD9 := (((cD.below hv).far ⟨gw, 0, none⟩ n3 (.int .u64 (M.hiN X : Int))).far ⟨gw, 1, none⟩ n3 (.int .u64 (M.loN X : Int)))
  have cP9 := (((cP.below hv).far ⟨gw, 0, none⟩ n1 (.int .u64 (M.hiN X : Int))).far ⟨gw, 1, none⟩ n1 (.int .u64 (M.loN X : Int)))
  exact ⟨cD9.cell 0 rfl, cD9.cell 1 rfl, cD9.cell 2 rfl, cD9.cell 3 rfl, cD9.cell 4 rfl, cD9.cell 5 rfl, cP9.cell 1 rfl⟩
 have RL : ∀ (Y : Nat) (v : World), Y < 2 ^ 128 → P Y → Below v4.heap.size v4 v → ∃ X : Nat, X < 2 ^ 128 ∧ Hid (P X) ∧ Cls ((v.setCell ⟨gw, 0, none⟩ (.int .u64 (M.hiN Y : Int))).setCell ⟨gw, 1, none⟩ (.int .u64 (M.loN Y : Int))) gw #[.int .u64 (M.hiN X : Int), .int .u64 (M.loN X : Int)] 28 ∧ Cls ((v.setCell ⟨gw, 0, none⟩ (.int .u64 (M.hiN Y : Int))).setCell ⟨gw, 1, none⟩ (.int .u64 (M.loN Y : Int))) w.heap.size #[.int .i64 cl, .bool ng, .int .u64 (M.hiN s : Int), .int .u64 (M.loN s : Int), .int .i64 q] 33 ∧ Cls ((v.setCell ⟨gw, 0, none⟩ (.int .u64 (M.hiN Y : Int))).setCell ⟨gw, 1, none⟩ (.int .u64 (M.loN Y : Int))) (w.heap.size + 1) #[.int .u64 0, .int .u64 0] 28 ∧ Below w.heap.size w ((v.setCell ⟨gw, 0, none⟩ (.int .u64 (M.hiN Y : Int))).setCell ⟨gw, 1, none⟩ (.int .u64 (M.loN Y : Int))) := fun Y v hY hP hv => ⟨Y, hY, hid hP, ((cW.below hv).set 0 _ _ rfl).set 1 _ _ rfl, ((cP.below hv).far ⟨gw, 0, none⟩ n1 _).far ⟨gw, 1, none⟩ n1 _, ((cR.below hv).far ⟨gw, 0, none⟩ n2 _).far ⟨gw, 1, none⟩ n2 _, ((b0.trans (hv.mono b0.size)).setCell (p := ⟨gw, 0, none⟩) lw _).setCell (p := ⟨gw, 1, none⟩) lw _⟩
 have A0 : Below v4.heap.size v4 v4.drew := (Below.refl _ _).drew
 have p0 := cP.cell 0 rfl
 have p1 := cP.cell 1 rfl
 have p4 := cP.cell 4 rfl
 obtain ⟨i0, i1, i2, i3, i4, i5, -⟩ := KD _ (Below.refl _ _)
 go_upto_block 0 with fail
 go_cut [9] (fun z wx => (∃ z0, z = z0) ∧ ∃ X : Nat, X < 2 ^ 128 ∧ Hid (P X) ∧ Cls wx gw #[.int .u64 (M.hiN X : Int), .int .u64 (M.loN X : Int)] 28 ∧ Cls wx w.heap.size #[.int .i64 cl, .bool ng, .int .u64 (M.hiN s : Int), .int .u64 (M.loN s : Int), .int .i64 q] 33 ∧ Cls wx (w.heap.size + 1) #[.int .u64 0, .int .u64 0] 28 ∧ Below w.heap.size w wx)
 case first =>
  by_cases c1 : cl = 1
  · subst c1
    go_wp2_with fail
    refine (kM1 (by trivial) _).mono ?_
    rintro e u9 ⟨X, hX, hP, rfl, B9⟩
    have W2 := cW.below B9; have y0 := W2.cell 0 rfl; have y1 := W2.cell 1 rfl; have y2 := W2.frozen 0; have y3 := W2.frozen 1
    go_wp2_with fail
    go_meet
    case rel => exact ⟨⟨_, rfl⟩, RL _ _ hX hP B9⟩
  have e1 : (cl == 1) = false := beq_eq_false_iff_ne.2 c1
  by_cases c4 : cl = 4
  · subst c4
    go_upto_region 11 with fail
    go_region_held3 (fun v : World => v.cell? ⟨gd, 0, none⟩ = some (.int .i64 d0) ∧ v.cell? ⟨gd, 1, none⟩ = some (.int .i64 d1) ∧ v.cell? ⟨gd, 2, none⟩ = some (.int .i64 d2) ∧ v.cell? ⟨gd, 3, none⟩ = some (.int .i64 d3) ∧ v.cell? ⟨gd, 4, none⟩ = some (.int .i64 d4) ∧ v.cell? ⟨gd, 5, none⟩ = some (.bool d5) ∧ v.cell? ⟨w.heap.size, 1, none⟩ = some (.bool ng)) (first | with_reducible exact KD _ A0 | with_reducible exact KD _ B1 | with_reducible exact KD _ B2 | with_reducible exact KD _ B9 | with_reducible exact KS _ _ B9)
     (first | (go_at_call 56; refine (kT _).mono ?_; rintro e u1 ⟨rfl, hb⟩; have B1 := keepC (w1 := v4) A0 hb; clear hb) | (go_at_call 55; refine (kM4 (by trivial) _).mono ?_; rintro e u9 ⟨X, hX, hP, rfl, hb⟩; have B9 := keepC (w1 := v4) B1 hb; clear hb; have W2 := cW.below B9; have y0 := W2.cell 0 rfl; have y1 := W2.cell 1 rfl; have y2 := W2.frozen 0; have y3 := W2.frozen 1))
    go_wp2_with fail
    go_meet
    case rel => exact ⟨⟨_, rfl⟩, RL _ _ hX hP B9⟩
  have e4 : (cl == 4) = false := beq_eq_false_iff_ne.2 c4
  by_cases c5 : cl = 5
  · subst c5
    go_upto_region 13 with fail
    go_region_held3 (fun v : World => v.cell? ⟨gd, 0, none⟩ = some (.int .i64 d0) ∧ v.cell? ⟨gd, 1, none⟩ = some (.int .i64 d1) ∧ v.cell? ⟨gd, 2, none⟩ = some (.int .i64 d2) ∧ v.cell? ⟨gd, 3, none⟩ = some (.int .i64 d3) ∧ v.cell? ⟨gd, 4, none⟩ = some (.int .i64 d4) ∧ v.cell? ⟨gd, 5, none⟩ = some (.bool d5) ∧ v.cell? ⟨w.heap.size, 1, none⟩ = some (.bool ng)) (first | with_reducible exact KD _ A0 | with_reducible exact KD _ B1 | with_reducible exact KD _ B2 | with_reducible exact KD _ B9 | with_reducible exact KS _ _ B9)
     (first
       | (go_at_call 56; refine (kT _).mono ?_; rintro e u1 ⟨rfl, hb⟩; have B1 := keepC (w1 := v4) (by first | with_reducible exact A0 | with_reducible exact B2) hb; (try replace rH := rH.below hb); clear hb)
       | (go_at_call 50; refine (k2 _).mono ?_; rintro e u2 ⟨ha, hc, rfl, ho, hb⟩; have B2 := keepC (w1 := v4) (by first | with_reducible exact A0 | with_reducible exact B1) hb; have rH := Rd.own ho; clear hb ho)
       | (go_at_call 55; refine (kM5 (by trivial) _ _ _ rH).mono ?_; rintro e u9 ⟨X, hX, hP, rfl, hb⟩; have B9 := keepC (w1 := v4) (by first | with_reducible exact B1 | with_reducible exact B2) hb; clear hb; have W2 := cW.below B9; have y0 := W2.cell 0 rfl; have y1 := W2.cell 1 rfl; have y2 := W2.frozen 0; have y3 := W2.frozen 1))
    all_goals go_wp2_with fail
    all_goals go_meet
    all_goals exact ⟨⟨_, rfl⟩, RL _ _ hX hP B9⟩
  have e5 : (cl == 5) = false := beq_eq_false_iff_ne.2 c5
  by_cases c2 : cl = 2
  · subst c2
    go_upto_region 15 with fail
    clear i0 i1 i2 i3 i4 i5 p0 p1 p4
    by_cases hb2 : d0 ≤ b
    · go_region_held3 (fun v : World => v.cell? ⟨gd, 0, none⟩ = some (.int .i64 d0) ∧ v.cell? ⟨gd, 1, none⟩ = some (.int .i64 d1) ∧ v.cell? ⟨gd, 2, none⟩ = some (.int .i64 d2) ∧ v.cell? ⟨gd, 3, none⟩ = some (.int .i64 d3) ∧ v.cell? ⟨gd, 4, none⟩ = some (.int .i64 d4) ∧ v.cell? ⟨gd, 5, none⟩ = some (.bool d5) ∧ v.cell? ⟨w.heap.size, 1, none⟩ = some (.bool ng)) (first | with_reducible exact KD _ A0 | with_reducible exact KD _ B1 | with_reducible exact KD _ B2 | with_reducible exact KD _ B9 | with_reducible exact KS _ _ B9)
       (first | (go_at_call 46; refine (kB _ sa sc (rS.below A0)).mono ?_; rintro e u1 ⟨rfl, rfl⟩))
      have cR9 := cR.below A0
      have HB := hid (b0.trans (A0.mono b0.size))
      generalize v4.drew = vz at cR9 HB ⊢
      have r0 := cR9.cell 0 rfl
      have r1 := cR9.cell 1 rfl
      have z0 := cR9.frozen 0
      have z1 := cR9.frozen 1
      go_wp2_with fail
      exact bodyPost_ret (v := .tuple #[.agg #[.int .u64 0, .int .u64 0], .bool false]) (by simp [results, Tryd.results28, go_sem, r0, r1]) rfl ⟨0, false, H2.out (by trivial) hb2, by rw [hi0, lo0]; rfl, (HB.out.setCell (p := ⟨w.heap.size + 1, 0, none⟩) (Nat.le_succ _) _).setCell (p := ⟨w.heap.size + 1, 1, none⟩) (Nat.le_succ _) _⟩
    · go_region_held3 (fun v : World => v.cell? ⟨gd, 0, none⟩ = some (.int .i64 d0) ∧ v.cell? ⟨gd, 1, none⟩ = some (.int .i64 d1) ∧ v.cell? ⟨gd, 2, none⟩ = some (.int .i64 d2) ∧ v.cell? ⟨gd, 3, none⟩ = some (.int .i64 d3) ∧ v.cell? ⟨gd, 4, none⟩ = some (.int .i64 d4) ∧ v.cell? ⟨gd, 5, none⟩ = some (.bool d5) ∧ v.cell? ⟨w.heap.size, 1, none⟩ = some (.bool ng)) (first | with_reducible exact KD _ A0 | with_reducible exact KD _ B1 | with_reducible exact KD _ B2 | with_reducible exact KD _ B9 | with_reducible exact KS _ _ B9)
       (first | (go_at_call 46; refine (kB _ sa sc (rS.below A0)).mono ?_; rintro e u1 ⟨rfl, rfl⟩))
      obtain ⟨i0, i1, i2, i3, i4, i5, p1⟩ := KD _ A0
      have kM := kM2 (by trivial) (by omega) _ sa sc (rS.below A0)
      go_wp2_with fail
      refine kM.mono ?_
      rintro e u9 ⟨X, hX, hP, rfl, hb⟩
      have B9 := keepC (w1 := v4) A0 hb
      clear hb kM
      have W2 := cW.below B9; have y0 := W2.cell 0 rfl; have y1 := W2.cell 1 rfl; have y2 := W2.frozen 0; have y3 := W2.frozen 1
      go_wp2_with fail
      go_meet
      case rel => exact ⟨⟨_, rfl⟩, RL _ _ hX hP B9⟩
  have e2 : (cl == 2) = false := beq_eq_false_iff_ne.2 c2
  by_cases c3 : cl = 3
  · subst c3
    go_upto_region 20 with fail
    clear p0 p1 p4
    by_cases hbd : b = d0
    · have hbd2 : d0 = b := hbd.symm
      subst hbd2
      have g1 : (d0 != d0) = false := by simp
      by_cases hE1 : E < 1
      · go_quiet ((go_at_call 46; exact Calls.quiet_of_same (kB _ sa sc (Rd.drewN rS _))))
        have A9 : Below v4.heap.size v4 (v4.drewN nq) := ⟨rfl, rfl, rfl, Nat.le_refl _, fun _ _ => rfl⟩
        have cR9 := cR.below A9
        have HB := hid (b0.trans (A9.mono b0.size))
        generalize v4.drewN nq = vz at cR9 HB ⊢
        have r0 := cR9.cell 0 rfl
        have r1 := cR9.cell 1 rfl
        have z0 := cR9.frozen 0
        have z1 := cR9.frozen 1
        go_wp2_with fail
        exact bodyPost_ret (v := .tuple #[.agg #[.int .u64 0, .int .u64 0], .bool false]) (by simp [results, Tryd.results28, go_sem, r0, r1]) rfl ⟨0, false, H3.out (by trivial) (Or.inr (Or.inl hE1)), by rw [hi0, lo0]; rfl, (HB.out.setCell (p := ⟨w.heap.size + 1, 0, none⟩) (Nat.le_succ _) _).setCell (p := ⟨w.heap.size + 1, 1, none⟩) (Nat.le_succ _) _⟩
      · have g2 : (E < 1) = False := eq_false hE1
        have g3 : decide (E < 1) = false := decide_eq_false hE1
        clear i0 i1 i2 i3 i4 i5
        go_region_held3 (fun v : World => v.cell? ⟨gd, 0, none⟩ = some (.int .i64 d0) ∧ v.cell? ⟨gd, 1, none⟩ = some (.int .i64 d1) ∧ v.cell? ⟨gd, 2, none⟩ = some (.int .i64 d2) ∧ v.cell? ⟨gd, 3, none⟩ = some (.int .i64 d3) ∧ v.cell? ⟨gd, 4, none⟩ = some (.int .i64 d4) ∧ v.cell? ⟨gd, 5, none⟩ = some (.bool d5) ∧ v.cell? ⟨w.heap.size, 1, none⟩ = some (.bool ng)) (first | with_reducible exact KD _ A0 | with_reducible exact KD _ B1 | with_reducible exact KD _ B2 | with_reducible exact KD _ B9 | with_reducible exact KS _ _ B9)
         (first
           | (go_at_call 46; refine (kB _ sa sc (rS.below A0)).mono ?_; rintro e u1 ⟨rfl, rfl⟩)
           | (go_at_call 56; refine (kT _).mono ?_; rintro e u2 ⟨rfl, hb⟩; have B1 := keepC (w1 := v4) A0 hb; clear hb))
        by_cases hE2 : tp ≤ E
        · have cR9 := cR.below B1
          have HB := hid (b0.trans (B1.mono b0.size))
          have r0 := cR9.cell 0 rfl
          have r1 := cR9.cell 1 rfl
          have z0 := cR9.frozen 0
          have z1 := cR9.frozen 1
          go_wp2_with fail
          exact bodyPost_ret (v := .tuple #[.agg #[.int .u64 0, .int .u64 0], .bool false]) (by simp [results, Tryd.results28, go_sem, r0, r1]) rfl ⟨0, false, H3.out (by trivial) (Or.inr (Or.inr hE2)), by rw [hi0, lo0]; rfl, (HB.out.setCell (p := ⟨w.heap.size + 1, 0, none⟩) (Nat.le_succ _) _).setCell (p := ⟨w.heap.size + 1, 1, none⟩) (Nat.le_succ _) _⟩
        · have kM := kM3 (by trivial) (by first | rfl | assumption) (by omega) (by omega)
          obtain ⟨i0, i1, i2, i3, i4, i5, p1⟩ := KD _ B1
          go_upto_region 22 with fail
          have A1 : Below v4.heap.size v4 u2.drew := B1.trans ((Below.refl _ _).drew.mono B1.size)
          go_region_held3 (fun v : World => v.cell? ⟨gd, 0, none⟩ = some (.int .i64 d0) ∧ v.cell? ⟨gd, 1, none⟩ = some (.int .i64 d1) ∧ v.cell? ⟨gd, 2, none⟩ = some (.int .i64 d2) ∧ v.cell? ⟨gd, 3, none⟩ = some (.int .i64 d3) ∧ v.cell? ⟨gd, 4, none⟩ = some (.int .i64 d4) ∧ v.cell? ⟨gd, 5, none⟩ = some (.bool d5) ∧ v.cell? ⟨w.heap.size, 1, none⟩ = some (.bool ng)) (first | with_reducible exact KD _ A1 | with_reducible exact KD _ B2 | with_reducible exact KD _ B9 | with_reducible exact KS _ _ B9)
           (first
             | (go_at_call 47; refine (kL _ sa sc (rS.below A1)).mono ?_; rintro e u3 ⟨la, lc, rfl, ho, hb⟩; have B2 := keepC (w1 := v4) A1 hb; have rL := Rd.own ho; clear hb ho)
             | (go_at_call 55; refine (kM _ _ _ rL).mono ?_; rintro e u9 ⟨X, hX, hP, rfl, hb⟩; have B9 := keepC (w1 := v4) B2 hb; clear hb; have W2 := cW.below B9; have y0 := W2.cell 0 rfl; have y1 := W2.cell 1 rfl; have y2 := W2.frozen 0; have y3 := W2.frozen 1))
          all_goals go_wp2_with fail
          all_goals go_meet
          all_goals exact ⟨⟨_, rfl⟩, RL _ _ hX hP B9⟩
    · have g1 : (b != d0) = true := by simp [hbd]
      go_quiet ((go_at_call 46; exact Calls.quiet_of_same (kB _ sa sc (Rd.drewN rS _))))
      have A9 : Below v4.heap.size v4 (v4.drewN nq) := ⟨rfl, rfl, rfl, Nat.le_refl _, fun _ _ => rfl⟩
      have cR9 := cR.below A9
      have HB := hid (b0.trans (A9.mono b0.size))
      generalize v4.drewN nq = vz at cR9 HB ⊢
      have r0 := cR9.cell 0 rfl
      have r1 := cR9.cell 1 rfl
      have z0 := cR9.frozen 0
      have z1 := cR9.frozen 1
      go_wp2_with fail
      exact bodyPost_ret (v := .tuple #[.agg #[.int .u64 0, .int .u64 0], .bool false]) (by simp [results, Tryd.results28, go_sem, r0, r1]) rfl ⟨0, false, H3.out (by trivial) (Or.inl hbd), by rw [hi0, lo0]; rfl, (HB.out.setCell (p := ⟨w.heap.size + 1, 0, none⟩) (Nat.le_succ _) _).setCell (p := ⟨w.heap.size + 1, 1, none⟩) (Nat.le_succ _) _⟩
  have e3 : (cl == 3) = false := beq_eq_false_iff_ne.2 c3
  have HB := hid b0
  have r0 := cR.cell 0 rfl
  have r1 := cR.cell 1 rfl
  have z0 := cR.frozen 0
  have z1 := cR.frozen 1
  go_wp2_with fail
  exact bodyPost_ret (v := .tuple #[.agg #[.int .u64 0, .int .u64 0], .bool false]) (by simp [results, Tryd.results28, go_sem, r0, r1]) rfl ⟨0, false, H0.out c1 c2 c3 c4 c5, by rw [hi0, lo0]; rfl, (HB.out.setCell (p := ⟨w.heap.size + 1, 0, none⟩) (Nat.le_succ _) _).setCell (p := ⟨w.heap.size + 1, 1, none⟩) (Nat.le_succ _) _⟩
 case rest =>
 rename World => v5
 obtain ⟨⟨z0, rfl⟩, X, hX, HP, cW5, cP5, cR5, b5⟩ := hcut
 clear KD KS RL A0 p0 p1 p4 i0 i1 i2 i3 i4 i5 cW cP cR cD b0 rS
 have KE : ∀ v, Below v5.heap.size v5 v → (fun v : World => v.cell? ⟨gw, 0, none⟩ = some (.int .u64 (M.hiN X : Int)) ∧ v.cell? ⟨gw, 1, none⟩ = some (.int .u64 (M.loN X : Int)) ∧ v.cell? ⟨w.heap.size, 0, none⟩ = some (.int .i64 cl) ∧ v.cell? ⟨w.heap.size, 1, none⟩ = some (.bool ng) ∧ v.cell? ⟨w.heap.size, 2, none⟩ = some (.int .u64 (M.hiN s : Int)) ∧ v.cell? ⟨w.heap.size, 3, none⟩ = some (.int .u64 (M.loN s : Int)) ∧ v.cell? ⟨w.heap.size, 4, none⟩ = some (.int .i64 q)) v := fun v hv => ⟨(cW5.below hv).cell 0 rfl, (cW5.below hv).cell 1 rfl, (cP5.below hv).cell 0 rfl, (cP5.below hv).cell 1 rfl, (cP5.below hv).cell 2 rfl, (cP5.below hv).cell 3 rfl, (cP5.below hv).cell 4 rfl⟩
 have A0 : Below v5.heap.size v5 v5.drew := (Below.refl _ _).drew
 go_upto_region 23 with fail
 go_cut [101] (fun z wx => (∃ bq : Bool, z = .bool bq ∧ Hid ((bq = false → R X true) ∧ (bq = true → R 0 false))) ∧ Below v5.heap.size v5 wx)
 case first =>
  obtain ⟨tc, tn, th, tl, tq, ky, kn, kV⟩ := HU.out X hX HP.out
  have KY := hid ky; have KN := hid kn
  clear ky kn
  have hcs : ¬ tc = cl ∨ tc = cl ∧ ¬ tn = ng ∨ tc = cl ∧ tn = ng ∧ ¬ th = (M.hiN s : Int) ∨ tc = cl ∧ tn = ng ∧ th = (M.hiN s : Int) ∧ ¬ tl = (M.loN s : Int) ∨ tc = cl ∧ tn = ng ∧ th = (M.hiN s : Int) ∧ tl = (M.loN s : Int) ∧ ¬ tq = q ∨ tc = cl ∧ tn = ng ∧ th = (M.hiN s : Int) ∧ tl = (M.loN s : Int) ∧ tq = q := by
   by_cases h1 : tc = cl <;> by_cases h2 : tn = ng <;> by_cases h3 : th = (M.hiN s : Int) <;> by_cases h4 : tl = (M.loN s : Int) <;> by_cases h5 : tq = q <;> simp [h1, h2, h3, h4, h5]
  rcases hcs with h1 | ⟨h1, h2⟩ | ⟨h1, h2, h3⟩ | ⟨h1, h2, h3, h4⟩ | ⟨h1, h2, h3, h4, h5⟩ | ⟨h1, h2, h3, h4, h5⟩
  all_goals go_region_held3 (fun v : World => v.cell? ⟨gw, 0, none⟩ = some (.int .u64 (M.hiN X : Int)) ∧ v.cell? ⟨gw, 1, none⟩ = some (.int .u64 (M.loN X : Int)) ∧ v.cell? ⟨w.heap.size, 0, none⟩ = some (.int .i64 cl) ∧ v.cell? ⟨w.heap.size, 1, none⟩ = some (.bool ng) ∧ v.cell? ⟨w.heap.size, 2, none⟩ = some (.int .u64 (M.hiN s : Int)) ∧ v.cell? ⟨w.heap.size, 3, none⟩ = some (.int .u64 (M.loN s : Int)) ∧ v.cell? ⟨w.heap.size, 4, none⟩ = some (.int .i64 q)) (first | with_reducible exact KE _ A0 | with_reducible exact KE _ B1)
   (first | (go_at_call 15; refine (kV _).mono ?_; rintro e u1 ⟨rfl, hb⟩; have B1 := keepC (w1 := v5) A0 hb; clear hb))
  all_goals go_wp2_with fail
  all_goals go_meet
  all_goals refine ⟨⟨_, rfl, hid ⟨fun hq => ?_, fun hq => ?_⟩⟩, B1⟩
  all_goals first | exact KY.out ⟨h1, h2, h3, h4, h5⟩ | exact KN.out (fun hh => absurd hh.1 h1) | exact KN.out (fun hh => absurd hh.2.1 h2) | exact KN.out (fun hh => absurd hh.2.2.1 h3) | exact KN.out (fun hh => absurd hh.2.2.2.1 h4) | exact KN.out (fun hh => absurd hh.2.2.2.2 h5) | (exfalso; revert hq; simp_all)
 case rest =>
 rename World => v6
 obtain ⟨⟨bq, rfl, HQ⟩, hb⟩ := hcut
 replace cR5 := cR5.below hb
 replace cW5 := cW5.below hb
 replace b5 := b5.trans (hb.mono b5.size)
 clear hb KE A0 cP5
 cases bq
 · have r0 := cR5.cell 0 rfl
   have r1 := cR5.cell 1 rfl
   have z0 := cR5.frozen 0
   have z1 := cR5.frozen 1
   have x0 := cW5.cell 0 rfl
   have x1 := cW5.cell 1 rfl
   have HB := hid b5
   go_wp2_with fail
   exact bodyPost_ret (v := .tuple #[.agg #[.int .u64 (M.hiN X : Int), .int .u64 (M.loN X : Int)], .bool true]) (by simp [results, Tryd.results28, go_sem, r0, r1]) rfl ⟨X, true, HQ.out.1 (by trivial), rfl, (HB.out.setCell (p := ⟨w.heap.size + 1, 0, none⟩) (Nat.le_succ _) _).setCell (p := ⟨w.heap.size + 1, 1, none⟩) (Nat.le_succ _) _⟩
 · skip
   have HB := hid b5
   have r0 := cR5.cell 0 rfl
   have r1 := cR5.cell 1 rfl
   have z0 := cR5.frozen 0
   have z1 := cR5.frozen 1
   go_wp2_with fail
   exact bodyPost_ret (v := .tuple #[.agg #[.int .u64 0, .int .u64 0], .bool false]) (by simp [results, Tryd.results28, go_sem, r0, r1]) rfl ⟨0, false, HQ.out.2 (by trivial), by rw [hi0, lo0]; rfl, (HB.out.setCell (p := ⟨w.heap.size + 1, 0, none⟩) (Nat.le_succ _) _).setCell (p := ⟨w.heap.size + 1, 1, none⟩) (Nat.le_succ _) _⟩

theorem pk_ans {F : M.Fm} (h : F.Ok) (t : M.Pt) (X : Nat) (hc : t.c ≠ 0) (hX : F.Proper t → F.pk t = X) :
 (F.upk X = t → (if F.Proper t then F.pk t else 0) = X ∧ decide (F.Proper t) = true) ∧ (¬ F.upk X = t → (if F.Proper t then F.pk t else 0) = 0 ∧ decide (F.Proper t) = false) := by
 constructor
 · intro e
   have hp : F.Proper t := by
    rcases h.upk_proper X with hb | hb
    · rw [e] at hb; rw [hb] at hc; simp at hc
    · rw [e] at hb; exact hb
   exact ⟨by rw [if_pos hp]; exact hX hp, decide_eq_true hp⟩
 · intro e
   have hp : ¬ F.Proper t := fun hp => e (by rw [← hX hp]; exact (h.upk_pk t hp).1)
   exact ⟨if_neg hp, decide_eq_false hp⟩

theorem pt_eq {a : M.Pt} {c : Int} {n : Bool} {s : Nat} {q : Int} : (a.c = c ∧ a.n = n ∧ (M.hiN a.s : Int) = (M.hiN s : Int) ∧ (M.loN a.s : Int) = (M.loN s : Int) ∧ a.q = q) ↔ a = ⟨c, n, s, q⟩ := by
 constructor
 · rintro ⟨h1, h2, h3, h4, h5⟩
   refine M.Pt.ext' h1 h2 ?_ h5
   have e1 := M.hl a.s
   have e2 := M.hl s
   simp only
   omega
 · rintro rfl
   exact ⟨rfl, rfl, rfl, rfl, rfl⟩

def ansN (F : M.Fm) (t : M.Pt) : Nat := if F.Proper t then F.pk t else 0

theorem notProper0 {F : M.Fm} {c : Int} {n : Bool} {s : Nat} {q : Int} (h1 : c ≠ 1) (h2 : c ≠ 2) (h3 : c ≠ 3) (h4 : c ≠ 4) (h5 : c ≠ 5) : ¬ F.Proper ⟨c, n, s, q⟩ := by
 unfold M.Fm.Proper
 simp only
 omega

theorem blen_iff {F : M.Fm} (h : F.Ok) (s : Nat) : (F.lead ≤ s ↔ F.p ≤ blen s) ∧ (s < 2 * F.lead ↔ blen s ≤ F.p) := by
 have p1 := h.p1
 have e : 2 * F.lead = 2 ^ F.p := by
  unfold M.Fm.lead
  rw [Nat.mul_comm, ← Nat.pow_succ]; congr 1; omega
 rw [e]
 have a := lt_blen s
 refine ⟨⟨fun hh => ?_, fun hh => ?_⟩, ⟨fun hh => blen_le_of s _ hh, fun hh => Nat.lt_of_lt_of_le a (Nat.pow_le_pow_right (by omega) hh)⟩⟩
 · refine Classical.byContradiction fun hn => ?_
   have : 2 ^ blen s ≤ 2 ^ (F.p - 1) := Nat.pow_le_pow_right (by omega) (by omega)
   unfold M.Fm.lead at hh
   omega
 · have hp : 0 < s := by
    rcases Nat.eq_zero_or_pos s with rfl | hs
    · rw [blen_zero] at hh; omega
    · exact hs
   have b := blen_le s hp
   have : 2 ^ (F.p - 1) ≤ 2 ^ (blen s - 1) := Nat.pow_le_pow_right (by omega) (by omega)
   unfold M.Fm.lead
   omega

theorem D_nil : D 0 = [] := by rw [← List.length_eq_zero_iff]; have := M.len_of_lt (B := 4294967296) (by omega) 0 0 (by simp); exact Nat.le_zero.1 this

theorem make_wo (P : Nat → Prop) (F : M.Fm) (h : F.Ok) (n ld : Bool) (ex sg R : Nat) (h2 : ex ≤ F.top) (h3 : sg < 2 * F.lead) (h4 : F.lead ≤ sg ↔ 0 < ex) (hld : ld = decide (0 < ex)) (hR : R = if 0 < ex then sg - F.lead else sg) (hP : P (F.word n ex sg)) (ao : Option Addr) (c : Nat) (w : World) (hr : Rd w ao (D R)) :
 Calls Tryd.prog 55 #[.agg #[.int .i64 (F.p : Int), .int .i64 (1 - (F.emax : Int)), .int .i64 (F.emax : Int), .int .i64 (F.wd : Int), .int .i64 (F.e : Int), .bool F.x], .bool n, .int .i64 (ex : Int), .bool ld, .slice ao (D R).length c] w fun e w' => Wo P w w' e := by
 refine (make_word F h n ld ex sg R h2 h3 h4 hld hR ao c w hr).mono ?_
 rintro e w' ⟨rfl, hb⟩
 exact ⟨_, Nat.lt_of_lt_of_le (h.fields n ex sg h2 h3 h4).2.2.2 h.width.2.2, hP, rfl, hb⟩

theorem spack_any (f : Nat) (hf : f < 4) (c : Int) (n : Bool) (s : Nat) (hs : s < 2 ^ 128) (q : Int) (hq1 : -9223372036854775808 ≤ q) (hq2 : q < 9223372036854775808) (w : World) :
 Calls Tryd.prog 28 #[.int .i64 (f : Int), .agg #[.int .i64 c, .bool n, .int .u64 (M.hiN s : Int), .int .u64 (M.loN s : Int), .int .i64 q]] w fun e w' => e = .returned (.tuple #[.agg #[.int .u64 (M.hiN (ansN (M.fm f) ⟨c, n, s, q⟩) : Int), .int .u64 (M.loN (ansN (M.fm f) ⟨c, n, s, q⟩) : Int)], .bool (decide ((M.fm f).Proper ⟨c, n, s, q⟩))]) ∧ Below w.heap.size w w' := by
 have kE := fun v : World => sdescribe_ok f hf v
 have kU := fun (X : Nat) (hX : X < 2 ^ 128) (v : World) => sunpack_any f hf X hX v
 have h := M.fm_ok f
 have kT := fun v : World => stop_any (M.fm f) h v
 generalize M.fm f = F at *
 simp only [dv, pv] at kE kU
 have p1 := h.p1
 have p2 := h.p2
 have lp := h.leadPos
 have ht := h.top2
 obtain ⟨b1, b2⟩ := blen_iff h s
 have hl : F.lead = 2 ^ (F.p - 1) := rfl
 obtain ⟨E, hE⟩ : ∃ E, wrap64 (wrap64 (wrap64 (q + (F.emax : Int)) + (F.p : Int)) - 1) = E := ⟨_, rfl⟩
 have hE' := hE
 simp only [wrap64] at hE'
 have rN : ¬ F.Proper ⟨c, n, s, q⟩ → (0 = ansN F ⟨c, n, s, q⟩ ∧ false = decide (F.Proper ⟨c, n, s, q⟩)) := fun hn => ⟨(if_neg hn).symm, (decide_eq_false hn).symm⟩
 refine (packG (f : Int) c n s q hs _ _ _ _ _ _ (by omega) (F.top : Int) (blen s : Int) E (2 ^ (F.p - 2)) (s % 2 ^ (F.p - 1)) w (fun X => c ≠ 0 ∧ (F.Proper ⟨c, n, s, q⟩ → F.pk ⟨c, n, s, q⟩ = X)) (fun Y ok => Y = ansN F ⟨c, n, s, q⟩ ∧ ok = decide (F.Proper ⟨c, n, s, q⟩))
  (fun c1 c2 c3 c4 c5 => rN (notProper0 c1 c2 c3 c4 c5))
  (fun e hb => rN (by
    subst e
    have := b1.2 (by omega)
    unfold M.Fm.Proper; simp only; omega))
  (fun e hb => rN (by
    subst e
    clear kE kU kT rN
    unfold M.Fm.Proper; simp only; omega))
  hE (by rw [IntKind.wrap_i64]; omega) (by rw [IntKind.wrap_i64]; omega) kE kT
  (fun v ao cc hr => l1Bits_any ao _ cc s v rfl (by have := D_word hs; omega) hr _ rfl)
  (fun v => by have := l2Two_any (F.p - 2) v (by omega); rwa [show ((F.p - 2 : Nat) : Int) = (F.p : Int) - 2 by omega] at this)
  (fun v ao cc hr => by have := l2Low_any ao _ cc (F.p - 1) s v rfl (by have := D_word hs; omega) (by omega) hr; rwa [show ((F.p - 1 : Nat) : Int) = (F.p : Int) - 1 by omega] at this)
  (fun e v => by
    have := make_wo (fun X => c ≠ 0 ∧ (F.Proper ⟨c, n, s, q⟩ → F.pk ⟨c, n, s, q⟩ = X)) F h n false 0 0 0 (by omega) (by omega) (by omega) rfl rfl ⟨by omega, fun _ => by subst e; simp [M.Fm.pk]⟩ none 0 v (by rw [D_nil]; exact Rd.nil _ _)
    rw [D_nil] at this
    exact this)
  (fun e v => by
    have := make_wo (fun X => c ≠ 0 ∧ (F.Proper ⟨c, n, s, q⟩ → F.pk ⟨c, n, s, q⟩ = X)) F h n true F.top F.lead 0 (Nat.le_refl _) (by omega) (by omega) (by simp; omega) (by rw [if_pos (by omega)]; omega) ⟨by omega, fun _ => by subst e; simp [M.Fm.pk]⟩ none 0 v (by rw [D_nil]; exact Rd.nil _ _)
    rw [D_nil] at this
    exact this)
  (fun e v ao cc hr => by
    have e1 : 2 ^ (F.p - 2) < F.lead := by rw [hl]; exact Nat.pow_lt_pow_right (by omega) (by omega)
    have e2 : F.pk ⟨c, n, s, q⟩ = F.word false F.top (F.lead + 2 ^ (F.p - 2)) := by subst e; simp [M.Fm.pk]
    clear hl b1 b2
    generalize 2 ^ (F.p - 2) = xx at *
    exact make_wo _ F h false true F.top (F.lead + xx) xx (Nat.le_refl _) (by omega) (by omega) (by simp; omega) (by rw [if_pos (by omega)]; omega) ⟨by omega, fun _ => e2⟩ ao cc v hr)
  (fun e hb v ao cc hr => make_wo _ F h n false 0 s s (by omega) (by have := b1.1; omega) (by omega) rfl rfl ⟨by omega, fun _ => by subst e; simp [M.Fm.pk]⟩ ao cc v hr)
  (fun e hb hE1 hE2 v ao cc hr => by
    have c1 : F.lead ≤ s := b1.2 (by omega)
    have c2 : s < 2 * F.lead := b2.2 (by omega)
    have e1 : s % 2 ^ (F.p - 1) = s - F.lead := by rw [← hl, Nat.mod_eq_sub_mod c1]; exact Nat.mod_eq_of_lt (by omega)
    obtain ⟨x, rfl⟩ : ∃ x : Nat, E = (x : Int) := ⟨E.toNat, by omega⟩
    refine make_wo _ F h n true x s _ (by omega) c2 (by omega) (by simp; omega) (by rw [if_pos (by omega)]; exact e1) ⟨by omega, fun hp => ?_⟩ ao cc v hr
    subst e
    unfold M.Fm.Proper at hp
    simp only at hp
    simp [M.Fm.pk, show (q + (F.emax : Int) + (F.p : Int) - 1).toNat = x by omega])
  (fun X hX hP => by
    have an := pk_ans h ⟨c, n, s, q⟩ X hP.1 hP.2
    exact ⟨_, _, _, _, _, fun e => by have := an.1 (pt_eq.1 e); exact ⟨this.1.symm, this.2.symm⟩, fun e => by have := an.2 (fun e' => e (pt_eq.2 e')); exact ⟨this.1.symm, this.2.symm⟩, fun v => kU X hX v⟩)).mono ?_
 rintro e w' ⟨Y, ok, ⟨rfl, rfl⟩, rfl, hb⟩
 exact ⟨rfl, hb⟩

end Go.Proofs.YtogkkecnmlnajaaDoor
