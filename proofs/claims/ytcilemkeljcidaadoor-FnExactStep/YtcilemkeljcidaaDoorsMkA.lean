import Derived.Test.YtcilemkeljcidaaDoorsCl2
import Derived.Test.YtcilemkeljcidaaDoorsW7
import Derived.Test.YtcilemkeljcidaaDoorsSp1
import Derived.Test.YtcilemkeljcidaaDoorsBY
set_option maxHeartbeats 4000000
set_option maxRecDepth 10000
namespace Go.Proofs.YtcilemkeljcidaaDoor
open Go.RowKit
set_option linter.unusedVariables false
set_option maxRecDepth 100000
theorem D_word {a : Nat} (h : a < 2 ^ 128) : (D a).length ≤ 6 := D_small a (by omega)

theorem make_w (p W ex R V : Nat) (e1 e2 e4 : Int) (x n ld : Bool) (ao : Option Addr) (c : Nat) (w : World) (hp1 : 2 ≤ p) (hp2 : p ≤ 113) (hW1 : 1 ≤ W) (hW2 : W ≤ 128) (hex : ex < 40000) (hr : Rd w ao (D R)) (fb A1 S1 A2 : Nat) (hfb : fb = if x then p else p - 1) (hA1 : A1 = R + if x = true ∧ ld = true then 2 ^ (p - 1) else 0) (hA2 : A2 = A1 + ex * 2 ^ fb) (hV : V = A2 + if n then 2 ^ (W - 1) else 0) (hVl : V < 2 ^ 128) :
 Calls Tryd.prog 38 #[.agg #[.int .i64 (p : Int), .int .i64 e1, .int .i64 e2, .int .i64 (W : Int), .int .i64 e4, .bool x], .bool n, .int .i64 (ex : Int), .bool ld, .slice ao (D R).length c] w fun e w' => e = .returned (.agg #[.int .u64 (M.hiN V : Int), .int .u64 (M.loN V : Int)]) ∧ Below w.heap.size w w' := by
 have k2 : ∀ (v : World) (z : Int) (k : Nat), z = (k : Int) → k ≤ 128 → Calls Tryd.prog 29 #[.int .i64 z] v fun e w' => Ret v w' e (D (2 ^ k)) := fun v z k hz hk => by
  rw [hz]; exact l2Two_any k v hk
 have lA2 : A2 < 2 ^ 128 := by omega
 have lA1 : A1 < 2 ^ 128 := by omega
 have lE : ex * 2 ^ fb < 2 ^ 128 := by omega
 have lR : R < 2 ^ 128 := by omega
 have dR := D_word lR
 have dA1 := D_word lA1
 have dA2 := D_word lA2
 have dE := D_word lE
 have dX := D_word (a := ex) (by omega)
 have hcv : IntKind.u64.wrap (ex : Int) = (ex : Int) := by rw [IntKind.wrap_u64]; omega
 have w1 : IntKind.i64.wrap ((p : Int) - 1) = (p : Int) - 1 := by rw [IntKind.wrap_i64]; omega
 have w2 : IntKind.i64.wrap ((W : Int) - 1) = (W : Int) - 1 := by rw [IntKind.wrap_i64]; omega
 obtain ⟨cD, cR, b0⟩ := Cls.new2 w #[.int .i64 (p : Int), .int .i64 e1, .int .i64 e2, .int .i64 (W : Int), .int .i64 e4, .bool x] #[.int .u64 0, .int .u64 0] 23 30
 replace hr := hr.below b0
 have HFB := hid hfb; have HA1 := hid hA1; have HA2 := hid hA2; have HV := hid hV
 clear hfb hA1 hA2 hV
 go_enter Tryd.func38, Tryd.ntmps38
 go_upto_region 1 with fail
 generalize (w.alloc (.cells #[.int .i64 (p : Int), .int .i64 e1, .int .i64 e2, .int .i64 (W : Int), .int .i64 e4, .bool x] 23)).alloc (.cells #[.int .u64 0, .int .u64 0] 30) = v0 at *
 have d0 := cD.cell 0 rfl
 have d5 := cD.cell 5 rfl
 go_upto_if 18 with fail
 go_cut [11, 12] (fun a b wx => ∃ a1 c1, a = .slice a1 (D A1).length c1 ∧ b = .int .i64 (fb : Int) ∧ Rd wx a1 (D A1) ∧ Below v0.heap.size v0 wx)
 case first =>
  cases x
  · have e1 : A1 = R := by rw [HA1.out]; simp
    have e2 : ((fb : Nat) : Int) = (p : Int) - 1 := by rw [HFB.out]; simp; omega
    have HE1 := hid e1; have HE2 := hid e2; clear e1 e2
    go_wp2_with fail
    go_meet
    case rel => exact ⟨ao, c, by rw [HE1.out], by rw [HE2.out], by rw [HE1.out]; exact hr, Below.refl _ _⟩
  · have e2 : fb = p := by rw [HFB.out]; simp
    have HE2 := hid e2; clear e2
    cases ld
    · have e1 : A1 = R := by rw [HA1.out]; simp
      have HE1 := hid e1; clear e1
      go_wp2_with fail
      go_meet
      case rel => exact ⟨ao, c, by rw [HE1.out], by rw [HE2.out], by rw [HE1.out]; exact hr, Below.refl _ _⟩
    · have e1 : R + 2 ^ (p - 1) = A1 := by rw [HA1.out]; simp
      have HE1 := hid e1; clear e1
      go_wp2_with fail
      refine (k2 _ _ (p - 1) (by omega) (by omega)).mono ?_
      rintro e t1 ⟨a1, c1, rfl, ho1, hb1⟩
      have kk := l1Add_any ao a1 _ _ c c1 R (2 ^ (p - 1)) t1 rfl rfl (by omega) (Nat.le_trans (D_word (Nat.pow_lt_pow_right (by omega) (by omega))) (by omega)) (hr.below hb1) (Rd.own ho1)
      rw [HE1.out] at kk
      go_wp2_with fail
      refine kk.mono ?_
      rintro e t2 ⟨a2, c2, rfl, ho2, hb2⟩
      have HB := hid (hb1.trans (hb2.mono hb1.size))
      have HR2 := hid (Rd.own ho2)
      clear hb1 hb2 ho1 ho2 kk
      go_wp2_with fail
      go_meet
      case rel => exact ⟨a2, c2, rfl, by rw [HE2.out], HR2.out, HB.out⟩
 case rest =>
 rename World => v1
 obtain ⟨a1, c1, rfl, rfl, r1, hb⟩ := hcut
 replace cD := cD.below hb
 replace cR := cR.below hb
 replace b0 := b0.trans (hb.mono b0.size)
 clear hb d0 d5 hr
 go_wp2_with fail
 refine (l1Of_any ex _ (by omega)).mono ?_
 rintro e v2 ⟨a2, c2, rfl, ho, hb⟩
 replace cD := cD.below hb
 replace cR := cR.below hb
 replace r1 := r1.below hb
 replace b0 := b0.trans (hb.mono b0.size)
 have kl := l1Left_any a2 _ c2 fb ex v2 rfl (by omega) (by have := HFB.out; split at this <;> omega) (Rd.own ho)
 clear hb ho
 go_wp2_with fail
 refine kl.mono ?_
 rintro e v3 ⟨a3, c3, rfl, ho, hb⟩
 replace cD := cD.below hb
 replace cR := cR.below hb
 replace r1 := r1.below hb
 replace b0 := b0.trans (hb.mono b0.size)
 have ka := l1Add_any a1 a3 _ _ c1 c3 A1 (ex * 2 ^ fb) v3 rfl rfl (by omega) (by omega) r1 (Rd.own ho)
 rw [← HA2.out] at ka
 clear hb ho kl
 go_wp2_with fail
 refine ka.mono ?_
 rintro e v4 ⟨a4, c4, rfl, ho, hb⟩
 replace cD := cD.below hb
 replace cR := cR.below hb
 replace b0 := b0.trans (hb.mono b0.size)
 have r4 := Rd.own ho
 clear hb ho ka r1
 have d3 := cD.cell 3 rfl
 go_upto_if 35 with fail
 go_cut [11] (fun a wx => ∃ a1 c1, a = .slice a1 (D V).length c1 ∧ Rd wx a1 (D V) ∧ Below v4.heap.size v4 wx)
 case first =>
  cases n
  · have e1 : V = A2 := by rw [HV.out]; simp
    have HE1 := hid e1; clear e1
    go_wp2_with fail
    go_meet
    case rel => exact ⟨a4, c4, by rw [HE1.out], by rw [HE1.out]; exact r4, Below.refl _ _⟩
  · have e1 : A2 + 2 ^ (W - 1) = V := by rw [HV.out]; simp
    have HE1 := hid e1; clear e1
    go_wp2_with fail
    refine (k2 _ _ (W - 1) (by omega) (by omega)).mono ?_
    rintro e t1 ⟨a5, c5, rfl, ho1, hb1⟩
    have kk := l1Add_any a4 a5 _ _ c4 c5 A2 (2 ^ (W - 1)) t1 rfl rfl (by omega) (Nat.le_trans (D_word (Nat.pow_lt_pow_right (by omega) (by omega))) (by omega)) (r4.below hb1) (Rd.own ho1)
    rw [HE1.out] at kk
    go_wp2_with fail
    refine kk.mono ?_
    rintro e t2 ⟨a6, c6, rfl, ho2, hb2⟩
    have HB := hid (hb1.trans (hb2.mono hb1.size))
    have HR2 := hid (Rd.own ho2)
    clear hb1 hb2 ho1 ho2 kk
    go_wp2_with fail
    go_meet
    case rel => exact ⟨a6, c6, rfl, HR2.out, HB.out⟩
 case rest =>
 rename World => v5
 obtain ⟨a5, c5, rfl, r5, hb⟩ := hcut
 replace cR := cR.below hb
 replace b0 := b0.trans (hb.mono b0.size)
 clear hb cD r4 d3
 go_wp2_with fail
 refine (l2Word_any a5 _ c5 V _ rfl hVl r5).mono ?_
 rintro e v6 ⟨rfl, hb⟩
 replace cR := cR.below hb
 replace b0 := b0.trans (hb.mono b0.size)
 clear hb
 have q0 := cR.cell 0 rfl
 have q1 := cR.cell 1 rfl
 have z0 := cR.frozen 0
 have z1 := cR.frozen 1
 go_wp2_with fail
 exact bodyPost_ret (v := .agg #[.int .u64 (M.hiN V : Int), .int .u64 (M.loN V : Int)]) (by simp [results, Tryd.results38, go_sem, q0, q1]) rfl ⟨rfl, (b0.setCell (p := ⟨w.heap.size + 1, 0, none⟩) (Nat.le_succ _) _).setCell (p := ⟨w.heap.size + 1, 1, none⟩) (Nat.le_succ _) _⟩

theorem make_any (F : M.Fm) (h : F.Ok) (n ld : Bool) (ex R V : Nat) (hex : ex < 40000)
 (hV : V = ex * 2 ^ F.fb + (if F.x = true ∧ ld = true then F.lead else 0) + R + (if n then 2 ^ (F.wd - 1) else 0)) (hVl : V < 2 ^ 128) (ao : Option Addr) (c : Nat) (w : World) (hr : Rd w ao (D R)) :
 Calls Tryd.prog 38 #[.agg #[.int .i64 (F.p : Int), .int .i64 (1 - (F.emax : Int)), .int .i64 (F.emax : Int), .int .i64 (F.wd : Int), .int .i64 (F.e : Int), .bool F.x], .bool n, .int .i64 (ex : Int), .bool ld, .slice ao (D R).length c] w fun e w' => e = .returned (.agg #[.int .u64 (M.hiN V : Int), .int .u64 (M.loN V : Int)]) ∧ Below w.heap.size w w' := by
 have p1 := h.p1
 have p2 := h.p2
 have w1 := wd_pos h
 have w2 := h.w
 have hf : F.fb = if F.x then F.p else F.p - 1 := rfl
 have hle : F.lead = 2 ^ (F.p - 1) := rfl
 rw [hle] at hV
 refine make_w F.p F.wd ex R V _ _ _ F.x n ld ao c w (by omega) p2 w1 w2 hex hr F.fb _ 0 _ hf rfl rfl ?_ hVl
 rw [hV]
 omega

theorem make_word (F : M.Fm) (h : F.Ok) (n ld : Bool) (ex sg R : Nat) (h2 : ex ≤ F.top) (h3 : sg < 2 * F.lead) (h4 : F.lead ≤ sg ↔ 0 < ex) (hld : ld = decide (0 < ex)) (hR : R = if 0 < ex then sg - F.lead else sg) (ao : Option Addr) (c : Nat) (w : World) (hr : Rd w ao (D R)) :
 Calls Tryd.prog 38 #[.agg #[.int .i64 (F.p : Int), .int .i64 (1 - (F.emax : Int)), .int .i64 (F.emax : Int), .int .i64 (F.wd : Int), .int .i64 (F.e : Int), .bool F.x], .bool n, .int .i64 (ex : Int), .bool ld, .slice ao (D R).length c] w fun e w' => e = .returned (.agg #[.int .u64 (M.hiN (F.word n ex sg) : Int), .int .u64 (M.loN (F.word n ex sg) : Int)]) ∧ Below w.heap.size w w' := by
 have ht := h.top2
 have hl := (h.fields n ex sg h2 h3 h4).2.2.2
 have hw := h.width.2.2
 refine make_any F h n ld ex R _ (by omega) ?_ (Nat.lt_of_lt_of_le hl hw) ao c w hr
 subst hld
 subst hR
 unfold M.Fm.word
 by_cases hx : 0 < ex
 · have := h4.2 hx
   cases F.x <;> simp [hx] <;> omega
 · cases F.x <;> simp [hx]

theorem stop_any (F : M.Fm) (h : F.Ok) (w : World) :
 Calls Tryd.prog 39 #[.agg #[.int .i64 (F.p : Int), .int .i64 (1 - (F.emax : Int)), .int .i64 (F.emax : Int), .int .i64 (F.wd : Int), .int .i64 (F.e : Int), .bool F.x]] w fun e w' => e = .returned (.int .i64 (F.top : Int)) ∧ Below w.heap.size w w' := by
 have ht := h.top2
 have e1 : (F.top : Int) = 2 * (F.emax : Int) + 1 := by omega
 have f1 : wrap64 (2 * (F.emax : Int)) = 2 * (F.emax : Int) := by simp only [wrap64]; omega
 have f2 : wrap64 (2 * (F.emax : Int) + 1) = 2 * (F.emax : Int) + 1 := by simp only [wrap64]; omega
 rw [e1]
 clear ht e1
 generalize (F.emax : Int) = E at *
 go_enter Tryd.func39, Tryd.ntmps39
 go_wp2_with fail
 go_ret
 exact ⟨congrArg (fun x => Ending.returned (Value.int .i64 x)) f2, (Below.refl _ _).alloc (Nat.le_refl _) _⟩

end Go.Proofs.YtcilemkeljcidaaDoor
