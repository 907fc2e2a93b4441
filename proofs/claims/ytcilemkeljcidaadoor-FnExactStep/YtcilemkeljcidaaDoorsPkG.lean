import Derived.Test.YtcilemkeljcidaaDoorsCl2
import Derived.Test.YtcilemkeljcidaaDoorsSp1
import Derived.Test.YtcilemkeljcidaaDoorsBY
set_option maxHeartbeats 16000000
set_option maxRecDepth 10000
namespace Go.Proofs.YtcilemkeljcidaaDoor
open Go.RowKit
set_option linter.unusedVariables false
set_option maxRecDepth 100000
def Wo (P : Nat → Prop) (v w' : World) (e : Ending) : Prop := ∃ X : Nat, X < 2 ^ 128 ∧ P X ∧ e = .returned (.agg #[.int .u64 (M.hiN X : Int), .int .u64 (M.loN X : Int)]) ∧ Below v.heap.size v w'

def Wp (R : Nat → Bool → Prop) (w w' : World) (e : Ending) : Prop := ∃ (Y : Nat) (ok : Bool), R Y ok ∧ e = .returned (.tuple #[.agg #[.int .u64 (M.hiN Y : Int), .int .u64 (M.loN Y : Int)], .bool ok]) ∧ Below w.heap.size w w'

theorem packG (f cl : Int) (ng : Bool) (s : Nat) (q : Int) (hs : s < 2 ^ 128) (d0 d1 d2 d3 d4 : Int) (d5 : Bool) (hd : d0 ≠ 0) (tp b E : Int) (H Lw : Nat) (w : World) (P : Nat → Prop) (R : Nat → Bool → Prop)
 (r0 : cl ≠ 1 → cl ≠ 2 → cl ≠ 3 → cl ≠ 4 → cl ≠ 5 → R 0 false) (r2 : cl = 2 → d0 ≤ b → R 0 false) (r3 : cl = 3 → b ≠ d0 ∨ E < 1 ∨ tp ≤ E → R 0 false)
 (hE : wrap64 (wrap64 (wrap64 (q + d2) + d0) - 1) = E) (h2 : IntKind.i64.wrap (d0 - 2) = d0 - 2) (h1 : IntKind.i64.wrap (d0 - 1) = d0 - 1)
 (kE : ∀ v : World, Calls Tryd.prog 8 #[.int .i64 f] v fun e w' => e = .returned (.agg #[.int .i64 d0, .int .i64 d1, .int .i64 d2, .int .i64 d3, .int .i64 d4, .bool d5]) ∧ Below v.heap.size v w')
 (kT : ∀ v : World, Calls Tryd.prog 39 #[.agg #[.int .i64 d0, .int .i64 d1, .int .i64 d2, .int .i64 d3, .int .i64 d4, .bool d5]] v fun e w' => e = .returned (.int .i64 tp) ∧ Below v.heap.size v w')
 (kB : ∀ (v : World) (ao : Option Addr) (c : Nat), Rd v ao (D s) → Calls Tryd.prog 24 #[.slice ao (D s).length c] v fun e w' => e = .returned (.int .i64 b) ∧ w' = v)
 (k2 : ∀ v : World, Calls Tryd.prog 29 #[.int .i64 (d0 - 2)] v fun e w' => Ret v w' e (D H))
 (kL : ∀ (v : World) (ao : Option Addr) (c : Nat), Rd v ao (D s) → Calls Tryd.prog 25 #[.slice ao (D s).length c, .int .i64 (d0 - 1)] v fun e w' => Ret v w' e (D Lw))
 (kM1 : cl = 1 → ∀ v : World, Calls Tryd.prog 38 #[.agg #[.int .i64 d0, .int .i64 d1, .int .i64 d2, .int .i64 d3, .int .i64 d4, .bool d5], .bool ng, .int .i64 0, .bool false, .slice none 0 0] v fun e w' => Wo P v w' e)
 (kM4 : cl = 4 → ∀ v : World, Calls Tryd.prog 38 #[.agg #[.int .i64 d0, .int .i64 d1, .int .i64 d2, .int .i64 d3, .int .i64 d4, .bool d5], .bool ng, .int .i64 tp, .bool true, .slice none 0 0] v fun e w' => Wo P v w' e)
 (kM5 : cl = 5 → ∀ (v : World) (ao : Option Addr) (c : Nat), Rd v ao (D H) → Calls Tryd.prog 38 #[.agg #[.int .i64 d0, .int .i64 d1, .int .i64 d2, .int .i64 d3, .int .i64 d4, .bool d5], .bool false, .int .i64 tp, .bool true, .slice ao (D H).length c] v fun e w' => Wo P v w' e)
 (kM2 : cl = 2 → b < d0 → ∀ (v : World) (ao : Option Addr) (c : Nat), Rd v ao (D s) → Calls Tryd.prog 38 #[.agg #[.int .i64 d0, .int .i64 d1, .int .i64 d2, .int .i64 d3, .int .i64 d4, .bool d5], .bool ng, .int .i64 0, .bool false, .slice ao (D s).length c] v fun e w' => Wo P v w' e)
 (kM3 : cl = 3 → b = d0 → 1 ≤ E → E < tp → ∀ (v : World) (ao : Option Addr) (c : Nat), Rd v ao (D Lw) → Calls Tryd.prog 38 #[.agg #[.int .i64 d0, .int .i64 d1, .int .i64 d2, .int .i64 d3, .int .i64 d4, .bool d5], .bool ng, .int .i64 E, .bool true, .slice ao (D Lw).length c] v fun e w' => Wo P v w' e)
 (kU : ∀ X : Nat, X < 2 ^ 128 → P X → ∃ (tc : Int) (tn : Bool) (th tl tq : Int), (tc = cl ∧ tn = ng ∧ th = (M.hiN s : Int) ∧ tl = (M.loN s : Int) ∧ tq = q → R X true) ∧ (¬ (tc = cl ∧ tn = ng ∧ th = (M.hiN s : Int) ∧ tl = (M.loN s : Int) ∧ tq = q) → R 0 false) ∧ ∀ v : World, Calls Tryd.prog 11 #[.int .i64 f, .agg #[.int .u64 (M.hiN X : Int), .int .u64 (M.loN X : Int)]] v fun e w' => e = .returned (.agg #[.int .i64 tc, .bool tn, .int .u64 th, .int .u64 tl, .int .i64 tq]) ∧ Below v.heap.size v w') :
 Calls Tryd.prog 17 #[.int .i64 f, .agg #[.int .i64 cl, .bool ng, .int .u64 (M.hiN s : Int), .int .u64 (M.loN s : Int), .int .i64 q]] w fun e w' => Wp R w w' e := by
 have hz : (d0 == 0) = false := by simp [hd]
 have H0 := hid r0; have H2 := hid r2; have H3 := hid r3; have HU := hid kU
 clear r0 r2 r3 kU
 obtain ⟨cP, cR, b0⟩ := Cls.new2 w #[.int .i64 cl, .bool ng, .int .u64 (M.hiN s : Int), .int .u64 (M.loN s : Int), .int .i64 q] #[.int .u64 0, .int .u64 0] 32 30
 go_enter Tryd.func17, Tryd.ntmps17
 go_wp2_with fail
 refine (kE _).mono ?_
 rintro e v1 ⟨rfl, hb⟩
 replace cP := cP.below hb
 replace cR := cR.below hb
 replace b0 := b0.trans (hb.mono b0.size)
 clear hb kE
 have l1 := cR.lt
 go_upto_region 2 with fail
 have bA := (Below.refl v1.heap.size v1).alloc (Nat.le_refl _) (.cells #[.int .i64 d0, .int .i64 d1, .int .i64 d2, .int .i64 d3, .int .i64 d4, .bool d5] 23)
 have cD := Cls.new v1 #[.int .i64 d0, .int .i64 d1, .int .i64 d2, .int .i64 d3, .int .i64 d4, .bool d5] 23
 replace cP := cP.below bA
 replace cR := cR.below bA
 replace b0 := b0.trans (bA.mono b0.size)
 clear bA
 generalize v1.alloc (.cells #[.int .i64 d0, .int .i64 d1, .int .i64 d2, .int .i64 d3, .int .i64 d4, .bool d5] 23) = v2 at *
 obtain ⟨gd, hgd⟩ : ∃ gd, gd = v1.heap.size := ⟨_, rfl⟩
 rw [← hgd] at cD l1 ⊢
 clear hgd
 have i0 := cD.cell 0 rfl
 have l2 := cD.lt
 go_upto_region 5 with fail
 have bA := (Below.refl v2.heap.size v2).alloc (Nat.le_refl _) (.cells #[.int .u64 0, .int .u64 0] 30)
 have cW := Cls.new v2 #[.int .u64 0, .int .u64 0] 30
 replace cP := cP.below bA
 replace cR := cR.below bA
 replace cD := cD.below bA
 replace b0 := b0.trans (bA.mono b0.size)
 clear bA
 generalize v2.alloc (.cells #[.int .u64 0, .int .u64 0] 30) = v3 at *
 obtain ⟨gw, hgw⟩ : ∃ gw, gw = v2.heap.size := ⟨_, rfl⟩
 rw [← hgw] at cW l2 ⊢
 clear hgw i0
 have p2 := cP.cell 2 rfl
 have p3 := cP.cell 3 rfl
 go_wp2_with fail
 refine (l2Of_any s hs _).mono ?_
 rintro e v4 ⟨sa, sc, rfl, ho, hb⟩
 replace cP := cP.below hb
 replace cR := cR.below hb
 replace cD := cD.below hb
 replace cW := cW.below hb
 replace b0 := b0.trans (hb.mono b0.size)
 have rS := Rd.own ho
 clear hb ho p2 p3
 have n1 : gw ≠ w.heap.size := by omega
 have n2 : gw ≠ w.heap.size + 1 := by omega
 have n3 : gw ≠ gd := by omega
 have lw : w.heap.size ≤ gw := by omega
 clear l1 l2
 have KD : ∀ v, Below v4.heap.size v4 v → (fun v : World => v.cell? ⟨gd, 0, none⟩ = some (.int .i64 d0) ∧ v.cell? ⟨gd, 1, none⟩ = some (.int .i64 d1) ∧ v.cell? ⟨gd, 2, none⟩ = some (.int .i64 d2) ∧ v.cell? ⟨gd, 3, none⟩ = some (.int .i64 d3) ∧ v.cell? ⟨gd, 4, none⟩ = some (.int .i64 d4) ∧ v.cell? ⟨gd, 5, none⟩ = some (.bool d5) ∧ v.cell? ⟨w.heap.size, 1, none⟩ = some (.bool ng)) v := fun v hv => ⟨(cD.below hv).cell 0 rfl, (cD.below hv).cell 1 rfl, (cD.below hv).cell 2 rfl, (cD.below hv).cell 3 rfl, (cD.below hv).cell 4 rfl, (cD.below hv).cell 5 rfl, (cP.below hv).cell 1 rfl⟩
 have KS : ∀ v (X : Nat), Below v4.heap.size v4 v → (fun v : World => v.cell? ⟨gd, 0, none⟩ = some (.int .i64 d0) ∧ v.cell? ⟨gd, 1, none⟩ = some (.int .i64 d1) ∧ v.cell? ⟨gd, 2, none⟩ = some (.int .i64 d2) ∧ v.cell? ⟨gd, 3, none⟩ = some (.int .i64 d3) ∧ v.cell? ⟨gd, 4, none⟩ = some (.int .i64 d4) ∧ v.cell? ⟨gd, 5, none⟩ = some (.bool d5) ∧ v.cell? ⟨w.heap.size, 1, none⟩ = some (.bool ng)) ((v.setCell ⟨gw, 0, none⟩ (.int .u64 (M.hiN X : Int))).setCell ⟨gw, 1, none⟩ (.int .u64 (M.loN X : Int))) := fun v X hv => by
  have cD9 := (((cD.below hv).far ⟨gw, 0, none⟩ n3 (.int .u64 (M.hiN X : Int))).far ⟨gw, 1, none⟩ n3 (.int .u64 (M.loN X : Int)))
  have cP9 := (((cP.below hv).far ⟨gw, 0, none⟩ n1 (.int .u64 (M.hiN X : Int))).far ⟨gw, 1, none⟩ n1 (.int .u64 (M.loN X : Int)))
  exact ⟨cD9.cell 0 rfl, cD9.cell 1 rfl, cD9.cell 2 rfl, cD9.cell 3 rfl, cD9.cell 4 rfl, cD9.cell 5 rfl, cP9.cell 1 rfl⟩
 have RL : ∀ (Y : Nat) (v : World), Y < 2 ^ 128 → P Y → Below v4.heap.size v4 v → ∃ X : Nat, X < 2 ^ 128 ∧ Hid (P X) ∧ Cls ((v.setCell ⟨gw, 0, none⟩ (.int .u64 (M.hiN Y : Int))).setCell ⟨gw, 1, none⟩ (.int .u64 (M.loN Y : Int))) gw #[.int .u64 (M.hiN X : Int), .int .u64 (M.loN X : Int)] 30 ∧ Cls ((v.setCell ⟨gw, 0, none⟩ (.int .u64 (M.hiN Y : Int))).setCell ⟨gw, 1, none⟩ (.int .u64 (M.loN Y : Int))) w.heap.size #[.int .i64 cl, .bool ng, .int .u64 (M.hiN s : Int), .int .u64 (M.loN s : Int), .int .i64 q] 32 ∧ Cls ((v.setCell ⟨gw, 0, none⟩ (.int .u64 (M.hiN Y : Int))).setCell ⟨gw, 1, none⟩ (.int .u64 (M.loN Y : Int))) (w.heap.size + 1) #[.int .u64 0, .int .u64 0] 30 ∧ Below w.heap.size w ((v.setCell ⟨gw, 0, none⟩ (.int .u64 (M.hiN Y : Int))).setCell ⟨gw, 1, none⟩ (.int .u64 (M.loN Y : Int))) := fun Y v hY hP hv => ⟨Y, hY, hid hP, ((cW.below hv).set 0 _ _ rfl).set 1 _ _ rfl, ((cP.below hv).far ⟨gw, 0, none⟩ n1 _).far ⟨gw, 1, none⟩ n1 _, ((cR.below hv).far ⟨gw, 0, none⟩ n2 _).far ⟨gw, 1, none⟩ n2 _, ((b0.trans (hv.mono b0.size)).setCell (p := ⟨gw, 0, none⟩) lw _).setCell (p := ⟨gw, 1, none⟩) lw _⟩
 have A0 : Below v4.heap.size v4 v4.drew := (Below.refl _ _).drew
 have p0 := cP.cell 0 rfl
 have p1 := cP.cell 1 rfl
 have p4 := cP.cell 4 rfl
 obtain ⟨i0, i1, i2, i3, i4, i5, -⟩ := KD _ (Below.refl _ _)
 go_upto_block 0 with fail
 go_cut [9] (fun z wx => (∃ z0, z = z0) ∧ ∃ X : Nat, X < 2 ^ 128 ∧ Hid (P X) ∧ Cls wx gw #[.int .u64 (M.hiN X : Int), .int .u64 (M.loN X : Int)] 30 ∧ Cls wx w.heap.size #[.int .i64 cl, .bool ng, .int .u64 (M.hiN s : Int), .int .u64 (M.loN s : Int), .int .i64 q] 32 ∧ Cls wx (w.heap.size + 1) #[.int .u64 0, .int .u64 0] 30 ∧ Below w.heap.size w wx)
 case first =>
  by_cases c1 : cl = 1
  · subst c1
    go_wp2_with fail
    refine (kM1 (by trivial) _).mono ?_
    rintro e u9 ⟨X, hX, hP, rfl, B9⟩
    have W2 := cW.below B9; have y0 := W2.cell 0 rfl; have y1 := W2.cell 1 rfl; have y2 := W2.frozen 0; have y3 := W2.frozen 1
    go_wp2_with fail
    go_meet
    case rel => exact ⟨⟨_, rfl⟩, RL _ _ hX hP B9⟩
  have e1 : (cl == 1) = false := beq_eq_false_iff_ne.2 c1
  by_cases c4 : cl = 4
  · subst c4
    go_upto_region 11 with fail
    go_region_held3 (fun v : World => v.cell? ⟨gd, 0, none⟩ = some (.int .i64 d0) ∧ v.cell? ⟨gd, 1, none⟩ = some (.int .i64 d1) ∧ v.cell? ⟨gd, 2, none⟩ = some (.int .i64 d2) ∧ v.cell? ⟨gd, 3, none⟩ = some (.int .i64 d3) ∧ v.cell? ⟨gd, 4, none⟩ = some (.int .i64 d4) ∧ v.cell? ⟨gd, 5, none⟩ = some (.bool d5) ∧ v.cell? ⟨w.heap.size, 1, none⟩ = some (.bool ng)) (first | with_reducible exact KD _ A0 | with_reducible exact KD _ B1 | with_reducible exact KD _ B2 | with_reducible exact KD _ B9 | with_reducible exact KS _ _ B9)
     (first | (go_at_call 39; refine (kT _).mono ?_; rintro e u1 ⟨rfl, hb⟩; have B1 := keepC (w1 := v4) A0 hb; clear hb) | (go_at_call 38; refine (kM4 (by trivial) _).mono ?_; rintro e u9 ⟨X, hX, hP, rfl, hb⟩; have B9 := keepC (w1 := v4) B1 hb; clear hb; have W2 := cW.below B9; have y0 := W2.cell 0 rfl; have y1 := W2.cell 1 rfl; have y2 := W2.frozen 0; have y3 := W2.frozen 1))
    go_wp2_with fail
    go_meet
    case rel => exact ⟨⟨_, rfl⟩, RL _ _ hX hP B9⟩
  have e4 : (cl == 4) = false := beq_eq_false_iff_ne.2 c4
  by_cases c5 : cl = 5
  · subst c5
    go_upto_region 13 with fail
    go_region_held3 (fun v : World => v.cell? ⟨gd, 0, none⟩ = some (.int .i64 d0) ∧ v.cell? ⟨gd, 1, none⟩ = some (.int .i64 d1) ∧ v.cell? ⟨gd, 2, none⟩ = some (.int .i64 d2) ∧ v.cell? ⟨gd, 3, none⟩ = some (.int .i64 d3) ∧ v.cell? ⟨gd, 4, none⟩ = some (.int .i64 d4) ∧ v.cell? ⟨gd, 5, none⟩ = some (.bool d5) ∧ v.cell? ⟨w.heap.size, 1, none⟩ = some (.bool ng)) (first | with_reducible exact KD _ A0 | with_reducible exact KD _ B1 | with_reducible exact KD _ B2 | with_reducible exact KD _ B9 | with_reducible exact KS _ _ B9)
     (first
       | (go_at_call 39; refine (kT _).mono ?_; rintro e u1 ⟨rfl, hb⟩; have B1 := keepC (w1 := v4) (by first | with_reducible exact A0 | with_reducible exact B2) hb; (try replace rH := rH.below hb); clear hb)
       | (go_at_call 29; refine (k2 _).mono ?_; rintro e u2 ⟨ha, hc, rfl, ho, hb⟩; have B2 := keepC (w1 := v4) (by first | with_reducible exact A0 | with_reducible exact B1) hb; have rH := Rd.own ho; clear hb ho)
       | (go_at_call 38; refine (kM5 (by trivial) _ _ _ rH).mono ?_; rintro e u9 ⟨X, hX, hP, rfl, hb⟩; have B9 := keepC (w1 := v4) (by first | with_reducible exact B1 | with_reducible exact B2) hb; clear hb; have W2 := cW.below B9; have y0 := W2.cell 0 rfl; have y1 := W2.cell 1 rfl; have y2 := W2.frozen 0; have y3 := W2.frozen 1))
    all_goals go_wp2_with fail
    all_goals go_meet
    all_goals exact ⟨⟨_, rfl⟩, RL _ _ hX hP B9⟩
  have e5 : (cl == 5) = false := beq_eq_false_iff_ne.2 c5
  by_cases c2 : cl = 2
  · subst c2
    go_upto_region 15 with fail
    clear i0 i1 i2 i3 i4 i5 p0 p1 p4
    by_cases hb2 : d0 ≤ b
    · go_region_held3 (fun v : World => v.cell? ⟨gd, 0, none⟩ = some (.int .i64 d0) ∧ v.cell? ⟨gd, 1, none⟩ = some (.int .i64 d1) ∧ v.cell? ⟨gd, 2, none⟩ = some (.int .i64 d2) ∧ v.cell? ⟨gd, 3, none⟩ = some (.int .i64 d3) ∧ v.cell? ⟨gd, 4, none⟩ = some (.int .i64 d4) ∧ v.cell? ⟨gd, 5, none⟩ = some (.bool d5) ∧ v.cell? ⟨w.heap.size, 1, none⟩ = some (.bool ng)) (first | with_reducible exact KD _ A0 | with_reducible exact KD _ B1 | with_reducible exact KD _ B2 | with_reducible exact KD _ B9 | with_reducible exact KS _ _ B9)
       (first | (go_at_call 24; refine (kB _ sa sc (rS.below A0)).mono ?_; rintro e u1 ⟨rfl, rfl⟩))
      have cR9 := cR.below A0
      have HB := hid (b0.trans (A0.mono b0.size))
      generalize v4.drew = vz at cR9 HB ⊢
      have r0 := cR9.cell 0 rfl
      have r1 := cR9.cell 1 rfl
      have z0 := cR9.frozen 0
      have z1 := cR9.frozen 1
      go_wp2_with fail
      exact bodyPost_ret (v := .tuple #[.agg #[.int .u64 0, .int .u64 0], .bool false]) (by simp [results, Tryd.results17, go_sem, r0, r1]) rfl ⟨0, false, H2.out (by trivial) hb2, by rw [hi0, lo0]; rfl, (HB.out.setCell (p := ⟨w.heap.size + 1, 0, none⟩) (Nat.le_succ _) _).setCell (p := ⟨w.heap.size + 1, 1, none⟩) (Nat.le_succ _) _⟩
    · go_region_held3 (fun v : World => v.cell? ⟨gd, 0, none⟩ = some (.int .i64 d0) ∧ v.cell? ⟨gd, 1, none⟩ = some (.int .i64 d1) ∧ v.cell? ⟨gd, 2, none⟩ = some (.int .i64 d2) ∧ v.cell? ⟨gd, 3, none⟩ = some (.int .i64 d3) ∧ v.cell? ⟨gd, 4, none⟩ = some (.int .i64 d4) ∧ v.cell? ⟨gd, 5, none⟩ = some (.bool d5) ∧ v.cell? ⟨w.heap.size, 1, none⟩ = some (.bool ng)) (first | with_reducible exact KD _ A0 | with_reducible exact KD _ B1 | with_reducible exact KD _ B2 | with_reducible exact KD _ B9 | with_reducible exact KS _ _ B9)
       (first | (go_at_call 24; refine (kB _ sa sc (rS.below A0)).mono ?_; rintro e u1 ⟨rfl, rfl⟩))
      obtain ⟨i0, i1, i2, i3, i4, i5, p1⟩ := KD _ A0
      have kM := kM2 (by trivial) (by omega) _ sa sc (rS.below A0)
      go_wp2_with fail
      refine kM.mono ?_
      rintro e u9 ⟨X, hX, hP, rfl, hb⟩
      have B9 := keepC (w1 := v4) A0 hb
      clear hb kM
      have W2 := cW.below B9; have y0 := W2.cell 0 rfl; have y1 := W2.cell 1 rfl; have y2 := W2.frozen 0; have y3 := W2.frozen 1
      go_wp2_with fail
      go_meet
      case rel => exact ⟨⟨_, rfl⟩, RL _ _ hX hP B9⟩
  have e2 : (cl == 2) = false := beq_eq_false_iff_ne.2 c2
  by_cases c3 : cl = 3
  · subst c3
    go_upto_region 20 with fail
    clear p0 p1 p4
    by_cases hbd : b = d0
    · have hbd2 : d0 = b := hbd.symm
      subst hbd2
      have g1 : (d0 != d0) = false := by simp
      by_cases hE1 : E < 1
      · go_quiet ((go_at_call 24; exact Calls.quiet_of_same (kB _ sa sc (Rd.drewN rS _))))
        have A9 : Below v4.heap.size v4 (v4.drewN nq) := ⟨rfl, rfl, rfl, Nat.le_refl _, fun _ _ => rfl⟩
        have cR9 := cR.below A9
        have HB := hid (b0.trans (A9.mono b0.size))
        generalize v4.drewN nq = vz at cR9 HB ⊢
        have r0 := cR9.cell 0 rfl
        have r1 := cR9.cell 1 rfl
        have z0 := cR9.frozen 0
        have z1 := cR9.frozen 1
        go_wp2_with fail
        exact bodyPost_ret (v := .tuple #[.agg #[.int .u64 0, .int .u64 0], .bool false]) (by simp [results, Tryd.results17, go_sem, r0, r1]) rfl ⟨0, false, H3.out (by trivial) (Or.inr (Or.inl hE1)), by rw [hi0, lo0]; rfl, (HB.out.setCell (p := ⟨w.heap.size + 1, 0, none⟩) (Nat.le_succ _) _).setCell (p := ⟨w.heap.size + 1, 1, none⟩) (Nat.le_succ _) _⟩
      · have g2 : (E < 1) = False := eq_false hE1
        have g3 : decide (E < 1) = false := decide_eq_false hE1
        clear i0 i1 i2 i3 i4 i5
        go_region_held3 (fun v : World => v.cell? ⟨gd, 0, none⟩ = some (.int .i64 d0) ∧ v.cell? ⟨gd, 1, none⟩ = some (.int .i64 d1) ∧ v.cell? ⟨gd, 2, none⟩ = some (.int .i64 d2) ∧ v.cell? ⟨gd, 3, none⟩ = some (.int .i64 d3) ∧ v.cell? ⟨gd, 4, none⟩ = some (.int .i64 d4) ∧ v.cell? ⟨gd, 5, none⟩ = some (.bool d5) ∧ v.cell? ⟨w.heap.size, 1, none⟩ = some (.bool ng)) (first | with_reducible exact KD _ A0 | with_reducible exact KD _ B1 | with_reducible exact KD _ B2 | with_reducible exact KD _ B9 | with_reducible exact KS _ _ B9)
         (first
           | (go_at_call 24; refine (kB _ sa sc (rS.below A0)).mono ?_; rintro e u1 ⟨rfl, rfl⟩)
           | (go_at_call 39; refine (kT _).mono ?_; rintro e u2 ⟨rfl, hb⟩; have B1 := keepC (w1 := v4) A0 hb; clear hb))
        by_cases hE2 : tp ≤ E
        · have cR9 := cR.below B1
          have HB := hid (b0.trans (B1.mono b0.size))
          have r0 := cR9.cell 0 rfl
          have r1 := cR9.cell 1 rfl
          have z0 := cR9.frozen 0
          have z1 := cR9.frozen 1
          go_wp2_with fail
          exact bodyPost_ret (v := .tuple #[.agg #[.int .u64 0, .int .u64 0], .bool false]) (by simp [results, Tryd.results17, go_sem, r0, r1]) rfl ⟨0, false, H3.out (by trivial) (Or.inr (Or.inr hE2)), by rw [hi0, lo0]; rfl, (HB.out.setCell (p := ⟨w.heap.size + 1, 0, none⟩) (Nat.le_succ _) _).setCell (p := ⟨w.heap.size + 1, 1, none⟩) (Nat.le_succ _) _⟩
        · have kM := kM3 (by trivial) (by first | rfl | assumption) (by omega) (by omega)
          obtain ⟨i0, i1, i2, i3, i4, i5, p1⟩ := KD _ B1
          go_upto_region 22 with fail
          have A1 : Below v4.heap.size v4 u2.drew := B1.trans ((Below.refl _ _).drew.mono B1.size)
          go_region_held3 (fun v : World => v.cell? ⟨gd, 0, none⟩ = some (.int .i64 d0) ∧ v.cell? ⟨gd, 1, none⟩ = some (.int .i64 d1) ∧ v.cell? ⟨gd, 2, none⟩ = some (.int .i64 d2) ∧ v.cell? ⟨gd, 3, none⟩ = some (.int .i64 d3) ∧ v.cell? ⟨gd, 4, none⟩ = some (.int .i64 d4) ∧ v.cell? ⟨gd, 5, none⟩ = some (.bool d5) ∧ v.cell? ⟨w.heap.size, 1, none⟩ = some (.bool ng)) (first | with_reducible exact KD _ A1 | with_reducible exact KD _ B2 | with_reducible exact KD _ B9 | with_reducible exact KS _ _ B9)
           (first
             | (go_at_call 25; refine (kL _ sa sc (rS.below A1)).mono ?_; rintro e u3 ⟨la, lc, rfl, ho, hb⟩; have B2 := keepC (w1 := v4) A1 hb; have rL := Rd.own ho; clear hb ho)
             | (go_at_call 38; refine (kM _ _ _ rL).mono ?_; rintro e u9 ⟨X, hX, hP, rfl, hb⟩; have B9 := keepC (w1 := v4) B2 hb; clear hb; have W2 := cW.below B9; have y0 := W2.cell 0 rfl; have y1 := W2.cell 1 rfl; have y2 := W2.frozen 0; have y3 := W2.frozen 1))
          all_goals go_wp2_with fail
          all_goals go_meet
          all_goals exact ⟨⟨_, rfl⟩, RL _ _ hX hP B9⟩
    · have g1 : (b != d0) = true := by simp [hbd]
      go_quiet ((go_at_call 24; exact Calls.quiet_of_same (kB _ sa sc (Rd.drewN rS _))))
      have A9 : Below v4.heap.size v4 (v4.drewN nq) := ⟨rfl, rfl, rfl, Nat.le_refl _, fun _ _ => rfl⟩
      have cR9 := cR.below A9
      have HB := hid (b0.trans (A9.mono b0.size))
      generalize v4.drewN nq = vz at cR9 HB ⊢
      have r0 := cR9.cell 0 rfl
      have r1 := cR9.cell 1 rfl
      have z0 := cR9.frozen 0
      have z1 := cR9.frozen 1
      go_wp2_with fail
      exact bodyPost_ret (v := .tuple #[.agg #[.int .u64 0, .int .u64 0], .bool false]) (by simp [results, Tryd.results17, go_sem, r0, r1]) rfl ⟨0, false, H3.out (by trivial) (Or.inl hbd), by rw [hi0, lo0]; rfl, (HB.out.setCell (p := ⟨w.heap.size + 1, 0, none⟩) (Nat.le_succ _) _).setCell (p := ⟨w.heap.size + 1, 1, none⟩) (Nat.le_succ _) _⟩
  have e3 : (cl == 3) = false := beq_eq_false_iff_ne.2 c3
  have HB := hid b0
  have r0 := cR.cell 0 rfl
  have r1 := cR.cell 1 rfl
  have z0 := cR.frozen 0
  have z1 := cR.frozen 1
  go_wp2_with fail
  exact bodyPost_ret (v := .tuple #[.agg #[.int .u64 0, .int .u64 0], .bool false]) (by simp [results, Tryd.results17, go_sem, r0, r1]) rfl ⟨0, false, H0.out c1 c2 c3 c4 c5, by rw [hi0, lo0]; rfl, (HB.out.setCell (p := ⟨w.heap.size + 1, 0, none⟩) (Nat.le_succ _) _).setCell (p := ⟨w.heap.size + 1, 1, none⟩) (Nat.le_succ _) _⟩
 case rest =>
 rename World => v5
 obtain ⟨⟨z0, rfl⟩, X, hX, HP, cW5, cP5, cR5, b5⟩ := hcut
 clear KD KS RL A0 p0 p1 p4 i0 i1 i2 i3 i4 i5 cW cP cR cD b0 rS
 have KE : ∀ v, Below v5.heap.size v5 v → (fun v : World => v.cell? ⟨gw, 0, none⟩ = some (.int .u64 (M.hiN X : Int)) ∧ v.cell? ⟨gw, 1, none⟩ = some (.int .u64 (M.loN X : Int)) ∧ v.cell? ⟨w.heap.size, 0, none⟩ = some (.int .i64 cl) ∧ v.cell? ⟨w.heap.size, 1, none⟩ = some (.bool ng) ∧ v.cell? ⟨w.heap.size, 2, none⟩ = some (.int .u64 (M.hiN s : Int)) ∧ v.cell? ⟨w.heap.size, 3, none⟩ = some (.int .u64 (M.loN s : Int)) ∧ v.cell? ⟨w.heap.size, 4, none⟩ = some (.int .i64 q)) v := fun v hv => ⟨(cW5.below hv).cell 0 rfl, (cW5.below hv).cell 1 rfl, (cP5.below hv).cell 0 rfl, (cP5.below hv).cell 1 rfl, (cP5.below hv).cell 2 rfl, (cP5.below hv).cell 3 rfl, (cP5.below hv).cell 4 rfl⟩
 have A0 : Below v5.heap.size v5 v5.drew := (Below.refl _ _).drew
 go_upto_region 23 with fail
 go_cut [101] (fun z wx => (∃ bq : Bool, z = .bool bq ∧ Hid ((bq = false → R X true) ∧ (bq = true → R 0 false))) ∧ Below v5.heap.size v5 wx)
 case first =>
  obtain ⟨tc, tn, th, tl, tq, ky, kn, kV⟩ := HU.out X hX HP.out
  have KY := hid ky; have KN := hid kn
  clear ky kn
  have hcs : ¬ tc = cl ∨ tc = cl ∧ ¬ tn = ng ∨ tc = cl ∧ tn = ng ∧ ¬ th = (M.hiN s : Int) ∨ tc = cl ∧ tn = ng ∧ th = (M.hiN s : Int) ∧ ¬ tl = (M.loN s : Int) ∨ tc = cl ∧ tn = ng ∧ th = (M.hiN s : Int) ∧ tl = (M.loN s : Int) ∧ ¬ tq = q ∨ tc = cl ∧ tn = ng ∧ th = (M.hiN s : Int) ∧ tl = (M.loN s : Int) ∧ tq = q := by
   by_cases h1 : tc = cl <;> by_cases h2 : tn = ng <;> by_cases h3 : th = (M.hiN s : Int) <;> by_cases h4 : tl = (M.loN s : Int) <;> by_cases h5 : tq = q <;> simp [h1, h2, h3, h4, h5]
  rcases hcs with h1 | ⟨h1, h2⟩ | ⟨h1, h2, h3⟩ | ⟨h1, h2, h3, h4⟩ | ⟨h1, h2, h3, h4, h5⟩ | ⟨h1, h2, h3, h4, h5⟩
  all_goals go_region_held3 (fun v : World => v.cell? ⟨gw, 0, none⟩ = some (.int .u64 (M.hiN X : Int)) ∧ v.cell? ⟨gw, 1, none⟩ = some (.int .u64 (M.loN X : Int)) ∧ v.cell? ⟨w.heap.size, 0, none⟩ = some (.int .i64 cl) ∧ v.cell? ⟨w.heap.size, 1, none⟩ = some (.bool ng) ∧ v.cell? ⟨w.heap.size, 2, none⟩ = some (.int .u64 (M.hiN s : Int)) ∧ v.cell? ⟨w.heap.size, 3, none⟩ = some (.int .u64 (M.loN s : Int)) ∧ v.cell? ⟨w.heap.size, 4, none⟩ = some (.int .i64 q)) (first | with_reducible exact KE _ A0 | with_reducible exact KE _ B1)
   (first | (go_at_call 11; refine (kV _).mono ?_; rintro e u1 ⟨rfl, hb⟩; have B1 := keepC (w1 := v5) A0 hb; clear hb))
  all_goals go_wp2_with fail
  all_goals go_meet
  all_goals refine ⟨⟨_, rfl, hid ⟨fun hq => ?_, fun hq => ?_⟩⟩, B1⟩
  all_goals first | exact KY.out ⟨h1, h2, h3, h4, h5⟩ | exact KN.out (fun hh => absurd hh.1 h1) | exact KN.out (fun hh => absurd hh.2.1 h2) | exact KN.out (fun hh => absurd hh.2.2.1 h3) | exact KN.out (fun hh => absurd hh.2.2.2.1 h4) | exact KN.out (fun hh => absurd hh.2.2.2.2 h5) | (exfalso; revert hq; simp_all)
 case rest =>
 rename World => v6
 obtain ⟨⟨bq, rfl, HQ⟩, hb⟩ := hcut
 replace cR5 := cR5.below hb
 replace cW5 := cW5.below hb
 replace b5 := b5.trans (hb.mono b5.size)
 clear hb KE A0 cP5
 cases bq
 · have r0 := cR5.cell 0 rfl
   have r1 := cR5.cell 1 rfl
   have z0 := cR5.frozen 0
   have z1 := cR5.frozen 1
   have x0 := cW5.cell 0 rfl
   have x1 := cW5.cell 1 rfl
   have HB := hid b5
   go_wp2_with fail
   exact bodyPost_ret (v := .tuple #[.agg #[.int .u64 (M.hiN X : Int), .int .u64 (M.loN X : Int)], .bool true]) (by simp [results, Tryd.results17, go_sem, r0, r1]) rfl ⟨X, true, HQ.out.1 (by trivial), rfl, (HB.out.setCell (p := ⟨w.heap.size + 1, 0, none⟩) (Nat.le_succ _) _).setCell (p := ⟨w.heap.size + 1, 1, none⟩) (Nat.le_succ _) _⟩
 · skip
   have HB := hid b5
   have r0 := cR5.cell 0 rfl
   have r1 := cR5.cell 1 rfl
   have z0 := cR5.frozen 0
   have z1 := cR5.frozen 1
   go_wp2_with fail
   exact bodyPost_ret (v := .tuple #[.agg #[.int .u64 0, .int .u64 0], .bool false]) (by simp [results, Tryd.results17, go_sem, r0, r1]) rfl ⟨0, false, HQ.out.2 (by trivial), by rw [hi0, lo0]; rfl, (HB.out.setCell (p := ⟨w.heap.size + 1, 0, none⟩) (Nat.le_succ _) _).setCell (p := ⟨w.heap.size + 1, 1, none⟩) (Nat.le_succ _) _⟩

end Go.Proofs.YtcilemkeljcidaaDoor
