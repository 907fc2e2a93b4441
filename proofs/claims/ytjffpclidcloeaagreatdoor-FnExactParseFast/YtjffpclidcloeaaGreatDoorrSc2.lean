import Derived.Test.YtjffpclidcloeaaGreatDoorrSA
import Derived.Test.YtjffpclidcloeaaGreatDoorrBX
set_option maxHeartbeats 4000000
set_option maxRecDepth 100000
namespace Go.Proofs.YtjffpclidcloeaaGreatDoor
open Go.RowKit
set_option linter.unusedVariables false
set_option maxRecDepth 100000
theorem Own.widen4 {v : World} {lo hi lo' hi' : Nat} {ao : Option Addr} {cap : Nat} {r : List Nat} (h : Own v lo hi ao cap r) (h1 : lo' ≤ lo) (h2 : hi ≤ hi') : Own v lo' hi' ao cap r :=
 ⟨h.row, fun k hk => by have := h.place k hk; omega⟩

theorem grown4 (v : World) (g : Nat) (a b c d : Value) : v.grownBy ((((v.setCell ⟨g, 0, none⟩ a).setCell ⟨g, 1, none⟩ b).setCell ⟨g, 2, none⟩ c).setCell ⟨g, 3, none⟩ d) (some g) :=
 grown_trans (grown_trans (grown_trans (grown_setCell _ _ _ _) (grown_setCell _ _ _ _)) (grown_setCell _ _ _ _)) (grown_setCell _ _ _ _)

theorem sscale_eq (d : Nat) (k W : Int) (T : Nat) (E : Int) (x : Bool) (w : World) (A Bv : Nat)
 (kT : ∀ v : World, Calls Tryz.prog 11 #[.int .i64 k, .int .i64 W] v fun e w' => e = .returned (.agg #[.int .i64 k, .int .i64 W, .int .u64 (M.hiN T : Int), .int .u64 (M.loN T : Int), .int .i64 E, .bool x, .bool true]) ∧ Below v.heap.size v w')
 (kO : ∀ v : World, Calls Tryz.prog 16 #[.int .u64 (d : Int)] v fun e w' => Ret v w' e (D d))
 (k1 : ∀ v : World, Calls Tryz.prog 16 #[.int .u64 1] v fun e w' => Ret v w' e (D 1))
 (k2 : ∀ v : World, Calls Tryz.prog 36 #[.agg #[.int .u64 (M.hiN T : Int), .int .u64 (M.loN T : Int)]] v fun e w' => Ret v w' e (D T))
 (kM : ∀ (v : World) (ao bo : Option Addr) (c e : Nat), Rd v ao (D d) → Rd v bo (D T) → Calls Tryz.prog 27 #[.slice ao (D d).length c, .slice bo (D T).length e] v fun e w' => Ret v w' e (D A))
 (kA : ∀ (v : World) (ao bo : Option Addr) (c e : Nat), Rd v ao (D T) → Rd v bo (D 1) → Calls Tryz.prog 33 #[.slice ao (D T).length c, .slice bo (D 1).length e] v fun e w' => Ret v w' e (D (T + 1)))
 (kN : x = false → ∀ (v : World) (ao bo : Option Addr) (c e : Nat), Rd v ao (D d) → Rd v bo (D (T + 1)) → Calls Tryz.prog 27 #[.slice ao (D d).length c, .slice bo (D (T + 1)).length e] v fun e w' => Ret v w' e (D Bv))
 (hB : x = true → Bv = A)
 (kU : ∀ (v : World) (ao : Option Addr) (c : Nat), Rd v ao (D A) → Calls Tryz.prog 12 #[.slice ao (D A).length c] v fun e w' => Ret v w' e (L A))
 (kV : ∀ (v : World) (ao : Option Addr) (c : Nat), Rd v ao (D Bv) → Calls Tryz.prog 12 #[.slice ao (D Bv).length c] v fun e w' => Ret v w' e (L Bv)) :
 Calls Tryz.prog 15 #[.int .u64 (d : Int), .agg #[.int .i64 k, .int .i64 W, .int .u64 (M.hiN T : Int), .int .u64 (M.loN T : Int), .int .i64 E, .bool x, .bool true]] w fun e w' => Sw w w' e (L A) (L Bv) E true := by
 have b0 : Below w.heap.size w ((w.alloc (.cells #[.int .i64 k, .int .i64 W, .int .u64 (M.hiN T : Int), .int .u64 (M.loN T : Int), .int .i64 E, .bool x, .bool true] 41)).alloc (.cells #[.slice none 0 0, .slice none 0 0, .int .i64 0, .bool false] 47)) := ((Below.refl _ _).alloc (Nat.le_refl _) _).alloc (by simp) _
 have hP : Cls ((w.alloc (.cells #[.int .i64 k, .int .i64 W, .int .u64 (M.hiN T : Int), .int .u64 (M.loN T : Int), .int .i64 E, .bool x, .bool true] 41)).alloc (.cells #[.slice none 0 0, .slice none 0 0, .int .i64 0, .bool false] 47)) w.heap.size #[.int .i64 k, .int .i64 W, .int .u64 (M.hiN T : Int), .int .u64 (M.loN T : Int), .int .i64 E, .bool x, .bool true] 41 := (Cls.new w _ _).below ((Below.refl _ _).alloc (Nat.le_refl _) _)
 have hR : Cls ((w.alloc (.cells #[.int .i64 k, .int .i64 W, .int .u64 (M.hiN T : Int), .int .u64 (M.loN T : Int), .int .i64 E, .bool x, .bool true] 41)).alloc (.cells #[.slice none 0 0, .slice none 0 0, .int .i64 0, .bool false] 47)) (w.heap.size + 1) #[.slice none 0 0, .slice none 0 0, .int .i64 0, .bool false] 47 := by
  have := Cls.new (w.alloc (.cells #[.int .i64 k, .int .i64 W, .int .u64 (M.hiN T : Int), .int .u64 (M.loN T : Int), .int .i64 E, .bool x, .bool true] 41)) #[.slice none 0 0, .slice none 0 0, .int .i64 0, .bool false] 47
  rwa [World.size_alloc] at this
 generalize hV : ((w.alloc (.cells #[.int .i64 k, .int .i64 W, .int .u64 (M.hiN T : Int), .int .u64 (M.loN T : Int), .int .i64 E, .bool x, .bool true] 41)).alloc (.cells #[.slice none 0 0, .slice none 0 0, .int .i64 0, .bool false] 47)) = v0 at *
 go_enter Tryz.func15, Tryz.ntmps15
 go_upto_region 1 with fail
 clear hV
 go_cut [18] (fun z wx => z = .bool false ∧ Below v0.heap.size v0 wx)
 case first =>
  have A0 : Below v0.heap.size v0 v0.drew := (Below.refl _ _).drew
  have KB : ∀ v, Below v0.heap.size v0 v → (fun v => v.cell? ⟨w.heap.size, 0, none⟩ = some (.int .i64 k) ∧ v.cell? ⟨w.heap.size, 1, none⟩ = some (.int .i64 W) ∧ v.cell? ⟨w.heap.size, 2, none⟩ = some (.int .u64 (M.hiN T : Int)) ∧ v.cell? ⟨w.heap.size, 3, none⟩ = some (.int .u64 (M.loN T : Int)) ∧ v.cell? ⟨w.heap.size, 4, none⟩ = some (.int .i64 E) ∧ v.cell? ⟨w.heap.size, 5, none⟩ = some (.bool x) ∧ v.cell? ⟨w.heap.size, 6, none⟩ = some (.bool true)) v := fun v hv => ⟨(hP.below hv).cell 0 rfl, (hP.below hv).cell 1 rfl, (hP.below hv).cell 2 rfl, (hP.below hv).cell 3 rfl, (hP.below hv).cell 4 rfl, (hP.below hv).cell 5 rfl, (hP.below hv).cell 6 rfl⟩
  go_region_held3 (fun v => v.cell? ⟨w.heap.size, 0, none⟩ = some (.int .i64 k) ∧ v.cell? ⟨w.heap.size, 1, none⟩ = some (.int .i64 W) ∧ v.cell? ⟨w.heap.size, 2, none⟩ = some (.int .u64 (M.hiN T : Int)) ∧ v.cell? ⟨w.heap.size, 3, none⟩ = some (.int .u64 (M.loN T : Int)) ∧ v.cell? ⟨w.heap.size, 4, none⟩ = some (.int .i64 E) ∧ v.cell? ⟨w.heap.size, 5, none⟩ = some (.bool x) ∧ v.cell? ⟨w.heap.size, 6, none⟩ = some (.bool true)) (first | with_reducible exact KB _ hb1 | with_reducible exact KB _ A0) (first | (go_at_call 11; refine (kT _).mono ?_; rintro e u1 ⟨rfl, hb0⟩; have hb1 := keepC1 (w1 := v0) A0 hb0; clear hb0))
  all_goals go_wp2_with fail
  all_goals go_meet
  all_goals exact ⟨rfl, hb1⟩
 case rest =>
 obtain ⟨rfl, hbx⟩ := hcut
 replace hR := hR.below hbx
 replace hP := hP.below hbx
 replace b0 := b0.trans (hbx.mono b0.size)
 clear hbx kT
 go_upto_region 3 with fail
 go_cut [5] (fun z wx => ∃ (a1 : Option Addr) (c1 : Nat), z = .slice a1 (D A).length c1 ∧ Rd wx a1 (D A) ∧ Below wc.heap.size wc wx)
 case first =>
  have A0 : Below wc.heap.size wc wc.drew := (Below.refl _ _).drew
  have KB : ∀ v, Below wc.heap.size wc v → (fun v => v.cell? ⟨w.heap.size, 2, none⟩ = some (.int .u64 (M.hiN T : Int)) ∧ v.cell? ⟨w.heap.size, 3, none⟩ = some (.int .u64 (M.loN T : Int))) v := fun v hv => ⟨(hP.below hv).cell 2 rfl, (hP.below hv).cell 3 rfl⟩
  go_region_held3 (fun v => v.cell? ⟨w.heap.size, 2, none⟩ = some (.int .u64 (M.hiN T : Int)) ∧ v.cell? ⟨w.heap.size, 3, none⟩ = some (.int .u64 (M.loN T : Int))) (first | with_reducible exact KB _ hb5 | with_reducible exact KB _ hb4 | with_reducible exact KB _ hb3 | with_reducible exact KB _ hb2 | with_reducible exact KB _ hb1 | with_reducible exact KB _ A0) (first | (have hq := hb2; clear hq; go_at_call 27; refine (kM _ _ _ _ _ r1 r2).mono ?_; rintro e u3 ⟨a3, c3, rfl, o3, hb0⟩; have hb3 := keepC1 (w1 := wc) hb2 hb0; have r3 := Rd.own o3; clear hb0) | (have hq := hb1; clear hq; go_at_call 36; refine (k2 _).mono ?_; rintro e u2 ⟨a2, c2, rfl, o2, hb0⟩; have hb2 := keepC1 (w1 := wc) hb1 hb0; have r2 := Rd.own o2; replace r1 := r1.below hb0; clear hb0) | (go_at_call 16; refine (kO _).mono ?_; rintro e u1 ⟨a1, c1, rfl, o1, hb0⟩; have hb1 := keepC1 (w1 := wc) A0 hb0; have r1 := Rd.own o1; clear hb0))
  all_goals go_wp2_with fail
  all_goals go_meet
  all_goals exact ⟨a3, c3, rfl, r3, hb3⟩
 case rest =>
 obtain ⟨la, lc, rfl, rl, hbx⟩ := hcut
 replace hR := hR.below hbx
 replace hP := hP.below hbx
 replace b0 := b0.trans (hbx.mono b0.size)
 clear hbx kM
 have p5 := hP.cell 5 rfl
 go_upto_if 29 with fail
 clear p5
 go_cut [6] (fun z wx => ∃ (a1 : Option Addr) (c1 : Nat), z = .slice a1 (D Bv).length c1 ∧ Rd wx a1 (D Bv) ∧ Below wc.heap.size wc wx)
 case first =>
  cases x
  · have kN' := kN rfl
    go_upto_region 6 with fail
    have A0 : Below wc.heap.size wc wc.drew := (Below.refl _ _).drew
    have KB : ∀ v, Below wc.heap.size wc v → (fun v => v.cell? ⟨w.heap.size, 2, none⟩ = some (.int .u64 (M.hiN T : Int)) ∧ v.cell? ⟨w.heap.size, 3, none⟩ = some (.int .u64 (M.loN T : Int))) v := fun v hv => ⟨(hP.below hv).cell 2 rfl, (hP.below hv).cell 3 rfl⟩
    go_region_held3 (fun v => v.cell? ⟨w.heap.size, 2, none⟩ = some (.int .u64 (M.hiN T : Int)) ∧ v.cell? ⟨w.heap.size, 3, none⟩ = some (.int .u64 (M.loN T : Int))) (first | with_reducible exact KB _ hb5 | with_reducible exact KB _ hb4 | with_reducible exact KB _ hb3 | with_reducible exact KB _ hb2 | with_reducible exact KB _ hb1 | with_reducible exact KB _ A0) (first | (have hq := hb4; clear hq; go_at_call 27; refine (kN' _ _ _ _ _ r1 r4).mono ?_; rintro e u5 ⟨a5, c5, rfl, o5, hb0⟩; have hb5 := keepC1 (w1 := wc) hb4 hb0; have r5 := Rd.own o5; clear hb0) | (have hq := hb3; clear hq; go_at_call 33; refine (kA _ _ _ _ _ r2 r3).mono ?_; rintro e u4 ⟨a4, c4, rfl, o4, hb0⟩; have hb4 := keepC1 (w1 := wc) hb3 hb0; have r4 := Rd.own o4; replace r1 := r1.below hb0; clear hb0) | (have hq := hb2; clear hq; go_at_call 16; refine (k1 _).mono ?_; rintro e u3 ⟨a3, c3, rfl, o3, hb0⟩; have hb3 := keepC1 (w1 := wc) hb2 hb0; have r3 := Rd.own o3; replace r1 := r1.below hb0; replace r2 := r2.below hb0; clear hb0) | (have hq := hb1; clear hq; go_at_call 36; refine (k2 _).mono ?_; rintro e u2 ⟨a2, c2, rfl, o2, hb0⟩; have hb2 := keepC1 (w1 := wc) hb1 hb0; have r2 := Rd.own o2; replace r1 := r1.below hb0; clear hb0) | (go_at_call 16; refine (kO _).mono ?_; rintro e u1 ⟨a1, c1, rfl, o1, hb0⟩; have hb1 := keepC1 (w1 := wc) A0 hb0; have r1 := Rd.own o1; clear hb0))
    all_goals go_wp2_with fail
    all_goals go_meet
    all_goals exact ⟨a5, c5, rfl, r5, hb5⟩
  · have e := hB rfl
    go_wp2_with fail
    go_meet
    case rel =>
     subst e
     exact ⟨la, lc, rfl, rl, Below.refl _ _⟩
 case rest =>
 obtain ⟨ha, hc, rfl, rh, hbx⟩ := hcut
 replace hR := hR.below hbx
 replace hP := hP.below hbx
 replace rl := rl.below hbx
 replace b0 := b0.trans (hbx.mono b0.size)
 have lR := hR.lt
 clear hbx kN kO k1 k2 kA hB
 go_upto_region 7 with fail
 have A0 : Below wc.heap.size wc wc.drew := (Below.refl _ _).drew
 have KB : ∀ v, Below wc.heap.size wc v → (fun v => v.cell? ⟨w.heap.size, 4, none⟩ = some (.int .i64 E)) v := fun v hv => (hP.below hv).cell 4 rfl
 have KS : ∀ v a b c e, Below wc.heap.size wc v → (fun v => v.cell? ⟨w.heap.size, 4, none⟩ = some (.int .i64 E)) ((((v.setCell ⟨w.heap.size + 1, 0, none⟩ a).setCell ⟨w.heap.size + 1, 1, none⟩ b).setCell ⟨w.heap.size + 1, 2, none⟩ c).setCell ⟨w.heap.size + 1, 3, none⟩ e) := fun v a b c e hv =>
  (((((hP.below hv).far ⟨w.heap.size + 1, 0, none⟩ (by simp) a).far ⟨w.heap.size + 1, 1, none⟩ (by simp) b).far ⟨w.heap.size + 1, 2, none⟩ (by simp) c).far ⟨w.heap.size + 1, 3, none⟩ (by simp) e).cell 4 rfl
 go_region_held3 (fun v => v.cell? ⟨w.heap.size, 4, none⟩ = some (.int .i64 E)) (first | with_reducible exact KB _ hb2 | with_reducible exact KB _ hb1 | with_reducible exact KB _ A0 | with_reducible exact KS _ _ _ _ _ hb2)
  (first | (have hq := hb1; clear hq; go_at_call 12; refine (kV _ _ _ (rh.below hb1)).mono ?_; rintro e u2 ⟨ob, od, rfl, o2, hb0⟩; have hb2 := keepC1 (w1 := wc) hb1 hb0; have oB := Own.of o2; replace oA := oA.keep hb0; have s12 := hb0.size; have r0 := (hR.below hb2).cell 0 rfl; have s0 := (hR.below hb2).frozen 0; have r1 := (hR.below hb2).cell 1 rfl; have s1 := (hR.below hb2).frozen 1; have r2 := (hR.below hb2).cell 2 rfl; have s2 := (hR.below hb2).frozen 2; have r3 := (hR.below hb2).cell 3 rfl; have s3 := (hR.below hb2).frozen 3; clear hb0) | (go_at_call 12; refine (kU _ _ _ (rl.below A0)).mono ?_; rintro e u1 ⟨oa, oc, rfl, o1, hb0⟩; have hb1 := keepC1 (w1 := wc) A0 hb0; have oA := Own.of o1; clear hb0))
 all_goals replace hR := hR.below hb2
 all_goals replace b0 := b0.trans (hb2.mono b0.size)
 all_goals go_wp2_with fail
 all_goals (
  have z1 := hb1.size
  have gg := grown4 u2 (w.heap.size + 1) (.slice oa (L A).length oc) (.slice ob (L Bv).length od) (.int .i64 E) (.bool true)
  have oA' := oA.grown gg (fun k h1 h2 e => by injection e with e; have : wc.drew.heap.size = wc.heap.size := rfl; omega)
  have oB' := oB.grown gg (fun k h1 h2 e => by injection e with e; omega)
  have sz : ((((u2.setCell ⟨w.heap.size + 1, 0, none⟩ (.slice oa (L A).length oc)).setCell ⟨w.heap.size + 1, 1, none⟩ (.slice ob (L Bv).length od)).setCell ⟨w.heap.size + 1, 2, none⟩ (.int .i64 E)).setCell ⟨w.heap.size + 1, 3, none⟩ (.bool true)).heap.size = u2.heap.size := by simp
  have R5 := Cls.set (Cls.set (Cls.set (Cls.set hR 0 (.slice oa (L A).length oc) _ rfl) 1 (.slice ob (L Bv).length od) _ rfl) 2 (.int .i64 E) _ rfl) 3 (.bool true) #[.slice oa (L A).length oc, .slice ob (L Bv).length od, .int .i64 E, .bool true] rfl
  have B5 := ((((b0).setCell (p := ⟨w.heap.size + 1, 0, none⟩) (by simp only; omega) (.slice oa (L A).length oc)).setCell (p := ⟨w.heap.size + 1, 1, none⟩) (by simp only; omega) (.slice ob (L Bv).length od)).setCell (p := ⟨w.heap.size + 1, 2, none⟩) (by simp only; omega) (.int .i64 E)).setCell (p := ⟨w.heap.size + 1, 3, none⟩) (by simp only; omega) (.bool true)
  clear gg
  generalize ((((u2.setCell ⟨w.heap.size + 1, 0, none⟩ (.slice oa (L A).length oc)).setCell ⟨w.heap.size + 1, 1, none⟩ (.slice ob (L Bv).length od)).setCell ⟨w.heap.size + 1, 2, none⟩ (.int .i64 E)).setCell ⟨w.heap.size + 1, 3, none⟩ (.bool true)) = Yw at R5 B5 oA' oB' sz ⊢
  have q0 := R5.cell 0 rfl
  have q1 := R5.cell 1 rfl
  have q2 := R5.cell 2 rfl
  have q3 := R5.cell 3 rfl
  refine bodyPost_ret (v := .agg #[.slice oa (L A).length oc, .slice ob (L Bv).length od, .int .i64 E, .bool true]) (by simp [results, Tryz.results15, go_sem, q0, q1, q2, q3]) rfl ⟨oa, oc, ob, od, u1.heap.size, rfl, ?_, ?_, oA'.widen4 ?_ (Nat.le_refl _), oB'.widen4 (Nat.le_refl _) (by omega), B5⟩
  · omega
  · omega
  · have : wc.drew.heap.size = wc.heap.size := rfl
    omega)

end Go.Proofs.YtjffpclidcloeaaGreatDoor
