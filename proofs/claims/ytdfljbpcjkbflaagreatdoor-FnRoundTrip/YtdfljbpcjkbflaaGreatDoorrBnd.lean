import Derived.Test.YtdfljbpcjkbflaaGreatDoorrHAE
set_option maxHeartbeats 4000000
set_option maxRecDepth 100000
namespace Go.Proofs.YtdfljbpcjkbflaaGreatDoor
open Go.RowKit
set_option linter.unusedVariables false
set_option maxRecDepth 100000
theorem bnd (T : M.Pt) (Q X : Nat) (e0 e1 e2 e3 e4 : Int) (e5 : Bool) (A B C : Nat) (cl bb : Bool) (w : World)
 (kS : ∀ v : World, Calls Tryz.prog 65 #[.agg #[.int .u64 (M.hiN T.s : Int), .int .u64 (M.loN T.s : Int)], .int .i64 2] v fun e w' => e = .returned (.agg #[.int .u64 (M.hiN Q : Int), .int .u64 (M.loN Q : Int)]) ∧ Below v.heap.size v w')
 (kM : ∀ v : World, Calls Tryz.prog 64 #[.agg #[.int .u64 (M.hiN Q : Int), .int .u64 (M.loN Q : Int)], .agg #[.int .u64 0, .int .u64 2]] v fun e w' => e = .returned (.agg #[.int .u64 (M.hiN X : Int), .int .u64 (M.loN X : Int)]) ∧ Below v.heap.size v w') (Y : Nat) (Hh : Nat) (kH : ∀ v : World, Calls Tryz.prog 67 #[.agg #[.int .u64 (M.hiN Q : Int), .int .u64 (M.loN Q : Int)], .agg #[.int .u64 0, .int .u64 2]] v fun e w' => e = .returned (.agg #[.int .u64 (M.hiN Hh : Int), .int .u64 (M.loN Hh : Int)]) ∧ Below v.heap.size v w') (U W : Int) (hU : (if wrap64 (T.q - 2) < 0 then 0 else wrap64 (T.q - 2)) = U) (hW : (if wrap64 (2 - T.q) < 0 then 0 else wrap64 (2 - T.q)) = W) (kN1 : ∀ v : World, Calls Tryz.prog 72 #[.agg #[.int .u64 (M.hiN Y : Int), .int .u64 (M.loN Y : Int)]] v fun e w' => ∃ ao c, e = .returned (.slice ao (L Y).length c) ∧ Rd w' ao (L Y) ∧ (L Y).length ≤ c ∧ Below v.heap.size v w') (kN2 : ∀ v : World, Calls Tryz.prog 72 #[.agg #[.int .u64 (M.hiN Hh : Int), .int .u64 (M.loN Hh : Int)]] v fun e w' => ∃ ao c, e = .returned (.slice ao (L Hh).length c) ∧ Rd w' ao (L Hh) ∧ (L Hh).length ≤ c ∧ Below v.heap.size v w') (kS1 : ∀ (v : World) (ao : Option Addr) (c : Nat), Rd v ao (L Y) → Calls Tryz.prog 77 #[.slice ao (L Y).length c, .int .i64 U] v fun e w' => Ret v w' e (L A)) (kS2 : ∀ (v : World) (ao : Option Addr) (c : Nat), Rd v ao (L Hh) → Calls Tryz.prog 77 #[.slice ao (L Hh).length c, .int .i64 U] v fun e w' => Ret v w' e (L B)) (kS3 : ∀ (v : World) (ao : Option Addr) (c : Nat), Rd v ao ([1]) → Calls Tryz.prog 77 #[.slice ao 1 c, .int .i64 W] v fun e w' => Ret v w' e (L C)) (kV : ∀ v : World, Calls Tryz.prog 78 #[.agg #[.int .u64 (M.hiN T.s : Int), .int .u64 (M.loN T.s : Int)]] v fun e w' => e = .returned (.bool cl) ∧ Below v.heap.size v w') (LD : Nat) (kL : ∀ v : World, Calls Tryz.prog 68 #[.agg #[.int .i64 e0, .int .i64 e1, .int .i64 e2, .int .i64 e3, .int .i64 e4, .bool e5]] v fun e w' => e = .returned (.agg #[.int .u64 (M.hiN LD : Int), .int .u64 (M.loN LD : Int)]) ∧ Below v.heap.size v w') (qm : Int) (kQ : ∀ v : World, Calls Tryz.prog 70 #[.agg #[.int .i64 e0, .int .i64 e1, .int .i64 e2, .int .i64 e3, .int .i64 e4, .bool e5]] v fun e w' => e = .returned (.int .i64 qm) ∧ Below v.heap.size v w') (kN : bb = true → ∀ v : World, Calls Tryz.prog 64 #[.agg #[.int .u64 (M.hiN Q : Int), .int .u64 (M.loN Q : Int)], .agg #[.int .u64 0, .int .u64 1]] v fun e w' => e = .returned (.agg #[.int .u64 (M.hiN Y : Int), .int .u64 (M.loN Y : Int)]) ∧ Below v.heap.size v w') (hB : (bb = false ∧ Y = X ∧ (¬ M.hiN T.s = M.hiN LD ∨ M.hiN LD = M.hiN T.s ∧ ¬ M.loN T.s = M.loN LD)) ∨ ((bb = false ∧ Y = X ∧ ¬ qm < T.q ∨ bb = true ∧ qm < T.q) ∧ LD = T.s)) :
 Calls Tryz.prog 34 #[.agg #[.int .i64 e0, .int .i64 e1, .int .i64 e2, .int .i64 e3, .int .i64 e4, .bool e5], .agg #[.int .i64 T.c, .bool T.n, .int .u64 (M.hiN T.s : Int), .int .u64 (M.loN T.s : Int), .int .i64 T.q]] w fun e w' => Iv w w' e A B C cl := by
 have HX := hid hB
 have HY : Hid (bb = false → Y = X) := hid (fun h => by rcases hB with ⟨-, h, -⟩ | ⟨⟨-, h, -⟩ | ⟨g, -⟩, -⟩ <;> first | exact h | (rw [h] at g; cases g))
 have HN := hid kN
 clear hB kN
 have b0 : Below w.heap.size w (((w.alloc (.cells #[.int .i64 e0, .int .i64 e1, .int .i64 e2, .int .i64 e3, .int .i64 e4, .bool e5] 51)).alloc (.cells #[.int .i64 T.c, .bool T.n, .int .u64 (M.hiN T.s : Int), .int .u64 (M.loN T.s : Int), .int .i64 T.q] 35)).alloc (.cells #[.slice none 0 0, .slice none 0 0, .slice none 0 0, .bool false, .bool false] 78)) := (((Below.refl _ _).alloc (Nat.le_refl _) _).alloc (by simp) _).alloc (by simp; omega) _
 have D0 : D6 (((w.alloc (.cells #[.int .i64 e0, .int .i64 e1, .int .i64 e2, .int .i64 e3, .int .i64 e4, .bool e5] 51)).alloc (.cells #[.int .i64 T.c, .bool T.n, .int .u64 (M.hiN T.s : Int), .int .u64 (M.loN T.s : Int), .int .i64 T.q] 35)).alloc (.cells #[.slice none 0 0, .slice none 0 0, .slice none 0 0, .bool false, .bool false] 78)) w.heap.size e0 e1 e2 e3 e4 e5 := ((JN w _ _ _ _ _ _ _).below ((Below.refl _ _).alloc (Nat.le_refl _) _)).below ((Below.refl _ _).alloc (Nat.le_refl _) _)
 have P0 : P5 (((w.alloc (.cells #[.int .i64 e0, .int .i64 e1, .int .i64 e2, .int .i64 e3, .int .i64 e4, .bool e5] 51)).alloc (.cells #[.int .i64 T.c, .bool T.n, .int .u64 (M.hiN T.s : Int), .int .u64 (M.loN T.s : Int), .int .i64 T.q] 35)).alloc (.cells #[.slice none 0 0, .slice none 0 0, .slice none 0 0, .bool false, .bool false] 78)) (w.heap.size + 1) T := by
  have := (wJ (w.alloc (.cells #[.int .i64 e0, .int .i64 e1, .int .i64 e2, .int .i64 e3, .int .i64 e4, .bool e5] 51)) T).below ((Below.refl _ _).alloc (Nat.le_refl _) (.cells #[.slice none 0 0, .slice none 0 0, .slice none 0 0, .bool false, .bool false] 78))
  simpa using this
 have R0 : I5 (((w.alloc (.cells #[.int .i64 e0, .int .i64 e1, .int .i64 e2, .int .i64 e3, .int .i64 e4, .bool e5] 51)).alloc (.cells #[.int .i64 T.c, .bool T.n, .int .u64 (M.hiN T.s : Int), .int .u64 (M.loN T.s : Int), .int .i64 T.q] 35)).alloc (.cells #[.slice none 0 0, .slice none 0 0, .slice none 0 0, .bool false, .bool false] 78)) (w.heap.size + 1 + 1) := by
  have := JG ((w.alloc (.cells #[.int .i64 e0, .int .i64 e1, .int .i64 e2, .int .i64 e3, .int .i64 e4, .bool e5] 51)).alloc (.cells #[.int .i64 T.c, .bool T.n, .int .u64 (M.hiN T.s : Int), .int .u64 (M.loN T.s : Int), .int .i64 T.q] 35))
  simpa using this
 generalize hV : (((w.alloc (.cells #[.int .i64 e0, .int .i64 e1, .int .i64 e2, .int .i64 e3, .int .i64 e4, .bool e5] 51)).alloc (.cells #[.int .i64 T.c, .bool T.n, .int .u64 (M.hiN T.s : Int), .int .u64 (M.loN T.s : Int), .int .i64 T.q] 35)).alloc (.cells #[.slice none 0 0, .slice none 0 0, .slice none 0 0, .bool false, .bool false] 78)) = v0 at *
 go_enter Tryz.func34, Tryz.ntmps34
 go_upto_region 1 with fail
 clear hV
 obtain ⟨p0, p1, p2, p3, p4, -⟩ := id P0
 go_wp2_with fail
 refine (kS _).mono ?_
 rintro e v1 ⟨rfl, hb1⟩
 replace b0 := b0.trans (hb1.mono b0.size)
 replace D0 := D0.below hb1
 replace P0 := P0.below hb1
 replace R0 := R0.below hb1
 have l0 : w.heap.size + 1 + 1 < v1.heap.size := R0.lt
 clear hb1 kS p0 p1 p2 p3 p4
 go_upto_region 2 with fail
 have bA : Below v1.heap.size v1 (v1.alloc (.cells #[.int .u64 (M.hiN Q : Int), .int .u64 (M.loN Q : Int)] 25)) := (Below.refl _ _).alloc (Nat.le_refl _) _
 have Q0 : W2 (v1.alloc (.cells #[.int .u64 (M.hiN Q : Int), .int .u64 (M.loN Q : Int)] 25)) v1.heap.size Q := iO v1 Q _
 replace b0 := b0.trans (bA.mono b0.size)
 replace D0 := D0.below bA
 replace P0 := P0.below bA
 replace R0 := R0.below bA
 clear bA
 generalize (v1.alloc (.cells #[.int .u64 (M.hiN Q : Int), .int .u64 (M.loN Q : Int)] 25)) = v2 at *
 generalize v1.heap.size = gq at *
 obtain ⟨q0, q1, -⟩ := id Q0
 go_wp2_with fail
 refine (kM _).mono ?_
 rintro e v3 ⟨rfl, hb3⟩
 clear q0 q1
 replace b0 := b0.trans (hb3.mono b0.size)
 replace D0 := D0.below hb3
 replace P0 := P0.below hb3
 replace R0 := R0.below hb3
 replace Q0 := Q0.bl hb3
 have l1 : gq < v3.heap.size := Q0.2.2.2.2
 clear hb3 kM
 go_upto_region 3 with fail
 have bA : Below v3.heap.size v3 (v3.alloc (.cells #[.int .u64 (M.hiN X : Int), .int .u64 (M.loN X : Int)] 25)) := (Below.refl _ _).alloc (Nat.le_refl _) _
 have J0 : Bv w (v3.alloc (.cells #[.int .u64 (M.hiN X : Int), .int .u64 (M.loN X : Int)] 25)) gq v3.heap.size e0 e1 e2 e3 e4 e5 T Q X := ⟨b0.trans (bA.mono b0.size), D0.below bA, P0.below bA, R0.below bA, Q0.bl bA, iO v3 X _, l0, l1⟩
 clear bA b0 D0 P0 R0 Q0 l0 l1
 generalize (v3.alloc (.cells #[.int .u64 (M.hiN X : Int), .int .u64 (M.loN X : Int)] 25)) = v4 at *
 generalize v3.heap.size = gl at *
 have A0 : Below v4.heap.size v4 v4.drew := (Below.refl _ _).drew
 have KB : ∀ v, Below v4.heap.size v4 v → (fun v => v.cell? ⟨w.heap.size, 0, none⟩ = some (.int .i64 e0) ∧ v.cell? ⟨w.heap.size, 1, none⟩ = some (.int .i64 e1) ∧ v.cell? ⟨w.heap.size, 2, none⟩ = some (.int .i64 e2) ∧ v.cell? ⟨w.heap.size, 3, none⟩ = some (.int .i64 e3) ∧ v.cell? ⟨w.heap.size, 4, none⟩ = some (.int .i64 e4) ∧ v.cell? ⟨w.heap.size, 5, none⟩ = some (.bool e5) ∧ v.cell? ⟨w.heap.size + 1, 2, none⟩ = some (.int .u64 (M.hiN T.s : Int)) ∧ v.cell? ⟨w.heap.size + 1, 3, none⟩ = some (.int .u64 (M.loN T.s : Int)) ∧ v.cell? ⟨w.heap.size + 1, 4, none⟩ = some (.int .i64 T.q)) v := fun v hv => by
  obtain ⟨d0, d1, d2, d3, d4, d5, -⟩ := (J0.below hv).d
  obtain ⟨p0, p1, p2, p3, p4, -⟩ := (J0.below hv).p
  exact ⟨d0, d1, d2, d3, d4, d5, p2, p3, p4⟩
 go_cut [27] (fun z wx => z = .bool bb ∧ Below v4.heap.size v4 wx)
 case first =>
  rcases HX.out with ⟨rfl, -, h⟩ | ⟨h, rfl⟩
  · clear HX HN HY
    rcases h with LD2 | ⟨LD0, LD2⟩
    · have LD1 : ¬ (M.hiN T.s : Int) = (M.hiN LD : Int) := by omega
      obtain ⟨d0, d1, d2, d3, d4, d5, -⟩ := (J0.below A0).d
      obtain ⟨p0, p1, p2, p3, p4, -⟩ := (J0.below A0).p
      first | (go_region_with (first | (go_at_call 68; refine (kL _).mono ?_; rintro e u1 ⟨rfl, hb0⟩; have hb1 := aB (w1 := v4) A0 hb0; clear hb0; obtain ⟨m0, m1, m2, m3, m4, m5, -⟩ := (J0.below hb1).d; obtain ⟨n0, n1, n2, n3, n4, -⟩ := (J0.below hb1).p))) | fail
      all_goals go_wp2_with fail
      all_goals go_meet
      all_goals exact ⟨rfl, hb1⟩
    · have LD1 : ¬ (M.loN T.s : Int) = (M.loN LD : Int) := by omega
      obtain ⟨d0, d1, d2, d3, d4, d5, -⟩ := (J0.below A0).d
      obtain ⟨p0, p1, p2, p3, p4, -⟩ := (J0.below A0).p
      first | (go_region_with (first | (go_at_call 68; refine (kL _).mono ?_; rintro e u1 ⟨rfl, hb0⟩; have hb1 := aB (w1 := v4) A0 hb0; clear hb0; obtain ⟨m0, m1, m2, m3, m4, m5, -⟩ := (J0.below hb1).d; obtain ⟨n0, n1, n2, n3, n4, -⟩ := (J0.below hb1).p))) | fail
      all_goals go_wp2_with fail
      all_goals go_meet
      all_goals exact ⟨rfl, hb1⟩
  · clear HX HN HY
    rcases h with ⟨rfl, -, hq⟩ | ⟨rfl, hq⟩
    all_goals (
     (first | have hq1 : decide (qm < T.q) = false := decide_eq_false hq | skip)
     first | (go_region_held3 (fun v => v.cell? ⟨w.heap.size, 0, none⟩ = some (.int .i64 e0) ∧ v.cell? ⟨w.heap.size, 1, none⟩ = some (.int .i64 e1) ∧ v.cell? ⟨w.heap.size, 2, none⟩ = some (.int .i64 e2) ∧ v.cell? ⟨w.heap.size, 3, none⟩ = some (.int .i64 e3) ∧ v.cell? ⟨w.heap.size, 4, none⟩ = some (.int .i64 e4) ∧ v.cell? ⟨w.heap.size, 5, none⟩ = some (.bool e5) ∧ v.cell? ⟨w.heap.size + 1, 2, none⟩ = some (.int .u64 (M.hiN T.s : Int)) ∧ v.cell? ⟨w.heap.size + 1, 3, none⟩ = some (.int .u64 (M.loN T.s : Int)) ∧ v.cell? ⟨w.heap.size + 1, 4, none⟩ = some (.int .i64 T.q)) (first | with_reducible exact KB _ hb2 | with_reducible exact KB _ hb1 | with_reducible exact KB _ A0) (first | (have hq := hb1; clear hq; go_at_call 70; refine (kQ _).mono ?_; rintro e u2 ⟨rfl, hb0⟩; have hb2 := aB (w1 := v4) hb1 hb0; clear hb0) | (go_at_call 68; refine (kL _).mono ?_; rintro e u1 ⟨rfl, hb0⟩; have hb1 := aB (w1 := v4) A0 hb0; clear hb0))) | fail
     all_goals go_wp2_with fail
     all_goals go_meet
     all_goals exact ⟨by simp [hq], hb2⟩)
 case rest =>
  rename World => v5
  obtain ⟨rfl, hb5⟩ := hcut
  replace J0 := J0.below hb5
  clear hb5 KB A0
  cases bb
  all_goals (first | (rw [← HY.out rfl] at J0; clear HX HN HY) | (have kN := HN.out rfl; clear HX HN HY; obtain ⟨q0, q1, -⟩ := id J0.q; go_wp2_with fail; refine (kN _).mono ?_; rintro e v5 ⟨rfl, hb5⟩; replace J0 := J0.below hb5; clear hb5 q0 q1 kN; obtain ⟨q0, q1, -⟩ := id J0.q; obtain ⟨x0, x1, x2, x3, -⟩ := id J0.x; go_upto_region 5 with fail; clear q0 q1 x0 x1 x2 x3; replace J0 := J0.set Y; generalize ((v5.setCell ⟨gl, 0, none⟩ (.int .u64 (M.hiN Y : Int))).setCell ⟨gl, 1, none⟩ (.int .u64 (M.loN Y : Int))) = v5 at *))
  all_goals (
   obtain ⟨q0, q1, -⟩ := id J0.q
   go_wp2_with fail
   refine (kH _).mono ?_
   rintro e v6 ⟨rfl, hb6⟩
   replace J0 := J0.below hb6
   have lh : gl < v6.heap.size := J0.x.2.2.2.2
   clear hb6 q0 q1 kH
   go_upto_region 6 with fail
   have bA : Below v6.heap.size v6 (v6.alloc (.cells #[.int .u64 (M.hiN Hh : Int), .int .u64 (M.loN Hh : Int)] 25)) := (Below.refl _ _).alloc (Nat.le_refl _) _
   have H0 : W2 (v6.alloc (.cells #[.int .u64 (M.hiN Hh : Int), .int .u64 (M.loN Hh : Int)] 25)) v6.heap.size Hh := iO v6 Hh _
   replace J0 := J0.below bA
   clear bA
   generalize (v6.alloc (.cells #[.int .u64 (M.hiN Hh : Int), .int .u64 (M.loN Hh : Int)] 25)) = v7 at *
   generalize v6.heap.size = gh at *
   obtain ⟨p0, p1, p2, p3, p4, -⟩ := id J0.p
   go_quiet (fail)
   clear p0 p1 p2 p3 p4
   have A0 : Below v7.heap.size v7 (v7.drewN nq) := ⟨rfl, rfl, rfl, Nat.le_refl _, fun _ _ => rfl⟩
   replace J0 := J0.below A0
   replace H0 := H0.bl A0
   clear A0
   go_upto_region 7 with fail
   generalize v7.drewN nq = v8 at *
   try rw [hU]
   try rw [hW]
   clear hU hW
   have lw := J0.l
   have lk := J0.k
   have A0 : Below v8.heap.size v8 v8.drew := (Below.refl _ _).drew
   have A1 : Below v8.heap.size v8 (v8.alloc (.cells #[.int .u64 1] 23)).drew := ((Below.refl _ _).alloc (Nat.le_refl _) _).drew
   have O1 : Rd (v8.alloc (.cells #[.int .u64 1] 23)).drew (some ⟨v8.heap.size, 0, none⟩) [1] := (oN v8 _).below ((Below.refl _ _).drew)
   have KB : ∀ v, Below v8.heap.size v8 v → (fun v => v.cell? ⟨gl, 0, none⟩ = some (.int .u64 (M.hiN Y : Int)) ∧ v.cell? ⟨gl, 1, none⟩ = some (.int .u64 (M.loN Y : Int)) ∧ v.cell? ⟨gh, 0, none⟩ = some (.int .u64 (M.hiN Hh : Int)) ∧ v.cell? ⟨gh, 1, none⟩ = some (.int .u64 (M.loN Hh : Int)) ∧ v.cell? ⟨w.heap.size + 1, 2, none⟩ = some (.int .u64 (M.hiN T.s : Int)) ∧ v.cell? ⟨w.heap.size + 1, 3, none⟩ = some (.int .u64 (M.loN T.s : Int))) v := fun v hv => by
    obtain ⟨p0, p1, p2, p3, p4, -⟩ := (J0.below hv).p
    obtain ⟨x0, x1, -⟩ := (J0.below hv).x
    obtain ⟨y0, y1, -⟩ := H0.bl hv
    exact ⟨x0, x1, y0, y1, p2, p3⟩
   have KS : ∀ v a b c d e, Below v8.heap.size v8 v → (fun v => v.cell? ⟨gl, 0, none⟩ = some (.int .u64 (M.hiN Y : Int)) ∧ v.cell? ⟨gl, 1, none⟩ = some (.int .u64 (M.loN Y : Int)) ∧ v.cell? ⟨gh, 0, none⟩ = some (.int .u64 (M.hiN Hh : Int)) ∧ v.cell? ⟨gh, 1, none⟩ = some (.int .u64 (M.loN Hh : Int)) ∧ v.cell? ⟨w.heap.size + 1, 2, none⟩ = some (.int .u64 (M.hiN T.s : Int)) ∧ v.cell? ⟨w.heap.size + 1, 3, none⟩ = some (.int .u64 (M.loN T.s : Int))) (((((v.setCell ⟨w.heap.size + 1 + 1, 0, none⟩ a).setCell ⟨w.heap.size + 1 + 1, 1, none⟩ b).setCell ⟨w.heap.size + 1 + 1, 2, none⟩ c).setCell ⟨w.heap.size + 1 + 1, 3, none⟩ d).setCell ⟨w.heap.size + 1 + 1, 4, none⟩ e) := fun v a b c d e hv => by
    obtain ⟨x0, x1, y0, y1, p2, p3⟩ := KB v hv
    exact ⟨(qJ (by omega) _ _ _ _ _ _).trans x0, (qJ (by omega) _ _ _ _ _ _).trans x1, (qJ (by omega) _ _ _ _ _ _).trans y0, (qJ (by omega) _ _ _ _ _ _).trans y1, (qJ (by omega) _ _ _ _ _ _).trans p2, (qJ (by omega) _ _ _ _ _ _).trans p3⟩
   have lt8 := J0.r.lt
   have lb8 := J0.b.size
   first | (go_region_held3 (fun v => v.cell? ⟨gl, 0, none⟩ = some (.int .u64 (M.hiN Y : Int)) ∧ v.cell? ⟨gl, 1, none⟩ = some (.int .u64 (M.loN Y : Int)) ∧ v.cell? ⟨gh, 0, none⟩ = some (.int .u64 (M.hiN Hh : Int)) ∧ v.cell? ⟨gh, 1, none⟩ = some (.int .u64 (M.loN Hh : Int)) ∧ v.cell? ⟨w.heap.size + 1, 2, none⟩ = some (.int .u64 (M.hiN T.s : Int)) ∧ v.cell? ⟨w.heap.size + 1, 3, none⟩ = some (.int .u64 (M.loN T.s : Int))) (first | with_reducible exact KB _ hb6 | with_reducible exact KB _ (aD hb6 _) | with_reducible exact KB _ hb5 | with_reducible exact KB _ (aD hb5 _) | with_reducible exact KB _ hb4 | with_reducible exact KB _ (aD hb4 _) | with_reducible exact KB _ hb3 | with_reducible exact KB _ (aD hb3 _) | with_reducible exact KB _ hb2 | with_reducible exact KB _ (aD hb2 _) | with_reducible exact KB _ hb1 | with_reducible exact KB _ (aD hb1 _) | with_reducible exact KB _ A0 | with_reducible exact KB _ A1 | with_reducible exact KS _ _ _ _ _ _ hb6) (first | (have hq := hb5; clear hq; go_at_call 78; refine (kV _).mono ?_; rintro e u6 ⟨rfl, hb0⟩; have hb6 := aB (w1 := v8) hb5 hb0; replace oA := oA.keep hb0; replace oB := oB.keep hb0; replace oC := (oC.keep hb0).wide (Nat.le_refl _) hb0.size; have t56 := hb0; clear hb0; obtain ⟨r0, r1, r2, r3, r4, f0, f1, f2, f3, f4, -⟩ := (J0.below hb6).r) | (have hq := hb4; clear hq; go_at_call 77; refine (kS3 _ _ _ (by first | with_reducible exact ro | with_reducible exact oN u4 _)).mono ?_; rintro e u5 ⟨a3, c3, rfl, ho3, hb0⟩; have hb5 := aB (w1 := v8) (by first | with_reducible exact hb4 | with_reducible exact aD hb4 _) hb0; have st : Below u4.heap.size u4 u5 := (by first | with_reducible exact hb0 | with_reducible exact xN _ hb0); replace oA := oA.keep st; replace oB := oB.keep st; have oC := sS (by first | with_reducible exact Below.refl u4.heap.size u4 | with_reducible exact aD (Below.refl u4.heap.size u4) _) ho3; have t45 := st; clear st hb0 ho3) | (have hq := hb3; clear hq; go_at_call 77; refine (kS2 _ _ _ (by first | with_reducible exact rn2 | with_reducible exact rn2.below (aD (Below.refl _ _) _))).mono ?_; rintro e u4 ⟨a2, c2, rfl, ho2, hb0⟩; have hb4 := aB (w1 := v8) (by first | with_reducible exact hb3 | with_reducible exact aD hb3 _) hb0; have st : Below u3.heap.size u3 u4 := (by first | with_reducible exact hb0 | with_reducible exact xN _ hb0); replace oA := oA.keep st; (first | (with_reducible replace ro := ro.below hb0) | (with_reducible have ro := (oN u3 _).below hb0) | skip); have oB := sS (by first | with_reducible exact t23 | with_reducible exact aD t23 _) ho2; have t34 := st; clear st hb0 ho2) | (have hq := hb2; clear hq; go_at_call 72; refine (kN2 _).mono ?_; rintro e u3 ⟨nb, nd, rfl, rn2, -, hb0⟩; have hb3 := aB (w1 := v8) (by first | with_reducible exact hb2 | with_reducible exact aD hb2 _) hb0; have st : Below u2.heap.size u2 u3 := (by first | with_reducible exact hb0 | with_reducible exact xN _ hb0); replace oA := oA.keep st; have t23 := st; clear st; (first | (with_reducible replace ro := ro.below hb0) | (with_reducible have ro := (oN u2 _).below hb0) | skip); clear hb0) | (have hq := hb1; clear hq; go_at_call 77; refine (kS1 _ _ _ (by first | with_reducible exact rn1 | with_reducible exact rn1.below (aD (Below.refl _ _) _))).mono ?_; rintro e u2 ⟨a1, c1, rfl, ho1, hb0⟩; have hb2 := aB (w1 := v8) (by first | with_reducible exact hb1 | with_reducible exact aD hb1 _) hb0; (first | (with_reducible replace ro := ro.below hb0) | (with_reducible have ro := (oN u1 _).below hb0) | skip); have oA := sS (by first | with_reducible exact hb1 | with_reducible exact aD hb1 _) ho1; clear hb0 ho1) | (go_at_call 72; refine (kN1 _).mono ?_; rintro e u1 ⟨na, nc, rfl, rn1, -, hb0⟩; have hb1 := aB (w1 := v8) (by first | with_reducible exact A0 | with_reducible exact A1) hb0; (first | (with_reducible replace ro := ro.below hb0) | (with_reducible have ro := O1.below hb0) | skip); clear hb0))) | fail
   all_goals have HB := hid (cU (J0.below hb6).b (show w.heap.size ≤ w.heap.size + 1 + 1 by omega) (.slice a1 (L A).length c1) (.slice a2 (L B).length c2) (.slice a3 (L C).length c3) (.bool cl) (.bool true))
   all_goals have HA := hid (oA.set5 (g := w.heap.size + 1 + 1) lt8 (.slice a1 (L A).length c1) (.slice a2 (L B).length c2) (.slice a3 (L C).length c3) (.bool cl) (.bool true))
   all_goals have HO := hid (oB.set5 (g := w.heap.size + 1 + 1) (Nat.lt_of_lt_of_le lt8 hb2.size) (.slice a1 (L A).length c1) (.slice a2 (L B).length c2) (.slice a3 (L C).length c3) (.bool cl) (.bool true))
   all_goals have HC := hid (oC.set5 (g := w.heap.size + 1 + 1) (Nat.lt_of_lt_of_le lt8 hb4.size) (.slice a1 (L A).length c1) (.slice a2 (L B).length c2) (.slice a3 (L C).length c3) (.bool cl) (.bool true))
   all_goals have HS := hid (And.intro (Nat.le_trans lb8 hb2.size) (And.intro (Nat.le_trans t23.size t34.size) (Nat.le_trans t45.size t56.size)))
   all_goals clear oA oB oC J0 H0 KB KS A0 A1 O1 t23 t34 t45 t56 hb1 hb2 hb3 hb4 hb5 hb6 kN1 kN2 kS1 kS2 kS3 kV
   all_goals go_wp2_with fail
   all_goals refine bodyPost_ret (v := .agg #[.slice a1 (L A).length c1, .slice a2 (L B).length c2, .slice a3 (L C).length c3, .bool cl, .bool true]) (by simp [results, Tryz.results34, go_sem, r0, r1, r2, r3, r4]) rfl ?_
   all_goals exact ⟨a1, c1, a2, c2, a3, c3, u2.heap.size, u4.heap.size, rfl, HS.out.1, HS.out.2.1, by simpa using HS.out.2.2, HA.out.wide lb8 (Nat.le_refl _), HO.out, HC.out.wide (Nat.le_refl _) (by simp), HB.out⟩)

end Go.Proofs.YtdfljbpcjkbflaaGreatDoor
