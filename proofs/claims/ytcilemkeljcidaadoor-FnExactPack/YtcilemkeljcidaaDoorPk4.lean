import Derived.Test.YtcilemkeljcidaaDoorPk3
namespace Go.Proofs.YtcilemkeljcidaaDoor
open Go.RowKit
set_option linter.unusedVariables false
set_option maxRecDepth 100000

theorem jn_lt (F : M.Fm) (n : Bool) (fld : Int) (sg : Nat) : jn F n fld sg < 2 ^ 128 := by
  unfold jn; split
  · exact Nat.mod_lt _ (by omega)
  · exact Nat.mod_lt _ (by omega)
theorem pki_lt (F : M.Fm) (c : Int) (n : Bool) (s : Nat) (q : Int) : pki F c n s q < 2 ^ 128 := by
  unfold pki
  repeat' split
  all_goals exact jn_lt _ _ _ _

/-- The variables of Pack: the parts, the result, the description. -/
structure Qv (w v : World) (c : Int) (n : Bool) (s : Nat) (q : Int) : Prop where
  b : Below w.heap.size w v
  p : v.cell? ⟨w.heap.size, 0, none⟩ = some (.int .i64 c) ∧ v.cell? ⟨w.heap.size, 1, none⟩ = some (.bool n) ∧ v.cell? ⟨w.heap.size, 2, none⟩ = some (.int .u64 (M.hiN s : Int)) ∧ v.cell? ⟨w.heap.size, 3, none⟩ = some (.int .u64 (M.loN s : Int)) ∧ v.cell? ⟨w.heap.size, 4, none⟩ = some (.int .i64 q)
  r : W2 v (w.heap.size + 1) 0

theorem Qv.below {w v v' : World} {c : Int} {n : Bool} {s : Nat} {q : Int} (h : Qv w v c n s q) (hb : Below v.heap.size v v') : Qv w v' c n s q := by
  have hl : w.heap.size < v.heap.size := Nat.lt_trans (Nat.lt_succ_self _) h.r.2.2.2.2
  obtain ⟨d0, d1, d2, d3, d4⟩ := h.p
  exact ⟨h.b.trans (hb.mono h.b.size), ⟨(hb.cell hl).trans d0, (hb.cell hl).trans d1, (hb.cell hl).trans d2, (hb.cell hl).trans d3, (hb.cell hl).trans d4⟩, h.r.below hb⟩

set_option maxRecDepth 10000 in
set_option maxHeartbeats 8000000 in
theorem ipack_key (f : Int) (c : Int) (n : Bool) (s : Nat) (q : Int) (T : M.Pt) (X : Nat) (e0 e1 e2 e3 e4 : Int) (e5 : Bool) (w : World) (hm : Fmt w)
    (kE : ∀ v : World, Fmt v → Calls Tryd.prog 9 #[.int .i64 f] v fun e w' => e = .returned (.agg #[.int .i64 e0, .int .i64 e1, .int .i64 e2, .int .i64 e3, .int .i64 e4, .bool e5]) ∧ Below v.heap.size v w')
    (kK : ∀ v : World, Calls Tryd.prog 30 #[.agg #[.int .i64 e0, .int .i64 e1, .int .i64 e2, .int .i64 e3, .int .i64 e4, .bool e5]] v fun e w' => e = .returned (.bool true) ∧ Below v.heap.size v w')
    (kP : ∀ v : World, Calls Tryd.prog 40 #[.agg #[.int .i64 e0, .int .i64 e1, .int .i64 e2, .int .i64 e3, .int .i64 e4, .bool e5], .agg #[.int .i64 c, .bool n, .int .u64 (M.hiN s : Int), .int .u64 (M.loN s : Int), .int .i64 q]] v fun e w' => e = .returned (.agg #[.int .u64 (M.hiN X : Int), .int .u64 (M.loN X : Int)]) ∧ Below v.heap.size v w')
    (kU : ∀ v : World, Calls Tryd.prog 31 #[.agg #[.int .i64 e0, .int .i64 e1, .int .i64 e2, .int .i64 e3, .int .i64 e4, .bool e5], .agg #[.int .u64 (M.hiN X : Int), .int .u64 (M.loN X : Int)]] v fun e w' => e = .returned (.agg #[.int .i64 T.c, .bool T.n, .int .u64 (M.hiN T.s : Int), .int .u64 (M.loN T.s : Int), .int .i64 T.q]) ∧ Below v.heap.size v w') (R : Nat) (ok : Bool) (hR1 : (T.c = c ∧ T.n = n ∧ (M.hiN T.s : Int) = (M.hiN s : Int) ∧ (M.loN T.s : Int) = (M.loN s : Int) ∧ T.q = q) → R = X ∧ ok = true) (hR2 : ¬ (T.c = c ∧ T.n = n ∧ (M.hiN T.s : Int) = (M.hiN s : Int) ∧ (M.loN T.s : Int) = (M.loN s : Int) ∧ T.q = q) → R = 0 ∧ ok = false) :
    Calls Tryd.prog 19 #[.int .i64 f, .agg #[.int .i64 c, .bool n, .int .u64 (M.hiN s : Int), .int .u64 (M.loN s : Int), .int .i64 q]] w fun e w' => e = .returned (.tuple #[.agg #[.int .u64 (M.hiN R : Int), .int .u64 (M.loN R : Int)], .bool ok]) ∧ Below w.heap.size w w' := by
  have Q0 : Qv w ((w.alloc (.cells #[.int .i64 c, .bool n, .int .u64 (M.hiN s : Int), .int .u64 (M.loN s : Int), .int .i64 q] 32)).alloc (.cells #[.int .u64 0, .int .u64 0] 30)) c n s q := by
    refine ⟨((Below.refl _ _).alloc (Nat.le_refl _) _).alloc (by simp) _, ⟨?_, ?_, ?_, ?_, ?_⟩, ⟨?_, ?_, ?_, ?_, ?_⟩⟩ <;> simp [go_sem, hi0, lo0]
  generalize hv0 : ((w.alloc (.cells #[.int .i64 c, .bool n, .int .u64 (M.hiN s : Int), .int .u64 (M.loN s : Int), .int .i64 q] 32)).alloc (.cells #[.int .u64 0, .int .u64 0] 30)) = v0 at *
  go_enter Tryd.func19, Tryd.ntmps19
  go_wp2_with fail
  refine (kE _ (hm.below Q0.b)).mono ?_
  rintro e v1 ⟨rfl, hb1⟩
  have Q1 := Q0.below hb1
  clear hv0 hb1 Q0 kE
  go_upto_region 2 with fail
  have bd : Below v1.heap.size v1 (v1.alloc (.cells #[.int .i64 e0, .int .i64 e1, .int .i64 e2, .int .i64 e3, .int .i64 e4, .bool e5] 23)) := (Below.refl _ _).alloc (Nat.le_refl _) _
  have Q2 := Q1.below bd
  have d0 : (v1.alloc (.cells #[.int .i64 e0, .int .i64 e1, .int .i64 e2, .int .i64 e3, .int .i64 e4, .bool e5] 23)).cell? ⟨v1.heap.size, 0, none⟩ = some (.int .i64 e0) ∧ (v1.alloc (.cells #[.int .i64 e0, .int .i64 e1, .int .i64 e2, .int .i64 e3, .int .i64 e4, .bool e5] 23)).cell? ⟨v1.heap.size, 1, none⟩ = some (.int .i64 e1) ∧ (v1.alloc (.cells #[.int .i64 e0, .int .i64 e1, .int .i64 e2, .int .i64 e3, .int .i64 e4, .bool e5] 23)).cell? ⟨v1.heap.size, 2, none⟩ = some (.int .i64 e2) ∧ (v1.alloc (.cells #[.int .i64 e0, .int .i64 e1, .int .i64 e2, .int .i64 e3, .int .i64 e4, .bool e5] 23)).cell? ⟨v1.heap.size, 3, none⟩ = some (.int .i64 e3) ∧ (v1.alloc (.cells #[.int .i64 e0, .int .i64 e1, .int .i64 e2, .int .i64 e3, .int .i64 e4, .bool e5] 23)).cell? ⟨v1.heap.size, 4, none⟩ = some (.int .i64 e4) ∧ (v1.alloc (.cells #[.int .i64 e0, .int .i64 e1, .int .i64 e2, .int .i64 e3, .int .i64 e4, .bool e5] 23)).cell? ⟨v1.heap.size, 5, none⟩ = some (.bool e5) := by refine ⟨?_, ?_, ?_, ?_, ?_, ?_⟩ <;> simp [go_sem]
  have ld : v1.heap.size < (v1.alloc (.cells #[.int .i64 e0, .int .i64 e1, .int .i64 e2, .int .i64 e3, .int .i64 e4, .bool e5] 23)).heap.size := by simp
  clear bd Q1
  generalize (v1.alloc (.cells #[.int .i64 e0, .int .i64 e1, .int .i64 e2, .int .i64 e3, .int .i64 e4, .bool e5] 23)) = v2 at *
  generalize v1.heap.size = gd at *
  have DB : ∀ v, Below v2.heap.size v2 v → v.cell? ⟨gd, 0, none⟩ = some (.int .i64 e0) ∧ v.cell? ⟨gd, 1, none⟩ = some (.int .i64 e1) ∧ v.cell? ⟨gd, 2, none⟩ = some (.int .i64 e2) ∧ v.cell? ⟨gd, 3, none⟩ = some (.int .i64 e3) ∧ v.cell? ⟨gd, 4, none⟩ = some (.int .i64 e4) ∧ v.cell? ⟨gd, 5, none⟩ = some (.bool e5) := fun v hv => by
    obtain ⟨d0, d1, d2, d3, d4, d5⟩ := d0
    exact ⟨(hv.cell ld).trans d0, (hv.cell ld).trans d1, (hv.cell ld).trans d2, (hv.cell ld).trans d3, (hv.cell ld).trans d4, (hv.cell ld).trans d5⟩
  obtain ⟨i0, i1, i2, i3, i4, i5⟩ := id d0
  go_wp2_with fail
  refine (kK _).mono ?_
  rintro e va ⟨rfl, hba⟩
  obtain ⟨j0, j1, j2, j3, j4, j5⟩ := DB _ hba
  obtain ⟨p0, p1, p2, p3, p4⟩ := (Q2.below hba).p
  clear i0 i1 i2 i3 i4 i5
  go_wp2_with fail
  refine (kP _).mono ?_
  rintro e v3 ⟨rfl, hb3⟩
  have hb4 := keepC (w1 := v2) hba hb3
  clear j0 j1 j2 j3 j4 j5 p0 p1 p2 p3 p4 hba hb3 kP kK
  go_upto_region 5 with fail
  have bw : Below v2.heap.size v2 (v3.alloc (.cells #[.int .u64 (M.hiN X : Int), .int .u64 (M.loN X : Int)] 30)) := keepAl2 hb4 _
  have Q3 := Q2.below bw
  have D3 := DB _ bw
  have w3 : (v3.alloc (.cells #[.int .u64 (M.hiN X : Int), .int .u64 (M.loN X : Int)] 30)).cell? ⟨v3.heap.size, 0, none⟩ = some (.int .u64 (M.hiN X : Int)) ∧ (v3.alloc (.cells #[.int .u64 (M.hiN X : Int), .int .u64 (M.loN X : Int)] 30)).cell? ⟨v3.heap.size, 1, none⟩ = some (.int .u64 (M.loN X : Int)) := by refine ⟨?_, ?_⟩ <;> simp [go_sem]
  have lw : v3.heap.size < (v3.alloc (.cells #[.int .u64 (M.hiN X : Int), .int .u64 (M.loN X : Int)] 30)).heap.size := by simp
  have ldw : gd < (v3.alloc (.cells #[.int .u64 (M.hiN X : Int), .int .u64 (M.loN X : Int)] 30)).heap.size := Nat.lt_of_lt_of_le ld bw.size
  have lpw : w.heap.size < (v3.alloc (.cells #[.int .u64 (M.hiN X : Int), .int .u64 (M.loN X : Int)] 30)).heap.size := Nat.lt_trans (Nat.lt_succ_self _) Q3.r.2.2.2.2
  clear DB d0 Q2 hb4 bw ld
  generalize (v3.alloc (.cells #[.int .u64 (M.hiN X : Int), .int .u64 (M.loN X : Int)] 30)) = v4 at *
  generalize v3.heap.size = gw at *
  have KB : ∀ v, Below v4.heap.size v4 v → (fun v => v.cell? ⟨gd, 0, none⟩ = some (.int .i64 e0) ∧ v.cell? ⟨gd, 1, none⟩ = some (.int .i64 e1) ∧ v.cell? ⟨gd, 2, none⟩ = some (.int .i64 e2) ∧ v.cell? ⟨gd, 3, none⟩ = some (.int .i64 e3) ∧ v.cell? ⟨gd, 4, none⟩ = some (.int .i64 e4) ∧ v.cell? ⟨gd, 5, none⟩ = some (.bool e5) ∧ v.cell? ⟨gw, 0, none⟩ = some (.int .u64 (M.hiN X : Int)) ∧ v.cell? ⟨gw, 1, none⟩ = some (.int .u64 (M.loN X : Int)) ∧ v.cell? ⟨w.heap.size, 0, none⟩ = some (.int .i64 c) ∧ v.cell? ⟨w.heap.size, 1, none⟩ = some (.bool n) ∧ v.cell? ⟨w.heap.size, 2, none⟩ = some (.int .u64 (M.hiN s : Int)) ∧ v.cell? ⟨w.heap.size, 3, none⟩ = some (.int .u64 (M.loN s : Int)) ∧ v.cell? ⟨w.heap.size, 4, none⟩ = some (.int .i64 q)) v := fun v hv => by
    obtain ⟨d0, d1, d2, d3, d4, d5⟩ := D3
    obtain ⟨x0, x1⟩ := w3
    obtain ⟨p0, p1, p2, p3, p4⟩ := Q3.p
    exact ⟨(hv.cell ldw).trans d0, (hv.cell ldw).trans d1, (hv.cell ldw).trans d2, (hv.cell ldw).trans d3, (hv.cell ldw).trans d4, (hv.cell ldw).trans d5, (hv.cell lw).trans x0, (hv.cell lw).trans x1, (hv.cell lpw).trans p0, (hv.cell lpw).trans p1, (hv.cell lpw).trans p2, (hv.cell lpw).trans p3, (hv.cell lpw).trans p4⟩
  have A0 : Below v4.heap.size v4 v4.drew := (Below.refl _ _).drew
  clear D3 w3
  go_cut [21] (fun z wx => (∃ bq, z = .bool bq ∧ (bq = true ↔ ¬ (T.c = c ∧ T.n = n ∧ (M.hiN T.s : Int) = (M.hiN s : Int) ∧ (M.loN T.s : Int) = (M.loN s : Int) ∧ T.q = q))) ∧ Below v4.heap.size v4 wx)
  case first =>
    clear hR1 hR2
    by_cases h1 : T.c = c
    · by_cases h2 : T.n = n
      · by_cases h3 : (M.hiN T.s : Int) = (M.hiN s : Int)
        · by_cases h4 : (M.loN T.s : Int) = (M.loN s : Int)
          · by_cases h5 : T.q = q
            · go_region_held3 (fun v => v.cell? ⟨gd, 0, none⟩ = some (.int .i64 e0) ∧ v.cell? ⟨gd, 1, none⟩ = some (.int .i64 e1) ∧ v.cell? ⟨gd, 2, none⟩ = some (.int .i64 e2) ∧ v.cell? ⟨gd, 3, none⟩ = some (.int .i64 e3) ∧ v.cell? ⟨gd, 4, none⟩ = some (.int .i64 e4) ∧ v.cell? ⟨gd, 5, none⟩ = some (.bool e5) ∧ v.cell? ⟨gw, 0, none⟩ = some (.int .u64 (M.hiN X : Int)) ∧ v.cell? ⟨gw, 1, none⟩ = some (.int .u64 (M.loN X : Int)) ∧ v.cell? ⟨w.heap.size, 0, none⟩ = some (.int .i64 c) ∧ v.cell? ⟨w.heap.size, 1, none⟩ = some (.bool n) ∧ v.cell? ⟨w.heap.size, 2, none⟩ = some (.int .u64 (M.hiN s : Int)) ∧ v.cell? ⟨w.heap.size, 3, none⟩ = some (.int .u64 (M.loN s : Int)) ∧ v.cell? ⟨w.heap.size, 4, none⟩ = some (.int .i64 q)) (first | with_reducible exact KB _ hb5 | with_reducible exact KB _ A0)
                (first | (go_at_call 31; refine (kU _).mono ?_; rintro e u5 ⟨rfl, hb0⟩; have hb5 := keepC (w1 := v4) A0 hb0; clear hb0))
              all_goals go_wp2_with fail
              all_goals go_meet
              all_goals exact ⟨⟨_, rfl, by simp [h1, h2, h3, h4, h5]⟩, hb5⟩
            · go_region_held3 (fun v => v.cell? ⟨gd, 0, none⟩ = some (.int .i64 e0) ∧ v.cell? ⟨gd, 1, none⟩ = some (.int .i64 e1) ∧ v.cell? ⟨gd, 2, none⟩ = some (.int .i64 e2) ∧ v.cell? ⟨gd, 3, none⟩ = some (.int .i64 e3) ∧ v.cell? ⟨gd, 4, none⟩ = some (.int .i64 e4) ∧ v.cell? ⟨gd, 5, none⟩ = some (.bool e5) ∧ v.cell? ⟨gw, 0, none⟩ = some (.int .u64 (M.hiN X : Int)) ∧ v.cell? ⟨gw, 1, none⟩ = some (.int .u64 (M.loN X : Int)) ∧ v.cell? ⟨w.heap.size, 0, none⟩ = some (.int .i64 c) ∧ v.cell? ⟨w.heap.size, 1, none⟩ = some (.bool n) ∧ v.cell? ⟨w.heap.size, 2, none⟩ = some (.int .u64 (M.hiN s : Int)) ∧ v.cell? ⟨w.heap.size, 3, none⟩ = some (.int .u64 (M.loN s : Int)) ∧ v.cell? ⟨w.heap.size, 4, none⟩ = some (.int .i64 q)) (first | with_reducible exact KB _ hb5 | with_reducible exact KB _ A0)
                (first | (go_at_call 31; refine (kU _).mono ?_; rintro e u5 ⟨rfl, hb0⟩; have hb5 := keepC (w1 := v4) A0 hb0; clear hb0))
              all_goals go_wp2_with fail
              all_goals go_meet
              all_goals exact ⟨⟨_, rfl, by simp [h1, h2, h3, h4, h5]⟩, hb5⟩
          · go_region_held3 (fun v => v.cell? ⟨gd, 0, none⟩ = some (.int .i64 e0) ∧ v.cell? ⟨gd, 1, none⟩ = some (.int .i64 e1) ∧ v.cell? ⟨gd, 2, none⟩ = some (.int .i64 e2) ∧ v.cell? ⟨gd, 3, none⟩ = some (.int .i64 e3) ∧ v.cell? ⟨gd, 4, none⟩ = some (.int .i64 e4) ∧ v.cell? ⟨gd, 5, none⟩ = some (.bool e5) ∧ v.cell? ⟨gw, 0, none⟩ = some (.int .u64 (M.hiN X : Int)) ∧ v.cell? ⟨gw, 1, none⟩ = some (.int .u64 (M.loN X : Int)) ∧ v.cell? ⟨w.heap.size, 0, none⟩ = some (.int .i64 c) ∧ v.cell? ⟨w.heap.size, 1, none⟩ = some (.bool n) ∧ v.cell? ⟨w.heap.size, 2, none⟩ = some (.int .u64 (M.hiN s : Int)) ∧ v.cell? ⟨w.heap.size, 3, none⟩ = some (.int .u64 (M.loN s : Int)) ∧ v.cell? ⟨w.heap.size, 4, none⟩ = some (.int .i64 q)) (first | with_reducible exact KB _ hb5 | with_reducible exact KB _ A0)
              (first | (go_at_call 31; refine (kU _).mono ?_; rintro e u5 ⟨rfl, hb0⟩; have hb5 := keepC (w1 := v4) A0 hb0; clear hb0))
            all_goals go_wp2_with fail
            all_goals go_meet
            all_goals exact ⟨⟨_, rfl, by simp [h1, h2, h3, h4]⟩, hb5⟩
        · go_region_held3 (fun v => v.cell? ⟨gd, 0, none⟩ = some (.int .i64 e0) ∧ v.cell? ⟨gd, 1, none⟩ = some (.int .i64 e1) ∧ v.cell? ⟨gd, 2, none⟩ = some (.int .i64 e2) ∧ v.cell? ⟨gd, 3, none⟩ = some (.int .i64 e3) ∧ v.cell? ⟨gd, 4, none⟩ = some (.int .i64 e4) ∧ v.cell? ⟨gd, 5, none⟩ = some (.bool e5) ∧ v.cell? ⟨gw, 0, none⟩ = some (.int .u64 (M.hiN X : Int)) ∧ v.cell? ⟨gw, 1, none⟩ = some (.int .u64 (M.loN X : Int)) ∧ v.cell? ⟨w.heap.size, 0, none⟩ = some (.int .i64 c) ∧ v.cell? ⟨w.heap.size, 1, none⟩ = some (.bool n) ∧ v.cell? ⟨w.heap.size, 2, none⟩ = some (.int .u64 (M.hiN s : Int)) ∧ v.cell? ⟨w.heap.size, 3, none⟩ = some (.int .u64 (M.loN s : Int)) ∧ v.cell? ⟨w.heap.size, 4, none⟩ = some (.int .i64 q)) (first | with_reducible exact KB _ hb5 | with_reducible exact KB _ A0)
            (first | (go_at_call 31; refine (kU _).mono ?_; rintro e u5 ⟨rfl, hb0⟩; have hb5 := keepC (w1 := v4) A0 hb0; clear hb0))
          all_goals go_wp2_with fail
          all_goals go_meet
          all_goals exact ⟨⟨_, rfl, by simp [h1, h2, h3]⟩, hb5⟩
      · go_region_held3 (fun v => v.cell? ⟨gd, 0, none⟩ = some (.int .i64 e0) ∧ v.cell? ⟨gd, 1, none⟩ = some (.int .i64 e1) ∧ v.cell? ⟨gd, 2, none⟩ = some (.int .i64 e2) ∧ v.cell? ⟨gd, 3, none⟩ = some (.int .i64 e3) ∧ v.cell? ⟨gd, 4, none⟩ = some (.int .i64 e4) ∧ v.cell? ⟨gd, 5, none⟩ = some (.bool e5) ∧ v.cell? ⟨gw, 0, none⟩ = some (.int .u64 (M.hiN X : Int)) ∧ v.cell? ⟨gw, 1, none⟩ = some (.int .u64 (M.loN X : Int)) ∧ v.cell? ⟨w.heap.size, 0, none⟩ = some (.int .i64 c) ∧ v.cell? ⟨w.heap.size, 1, none⟩ = some (.bool n) ∧ v.cell? ⟨w.heap.size, 2, none⟩ = some (.int .u64 (M.hiN s : Int)) ∧ v.cell? ⟨w.heap.size, 3, none⟩ = some (.int .u64 (M.loN s : Int)) ∧ v.cell? ⟨w.heap.size, 4, none⟩ = some (.int .i64 q)) (first | with_reducible exact KB _ hb5 | with_reducible exact KB _ A0)
          (first | (go_at_call 31; refine (kU _).mono ?_; rintro e u5 ⟨rfl, hb0⟩; have hb5 := keepC (w1 := v4) A0 hb0; clear hb0))
        all_goals go_wp2_with fail
        all_goals go_meet
        all_goals exact ⟨⟨_, rfl, by simp [h1, h2]⟩, hb5⟩
    · go_region_held3 (fun v => v.cell? ⟨gd, 0, none⟩ = some (.int .i64 e0) ∧ v.cell? ⟨gd, 1, none⟩ = some (.int .i64 e1) ∧ v.cell? ⟨gd, 2, none⟩ = some (.int .i64 e2) ∧ v.cell? ⟨gd, 3, none⟩ = some (.int .i64 e3) ∧ v.cell? ⟨gd, 4, none⟩ = some (.int .i64 e4) ∧ v.cell? ⟨gd, 5, none⟩ = some (.bool e5) ∧ v.cell? ⟨gw, 0, none⟩ = some (.int .u64 (M.hiN X : Int)) ∧ v.cell? ⟨gw, 1, none⟩ = some (.int .u64 (M.loN X : Int)) ∧ v.cell? ⟨w.heap.size, 0, none⟩ = some (.int .i64 c) ∧ v.cell? ⟨w.heap.size, 1, none⟩ = some (.bool n) ∧ v.cell? ⟨w.heap.size, 2, none⟩ = some (.int .u64 (M.hiN s : Int)) ∧ v.cell? ⟨w.heap.size, 3, none⟩ = some (.int .u64 (M.loN s : Int)) ∧ v.cell? ⟨w.heap.size, 4, none⟩ = some (.int .i64 q)) (first | with_reducible exact KB _ hb5 | with_reducible exact KB _ A0)
        (first | (go_at_call 31; refine (kU _).mono ?_; rintro e u5 ⟨rfl, hb0⟩; have hb5 := keepC (w1 := v4) A0 hb0; clear hb0))
      all_goals go_wp2_with fail
      all_goals go_meet
      all_goals exact ⟨⟨_, rfl, by simp [h1]⟩, hb5⟩
  case rest =>
    rename World => wx
    obtain ⟨⟨bq, rfl, hbq⟩, hbx⟩ := hcut
    have Q5 := Q3.below hbx
    obtain ⟨-, -, -, -, -, -, x0, x1, -⟩ := KB _ hbx
    obtain ⟨r0, r1, r2, r3, r4⟩ := id Q5.r
    have bb := (Q5.b.setCell (p := ⟨w.heap.size + 1, 0, none⟩) (by simp only; omega) (.int .u64 (M.hiN R : Int))).setCell (p := ⟨w.heap.size + 1, 1, none⟩) (by simp only; omega) (.int .u64 (M.loN R : Int))
    cases bq
    · obtain ⟨rfl, rfl⟩ := hR1 (Classical.byContradiction fun hh => by have := hbq.2 hh; simp at this)
      clear hR1 hR2 hbq
      have HB := hid bb
      clear bb
      go_wp2_with fail
      exact bodyPost_ret (v := .tuple #[.agg #[.int .u64 (M.hiN R : Int), .int .u64 (M.loN R : Int)], .bool true]) (by simp [results, Tryd.results19, go_sem, r0, r1]) rfl ⟨rfl, HB.out⟩
    · obtain ⟨rfl, rfl⟩ := hR2 (hbq.1 rfl)
      clear hR1 hR2 hbq
      rw [hi0, lo0] at *
      have HB := hid bb
      clear bb
      go_wp2_with fail
      exact bodyPost_ret (v := .tuple #[.agg #[.int .u64 0, .int .u64 0], .bool false]) (by simp [results, Tryd.results19, go_sem, r0, r1]) rfl ⟨rfl, HB.out⟩

end Go.Proofs.YtcilemkeljcidaaDoor
