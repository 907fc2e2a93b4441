import Derived.Test.YtodgblbaclionaaGreatDoorrPk7
namespace Go.Proofs.YtodgblbaclionaaGreatDoor

open Go.RowKit

set_option linter.unusedVariables false
set_option maxRecDepth 100000

set_option maxRecDepth 10000 in
set_option maxHeartbeats 8000000 in
theorem spack3a (f : Int) (n : Bool) (s : Nat) (q : Int) (hs : s < 2 ^ 128) (e0 e1 e2 e3 e4 : Int) (e5 : Bool) (he0 : e0 ≠ 0) (w : World) (E : Int) (hE : wrap64 (wrap64 (wrap64 (q + e2) + e0) - 1) = E) (b : Nat) (kBt : ∀ (v : World) (ao : Option Addr) (c : Nat), Rd v ao (D s) → Calls Tryz.prog 21 #[.slice ao (D s).length c] v fun e w' => e = .returned (.int .i64 (b : Int)) ∧ w' = v) (hb : ¬ (b : Int) = e0)
    (kE : ∀ v : World, Calls Tryz.prog 19 #[.int .i64 f] v fun e w' => e = .returned (.agg #[.int .i64 e0, .int .i64 e1, .int .i64 e2, .int .i64 e3, .int .i64 e4, .bool e5]) ∧ Below v.heap.size v w') :
    Calls Tryz.prog 36 #[.int .i64 f, .agg #[.int .i64 3, .bool n, .int .u64 (M.hiN s : Int), .int .u64 (M.loN s : Int), .int .i64 q]] w fun e w' => e = .returned (.tuple #[.agg #[.int .u64 0, .int .u64 0], .bool false]) ∧ Below w.heap.size w w' := by
  have Q0 : Qv w ((w.alloc (.cells #[.int .i64 3, .bool n, .int .u64 (M.hiN s : Int), .int .u64 (M.loN s : Int), .int .i64 q] 29)).alloc (.cells #[.int .u64 0, .int .u64 0] 25)) 3 n s q := by
    refine ⟨((Below.refl _ _).alloc (Nat.le_refl _) _).alloc (by simp) _, ⟨?_, ?_, ?_, ?_, ?_⟩, ⟨?_, ?_, ?_, ?_, ?_⟩⟩ <;> simp [go_sem, hi0, lo0]
  generalize hv0 : ((w.alloc (.cells #[.int .i64 3, .bool n, .int .u64 (M.hiN s : Int), .int .u64 (M.loN s : Int), .int .i64 q] 29)).alloc (.cells #[.int .u64 0, .int .u64 0] 25)) = v0 at *
  have hz0 : (e0 == 0) = false := by simp [he0]
  go_enter Tryz.func36, Tryz.ntmps36
  go_wp2_with fail
  refine (kE _).mono ?_
  rintro e v1 ⟨rfl, hb1⟩
  have Q1 := Q0.below hb1
  clear hv0 hb1 Q0 kE
  go_upto_region 2 with fail
  have bd : Below v1.heap.size v1 (v1.alloc (.cells #[.int .i64 e0, .int .i64 e1, .int .i64 e2, .int .i64 e3, .int .i64 e4, .bool e5] 47)) := (Below.refl _ _).alloc (Nat.le_refl _) _
  have Q2 := Q1.below bd
  have d0 : (v1.alloc (.cells #[.int .i64 e0, .int .i64 e1, .int .i64 e2, .int .i64 e3, .int .i64 e4, .bool e5] 47)).cell? ⟨v1.heap.size, 0, none⟩ = some (.int .i64 e0) ∧ (v1.alloc (.cells #[.int .i64 e0, .int .i64 e1, .int .i64 e2, .int .i64 e3, .int .i64 e4, .bool e5] 47)).cell? ⟨v1.heap.size, 1, none⟩ = some (.int .i64 e1) ∧ (v1.alloc (.cells #[.int .i64 e0, .int .i64 e1, .int .i64 e2, .int .i64 e3, .int .i64 e4, .bool e5] 47)).cell? ⟨v1.heap.size, 2, none⟩ = some (.int .i64 e2) ∧ (v1.alloc (.cells #[.int .i64 e0, .int .i64 e1, .int .i64 e2, .int .i64 e3, .int .i64 e4, .bool e5] 47)).cell? ⟨v1.heap.size, 3, none⟩ = some (.int .i64 e3) ∧ (v1.alloc (.cells #[.int .i64 e0, .int .i64 e1, .int .i64 e2, .int .i64 e3, .int .i64 e4, .bool e5] 47)).cell? ⟨v1.heap.size, 4, none⟩ = some (.int .i64 e4) ∧ (v1.alloc (.cells #[.int .i64 e0, .int .i64 e1, .int .i64 e2, .int .i64 e3, .int .i64 e4, .bool e5] 47)).cell? ⟨v1.heap.size, 5, none⟩ = some (.bool e5) := by refine ⟨?_, ?_, ?_, ?_, ?_, ?_⟩ <;> simp [go_sem]
  have ld : v1.heap.size < (v1.alloc (.cells #[.int .i64 e0, .int .i64 e1, .int .i64 e2, .int .i64 e3, .int .i64 e4, .bool e5] 47)).heap.size := by simp
  clear bd Q1
  generalize (v1.alloc (.cells #[.int .i64 e0, .int .i64 e1, .int .i64 e2, .int .i64 e3, .int .i64 e4, .bool e5] 47)) = v2 at *
  generalize v1.heap.size = gd at *
  obtain ⟨i0, i1, i2, i3, i4, i5⟩ := id d0
  go_upto_region 5 with fail
  have DB : ∀ v, Below v2.heap.size v2 v → v.cell? ⟨gd, 0, none⟩ = some (.int .i64 e0) ∧ v.cell? ⟨gd, 1, none⟩ = some (.int .i64 e1) ∧ v.cell? ⟨gd, 2, none⟩ = some (.int .i64 e2) ∧ v.cell? ⟨gd, 3, none⟩ = some (.int .i64 e3) ∧ v.cell? ⟨gd, 4, none⟩ = some (.int .i64 e4) ∧ v.cell? ⟨gd, 5, none⟩ = some (.bool e5) := fun v hv => by
    obtain ⟨d0, d1, d2, d3, d4, d5⟩ := d0
    exact ⟨(hv.cell ld).trans d0, (hv.cell ld).trans d1, (hv.cell ld).trans d2, (hv.cell ld).trans d3, (hv.cell ld).trans d4, (hv.cell ld).trans d5⟩
  have b3 : Below v2.heap.size v2 (v2.alloc (.cells #[.int .u64 0, .int .u64 0] 25)) := keepAl2 (Below.refl _ _) _
  have W3 := W2_zero v2
  have Q3 := Q2.below b3
  have lg : w.heap.size + 1 < v2.heap.size := Q2.r.2.2.2.2
  clear i0 i1 i2 i3 i4 i5
  obtain ⟨gw, hgw⟩ : ∃ gw, gw = v2.heap.size := ⟨_, rfl⟩
  rw [← hgw] at W3 lg ld ⊢
  generalize v2.alloc (.cells #[.int .u64 0, .int .u64 0] 25) = v3 at *
  have D3 := DB _ b3
  have ld3 : gd < v3.heap.size := Nat.lt_of_lt_of_le ld (by have := b3.size; omega)
  clear DB d0 Q2 b3 hgw
  obtain ⟨p0, p1, p2, p3, p4⟩ := id Q3.p
  go_wp2_with fail
  refine (l2Of_any s hs _).mono ?_
  rintro e v4 ⟨sa, sc, rfl, hso, hb4⟩
  have DC : ∀ v, Below v3.heap.size v3 v → v.cell? ⟨gd, 0, none⟩ = some (.int .i64 e0) ∧ v.cell? ⟨gd, 1, none⟩ = some (.int .i64 e1) ∧ v.cell? ⟨gd, 2, none⟩ = some (.int .i64 e2) ∧ v.cell? ⟨gd, 3, none⟩ = some (.int .i64 e3) ∧ v.cell? ⟨gd, 4, none⟩ = some (.int .i64 e4) ∧ v.cell? ⟨gd, 5, none⟩ = some (.bool e5) := fun v hv => by
    obtain ⟨d0, d1, d2, d3, d4, d5⟩ := D3
    exact ⟨(hv.cell ld3).trans d0, (hv.cell ld3).trans d1, (hv.cell ld3).trans d2, (hv.cell ld3).trans d3, (hv.cell ld3).trans d4, (hv.cell ld3).trans d5⟩
  have Q4 := Q3.below hb4
  have W4 := W3.below hb4
  have D4 := DC _ hb4
  have rS := Rd.own hso
  have ld4 : gd < v4.heap.size := Nat.lt_of_lt_of_le ld3 hb4.size
  clear p0 p1 p2 p3 p4 D3 DC Q3 W3 hb4 ld3
  obtain ⟨p0, p1, p2, p3, p4⟩ := id Q4.p
  obtain ⟨d0, d1, d2, d3, d4, d5⟩ := id D4
  go_upto_region 20 with fail
  clear p0 p1 p2 p3 p4
  go_quiet ((go_at_call 21; exact Calls.quiet_of_same (kBt _ sa sc (Rd.drewN rS _))))
  clear d0 d1 d2 d3 d4 d5
  have A0 : Below v4.heap.size v4 (v4.drewN nq) := ⟨rfl, rfl, rfl, Nat.le_refl _, fun _ _ => rfl⟩
  replace Q4 := Q4.below A0
  clear W4 rS D4 ld4 A0
  generalize v4.drewN nq = vd at *
  obtain ⟨r0, r1, r2, r3, r4⟩ := id Q4.r
  have bb := (Q4.b.setCell (p := ⟨w.heap.size + 1, 0, none⟩) (by simp only; omega) (.int .u64 0)).setCell (p := ⟨w.heap.size + 1, 1, none⟩) (by simp only; omega) (.int .u64 0)
  have HB := hid bb
  clear bb
  go_wp2_with fail
  exact bodyPost_ret (v := .tuple #[.agg #[.int .u64 0, .int .u64 0], .bool false]) (by simp [results, Tryz.results36, go_sem, r0, r1]) rfl ⟨rfl, HB.out⟩

set_option maxRecDepth 10000 in
set_option maxHeartbeats 8000000 in
theorem spack3b (f : Int) (n : Bool) (s : Nat) (q : Int) (hs : s < 2 ^ 128) (e0 e1 e2 e3 e4 : Int) (e5 : Bool) (he0 : e0 ≠ 0) (w : World) (E : Int) (hE : wrap64 (wrap64 (wrap64 (q + e2) + e0) - 1) = E) (kBt : ∀ (v : World) (ao : Option Addr) (c : Nat), Rd v ao (D s) → Calls Tryz.prog 21 #[.slice ao (D s).length c] v fun e w' => e = .returned (.int .i64 e0) ∧ w' = v) (hlo : E < 1)
    (kE : ∀ v : World, Calls Tryz.prog 19 #[.int .i64 f] v fun e w' => e = .returned (.agg #[.int .i64 e0, .int .i64 e1, .int .i64 e2, .int .i64 e3, .int .i64 e4, .bool e5]) ∧ Below v.heap.size v w') :
    Calls Tryz.prog 36 #[.int .i64 f, .agg #[.int .i64 3, .bool n, .int .u64 (M.hiN s : Int), .int .u64 (M.loN s : Int), .int .i64 q]] w fun e w' => e = .returned (.tuple #[.agg #[.int .u64 0, .int .u64 0], .bool false]) ∧ Below w.heap.size w w' := by
  have Q0 : Qv w ((w.alloc (.cells #[.int .i64 3, .bool n, .int .u64 (M.hiN s : Int), .int .u64 (M.loN s : Int), .int .i64 q] 29)).alloc (.cells #[.int .u64 0, .int .u64 0] 25)) 3 n s q := by
    refine ⟨((Below.refl _ _).alloc (Nat.le_refl _) _).alloc (by simp) _, ⟨?_, ?_, ?_, ?_, ?_⟩, ⟨?_, ?_, ?_, ?_, ?_⟩⟩ <;> simp [go_sem, hi0, lo0]
  generalize hv0 : ((w.alloc (.cells #[.int .i64 3, .bool n, .int .u64 (M.hiN s : Int), .int .u64 (M.loN s : Int), .int .i64 q] 29)).alloc (.cells #[.int .u64 0, .int .u64 0] 25)) = v0 at *
  have hz0 : (e0 == 0) = false := by simp [he0]
  go_enter Tryz.func36, Tryz.ntmps36
  go_wp2_with fail
  refine (kE _).mono ?_
  rintro e v1 ⟨rfl, hb1⟩
  have Q1 := Q0.below hb1
  clear hv0 hb1 Q0 kE
  go_upto_region 2 with fail
  have bd : Below v1.heap.size v1 (v1.alloc (.cells #[.int .i64 e0, .int .i64 e1, .int .i64 e2, .int .i64 e3, .int .i64 e4, .bool e5] 47)) := (Below.refl _ _).alloc (Nat.le_refl _) _
  have Q2 := Q1.below bd
  have d0 : (v1.alloc (.cells #[.int .i64 e0, .int .i64 e1, .int .i64 e2, .int .i64 e3, .int .i64 e4, .bool e5] 47)).cell? ⟨v1.heap.size, 0, none⟩ = some (.int .i64 e0) ∧ (v1.alloc (.cells #[.int .i64 e0, .int .i64 e1, .int .i64 e2, .int .i64 e3, .int .i64 e4, .bool e5] 47)).cell? ⟨v1.heap.size, 1, none⟩ = some (.int .i64 e1) ∧ (v1.alloc (.cells #[.int .i64 e0, .int .i64 e1, .int .i64 e2, .int .i64 e3, .int .i64 e4, .bool e5] 47)).cell? ⟨v1.heap.size, 2, none⟩ = some (.int .i64 e2) ∧ (v1.alloc (.cells #[.int .i64 e0, .int .i64 e1, .int .i64 e2, .int .i64 e3, .int .i64 e4, .bool e5] 47)).cell? ⟨v1.heap.size, 3, none⟩ = some (.int .i64 e3) ∧ (v1.alloc (.cells #[.int .i64 e0, .int .i64 e1, .int .i64 e2, .int .i64 e3, .int .i64 e4, .bool e5] 47)).cell? ⟨v1.heap.size, 4, none⟩ = some (.int .i64 e4) ∧ (v1.alloc (.cells #[.int .i64 e0, .int .i64 e1, .int .i64 e2, .int .i64 e3, .int .i64 e4, .bool e5] 47)).cell? ⟨v1.heap.size, 5, none⟩ = some (.bool e5) := by refine ⟨?_, ?_, ?_, ?_, ?_, ?_⟩ <;> simp [go_sem]
  have ld : v1.heap.size < (v1.alloc (.cells #[.int .i64 e0, .int .i64 e1, .int .i64 e2, .int .i64 e3, .int .i64 e4, .bool e5] 47)).heap.size := by simp
  clear bd Q1
  generalize (v1.alloc (.cells #[.int .i64 e0, .int .i64 e1, .int .i64 e2, .int .i64 e3, .int .i64 e4, .bool e5] 47)) = v2 at *
  generalize v1.heap.size = gd at *
  obtain ⟨i0, i1, i2, i3, i4, i5⟩ := id d0
  go_upto_region 5 with fail
  have DB : ∀ v, Below v2.heap.size v2 v → v.cell? ⟨gd, 0, none⟩ = some (.int .i64 e0) ∧ v.cell? ⟨gd, 1, none⟩ = some (.int .i64 e1) ∧ v.cell? ⟨gd, 2, none⟩ = some (.int .i64 e2) ∧ v.cell? ⟨gd, 3, none⟩ = some (.int .i64 e3) ∧ v.cell? ⟨gd, 4, none⟩ = some (.int .i64 e4) ∧ v.cell? ⟨gd, 5, none⟩ = some (.bool e5) := fun v hv => by
    obtain ⟨d0, d1, d2, d3, d4, d5⟩ := d0
    exact ⟨(hv.cell ld).trans d0, (hv.cell ld).trans d1, (hv.cell ld).trans d2, (hv.cell ld).trans d3, (hv.cell ld).trans d4, (hv.cell ld).trans d5⟩
  have b3 : Below v2.heap.size v2 (v2.alloc (.cells #[.int .u64 0, .int .u64 0] 25)) := keepAl2 (Below.refl _ _) _
  have W3 := W2_zero v2
  have Q3 := Q2.below b3
  have lg : w.heap.size + 1 < v2.heap.size := Q2.r.2.2.2.2
  clear i0 i1 i2 i3 i4 i5
  obtain ⟨gw, hgw⟩ : ∃ gw, gw = v2.heap.size := ⟨_, rfl⟩
  rw [← hgw] at W3 lg ld ⊢
  generalize v2.alloc (.cells #[.int .u64 0, .int .u64 0] 25) = v3 at *
  have D3 := DB _ b3
  have ld3 : gd < v3.heap.size := Nat.lt_of_lt_of_le ld (by have := b3.size; omega)
  clear DB d0 Q2 b3 hgw
  obtain ⟨p0, p1, p2, p3, p4⟩ := id Q3.p
  go_wp2_with fail
  refine (l2Of_any s hs _).mono ?_
  rintro e v4 ⟨sa, sc, rfl, hso, hb4⟩
  have DC : ∀ v, Below v3.heap.size v3 v → v.cell? ⟨gd, 0, none⟩ = some (.int .i64 e0) ∧ v.cell? ⟨gd, 1, none⟩ = some (.int .i64 e1) ∧ v.cell? ⟨gd, 2, none⟩ = some (.int .i64 e2) ∧ v.cell? ⟨gd, 3, none⟩ = some (.int .i64 e3) ∧ v.cell? ⟨gd, 4, none⟩ = some (.int .i64 e4) ∧ v.cell? ⟨gd, 5, none⟩ = some (.bool e5) := fun v hv => by
    obtain ⟨d0, d1, d2, d3, d4, d5⟩ := D3
    exact ⟨(hv.cell ld3).trans d0, (hv.cell ld3).trans d1, (hv.cell ld3).trans d2, (hv.cell ld3).trans d3, (hv.cell ld3).trans d4, (hv.cell ld3).trans d5⟩
  have Q4 := Q3.below hb4
  have W4 := W3.below hb4
  have D4 := DC _ hb4
  have rS := Rd.own hso
  have ld4 : gd < v4.heap.size := Nat.lt_of_lt_of_le ld3 hb4.size
  clear p0 p1 p2 p3 p4 D3 DC Q3 W3 hb4 ld3
  obtain ⟨p0, p1, p2, p3, p4⟩ := id Q4.p
  obtain ⟨d0, d1, d2, d3, d4, d5⟩ := id D4
  go_upto_region 20 with fail
  clear p0 p1 p2 p3 p4
  go_quiet ((go_at_call 21; exact Calls.quiet_of_same (kBt _ sa sc (Rd.drewN rS _))))
  clear d0 d1 d2 d3 d4 d5
  have A0 : Below v4.heap.size v4 (v4.drewN nq) := ⟨rfl, rfl, rfl, Nat.le_refl _, fun _ _ => rfl⟩
  replace Q4 := Q4.below A0
  clear W4 rS D4 ld4 A0
  generalize v4.drewN nq = vd at *
  obtain ⟨r0, r1, r2, r3, r4⟩ := id Q4.r
  have bb := (Q4.b.setCell (p := ⟨w.heap.size + 1, 0, none⟩) (by simp only; omega) (.int .u64 0)).setCell (p := ⟨w.heap.size + 1, 1, none⟩) (by simp only; omega) (.int .u64 0)
  have HB := hid bb
  clear bb
  go_wp2_with fail
  exact bodyPost_ret (v := .tuple #[.agg #[.int .u64 0, .int .u64 0], .bool false]) (by simp [results, Tryz.results36, go_sem, r0, r1]) rfl ⟨rfl, HB.out⟩

set_option maxRecDepth 10000 in
set_option maxHeartbeats 8000000 in
theorem spack3c (f : Int) (n : Bool) (s : Nat) (q : Int) (hs : s < 2 ^ 128) (e0 e1 e2 e3 e4 : Int) (e5 : Bool) (he0 : e0 ≠ 0) (w : World) (E : Int) (hE : wrap64 (wrap64 (wrap64 (q + e2) + e0) - 1) = E) (kBt : ∀ (v : World) (ao : Option Addr) (c : Nat), Rd v ao (D s) → Calls Tryz.prog 21 #[.slice ao (D s).length c] v fun e w' => e = .returned (.int .i64 e0) ∧ w' = v) (hlo : ¬ E < 1) (tp : Int) (kT : ∀ v : World, Calls Tryz.prog 70 #[.agg #[.int .i64 e0, .int .i64 e1, .int .i64 e2, .int .i64 e3, .int .i64 e4, .bool e5]] v fun e w' => e = .returned (.int .i64 tp) ∧ Below v.heap.size v w') (hhi : tp ≤ E)
    (kE : ∀ v : World, Calls Tryz.prog 19 #[.int .i64 f] v fun e w' => e = .returned (.agg #[.int .i64 e0, .int .i64 e1, .int .i64 e2, .int .i64 e3, .int .i64 e4, .bool e5]) ∧ Below v.heap.size v w') :
    Calls Tryz.prog 36 #[.int .i64 f, .agg #[.int .i64 3, .bool n, .int .u64 (M.hiN s : Int), .int .u64 (M.loN s : Int), .int .i64 q]] w fun e w' => e = .returned (.tuple #[.agg #[.int .u64 0, .int .u64 0], .bool false]) ∧ Below w.heap.size w w' := by
  have Q0 : Qv w ((w.alloc (.cells #[.int .i64 3, .bool n, .int .u64 (M.hiN s : Int), .int .u64 (M.loN s : Int), .int .i64 q] 29)).alloc (.cells #[.int .u64 0, .int .u64 0] 25)) 3 n s q := by
    refine ⟨((Below.refl _ _).alloc (Nat.le_refl _) _).alloc (by simp) _, ⟨?_, ?_, ?_, ?_, ?_⟩, ⟨?_, ?_, ?_, ?_, ?_⟩⟩ <;> simp [go_sem, hi0, lo0]
  generalize hv0 : ((w.alloc (.cells #[.int .i64 3, .bool n, .int .u64 (M.hiN s : Int), .int .u64 (M.loN s : Int), .int .i64 q] 29)).alloc (.cells #[.int .u64 0, .int .u64 0] 25)) = v0 at *
  have hz0 : (e0 == 0) = false := by simp [he0]
  go_enter Tryz.func36, Tryz.ntmps36
  go_wp2_with fail
  refine (kE _).mono ?_
  rintro e v1 ⟨rfl, hb1⟩
  have Q1 := Q0.below hb1
  clear hv0 hb1 Q0 kE
  go_upto_region 2 with fail
  have bd : Below v1.heap.size v1 (v1.alloc (.cells #[.int .i64 e0, .int .i64 e1, .int .i64 e2, .int .i64 e3, .int .i64 e4, .bool e5] 47)) := (Below.refl _ _).alloc (Nat.le_refl _) _
  have Q2 := Q1.below bd
  have d0 : (v1.alloc (.cells #[.int .i64 e0, .int .i64 e1, .int .i64 e2, .int .i64 e3, .int .i64 e4, .bool e5] 47)).cell? ⟨v1.heap.size, 0, none⟩ = some (.int .i64 e0) ∧ (v1.alloc (.cells #[.int .i64 e0, .int .i64 e1, .int .i64 e2, .int .i64 e3, .int .i64 e4, .bool e5] 47)).cell? ⟨v1.heap.size, 1, none⟩ = some (.int .i64 e1) ∧ (v1.alloc (.cells #[.int .i64 e0, .int .i64 e1, .int .i64 e2, .int .i64 e3, .int .i64 e4, .bool e5] 47)).cell? ⟨v1.heap.size, 2, none⟩ = some (.int .i64 e2) ∧ (v1.alloc (.cells #[.int .i64 e0, .int .i64 e1, .int .i64 e2, .int .i64 e3, .int .i64 e4, .bool e5] 47)).cell? ⟨v1.heap.size, 3, none⟩ = some (.int .i64 e3) ∧ (v1.alloc (.cells #[.int .i64 e0, .int .i64 e1, .int .i64 e2, .int .i64 e3, .int .i64 e4, .bool e5] 47)).cell? ⟨v1.heap.size, 4, none⟩ = some (.int .i64 e4) ∧ (v1.alloc (.cells #[.int .i64 e0, .int .i64 e1, .int .i64 e2, .int .i64 e3, .int .i64 e4, .bool e5] 47)).cell? ⟨v1.heap.size, 5, none⟩ = some (.bool e5) := by refine ⟨?_, ?_, ?_, ?_, ?_, ?_⟩ <;> simp [go_sem]
  have ld : v1.heap.size < (v1.alloc (.cells #[.int .i64 e0, .int .i64 e1, .int .i64 e2, .int .i64 e3, .int .i64 e4, .bool e5] 47)).heap.size := by simp
  clear bd Q1
  generalize (v1.alloc (.cells #[.int .i64 e0, .int .i64 e1, .int .i64 e2, .int .i64 e3, .int .i64 e4, .bool e5] 47)) = v2 at *
  generalize v1.heap.size = gd at *
  obtain ⟨i0, i1, i2, i3, i4, i5⟩ := id d0
  go_upto_region 5 with fail
  have DB : ∀ v, Below v2.heap.size v2 v → v.cell? ⟨gd, 0, none⟩ = some (.int .i64 e0) ∧ v.cell? ⟨gd, 1, none⟩ = some (.int .i64 e1) ∧ v.cell? ⟨gd, 2, none⟩ = some (.int .i64 e2) ∧ v.cell? ⟨gd, 3, none⟩ = some (.int .i64 e3) ∧ v.cell? ⟨gd, 4, none⟩ = some (.int .i64 e4) ∧ v.cell? ⟨gd, 5, none⟩ = some (.bool e5) := fun v hv => by
    obtain ⟨d0, d1, d2, d3, d4, d5⟩ := d0
    exact ⟨(hv.cell ld).trans d0, (hv.cell ld).trans d1, (hv.cell ld).trans d2, (hv.cell ld).trans d3, (hv.cell ld).trans d4, (hv.cell ld).trans d5⟩
  have b3 : Below v2.heap.size v2 (v2.alloc (.cells #[.int .u64 0, .int .u64 0] 25)) := keepAl2 (Below.refl _ _) _
  have W3 := W2_zero v2
  have Q3 := Q2.below b3
  have lg : w.heap.size + 1 < v2.heap.size := Q2.r.2.2.2.2
  clear i0 i1 i2 i3 i4 i5
  obtain ⟨gw, hgw⟩ : ∃ gw, gw = v2.heap.size := ⟨_, rfl⟩
  rw [← hgw] at W3 lg ld ⊢
  generalize v2.alloc (.cells #[.int .u64 0, .int .u64 0] 25) = v3 at *
  have D3 := DB _ b3
  have ld3 : gd < v3.heap.size := Nat.lt_of_lt_of_le ld (by have := b3.size; omega)
  clear DB d0 Q2 b3 hgw
  obtain ⟨p0, p1, p2, p3, p4⟩ := id Q3.p
  go_wp2_with fail
  refine (l2Of_any s hs _).mono ?_
  rintro e v4 ⟨sa, sc, rfl, hso, hb4⟩
  have DC : ∀ v, Below v3.heap.size v3 v → v.cell? ⟨gd, 0, none⟩ = some (.int .i64 e0) ∧ v.cell? ⟨gd, 1, none⟩ = some (.int .i64 e1) ∧ v.cell? ⟨gd, 2, none⟩ = some (.int .i64 e2) ∧ v.cell? ⟨gd, 3, none⟩ = some (.int .i64 e3) ∧ v.cell? ⟨gd, 4, none⟩ = some (.int .i64 e4) ∧ v.cell? ⟨gd, 5, none⟩ = some (.bool e5) := fun v hv => by
    obtain ⟨d0, d1, d2, d3, d4, d5⟩ := D3
    exact ⟨(hv.cell ld3).trans d0, (hv.cell ld3).trans d1, (hv.cell ld3).trans d2, (hv.cell ld3).trans d3, (hv.cell ld3).trans d4, (hv.cell ld3).trans d5⟩
  have Q4 := Q3.below hb4
  have W4 := W3.below hb4
  have D4 := DC _ hb4
  have rS := Rd.own hso
  have ld4 : gd < v4.heap.size := Nat.lt_of_lt_of_le ld3 hb4.size
  clear p0 p1 p2 p3 p4 D3 DC Q3 W3 hb4 ld3
  obtain ⟨p0, p1, p2, p3, p4⟩ := id Q4.p
  obtain ⟨d0, d1, d2, d3, d4, d5⟩ := id D4
  go_upto_region 20 with fail
  clear p0 p1 p2 p3 p4 d0 d1 d2 d3 d4 d5
  have A0 : Below v4.heap.size v4 v4.drew := (Below.refl _ _).drew
  have KB : ∀ v, Below v4.heap.size v4 v → (fun v => v.cell? ⟨gd, 0, none⟩ = some (.int .i64 e0) ∧ v.cell? ⟨gd, 1, none⟩ = some (.int .i64 e1) ∧ v.cell? ⟨gd, 2, none⟩ = some (.int .i64 e2) ∧ v.cell? ⟨gd, 3, none⟩ = some (.int .i64 e3) ∧ v.cell? ⟨gd, 4, none⟩ = some (.int .i64 e4) ∧ v.cell? ⟨gd, 5, none⟩ = some (.bool e5)) v := fun v hv => by
    obtain ⟨d0, d1, d2, d3, d4, d5⟩ := D4
    exact ⟨(hv.cell ld4).trans d0, (hv.cell ld4).trans d1, (hv.cell ld4).trans d2, (hv.cell ld4).trans d3, (hv.cell ld4).trans d4, (hv.cell ld4).trans d5⟩
  have t1 : decide (E < 1) = false := decide_eq_false (by omega)
  have t2 : ¬ E < 1 := by omega
  have t3 : (E < 1) = False := eq_false t2
  go_region_held3 (fun v => v.cell? ⟨gd, 0, none⟩ = some (.int .i64 e0) ∧ v.cell? ⟨gd, 1, none⟩ = some (.int .i64 e1) ∧ v.cell? ⟨gd, 2, none⟩ = some (.int .i64 e2) ∧ v.cell? ⟨gd, 3, none⟩ = some (.int .i64 e3) ∧ v.cell? ⟨gd, 4, none⟩ = some (.int .i64 e4) ∧ v.cell? ⟨gd, 5, none⟩ = some (.bool e5)) (first | with_reducible exact KB _ hbt | with_reducible exact KB _ A0)
    (first | (go_at_call 21; refine (kBt _ sa sc (rS.below A0)).mono ?_; rintro e u1 ⟨rfl, rfl⟩) | (go_at_call 70; refine (kT _).mono ?_; rintro e ut ⟨rfl, hb0⟩; have hbt := keepC (w1 := v4) A0 hb0; clear hb0))
  replace Q4 := Q4.below hbt
  replace W4 := W4.below hbt
  replace rS := rS.below hbt
  replace D4 := KB _ hbt
  replace ld4 : gd < ut.heap.size := Nat.lt_of_lt_of_le ld4 hbt.size
  clear KB A0 hbt
  generalize ut = vd at *
  obtain ⟨r0, r1, r2, r3, r4⟩ := id Q4.r
  have bb := (Q4.b.setCell (p := ⟨w.heap.size + 1, 0, none⟩) (by simp only; omega) (.int .u64 0)).setCell (p := ⟨w.heap.size + 1, 1, none⟩) (by simp only; omega) (.int .u64 0)
  have HB := hid bb
  clear bb
  go_wp2_with fail
  exact bodyPost_ret (v := .tuple #[.agg #[.int .u64 0, .int .u64 0], .bool false]) (by simp [results, Tryz.results36, go_sem, r0, r1]) rfl ⟨rfl, HB.out⟩

set_option maxRecDepth 10000 in
set_option maxHeartbeats 8000000 in
theorem spack3 (f : Int) (n : Bool) (s : Nat) (q : Int) (hs : s < 2 ^ 128) (T : M.Pt) (X : Nat) (e0 e1 e2 e3 e4 : Int) (e5 : Bool) (he0 : e0 ≠ 0) (w : World) (E : Int) (hE : wrap64 (wrap64 (wrap64 (q + e2) + e0) - 1) = E) (kBt : ∀ (v : World) (ao : Option Addr) (c : Nat), Rd v ao (D s) → Calls Tryz.prog 21 #[.slice ao (D s).length c] v fun e w' => e = .returned (.int .i64 e0) ∧ w' = v) (hlo : ¬ E < 1) (tp : Int) (kT : ∀ v : World, Calls Tryz.prog 70 #[.agg #[.int .i64 e0, .int .i64 e1, .int .i64 e2, .int .i64 e3, .int .i64 e4, .bool e5]] v fun e w' => e = .returned (.int .i64 tp) ∧ Below v.heap.size v w') (hhi : ¬ tp ≤ E) (L : Nat) (he1 : IntKind.i64.wrap (e0 - 1) = e0 - 1) (kL : ∀ (v : World) (ao : Option Addr) (c : Nat) (z : Int), z = e0 - 1 → Rd v ao (D s) → Calls Tryz.prog 22 #[.slice ao (D s).length c, .int .i64 z] v fun e w' => Ret v w' e (D L)) (kM : ∀ (v : World) (ao : Option Addr) (c : Nat), Rd v ao (D L) → Calls Tryz.prog 69 #[.agg #[.int .i64 e0, .int .i64 e1, .int .i64 e2, .int .i64 e3, .int .i64 e4, .bool e5], .bool n, .int .i64 E, .bool true, .slice ao (D L).length c] v fun e w' => e = .returned (.agg #[.int .u64 (M.hiN X : Int), .int .u64 (M.loN X : Int)]) ∧ Below v.heap.size v w')
    (kE : ∀ v : World, Calls Tryz.prog 19 #[.int .i64 f] v fun e w' => e = .returned (.agg #[.int .i64 e0, .int .i64 e1, .int .i64 e2, .int .i64 e3, .int .i64 e4, .bool e5]) ∧ Below v.heap.size v w')
    (kU : ∀ v : World, Calls Tryz.prog 7 #[.int .i64 f, .agg #[.int .u64 (M.hiN X : Int), .int .u64 (M.loN X : Int)]] v fun e w' => e = .returned (.agg #[.int .i64 T.c, .bool T.n, .int .u64 (M.hiN T.s : Int), .int .u64 (M.loN T.s : Int), .int .i64 T.q]) ∧ Below v.heap.size v w') (R : Nat) (ok : Bool) (hR1 : (T.c = 3 ∧ T.n = n ∧ (M.hiN T.s : Int) = (M.hiN s : Int) ∧ (M.loN T.s : Int) = (M.loN s : Int) ∧ T.q = q) → R = X ∧ ok = true) (hR2 : ¬ (T.c = 3 ∧ T.n = n ∧ (M.hiN T.s : Int) = (M.hiN s : Int) ∧ (M.loN T.s : Int) = (M.loN s : Int) ∧ T.q = q) → R = 0 ∧ ok = false) :
    Calls Tryz.prog 36 #[.int .i64 f, .agg #[.int .i64 3, .bool n, .int .u64 (M.hiN s : Int), .int .u64 (M.loN s : Int), .int .i64 q]] w fun e w' => e = .returned (.tuple #[.agg #[.int .u64 (M.hiN R : Int), .int .u64 (M.loN R : Int)], .bool ok]) ∧ Below w.heap.size w w' := by
  have Q0 : Qv w ((w.alloc (.cells #[.int .i64 3, .bool n, .int .u64 (M.hiN s : Int), .int .u64 (M.loN s : Int), .int .i64 q] 29)).alloc (.cells #[.int .u64 0, .int .u64 0] 25)) 3 n s q := by
    refine ⟨((Below.refl _ _).alloc (Nat.le_refl _) _).alloc (by simp) _, ⟨?_, ?_, ?_, ?_, ?_⟩, ⟨?_, ?_, ?_, ?_, ?_⟩⟩ <;> simp [go_sem, hi0, lo0]
  generalize hv0 : ((w.alloc (.cells #[.int .i64 3, .bool n, .int .u64 (M.hiN s : Int), .int .u64 (M.loN s : Int), .int .i64 q] 29)).alloc (.cells #[.int .u64 0, .int .u64 0] 25)) = v0 at *
  have hz0 : (e0 == 0) = false := by simp [he0]
  go_enter Tryz.func36, Tryz.ntmps36
  go_wp2_with fail
  refine (kE _).mono ?_
  rintro e v1 ⟨rfl, hb1⟩
  have Q1 := Q0.below hb1
  clear hv0 hb1 Q0 kE
  go_upto_region 2 with fail
  have bd : Below v1.heap.size v1 (v1.alloc (.cells #[.int .i64 e0, .int .i64 e1, .int .i64 e2, .int .i64 e3, .int .i64 e4, .bool e5] 47)) := (Below.refl _ _).alloc (Nat.le_refl _) _
  have Q2 := Q1.below bd
  have d0 : (v1.alloc (.cells #[.int .i64 e0, .int .i64 e1, .int .i64 e2, .int .i64 e3, .int .i64 e4, .bool e5] 47)).cell? ⟨v1.heap.size, 0, none⟩ = some (.int .i64 e0) ∧ (v1.alloc (.cells #[.int .i64 e0, .int .i64 e1, .int .i64 e2, .int .i64 e3, .int .i64 e4, .bool e5] 47)).cell? ⟨v1.heap.size, 1, none⟩ = some (.int .i64 e1) ∧ (v1.alloc (.cells #[.int .i64 e0, .int .i64 e1, .int .i64 e2, .int .i64 e3, .int .i64 e4, .bool e5] 47)).cell? ⟨v1.heap.size, 2, none⟩ = some (.int .i64 e2) ∧ (v1.alloc (.cells #[.int .i64 e0, .int .i64 e1, .int .i64 e2, .int .i64 e3, .int .i64 e4, .bool e5] 47)).cell? ⟨v1.heap.size, 3, none⟩ = some (.int .i64 e3) ∧ (v1.alloc (.cells #[.int .i64 e0, .int .i64 e1, .int .i64 e2, .int .i64 e3, .int .i64 e4, .bool e5] 47)).cell? ⟨v1.heap.size, 4, none⟩ = some (.int .i64 e4) ∧ (v1.alloc (.cells #[.int .i64 e0, .int .i64 e1, .int .i64 e2, .int .i64 e3, .int .i64 e4, .bool e5] 47)).cell? ⟨v1.heap.size, 5, none⟩ = some (.bool e5) := by refine ⟨?_, ?_, ?_, ?_, ?_, ?_⟩ <;> simp [go_sem]
  have ld : v1.heap.size < (v1.alloc (.cells #[.int .i64 e0, .int .i64 e1, .int .i64 e2, .int .i64 e3, .int .i64 e4, .bool e5] 47)).heap.size := by simp
  clear bd Q1
  generalize (v1.alloc (.cells #[.int .i64 e0, .int .i64 e1, .int .i64 e2, .int .i64 e3, .int .i64 e4, .bool e5] 47)) = v2 at *
  generalize v1.heap.size = gd at *
  obtain ⟨i0, i1, i2, i3, i4, i5⟩ := id d0
  go_upto_region 5 with fail
  have DB : ∀ v, Below v2.heap.size v2 v → v.cell? ⟨gd, 0, none⟩ = some (.int .i64 e0) ∧ v.cell? ⟨gd, 1, none⟩ = some (.int .i64 e1) ∧ v.cell? ⟨gd, 2, none⟩ = some (.int .i64 e2) ∧ v.cell? ⟨gd, 3, none⟩ = some (.int .i64 e3) ∧ v.cell? ⟨gd, 4, none⟩ = some (.int .i64 e4) ∧ v.cell? ⟨gd, 5, none⟩ = some (.bool e5) := fun v hv => by
    obtain ⟨d0, d1, d2, d3, d4, d5⟩ := d0
    exact ⟨(hv.cell ld).trans d0, (hv.cell ld).trans d1, (hv.cell ld).trans d2, (hv.cell ld).trans d3, (hv.cell ld).trans d4, (hv.cell ld).trans d5⟩
  have b3 : Below v2.heap.size v2 (v2.alloc (.cells #[.int .u64 0, .int .u64 0] 25)) := keepAl2 (Below.refl _ _) _
  have W3 := W2_zero v2
  have Q3 := Q2.below b3
  have lg : w.heap.size + 1 < v2.heap.size := Q2.r.2.2.2.2
  clear i0 i1 i2 i3 i4 i5
  obtain ⟨gw, hgw⟩ : ∃ gw, gw = v2.heap.size := ⟨_, rfl⟩
  rw [← hgw] at W3 lg ld ⊢
  generalize v2.alloc (.cells #[.int .u64 0, .int .u64 0] 25) = v3 at *
  have D3 := DB _ b3
  have ld3 : gd < v3.heap.size := Nat.lt_of_lt_of_le ld (by have := b3.size; omega)
  clear DB d0 Q2 b3 hgw
  obtain ⟨p0, p1, p2, p3, p4⟩ := id Q3.p
  go_wp2_with fail
  refine (l2Of_any s hs _).mono ?_
  rintro e v4 ⟨sa, sc, rfl, hso, hb4⟩
  have DC : ∀ v, Below v3.heap.size v3 v → v.cell? ⟨gd, 0, none⟩ = some (.int .i64 e0) ∧ v.cell? ⟨gd, 1, none⟩ = some (.int .i64 e1) ∧ v.cell? ⟨gd, 2, none⟩ = some (.int .i64 e2) ∧ v.cell? ⟨gd, 3, none⟩ = some (.int .i64 e3) ∧ v.cell? ⟨gd, 4, none⟩ = some (.int .i64 e4) ∧ v.cell? ⟨gd, 5, none⟩ = some (.bool e5) := fun v hv => by
    obtain ⟨d0, d1, d2, d3, d4, d5⟩ := D3
    exact ⟨(hv.cell ld3).trans d0, (hv.cell ld3).trans d1, (hv.cell ld3).trans d2, (hv.cell ld3).trans d3, (hv.cell ld3).trans d4, (hv.cell ld3).trans d5⟩
  have Q4 := Q3.below hb4
  have W4 := W3.below hb4
  have D4 := DC _ hb4
  have rS := Rd.own hso
  have ld4 : gd < v4.heap.size := Nat.lt_of_lt_of_le ld3 hb4.size
  clear p0 p1 p2 p3 p4 D3 DC Q3 W3 hb4 ld3
  obtain ⟨p0, p1, p2, p3, p4⟩ := id Q4.p
  obtain ⟨d0, d1, d2, d3, d4, d5⟩ := id D4
  go_upto_region 20 with fail
  clear p0 p1 p2 p3 p4 d0 d1 d2 d3 d4 d5
  have A0 : Below v4.heap.size v4 v4.drew := (Below.refl _ _).drew
  have KB : ∀ v, Below v4.heap.size v4 v → (fun v => v.cell? ⟨gd, 0, none⟩ = some (.int .i64 e0) ∧ v.cell? ⟨gd, 1, none⟩ = some (.int .i64 e1) ∧ v.cell? ⟨gd, 2, none⟩ = some (.int .i64 e2) ∧ v.cell? ⟨gd, 3, none⟩ = some (.int .i64 e3) ∧ v.cell? ⟨gd, 4, none⟩ = some (.int .i64 e4) ∧ v.cell? ⟨gd, 5, none⟩ = some (.bool e5)) v := fun v hv => by
    obtain ⟨d0, d1, d2, d3, d4, d5⟩ := D4
    exact ⟨(hv.cell ld4).trans d0, (hv.cell ld4).trans d1, (hv.cell ld4).trans d2, (hv.cell ld4).trans d3, (hv.cell ld4).trans d4, (hv.cell ld4).trans d5⟩
  have t1 : decide (E < 1) = false := decide_eq_false (by omega)
  have t2 : ¬ E < 1 := by omega
  have t3 : (E < 1) = False := eq_false t2
  go_region_held3 (fun v => v.cell? ⟨gd, 0, none⟩ = some (.int .i64 e0) ∧ v.cell? ⟨gd, 1, none⟩ = some (.int .i64 e1) ∧ v.cell? ⟨gd, 2, none⟩ = some (.int .i64 e2) ∧ v.cell? ⟨gd, 3, none⟩ = some (.int .i64 e3) ∧ v.cell? ⟨gd, 4, none⟩ = some (.int .i64 e4) ∧ v.cell? ⟨gd, 5, none⟩ = some (.bool e5)) (first | with_reducible exact KB _ hbt | with_reducible exact KB _ A0)
    (first | (go_at_call 21; refine (kBt _ sa sc (rS.below A0)).mono ?_; rintro e u1 ⟨rfl, rfl⟩) | (go_at_call 70; refine (kT _).mono ?_; rintro e ut ⟨rfl, hb0⟩; have hbt := keepC (w1 := v4) A0 hb0; clear hb0))
  replace Q4 := Q4.below hbt
  replace W4 := W4.below hbt
  replace rS := rS.below hbt
  replace D4 := KB _ hbt
  replace ld4 : gd < ut.heap.size := Nat.lt_of_lt_of_le ld4 hbt.size
  clear KB A0 hbt
  generalize ut = vd at *
  have nwp : w.heap.size ≠ gw := by omega
  have nwr : w.heap.size + 1 ≠ gw := by omega
  have lgb : w.heap.size ≤ gw := by omega
  obtain ⟨p0, p1, p2, p3, p4⟩ := id Q4.p
  go_upto_region 22 with fail
  clear p0 p1 p2 p3 p4
  have ngd : gd ≠ gw := by omega
  have KB : ∀ v, Below vd.heap.size vd v → (fun v => v.cell? ⟨gd, 0, none⟩ = some (.int .i64 e0) ∧ v.cell? ⟨gd, 1, none⟩ = some (.int .i64 e1) ∧ v.cell? ⟨gd, 2, none⟩ = some (.int .i64 e2) ∧ v.cell? ⟨gd, 3, none⟩ = some (.int .i64 e3) ∧ v.cell? ⟨gd, 4, none⟩ = some (.int .i64 e4) ∧ v.cell? ⟨gd, 5, none⟩ = some (.bool e5) ∧ v.cell? ⟨w.heap.size, 0, none⟩ = some (.int .i64 3) ∧ v.cell? ⟨w.heap.size, 1, none⟩ = some (.bool n) ∧ v.cell? ⟨w.heap.size, 2, none⟩ = some (.int .u64 (M.hiN s : Int)) ∧ v.cell? ⟨w.heap.size, 3, none⟩ = some (.int .u64 (M.loN s : Int)) ∧ v.cell? ⟨w.heap.size, 4, none⟩ = some (.int .i64 q)) v := fun v hv => by
    obtain ⟨d0, d1, d2, d3, d4, d5⟩ := D4
    obtain ⟨p0, p1, p2, p3, p4⟩ := (Q4.below hv).p
    exact ⟨(hv.cell ld4).trans d0, (hv.cell ld4).trans d1, (hv.cell ld4).trans d2, (hv.cell ld4).trans d3, (hv.cell ld4).trans d4, (hv.cell ld4).trans d5, p0, p1, p2, p3, p4⟩
  have KS : ∀ v x y, Below vd.heap.size vd v → (fun v => v.cell? ⟨gd, 0, none⟩ = some (.int .i64 e0) ∧ v.cell? ⟨gd, 1, none⟩ = some (.int .i64 e1) ∧ v.cell? ⟨gd, 2, none⟩ = some (.int .i64 e2) ∧ v.cell? ⟨gd, 3, none⟩ = some (.int .i64 e3) ∧ v.cell? ⟨gd, 4, none⟩ = some (.int .i64 e4) ∧ v.cell? ⟨gd, 5, none⟩ = some (.bool e5) ∧ v.cell? ⟨w.heap.size, 0, none⟩ = some (.int .i64 3) ∧ v.cell? ⟨w.heap.size, 1, none⟩ = some (.bool n) ∧ v.cell? ⟨w.heap.size, 2, none⟩ = some (.int .u64 (M.hiN s : Int)) ∧ v.cell? ⟨w.heap.size, 3, none⟩ = some (.int .u64 (M.loN s : Int)) ∧ v.cell? ⟨w.heap.size, 4, none⟩ = some (.int .i64 q)) ((v.setCell ⟨gw, 0, none⟩ x).setCell ⟨gw, 1, none⟩ y) := fun v x y hv => by
    obtain ⟨d0, d1, d2, d3, d4, d5, p0, p1, p2, p3, p4⟩ := KB v hv
    exact ⟨(far2 v _ _ ngd).trans d0, (far2 v _ _ ngd).trans d1, (far2 v _ _ ngd).trans d2, (far2 v _ _ ngd).trans d3, (far2 v _ _ ngd).trans d4, (far2 v _ _ ngd).trans d5, (far2 v _ _ nwp).trans p0, (far2 v _ _ nwp).trans p1, (far2 v _ _ nwp).trans p2, (far2 v _ _ nwp).trans p3, (far2 v _ _ nwp).trans p4⟩
  have A0 : Below vd.heap.size vd vd.drew := (Below.refl _ _).drew
  go_region_held3 (fun v => v.cell? ⟨gd, 0, none⟩ = some (.int .i64 e0) ∧ v.cell? ⟨gd, 1, none⟩ = some (.int .i64 e1) ∧ v.cell? ⟨gd, 2, none⟩ = some (.int .i64 e2) ∧ v.cell? ⟨gd, 3, none⟩ = some (.int .i64 e3) ∧ v.cell? ⟨gd, 4, none⟩ = some (.int .i64 e4) ∧ v.cell? ⟨gd, 5, none⟩ = some (.bool e5) ∧ v.cell? ⟨w.heap.size, 0, none⟩ = some (.int .i64 3) ∧ v.cell? ⟨w.heap.size, 1, none⟩ = some (.bool n) ∧ v.cell? ⟨w.heap.size, 2, none⟩ = some (.int .u64 (M.hiN s : Int)) ∧ v.cell? ⟨w.heap.size, 3, none⟩ = some (.int .u64 (M.loN s : Int)) ∧ v.cell? ⟨w.heap.size, 4, none⟩ = some (.int .i64 q)) (first | with_reducible exact KB _ hb2 | with_reducible exact KB _ hb1 | with_reducible exact KB _ A0 | with_reducible exact KS _ _ _ hb2)
    (first | (have hq := hb1; clear hq; go_at_call 69; refine (kM _ _ _ (Rd.own hto)).mono ?_; rintro e v5 ⟨rfl, hb0⟩; have hb2 := keepC (w1 := vd) hb1 hb0; clear hb0; obtain ⟨y0, y1, y2, y3, -⟩ := W4.below hb2) | (go_at_call 22; refine (kL _ _ _ _ (by first | with_reducible rfl | with_reducible assumption) (rS.below A0)).mono ?_; rintro e u1 ⟨ta, tc, rfl, hto, hb0⟩; have hb1 := keepC (w1 := vd) A0 hb0; clear hb0))
  have Q5 := Q4.below hb2
  have W5 := W4.below hb2
  clear Q4 W4 D4 rS hso KB KS A0
  go_upto_region 23 with fail
  have Q6 : Qv w ((v5.setCell ⟨gw, 0, none⟩ (.int .u64 (M.hiN X : Int))).setCell ⟨gw, 1, none⟩ (.int .u64 (M.loN X : Int))) 3 n s q := Q5.far nwp nwr lgb
  have W6 : W2 ((v5.setCell ⟨gw, 0, none⟩ (.int .u64 (M.hiN X : Int))).setCell ⟨gw, 1, none⟩ (.int .u64 (M.loN X : Int))) gw X := W2_set W5.1 W5.2.1 W5.2.2.1 W5.2.2.2.1
  generalize ((v5.setCell ⟨gw, 0, none⟩ (.int .u64 (M.hiN X : Int))).setCell ⟨gw, 1, none⟩ (.int .u64 (M.loN X : Int))) = v6 at *
  clear Q5 W5
  have lpw : w.heap.size < v6.heap.size := Nat.lt_trans (Nat.lt_succ_self _) Q6.r.2.2.2.2
  have KB : ∀ v, Below v6.heap.size v6 v → (fun v => v.cell? ⟨gw, 0, none⟩ = some (.int .u64 (M.hiN X : Int)) ∧ v.cell? ⟨gw, 1, none⟩ = some (.int .u64 (M.loN X : Int)) ∧ v.cell? ⟨w.heap.size, 0, none⟩ = some (.int .i64 3) ∧ v.cell? ⟨w.heap.size, 1, none⟩ = some (.bool n) ∧ v.cell? ⟨w.heap.size, 2, none⟩ = some (.int .u64 (M.hiN s : Int)) ∧ v.cell? ⟨w.heap.size, 3, none⟩ = some (.int .u64 (M.loN s : Int)) ∧ v.cell? ⟨w.heap.size, 4, none⟩ = some (.int .i64 q)) v := fun v hv => by
    obtain ⟨p0, p1, p2, p3, p4⟩ := (Q6.below hv).p
    exact ⟨(W6.below hv).1, (W6.below hv).2.1, p0, p1, p2, p3, p4⟩
  have A0 : Below v6.heap.size v6 v6.drew := (Below.refl _ _).drew
  go_cut [101] (fun z wx => (∃ bq, z = .bool bq ∧ (bq = true ↔ ¬ (T.c = 3 ∧ T.n = n ∧ (M.hiN T.s : Int) = (M.hiN s : Int) ∧ (M.loN T.s : Int) = (M.loN s : Int) ∧ T.q = q))) ∧ Below v6.heap.size v6 wx)
  case first =>
    clear hR1 hR2
    by_cases h1 : T.c = 3
    · by_cases h2 : T.n = n
      · by_cases h3 : (M.hiN T.s : Int) = (M.hiN s : Int)
        · by_cases h4 : (M.loN T.s : Int) = (M.loN s : Int)
          · by_cases h5 : T.q = q
            · go_region_held3 (fun v => v.cell? ⟨gw, 0, none⟩ = some (.int .u64 (M.hiN X : Int)) ∧ v.cell? ⟨gw, 1, none⟩ = some (.int .u64 (M.loN X : Int)) ∧ v.cell? ⟨w.heap.size, 0, none⟩ = some (.int .i64 3) ∧ v.cell? ⟨w.heap.size, 1, none⟩ = some (.bool n) ∧ v.cell? ⟨w.heap.size, 2, none⟩ = some (.int .u64 (M.hiN s : Int)) ∧ v.cell? ⟨w.heap.size, 3, none⟩ = some (.int .u64 (M.loN s : Int)) ∧ v.cell? ⟨w.heap.size, 4, none⟩ = some (.int .i64 q)) (first | with_reducible exact KB _ hb5 | with_reducible exact KB _ A0)
                (first | (go_at_call 7; refine (kU _).mono ?_; rintro e u5 ⟨rfl, hb0⟩; have hb5 := keepC (w1 := v6) A0 hb0; clear hb0))
              all_goals go_wp2_with fail
              all_goals go_meet
              all_goals exact ⟨⟨_, rfl, by simp [h1, h2, h3, h4, h5]⟩, hb5⟩
            · go_region_held3 (fun v => v.cell? ⟨gw, 0, none⟩ = some (.int .u64 (M.hiN X : Int)) ∧ v.cell? ⟨gw, 1, none⟩ = some (.int .u64 (M.loN X : Int)) ∧ v.cell? ⟨w.heap.size, 0, none⟩ = some (.int .i64 3) ∧ v.cell? ⟨w.heap.size, 1, none⟩ = some (.bool n) ∧ v.cell? ⟨w.heap.size, 2, none⟩ = some (.int .u64 (M.hiN s : Int)) ∧ v.cell? ⟨w.heap.size, 3, none⟩ = some (.int .u64 (M.loN s : Int)) ∧ v.cell? ⟨w.heap.size, 4, none⟩ = some (.int .i64 q)) (first | with_reducible exact KB _ hb5 | with_reducible exact KB _ A0)
                (first | (go_at_call 7; refine (kU _).mono ?_; rintro e u5 ⟨rfl, hb0⟩; have hb5 := keepC (w1 := v6) A0 hb0; clear hb0))
              all_goals go_wp2_with fail
              all_goals go_meet
              all_goals exact ⟨⟨_, rfl, by simp [h1, h2, h3, h4, h5]⟩, hb5⟩
          · go_region_held3 (fun v => v.cell? ⟨gw, 0, none⟩ = some (.int .u64 (M.hiN X : Int)) ∧ v.cell? ⟨gw, 1, none⟩ = some (.int .u64 (M.loN X : Int)) ∧ v.cell? ⟨w.heap.size, 0, none⟩ = some (.int .i64 3) ∧ v.cell? ⟨w.heap.size, 1, none⟩ = some (.bool n) ∧ v.cell? ⟨w.heap.size, 2, none⟩ = some (.int .u64 (M.hiN s : Int)) ∧ v.cell? ⟨w.heap.size, 3, none⟩ = some (.int .u64 (M.loN s : Int)) ∧ v.cell? ⟨w.heap.size, 4, none⟩ = some (.int .i64 q)) (first | with_reducible exact KB _ hb5 | with_reducible exact KB _ A0)
              (first | (go_at_call 7; refine (kU _).mono ?_; rintro e u5 ⟨rfl, hb0⟩; have hb5 := keepC (w1 := v6) A0 hb0; clear hb0))
            all_goals go_wp2_with fail
            all_goals go_meet
            all_goals exact ⟨⟨_, rfl, by simp [h1, h2, h3, h4]⟩, hb5⟩
        · go_region_held3 (fun v => v.cell? ⟨gw, 0, none⟩ = some (.int .u64 (M.hiN X : Int)) ∧ v.cell? ⟨gw, 1, none⟩ = some (.int .u64 (M.loN X : Int)) ∧ v.cell? ⟨w.heap.size, 0, none⟩ = some (.int .i64 3) ∧ v.cell? ⟨w.heap.size, 1, none⟩ = some (.bool n) ∧ v.cell? ⟨w.heap.size, 2, none⟩ = some (.int .u64 (M.hiN s : Int)) ∧ v.cell? ⟨w.heap.size, 3, none⟩ = some (.int .u64 (M.loN s : Int)) ∧ v.cell? ⟨w.heap.size, 4, none⟩ = some (.int .i64 q)) (first | with_reducible exact KB _ hb5 | with_reducible exact KB _ A0)
            (first | (go_at_call 7; refine (kU _).mono ?_; rintro e u5 ⟨rfl, hb0⟩; have hb5 := keepC (w1 := v6) A0 hb0; clear hb0))
          all_goals go_wp2_with fail
          all_goals go_meet
          all_goals exact ⟨⟨_, rfl, by simp [h1, h2, h3]⟩, hb5⟩
      · go_region_held3 (fun v => v.cell? ⟨gw, 0, none⟩ = some (.int .u64 (M.hiN X : Int)) ∧ v.cell? ⟨gw, 1, none⟩ = some (.int .u64 (M.loN X : Int)) ∧ v.cell? ⟨w.heap.size, 0, none⟩ = some (.int .i64 3) ∧ v.cell? ⟨w.heap.size, 1, none⟩ = some (.bool n) ∧ v.cell? ⟨w.heap.size, 2, none⟩ = some (.int .u64 (M.hiN s : Int)) ∧ v.cell? ⟨w.heap.size, 3, none⟩ = some (.int .u64 (M.loN s : Int)) ∧ v.cell? ⟨w.heap.size, 4, none⟩ = some (.int .i64 q)) (first | with_reducible exact KB _ hb5 | with_reducible exact KB _ A0)
          (first | (go_at_call 7; refine (kU _).mono ?_; rintro e u5 ⟨rfl, hb0⟩; have hb5 := keepC (w1 := v6) A0 hb0; clear hb0))
        all_goals go_wp2_with fail
        all_goals go_meet
        all_goals exact ⟨⟨_, rfl, by simp [h1, h2]⟩, hb5⟩
    · go_region_held3 (fun v => v.cell? ⟨gw, 0, none⟩ = some (.int .u64 (M.hiN X : Int)) ∧ v.cell? ⟨gw, 1, none⟩ = some (.int .u64 (M.loN X : Int)) ∧ v.cell? ⟨w.heap.size, 0, none⟩ = some (.int .i64 3) ∧ v.cell? ⟨w.heap.size, 1, none⟩ = some (.bool n) ∧ v.cell? ⟨w.heap.size, 2, none⟩ = some (.int .u64 (M.hiN s : Int)) ∧ v.cell? ⟨w.heap.size, 3, none⟩ = some (.int .u64 (M.loN s : Int)) ∧ v.cell? ⟨w.heap.size, 4, none⟩ = some (.int .i64 q)) (first | with_reducible exact KB _ hb5 | with_reducible exact KB _ A0)
        (first | (go_at_call 7; refine (kU _).mono ?_; rintro e u5 ⟨rfl, hb0⟩; have hb5 := keepC (w1 := v6) A0 hb0; clear hb0))
      all_goals go_wp2_with fail
      all_goals go_meet
      all_goals exact ⟨⟨_, rfl, by simp [h1]⟩, hb5⟩
  case rest =>
    rename World => wx
    obtain ⟨⟨bq, rfl, hbq⟩, hbx⟩ := hcut
    have Q7 := Q6.below hbx
    obtain ⟨x0, x1, -⟩ := KB _ hbx
    obtain ⟨r0, r1, r2, r3, r4⟩ := id Q7.r
    have bb := (Q7.b.setCell (p := ⟨w.heap.size + 1, 0, none⟩) (by simp only; omega) (.int .u64 (M.hiN R : Int))).setCell (p := ⟨w.heap.size + 1, 1, none⟩) (by simp only; omega) (.int .u64 (M.loN R : Int))
    cases bq
    · obtain ⟨rfl, rfl⟩ := hR1 (Classical.byContradiction fun hh => by have := hbq.2 hh; simp at this)
      clear hR1 hR2 hbq
      have HB := hid bb
      clear bb
      go_wp2_with fail
      exact bodyPost_ret (v := .tuple #[.agg #[.int .u64 (M.hiN R : Int), .int .u64 (M.loN R : Int)], .bool true]) (by simp [results, Tryz.results36, go_sem, r0, r1]) rfl ⟨rfl, HB.out⟩
    · obtain ⟨rfl, rfl⟩ := hR2 (hbq.1 rfl)
      clear hR1 hR2 hbq
      rw [hi0, lo0] at *
      have HB := hid bb
      clear bb
      go_wp2_with fail
      exact bodyPost_ret (v := .tuple #[.agg #[.int .u64 0, .int .u64 0], .bool false]) (by simp [results, Tryz.results36, go_sem, r0, r1]) rfl ⟨rfl, HB.out⟩

end Go.Proofs.YtodgblbaclionaaGreatDoor

