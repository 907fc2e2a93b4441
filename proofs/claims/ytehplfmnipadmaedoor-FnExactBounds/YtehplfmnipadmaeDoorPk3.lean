import Derived.Test.YtehplfmnipadmaeDoorPk2
namespace Go.Proofs.YtehplfmnipadmaeDoor
open Go.RowKit
set_option linter.unusedVariables false
set_option maxRecDepth 100000

/-- What pack makes of parts, whatever they are. -/
def pki (F : M.Fm) (c : Int) (n : Bool) (s : Nat) (q : Int) : Nat :=
  if c = 2 then jn F n 0 s else if c = 3 then jn F n (IntKind.i64.wrap (q + (F.emax : Int) + (F.p : Int) - 1)) s
  else if c = 4 then jn F n (F.top : Int) F.lead else if c = 5 then jn F false (F.top : Int) ((F.lead + 2 ^ (F.p - 2)) % 2 ^ 128) else jn F n 0 0

set_option maxRecDepth 10000 in
set_option maxHeartbeats 4000000 in
theorem dpack2 (F : M.Fm) (h : F.Ok) (n : Bool) (s : Nat) (q : Int) (hs : s < 2 ^ 128) (w : World)  :
    Calls Tryd.prog 81 #[.agg #[.int .i64 (F.p : Int), .int .i64 (1 - (F.emax : Int)), .int .i64 (F.emax : Int), .int .i64 (F.wd : Int), .int .i64 (F.e : Int), .bool F.x], .agg #[.int .i64 2, .bool n, .int .u64 (M.hiN s : Int), .int .u64 (M.loN s : Int), .int .i64 q]] w fun e w' => e = .returned (.agg #[.int .u64 (M.hiN (jn F n 0 s) : Int), .int .u64 (M.loN (jn F n 0 s) : Int)]) ∧ Below w.heap.size w w' := by
  have kJ := fun v : World => djoin F h n 0 s hs v
  generalize jn F n 0 s = Q at *
  have b0 : Below w.heap.size w (((w.alloc (.cells #[.int .i64 (F.p : Int), .int .i64 (1 - (F.emax : Int)), .int .i64 (F.emax : Int), .int .i64 (F.wd : Int), .int .i64 (F.e : Int), .bool F.x] 56)).alloc (.cells #[.int .i64 2, .bool n, .int .u64 (M.hiN s : Int), .int .u64 (M.loN s : Int), .int .i64 q] 49)).alloc (.cells #[.int .u64 0, .int .u64 0] 25)) := (((Below.refl _ _).alloc (Nat.le_refl _) _).alloc (by simp) _).alloc (by simp; omega) _
  have R0 : W2 (((w.alloc (.cells #[.int .i64 (F.p : Int), .int .i64 (1 - (F.emax : Int)), .int .i64 (F.emax : Int), .int .i64 (F.wd : Int), .int .i64 (F.e : Int), .bool F.x] 56)).alloc (.cells #[.int .i64 2, .bool n, .int .u64 (M.hiN s : Int), .int .u64 (M.loN s : Int), .int .i64 q] 49)).alloc (.cells #[.int .u64 0, .int .u64 0] 25)) (w.heap.size + 1 + 1) 0 := by refine ⟨?_, ?_, ?_, ?_, ?_⟩ <;> simp [go_sem, hi0, lo0]
  go_enter Tryd.func81, Tryd.ntmps81
  go_wp2_with fail
  refine (kJ _).mono ?_
  rintro e u ⟨rfl, hbj⟩
  obtain ⟨r0, r1, r2, r3, -⟩ := R0.below hbj
  have bb := b0.trans (hbj.mono b0.size)
  clear hbj
  go_wp2_with fail
  exact bodyPost_ret (v := .agg #[.int .u64 (M.hiN Q : Int), .int .u64 (M.loN Q : Int)]) (by simp [results, Tryd.results81, go_sem, r0, r1]) rfl ⟨rfl, (bb.setCell (p := ⟨w.heap.size + 1 + 1, 0, none⟩) (by simp only; omega) _).setCell (p := ⟨w.heap.size + 1 + 1, 1, none⟩) (by simp only; omega) _⟩

set_option maxRecDepth 10000 in
set_option maxHeartbeats 4000000 in
theorem dpack3 (F : M.Fm) (h : F.Ok) (n : Bool) (s : Nat) (q : Int) (hs : s < 2 ^ 128) (w : World)  :
    Calls Tryd.prog 81 #[.agg #[.int .i64 (F.p : Int), .int .i64 (1 - (F.emax : Int)), .int .i64 (F.emax : Int), .int .i64 (F.wd : Int), .int .i64 (F.e : Int), .bool F.x], .agg #[.int .i64 3, .bool n, .int .u64 (M.hiN s : Int), .int .u64 (M.loN s : Int), .int .i64 q]] w fun e w' => e = .returned (.agg #[.int .u64 (M.hiN (jn F n (IntKind.i64.wrap (q + (F.emax : Int) + (F.p : Int) - 1)) s) : Int), .int .u64 (M.loN (jn F n (IntKind.i64.wrap (q + (F.emax : Int) + (F.p : Int) - 1)) s) : Int)]) ∧ Below w.heap.size w w' := by
  have kJ : ∀ (v : World) (z : Int), z = IntKind.i64.wrap (q + (F.emax : Int) + (F.p : Int) - 1) → Calls Tryd.prog 72 #[.agg #[.int .i64 (F.p : Int), .int .i64 (1 - (F.emax : Int)), .int .i64 (F.emax : Int), .int .i64 (F.wd : Int), .int .i64 (F.e : Int), .bool F.x], .bool n, .int .i64 z, .agg #[.int .u64 (M.hiN s : Int), .int .u64 (M.loN s : Int)]] v fun e w' => e = .returned (.agg #[.int .u64 (M.hiN (jn F n (IntKind.i64.wrap (q + (F.emax : Int) + (F.p : Int) - 1)) s) : Int), .int .u64 (M.loN (jn F n (IntKind.i64.wrap (q + (F.emax : Int) + (F.p : Int) - 1)) s) : Int)]) ∧ Below v.heap.size v w' := fun v z hz => by
    rw [hz]
    exact djoin F h n (IntKind.i64.wrap (q + (F.emax : Int) + (F.p : Int) - 1)) s hs v
  generalize jn F n (IntKind.i64.wrap (q + (F.emax : Int) + (F.p : Int) - 1)) s = Q at *
  have b0 : Below w.heap.size w (((w.alloc (.cells #[.int .i64 (F.p : Int), .int .i64 (1 - (F.emax : Int)), .int .i64 (F.emax : Int), .int .i64 (F.wd : Int), .int .i64 (F.e : Int), .bool F.x] 56)).alloc (.cells #[.int .i64 3, .bool n, .int .u64 (M.hiN s : Int), .int .u64 (M.loN s : Int), .int .i64 q] 49)).alloc (.cells #[.int .u64 0, .int .u64 0] 25)) := (((Below.refl _ _).alloc (Nat.le_refl _) _).alloc (by simp) _).alloc (by simp; omega) _
  have R0 : W2 (((w.alloc (.cells #[.int .i64 (F.p : Int), .int .i64 (1 - (F.emax : Int)), .int .i64 (F.emax : Int), .int .i64 (F.wd : Int), .int .i64 (F.e : Int), .bool F.x] 56)).alloc (.cells #[.int .i64 3, .bool n, .int .u64 (M.hiN s : Int), .int .u64 (M.loN s : Int), .int .i64 q] 49)).alloc (.cells #[.int .u64 0, .int .u64 0] 25)) (w.heap.size + 1 + 1) 0 := by refine ⟨?_, ?_, ?_, ?_, ?_⟩ <;> simp [go_sem, hi0, lo0]
  go_enter Tryd.func81, Tryd.ntmps81
  go_wp2_with fail
  refine (kJ _ _ (by first | with_reducible rfl | (simp only [wrap64, IntKind.wrap_i64]; omega) | (simp only [IntKind.wrap_i64]; omega))).mono ?_
  rintro e u ⟨rfl, hbj⟩
  obtain ⟨r0, r1, r2, r3, -⟩ := R0.below hbj
  have bb := b0.trans (hbj.mono b0.size)
  clear hbj
  go_wp2_with fail
  exact bodyPost_ret (v := .agg #[.int .u64 (M.hiN Q : Int), .int .u64 (M.loN Q : Int)]) (by simp [results, Tryd.results81, go_sem, r0, r1]) rfl ⟨rfl, (bb.setCell (p := ⟨w.heap.size + 1 + 1, 0, none⟩) (by simp only; omega) _).setCell (p := ⟨w.heap.size + 1 + 1, 1, none⟩) (by simp only; omega) _⟩

set_option maxRecDepth 10000 in
set_option maxHeartbeats 4000000 in
theorem dpack0 (F : M.Fm) (h : F.Ok) (c : Int) (n : Bool) (s : Nat) (q : Int) (hs : s < 2 ^ 128) (w : World) (h2 : c ≠ 2) (h3 : c ≠ 3) (h4 : c ≠ 4) (h5 : c ≠ 5) :
    Calls Tryd.prog 81 #[.agg #[.int .i64 (F.p : Int), .int .i64 (1 - (F.emax : Int)), .int .i64 (F.emax : Int), .int .i64 (F.wd : Int), .int .i64 (F.e : Int), .bool F.x], .agg #[.int .i64 c, .bool n, .int .u64 (M.hiN s : Int), .int .u64 (M.loN s : Int), .int .i64 q]] w fun e w' => e = .returned (.agg #[.int .u64 (M.hiN (jn F n 0 0) : Int), .int .u64 (M.loN (jn F n 0 0) : Int)]) ∧ Below w.heap.size w w' := by
  have kJ := fun v : World => djoin F h n 0 0 (by omega) v
  simp only [hi0, lo0] at kJ
  generalize jn F n 0 0 = Q at *
  have b0 : Below w.heap.size w (((w.alloc (.cells #[.int .i64 (F.p : Int), .int .i64 (1 - (F.emax : Int)), .int .i64 (F.emax : Int), .int .i64 (F.wd : Int), .int .i64 (F.e : Int), .bool F.x] 56)).alloc (.cells #[.int .i64 c, .bool n, .int .u64 (M.hiN s : Int), .int .u64 (M.loN s : Int), .int .i64 q] 49)).alloc (.cells #[.int .u64 0, .int .u64 0] 25)) := (((Below.refl _ _).alloc (Nat.le_refl _) _).alloc (by simp) _).alloc (by simp; omega) _
  have R0 : W2 (((w.alloc (.cells #[.int .i64 (F.p : Int), .int .i64 (1 - (F.emax : Int)), .int .i64 (F.emax : Int), .int .i64 (F.wd : Int), .int .i64 (F.e : Int), .bool F.x] 56)).alloc (.cells #[.int .i64 c, .bool n, .int .u64 (M.hiN s : Int), .int .u64 (M.loN s : Int), .int .i64 q] 49)).alloc (.cells #[.int .u64 0, .int .u64 0] 25)) (w.heap.size + 1 + 1) 0 := by refine ⟨?_, ?_, ?_, ?_, ?_⟩ <;> simp [go_sem, hi0, lo0]
  go_enter Tryd.func81, Tryd.ntmps81
  go_wp2_with fail
  refine (kJ _).mono ?_
  rintro e u ⟨rfl, hbj⟩
  obtain ⟨r0, r1, r2, r3, -⟩ := R0.below hbj
  have bb := b0.trans (hbj.mono b0.size)
  clear hbj
  go_wp2_with fail
  exact bodyPost_ret (v := .agg #[.int .u64 (M.hiN Q : Int), .int .u64 (M.loN Q : Int)]) (by simp [results, Tryd.results81, go_sem, r0, r1]) rfl ⟨rfl, (bb.setCell (p := ⟨w.heap.size + 1 + 1, 0, none⟩) (by simp only; omega) _).setCell (p := ⟨w.heap.size + 1 + 1, 1, none⟩) (by simp only; omega) _⟩

set_option maxRecDepth 10000 in
set_option maxHeartbeats 4000000 in
theorem dpack4 (F : M.Fm) (h : F.Ok) (n : Bool) (s : Nat) (q : Int) (hs : s < 2 ^ 128) (w : World)  :
    Calls Tryd.prog 81 #[.agg #[.int .i64 (F.p : Int), .int .i64 (1 - (F.emax : Int)), .int .i64 (F.emax : Int), .int .i64 (F.wd : Int), .int .i64 (F.e : Int), .bool F.x], .agg #[.int .i64 4, .bool n, .int .u64 (M.hiN s : Int), .int .u64 (M.loN s : Int), .int .i64 q]] w fun e w' => e = .returned (.agg #[.int .u64 (M.hiN (jn F n (F.top : Int) F.lead) : Int), .int .u64 (M.loN (jn F n (F.top : Int) F.lead) : Int)]) ∧ Below w.heap.size w w' := by
  have kT := fun v : World => dTop F h v
  have kL := fun v : World => dLead F h v
  have kJ := fun v : World => djoin F h n (F.top : Int) F.lead (lead_lt h) v
  simp only [dv] at kT kL
  generalize jn F n (F.top : Int) F.lead = Q at *
  have b0 : Below w.heap.size w (((w.alloc (.cells #[.int .i64 (F.p : Int), .int .i64 (1 - (F.emax : Int)), .int .i64 (F.emax : Int), .int .i64 (F.wd : Int), .int .i64 (F.e : Int), .bool F.x] 56)).alloc (.cells #[.int .i64 4, .bool n, .int .u64 (M.hiN s : Int), .int .u64 (M.loN s : Int), .int .i64 q] 49)).alloc (.cells #[.int .u64 0, .int .u64 0] 25)) := (((Below.refl _ _).alloc (Nat.le_refl _) _).alloc (by simp) _).alloc (by simp; omega) _
  have R0 : W2 (((w.alloc (.cells #[.int .i64 (F.p : Int), .int .i64 (1 - (F.emax : Int)), .int .i64 (F.emax : Int), .int .i64 (F.wd : Int), .int .i64 (F.e : Int), .bool F.x] 56)).alloc (.cells #[.int .i64 4, .bool n, .int .u64 (M.hiN s : Int), .int .u64 (M.loN s : Int), .int .i64 q] 49)).alloc (.cells #[.int .u64 0, .int .u64 0] 25)) (w.heap.size + 1 + 1) 0 := by refine ⟨?_, ?_, ?_, ?_, ?_⟩ <;> simp [go_sem, hi0, lo0]
  have D0 : Below w.heap.size w (((w.alloc (.cells #[.int .i64 (F.p : Int), .int .i64 (1 - (F.emax : Int)), .int .i64 (F.emax : Int), .int .i64 (F.wd : Int), .int .i64 (F.e : Int), .bool F.x] 56)).alloc (.cells #[.int .i64 4, .bool n, .int .u64 (M.hiN s : Int), .int .u64 (M.loN s : Int), .int .i64 q] 49)).alloc (.cells #[.int .u64 0, .int .u64 0] 25)) := b0
  have K0 : (fun v => v.cell? ⟨w.heap.size, 0, none⟩ = some (.int .i64 (F.p : Int)) ∧ v.cell? ⟨w.heap.size, 1, none⟩ = some (.int .i64 (1 - (F.emax : Int))) ∧ v.cell? ⟨w.heap.size, 2, none⟩ = some (.int .i64 (F.emax : Int)) ∧ v.cell? ⟨w.heap.size, 3, none⟩ = some (.int .i64 (F.wd : Int)) ∧ v.cell? ⟨w.heap.size, 4, none⟩ = some (.int .i64 (F.e : Int)) ∧ v.cell? ⟨w.heap.size, 5, none⟩ = some (.bool F.x) ∧ v.cell? ⟨w.heap.size + 1, 0, none⟩ = some (.int .i64 4) ∧ v.cell? ⟨w.heap.size + 1, 1, none⟩ = some (.bool n) ∧ v.cell? ⟨w.heap.size + 1, 2, none⟩ = some (.int .u64 (M.hiN s : Int)) ∧ v.cell? ⟨w.heap.size + 1, 3, none⟩ = some (.int .u64 (M.loN s : Int)) ∧ v.cell? ⟨w.heap.size + 1, 4, none⟩ = some (.int .i64 q)) (((w.alloc (.cells #[.int .i64 (F.p : Int), .int .i64 (1 - (F.emax : Int)), .int .i64 (F.emax : Int), .int .i64 (F.wd : Int), .int .i64 (F.e : Int), .bool F.x] 56)).alloc (.cells #[.int .i64 4, .bool n, .int .u64 (M.hiN s : Int), .int .u64 (M.loN s : Int), .int .i64 q] 49)).alloc (.cells #[.int .u64 0, .int .u64 0] 25)) := by refine ⟨?_, ?_, ?_, ?_, ?_, ?_, ?_, ?_, ?_, ?_, ?_⟩ <;> simp [go_sem]
  have ls : w.heap.size + 1 + 1 < (((w.alloc (.cells #[.int .i64 (F.p : Int), .int .i64 (1 - (F.emax : Int)), .int .i64 (F.emax : Int), .int .i64 (F.wd : Int), .int .i64 (F.e : Int), .bool F.x] 56)).alloc (.cells #[.int .i64 4, .bool n, .int .u64 (M.hiN s : Int), .int .u64 (M.loN s : Int), .int .i64 q] 49)).alloc (.cells #[.int .u64 0, .int .u64 0] 25)).heap.size := by simp
  generalize hV : (((w.alloc (.cells #[.int .i64 (F.p : Int), .int .i64 (1 - (F.emax : Int)), .int .i64 (F.emax : Int), .int .i64 (F.wd : Int), .int .i64 (F.e : Int), .bool F.x] 56)).alloc (.cells #[.int .i64 4, .bool n, .int .u64 (M.hiN s : Int), .int .u64 (M.loN s : Int), .int .i64 q] 49)).alloc (.cells #[.int .u64 0, .int .u64 0] 25)) = V at *
  have KB : ∀ v, Below V.heap.size V v → (fun v => v.cell? ⟨w.heap.size, 0, none⟩ = some (.int .i64 (F.p : Int)) ∧ v.cell? ⟨w.heap.size, 1, none⟩ = some (.int .i64 (1 - (F.emax : Int))) ∧ v.cell? ⟨w.heap.size, 2, none⟩ = some (.int .i64 (F.emax : Int)) ∧ v.cell? ⟨w.heap.size, 3, none⟩ = some (.int .i64 (F.wd : Int)) ∧ v.cell? ⟨w.heap.size, 4, none⟩ = some (.int .i64 (F.e : Int)) ∧ v.cell? ⟨w.heap.size, 5, none⟩ = some (.bool F.x) ∧ v.cell? ⟨w.heap.size + 1, 0, none⟩ = some (.int .i64 4) ∧ v.cell? ⟨w.heap.size + 1, 1, none⟩ = some (.bool n) ∧ v.cell? ⟨w.heap.size + 1, 2, none⟩ = some (.int .u64 (M.hiN s : Int)) ∧ v.cell? ⟨w.heap.size + 1, 3, none⟩ = some (.int .u64 (M.loN s : Int)) ∧ v.cell? ⟨w.heap.size + 1, 4, none⟩ = some (.int .i64 q)) v := fun v hv => by
    obtain ⟨d0, d1, d2, d3, d4, d5, p0, p1, p2, p3, p4⟩ := K0
    exact ⟨(hv.cell (by simp only; omega)).trans d0, (hv.cell (by simp only; omega)).trans d1, (hv.cell (by simp only; omega)).trans d2, (hv.cell (by simp only; omega)).trans d3, (hv.cell (by simp only; omega)).trans d4, (hv.cell (by simp only; omega)).trans d5, (hv.cell (by simp only; omega)).trans p0, (hv.cell (by simp only; omega)).trans p1, (hv.cell (by simp only; omega)).trans p2, (hv.cell (by simp only; omega)).trans p3, (hv.cell (by simp only; omega)).trans p4⟩
  have KS : ∀ v x y, Below V.heap.size V v → (fun v => v.cell? ⟨w.heap.size, 0, none⟩ = some (.int .i64 (F.p : Int)) ∧ v.cell? ⟨w.heap.size, 1, none⟩ = some (.int .i64 (1 - (F.emax : Int))) ∧ v.cell? ⟨w.heap.size, 2, none⟩ = some (.int .i64 (F.emax : Int)) ∧ v.cell? ⟨w.heap.size, 3, none⟩ = some (.int .i64 (F.wd : Int)) ∧ v.cell? ⟨w.heap.size, 4, none⟩ = some (.int .i64 (F.e : Int)) ∧ v.cell? ⟨w.heap.size, 5, none⟩ = some (.bool F.x) ∧ v.cell? ⟨w.heap.size + 1, 0, none⟩ = some (.int .i64 4) ∧ v.cell? ⟨w.heap.size + 1, 1, none⟩ = some (.bool n) ∧ v.cell? ⟨w.heap.size + 1, 2, none⟩ = some (.int .u64 (M.hiN s : Int)) ∧ v.cell? ⟨w.heap.size + 1, 3, none⟩ = some (.int .u64 (M.loN s : Int)) ∧ v.cell? ⟨w.heap.size + 1, 4, none⟩ = some (.int .i64 q)) ((v.setCell ⟨w.heap.size + 1 + 1, 0, none⟩ x).setCell ⟨w.heap.size + 1 + 1, 1, none⟩ y) := fun v x y hv => by
    obtain ⟨d0, d1, d2, d3, d4, d5, p0, p1, p2, p3, p4⟩ := KB v hv
    exact ⟨(far2 v _ _ (by omega)).trans d0, (far2 v _ _ (by omega)).trans d1, (far2 v _ _ (by omega)).trans d2, (far2 v _ _ (by omega)).trans d3, (far2 v _ _ (by omega)).trans d4, (far2 v _ _ (by omega)).trans d5, (far2 v _ _ (by omega)).trans p0, (far2 v _ _ (by omega)).trans p1, (far2 v _ _ (by omega)).trans p2, (far2 v _ _ (by omega)).trans p3, (far2 v _ _ (by omega)).trans p4⟩
  have A0 : Below V.heap.size V V.drew := (Below.refl _ _).drew
  go_enter Tryd.func81, Tryd.ntmps81
  go_upto_region 7 with fail
  clear hV K0
  go_region_held3 (fun v => v.cell? ⟨w.heap.size, 0, none⟩ = some (.int .i64 (F.p : Int)) ∧ v.cell? ⟨w.heap.size, 1, none⟩ = some (.int .i64 (1 - (F.emax : Int))) ∧ v.cell? ⟨w.heap.size, 2, none⟩ = some (.int .i64 (F.emax : Int)) ∧ v.cell? ⟨w.heap.size, 3, none⟩ = some (.int .i64 (F.wd : Int)) ∧ v.cell? ⟨w.heap.size, 4, none⟩ = some (.int .i64 (F.e : Int)) ∧ v.cell? ⟨w.heap.size, 5, none⟩ = some (.bool F.x) ∧ v.cell? ⟨w.heap.size + 1, 0, none⟩ = some (.int .i64 4) ∧ v.cell? ⟨w.heap.size + 1, 1, none⟩ = some (.bool n) ∧ v.cell? ⟨w.heap.size + 1, 2, none⟩ = some (.int .u64 (M.hiN s : Int)) ∧ v.cell? ⟨w.heap.size + 1, 3, none⟩ = some (.int .u64 (M.loN s : Int)) ∧ v.cell? ⟨w.heap.size + 1, 4, none⟩ = some (.int .i64 q)) (first | with_reducible exact KB _ hb3 | with_reducible exact KB _ hb2 | with_reducible exact KB _ hb1 | with_reducible exact KB _ A0 | with_reducible exact KS _ _ _ hb3)
    (first | (have hq := hb2; clear hq; go_at_call 72; refine (kJ _).mono ?_; rintro e u3 ⟨rfl, hb0⟩; have hb3 := keepC (w1 := V) hb2 hb0; clear hb0; obtain ⟨r0, r1, r2, r3, -⟩ := R0.below hb3) | (have hq := hb1; clear hq; go_at_call 71; refine (kL _).mono ?_; rintro e u2 ⟨rfl, hb0⟩; have hb2 := keepC (w1 := V) hb1 hb0; clear hb0) | (go_at_call 73; refine (kT _).mono ?_; rintro e u1 ⟨rfl, hb0⟩; have hb1 := keepC (w1 := V) A0 hb0; clear hb0))
  all_goals go_wp2_with fail
  all_goals have bb := b0.trans (hb3.mono b0.size)
  all_goals exact bodyPost_ret (v := .agg #[.int .u64 (M.hiN Q : Int), .int .u64 (M.loN Q : Int)]) (by simp [results, Tryd.results81, go_sem, r0, r1]) rfl ⟨rfl, (bb.setCell (p := ⟨w.heap.size + 1 + 1, 0, none⟩) (by simp only; omega) _).setCell (p := ⟨w.heap.size + 1 + 1, 1, none⟩) (by simp only; omega) _⟩

set_option maxRecDepth 10000 in
set_option maxHeartbeats 4000000 in
theorem dpack5 (F : M.Fm) (h : F.Ok) (n : Bool) (s : Nat) (q : Int) (hs : s < 2 ^ 128) (w : World)  :
    Calls Tryd.prog 81 #[.agg #[.int .i64 (F.p : Int), .int .i64 (1 - (F.emax : Int)), .int .i64 (F.emax : Int), .int .i64 (F.wd : Int), .int .i64 (F.e : Int), .bool F.x], .agg #[.int .i64 5, .bool n, .int .u64 (M.hiN s : Int), .int .u64 (M.loN s : Int), .int .i64 q]] w fun e w' => e = .returned (.agg #[.int .u64 (M.hiN (jn F false (F.top : Int) ((F.lead + 2 ^ (F.p - 2)) % 2 ^ 128)) : Int), .int .u64 (M.loN (jn F false (F.top : Int) ((F.lead + 2 ^ (F.p - 2)) % 2 ^ 128)) : Int)]) ∧ Below w.heap.size w w' := by
  have kT := fun v : World => dTop F h v
  have kL := fun v : World => dLead F h v
  have hp2 : 2 ≤ F.p := by have := h.p1; omega
  have hp3 := h.p2
  have hb2 : 2 ^ (F.p - 2) < 2 ^ 128 := Nat.pow_lt_pow_right (by omega) (by omega)
  have kB : ∀ (v : World) (z : Int), z = (F.p : Int) - 2 → Calls Tryd.prog 91 #[.int .i64 z] v fun e w' => e = .returned (.agg #[.int .u64 (M.hiN (2 ^ (F.p - 2)) : Int), .int .u64 (M.loN (2 ^ (F.p - 2)) : Int)]) ∧ Below v.heap.size v w' := fun v z hz => by
    rw [hz, show (F.p : Int) - 2 = ((F.p - 2 : Nat) : Int) by omega]
    exact wbitAt (F.p - 2) v (by omega) _ rfl
  have kP := fun v : World => wplus F.lead (2 ^ (F.p - 2)) v (lead_lt h) hb2 _ rfl
  have kJ := fun v : World => djoin F h false (F.top : Int) ((F.lead + 2 ^ (F.p - 2)) % 2 ^ 128) (Nat.mod_lt _ (by omega)) v
  simp only [dv] at kT kL
  generalize (F.lead + 2 ^ (F.p - 2)) % 2 ^ 128 = Y at *
  generalize 2 ^ (F.p - 2) = T at *
  generalize jn F false (F.top : Int) Y = Q at *
  have b0 : Below w.heap.size w (((w.alloc (.cells #[.int .i64 (F.p : Int), .int .i64 (1 - (F.emax : Int)), .int .i64 (F.emax : Int), .int .i64 (F.wd : Int), .int .i64 (F.e : Int), .bool F.x] 56)).alloc (.cells #[.int .i64 5, .bool n, .int .u64 (M.hiN s : Int), .int .u64 (M.loN s : Int), .int .i64 q] 49)).alloc (.cells #[.int .u64 0, .int .u64 0] 25)) := (((Below.refl _ _).alloc (Nat.le_refl _) _).alloc (by simp) _).alloc (by simp; omega) _
  have R0 : W2 (((w.alloc (.cells #[.int .i64 (F.p : Int), .int .i64 (1 - (F.emax : Int)), .int .i64 (F.emax : Int), .int .i64 (F.wd : Int), .int .i64 (F.e : Int), .bool F.x] 56)).alloc (.cells #[.int .i64 5, .bool n, .int .u64 (M.hiN s : Int), .int .u64 (M.loN s : Int), .int .i64 q] 49)).alloc (.cells #[.int .u64 0, .int .u64 0] 25)) (w.heap.size + 1 + 1) 0 := by refine ⟨?_, ?_, ?_, ?_, ?_⟩ <;> simp [go_sem, hi0, lo0]
  have D0 : Below w.heap.size w (((w.alloc (.cells #[.int .i64 (F.p : Int), .int .i64 (1 - (F.emax : Int)), .int .i64 (F.emax : Int), .int .i64 (F.wd : Int), .int .i64 (F.e : Int), .bool F.x] 56)).alloc (.cells #[.int .i64 5, .bool n, .int .u64 (M.hiN s : Int), .int .u64 (M.loN s : Int), .int .i64 q] 49)).alloc (.cells #[.int .u64 0, .int .u64 0] 25)) := b0
  have K0 : (fun v => v.cell? ⟨w.heap.size, 0, none⟩ = some (.int .i64 (F.p : Int)) ∧ v.cell? ⟨w.heap.size, 1, none⟩ = some (.int .i64 (1 - (F.emax : Int))) ∧ v.cell? ⟨w.heap.size, 2, none⟩ = some (.int .i64 (F.emax : Int)) ∧ v.cell? ⟨w.heap.size, 3, none⟩ = some (.int .i64 (F.wd : Int)) ∧ v.cell? ⟨w.heap.size, 4, none⟩ = some (.int .i64 (F.e : Int)) ∧ v.cell? ⟨w.heap.size, 5, none⟩ = some (.bool F.x) ∧ v.cell? ⟨w.heap.size + 1, 0, none⟩ = some (.int .i64 5) ∧ v.cell? ⟨w.heap.size + 1, 1, none⟩ = some (.bool n) ∧ v.cell? ⟨w.heap.size + 1, 2, none⟩ = some (.int .u64 (M.hiN s : Int)) ∧ v.cell? ⟨w.heap.size + 1, 3, none⟩ = some (.int .u64 (M.loN s : Int)) ∧ v.cell? ⟨w.heap.size + 1, 4, none⟩ = some (.int .i64 q)) (((w.alloc (.cells #[.int .i64 (F.p : Int), .int .i64 (1 - (F.emax : Int)), .int .i64 (F.emax : Int), .int .i64 (F.wd : Int), .int .i64 (F.e : Int), .bool F.x] 56)).alloc (.cells #[.int .i64 5, .bool n, .int .u64 (M.hiN s : Int), .int .u64 (M.loN s : Int), .int .i64 q] 49)).alloc (.cells #[.int .u64 0, .int .u64 0] 25)) := by refine ⟨?_, ?_, ?_, ?_, ?_, ?_, ?_, ?_, ?_, ?_, ?_⟩ <;> simp [go_sem]
  have ls : w.heap.size + 1 + 1 < (((w.alloc (.cells #[.int .i64 (F.p : Int), .int .i64 (1 - (F.emax : Int)), .int .i64 (F.emax : Int), .int .i64 (F.wd : Int), .int .i64 (F.e : Int), .bool F.x] 56)).alloc (.cells #[.int .i64 5, .bool n, .int .u64 (M.hiN s : Int), .int .u64 (M.loN s : Int), .int .i64 q] 49)).alloc (.cells #[.int .u64 0, .int .u64 0] 25)).heap.size := by simp
  generalize hV : (((w.alloc (.cells #[.int .i64 (F.p : Int), .int .i64 (1 - (F.emax : Int)), .int .i64 (F.emax : Int), .int .i64 (F.wd : Int), .int .i64 (F.e : Int), .bool F.x] 56)).alloc (.cells #[.int .i64 5, .bool n, .int .u64 (M.hiN s : Int), .int .u64 (M.loN s : Int), .int .i64 q] 49)).alloc (.cells #[.int .u64 0, .int .u64 0] 25)) = V at *
  have KB : ∀ v, Below V.heap.size V v → (fun v => v.cell? ⟨w.heap.size, 0, none⟩ = some (.int .i64 (F.p : Int)) ∧ v.cell? ⟨w.heap.size, 1, none⟩ = some (.int .i64 (1 - (F.emax : Int))) ∧ v.cell? ⟨w.heap.size, 2, none⟩ = some (.int .i64 (F.emax : Int)) ∧ v.cell? ⟨w.heap.size, 3, none⟩ = some (.int .i64 (F.wd : Int)) ∧ v.cell? ⟨w.heap.size, 4, none⟩ = some (.int .i64 (F.e : Int)) ∧ v.cell? ⟨w.heap.size, 5, none⟩ = some (.bool F.x) ∧ v.cell? ⟨w.heap.size + 1, 0, none⟩ = some (.int .i64 5) ∧ v.cell? ⟨w.heap.size + 1, 1, none⟩ = some (.bool n) ∧ v.cell? ⟨w.heap.size + 1, 2, none⟩ = some (.int .u64 (M.hiN s : Int)) ∧ v.cell? ⟨w.heap.size + 1, 3, none⟩ = some (.int .u64 (M.loN s : Int)) ∧ v.cell? ⟨w.heap.size + 1, 4, none⟩ = some (.int .i64 q)) v := fun v hv => by
    obtain ⟨d0, d1, d2, d3, d4, d5, p0, p1, p2, p3, p4⟩ := K0
    exact ⟨(hv.cell (by simp only; omega)).trans d0, (hv.cell (by simp only; omega)).trans d1, (hv.cell (by simp only; omega)).trans d2, (hv.cell (by simp only; omega)).trans d3, (hv.cell (by simp only; omega)).trans d4, (hv.cell (by simp only; omega)).trans d5, (hv.cell (by simp only; omega)).trans p0, (hv.cell (by simp only; omega)).trans p1, (hv.cell (by simp only; omega)).trans p2, (hv.cell (by simp only; omega)).trans p3, (hv.cell (by simp only; omega)).trans p4⟩
  have KS : ∀ v x y, Below V.heap.size V v → (fun v => v.cell? ⟨w.heap.size, 0, none⟩ = some (.int .i64 (F.p : Int)) ∧ v.cell? ⟨w.heap.size, 1, none⟩ = some (.int .i64 (1 - (F.emax : Int))) ∧ v.cell? ⟨w.heap.size, 2, none⟩ = some (.int .i64 (F.emax : Int)) ∧ v.cell? ⟨w.heap.size, 3, none⟩ = some (.int .i64 (F.wd : Int)) ∧ v.cell? ⟨w.heap.size, 4, none⟩ = some (.int .i64 (F.e : Int)) ∧ v.cell? ⟨w.heap.size, 5, none⟩ = some (.bool F.x) ∧ v.cell? ⟨w.heap.size + 1, 0, none⟩ = some (.int .i64 5) ∧ v.cell? ⟨w.heap.size + 1, 1, none⟩ = some (.bool n) ∧ v.cell? ⟨w.heap.size + 1, 2, none⟩ = some (.int .u64 (M.hiN s : Int)) ∧ v.cell? ⟨w.heap.size + 1, 3, none⟩ = some (.int .u64 (M.loN s : Int)) ∧ v.cell? ⟨w.heap.size + 1, 4, none⟩ = some (.int .i64 q)) ((v.setCell ⟨w.heap.size + 1 + 1, 0, none⟩ x).setCell ⟨w.heap.size + 1 + 1, 1, none⟩ y) := fun v x y hv => by
    obtain ⟨d0, d1, d2, d3, d4, d5, p0, p1, p2, p3, p4⟩ := KB v hv
    exact ⟨(far2 v _ _ (by omega)).trans d0, (far2 v _ _ (by omega)).trans d1, (far2 v _ _ (by omega)).trans d2, (far2 v _ _ (by omega)).trans d3, (far2 v _ _ (by omega)).trans d4, (far2 v _ _ (by omega)).trans d5, (far2 v _ _ (by omega)).trans p0, (far2 v _ _ (by omega)).trans p1, (far2 v _ _ (by omega)).trans p2, (far2 v _ _ (by omega)).trans p3, (far2 v _ _ (by omega)).trans p4⟩
  have A0 : Below V.heap.size V V.drew := (Below.refl _ _).drew
  go_enter Tryd.func81, Tryd.ntmps81
  go_upto_region 9 with fail
  clear hV K0
  go_region_held3 (fun v => v.cell? ⟨w.heap.size, 0, none⟩ = some (.int .i64 (F.p : Int)) ∧ v.cell? ⟨w.heap.size, 1, none⟩ = some (.int .i64 (1 - (F.emax : Int))) ∧ v.cell? ⟨w.heap.size, 2, none⟩ = some (.int .i64 (F.emax : Int)) ∧ v.cell? ⟨w.heap.size, 3, none⟩ = some (.int .i64 (F.wd : Int)) ∧ v.cell? ⟨w.heap.size, 4, none⟩ = some (.int .i64 (F.e : Int)) ∧ v.cell? ⟨w.heap.size, 5, none⟩ = some (.bool F.x) ∧ v.cell? ⟨w.heap.size + 1, 0, none⟩ = some (.int .i64 5) ∧ v.cell? ⟨w.heap.size + 1, 1, none⟩ = some (.bool n) ∧ v.cell? ⟨w.heap.size + 1, 2, none⟩ = some (.int .u64 (M.hiN s : Int)) ∧ v.cell? ⟨w.heap.size + 1, 3, none⟩ = some (.int .u64 (M.loN s : Int)) ∧ v.cell? ⟨w.heap.size + 1, 4, none⟩ = some (.int .i64 q)) (first | with_reducible exact KB _ hb5 | with_reducible exact KB _ hb4 | with_reducible exact KB _ hb3 | with_reducible exact KB _ hb2 | with_reducible exact KB _ hb1 | with_reducible exact KB _ A0 | with_reducible exact KS _ _ _ hb5)
    (first | (have hq := hb4; clear hq; go_at_call 72; refine (kJ _).mono ?_; rintro e u5 ⟨rfl, hb0⟩; have hb5 := keepC (w1 := V) hb4 hb0; clear hb0; obtain ⟨r0, r1, r2, r3, -⟩ := R0.below hb5) | (have hq := hb3; clear hq; go_at_call 43; refine (kP _).mono ?_; rintro e u4 ⟨rfl, hb0⟩; have hb4 := keepC (w1 := V) hb3 hb0; clear hb0) | (have hq := hb2; clear hq; go_at_call 91; refine (kB _ _ (by first | with_reducible rfl | omega | (simp only [IntKind.wrap_i64]; omega))).mono ?_; rintro e u3 ⟨rfl, hb0⟩; have hb3 := keepC (w1 := V) hb2 hb0; clear hb0) | (have hq := hb1; clear hq; go_at_call 71; refine (kL _).mono ?_; rintro e u2 ⟨rfl, hb0⟩; have hb2 := keepC (w1 := V) hb1 hb0; clear hb0) | (go_at_call 73; refine (kT _).mono ?_; rintro e u1 ⟨rfl, hb0⟩; have hb1 := keepC (w1 := V) A0 hb0; clear hb0))
  all_goals go_wp2_with fail
  all_goals have bb := b0.trans (hb5.mono b0.size)
  all_goals exact bodyPost_ret (v := .agg #[.int .u64 (M.hiN Q : Int), .int .u64 (M.loN Q : Int)]) (by simp [results, Tryd.results81, go_sem, r0, r1]) rfl ⟨rfl, (bb.setCell (p := ⟨w.heap.size + 1 + 1, 0, none⟩) (by simp only; omega) _).setCell (p := ⟨w.heap.size + 1 + 1, 1, none⟩) (by simp only; omega) _⟩

end Go.Proofs.YtehplfmnipadmaeDoor
