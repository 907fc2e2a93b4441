import Derived.Test.YtliflblcieepiacTp3
import Derived.Deep.CutBlock
import Derived.Deep.DeepCutAuto
import Derived.Deep.RegionHeld3
namespace Go.Proofs.Ytliflblcieepiac
open Go.RowKit Go.Maps
open Go.MuLone
set_option linter.unusedVariables false
set_option maxRecDepth 100000

/-- Seven cells of a variable of a power that is still zero. -/
structure Z7 (v : World) (g : Nat) : Prop where
  c0 : v.cell? ⟨g, 0, none⟩ = some (.int .i64 0)
  c1 : v.cell? ⟨g, 1, none⟩ = some (.int .i64 0)
  c2 : v.cell? ⟨g, 2, none⟩ = some (.int .u64 0)
  c3 : v.cell? ⟨g, 3, none⟩ = some (.int .u64 0)
  c4 : v.cell? ⟨g, 4, none⟩ = some (.int .i64 0)
  c5 : v.cell? ⟨g, 5, none⟩ = some (.bool false)
  c6 : v.cell? ⟨g, 6, none⟩ = some (.bool false)
  f0 : v.frozen? ⟨g, 0, none⟩ = false
  f1 : v.frozen? ⟨g, 1, none⟩ = false
  f2 : v.frozen? ⟨g, 2, none⟩ = false
  f3 : v.frozen? ⟨g, 3, none⟩ = false
  f4 : v.frozen? ⟨g, 4, none⟩ = false
  f5 : v.frozen? ⟨g, 5, none⟩ = false
  f6 : v.frozen? ⟨g, 6, none⟩ = false
  lt : g < v.heap.size

theorem Z7_new (v : World) : Z7 (v.alloc (.cells #[.int .i64 0, .int .i64 0, .int .u64 0, .int .u64 0, .int .i64 0, .bool false, .bool false] 58)) v.heap.size := by
  constructor <;> simp [go_sem]

theorem Z7.below {v v' : World} {g : Nat} (h : Z7 v g) (hb : Below v.heap.size v v') : Z7 v' g :=
  ⟨(hb.cell h.lt).trans h.c0, (hb.cell h.lt).trans h.c1, (hb.cell h.lt).trans h.c2, (hb.cell h.lt).trans h.c3, (hb.cell h.lt).trans h.c4, (hb.cell h.lt).trans h.c5, (hb.cell h.lt).trans h.c6, (hb.frozen h.lt).trans h.f0, (hb.frozen h.lt).trans h.f1, (hb.frozen h.lt).trans h.f2, (hb.frozen h.lt).trans h.f3, (hb.frozen h.lt).trans h.f4, (hb.frozen h.lt).trans h.f5, (hb.frozen h.lt).trans h.f6, Nat.lt_of_lt_of_le h.lt hb.size⟩

theorem Z7.al {v : World} {g : Nat} (h : Z7 v g) (o : Obj) : Z7 (v.alloc o) g := h.below ((Below.refl _ _).alloc (Nat.le_refl _) o)

theorem own_keep {v v' : World} {bm : Nat} (h : v.ownsMap Try.prog 164 Rz bm 0 (.map [])) (hb : Below v.heap.size v v') (hl : bm < v.heap.size) : v'.ownsMap Try.prog 164 Rz bm 0 (.map []) := by
  obtain ⟨es, clock, h1, r⟩ := h
  exact ⟨es, clock, (hb.block bm hl).trans h1, r⟩

theorem far7 (v : World) (g : Nat) (a b c d e f i : Value) : (∀ k o, k ≠ g → (((((((v.setCell ⟨g, 0, none⟩ (a)).setCell ⟨g, 1, none⟩ (b)).setCell ⟨g, 2, none⟩ (c)).setCell ⟨g, 3, none⟩ (d)).setCell ⟨g, 4, none⟩ (e)).setCell ⟨g, 5, none⟩ (f)).setCell ⟨g, 6, none⟩ (i)).cell? ⟨k, o, none⟩ = v.cell? ⟨k, o, none⟩) ∧ (∀ k o, k ≠ g → (((((((v.setCell ⟨g, 0, none⟩ (a)).setCell ⟨g, 1, none⟩ (b)).setCell ⟨g, 2, none⟩ (c)).setCell ⟨g, 3, none⟩ (d)).setCell ⟨g, 4, none⟩ (e)).setCell ⟨g, 5, none⟩ (f)).setCell ⟨g, 6, none⟩ (i)).frozen? ⟨k, o, none⟩ = v.frozen? ⟨k, o, none⟩) ∧ (((((((v.setCell ⟨g, 0, none⟩ (a)).setCell ⟨g, 1, none⟩ (b)).setCell ⟨g, 2, none⟩ (c)).setCell ⟨g, 3, none⟩ (d)).setCell ⟨g, 4, none⟩ (e)).setCell ⟨g, 5, none⟩ (f)).setCell ⟨g, 6, none⟩ (i)).heap.size = v.heap.size ∧ (∀ (n : Nat) (w : World), Below n w v → n ≤ g → Below n w (((((((v.setCell ⟨g, 0, none⟩ (a)).setCell ⟨g, 1, none⟩ (b)).setCell ⟨g, 2, none⟩ (c)).setCell ⟨g, 3, none⟩ (d)).setCell ⟨g, 4, none⟩ (e)).setCell ⟨g, 5, none⟩ (f)).setCell ⟨g, 6, none⟩ (i))) := by
  have hh : ∀ k, k ≠ g → (((((((v.setCell ⟨g, 0, none⟩ (a)).setCell ⟨g, 1, none⟩ (b)).setCell ⟨g, 2, none⟩ (c)).setCell ⟨g, 3, none⟩ (d)).setCell ⟨g, 4, none⟩ (e)).setCell ⟨g, 5, none⟩ (f)).setCell ⟨g, 6, none⟩ (i)).heap[k]? = v.heap[k]? := fun k hk => ((((((Below.heap_setCell _ _ _ _ hk).trans (Below.heap_setCell _ _ _ _ hk)).trans (Below.heap_setCell _ _ _ _ hk)).trans (Below.heap_setCell _ _ _ _ hk)).trans (Below.heap_setCell _ _ _ _ hk)).trans (Below.heap_setCell _ _ _ _ hk)).trans (Below.heap_setCell _ _ _ _ hk)
  refine ⟨fun k o hk => World.cell?_of_block (w := v) (a := ⟨k, o, none⟩) (hh k hk), fun k o hk => World.frozen?_of_block (w := v) (a := ⟨k, o, none⟩) (hh k hk), by simp, fun n w h hg => ?_⟩
  exact ((((((h.setCell (p := ⟨g, 0, none⟩) hg a).setCell (p := ⟨g, 1, none⟩) hg b).setCell (p := ⟨g, 2, none⟩) hg c).setCell (p := ⟨g, 3, none⟩) hg d).setCell (p := ⟨g, 4, none⟩) hg e).setCell (p := ⟨g, 5, none⟩) hg f).setCell (p := ⟨g, 6, none⟩) hg i

theorem set7_cells {v : World} {g : Nat} (h : Z7 v g) (a b c d e f i : Value) : (((((((v.setCell ⟨g, 0, none⟩ (a)).setCell ⟨g, 1, none⟩ (b)).setCell ⟨g, 2, none⟩ (c)).setCell ⟨g, 3, none⟩ (d)).setCell ⟨g, 4, none⟩ (e)).setCell ⟨g, 5, none⟩ (f)).setCell ⟨g, 6, none⟩ (i)).cell? ⟨g, 0, none⟩ = some a ∧ (((((((v.setCell ⟨g, 0, none⟩ (a)).setCell ⟨g, 1, none⟩ (b)).setCell ⟨g, 2, none⟩ (c)).setCell ⟨g, 3, none⟩ (d)).setCell ⟨g, 4, none⟩ (e)).setCell ⟨g, 5, none⟩ (f)).setCell ⟨g, 6, none⟩ (i)).cell? ⟨g, 1, none⟩ = some b ∧ (((((((v.setCell ⟨g, 0, none⟩ (a)).setCell ⟨g, 1, none⟩ (b)).setCell ⟨g, 2, none⟩ (c)).setCell ⟨g, 3, none⟩ (d)).setCell ⟨g, 4, none⟩ (e)).setCell ⟨g, 5, none⟩ (f)).setCell ⟨g, 6, none⟩ (i)).cell? ⟨g, 2, none⟩ = some c ∧ (((((((v.setCell ⟨g, 0, none⟩ (a)).setCell ⟨g, 1, none⟩ (b)).setCell ⟨g, 2, none⟩ (c)).setCell ⟨g, 3, none⟩ (d)).setCell ⟨g, 4, none⟩ (e)).setCell ⟨g, 5, none⟩ (f)).setCell ⟨g, 6, none⟩ (i)).cell? ⟨g, 3, none⟩ = some d ∧ (((((((v.setCell ⟨g, 0, none⟩ (a)).setCell ⟨g, 1, none⟩ (b)).setCell ⟨g, 2, none⟩ (c)).setCell ⟨g, 3, none⟩ (d)).setCell ⟨g, 4, none⟩ (e)).setCell ⟨g, 5, none⟩ (f)).setCell ⟨g, 6, none⟩ (i)).cell? ⟨g, 4, none⟩ = some e ∧ (((((((v.setCell ⟨g, 0, none⟩ (a)).setCell ⟨g, 1, none⟩ (b)).setCell ⟨g, 2, none⟩ (c)).setCell ⟨g, 3, none⟩ (d)).setCell ⟨g, 4, none⟩ (e)).setCell ⟨g, 5, none⟩ (f)).setCell ⟨g, 6, none⟩ (i)).cell? ⟨g, 5, none⟩ = some f ∧ (((((((v.setCell ⟨g, 0, none⟩ (a)).setCell ⟨g, 1, none⟩ (b)).setCell ⟨g, 2, none⟩ (c)).setCell ⟨g, 3, none⟩ (d)).setCell ⟨g, 4, none⟩ (e)).setCell ⟨g, 5, none⟩ (f)).setCell ⟨g, 6, none⟩ (i)).cell? ⟨g, 6, none⟩ = some i := by
  obtain ⟨z0, z1, z2, z3, z4, z5, z6, g0, g1, g2, g3, g4, g5, g6, gl⟩ := h
  simp [go_sem, z0, z1, z2, z3, z4, z5, z6]

theorem turned_cell {w w' : World} {b : Nat} (h : w.mapTurned w' b) (g o : Nat) (hl : g < w.heap.size) (hn : g ≠ b) : w'.cell? ⟨g, o, none⟩ = w.cell? ⟨g, o, none⟩ := by
  have hblk := h.grown.block g hl (fun e => hn (Option.some.inj e))
  simp only [World.cell?, hblk]

set_option maxRecDepth 10000 in
set_option maxHeartbeats 4000000 in
theorem entry_in (tb bm : Nat) (k W E : Int) (T : Nat) (x : Bool) (w : World) (h : -5200 ≤ k ∧ k ≤ 5200 ∧ 1 ≤ W ∧ W ≤ 128)
    (c0 : w.cell? ⟨tb, 0, none⟩ = some (.int .i32 0)) (c2 : w.cell? ⟨tb, 2, none⟩ = some (.map (some bm))) (f0 : w.frozen? ⟨tb, 0, none⟩ = false) (hbt : bm ≠ tb) (hown : w.ownsMap Try.prog 164 Rz bm 0 (.map []))
    (B : Nat) (hB1 : B ≤ tb) (hB2 : B ≤ bm) (hB3 : B ≤ w.heap.size) (lbm : bm < w.heap.size)
    (kT : ∀ v : World, Calls Try.prog 101 #[.int .i64 k, .int .i64 W] v fun e v' => e = .returned (pwv k W T E x true) ∧ Below v.heap.size v v') :
    Calls Try.prog 71 #[.pointer (some ⟨tb, 0, none⟩), .int .i64 k, .int .i64 W] w fun e w' => e = .returned (pwv k W T E x true) ∧ Below B w w' := by
  have hd : decide (-5200 ≤ k ∧ k ≤ 5200) = true := decide_eq_true ⟨h.1, h.2.1⟩
  have hwd : decide (1 ≤ W ∧ W ≤ 128) = true := decide_eq_true ⟨h.2.2.1, h.2.2.2⟩
  have hkey := key2 k W (WalkArith.wf_i64 (by omega)) (WalkArith.wf_i64 (by omega))
  have ltb : tb < w.heap.size := World.block_lt_of_cell? w _ c0
  unfold pwv at kT ⊢
  have b0 : Below w.heap.size w (w.alloc (.cells #[.int .i64 0, .int .i64 0, .int .u64 0, .int .u64 0, .int .i64 0, .bool false, .bool false] 58)) := (Below.refl _ _).alloc (Nat.le_refl _) _
  have d0 := (b0.cell (p := ⟨tb, 0, none⟩) ltb).trans c0
  have e0 := (b0.frozen (p := ⟨tb, 0, none⟩) ltb).trans f0
  -- the world ahead of the search in the map
  obtain ⟨V, hV⟩ : ∃ V, V = ((w.setCell ⟨tb, 0, none⟩ (.int .i32 1)).alloc (.cells #[.int .i64 0, .int .i64 0, .int .u64 0, .int .u64 0, .int .i64 0, .bool false, .bool false] 58)).alloc (.cells #[.int .i64 k, .int .i64 W] 164) := ⟨_, rfl⟩
  have g0 : (w.setCell ⟨tb, 0, none⟩ (.int .i32 1)).cell? ⟨tb, 0, none⟩ = some (.int .i32 1) := World.cell?_setCell_same w ⟨tb, 0, none⟩ (.int .i32 1) c0
  have g2 : (w.setCell ⟨tb, 0, none⟩ (.int .i32 1)).cell? ⟨tb, 2, none⟩ = some (.map (some bm)) := (World.cell?_setCell_other w ⟨tb, 0, none⟩ ⟨tb, 2, none⟩ _ (by simp)).trans c2
  have gf : (w.setCell ⟨tb, 0, none⟩ (.int .i32 1)).frozen? ⟨tb, 0, none⟩ = false := by simp [f0]
  have hsz : (w.setCell ⟨tb, 0, none⟩ (.int .i32 1)).heap.size = w.heap.size := by simp
  have ownS := hown.setCell (a := ⟨tb, 0, none⟩) hbt (.int .i32 1)
  have bS : Below B w (w.setCell ⟨tb, 0, none⟩ (.int .i32 1)) := (Below.refl B w).setCell (p := ⟨tb, 0, none⟩) hB1 _
  have bV1 : Below (w.setCell ⟨tb, 0, none⟩ (.int .i32 1)).heap.size (w.setCell ⟨tb, 0, none⟩ (.int .i32 1)) V := by rw [hV]; exact ((Below.refl _ _).alloc (Nat.le_refl _) _).alloc (by simp) _
  have ownV : V.ownsMap Try.prog 164 Rz bm 0 (.map []) := by rw [hV]; exact (ownS.alloc _).alloc _
  have t0 := (bV1.cell (p := ⟨tb, 0, none⟩) (by rw [hsz]; exact ltb)).trans g0
  have t2 := (bV1.cell (p := ⟨tb, 2, none⟩) (by rw [hsz]; exact ltb)).trans g2
  have tf := (bV1.frozen (p := ⟨tb, 0, none⟩) (by rw [hsz]; exact ltb)).trans gf
  have zR : Z7 V w.heap.size := by
    have := (Z7_new (w.setCell ⟨tb, 0, none⟩ (.int .i32 1))).al (.cells #[.int .i64 k, .int .i64 W] 164)
    rw [hsz] at this
    rw [hV]; exact this
  have k0 : V.cell? ⟨w.heap.size + 1, 0, none⟩ = some (.int .i64 k) := by rw [hV]; simp [go_sem]
  have k1 : V.cell? ⟨w.heap.size + 1, 1, none⟩ = some (.int .i64 W) := by rw [hV]; simp [go_sem]
  have sV : w.heap.size + 2 ≤ V.heap.size := by rw [hV]; simp
  have bV : Below B w V := bS.trans (bV1.mono (by rw [hsz]; exact hB3))
  clear g0 g2 gf ownS bS bV1 hsz
  go_enter_defers Try.func71, Try.ntmps71
  go_wp2_with fail
  refine (within_any k _).mono ?_
  rw [hd]
  rintro e v1 ⟨rfl, rfl⟩
  go_wp2_with fail
  refine (width_any W _).mono ?_
  rw [hwd]
  rintro e v1 ⟨rfl, rfl⟩
  go_wp2_with fail
  refine (lock_free Try.muLib ⟨tb, 0, none⟩ _ d0 e0).mono ?_
  rintro e v2 ⟨rfl, rfl⟩
  go_upto_region 6 with fail
  rw [← hV]
  clear hV d0 e0 b0 c0 c2 f0 hown hd hwd
  have hL0 := look_empty V.drew bm (ownV.drew) (.agg #[.int .i64 k, .int .i64 W]) hkey
  have hL1 := look_empty (V.alloc (.cells #[.int .i64 0, .int .i64 0, .int .u64 0, .int .u64 0, .int .i64 0, .bool false, .bool false] 58)).drew bm ((ownV.alloc _).drew) (.agg #[.int .i64 k, .int .i64 W]) hkey
  go_cut [8, 9] from 32 to 41 (fun p q wx => ∃ pb, p = .pointer (some ⟨pb, 0, none⟩) ∧ q = .bool false ∧ V.heap.size ≤ pb ∧ Z7 wx pb ∧ Below V.heap.size V wx)
  case first =>
    have lk : w.heap.size + 1 < V.heap.size := by omega
    have lt2 : tb < V.heap.size := by omega
    have KH : ∀ v, Below V.heap.size V v → (fun v => v.cell? ⟨tb, 2, none⟩ = some (.map (some bm)) ∧ v.cell? ⟨w.heap.size + 1, 0, none⟩ = some (.int .i64 k) ∧ v.cell? ⟨w.heap.size + 1, 1, none⟩ = some (.int .i64 W)) v := fun v hv => ⟨(hv.cell lt2).trans t2, (hv.cell lk).trans k0, (hv.cell lk).trans k1⟩
    have A0 : Below V.heap.size V V.drew := (Below.refl _ _).drew
    have A1 : Below V.heap.size V (V.alloc (.cells #[.int .i64 0, .int .i64 0, .int .u64 0, .int .u64 0, .int .i64 0, .bool false, .bool false] 58)).drew := ((Below.refl _ _).alloc (Nat.le_refl _) _).drew
    go_region_held3 (fun v => v.cell? ⟨tb, 2, none⟩ = some (.map (some bm)) ∧ v.cell? ⟨w.heap.size + 1, 0, none⟩ = some (.int .i64 k) ∧ v.cell? ⟨w.heap.size + 1, 1, none⟩ = some (.int .i64 W)) (first | with_reducible exact KH _ A0 | with_reducible exact KH _ A1) (fail)
    all_goals go_wp2_with fail
    all_goals go_meet
    all_goals exact ⟨V.heap.size, rfl, rfl, Nat.le_refl _, (Z7_new V).below (Below.refl _ _).drew, A1⟩
  case rest =>
    obtain ⟨pb, rfl, rfl, hpb, zP, hbx⟩ := hcut
    rename World => wx
    clear hL0 hL1
    go_wp2_with fail
    refine (kT _).mono ?_
    rintro e v3 ⟨rfl, hb3⟩
    clear kT
    have zP3 := zP.below hb3
    have b3 : Below V.heap.size V v3 := keepC1 hbx hb3
    have zR3 := zR.below b3
    have lk : w.heap.size + 1 < V.heap.size := by omega
    have lt2 : tb < V.heap.size := by omega
    have u0 := (b3.cell (p := ⟨tb, 0, none⟩) lt2).trans t0
    have u2 := (b3.cell (p := ⟨tb, 2, none⟩) lt2).trans t2
    have uf := (b3.frozen (p := ⟨tb, 0, none⟩) lt2).trans tf
    have m0 := (b3.cell (p := ⟨w.heap.size + 1, 0, none⟩) lk).trans k0
    have m1 := (b3.cell (p := ⟨w.heap.size + 1, 1, none⟩) lk).trans k1
    have own3 : v3.ownsMap Try.prog 164 Rz bm 0 (.map []) := own_keep ownV b3 (by omega)
    have B3 : Below B w v3 := bV.trans (b3.mono (Nat.le_trans hB3 (by omega)))
    have hs3 : V.heap.size ≤ v3.heap.size := b3.size
    clear zP hbx hb3 zR t0 t2 tf k0 k1 ownV bV b3
    have npb : bm ≠ pb := by omega
    have ntb : tb ≠ pb := by omega
    have nkb : w.heap.size + 1 ≠ pb := by omega
    have nrb : w.heap.size ≠ pb := by omega
    -- the world behind the variable's store
    obtain ⟨X, hX⟩ : ∃ X, X = (((((((v3.setCell ⟨pb, 0, none⟩ (.int .i64 k)).setCell ⟨pb, 1, none⟩ (.int .i64 W)).setCell ⟨pb, 2, none⟩ (.int .u64 (M.hiN T : Int))).setCell ⟨pb, 3, none⟩ (.int .u64 (M.loN T : Int))).setCell ⟨pb, 4, none⟩ (.int .i64 E)).setCell ⟨pb, 5, none⟩ (.bool x)).setCell ⟨pb, 6, none⟩ (.bool true)) := ⟨_, rfl⟩
    obtain ⟨hXc, hXf, hXs, hXo⟩ := far7 v3 pb (.int .i64 k) (.int .i64 W) (.int .u64 (M.hiN T : Int)) (.int .u64 (M.loN T : Int)) (.int .i64 E) (.bool x) (.bool true)
    rw [← hX] at hXc hXf hXs
    have X0 : X.cell? ⟨pb, 0, none⟩ = some (.int .i64 k) ∧ X.cell? ⟨pb, 1, none⟩ = some (.int .i64 W) ∧ X.cell? ⟨pb, 2, none⟩ = some (.int .u64 (M.hiN T : Int)) ∧ X.cell? ⟨pb, 3, none⟩ = some (.int .u64 (M.loN T : Int)) ∧ X.cell? ⟨pb, 4, none⟩ = some (.int .i64 E) ∧ X.cell? ⟨pb, 5, none⟩ = some (.bool x) ∧ X.cell? ⟨pb, 6, none⟩ = some (.bool true) := by rw [hX]; exact set7_cells zP3 _ _ _ _ _ _ _
    have ownX : X.ownsMap Try.prog 164 Rz bm 0 (.map []) := by rw [hX]; exact ((((((own3.setCell (a := ⟨pb, 0, none⟩) npb _).setCell (a := ⟨pb, 1, none⟩) npb _).setCell (a := ⟨pb, 2, none⟩) npb _).setCell (a := ⟨pb, 3, none⟩) npb _).setCell (a := ⟨pb, 4, none⟩) npb _).setCell (a := ⟨pb, 5, none⟩) npb _).setCell (a := ⟨pb, 6, none⟩) npb _
    obtain ⟨v5, hU, hT5⟩ := store_empty X.drew bm ownX.drew (.agg #[.int .i64 k, .int .i64 W]) (.agg #[.int .i64 k, .int .i64 W, .int .u64 (M.hiN T : Int), .int .u64 (M.loN T : Int), .int .i64 E, .bool x, .bool true]) hkey
    have BX : Below B w X := by rw [hX]; exact hXo B w B3 (by omega)
    have B5 : Below B w v5 := BX.drew.grown hT5.grown (by have := BX.size; simp only [World.drew] at *; omega) (fun k hk => by cases hk; exact hB2)
    obtain ⟨z0, z1, z2, z3, z4, z5, z6, g0, g1, g2, g3, g4, g5, g6, gl⟩ := zP3
    go_upto_region 9 with fail
    rw [← hX]
    clear z0 z1 z2 z3 z4 z5 z6
    clear g0 g1 g2 g3 g4 g5 g6 own3 ownX
    have c2 : X.cell? ⟨tb, 2, none⟩ = some (.map (some bm)) := (hXc tb 2 ntb).trans u2
    have c0 : X.cell? ⟨tb, 0, none⟩ = some (.int .i32 1) := (hXc tb 0 ntb).trans u0
    have cf : X.frozen? ⟨tb, 0, none⟩ = false := (hXf tb 0 ntb).trans uf
    have n0 : X.cell? ⟨w.heap.size + 1, 0, none⟩ = some (.int .i64 k) := (hXc _ 0 nkb).trans m0
    have n1 : X.cell? ⟨w.heap.size + 1, 1, none⟩ = some (.int .i64 W) := (hXc _ 1 nkb).trans m1
    have ltX : tb < X.heap.size := by omega
    have lkX : w.heap.size + 1 < X.heap.size := by omega
    have lrX : w.heap.size < X.heap.size := by omega
    have lpX : pb < X.heap.size := by omega
    have A0 : Below X.heap.size X X.drew := (Below.refl _ _).drew
    have tc : ∀ g o, g < X.heap.size → g ≠ bm → v5.cell? ⟨g, o, none⟩ = X.cell? ⟨g, o, none⟩ := fun g o h1 h2 => (turned_cell hT5 g o h1 h2).trans (A0.cell h1)
    have tf : ∀ g o, g < X.heap.size → v5.frozen? ⟨g, o, none⟩ = X.frozen? ⟨g, o, none⟩ := fun g o h1 => (hT5.frozen _).trans (A0.frozen (p := ⟨g, o, none⟩) h1)
    obtain ⟨x0, x1, x2, x3, x4, x5, x6⟩ := X0
    have K0 : (fun v => v.cell? ⟨tb, 2, none⟩ = some (.map (some bm)) ∧ v.cell? ⟨w.heap.size + 1, 0, none⟩ = some (.int .i64 k) ∧ v.cell? ⟨w.heap.size + 1, 1, none⟩ = some (.int .i64 W) ∧ v.cell? ⟨pb, 0, none⟩ = some (.int .i64 k) ∧ v.cell? ⟨pb, 1, none⟩ = some (.int .i64 W) ∧ v.cell? ⟨pb, 2, none⟩ = some (.int .u64 (M.hiN T : Int)) ∧ v.cell? ⟨pb, 3, none⟩ = some (.int .u64 (M.loN T : Int)) ∧ v.cell? ⟨pb, 4, none⟩ = some (.int .i64 E) ∧ v.cell? ⟨pb, 5, none⟩ = some (.bool x) ∧ v.cell? ⟨pb, 6, none⟩ = some (.bool true)) X.drew := ⟨(A0.cell ltX).trans c2, (A0.cell lkX).trans n0, (A0.cell lkX).trans n1, (A0.cell lpX).trans x0, (A0.cell lpX).trans x1, (A0.cell lpX).trans x2, (A0.cell lpX).trans x3, (A0.cell lpX).trans x4, (A0.cell lpX).trans x5, (A0.cell lpX).trans x6⟩
    have K5 : (fun v => v.cell? ⟨tb, 2, none⟩ = some (.map (some bm)) ∧ v.cell? ⟨w.heap.size + 1, 0, none⟩ = some (.int .i64 k) ∧ v.cell? ⟨w.heap.size + 1, 1, none⟩ = some (.int .i64 W) ∧ v.cell? ⟨pb, 0, none⟩ = some (.int .i64 k) ∧ v.cell? ⟨pb, 1, none⟩ = some (.int .i64 W) ∧ v.cell? ⟨pb, 2, none⟩ = some (.int .u64 (M.hiN T : Int)) ∧ v.cell? ⟨pb, 3, none⟩ = some (.int .u64 (M.loN T : Int)) ∧ v.cell? ⟨pb, 4, none⟩ = some (.int .i64 E) ∧ v.cell? ⟨pb, 5, none⟩ = some (.bool x) ∧ v.cell? ⟨pb, 6, none⟩ = some (.bool true)) v5 := ⟨(tc tb 2 ltX (Ne.symm hbt)).trans c2, (tc _ 0 lkX (by omega)).trans n0, (tc _ 1 lkX (by omega)).trans n1, (tc pb 0 lpX (Ne.symm npb)).trans x0, (tc pb 1 lpX (Ne.symm npb)).trans x1, (tc pb 2 lpX (Ne.symm npb)).trans x2, (tc pb 3 lpX (Ne.symm npb)).trans x3, (tc pb 4 lpX (Ne.symm npb)).trans x4, (tc pb 5 lpX (Ne.symm npb)).trans x5, (tc pb 6 lpX (Ne.symm npb)).trans x6⟩
    obtain ⟨r0, r1, r2, r3, r4, r5, r6, s0, s1, s2, s3, s4, s5, s6, sl⟩ := zR3
    have zR5 : Z7 v5 w.heap.size := ⟨((tc w.heap.size 0 lrX (by omega)).trans (hXc _ 0 nrb)).trans r0, ((tc w.heap.size 1 lrX (by omega)).trans (hXc _ 1 nrb)).trans r1, ((tc w.heap.size 2 lrX (by omega)).trans (hXc _ 2 nrb)).trans r2, ((tc w.heap.size 3 lrX (by omega)).trans (hXc _ 3 nrb)).trans r3, ((tc w.heap.size 4 lrX (by omega)).trans (hXc _ 4 nrb)).trans r4, ((tc w.heap.size 5 lrX (by omega)).trans (hXc _ 5 nrb)).trans r5, ((tc w.heap.size 6 lrX (by omega)).trans (hXc _ 6 nrb)).trans r6, ((tf w.heap.size 0 lrX).trans (hXf _ 0 nrb)).trans s0, ((tf w.heap.size 1 lrX).trans (hXf _ 1 nrb)).trans s1, ((tf w.heap.size 2 lrX).trans (hXf _ 2 nrb)).trans s2, ((tf w.heap.size 3 lrX).trans (hXf _ 3 nrb)).trans s3, ((tf w.heap.size 4 lrX).trans (hXf _ 4 nrb)).trans s4, ((tf w.heap.size 5 lrX).trans (hXf _ 5 nrb)).trans s5, ((tf w.heap.size 6 lrX).trans (hXf _ 6 nrb)).trans s6, Nat.lt_of_lt_of_le (show w.heap.size < X.drew.heap.size from lrX) hT5.grown.size⟩
    have q0 : v5.cell? ⟨tb, 0, none⟩ = some (.int .i32 1) := (tc tb 0 ltX (Ne.symm hbt)).trans c0
    have qf : v5.frozen? ⟨tb, 0, none⟩ = false := (tf tb 0 ltX).trans cf
    have w7 := set7_cells zR5 (.int .i64 k) (.int .i64 W) (.int .u64 (M.hiN T : Int)) (.int .u64 (M.loN T : Int)) (.int .i64 E) (.bool x) (.bool true)
    obtain ⟨hYc, hYf, hYs, hYo⟩ := far7 v5 w.heap.size (.int .i64 k) (.int .i64 W) (.int .u64 (M.hiN T : Int)) (.int .u64 (M.loN T : Int)) (.int .i64 E) (.bool x) (.bool true)
    have ntr : tb ≠ w.heap.size := by omega
    have y0 := (hYc tb 0 ntr).trans q0
    have yf := (hYf tb 0 ntr).trans qf
    have BY := hYo B w B5 hB3
    clear hYc hYf hYs hYo tc tf hT5 x0 x1 x2 x3 x4 x5 x6 c0 cf n0 n1 u0 u2 uf m0 m1 r0 r1 r2 r3 r4 r5 r6 s0 s1 s2 s3 s4 s5 s6 B5 BX hXc hXf hXs hXo
    have HZ := hid zR5; have H7 := hid w7; have HY := hid y0; have HF := hid yf; have HB := hid BY; have HK := hid K5; have HQ := hid (q0)
    clear zR5 w7 y0 yf BY q0 qf c2 hX
    go_region_held3 (fun v => v.cell? ⟨tb, 2, none⟩ = some (.map (some bm)) ∧ v.cell? ⟨w.heap.size + 1, 0, none⟩ = some (.int .i64 k) ∧ v.cell? ⟨w.heap.size + 1, 1, none⟩ = some (.int .i64 W) ∧ v.cell? ⟨pb, 0, none⟩ = some (.int .i64 k) ∧ v.cell? ⟨pb, 1, none⟩ = some (.int .i64 W) ∧ v.cell? ⟨pb, 2, none⟩ = some (.int .u64 (M.hiN T : Int)) ∧ v.cell? ⟨pb, 3, none⟩ = some (.int .u64 (M.loN T : Int)) ∧ v.cell? ⟨pb, 4, none⟩ = some (.int .i64 E) ∧ v.cell? ⟨pb, 5, none⟩ = some (.bool x) ∧ v.cell? ⟨pb, 6, none⟩ = some (.bool true)) (first | with_reducible exact K0 | with_reducible exact K5) (fail)
    clear K0 K5 hU
    obtain ⟨o0, o1, o2, o3, o4, o5, o6, p0, p1, p2, p3, p4, p5, p6, pl⟩ := HZ.out
    obtain ⟨-, -, -, i0, i1, i2, i3, i4, i5, i6⟩ := HK.out
    go_wp2_with fail
    clear o0 o1 o2 o3 o4 o5 o6 p0 p1 p2 p3 p4 p5 p6 pl i0 i1 i2 i3 i4 i5 i6 HZ HK
    have ntr2 : tb ≠ w.heap.size := by omega
    obtain ⟨a0, a1, a2, a3, a4, a5, a6⟩ := H7.out
    have a7 := HB.out; have a8 := HY.out; have a9 := HF.out
    clear H7 HB HY HF HQ
    generalize (((((((v5.setCell ⟨w.heap.size, 0, none⟩ (.int .i64 k)).setCell ⟨w.heap.size, 1, none⟩ (.int .i64 W)).setCell ⟨w.heap.size, 2, none⟩ (.int .u64 (M.hiN T : Int))).setCell ⟨w.heap.size, 3, none⟩ (.int .u64 (M.loN T : Int))).setCell ⟨w.heap.size, 4, none⟩ (.int .i64 E)).setCell ⟨w.heap.size, 5, none⟩ (.bool x)).setCell ⟨w.heap.size, 6, none⟩ (.bool true)) = Y at *
    refine leaves_cons (f := 100) (args := #[.pointer (some ⟨tb, 0, none⟩)]) (by simp) (by simp [go_sem]) ?_
    refine (unlock_deferred Try.muLib ⟨tb, 0, none⟩ .returning _ a8 a9).mono ?_
    rintro e u' w'' ⟨rfl, rfl, rfl⟩
    have hne : ∀ j, (⟨tb, 0, none⟩ : Addr) ≠ ⟨w.heap.size, j, none⟩ := fun j e => ntr2 (by injection e)
    replace a0 := (World.cell?_setCell_other Y ⟨tb, 0, none⟩ ⟨w.heap.size, 0, none⟩ (.int .i32 0) (hne 0)).trans a0
    replace a1 := (World.cell?_setCell_other Y ⟨tb, 0, none⟩ ⟨w.heap.size, 1, none⟩ (.int .i32 0) (hne 1)).trans a1
    replace a2 := (World.cell?_setCell_other Y ⟨tb, 0, none⟩ ⟨w.heap.size, 2, none⟩ (.int .i32 0) (hne 2)).trans a2
    replace a3 := (World.cell?_setCell_other Y ⟨tb, 0, none⟩ ⟨w.heap.size, 3, none⟩ (.int .i32 0) (hne 3)).trans a3
    replace a4 := (World.cell?_setCell_other Y ⟨tb, 0, none⟩ ⟨w.heap.size, 4, none⟩ (.int .i32 0) (hne 4)).trans a4
    replace a5 := (World.cell?_setCell_other Y ⟨tb, 0, none⟩ ⟨w.heap.size, 5, none⟩ (.int .i32 0) (hne 5)).trans a5
    replace a6 := (World.cell?_setCell_other Y ⟨tb, 0, none⟩ ⟨w.heap.size, 6, none⟩ (.int .i32 0) (hne 6)).trans a6
    replace a7 := a7.setCell (p := ⟨tb, 0, none⟩) hB1 (.int .i32 0)
    generalize Y.setCell ⟨tb, 0, none⟩ (.int .i32 0) = Z at *
    exact ⟨.agg #[.int .i64 k, .int .i64 W, .int .u64 (M.hiN T : Int), .int .u64 (M.loN T : Int), .int .i64 E, .bool x, .bool true], by simp [results, Try.results71, go_sem, a0, a1, a2, a3, a4, a5, a6], rfl, a7⟩

end Go.Proofs.Ytliflblcieepiac
