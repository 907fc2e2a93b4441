import Derived.Test.YtcilemkeljcidaaDoorSp2
import Derived.OwnWalk
import Derived.Deep.RegionHeld3
namespace Go.Proofs.YtcilemkeljcidaaDoor
open Go.RowKit
set_option linter.unusedVariables false
set_option maxRecDepth 100000

theorem cmpI_N (a b : Nat) : cmpI (a : Int) (b : Int) = M.cmpN a b := by
  unfold cmpI M.cmpN
  simp only [Int.ofNat_lt]

/-- What l2Rank hands back for a word that has a value. -/
def RetR (w w' : World) (e : Ending) (r : List Nat) (n : Bool) : Prop :=
  ∃ ao cap, e = .returned (.tuple #[.slice ao r.length cap, .bool n, .bool true]) ∧ w'.ownsRow w.heap.size 27 1 (.slice ao r.length cap) r.length (U r) ∧ Below w.heap.size w w'

set_option maxRecDepth 10000 in
set_option maxHeartbeats 1000000 in
theorem l2Rank_no (f : Nat) (hf : f < 4) (X : Nat) (hX : X < 2 ^ 128) (w : World) (hv : ((M.fm f).upk X).c = 0 ∨ ((M.fm f).upk X).c = 5) :
    Calls Tryd.prog 32 #[.int .i64 (f : Int), .agg #[.int .u64 (M.hiN X : Int), .int .u64 (M.loN X : Int)]] w fun e w' => e = .returned (.tuple #[.slice none 0 0, .bool false, .bool false]) ∧ Below w.heap.size w w' := by
  have kE := fun v : World => sdescribe_ok f hf v
  have kU := fun v : World => sunpack_any f hf X hX v
  have h := M.fm_ok f
  generalize M.fm f = F at *
  obtain ⟨T, hT⟩ : ∃ T, T = F.upk X := ⟨_, rfl⟩
  rw [← hT] at kU hv
  clear hT
  simp only [dv, pv] at kE kU
  go_enter Tryd.func32, Tryd.ntmps32
  have b0 := (Below.refl w.heap.size w).alloc (Nat.le_refl _) (.cells #[.int .u64 (M.hiN X : Int), .int .u64 (M.loN X : Int)] 30)
  go_wp2_with fail
  refine (kU _).mono ?_
  rintro e v1 ⟨rfl, hb1⟩
  have x0 : v1.cell? ⟨w.heap.size, 0, none⟩ = some (.int .u64 (M.hiN X : Int)) := (hb1.cell (by simp <;> omega)).trans (by simp [go_sem])
  have x1 : v1.cell? ⟨w.heap.size, 1, none⟩ = some (.int .u64 (M.loN X : Int)) := (hb1.cell (by simp <;> omega)).trans (by simp [go_sem])
  have n1 : w.heap.size + 1 ≤ v1.heap.size := by have := hb1.size; simp at this; omega
  have b1 := b0.trans (hb1.mono b0.size)
  clear hb1 b0 kU
  go_upto_region 2 with fail
  have hbp : Below v1.heap.size v1 (v1.alloc (.cells #[.int .i64 T.c, .bool T.n, .int .u64 (M.hiN T.s : Int), .int .u64 (M.loN T.s : Int), .int .i64 T.q] 32)) := (Below.refl _ _).alloc (Nat.le_refl _) _
  have t0 : (v1.alloc (.cells #[.int .i64 T.c, .bool T.n, .int .u64 (M.hiN T.s : Int), .int .u64 (M.loN T.s : Int), .int .i64 T.q] 32)).cell? ⟨v1.heap.size, 0, none⟩ = some (.int .i64 T.c) := by simp [go_sem]
  have t1 : (v1.alloc (.cells #[.int .i64 T.c, .bool T.n, .int .u64 (M.hiN T.s : Int), .int .u64 (M.loN T.s : Int), .int .i64 T.q] 32)).cell? ⟨v1.heap.size, 1, none⟩ = some (.bool T.n) := by simp [go_sem]
  replace x0 : (v1.alloc (.cells #[.int .i64 T.c, .bool T.n, .int .u64 (M.hiN T.s : Int), .int .u64 (M.loN T.s : Int), .int .i64 T.q] 32)).cell? ⟨w.heap.size, 0, none⟩ = some (.int .u64 (M.hiN X : Int)) := (hbp.cell (by simp only; omega)).trans x0
  replace x1 : (v1.alloc (.cells #[.int .i64 T.c, .bool T.n, .int .u64 (M.hiN T.s : Int), .int .u64 (M.loN T.s : Int), .int .i64 T.q] 32)).cell? ⟨w.heap.size, 1, none⟩ = some (.int .u64 (M.loN X : Int)) := (hbp.cell (by simp only; omega)).trans x1
  have lp : v1.heap.size < (v1.alloc (.cells #[.int .i64 T.c, .bool T.n, .int .u64 (M.hiN T.s : Int), .int .u64 (M.loN T.s : Int), .int .i64 T.q] 32)).heap.size := by simp
  replace b1 := b1.trans (hbp.mono b1.size)
  clear hbp
  generalize (v1.alloc (.cells #[.int .i64 T.c, .bool T.n, .int .u64 (M.hiN T.s : Int), .int .u64 (M.loN T.s : Int), .int .i64 T.q] 32)) = v2 at *
  generalize v1.heap.size = gp at *
  by_cases hz : T.c = 0
  · have hz1 : (T.c == 0) = true := by simp [hz]
    rw [hz] at t0
    clear hv
    go_wp2_with fail
    go_ret3
    exact ⟨rfl, b1⟩
  · have hz5 : T.c = 5 := hv.resolve_left hz
    rw [hz5] at t0
    clear hv hz
    go_wp2_with fail
    go_ret3
    exact ⟨rfl, b1⟩

set_option maxRecDepth 10000 in
set_option maxHeartbeats 1000000 in
theorem l2Rank_yes (f : Nat) (hf : f < 4) (X : Nat) (hX : X < 2 ^ 128) (w : World) (hv0 : ((M.fm f).upk X).c ≠ 0) (hv5 : ((M.fm f).upk X).c ≠ 5) :
    Calls Tryd.prog 32 #[.int .i64 (f : Int), .agg #[.int .u64 (M.hiN X : Int), .int .u64 (M.loN X : Int)]] w fun e w' => RetR w w' e (D (X % 2 ^ ((M.fm f).wd - 1))) ((M.fm f).upk X).n := by
  have kO := fun v : World => l2Of_any X hX v
  have hDl : (D X).length ≤ 6 := D_small X (by omega)
  have kE := fun v : World => sdescribe_ok f hf v
  have kU := fun v : World => sunpack_any f hf X hX v
  have h := M.fm_ok f
  generalize M.fm f = F at *
  obtain ⟨T, hT⟩ : ∃ T, T = F.upk X := ⟨_, rfl⟩
  rw [← hT] at kU hv0 hv5 ⊢
  clear hT
  simp only [dv, pv] at kE kU
  have hwd := h.w
  obtain ⟨wm, hwm⟩ : ∃ wm, F.wd = wm + 1 := ⟨F.fb + F.e, rfl⟩
  rw [show F.wd - 1 = wm by omega]
  have hwm2 : (F.wd : Int) - 1 = (wm : Int) := by omega
  have hwm4 : wm ≤ 127 := by omega
  clear hwm
  have hwm3 : IntKind.i64.wrap (wm : Int) = (wm : Int) := by simp only [IntKind.wrap_i64]; omega
  have hz0 : (T.c == 0) = false := by simp [hv0]
  have hz5 : (T.c == 5) = false := by simp [hv5]
  go_enter Tryd.func32, Tryd.ntmps32
  have b0 := (Below.refl w.heap.size w).alloc (Nat.le_refl _) (.cells #[.int .u64 (M.hiN X : Int), .int .u64 (M.loN X : Int)] 30)
  go_wp2_with fail
  refine (kU _).mono ?_
  rintro e v1 ⟨rfl, hb1⟩
  have x0 : v1.cell? ⟨w.heap.size, 0, none⟩ = some (.int .u64 (M.hiN X : Int)) := (hb1.cell (by simp <;> omega)).trans (by simp [go_sem])
  have x1 : v1.cell? ⟨w.heap.size, 1, none⟩ = some (.int .u64 (M.loN X : Int)) := (hb1.cell (by simp <;> omega)).trans (by simp [go_sem])
  have n1 : w.heap.size + 1 ≤ v1.heap.size := by have := hb1.size; simp at this; omega
  have b1 := b0.trans (hb1.mono b0.size)
  clear hb1 b0 kU
  go_upto_region 2 with fail
  have hbp : Below v1.heap.size v1 (v1.alloc (.cells #[.int .i64 T.c, .bool T.n, .int .u64 (M.hiN T.s : Int), .int .u64 (M.loN T.s : Int), .int .i64 T.q] 32)) := (Below.refl _ _).alloc (Nat.le_refl _) _
  have t0 : (v1.alloc (.cells #[.int .i64 T.c, .bool T.n, .int .u64 (M.hiN T.s : Int), .int .u64 (M.loN T.s : Int), .int .i64 T.q] 32)).cell? ⟨v1.heap.size, 0, none⟩ = some (.int .i64 T.c) := by simp [go_sem]
  have t1 : (v1.alloc (.cells #[.int .i64 T.c, .bool T.n, .int .u64 (M.hiN T.s : Int), .int .u64 (M.loN T.s : Int), .int .i64 T.q] 32)).cell? ⟨v1.heap.size, 1, none⟩ = some (.bool T.n) := by simp [go_sem]
  replace x0 : (v1.alloc (.cells #[.int .i64 T.c, .bool T.n, .int .u64 (M.hiN T.s : Int), .int .u64 (M.loN T.s : Int), .int .i64 T.q] 32)).cell? ⟨w.heap.size, 0, none⟩ = some (.int .u64 (M.hiN X : Int)) := (hbp.cell (by simp only; omega)).trans x0
  replace x1 : (v1.alloc (.cells #[.int .i64 T.c, .bool T.n, .int .u64 (M.hiN T.s : Int), .int .u64 (M.loN T.s : Int), .int .i64 T.q] 32)).cell? ⟨w.heap.size, 1, none⟩ = some (.int .u64 (M.loN X : Int)) := (hbp.cell (by simp only; omega)).trans x1
  have lp : v1.heap.size < (v1.alloc (.cells #[.int .i64 T.c, .bool T.n, .int .u64 (M.hiN T.s : Int), .int .u64 (M.loN T.s : Int), .int .i64 T.q] 32)).heap.size := by simp
  replace b1 := b1.trans (hbp.mono b1.size)
  clear hbp
  generalize (v1.alloc (.cells #[.int .i64 T.c, .bool T.n, .int .u64 (M.hiN T.s : Int), .int .u64 (M.loN T.s : Int), .int .i64 T.q] 32)) = v2 at *
  generalize v1.heap.size = gp at *
  go_wp2_with fail
  refine (kE _).mono ?_
  rintro e v3 ⟨rfl, hb3⟩
  have hsz := hb3.size
  replace t0 : v3.cell? ⟨gp, 0, none⟩ = some (.int .i64 T.c) := (hb3.cell (by simp only; omega)).trans t0
  replace t1 : v3.cell? ⟨gp, 1, none⟩ = some (.bool T.n) := (hb3.cell (by simp only; omega)).trans t1
  replace x0 : v3.cell? ⟨w.heap.size, 0, none⟩ = some (.int .u64 (M.hiN X : Int)) := (hb3.cell (by simp only; omega)).trans x0
  replace x1 : v3.cell? ⟨w.heap.size, 1, none⟩ = some (.int .u64 (M.loN X : Int)) := (hb3.cell (by simp only; omega)).trans x1
  replace lp : gp < v3.heap.size := by omega
  replace b1 := b1.trans (hb3.mono b1.size)
  clear hb3 kE hsz
  go_upto_region 5 with fail
  have hbd : Below v3.heap.size v3 (v3.alloc (.cells #[.int .i64 (F.p : Int), .int .i64 (1 - (F.emax : Int)), .int .i64 (F.emax : Int), .int .i64 (F.wd : Int), .int .i64 (F.e : Int), .bool F.x] 23)) := (Below.refl _ _).alloc (Nat.le_refl _) _
  have d3 : (v3.alloc (.cells #[.int .i64 (F.p : Int), .int .i64 (1 - (F.emax : Int)), .int .i64 (F.emax : Int), .int .i64 (F.wd : Int), .int .i64 (F.e : Int), .bool F.x] 23)).cell? ⟨v3.heap.size, 3, none⟩ = some (.int .i64 (F.wd : Int)) := by simp [go_sem]
  have t1' : (v3.alloc (.cells #[.int .i64 (F.p : Int), .int .i64 (1 - (F.emax : Int)), .int .i64 (F.emax : Int), .int .i64 (F.wd : Int), .int .i64 (F.e : Int), .bool F.x] 23)).cell? ⟨gp, 1, none⟩ = some (.bool T.n) := (hbd.cell (by simp only; omega)).trans t1
  replace x0 : (v3.alloc (.cells #[.int .i64 (F.p : Int), .int .i64 (1 - (F.emax : Int)), .int .i64 (F.emax : Int), .int .i64 (F.wd : Int), .int .i64 (F.e : Int), .bool F.x] 23)).cell? ⟨w.heap.size, 0, none⟩ = some (.int .u64 (M.hiN X : Int)) := (hbd.cell (by simp only; omega)).trans x0
  replace x1 : (v3.alloc (.cells #[.int .i64 (F.p : Int), .int .i64 (1 - (F.emax : Int)), .int .i64 (F.emax : Int), .int .i64 (F.wd : Int), .int .i64 (F.e : Int), .bool F.x] 23)).cell? ⟨w.heap.size, 1, none⟩ = some (.int .u64 (M.loN X : Int)) := (hbd.cell (by simp only; omega)).trans x1
  have ld : v3.heap.size < (v3.alloc (.cells #[.int .i64 (F.p : Int), .int .i64 (1 - (F.emax : Int)), .int .i64 (F.emax : Int), .int .i64 (F.wd : Int), .int .i64 (F.e : Int), .bool F.x] 23)).heap.size := by simp
  replace lp : gp < (v3.alloc (.cells #[.int .i64 (F.p : Int), .int .i64 (1 - (F.emax : Int)), .int .i64 (F.emax : Int), .int .i64 (F.wd : Int), .int .i64 (F.e : Int), .bool F.x] 23)).heap.size := by simp; omega
  replace b1 := b1.trans (hbd.mono b1.size)
  clear hbd t0 t1
  generalize (v3.alloc (.cells #[.int .i64 (F.p : Int), .int .i64 (1 - (F.emax : Int)), .int .i64 (F.emax : Int), .int .i64 (F.wd : Int), .int .i64 (F.e : Int), .bool F.x] 23)) = v4 at *
  generalize v3.heap.size = gd at *
  have l0 : w.heap.size < v4.heap.size := by omega
  have Kof : ∀ v, Below v4.heap.size v4 v → (fun v => Below v4.heap.size v4 v ∧ v.cell? ⟨w.heap.size, 0, none⟩ = some (.int .u64 (M.hiN X : Int)) ∧ v.cell? ⟨w.heap.size, 1, none⟩ = some (.int .u64 (M.loN X : Int)) ∧ v.cell? ⟨gd, 3, none⟩ = some (.int .i64 (F.wd : Int)) ∧ v.cell? ⟨gp, 1, none⟩ = some (.bool T.n)) v := fun v hv => ⟨hv, (hv.cell l0).trans x0, (hv.cell l0).trans x1, (hv.cell ld).trans d3, (hv.cell lp).trans t1'⟩
  clear x0 x1 d3 t1'
  go_region_held3 (fun v => Below v4.heap.size v4 v ∧ v.cell? ⟨w.heap.size, 0, none⟩ = some (.int .u64 (M.hiN X : Int)) ∧ v.cell? ⟨w.heap.size, 1, none⟩ = some (.int .u64 (M.loN X : Int)) ∧ v.cell? ⟨gd, 3, none⟩ = some (.int .i64 (F.wd : Int)) ∧ v.cell? ⟨gp, 1, none⟩ = some (.bool T.n)) (first | exact Kof _ (by assumption) | exact Kof _ (keepDr (by assumption)) | exact Kof _ (Below.refl _ _).drew)
    (first | (go_at_call 23; refine (kO _).mono ?_; rintro e w' ⟨ao1, ca1, rfl, ho1, hb0⟩; have hb1 := keepC (w1 := v4) ((Below.refl _ _).drew) hb0; have hr1 := Rd.own ho1; clear hb0) | (go_at_call 25; refine (l2Low_any ao1 _ ca1 wm X _ rfl (by omega) (by omega) hr1).mono ?_; rintro e w' ⟨ao2, ca2, rfl, ho2, hb0⟩; have hb2 := keepC (w1 := v4) hb1 hb0; have hn2 := own_base ho2 hb1.size; clear hb0))
  go_wp2_with fail
  go_ret3
  exact ⟨ao2, ca2, rfl, own_base hn2 b1.size, b1.trans (hb2.mono b1.size)⟩

end Go.Proofs.YtcilemkeljcidaaDoor
