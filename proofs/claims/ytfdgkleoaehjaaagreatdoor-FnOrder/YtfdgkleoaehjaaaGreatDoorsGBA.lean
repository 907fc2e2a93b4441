import Derived.OpenShut
import Derived.Test.YtfdgkleoaehjaaaGreatDoorsGAZ
import Derived.Test.YtfdgkleoaehjaaaGreatDoorsIo
import Derived.Test.YtfdgkleoaehjaaaGreatDoorsUn1
set_option maxHeartbeats 2000000
set_option maxRecDepth 10000
namespace Go.Proofs.YtfdgkleoaehjaaaGreatDoor
open Go.RowKit
set_option linter.unusedVariables false
set_option maxRecDepth 100000
theorem nZ (f : Nat) (hf : f < 4) (X : Nat) (hX : X < 2 ^ 128) (w : World) (hm : Fmt w) :
 Calls Tryz.prog 28 #[.int .i64 (f : Int), .agg #[.int .u64 (M.hiN X : Int), .int .u64 (M.loN X : Int)]] w fun e w' => e = .returned (pv ((M.fm f).upk X)) /\ Below w.heap.size w w' := by
 have kE := fun (v : World) (hv : Fmt v) => jG f hf v hv
 have h := M.jA f;generalize M.fm f = F at *
 have kK := fun v : World => GQ F h v
 have kU := fun v : World => wL F h X hX v
 obtain ⟨T, hT⟩ : ∃ T, T = F.upk X := ⟨_, rfl⟩;rw [<- hT] at kU |-;clear hT;simp only [dv, pv] at kE kK kU;have b0 := ((Below.refl w.heap.size w).alloc (Nat.le_refl _) (.cells #[.int .u64 (M.hiN X : Int), .int .u64 (M.loN X : Int)] 27)).alloc (by simp) (.cells #[.int .i64 0, .bool false, .int .u64 0, .int .u64 0, .int .i64 0] 67);go_enter Tryz.func28, Tryz.ntmps28;go_wp2_with fail;refine (kE _ (hm.below b0)).mono ?_;rintro e v1 ⟨rfl, hb1⟩
 have r0 : v1.cell? ⟨w.heap.size + 1, 0, none⟩ = some (.int .i64 0) := (hb1.cell (by simp <;> omega)).trans (by simp [go_sem])
 have r1 : v1.cell? ⟨w.heap.size + 1, 1, none⟩ = some (.bool false) := (hb1.cell (by simp <;> omega)).trans (by simp [go_sem])
 have r2 : v1.cell? ⟨w.heap.size + 1, 2, none⟩ = some (.int .u64 0) := (hb1.cell (by simp <;> omega)).trans (by simp [go_sem])
 have r3 : v1.cell? ⟨w.heap.size + 1, 3, none⟩ = some (.int .u64 0) := (hb1.cell (by simp <;> omega)).trans (by simp [go_sem])
 have r4 : v1.cell? ⟨w.heap.size + 1, 4, none⟩ = some (.int .i64 0) := (hb1.cell (by simp <;> omega)).trans (by simp [go_sem])
 have z0 : v1.frozen? ⟨w.heap.size + 1, 0, none⟩ = false := (hb1.frozen (by simp <;> omega)).trans (by simp [go_sem])
 have z1 : v1.frozen? ⟨w.heap.size + 1, 1, none⟩ = false := (hb1.frozen (by simp <;> omega)).trans (by simp [go_sem])
 have z2 : v1.frozen? ⟨w.heap.size + 1, 2, none⟩ = false := (hb1.frozen (by simp <;> omega)).trans (by simp [go_sem])
 have z3 : v1.frozen? ⟨w.heap.size + 1, 3, none⟩ = false := (hb1.frozen (by simp <;> omega)).trans (by simp [go_sem])
 have z4 : v1.frozen? ⟨w.heap.size + 1, 4, none⟩ = false := (hb1.frozen (by simp <;> omega)).trans (by simp [go_sem])
 have x0 : v1.cell? ⟨w.heap.size, 0, none⟩ = some (.int .u64 (M.hiN X : Int)) := (hb1.cell (by simp <;> omega)).trans (by simp [go_sem])
 have x1 : v1.cell? ⟨w.heap.size, 1, none⟩ = some (.int .u64 (M.loN X : Int)) := (hb1.cell (by simp <;> omega)).trans (by simp [go_sem])
 have n1 : w.heap.size + 2 <= v1.heap.size := by have := hb1.size; simp at this; omega
 have b1 := b0.trans (hb1.mono b0.size);clear hb1 b0 kE hm;go_wp2_with fail;have hbd : Below v1.heap.size v1 (v1.alloc (.cells #[.int .i64 (F.p : Int), .int .i64 (1 - (F.emax : Int)), .int .i64 (F.emax : Int), .int .i64 (F.wd : Int), .int .i64 (F.e : Int), .bool F.x] 37)) := (Below.refl _ _).alloc (Nat.le_refl _) _;refine (kK _).mono ?_;rintro e v2 ⟨rfl, hb2⟩;have hb3 := hbd.trans (hb2.mono hbd.size);have d0 : v2.cell? ⟨v1.heap.size, 0, none⟩ = some (.int .i64 (F.p : Int)) := (hb2.cell (by simp)).trans (by simp [go_sem]);have d1 : v2.cell? ⟨v1.heap.size, 1, none⟩ = some (.int .i64 (1 - (F.emax : Int))) := (hb2.cell (by simp)).trans (by simp [go_sem]);have d2 : v2.cell? ⟨v1.heap.size, 2, none⟩ = some (.int .i64 (F.emax : Int)) := (hb2.cell (by simp)).trans (by simp [go_sem]);have d3 : v2.cell? ⟨v1.heap.size, 3, none⟩ = some (.int .i64 (F.wd : Int)) := (hb2.cell (by simp)).trans (by simp [go_sem]);have d4 : v2.cell? ⟨v1.heap.size, 4, none⟩ = some (.int .i64 (F.e : Int)) := (hb2.cell (by simp)).trans (by simp [go_sem]);have d5 : v2.cell? ⟨v1.heap.size, 5, none⟩ = some (.bool F.x) := (hb2.cell (by simp)).trans (by simp [go_sem]);replace r0 : v2.cell? ⟨w.heap.size + 1, 0, none⟩ = some (.int .i64 0) := (hb3.cell (by simp only; omega)).trans r0;replace r1 : v2.cell? ⟨w.heap.size + 1, 1, none⟩ = some (.bool false) := (hb3.cell (by simp only; omega)).trans r1;replace r2 : v2.cell? ⟨w.heap.size + 1, 2, none⟩ = some (.int .u64 0) := (hb3.cell (by simp only; omega)).trans r2;replace r3 : v2.cell? ⟨w.heap.size + 1, 3, none⟩ = some (.int .u64 0) := (hb3.cell (by simp only; omega)).trans r3;replace r4 : v2.cell? ⟨w.heap.size + 1, 4, none⟩ = some (.int .i64 0) := (hb3.cell (by simp only; omega)).trans r4;replace z0 : v2.frozen? ⟨w.heap.size + 1, 0, none⟩ = false := (hb3.frozen (by simp only; omega)).trans z0;replace z1 : v2.frozen? ⟨w.heap.size + 1, 1, none⟩ = false := (hb3.frozen (by simp only; omega)).trans z1;replace z2 : v2.frozen? ⟨w.heap.size + 1, 2, none⟩ = false := (hb3.frozen (by simp only; omega)).trans z2;replace z3 : v2.frozen? ⟨w.heap.size + 1, 3, none⟩ = false := (hb3.frozen (by simp only; omega)).trans z3;replace z4 : v2.frozen? ⟨w.heap.size + 1, 4, none⟩ = false := (hb3.frozen (by simp only; omega)).trans z4;replace x0 : v2.cell? ⟨w.heap.size, 0, none⟩ = some (.int .u64 (M.hiN X : Int)) := (hb3.cell (by simp only; omega)).trans x0;replace x1 : v2.cell? ⟨w.heap.size, 1, none⟩ = some (.int .u64 (M.loN X : Int)) := (hb3.cell (by simp only; omega)).trans x1;have n2 : v1.heap.size + 1 <= v2.heap.size := by have := hb2.size; simp at this; omega
 replace b1 := b1.trans (hb3.mono b1.size);clear hb2 hb3 hbd kK;go_wp2_with fail;refine (kU _).mono ?_;rintro e v3 ⟨rfl, hb4⟩;replace r0 : v3.cell? ⟨w.heap.size + 1, 0, none⟩ = some (.int .i64 0) := (hb4.cell (by simp only; omega)).trans r0;replace r1 : v3.cell? ⟨w.heap.size + 1, 1, none⟩ = some (.bool false) := (hb4.cell (by simp only; omega)).trans r1;replace r2 : v3.cell? ⟨w.heap.size + 1, 2, none⟩ = some (.int .u64 0) := (hb4.cell (by simp only; omega)).trans r2;replace r3 : v3.cell? ⟨w.heap.size + 1, 3, none⟩ = some (.int .u64 0) := (hb4.cell (by simp only; omega)).trans r3;replace r4 : v3.cell? ⟨w.heap.size + 1, 4, none⟩ = some (.int .i64 0) := (hb4.cell (by simp only; omega)).trans r4;replace z0 : v3.frozen? ⟨w.heap.size + 1, 0, none⟩ = false := (hb4.frozen (by simp only; omega)).trans z0;replace z1 : v3.frozen? ⟨w.heap.size + 1, 1, none⟩ = false := (hb4.frozen (by simp only; omega)).trans z1;replace z2 : v3.frozen? ⟨w.heap.size + 1, 2, none⟩ = false := (hb4.frozen (by simp only; omega)).trans z2;replace z3 : v3.frozen? ⟨w.heap.size + 1, 3, none⟩ = false := (hb4.frozen (by simp only; omega)).trans z3;replace z4 : v3.frozen? ⟨w.heap.size + 1, 4, none⟩ = false := (hb4.frozen (by simp only; omega)).trans z4;replace b1 := b1.trans (hb4.mono b1.size);clear hb4 kU;go_wp2_with fail;exact bodyPost_ret (v := .agg #[.int .i64 T.c, .bool T.n, .int .u64 (M.hiN T.s : Int), .int .u64 (M.loN T.s : Int), .int .i64 T.q]) (by simp [results, Tryz.results28, go_sem, r0, r1, r2, r3, r4]) rfl ⟨rfl, dW b1 (by omega) _ _ _ _ _⟩

theorem zY (c : Int) (n : Bool) (a b q : Int) (w : World) (r : Bool) (hr : r = decide (c ≠ 0 /\ c ≠ 5)) :
 Calls Tryz.prog 29 #[.agg #[.int .i64 c, .bool n, .int .u64 a, .int .u64 b, .int .i64 q]] w fun e w' => e = .returned (.bool r) /\ Below w.heap.size w w' := by
 by_cases h0 : c = 0
 . have hr' : r = false := by rw [hr]; simp [h0]
   subst h0;subst hr';clear hr;go_enter Tryz.func29, Tryz.ntmps29;go_wp2_with fail;go_ret;exact ⟨rfl, (Below.refl _ _).alloc (Nat.le_refl _) _⟩
 . have hn0 : (c != 0) = true := by simp [h0]
   by_cases h5 : c = 5
   . have hr' : r = false := by rw [hr]; simp [h5]
     subst h5;subst hr';clear hr;go_enter Tryz.func29, Tryz.ntmps29;go_wp2_with fail;go_ret;exact ⟨rfl, (Below.refl _ _).alloc (Nat.le_refl _) _⟩
   . have hn5 : (c != 5) = true := by simp [h5]
     have hr' : r = true := by rw [hr]; simp [h0, h5]
     subst hr';clear hr;go_enter Tryz.func29, Tryz.ntmps29;go_wp2_with fail;go_ret;exact ⟨rfl, (Below.refl _ _).alloc (Nat.le_refl _) _⟩

theorem M.Fm.Ok.leadPow {F : M.Fm} (h : F.Ok) : F.lead * 2 ^ F.e <= 2 ^ 127 := by
 have h1 := h.p1;have h2 := h.w;unfold M.Fm.lead;rw [<- Nat.pow_add]
 apply Nat.pow_le_pow_right (by omega)
 unfold M.Fm.wd M.Fm.fb at h2
 split at h2 <;> omega

theorem K6 (F : M.Fm) (h : F.Ok) (c : Int) (n : Bool) (s : Nat) (q : Int) (w : World) (hc : c = 1) :
 Calls Tryz.prog 31 #[dv F, .agg #[.int .i64 c, .bool n, .int .u64 (M.hiN s : Int), .int .u64 (M.loN s : Int), .int .i64 q]] w fun e w' => e = .returned (.agg #[.int .u64 (M.hiN (0) : Int), .int .u64 (M.loN (0) : Int)]) /\ Below w.heap.size w w' := by
 subst hc;simp only [dv] at *;go_enter Tryz.func31, Tryz.ntmps31;go_wp2_with fail;exact bodyPost_ret (v := .agg #[.int .u64 0, .int .u64 0]) (by simp [results, Tryz.results31, go_sem]) rfl ⟨by rw [hi0, lo0]; rfl, (((Below.refl _ _).alloc (Nat.le_refl _) _).alloc (by simp) _).alloc (by simp; omega) _⟩

theorem JW (F : M.Fm) (h : F.Ok) (c : Int) (n : Bool) (s : Nat) (q : Int) (w : World) (hc : c = 4) :
 Calls Tryz.prog 31 #[dv F, .agg #[.int .i64 c, .bool n, .int .u64 (M.hiN s : Int), .int .u64 (M.loN s : Int), .int .i64 q]] w fun e w' => e = .returned (.agg #[.int .u64 (M.hiN (F.top * F.lead) : Int), .int .u64 (M.loN (F.top * F.lead) : Int)]) /\ Below w.heap.size w w' := by
 subst hc;have ht := h.top2;have hp1 := h.p1;have hp2 := h.p2;obtain ⟨pm, hpm⟩ : ∃ pm, F.p = pm + 1 := ⟨F.p - 1, by omega⟩;have hle : F.lead = 2 ^ pm := by unfold M.Fm.lead; rw [hpm]; rfl
 obtain ⟨Y, hY⟩ : ∃ Y, Y = F.top * F.lead := ⟨_, rfl⟩;rw [<- hY];have hm := M.Fm.Ok.leadPow h
 have hYl : Y < 2 ^ 128 := by
  rw [hY, Nat.mul_comm];have : F.lead * F.top <= F.lead * 2 ^ F.e := Nat.mul_le_mul_left _ (by omega);omega
 have kT := fun v : World => LL F h v
 have kS := fun v : World => DK F.top pm v (by omega) (by omega) Y (by rw [hY, hle] at *; rw [Nat.mod_eq_of_lt hYl])
 rw [M.iK (show F.top < 18446744073709551616 by omega), M.iR (show F.top < 18446744073709551616 by omega)] at kS;have hcv : IntKind.u64.wrap (F.top : Int) = (F.top : Int) := by rw [fW, Nat.mod_eq_of_lt (by omega)]
 have e1 : (F.p : Int) - 1 = (pm : Int) := by omega
 have hwp : IntKind.i64.wrap (pm : Int) = (pm : Int) := by simp only [IntKind.wrap_i64]; omega
 have htb : F.top <= 40000 := by omega
 clear hpm hle hY hm hYl ht;simp only [dv] at *;go_enter Tryz.func31, Tryz.ntmps31;go_upto_region 5 with fail
 have b1 : Below w.heap.size w (((w.alloc (.cells #[.int .i64 (F.p : Int), .int .i64 (1 - (F.emax : Int)), .int .i64 (F.emax : Int), .int .i64 (F.wd : Int), .int .i64 (F.e : Int), .bool F.x] 37)).alloc (.cells #[.int .i64 4, .bool n, .int .u64 (M.hiN s : Int), .int .u64 (M.loN s : Int), .int .i64 q] 67)).alloc (.cells #[.int .u64 0, .int .u64 0] 27)) :=
  (((Below.refl _ _).alloc (Nat.le_refl _) _).alloc (by simp) _).alloc (by simp; omega) _
 generalize hw1 : ((w.alloc (.cells #[.int .i64 (F.p : Int), .int .i64 (1 - (F.emax : Int)), .int .i64 (F.emax : Int), .int .i64 (F.wd : Int), .int .i64 (F.e : Int), .bool F.x] 37)).alloc (.cells #[.int .i64 4, .bool n, .int .u64 (M.hiN s : Int), .int .u64 (M.loN s : Int), .int .i64 q] 67)).alloc (.cells #[.int .u64 0, .int .u64 0] 27) = w1 at b1 |-;have c0 : w1.cell? ⟨w.heap.size, 0, none⟩ = some (.int .i64 (F.p : Int)) := by rw [<- hw1]; simp [go_sem]
 have c1 : w1.cell? ⟨w.heap.size, 1, none⟩ = some (.int .i64 (1 - (F.emax : Int))) := by rw [<- hw1]; simp [go_sem]
 have c2 : w1.cell? ⟨w.heap.size, 2, none⟩ = some (.int .i64 (F.emax : Int)) := by rw [<- hw1]; simp [go_sem]
 have c3 : w1.cell? ⟨w.heap.size, 3, none⟩ = some (.int .i64 (F.wd : Int)) := by rw [<- hw1]; simp [go_sem]
 have c4 : w1.cell? ⟨w.heap.size, 4, none⟩ = some (.int .i64 (F.e : Int)) := by rw [<- hw1]; simp [go_sem]
 have c5 : w1.cell? ⟨w.heap.size, 5, none⟩ = some (.bool F.x) := by rw [<- hw1]; simp [go_sem]
 have p0 : w1.cell? ⟨w.heap.size + 1, 0, none⟩ = some (.int .i64 4) := by rw [<- hw1]; simp [go_sem]
 have p1 : w1.cell? ⟨w.heap.size + 1, 1, none⟩ = some (.bool n) := by rw [<- hw1]; simp [go_sem]
 have p2 : w1.cell? ⟨w.heap.size + 1, 2, none⟩ = some (.int .u64 (M.hiN s : Int)) := by rw [<- hw1]; simp [go_sem]
 have p3 : w1.cell? ⟨w.heap.size + 1, 3, none⟩ = some (.int .u64 (M.loN s : Int)) := by rw [<- hw1]; simp [go_sem]
 have p4 : w1.cell? ⟨w.heap.size + 1, 4, none⟩ = some (.int .i64 q) := by rw [<- hw1]; simp [go_sem]
 have r0 : w1.cell? ⟨w.heap.size + 1 + 1, 0, none⟩ = some (.int .u64 0) := by rw [<- hw1]; simp [go_sem]
 have r1 : w1.cell? ⟨w.heap.size + 1 + 1, 1, none⟩ = some (.int .u64 0) := by rw [<- hw1]; simp [go_sem]
 have z0 : w1.frozen? ⟨w.heap.size + 1 + 1, 0, none⟩ = false := by rw [<- hw1]; simp [go_sem]
 have z1 : w1.frozen? ⟨w.heap.size + 1 + 1, 1, none⟩ = false := by rw [<- hw1]; simp [go_sem]
 have n1 : w.heap.size + 3 <= w1.heap.size := by rw [<- hw1]; simp
 clear hw1
 have D1 : ∀ v, Below w1.heap.size w1 v -> (fun v => v.cell? ⟨w.heap.size, 0, none⟩ = some (.int .i64 (F.p : Int)) /\ v.cell? ⟨w.heap.size, 1, none⟩ = some (.int .i64 (1 - (F.emax : Int))) /\ v.cell? ⟨w.heap.size, 2, none⟩ = some (.int .i64 (F.emax : Int)) /\ v.cell? ⟨w.heap.size, 3, none⟩ = some (.int .i64 (F.wd : Int)) /\ v.cell? ⟨w.heap.size, 4, none⟩ = some (.int .i64 (F.e : Int)) /\ v.cell? ⟨w.heap.size, 5, none⟩ = some (.bool F.x)) v := fun v hv => ⟨(hv.cell (by simp only; omega)).trans c0, (hv.cell (by simp only; omega)).trans c1, (hv.cell (by simp only; omega)).trans c2, (hv.cell (by simp only; omega)).trans c3, (hv.cell (by simp only; omega)).trans c4, (hv.cell (by simp only; omega)).trans c5⟩
 have D2 : ∀ v x y, Below w1.heap.size w1 v -> (fun v => v.cell? ⟨w.heap.size, 0, none⟩ = some (.int .i64 (F.p : Int)) /\ v.cell? ⟨w.heap.size, 1, none⟩ = some (.int .i64 (1 - (F.emax : Int))) /\ v.cell? ⟨w.heap.size, 2, none⟩ = some (.int .i64 (F.emax : Int)) /\ v.cell? ⟨w.heap.size, 3, none⟩ = some (.int .i64 (F.wd : Int)) /\ v.cell? ⟨w.heap.size, 4, none⟩ = some (.int .i64 (F.e : Int)) /\ v.cell? ⟨w.heap.size, 5, none⟩ = some (.bool F.x)) ((v.setCell ⟨w.heap.size + 1 + 1, 0, none⟩ x).setCell ⟨w.heap.size + 1 + 1, 1, none⟩ y) := fun v x y hv => ⟨((bJ v x y (by omega)).trans (hv.cell (by simp only; omega))).trans c0, ((bJ v x y (by omega)).trans (hv.cell (by simp only; omega))).trans c1, ((bJ v x y (by omega)).trans (hv.cell (by simp only; omega))).trans c2, ((bJ v x y (by omega)).trans (hv.cell (by simp only; omega))).trans c3, ((bJ v x y (by omega)).trans (hv.cell (by simp only; omega))).trans c4, ((bJ v x y (by omega)).trans (hv.cell (by simp only; omega))).trans c5⟩
 clear c0 c1 c2 c3 c4 c5 p0 p1 p2 p3 p4
 go_region_held3 (fun v => v.cell? ⟨w.heap.size, 0, none⟩ = some (.int .i64 (F.p : Int)) /\ v.cell? ⟨w.heap.size, 1, none⟩ = some (.int .i64 (1 - (F.emax : Int))) /\ v.cell? ⟨w.heap.size, 2, none⟩ = some (.int .i64 (F.emax : Int)) /\ v.cell? ⟨w.heap.size, 3, none⟩ = some (.int .i64 (F.wd : Int)) /\ v.cell? ⟨w.heap.size, 4, none⟩ = some (.int .i64 (F.e : Int)) /\ v.cell? ⟨w.heap.size, 5, none⟩ = some (.bool F.x)) (first | exact D1 _ (by assumption) | exact D1 _ ((Below.refl _ _).drew) | exact D2 _ _ _ (by assumption))
  (first | (go_at_call 74; refine (kT _).mono ?_; rintro e w' ⟨rfl, hb0⟩; have hb1 := aC (w1 := w1) ((Below.refl _ _).drew) hb0; clear hb0) | (go_at_call 75; refine (kS _).mono ?_; rintro e w' ⟨rfl, hb0⟩; have hb2 := aC (w1 := w1) hb1 hb0; clear hb0; have f0 := (hb2.cell (p := ⟨w.heap.size + 1 + 1, 0, none⟩) (by simp only; omega)).trans r0; have f1 := (hb2.cell (p := ⟨w.heap.size + 1 + 1, 1, none⟩) (by simp only; omega)).trans r1; have f2 := (hb2.frozen (p := ⟨w.heap.size + 1 + 1, 0, none⟩) (by simp only; omega)).trans z0; have f3 := (hb2.frozen (p := ⟨w.heap.size + 1 + 1, 1, none⟩) (by simp only; omega)).trans z1))
 go_wp2_with fail;exact bodyPost_ret (v := .agg #[.int .u64 (M.hiN Y : Int), .int .u64 (M.loN Y : Int)]) (by simp [results, Tryz.results31, go_sem, f0, f1]) rfl ⟨rfl, (((b1.trans (hb2.mono b1.size)).setCell (by simp only; omega) _).setCell (by simp only; omega) _)⟩

theorem LG (F : M.Fm) (h : F.Ok) (c : Int) (n : Bool) (s : Nat) (q : Int) (w : World) (hc1 : c ≠ 1) (hc4 : c ≠ 4) (k : Nat) (hk : q - F.qmin = (k : Int)) (hkl : k <= 40000) (hs : s < 2 ^ 120) (hkb : k * F.lead + s < 2 ^ 128) :
 Calls Tryz.prog 31 #[dv F, .agg #[.int .i64 c, .bool n, .int .u64 (M.hiN s : Int), .int .u64 (M.loN s : Int), .int .i64 q]] w fun e w' => e = .returned (.agg #[.int .u64 (M.hiN (k * F.lead + s) : Int), .int .u64 (M.loN (k * F.lead + s) : Int)]) /\ Below w.heap.size w w' := by
 have ht := h.top2;have hp1 := h.p1;have hp2 := h.p2;obtain ⟨pm, hpm⟩ : ∃ pm, F.p = pm + 1 := ⟨F.p - 1, by omega⟩;have hle : F.lead = 2 ^ pm := by unfold M.Fm.lead; rw [hpm]; rfl
 obtain ⟨Z, hZ⟩ : ∃ Z, Z = k * F.lead := ⟨_, rfl⟩;rw [<- hZ] at hkb |-;obtain ⟨Y, hY⟩ : ∃ Y, Y = Z + s := ⟨_, rfl⟩;rw [<- hY] at hkb |-
 have kQ := fun v : World => GX F h v
 have kS := fun v : World => DK k pm v (by omega) (by omega) Z (by rw [hZ, hle] at *; rw [Nat.mod_eq_of_lt (by omega)])
 have kP := fun v : World => rK Z s v (by omega) (by omega) Y (by rw [hY, Nat.mod_eq_of_lt (by omega)])
 rw [M.iK (show k < 18446744073709551616 by omega), M.iR (show k < 18446744073709551616 by omega)] at kS;have hcv : IntKind.u64.wrap (k : Int) = (k : Int) := by rw [fW, Nat.mod_eq_of_lt (by omega)]
 have hsb : IntKind.i64.wrap (q - F.qmin) = (k : Int) := by rw [hk]; simp only [IntKind.wrap_i64]; omega
 have e1 : (F.p : Int) - 1 = (pm : Int) := by omega
 have hwp : IntKind.i64.wrap (pm : Int) = (pm : Int) := by simp only [IntKind.wrap_i64]; omega
 have hwk : IntKind.i64.wrap (k : Int) = (k : Int) := by simp only [IntKind.wrap_i64]; omega
 have hn1 : (c == 1) = false := by simp [hc1]
 have hn4 : (c == 4) = false := by simp [hc4]
 clear hpm hle hY hZ hkb ht;simp only [dv] at *;go_enter Tryz.func31, Tryz.ntmps31;go_upto_region 6 with fail
 have b1 : Below w.heap.size w (((w.alloc (.cells #[.int .i64 (F.p : Int), .int .i64 (1 - (F.emax : Int)), .int .i64 (F.emax : Int), .int .i64 (F.wd : Int), .int .i64 (F.e : Int), .bool F.x] 37)).alloc (.cells #[.int .i64 c, .bool n, .int .u64 (M.hiN s : Int), .int .u64 (M.loN s : Int), .int .i64 q] 67)).alloc (.cells #[.int .u64 0, .int .u64 0] 27)) :=
  (((Below.refl _ _).alloc (Nat.le_refl _) _).alloc (by simp) _).alloc (by simp; omega) _
 generalize hw1 : ((w.alloc (.cells #[.int .i64 (F.p : Int), .int .i64 (1 - (F.emax : Int)), .int .i64 (F.emax : Int), .int .i64 (F.wd : Int), .int .i64 (F.e : Int), .bool F.x] 37)).alloc (.cells #[.int .i64 c, .bool n, .int .u64 (M.hiN s : Int), .int .u64 (M.loN s : Int), .int .i64 q] 67)).alloc (.cells #[.int .u64 0, .int .u64 0] 27) = w1 at b1 |-;have c0 : w1.cell? ⟨w.heap.size, 0, none⟩ = some (.int .i64 (F.p : Int)) := by rw [<- hw1]; simp [go_sem]
 have c1 : w1.cell? ⟨w.heap.size, 1, none⟩ = some (.int .i64 (1 - (F.emax : Int))) := by rw [<- hw1]; simp [go_sem]
 have c2 : w1.cell? ⟨w.heap.size, 2, none⟩ = some (.int .i64 (F.emax : Int)) := by rw [<- hw1]; simp [go_sem]
 have c3 : w1.cell? ⟨w.heap.size, 3, none⟩ = some (.int .i64 (F.wd : Int)) := by rw [<- hw1]; simp [go_sem]
 have c4 : w1.cell? ⟨w.heap.size, 4, none⟩ = some (.int .i64 (F.e : Int)) := by rw [<- hw1]; simp [go_sem]
 have c5 : w1.cell? ⟨w.heap.size, 5, none⟩ = some (.bool F.x) := by rw [<- hw1]; simp [go_sem]
 have p0 : w1.cell? ⟨w.heap.size + 1, 0, none⟩ = some (.int .i64 c) := by rw [<- hw1]; simp [go_sem]
 have p1 : w1.cell? ⟨w.heap.size + 1, 1, none⟩ = some (.bool n) := by rw [<- hw1]; simp [go_sem]
 have p2 : w1.cell? ⟨w.heap.size + 1, 2, none⟩ = some (.int .u64 (M.hiN s : Int)) := by rw [<- hw1]; simp [go_sem]
 have p3 : w1.cell? ⟨w.heap.size + 1, 3, none⟩ = some (.int .u64 (M.loN s : Int)) := by rw [<- hw1]; simp [go_sem]
 have p4 : w1.cell? ⟨w.heap.size + 1, 4, none⟩ = some (.int .i64 q) := by rw [<- hw1]; simp [go_sem]
 have r0 : w1.cell? ⟨w.heap.size + 1 + 1, 0, none⟩ = some (.int .u64 0) := by rw [<- hw1]; simp [go_sem]
 have r1 : w1.cell? ⟨w.heap.size + 1 + 1, 1, none⟩ = some (.int .u64 0) := by rw [<- hw1]; simp [go_sem]
 have z0 : w1.frozen? ⟨w.heap.size + 1 + 1, 0, none⟩ = false := by rw [<- hw1]; simp [go_sem]
 have z1 : w1.frozen? ⟨w.heap.size + 1 + 1, 1, none⟩ = false := by rw [<- hw1]; simp [go_sem]
 have n1 : w.heap.size + 3 <= w1.heap.size := by rw [<- hw1]; simp
 clear hw1
 have D1 : ∀ v, Below w1.heap.size w1 v -> (fun v => v.cell? ⟨w.heap.size, 0, none⟩ = some (.int .i64 (F.p : Int)) /\ v.cell? ⟨w.heap.size, 1, none⟩ = some (.int .i64 (1 - (F.emax : Int))) /\ v.cell? ⟨w.heap.size, 2, none⟩ = some (.int .i64 (F.emax : Int)) /\ v.cell? ⟨w.heap.size, 3, none⟩ = some (.int .i64 (F.wd : Int)) /\ v.cell? ⟨w.heap.size, 4, none⟩ = some (.int .i64 (F.e : Int)) /\ v.cell? ⟨w.heap.size, 5, none⟩ = some (.bool F.x) /\ v.cell? ⟨w.heap.size + 1, 0, none⟩ = some (.int .i64 c) /\ v.cell? ⟨w.heap.size + 1, 1, none⟩ = some (.bool n) /\ v.cell? ⟨w.heap.size + 1, 2, none⟩ = some (.int .u64 (M.hiN s : Int)) /\ v.cell? ⟨w.heap.size + 1, 3, none⟩ = some (.int .u64 (M.loN s : Int)) /\ v.cell? ⟨w.heap.size + 1, 4, none⟩ = some (.int .i64 q)) v := fun v hv => ⟨(hv.cell (by simp only; omega)).trans c0, (hv.cell (by simp only; omega)).trans c1, (hv.cell (by simp only; omega)).trans c2, (hv.cell (by simp only; omega)).trans c3, (hv.cell (by simp only; omega)).trans c4, (hv.cell (by simp only; omega)).trans c5, (hv.cell (by simp only; omega)).trans p0, (hv.cell (by simp only; omega)).trans p1, (hv.cell (by simp only; omega)).trans p2, (hv.cell (by simp only; omega)).trans p3, (hv.cell (by simp only; omega)).trans p4⟩
 have D2 : ∀ v x y, Below w1.heap.size w1 v -> (fun v => v.cell? ⟨w.heap.size, 0, none⟩ = some (.int .i64 (F.p : Int)) /\ v.cell? ⟨w.heap.size, 1, none⟩ = some (.int .i64 (1 - (F.emax : Int))) /\ v.cell? ⟨w.heap.size, 2, none⟩ = some (.int .i64 (F.emax : Int)) /\ v.cell? ⟨w.heap.size, 3, none⟩ = some (.int .i64 (F.wd : Int)) /\ v.cell? ⟨w.heap.size, 4, none⟩ = some (.int .i64 (F.e : Int)) /\ v.cell? ⟨w.heap.size, 5, none⟩ = some (.bool F.x) /\ v.cell? ⟨w.heap.size + 1, 0, none⟩ = some (.int .i64 c) /\ v.cell? ⟨w.heap.size + 1, 1, none⟩ = some (.bool n) /\ v.cell? ⟨w.heap.size + 1, 2, none⟩ = some (.int .u64 (M.hiN s : Int)) /\ v.cell? ⟨w.heap.size + 1, 3, none⟩ = some (.int .u64 (M.loN s : Int)) /\ v.cell? ⟨w.heap.size + 1, 4, none⟩ = some (.int .i64 q)) ((v.setCell ⟨w.heap.size + 1 + 1, 0, none⟩ x).setCell ⟨w.heap.size + 1 + 1, 1, none⟩ y) := fun v x y hv => ⟨((bJ v x y (by omega)).trans (hv.cell (by simp only; omega))).trans c0, ((bJ v x y (by omega)).trans (hv.cell (by simp only; omega))).trans c1, ((bJ v x y (by omega)).trans (hv.cell (by simp only; omega))).trans c2, ((bJ v x y (by omega)).trans (hv.cell (by simp only; omega))).trans c3, ((bJ v x y (by omega)).trans (hv.cell (by simp only; omega))).trans c4, ((bJ v x y (by omega)).trans (hv.cell (by simp only; omega))).trans c5, ((bJ v x y (by omega)).trans (hv.cell (by simp only; omega))).trans p0, ((bJ v x y (by omega)).trans (hv.cell (by simp only; omega))).trans p1, ((bJ v x y (by omega)).trans (hv.cell (by simp only; omega))).trans p2, ((bJ v x y (by omega)).trans (hv.cell (by simp only; omega))).trans p3, ((bJ v x y (by omega)).trans (hv.cell (by simp only; omega))).trans p4⟩
 clear c0 c1 c2 c3 c4 c5 p0 p1 p2 p3 p4
 go_region_held3 (fun v => v.cell? ⟨w.heap.size, 0, none⟩ = some (.int .i64 (F.p : Int)) /\ v.cell? ⟨w.heap.size, 1, none⟩ = some (.int .i64 (1 - (F.emax : Int))) /\ v.cell? ⟨w.heap.size, 2, none⟩ = some (.int .i64 (F.emax : Int)) /\ v.cell? ⟨w.heap.size, 3, none⟩ = some (.int .i64 (F.wd : Int)) /\ v.cell? ⟨w.heap.size, 4, none⟩ = some (.int .i64 (F.e : Int)) /\ v.cell? ⟨w.heap.size, 5, none⟩ = some (.bool F.x) /\ v.cell? ⟨w.heap.size + 1, 0, none⟩ = some (.int .i64 c) /\ v.cell? ⟨w.heap.size + 1, 1, none⟩ = some (.bool n) /\ v.cell? ⟨w.heap.size + 1, 2, none⟩ = some (.int .u64 (M.hiN s : Int)) /\ v.cell? ⟨w.heap.size + 1, 3, none⟩ = some (.int .u64 (M.loN s : Int)) /\ v.cell? ⟨w.heap.size + 1, 4, none⟩ = some (.int .i64 q)) (first | exact D1 _ (by assumption) | exact D1 _ ((Below.refl _ _).drew) | exact D2 _ _ _ (by assumption))
  (first | (go_at_call 76; refine (kQ _).mono ?_; rintro e w' ⟨rfl, hb0⟩; have hb1 := aC (w1 := w1) ((Below.refl _ _).drew) hb0; clear hb0) | (go_at_call 75; refine (kS _).mono ?_; rintro e w' ⟨rfl, hb0⟩; have hb2 := aC (w1 := w1) hb1 hb0; clear hb0) | (go_at_call 77; refine (kP _).mono ?_; rintro e w' ⟨rfl, hb0⟩; have hb3 := aC (w1 := w1) hb2 hb0; clear hb0; have f0 := (hb3.cell (p := ⟨w.heap.size + 1 + 1, 0, none⟩) (by simp only; omega)).trans r0; have f1 := (hb3.cell (p := ⟨w.heap.size + 1 + 1, 1, none⟩) (by simp only; omega)).trans r1; have f2 := (hb3.frozen (p := ⟨w.heap.size + 1 + 1, 0, none⟩) (by simp only; omega)).trans z0; have f3 := (hb3.frozen (p := ⟨w.heap.size + 1 + 1, 1, none⟩) (by simp only; omega)).trans z1))
 go_wp2_with fail;exact bodyPost_ret (v := .agg #[.int .u64 (M.hiN Y : Int), .int .u64 (M.loN Y : Int)]) (by simp [results, Tryz.results31, go_sem, f0, f1]) rfl ⟨rfl, (((b1.trans (hb3.mono b1.size)).setCell (by simp only; omega) _).setCell (by simp only; omega) _)⟩

theorem DA {F : M.Fm} (h : F.Ok) {k s : Nat} (hk : k + 2 <= F.top) (hs : s < 2 * F.lead) : s < 2 ^ 120 /\ k <= 40000 /\ k * F.lead + s < 2 ^ 128 := by
 have h1 := h.leadPow;have h2 := h.p2;have h3 := h.e2;have ht : F.top + 1 = 2 ^ F.e := by unfold M.Fm.top; have := Nat.pow_pos (n := F.e) (show 0 < 2 by omega); omega
 have he : 2 ^ F.e <= 2 ^ 15 := Nat.pow_le_pow_right (by omega) h3;have hl : F.lead <= 2 ^ 112 := by unfold M.Fm.lead; exact Nat.pow_le_pow_right (by omega) (by omega)
 have hm : (k + 2) * F.lead <= F.top * F.lead := Nat.mul_le_mul_right _ hk;have hm2 : F.top * F.lead <= F.lead * 2 ^ F.e := by rw [<- ht, Nat.mul_comm]; exact Nat.mul_le_mul_left _ (by omega)
 have hm3 : (k + 2) * F.lead = k * F.lead + 2 * F.lead := by rw [Nat.add_mul]
 refine ⟨by omega, by omega, by omega⟩

theorem qY (F : M.Fm) (h : F.Ok) (t : M.Pt) (hp : F.Proper t) (h5 : t.c ≠ 5) (v : World) :
 Calls Tryz.prog 31 #[.agg #[.int .i64 (F.p : Int), .int .i64 (1 - (F.emax : Int)), .int .i64 (F.emax : Int), .int .i64 (F.wd : Int), .int .i64 (F.e : Int), .bool F.x], .agg #[.int .i64 t.c, .bool t.n, .int .u64 (M.hiN t.s : Int), .int .u64 (M.loN t.s : Int), .int .i64 t.q]] v fun e w' => e = .returned (.agg #[.int .u64 (M.hiN (F.rank t) : Int), .int .u64 (M.loN (F.rank t) : Int)]) /\ Below v.heap.size v w' := by
 by_cases h1 : t.c = 1
 . have e : F.rank t = 0 := by unfold M.Fm.rank; rw [if_pos h1]
   rw [e];exact K6 F h t.c t.n t.s t.q v h1
 . by_cases h4 : t.c = 4
   . have e : F.rank t = F.top * F.lead := by unfold M.Fm.rank; rw [if_neg h1, if_pos h4]
     rw [e];exact JW F h t.c t.n t.s t.q v h4
   . have e : F.rank t = (t.q - F.qmin).toNat * F.lead + t.s := by unfold M.Fm.rank; rw [if_neg h1, if_neg h4]
     have ht := h.top2;have hlp := h.leadPos
     have hq : 0 <= t.q - F.qmin /\ (t.q - F.qmin).toNat + 2 <= F.top /\ t.s < 2 * F.lead := by
      rcases hp with hp | hp | hp | hp | hp
      . exact absurd hp.1 h1
      . exact absurd hp.1 h4
      . exact absurd hp.1 h5
      . obtain ⟨_, _, b, c⟩ := hp;rw [c];refine ⟨by omega, ?_, by omega⟩;have : (F.qmin - F.qmin).toNat = 0 := by omega
        omega
      . obtain ⟨_, _, b, c, d⟩ := hp;have hqm : F.qmin = 2 - (F.emax : Int) - (F.p : Int) := rfl;exact ⟨by omega, by omega, b⟩
     obtain ⟨r1, r2, r3⟩ := DA h hq.2.1 hq.2.2;rw [e];exact LG F h t.c t.n t.s t.q v h1 h4 _ (by omega) r2 r1 r3

theorem A6 (F : M.Fm) (s t : M.Pt) : F.orderP s t = if (decide (s.c ≠ 0 /\ s.c ≠ 5) && decide (t.c ≠ 0 /\ t.c ≠ 5)) = false then 2 else if (decide (s.n = true /\ s.c ≠ 1) && decide (t.n = true /\ t.c ≠ 1)) = true then M.cG (F.rank t) (F.rank s) else if decide (s.n = true /\ s.c ≠ 1) = true then -1 else if decide (t.n = true /\ t.c ≠ 1) = true then 1 else M.cG (F.rank s) (F.rank t) := by
 unfold M.Fm.orderP
 by_cases h1 : s.c ≠ 0 /\ s.c ≠ 5
 . by_cases h2 : t.c ≠ 0 /\ t.c ≠ 5
   . rw [if_neg (by omega), decide_eq_true h1, decide_eq_true h2]
     by_cases h3 : s.n = true /\ s.c ≠ 1
     . rw [if_pos h3, decide_eq_true h3]
       by_cases h4 : t.n = true /\ t.c ≠ 1
       . rw [if_pos h4, decide_eq_true h4]; simp
       . rw [if_neg h4, decide_eq_false h4]; simp
     . rw [if_neg h3, decide_eq_false h3]
       by_cases h4 : t.n = true /\ t.c ≠ 1
       . rw [if_pos h4, decide_eq_true h4]; simp
       . rw [if_neg h4, decide_eq_false h4]; simp
   . rw [if_pos (by omega), decide_eq_false h2]; simp
 . rw [if_pos (by omega), decide_eq_false h1]; simp

theorem qN {F : M.Fm} {t : M.Pt} (h : t = ⟨0, false, 0, 0⟩ \/ F.Proper t) (hc : t.c ≠ 0) : F.Proper t := by
 rcases h with h | h
 . rw [h] at hc; exact absurd rfl hc
 . exact h

theorem zJ (f : Nat) (hf : f < 4) (X Y : Nat) (hX : X < 2 ^ 128) (hY : Y < 2 ^ 128) (w : World) (hm : Fmt w) :
 Calls Tryz.prog 10 #[.int .i64 (f : Int), .agg #[.int .u64 (M.hiN X : Int), .int .u64 (M.loN X : Int)], .agg #[.int .u64 (M.hiN Y : Int), .int .u64 (M.loN Y : Int)]] w fun e w' => e = .returned (.int .i64 ((M.fm f).orderS X Y)) /\ Below w.heap.size w w' := by
 have h := M.jA f;rw [<- h.order X Y];have pS := h.upk_proper X;have pT := h.upk_proper Y
 exact wK (f : Int) X Y ((M.fm f).upk X) ((M.fm f).upk Y) _ _ _ _ _ _ _ _ _ _ ((M.fm f).rank ((M.fm f).upk X)) ((M.fm f).rank ((M.fm f).upk Y)) _ _ _ w hm
  (fun v hv => jG f hf v hv) (fun v hv => nZ f hf X hX v hv) (fun v hv => nZ f hf Y hY v hv)
  (fun v => zY _ _ _ _ _ v _ rfl) (fun v => zY _ _ _ _ _ v _ rfl) (fun v => FU _ _ _ _ _ v _ rfl) (fun v => FU _ _ _ _ _ v _ rfl)
  (fun h1 h2 v => qY (M.fm f) h _ (qN pS (of_decide_eq_true h1).1) (of_decide_eq_true h1).2 v)
  (fun h1 h2 v => qY (M.fm f) h _ (qN pT (of_decide_eq_true h2).1) (of_decide_eq_true h2).2 v)
  (fun v => GO _ _ v _ rfl) (fun v => GO _ _ v _ rfl) (A6 _ _ _)

end Go.Proofs.YtfdgkleoaehjaaaGreatDoor
namespace Go.Proofs.YtfdgkleoaehjaaaGreatDoor.M
set_option linter.unusedVariables false
set_option maxRecDepth 100000
theorem EL {n1 m1 n2 m2 : Nat} (h1 : 0 < m1) (h2 : 0 < m2) (h : n1 * m2 <= n2 * m1) : n1 / m1 + rUp n1 m1 <= n2 / m2 + rUp n2 m2 := by
 have e1 := Nat.div_add_mod n1 m1;have e2 := Nat.div_add_mod n2 m2;have l1 := Nat.mod_lt n1 h1;have l2 := Nat.mod_lt n2 h2
 have u1 : rUp n1 m1 <= 1 := by unfold rUp; split <;> omega
 rcases Nat.lt_trichotomy (n1 / m1) (n2 / m2) with c | c | c
 . omega
 . have hr : n1 % m1 * m2 <= n2 % m2 * m1 := by
    have a : n1 * m2 = m1 * m2 * (n1 / m1) + n1 % m1 * m2 := by
     conv => lhs; rw [<- e1]
     rw [Nat.add_mul, Nat.mul_right_comm]
    have b : n2 * m1 = m1 * m2 * (n2 / m2) + n2 % m2 * m1 := by
     conv => lhs; rw [<- e2]
     rw [Nat.add_mul, Nat.mul_right_comm, Nat.mul_comm m2 m1]
    rw [a, b, c] at h;omega
   suffices rUp n1 m1 <= rUp n2 m2 by omega
   unfold rUp;rw [c];generalize n1 % m1 = r1 at *;generalize n2 % m2 = r2 at *;generalize n2 / m2 % 2 = o at *
   by_cases g : m1 < 2 * r1 \/ 2 * r1 = m1 /\ o = 1
   . have k1 : m1 * m2 <= 2 * r1 * m2 := Nat.mul_le_mul_right _ (by omega);have k2 : 2 * r1 * m2 <= 2 * r2 * m1 := by rw [Nat.mul_assoc, Nat.mul_assoc]; omega
     have k3 : m2 <= 2 * r2 := by
      have : m1 * m2 <= m1 * (2 * r2) := by rw [Nat.mul_comm m1 (2 * r2)]; omega
      exact Nat.le_of_mul_le_mul_left this h1
     have : m2 < 2 * r2 \/ 2 * r2 = m2 /\ o = 1 := by
      rcases Nat.lt_or_eq_of_le k3 with q | q
      . exact .inl q
      . refine .inr ⟨q.symm, ?_⟩;rcases g with g | g
        . exfalso
          have a : m1 * m2 < 2 * r1 * m2 := Nat.mul_lt_mul_of_pos_right g h2;rw [<- q, Nat.mul_comm m2 m1] at k2;omega
        . exact g.2
     rw [if_pos this]
     split <;> omega
   . rw [if_neg g]; exact Nat.zero_le _
 . exfalso
   have a : (n2 / m2 + 1) * m1 * m2 <= n1 * m2 := by
    refine Nat.mul_le_mul_right _ ?_;exact Nat.le_trans (Nat.mul_le_mul_right _ (show n2 / m2 + 1 <= n1 / m1 by omega)) (Nat.div_mul_le_self _ _)
   have b : n2 * m1 < (n2 / m2 + 1) * m1 * m2 := by
    rw [Nat.mul_right_comm];refine Nat.mul_lt_mul_of_pos_right ?_ h1;rw [Nat.add_mul, Nat.one_mul, Nat.mul_comm];omega
   omega

theorem BF {N1 D1 N2 D2 : Nat} (h1 : 0 < D1) (h : N1 * D2 <= N2 * D1) (e : Int) (hl : lt2 N2 D2 e) : lt2 N1 D1 e := by
 unfold lt2 at *
 have a : N1 * 2 ^ (-e).toNat * D2 <= N2 * 2 ^ (-e).toNat * D1 := by
  rw [Nat.mul_right_comm, Nat.mul_right_comm N2];exact Nat.mul_le_mul_right _ h
 have b := Nat.mul_lt_mul_of_pos_right hl h1;have c : D2 * 2 ^ e.toNat * D1 = D1 * 2 ^ e.toNat * D2 := by rw [Nat.mul_right_comm, Nat.mul_comm D2 D1, Nat.mul_right_comm]
 exact Nat.lt_of_mul_lt_mul_right (a := D2) (by omega)

def Fm.rG (F : Fm) (N De : Nat) : Nat := (F.rQ N De - F.qmin).toNat * F.lead + F.rS N De

theorem Fm.Ok.rG_mono {F : Fm} (h : F.Ok) {N1 D1 N2 D2 : Nat} (p1 : 0 < N1) (p2 : 0 < N2) (d1 : 0 < D1) (d2 : 0 < D2) (hle : N1 * D2 <= N2 * D1) : F.rG N1 D1 <= F.rG N2 D2 := by
 obtain ⟨a1, a2⟩ := qF N1 D1 p1 d1;obtain ⟨b1, b2⟩ := qF N2 D2 p2 d2
 have hE : rE N1 D1 <= rE N2 D2 := by
  refine Int.not_lt.1 fun hh => ?_
  exact a1 (iG d1 (BF d1 hle _ b2) (by omega))
 have q1 : F.rQ N1 D1 = max (rE N1 D1 - F.p + 1) F.qmin := rfl;have q2 : F.rQ N2 D2 = max (rE N2 D2 - F.p + 1) F.qmin := rfl;obtain ⟨m1, -, -⟩ := h.rS_ok N1 D1 p1 d1;obtain ⟨m2, -, g2⟩ := h.rS_ok N2 D2 p2 d2;have s1 := h.rS_le N1 D1 p1 d1;have two := h.two_lead;unfold Fm.rG;rcases (show F.rQ N1 D1 = F.rQ N2 D2 \/ F.rQ N1 D1 < F.rQ N2 D2 by omega) with hq | hq
 . have : F.rS N1 D1 <= F.rS N2 D2 := by
    unfold Fm.rS;refine EL m1 m2 ?_;unfold Fm.rN Fm.rM;rw [hq];generalize 2 ^ (-(F.rQ N2 D2)).toNat = x;generalize 2 ^ (F.rQ N2 D2).toNat = y;have e1 : N1 * x * (D2 * y) = N1 * D2 * (x * y) := by rw [Nat.mul_mul_mul_comm]
    have e2 : N2 * x * (D1 * y) = N2 * D1 * (x * y) := by rw [Nat.mul_mul_mul_comm]
    rw [e1, e2];exact Nat.mul_le_mul_right _ hle
   rw [hq];omega
 . have l2 : F.lead <= F.rS N2 D2 := by
    have := g2 (by omega);unfold Fm.rS;omega
   obtain ⟨A, hA⟩ : ∃ A : Nat, A = (F.rQ N1 D1 - F.qmin).toNat := ⟨_, rfl⟩;obtain ⟨B, hB⟩ : ∃ B : Nat, B = (F.rQ N2 D2 - F.qmin).toNat := ⟨_, rfl⟩;rw [<- hA, <- hB];have hAB : A + 1 <= B := by omega
   have := Nat.mul_le_mul_right F.lead hAB;rw [Nat.add_mul, Nat.one_mul] at this;omega

theorem Fm.Ok.rank_rPt {F : Fm} (h : F.Ok) (n : Bool) (N De : Nat) (hN : 0 < N) (hd : 0 < De) : F.rank (F.rPt n N De) = min (F.rG N De) (F.top * F.lead) := by
 have two := h.two_lead;have lp := h.leadPos;have tp := h.top2;have q1 : F.rQ N De = max (rE N De - F.p + 1) F.qmin := rfl;have qm : F.qmin = 2 - (F.emax : Int) - (F.p : Int) := rfl;have lo := h.rLow N De hN hd;have sl := h.rS_le N De hN hd;obtain ⟨m1, -, g1⟩ := h.rS_ok N De hN hd;have hle : F.rN N De / F.rM N De <= F.rS N De := by unfold Fm.rS; omega
 have eG : (F.rExp N De - F.qmin).toNat * F.lead + F.rSig N De = F.rG N De := by
  unfold Fm.rG Fm.rExp Fm.rSig
  by_cases c : F.rS N De = 2 ^ F.p
  . rw [if_pos c, if_pos c, c, two, show (F.rQ N De + 1 - F.qmin).toNat = (F.rQ N De - F.qmin).toNat + 1 by omega, Nat.add_mul];omega
  . rw [if_neg c, if_neg c]
 have eQ : F.qmin <= F.rExp N De := by unfold Fm.rExp; split <;> omega
 have sg := h.rSig_lt N De hN hd;rw [<- eG];unfold Fm.rPt
 by_cases c1 : F.rSig N De = 0
 . rw [if_pos c1];obtain ⟨x1, -, -⟩ := lo (by omega);unfold Fm.rank;rw [c1, x1]
   simp
 rw [if_neg c1]
 by_cases c2 : F.rSig N De < F.lead
 . rw [if_pos c2];obtain ⟨x1, -, -⟩ := lo c2;unfold Fm.rank;simp only;rw [x1];have : F.lead <= F.top * F.lead := Nat.le_mul_of_pos_left _ (by omega)
   simp
   omega
 rw [if_neg c2];obtain ⟨K, hK⟩ : ∃ K : Nat, K = (F.rExp N De - F.qmin).toNat := ⟨_, rfl⟩;rw [<- hK]
 by_cases c3 : (F.emax : Int) < F.rExp N De + F.p - 1
 . rw [if_pos c3];unfold Fm.rank;simp only;have hT : F.top <= K + 1 := by omega
   have := Nat.mul_le_mul_right F.lead hT;rw [Nat.add_mul, Nat.one_mul] at this
   simp
   omega
 . rw [if_neg c3];unfold Fm.rank;simp only;rw [<- hK];have hT : K + 2 <= F.top := by omega
   have := Nat.mul_le_mul_right F.lead hT;rw [Nat.add_mul] at this
   simp
   omega

def lx : List Nat -> List Nat -> Prop
 | [], [] => False
 | [], _ :: _ => True
 | _ :: _, [] => False
 | x :: r, y :: s => x < y \/ (x = y /\ lx r s)

theorem F7 : ∀ {a b : List Nat}, Dig a -> Dig b -> lx a b -> dec a * 10 ^ b.length <= dec b * 10 ^ a.length
 | [], b, _, _, _ => by simp [show dec [] = 0 from rfl]
 | x :: r, [], _, _, h => by exact h.elim
 | x :: r, y :: s, ha, hb, h => by
   have hx := ha x (by simp);have hy := hb y (by simp)
   have hr : Dig r := fun c hc => ha c (List.mem_cons_of_mem _ hc)
   have hs : Dig s := fun c hc => hb c (List.mem_cons_of_mem _ hc)
   rw [mT, mT, List.length_cons, List.length_cons, Nat.pow_succ, Nat.pow_succ];have lr := gT r hr
   have ih : lx r s -> dec r * 10 ^ s.length <= dec s * 10 ^ r.length := fun g => F7 hr hs g
   generalize 10 ^ r.length = P at *;generalize 10 ^ s.length = Q at *;have e1 : ((x - 48) * P + dec r) * (Q * 10) = (((x - 48) * P + dec r) * Q) * 10 := by rw [Nat.mul_assoc]
   have e2 : ((y - 48) * Q + dec s) * (P * 10) = (((y - 48) * Q + dec s) * P) * 10 := by rw [Nat.mul_assoc]
   rw [e1, e2];refine Nat.mul_le_mul_right _ ?_;rcases h with h | ⟨rfl, h⟩
   . have a : (x - 48) * P + dec r <= (y - 48) * P := by
      have : (x - 48 + 1) * P <= (y - 48) * P := Nat.mul_le_mul_right _ (by omega);rw [Nat.add_mul, Nat.one_mul] at this;omega
     refine Nat.le_trans (Nat.mul_le_mul_right _ a) ?_;rw [Nat.mul_right_comm];exact Nat.mul_le_mul_right _ (Nat.le_add_right _ _)
   . have k := ih h;rw [Nat.add_mul, Nat.add_mul, Nat.mul_right_comm];omega

theorem qG {A B : Nat} {ea eb : Int} (h1 : ∀ d : Nat, eb = ea + d -> A <= B * 10 ^ d) (h2 : ∀ d : Nat, ea = eb + d -> A * 10 ^ d <= B) :
 A * 10 ^ ea.toNat * 10 ^ (-eb).toNat <= B * 10 ^ eb.toNat * 10 ^ (-ea).toNat := by
 rcases (show (∃ d : Nat, eb = ea + d) \/ ∃ d : Nat, ea = eb + d by
  rcases Int.le_total ea eb with g | g
  . exact .inl ⟨(eb - ea).toNat, by omega⟩
  . exact .inr ⟨(ea - eb).toNat, by omega⟩) with ⟨d, hd⟩ | ⟨d, hd⟩
 . have e : B * 10 ^ eb.toNat * 10 ^ (-ea).toNat = B * 10 ^ d * (10 ^ ea.toNat * 10 ^ (-eb).toNat) := by
    rw [Nat.mul_assoc, Nat.mul_assoc, <- Nat.pow_add, <- Nat.pow_add, <- Nat.pow_add]
    congr 2
    omega
   rw [e, Nat.mul_assoc];exact Nat.mul_le_mul_right _ (h1 d hd)
 . have e : A * 10 ^ ea.toNat * 10 ^ (-eb).toNat = A * 10 ^ d * (10 ^ eb.toNat * 10 ^ (-ea).toNat) := by
    rw [Nat.mul_assoc, Nat.mul_assoc, <- Nat.pow_add, <- Nat.pow_add, <- Nat.pow_add]
    congr 2
    omega
   rw [e, Nat.mul_assoc B];exact Nat.mul_le_mul_right _ (h2 d hd)

theorem GH {a b : List Nat} {ea eb : Int} (da : Dig a) (db : Dig b) (ka : 0 < a.length) (kb : 0 < b.length) (ha : dec a < 10 ^ a.length) (hb : 10 ^ (b.length - 1) <= dec b)
 (h : (a.length : Int) + ea < (b.length : Int) + eb \/ ((a.length : Int) + ea = (b.length : Int) + eb /\ lx a b)) :
 dec a * 10 ^ ea.toNat * 10 ^ (-eb).toNat <= dec b * 10 ^ eb.toNat * 10 ^ (-ea).toNat := by
 rcases h with h | ⟨h, hx⟩
 . refine qG (fun d hd => ?_) (fun d hd => ?_)
   . refine Nat.le_trans (Nat.le_of_lt ha) (Nat.le_trans ?_ (Nat.mul_le_mul_right _ hb));rw [<- Nat.pow_add];exact Nat.pow_le_pow_right (by omega) (by omega)
   . refine Nat.le_trans (Nat.mul_le_mul_right _ (Nat.le_of_lt ha)) (Nat.le_trans ?_ hb);rw [<- Nat.pow_add];exact Nat.pow_le_pow_right (by omega) (by omega)
 . have k := F7 da db hx
   refine qG (fun d hd => ?_) (fun d hd => ?_)
   . rw [show a.length = b.length + d by omega, Nat.pow_add, <- Nat.mul_assoc, Nat.mul_right_comm] at k;exact Nat.le_of_mul_le_mul_right k (Nat.pow_pos (by omega))
   . rw [show b.length = a.length + d by omega, Nat.pow_add, <- Nat.mul_assoc, Nat.mul_right_comm] at k;exact Nat.le_of_mul_le_mul_right k (Nat.pow_pos (by omega))

theorem Fm.Ok.rank_ahead {F : Fm} (h : F.Ok) {a b : List Nat} {ea eb : Int} (da : Dig a) (db : Dig b) (ka : 0 < a.length) (kb : 0 < b.length) (ha : 10 ^ (a.length - 1) <= dec a) (hb : 10 ^ (b.length - 1) <= dec b)
 (hlt : (a.length : Int) + ea < (b.length : Int) + eb \/ ((a.length : Int) + ea = (b.length : Int) + eb /\ lx a b)) (n m : Bool) :
 F.rank (F.rPt n (dec a * 10 ^ (aL ea a.length).toNat) (10 ^ (-(aL ea a.length)).toNat)) <= F.rank (F.rPt m (dec b * 10 ^ (aL eb b.length).toNat) (10 ^ (-(aL eb b.length)).toNat)) := by
 have la := gT a da;have lb := gT b db;have pa : 0 < dec a := Nat.lt_of_lt_of_le (Nat.pow_pos (by omega)) ha;have pb : 0 < dec b := Nat.lt_of_lt_of_le (Nat.pow_pos (by omega)) hb;obtain ⟨a1, a2, a3⟩ := h.clamped (dec a) a.length ea ka ha la n 0 0;obtain ⟨b1, b2, b3⟩ := h.clamped (dec b) b.length eb kb hb lb m 0 0
 have pos : ∀ x : Nat, 0 < 10 ^ x := fun x => Nat.pow_pos (by omega)
 by_cases c1 : 5000 < (b.length : Int) + eb
 . rw [(b1 c1).1, h.rank_rPt n _ _ (Nat.mul_pos pa (pos _)) (pos _)];unfold Fm.rank
   simp
   omega
 by_cases c2 : (a.length : Int) + ea < -5100
 . rw [(a2 c2).1];unfold Fm.rank
   simp
 have ca := a3 (by omega) (by omega);have cb := b3 (by omega) (by omega);rw [ca, cb, h.rank_rPt n _ _ (Nat.mul_pos pa (pos _)) (pos _), h.rank_rPt m _ _ (Nat.mul_pos pb (pos _)) (pos _)];have := h.rG_mono (Nat.mul_pos pa (pos ea.toNat)) (Nat.mul_pos pb (pos eb.toNat)) (pos (-ea).toNat) (pos (-eb).toNat) (GH da db ka kb la hb hlt);omega

end Go.Proofs.YtfdgkleoaehjaaaGreatDoor.M
