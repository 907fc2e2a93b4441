import Derived.Test.YtodgblbaclionaaGreatDoorChecked
import Derived.Lib.Strings
import Derived.Lib.Slices
import Derived.Lib.Small
import Derived.Lib.Walk
import Derived.Test.YtodgblbaclionaaGreatDoorrAtR
import Derived.Test.YtodgblbaclionaaGreatDoorrBF
namespace Go.Proofs.YtodgblbaclionaaGreatDoor

open Go.RowKit

set_option linter.unusedVariables false
set_option maxRecDepth 100000

/-- The rounding's variable: the description, the two numbers, the word, the exponent. -/
def Rb (v : World) (g : Nat) (e0 e1 e2 e3 e4 : Int) (e5 : Bool) (a : Option Addr) (n c : Nat) (b : Option Addr) (m d : Nat) (Z : Nat) (q : Int) : Prop :=
  Cls v g #[.int .i64 e0, .int .i64 e1, .int .i64 e2, .int .i64 e3, .int .i64 e4, .bool e5, .slice a n c, .slice b m d, .int .u64 (M.hiN Z : Int), .int .u64 (M.loN Z : Int), .int .i64 q] 130

theorem Rb.below {v v' : World} {g : Nat} {e0 e1 e2 e3 e4 : Int} {e5 : Bool} {a b : Option Addr} {n c m d Z : Nat} {q : Int} (h : Rb v g e0 e1 e2 e3 e4 e5 a n c b m d Z q) (hb : Below v.heap.size v v') : Rb v' g e0 e1 e2 e3 e4 e5 a n c b m d Z q := Cls.below h hb

theorem cmpI_lt1 (a b : Nat) : decide (cmpI (a : Int) (b : Int) < 0) = decide (a < b) := by
  unfold cmpI
  rw [Bool.eq_iff_iff]
  simp only [decide_eq_true_eq]
  split
  · omega
  · split <;> omega

theorem keepDq {w1 W v : World} {q : Nat} (h : Below w1.heap.size w1 W) (e : v = W.drewN q) : Below w1.heap.size w1 v := by
  subst e
  exact ⟨h.os, h.tape, h.output, h.size, h.block⟩

theorem belDr (v : World) (q : Nat) : Below v.heap.size v (v.drewN q) := ⟨rfl, rfl, rfl, Nat.le_refl _, fun _ _ => rfl⟩

set_option maxRecDepth 100000 in
set_option maxHeartbeats 4000000 in
theorem iexp_key (g : Nat) (e0 e1 e2 e3 e4 : Int) (e5 : Bool) (a b : Option Addr) (c d N De Z : Nat) (q : Int) (w : World) (hB : Rb w g e0 e1 e2 e3 e4 e5 a (L N).length c b (L De).length d Z q) (ra : Rd w a (L N)) (rb : Rd w b (L De))
    (bN bD : Nat) (hbN : bN ≤ 90000) (hbD : bD ≤ 90000) (kN : ∀ v : World, Rd v a (L N) → Calls Tryz.prog 113 #[.slice a (L N).length c] v fun e w' => e = .returned (.int .i64 (bN : Int)) ∧ w' = v)
    (kD : ∀ v : World, Rd v b (L De) → Calls Tryz.prog 113 #[.slice b (L De).length d] v fun e w' => e = .returned (.int .i64 (bD : Int)) ∧ w' = v)
    (t s1 s2 : Int) (ht : t = (bN : Int) - bD) (hs1 : max (-t) 0 = s1) (hs2 : max t 0 = s2) (X Y : Nat)
    (kX : ∀ v : World, Rd v a (L N) → Calls Tryz.prog 104 #[.slice a (L N).length c, .int .i64 s1] v fun e w' => Ret v w' e (L X))
    (kY : ∀ v : World, Rd v b (L De) → Calls Tryz.prog 104 #[.slice b (L De).length d, .int .i64 s2] v fun e w' => Ret v w' e (L Y))
    (cz : Int) (kC : ∀ (v : World) (ao bo : Option Addr) (c d : Nat), Rd v ao (L X) → Rd v bo (L Y) → Calls Tryz.prog 107 #[.slice ao (L X).length c, .slice bo (L Y).length d] v fun e w' => e = .returned (.int .i64 cz) ∧ ∃ q, w' = v.drewN q)
    (E : Int) (hE : E = if cz < 0 then t - 1 else t) :
    Calls Tryz.prog 103 #[.pointer (some ⟨g, 0, none⟩)] w fun e w' => e = .returned (.int .i64 E) ∧ Below w.heap.size w w' := by
  have w1 : IntKind.i64.wrap ((bN : Int) - (bD : Int)) = t := by rw [IntKind.wrap_i64]; omega
  have w1' : (bN : Int) - (bD : Int) = t := by omega
  have w2 : IntKind.i64.wrap (-t) = -t := by rw [IntKind.wrap_i64]; omega
  have w3 : IntKind.i64.wrap (t - 1) = t - 1 := by rw [IntKind.wrap_i64]; omega
  have w4 : IntKind.i64.wrap t = t := by rw [IntKind.wrap_i64]; omega
  have HT := hid ht; clear ht
  have hs1' : (if -t < 0 then 0 else -t) = s1 := by split <;> omega
  have hs2' : (if t < 0 then 0 else t) = s2 := by split <;> omega
  have HE := hid hE; clear hE
  have c6 := Cls.cell hB 6 rfl
  have c7 := Cls.cell hB 7 rfl
  go_enter Tryz.func103, Tryz.ntmps103
  go_upto_region 1 with fail
  go_quiet ((go_at_call 113; first | (with_reducible show Calls _ _ #[Value.slice a _ _] _ _; exact Calls.quiet_of_same (kN _ (Rd.drewN ra _))) | exact Calls.quiet_of_same (kD _ (Rd.drewN rb _))))
  replace hB := hB.below (belDr _ nq)
  replace ra := ra.below (belDr _ nq)
  replace rb := rb.below (belDr _ nq)
  have b0 := belDr w nq
  generalize w.drewN nq = v1 at *
  clear c6 c7 kN kD w1 w1'
  go_upto_region 2 with fail
  go_cut [31] (fun z wx => z = .bool (decide (cz < 0)) ∧ Below v1.heap.size v1 wx)
  case first =>
    have A0 : Below v1.heap.size v1 v1.drew := (Below.refl _ _).drew
    have KB : ∀ v, Below v1.heap.size v1 v → (fun v => v.cell? ⟨g, 6, none⟩ = some (.slice a (L N).length c) ∧ v.cell? ⟨g, 7, none⟩ = some (.slice b (L De).length d)) v := fun v hv => ⟨Cls.cell (hB.below hv) 6 rfl, Cls.cell (hB.below hv) 7 rfl⟩
    go_region_held3 (fun v => v.cell? ⟨g, 6, none⟩ = some (.slice a (L N).length c) ∧ v.cell? ⟨g, 7, none⟩ = some (.slice b (L De).length d)) (first | with_reducible exact KB _ hb3 | with_reducible exact KB _ hb2 | with_reducible exact KB _ hb1 | with_reducible exact KB _ A0)
      (first | (have hq := hb2; clear hq; go_at_call 107; refine (kC _ _ _ _ _ r1 r2).mono ?_; rintro e u3 ⟨rfl, qq, hu3⟩; have hb3 := keepDq (w1 := v1) hb2 hu3; clear hu3) | (have hq := hb1; clear hq; go_at_call 104; refine (kY _ (rb.below hb1)).mono ?_; rintro e u2 ⟨x2, k2, rfl, o2, hb0⟩; have hb2 := keepC (w1 := v1) hb1 hb0; have r2 := Rd.own o2; replace r1 := r1.below hb0; clear hb0 o2) | (go_at_call 104; refine (kX _ (ra.below A0)).mono ?_; rintro e u1 ⟨x1, k1, rfl, o1, hb0⟩; have hb1 := keepC (w1 := v1) A0 hb0; have r1 := Rd.own o1; clear hb0 o1))
    all_goals go_wp2_with fail
    all_goals go_meet
    all_goals exact ⟨rfl, hb3⟩
  case rest =>
  obtain ⟨rfl, hbx⟩ := hcut
  replace b0 := b0.trans (hbx.mono b0.size)
  have HB0 := hid b0
  clear b0 hbx hB ra rb kX kY kC hs1 hs2 hs1' hs2'
  have h := HE.out
  by_cases hz : cz < 0
  · rw [if_pos hz] at h
    have hd : decide (cz < 0) = true := decide_eq_true hz
    have H := hid h; clear h
    go_wp2_with fail
    go_ret
    exact ⟨by rw [H.out]; rfl, HB0.out⟩
  · rw [if_neg hz] at h
    have hd : decide (cz < 0) = false := decide_eq_false hz
    have H := hid h; clear h
    go_wp2_with fail
    go_ret
    exact ⟨by rw [H.out]; rfl, HB0.out⟩

end Go.Proofs.YtodgblbaclionaaGreatDoor

