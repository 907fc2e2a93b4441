import Derived.Test.YtehplfmnipadmaeSc4
import Derived.Test.YtehplfmnipadmaeNuA
import Derived.Test.YtehplfmnipadmaeW12
import Derived.Test.YtehplfmnipadmaeW7
import Derived.Test.YtehplfmnipadmaeKp
import Derived.Deep.RegionHeld3
import Derived.Test.YtehplfmnipadmaeW8
import Derived.Test.YtehplfmnipadmaeCom
import Derived.Test.YtehplfmnipadmaeZBY
import Derived.Test.YtehplfmnipadmaeW11
import Derived.Test.YtehplfmnipadmaeCls
import Derived.Deep.CutBlock
import Derived.Deep.DeepCutAuto
import Derived.OpenShut
import Derived.Test.YtehplfmnipadmaeRows
import Derived.WalkKit
import Derived.ProofKit
import Derived.ShutString
import Derived.ChangeOld
import Derived.Below
import Derived.ChangeShapes
namespace Go.Proofs.Ytehplfmnipadmae
open Go.RowKit
set_option linter.unusedVariables false
set_option maxRecDepth 100000

set_option maxRecDepth 100000 in
set_option maxHeartbeats 4000000 in
theorem sscale_no (d : Nat) (k W : Int) (T : Nat) (E : Int) (x : Bool) (w : World) :
    Calls Try.prog 15 #[.int .u64 (d : Int), .agg #[.int .i64 k, .int .i64 W, .int .u64 (M.hiN T : Int), .int .u64 (M.loN T : Int), .int .i64 E, .bool x, .bool false]] w fun e w' => e = .returned (.agg #[.slice none 0 0, .slice none 0 0, .int .i64 0, .bool false]) ∧ Below w.heap.size w w' := by
  have b0 : Below w.heap.size w ((w.alloc (.cells #[.int .i64 k, .int .i64 W, .int .u64 (M.hiN T : Int), .int .u64 (M.loN T : Int), .int .i64 E, .bool x, .bool false] 29)).alloc (.cells #[.slice none 0 0, .slice none 0 0, .int .i64 0, .bool false] 41)) := ((Below.refl _ _).alloc (Nat.le_refl _) _).alloc (by simp) _
  have hP : Cls ((w.alloc (.cells #[.int .i64 k, .int .i64 W, .int .u64 (M.hiN T : Int), .int .u64 (M.loN T : Int), .int .i64 E, .bool x, .bool false] 29)).alloc (.cells #[.slice none 0 0, .slice none 0 0, .int .i64 0, .bool false] 41)) w.heap.size #[.int .i64 k, .int .i64 W, .int .u64 (M.hiN T : Int), .int .u64 (M.loN T : Int), .int .i64 E, .bool x, .bool false] 29 := (Cls.new w _ _).below ((Below.refl _ _).alloc (Nat.le_refl _) _)
  have hR : Cls ((w.alloc (.cells #[.int .i64 k, .int .i64 W, .int .u64 (M.hiN T : Int), .int .u64 (M.loN T : Int), .int .i64 E, .bool x, .bool false] 29)).alloc (.cells #[.slice none 0 0, .slice none 0 0, .int .i64 0, .bool false] 41)) (w.heap.size + 1) #[.slice none 0 0, .slice none 0 0, .int .i64 0, .bool false] 41 := by
    have := Cls.new (w.alloc (.cells #[.int .i64 k, .int .i64 W, .int .u64 (M.hiN T : Int), .int .u64 (M.loN T : Int), .int .i64 E, .bool x, .bool false] 29)) #[.slice none 0 0, .slice none 0 0, .int .i64 0, .bool false] 41
    rwa [World.size_alloc] at this
  generalize hV : ((w.alloc (.cells #[.int .i64 k, .int .i64 W, .int .u64 (M.hiN T : Int), .int .u64 (M.loN T : Int), .int .i64 E, .bool x, .bool false] 29)).alloc (.cells #[.slice none 0 0, .slice none 0 0, .int .i64 0, .bool false] 41)) = v0 at *
  go_enter Try.func15, Try.ntmps15
  go_upto_region 1 with fail
  clear hV
  have p6 := hP.cell 6 rfl
  go_quiet (fail)
  replace hR := hR.below (scDrew (Below.refl _ _) nq)
  replace b0 := scDrew b0 nq
  generalize v0.drewN nq = v1 at *
  clear p6
  have r0 := hR.cell 0 rfl
  have s0 := hR.frozen 0
  have r1 := hR.cell 1 rfl
  have s1 := hR.frozen 1
  have r2 := hR.cell 2 rfl
  have s2 := hR.frozen 2
  have r3 := hR.cell 3 rfl
  have s3 := hR.frozen 3
  go_wp2_with fail
  have R5 := Cls.set (Cls.set (Cls.set (Cls.set (hR) 0 (.slice none 0 0) _ rfl) 1 (.slice none 0 0) _ rfl) 2 (.int .i64 0) _ rfl) 3 (.bool false) #[.slice none 0 0, .slice none 0 0, .int .i64 0, .bool false] rfl
  have B5 := ((((b0).setCell (p := ⟨w.heap.size + 1, 0, none⟩) (by simp only; omega) (.slice none 0 0)).setCell (p := ⟨w.heap.size + 1, 1, none⟩) (by simp only; omega) (.slice none 0 0)).setCell (p := ⟨w.heap.size + 1, 2, none⟩) (by simp only; omega) (.int .i64 0)).setCell (p := ⟨w.heap.size + 1, 3, none⟩) (by simp only; omega) (.bool false)
  generalize ((((v1.setCell ⟨w.heap.size + 1, 0, none⟩ (.slice none 0 0)).setCell ⟨w.heap.size + 1, 1, none⟩ (.slice none 0 0)).setCell ⟨w.heap.size + 1, 2, none⟩ (.int .i64 0)).setCell ⟨w.heap.size + 1, 3, none⟩ (.bool false)) = Yw at R5 B5 ⊢
  have q0 := R5.cell 0 rfl
  have q1 := R5.cell 1 rfl
  have q2 := R5.cell 2 rfl
  have q3 := R5.cell 3 rfl
  exact bodyPost_ret (v := .agg #[.slice none 0 0, .slice none 0 0, .int .i64 0, .bool false]) (by simp [results, Try.results15, go_sem, q0, q1, q2, q3]) rfl ⟨rfl, B5⟩

set_option maxRecDepth 100000 in
set_option maxHeartbeats 4000000 in
theorem sscale_ne (d : Nat) (k W : Int) (T : Nat) (E : Int) (x : Bool) (w : World) (a0 a1 a2 a3 a4 : Int) (a5 a6 : Bool)
    (kT : ∀ v : World, Calls Try.prog 7 #[.int .i64 k, .int .i64 W] v fun e w' => e = .returned (.agg #[.int .i64 a0, .int .i64 a1, .int .u64 a2, .int .u64 a3, .int .i64 a4, .bool a5, .bool a6]) ∧ Below v.heap.size v w')
    (hne : ¬ (a0 = k ∧ a1 = W ∧ a2 = (M.hiN T : Int) ∧ a3 = (M.loN T : Int) ∧ a4 = E ∧ a5 = x ∧ a6 = true)) :
    Calls Try.prog 15 #[.int .u64 (d : Int), .agg #[.int .i64 k, .int .i64 W, .int .u64 (M.hiN T : Int), .int .u64 (M.loN T : Int), .int .i64 E, .bool x, .bool true]] w fun e w' => e = .returned (.agg #[.slice none 0 0, .slice none 0 0, .int .i64 0, .bool false]) ∧ Below w.heap.size w w' := by
  have HN := hid hne; clear hne
  have b0 : Below w.heap.size w ((w.alloc (.cells #[.int .i64 k, .int .i64 W, .int .u64 (M.hiN T : Int), .int .u64 (M.loN T : Int), .int .i64 E, .bool x, .bool true] 29)).alloc (.cells #[.slice none 0 0, .slice none 0 0, .int .i64 0, .bool false] 41)) := ((Below.refl _ _).alloc (Nat.le_refl _) _).alloc (by simp) _
  have hP : Cls ((w.alloc (.cells #[.int .i64 k, .int .i64 W, .int .u64 (M.hiN T : Int), .int .u64 (M.loN T : Int), .int .i64 E, .bool x, .bool true] 29)).alloc (.cells #[.slice none 0 0, .slice none 0 0, .int .i64 0, .bool false] 41)) w.heap.size #[.int .i64 k, .int .i64 W, .int .u64 (M.hiN T : Int), .int .u64 (M.loN T : Int), .int .i64 E, .bool x, .bool true] 29 := (Cls.new w _ _).below ((Below.refl _ _).alloc (Nat.le_refl _) _)
  have hR : Cls ((w.alloc (.cells #[.int .i64 k, .int .i64 W, .int .u64 (M.hiN T : Int), .int .u64 (M.loN T : Int), .int .i64 E, .bool x, .bool true] 29)).alloc (.cells #[.slice none 0 0, .slice none 0 0, .int .i64 0, .bool false] 41)) (w.heap.size + 1) #[.slice none 0 0, .slice none 0 0, .int .i64 0, .bool false] 41 := by
    have := Cls.new (w.alloc (.cells #[.int .i64 k, .int .i64 W, .int .u64 (M.hiN T : Int), .int .u64 (M.loN T : Int), .int .i64 E, .bool x, .bool true] 29)) #[.slice none 0 0, .slice none 0 0, .int .i64 0, .bool false] 41
    rwa [World.size_alloc] at this
  generalize hV : ((w.alloc (.cells #[.int .i64 k, .int .i64 W, .int .u64 (M.hiN T : Int), .int .u64 (M.loN T : Int), .int .i64 E, .bool x, .bool true] 29)).alloc (.cells #[.slice none 0 0, .slice none 0 0, .int .i64 0, .bool false] 41)) = v0 at *
  go_enter Try.func15, Try.ntmps15
  go_upto_region 1 with fail
  clear hV
  go_cut [18] (fun z wx => z = .bool (decide (¬ (a0 = k ∧ a1 = W ∧ a2 = (M.hiN T : Int) ∧ a3 = (M.loN T : Int) ∧ a4 = E ∧ a5 = x ∧ a6 = true))) ∧ Below v0.heap.size v0 wx)
  case first =>
    have A0 : Below v0.heap.size v0 v0.drew := (Below.refl _ _).drew
    have KB : ∀ v, Below v0.heap.size v0 v → (fun v => v.cell? ⟨w.heap.size, 0, none⟩ = some (.int .i64 k) ∧ v.cell? ⟨w.heap.size, 1, none⟩ = some (.int .i64 W) ∧ v.cell? ⟨w.heap.size, 2, none⟩ = some (.int .u64 (M.hiN T : Int)) ∧ v.cell? ⟨w.heap.size, 3, none⟩ = some (.int .u64 (M.loN T : Int)) ∧ v.cell? ⟨w.heap.size, 4, none⟩ = some (.int .i64 E) ∧ v.cell? ⟨w.heap.size, 5, none⟩ = some (.bool x) ∧ v.cell? ⟨w.heap.size, 6, none⟩ = some (.bool true)) v := fun v hv => ⟨(hP.below hv).cell 0 rfl, (hP.below hv).cell 1 rfl, (hP.below hv).cell 2 rfl, (hP.below hv).cell 3 rfl, (hP.below hv).cell 4 rfl, (hP.below hv).cell 5 rfl, (hP.below hv).cell 6 rfl⟩
    by_cases f0 : a0 = k
    rotate_left
    · have EN : Hid ((decide (¬ (a0 = k ∧ a1 = W ∧ a2 = (M.hiN T : Int) ∧ a3 = (M.loN T : Int) ∧ a4 = E ∧ a5 = x ∧ a6 = true))) = true) := decide_eq_true (by intro hh; exact f0 (by simp only [hh]))
      have e0 : (a0 == k) = false := by simp [f0]
      have F0 := hid f0; clear f0
      go_region_held3 (fun v => v.cell? ⟨w.heap.size, 0, none⟩ = some (.int .i64 k) ∧ v.cell? ⟨w.heap.size, 1, none⟩ = some (.int .i64 W) ∧ v.cell? ⟨w.heap.size, 2, none⟩ = some (.int .u64 (M.hiN T : Int)) ∧ v.cell? ⟨w.heap.size, 3, none⟩ = some (.int .u64 (M.loN T : Int)) ∧ v.cell? ⟨w.heap.size, 4, none⟩ = some (.int .i64 E) ∧ v.cell? ⟨w.heap.size, 5, none⟩ = some (.bool x) ∧ v.cell? ⟨w.heap.size, 6, none⟩ = some (.bool true)) (first | with_reducible exact KB _ hb1 | with_reducible exact KB _ A0) (first | (go_at_call 7; refine (kT _).mono ?_; rintro e u1 ⟨rfl, hb0⟩; have hb1 := keepC1 (w1 := v0) A0 hb0; clear hb0))
      all_goals go_wp2_with fail
      all_goals go_meet
      all_goals exact ⟨by rw [EN.out], hb1⟩
    have e0 : (a0 == k) = true := by simp [f0]
    have F0 := hid f0; clear f0
    by_cases f1 : a1 = W
    rotate_left
    · have EN : Hid ((decide (¬ (a0 = k ∧ a1 = W ∧ a2 = (M.hiN T : Int) ∧ a3 = (M.loN T : Int) ∧ a4 = E ∧ a5 = x ∧ a6 = true))) = true) := decide_eq_true (by intro hh; exact f1 (by simp only [hh]))
      have e1 : (a1 == W) = false := by simp [f1]
      have F1 := hid f1; clear f1
      go_region_held3 (fun v => v.cell? ⟨w.heap.size, 0, none⟩ = some (.int .i64 k) ∧ v.cell? ⟨w.heap.size, 1, none⟩ = some (.int .i64 W) ∧ v.cell? ⟨w.heap.size, 2, none⟩ = some (.int .u64 (M.hiN T : Int)) ∧ v.cell? ⟨w.heap.size, 3, none⟩ = some (.int .u64 (M.loN T : Int)) ∧ v.cell? ⟨w.heap.size, 4, none⟩ = some (.int .i64 E) ∧ v.cell? ⟨w.heap.size, 5, none⟩ = some (.bool x) ∧ v.cell? ⟨w.heap.size, 6, none⟩ = some (.bool true)) (first | with_reducible exact KB _ hb1 | with_reducible exact KB _ A0) (first | (go_at_call 7; refine (kT _).mono ?_; rintro e u1 ⟨rfl, hb0⟩; have hb1 := keepC1 (w1 := v0) A0 hb0; clear hb0))
      all_goals go_wp2_with fail
      all_goals go_meet
      all_goals exact ⟨by rw [EN.out], hb1⟩
    have e1 : (a1 == W) = true := by simp [f1]
    have F1 := hid f1; clear f1
    by_cases f2 : a2 = (M.hiN T : Int)
    rotate_left
    · have EN : Hid ((decide (¬ (a0 = k ∧ a1 = W ∧ a2 = (M.hiN T : Int) ∧ a3 = (M.loN T : Int) ∧ a4 = E ∧ a5 = x ∧ a6 = true))) = true) := decide_eq_true (by intro hh; exact f2 (by simp only [hh]))
      have e2 : (a2 == (M.hiN T : Int)) = false := by simp [f2]
      have F2 := hid f2; clear f2
      go_region_held3 (fun v => v.cell? ⟨w.heap.size, 0, none⟩ = some (.int .i64 k) ∧ v.cell? ⟨w.heap.size, 1, none⟩ = some (.int .i64 W) ∧ v.cell? ⟨w.heap.size, 2, none⟩ = some (.int .u64 (M.hiN T : Int)) ∧ v.cell? ⟨w.heap.size, 3, none⟩ = some (.int .u64 (M.loN T : Int)) ∧ v.cell? ⟨w.heap.size, 4, none⟩ = some (.int .i64 E) ∧ v.cell? ⟨w.heap.size, 5, none⟩ = some (.bool x) ∧ v.cell? ⟨w.heap.size, 6, none⟩ = some (.bool true)) (first | with_reducible exact KB _ hb1 | with_reducible exact KB _ A0) (first | (go_at_call 7; refine (kT _).mono ?_; rintro e u1 ⟨rfl, hb0⟩; have hb1 := keepC1 (w1 := v0) A0 hb0; clear hb0))
      all_goals go_wp2_with fail
      all_goals go_meet
      all_goals exact ⟨by rw [EN.out], hb1⟩
    have e2 : (a2 == (M.hiN T : Int)) = true := by simp [f2]
    have F2 := hid f2; clear f2
    by_cases f3 : a3 = (M.loN T : Int)
    rotate_left
    · have EN : Hid ((decide (¬ (a0 = k ∧ a1 = W ∧ a2 = (M.hiN T : Int) ∧ a3 = (M.loN T : Int) ∧ a4 = E ∧ a5 = x ∧ a6 = true))) = true) := decide_eq_true (by intro hh; exact f3 (by simp only [hh]))
      have e3 : (a3 == (M.loN T : Int)) = false := by simp [f3]
      have F3 := hid f3; clear f3
      go_region_held3 (fun v => v.cell? ⟨w.heap.size, 0, none⟩ = some (.int .i64 k) ∧ v.cell? ⟨w.heap.size, 1, none⟩ = some (.int .i64 W) ∧ v.cell? ⟨w.heap.size, 2, none⟩ = some (.int .u64 (M.hiN T : Int)) ∧ v.cell? ⟨w.heap.size, 3, none⟩ = some (.int .u64 (M.loN T : Int)) ∧ v.cell? ⟨w.heap.size, 4, none⟩ = some (.int .i64 E) ∧ v.cell? ⟨w.heap.size, 5, none⟩ = some (.bool x) ∧ v.cell? ⟨w.heap.size, 6, none⟩ = some (.bool true)) (first | with_reducible exact KB _ hb1 | with_reducible exact KB _ A0) (first | (go_at_call 7; refine (kT _).mono ?_; rintro e u1 ⟨rfl, hb0⟩; have hb1 := keepC1 (w1 := v0) A0 hb0; clear hb0))
      all_goals go_wp2_with fail
      all_goals go_meet
      all_goals exact ⟨by rw [EN.out], hb1⟩
    have e3 : (a3 == (M.loN T : Int)) = true := by simp [f3]
    have F3 := hid f3; clear f3
    by_cases f4 : a4 = E
    rotate_left
    · have EN : Hid ((decide (¬ (a0 = k ∧ a1 = W ∧ a2 = (M.hiN T : Int) ∧ a3 = (M.loN T : Int) ∧ a4 = E ∧ a5 = x ∧ a6 = true))) = true) := decide_eq_true (by intro hh; exact f4 (by simp only [hh]))
      have e4 : (a4 == E) = false := by simp [f4]
      have F4 := hid f4; clear f4
      go_region_held3 (fun v => v.cell? ⟨w.heap.size, 0, none⟩ = some (.int .i64 k) ∧ v.cell? ⟨w.heap.size, 1, none⟩ = some (.int .i64 W) ∧ v.cell? ⟨w.heap.size, 2, none⟩ = some (.int .u64 (M.hiN T : Int)) ∧ v.cell? ⟨w.heap.size, 3, none⟩ = some (.int .u64 (M.loN T : Int)) ∧ v.cell? ⟨w.heap.size, 4, none⟩ = some (.int .i64 E) ∧ v.cell? ⟨w.heap.size, 5, none⟩ = some (.bool x) ∧ v.cell? ⟨w.heap.size, 6, none⟩ = some (.bool true)) (first | with_reducible exact KB _ hb1 | with_reducible exact KB _ A0) (first | (go_at_call 7; refine (kT _).mono ?_; rintro e u1 ⟨rfl, hb0⟩; have hb1 := keepC1 (w1 := v0) A0 hb0; clear hb0))
      all_goals go_wp2_with fail
      all_goals go_meet
      all_goals exact ⟨by rw [EN.out], hb1⟩
    have e4 : (a4 == E) = true := by simp [f4]
    have F4 := hid f4; clear f4
    by_cases f5 : a5 = x
    rotate_left
    · have EN : Hid ((decide (¬ (a0 = k ∧ a1 = W ∧ a2 = (M.hiN T : Int) ∧ a3 = (M.loN T : Int) ∧ a4 = E ∧ a5 = x ∧ a6 = true))) = true) := decide_eq_true (by intro hh; exact f5 (by simp only [hh]))
      have e5 : (a5 == x) = false := by simp [f5]
      have F5 := hid f5; clear f5
      go_region_held3 (fun v => v.cell? ⟨w.heap.size, 0, none⟩ = some (.int .i64 k) ∧ v.cell? ⟨w.heap.size, 1, none⟩ = some (.int .i64 W) ∧ v.cell? ⟨w.heap.size, 2, none⟩ = some (.int .u64 (M.hiN T : Int)) ∧ v.cell? ⟨w.heap.size, 3, none⟩ = some (.int .u64 (M.loN T : Int)) ∧ v.cell? ⟨w.heap.size, 4, none⟩ = some (.int .i64 E) ∧ v.cell? ⟨w.heap.size, 5, none⟩ = some (.bool x) ∧ v.cell? ⟨w.heap.size, 6, none⟩ = some (.bool true)) (first | with_reducible exact KB _ hb1 | with_reducible exact KB _ A0) (first | (go_at_call 7; refine (kT _).mono ?_; rintro e u1 ⟨rfl, hb0⟩; have hb1 := keepC1 (w1 := v0) A0 hb0; clear hb0))
      all_goals go_wp2_with fail
      all_goals go_meet
      all_goals exact ⟨by rw [EN.out], hb1⟩
    have e5 : (a5 == x) = true := by simp [f5]
    have F5 := hid f5; clear f5
    by_cases f6 : a6 = true
    rotate_left
    · have EN : Hid ((decide (¬ (a0 = k ∧ a1 = W ∧ a2 = (M.hiN T : Int) ∧ a3 = (M.loN T : Int) ∧ a4 = E ∧ a5 = x ∧ a6 = true))) = true) := decide_eq_true (by intro hh; exact f6 (by simp only [hh]))
      have e6 : (a6 == true) = false := by simp [f6]
      have F6 := hid f6; clear f6
      go_region_held3 (fun v => v.cell? ⟨w.heap.size, 0, none⟩ = some (.int .i64 k) ∧ v.cell? ⟨w.heap.size, 1, none⟩ = some (.int .i64 W) ∧ v.cell? ⟨w.heap.size, 2, none⟩ = some (.int .u64 (M.hiN T : Int)) ∧ v.cell? ⟨w.heap.size, 3, none⟩ = some (.int .u64 (M.loN T : Int)) ∧ v.cell? ⟨w.heap.size, 4, none⟩ = some (.int .i64 E) ∧ v.cell? ⟨w.heap.size, 5, none⟩ = some (.bool x) ∧ v.cell? ⟨w.heap.size, 6, none⟩ = some (.bool true)) (first | with_reducible exact KB _ hb1 | with_reducible exact KB _ A0) (first | (go_at_call 7; refine (kT _).mono ?_; rintro e u1 ⟨rfl, hb0⟩; have hb1 := keepC1 (w1 := v0) A0 hb0; clear hb0))
      all_goals go_wp2_with fail
      all_goals go_meet
      all_goals exact ⟨by rw [EN.out], hb1⟩
    have e6 : (a6 == true) = true := by simp [f6]
    have F6 := hid f6; clear f6
    have EN : Hid ((decide (¬ (a0 = k ∧ a1 = W ∧ a2 = (M.hiN T : Int) ∧ a3 = (M.loN T : Int) ∧ a4 = E ∧ a5 = x ∧ a6 = true))) = false) := decide_eq_false (by intro hh; exact hh ⟨F0.out, F1.out, F2.out, F3.out, F4.out, F5.out, F6.out⟩)
    go_region_held3 (fun v => v.cell? ⟨w.heap.size, 0, none⟩ = some (.int .i64 k) ∧ v.cell? ⟨w.heap.size, 1, none⟩ = some (.int .i64 W) ∧ v.cell? ⟨w.heap.size, 2, none⟩ = some (.int .u64 (M.hiN T : Int)) ∧ v.cell? ⟨w.heap.size, 3, none⟩ = some (.int .u64 (M.loN T : Int)) ∧ v.cell? ⟨w.heap.size, 4, none⟩ = some (.int .i64 E) ∧ v.cell? ⟨w.heap.size, 5, none⟩ = some (.bool x) ∧ v.cell? ⟨w.heap.size, 6, none⟩ = some (.bool true)) (first | with_reducible exact KB _ hb1 | with_reducible exact KB _ A0) (first | (go_at_call 7; refine (kT _).mono ?_; rintro e u1 ⟨rfl, hb0⟩; have hb1 := keepC1 (w1 := v0) A0 hb0; clear hb0))
    all_goals go_wp2_with fail
    all_goals go_meet
    all_goals exact ⟨by rw [EN.out], hb1⟩
  case rest =>
  obtain ⟨rfl, hbx⟩ := hcut
  replace hR := hR.below hbx
  replace b0 := b0.trans (hbx.mono b0.size)
  clear hbx kT hP
  rw [decide_eq_true HN.out]
  have r0 := hR.cell 0 rfl
  have s0 := hR.frozen 0
  have r1 := hR.cell 1 rfl
  have s1 := hR.frozen 1
  have r2 := hR.cell 2 rfl
  have s2 := hR.frozen 2
  have r3 := hR.cell 3 rfl
  have s3 := hR.frozen 3
  go_wp2_with fail
  have R5 := Cls.set (Cls.set (Cls.set (Cls.set (hR) 0 (.slice none 0 0) _ rfl) 1 (.slice none 0 0) _ rfl) 2 (.int .i64 0) _ rfl) 3 (.bool false) #[.slice none 0 0, .slice none 0 0, .int .i64 0, .bool false] rfl
  have B5 := ((((b0).setCell (p := ⟨w.heap.size + 1, 0, none⟩) (by simp only; omega) (.slice none 0 0)).setCell (p := ⟨w.heap.size + 1, 1, none⟩) (by simp only; omega) (.slice none 0 0)).setCell (p := ⟨w.heap.size + 1, 2, none⟩) (by simp only; omega) (.int .i64 0)).setCell (p := ⟨w.heap.size + 1, 3, none⟩) (by simp only; omega) (.bool false)
  generalize ((((wc.setCell ⟨w.heap.size + 1, 0, none⟩ (.slice none 0 0)).setCell ⟨w.heap.size + 1, 1, none⟩ (.slice none 0 0)).setCell ⟨w.heap.size + 1, 2, none⟩ (.int .i64 0)).setCell ⟨w.heap.size + 1, 3, none⟩ (.bool false)) = Yw at R5 B5 ⊢
  have q0 := R5.cell 0 rfl
  have q1 := R5.cell 1 rfl
  have q2 := R5.cell 2 rfl
  have q3 := R5.cell 3 rfl
  exact bodyPost_ret (v := .agg #[.slice none 0 0, .slice none 0 0, .int .i64 0, .bool false]) (by simp [results, Try.results15, go_sem, q0, q1, q2, q3]) rfl ⟨rfl, B5⟩

theorem Own.widen4 {v : World} {lo hi lo' hi' : Nat} {ao : Option Addr} {cap : Nat} {r : List Nat} (h : Own v lo hi ao cap r) (h1 : lo' ≤ lo) (h2 : hi ≤ hi') : Own v lo' hi' ao cap r :=
  ⟨h.row, fun k hk => by have := h.place k hk; omega⟩

theorem grown4 (v : World) (g : Nat) (a b c d : Value) : v.grownBy ((((v.setCell ⟨g, 0, none⟩ a).setCell ⟨g, 1, none⟩ b).setCell ⟨g, 2, none⟩ c).setCell ⟨g, 3, none⟩ d) (some g) :=
  grown_trans (grown_trans (grown_trans (grown_setCell _ _ _ _) (grown_setCell _ _ _ _)) (grown_setCell _ _ _ _)) (grown_setCell _ _ _ _)

set_option maxRecDepth 100000 in
set_option maxHeartbeats 4000000 in
theorem sscale_eq (d : Nat) (k W : Int) (T : Nat) (E : Int) (x : Bool) (w : World) (A Bv : Nat)
    (kT : ∀ v : World, Calls Try.prog 7 #[.int .i64 k, .int .i64 W] v fun e w' => e = .returned (.agg #[.int .i64 k, .int .i64 W, .int .u64 (M.hiN T : Int), .int .u64 (M.loN T : Int), .int .i64 E, .bool x, .bool true]) ∧ Below v.heap.size v w')
    (kO : ∀ v : World, Calls Try.prog 26 #[.int .u64 (d : Int)] v fun e w' => Ret v w' e (D d))
    (k1 : ∀ v : World, Calls Try.prog 26 #[.int .u64 1] v fun e w' => Ret v w' e (D 1))
    (k2 : ∀ v : World, Calls Try.prog 46 #[.agg #[.int .u64 (M.hiN T : Int), .int .u64 (M.loN T : Int)]] v fun e w' => Ret v w' e (D T))
    (kM : ∀ (v : World) (ao bo : Option Addr) (c e : Nat), Rd v ao (D d) → Rd v bo (D T) → Calls Try.prog 45 #[.slice ao (D d).length c, .slice bo (D T).length e] v fun e w' => Ret v w' e (D A))
    (kA : ∀ (v : World) (ao bo : Option Addr) (c e : Nat), Rd v ao (D T) → Rd v bo (D 1) → Calls Try.prog 47 #[.slice ao (D T).length c, .slice bo (D 1).length e] v fun e w' => Ret v w' e (D (T + 1)))
    (kN : x = false → ∀ (v : World) (ao bo : Option Addr) (c e : Nat), Rd v ao (D d) → Rd v bo (D (T + 1)) → Calls Try.prog 45 #[.slice ao (D d).length c, .slice bo (D (T + 1)).length e] v fun e w' => Ret v w' e (D Bv))
    (hB : x = true → Bv = A)
    (kU : ∀ (v : World) (ao : Option Addr) (c : Nat), Rd v ao (D A) → Calls Try.prog 34 #[.slice ao (D A).length c] v fun e w' => Ret v w' e (L A))
    (kV : ∀ (v : World) (ao : Option Addr) (c : Nat), Rd v ao (D Bv) → Calls Try.prog 34 #[.slice ao (D Bv).length c] v fun e w' => Ret v w' e (L Bv)) :
    Calls Try.prog 15 #[.int .u64 (d : Int), .agg #[.int .i64 k, .int .i64 W, .int .u64 (M.hiN T : Int), .int .u64 (M.loN T : Int), .int .i64 E, .bool x, .bool true]] w fun e w' => Sw w w' e (L A) (L Bv) E true := by
  have b0 : Below w.heap.size w ((w.alloc (.cells #[.int .i64 k, .int .i64 W, .int .u64 (M.hiN T : Int), .int .u64 (M.loN T : Int), .int .i64 E, .bool x, .bool true] 29)).alloc (.cells #[.slice none 0 0, .slice none 0 0, .int .i64 0, .bool false] 41)) := ((Below.refl _ _).alloc (Nat.le_refl _) _).alloc (by simp) _
  have hP : Cls ((w.alloc (.cells #[.int .i64 k, .int .i64 W, .int .u64 (M.hiN T : Int), .int .u64 (M.loN T : Int), .int .i64 E, .bool x, .bool true] 29)).alloc (.cells #[.slice none 0 0, .slice none 0 0, .int .i64 0, .bool false] 41)) w.heap.size #[.int .i64 k, .int .i64 W, .int .u64 (M.hiN T : Int), .int .u64 (M.loN T : Int), .int .i64 E, .bool x, .bool true] 29 := (Cls.new w _ _).below ((Below.refl _ _).alloc (Nat.le_refl _) _)
  have hR : Cls ((w.alloc (.cells #[.int .i64 k, .int .i64 W, .int .u64 (M.hiN T : Int), .int .u64 (M.loN T : Int), .int .i64 E, .bool x, .bool true] 29)).alloc (.cells #[.slice none 0 0, .slice none 0 0, .int .i64 0, .bool false] 41)) (w.heap.size + 1) #[.slice none 0 0, .slice none 0 0, .int .i64 0, .bool false] 41 := by
    have := Cls.new (w.alloc (.cells #[.int .i64 k, .int .i64 W, .int .u64 (M.hiN T : Int), .int .u64 (M.loN T : Int), .int .i64 E, .bool x, .bool true] 29)) #[.slice none 0 0, .slice none 0 0, .int .i64 0, .bool false] 41
    rwa [World.size_alloc] at this
  generalize hV : ((w.alloc (.cells #[.int .i64 k, .int .i64 W, .int .u64 (M.hiN T : Int), .int .u64 (M.loN T : Int), .int .i64 E, .bool x, .bool true] 29)).alloc (.cells #[.slice none 0 0, .slice none 0 0, .int .i64 0, .bool false] 41)) = v0 at *
  go_enter Try.func15, Try.ntmps15
  go_upto_region 1 with fail
  clear hV
  go_cut [18] (fun z wx => z = .bool false ∧ Below v0.heap.size v0 wx)
  case first =>
    have A0 : Below v0.heap.size v0 v0.drew := (Below.refl _ _).drew
    have KB : ∀ v, Below v0.heap.size v0 v → (fun v => v.cell? ⟨w.heap.size, 0, none⟩ = some (.int .i64 k) ∧ v.cell? ⟨w.heap.size, 1, none⟩ = some (.int .i64 W) ∧ v.cell? ⟨w.heap.size, 2, none⟩ = some (.int .u64 (M.hiN T : Int)) ∧ v.cell? ⟨w.heap.size, 3, none⟩ = some (.int .u64 (M.loN T : Int)) ∧ v.cell? ⟨w.heap.size, 4, none⟩ = some (.int .i64 E) ∧ v.cell? ⟨w.heap.size, 5, none⟩ = some (.bool x) ∧ v.cell? ⟨w.heap.size, 6, none⟩ = some (.bool true)) v := fun v hv => ⟨(hP.below hv).cell 0 rfl, (hP.below hv).cell 1 rfl, (hP.below hv).cell 2 rfl, (hP.below hv).cell 3 rfl, (hP.below hv).cell 4 rfl, (hP.below hv).cell 5 rfl, (hP.below hv).cell 6 rfl⟩
    go_region_held3 (fun v => v.cell? ⟨w.heap.size, 0, none⟩ = some (.int .i64 k) ∧ v.cell? ⟨w.heap.size, 1, none⟩ = some (.int .i64 W) ∧ v.cell? ⟨w.heap.size, 2, none⟩ = some (.int .u64 (M.hiN T : Int)) ∧ v.cell? ⟨w.heap.size, 3, none⟩ = some (.int .u64 (M.loN T : Int)) ∧ v.cell? ⟨w.heap.size, 4, none⟩ = some (.int .i64 E) ∧ v.cell? ⟨w.heap.size, 5, none⟩ = some (.bool x) ∧ v.cell? ⟨w.heap.size, 6, none⟩ = some (.bool true)) (first | with_reducible exact KB _ hb1 | with_reducible exact KB _ A0) (first | (go_at_call 7; refine (kT _).mono ?_; rintro e u1 ⟨rfl, hb0⟩; have hb1 := keepC1 (w1 := v0) A0 hb0; clear hb0))
    all_goals go_wp2_with fail
    all_goals go_meet
    all_goals exact ⟨rfl, hb1⟩
  case rest =>
  obtain ⟨rfl, hbx⟩ := hcut
  replace hR := hR.below hbx
  replace hP := hP.below hbx
  replace b0 := b0.trans (hbx.mono b0.size)
  clear hbx kT
  go_upto_region 3 with fail
  go_cut [5] (fun z wx => ∃ (a1 : Option Addr) (c1 : Nat), z = .slice a1 (D A).length c1 ∧ Rd wx a1 (D A) ∧ Below wc.heap.size wc wx)
  case first =>
    have A0 : Below wc.heap.size wc wc.drew := (Below.refl _ _).drew
    have KB : ∀ v, Below wc.heap.size wc v → (fun v => v.cell? ⟨w.heap.size, 2, none⟩ = some (.int .u64 (M.hiN T : Int)) ∧ v.cell? ⟨w.heap.size, 3, none⟩ = some (.int .u64 (M.loN T : Int))) v := fun v hv => ⟨(hP.below hv).cell 2 rfl, (hP.below hv).cell 3 rfl⟩
    go_region_held3 (fun v => v.cell? ⟨w.heap.size, 2, none⟩ = some (.int .u64 (M.hiN T : Int)) ∧ v.cell? ⟨w.heap.size, 3, none⟩ = some (.int .u64 (M.loN T : Int))) (first | with_reducible exact KB _ hb5 | with_reducible exact KB _ hb4 | with_reducible exact KB _ hb3 | with_reducible exact KB _ hb2 | with_reducible exact KB _ hb1 | with_reducible exact KB _ A0) (first | (have hq := hb2; clear hq; go_at_call 45; refine (kM _ _ _ _ _ r1 r2).mono ?_; rintro e u3 ⟨a3, c3, rfl, o3, hb0⟩; have hb3 := keepC1 (w1 := wc) hb2 hb0; have r3 := Rd.own o3; clear hb0) | (have hq := hb1; clear hq; go_at_call 46; refine (k2 _).mono ?_; rintro e u2 ⟨a2, c2, rfl, o2, hb0⟩; have hb2 := keepC1 (w1 := wc) hb1 hb0; have r2 := Rd.own o2; replace r1 := r1.below hb0; clear hb0) | (go_at_call 26; refine (kO _).mono ?_; rintro e u1 ⟨a1, c1, rfl, o1, hb0⟩; have hb1 := keepC1 (w1 := wc) A0 hb0; have r1 := Rd.own o1; clear hb0))
    all_goals go_wp2_with fail
    all_goals go_meet
    all_goals exact ⟨a3, c3, rfl, r3, hb3⟩
  case rest =>
  obtain ⟨la, lc, rfl, rl, hbx⟩ := hcut
  replace hR := hR.below hbx
  replace hP := hP.below hbx
  replace b0 := b0.trans (hbx.mono b0.size)
  clear hbx kM
  have p5 := hP.cell 5 rfl
  go_upto_if 29 with fail
  clear p5
  go_cut [6] (fun z wx => ∃ (a1 : Option Addr) (c1 : Nat), z = .slice a1 (D Bv).length c1 ∧ Rd wx a1 (D Bv) ∧ Below wc.heap.size wc wx)
  case first =>
    cases x
    · have kN' := kN rfl
      go_upto_region 6 with fail
      have A0 : Below wc.heap.size wc wc.drew := (Below.refl _ _).drew
      have KB : ∀ v, Below wc.heap.size wc v → (fun v => v.cell? ⟨w.heap.size, 2, none⟩ = some (.int .u64 (M.hiN T : Int)) ∧ v.cell? ⟨w.heap.size, 3, none⟩ = some (.int .u64 (M.loN T : Int))) v := fun v hv => ⟨(hP.below hv).cell 2 rfl, (hP.below hv).cell 3 rfl⟩
      go_region_held3 (fun v => v.cell? ⟨w.heap.size, 2, none⟩ = some (.int .u64 (M.hiN T : Int)) ∧ v.cell? ⟨w.heap.size, 3, none⟩ = some (.int .u64 (M.loN T : Int))) (first | with_reducible exact KB _ hb5 | with_reducible exact KB _ hb4 | with_reducible exact KB _ hb3 | with_reducible exact KB _ hb2 | with_reducible exact KB _ hb1 | with_reducible exact KB _ A0) (first | (have hq := hb4; clear hq; go_at_call 45; refine (kN' _ _ _ _ _ r1 r4).mono ?_; rintro e u5 ⟨a5, c5, rfl, o5, hb0⟩; have hb5 := keepC1 (w1 := wc) hb4 hb0; have r5 := Rd.own o5; clear hb0) | (have hq := hb3; clear hq; go_at_call 47; refine (kA _ _ _ _ _ r2 r3).mono ?_; rintro e u4 ⟨a4, c4, rfl, o4, hb0⟩; have hb4 := keepC1 (w1 := wc) hb3 hb0; have r4 := Rd.own o4; replace r1 := r1.below hb0; clear hb0) | (have hq := hb2; clear hq; go_at_call 26; refine (k1 _).mono ?_; rintro e u3 ⟨a3, c3, rfl, o3, hb0⟩; have hb3 := keepC1 (w1 := wc) hb2 hb0; have r3 := Rd.own o3; replace r1 := r1.below hb0; replace r2 := r2.below hb0; clear hb0) | (have hq := hb1; clear hq; go_at_call 46; refine (k2 _).mono ?_; rintro e u2 ⟨a2, c2, rfl, o2, hb0⟩; have hb2 := keepC1 (w1 := wc) hb1 hb0; have r2 := Rd.own o2; replace r1 := r1.below hb0; clear hb0) | (go_at_call 26; refine (kO _).mono ?_; rintro e u1 ⟨a1, c1, rfl, o1, hb0⟩; have hb1 := keepC1 (w1 := wc) A0 hb0; have r1 := Rd.own o1; clear hb0))
      all_goals go_wp2_with fail
      all_goals go_meet
      all_goals exact ⟨a5, c5, rfl, r5, hb5⟩
    · have e := hB rfl
      go_wp2_with fail
      go_meet
      case rel =>
        subst e
        exact ⟨la, lc, rfl, rl, Below.refl _ _⟩
  case rest =>
  obtain ⟨ha, hc, rfl, rh, hbx⟩ := hcut
  replace hR := hR.below hbx
  replace hP := hP.below hbx
  replace rl := rl.below hbx
  replace b0 := b0.trans (hbx.mono b0.size)
  have lR := hR.lt
  clear hbx kN kO k1 k2 kA hB
  go_upto_region 7 with fail
  have A0 : Below wc.heap.size wc wc.drew := (Below.refl _ _).drew
  have KB : ∀ v, Below wc.heap.size wc v → (fun v => v.cell? ⟨w.heap.size, 4, none⟩ = some (.int .i64 E)) v := fun v hv => (hP.below hv).cell 4 rfl
  have KS : ∀ v a b c e, Below wc.heap.size wc v → (fun v => v.cell? ⟨w.heap.size, 4, none⟩ = some (.int .i64 E)) ((((v.setCell ⟨w.heap.size + 1, 0, none⟩ a).setCell ⟨w.heap.size + 1, 1, none⟩ b).setCell ⟨w.heap.size + 1, 2, none⟩ c).setCell ⟨w.heap.size + 1, 3, none⟩ e) := fun v a b c e hv =>
    (((((hP.below hv).far ⟨w.heap.size + 1, 0, none⟩ (by simp) a).far ⟨w.heap.size + 1, 1, none⟩ (by simp) b).far ⟨w.heap.size + 1, 2, none⟩ (by simp) c).far ⟨w.heap.size + 1, 3, none⟩ (by simp) e).cell 4 rfl
  go_region_held3 (fun v => v.cell? ⟨w.heap.size, 4, none⟩ = some (.int .i64 E)) (first | with_reducible exact KB _ hb2 | with_reducible exact KB _ hb1 | with_reducible exact KB _ A0 | with_reducible exact KS _ _ _ _ _ hb2)
    (first | (have hq := hb1; clear hq; go_at_call 34; refine (kV _ _ _ (rh.below hb1)).mono ?_; rintro e u2 ⟨ob, od, rfl, o2, hb0⟩; have hb2 := keepC1 (w1 := wc) hb1 hb0; have oB := Own.of o2; replace oA := oA.keep hb0; have s12 := hb0.size; have r0 := (hR.below hb2).cell 0 rfl; have s0 := (hR.below hb2).frozen 0; have r1 := (hR.below hb2).cell 1 rfl; have s1 := (hR.below hb2).frozen 1; have r2 := (hR.below hb2).cell 2 rfl; have s2 := (hR.below hb2).frozen 2; have r3 := (hR.below hb2).cell 3 rfl; have s3 := (hR.below hb2).frozen 3; clear hb0) | (go_at_call 34; refine (kU _ _ _ (rl.below A0)).mono ?_; rintro e u1 ⟨oa, oc, rfl, o1, hb0⟩; have hb1 := keepC1 (w1 := wc) A0 hb0; have oA := Own.of o1; clear hb0))
  all_goals replace hR := hR.below hb2
  all_goals replace b0 := b0.trans (hb2.mono b0.size)
  all_goals go_wp2_with fail
  all_goals (
    have z1 := hb1.size
    have gg := grown4 u2 (w.heap.size + 1) (.slice oa (L A).length oc) (.slice ob (L Bv).length od) (.int .i64 E) (.bool true)
    have oA' := oA.grown gg (fun k h1 h2 e => by injection e with e; have : wc.drew.heap.size = wc.heap.size := rfl; omega)
    have oB' := oB.grown gg (fun k h1 h2 e => by injection e with e; omega)
    have sz : ((((u2.setCell ⟨w.heap.size + 1, 0, none⟩ (.slice oa (L A).length oc)).setCell ⟨w.heap.size + 1, 1, none⟩ (.slice ob (L Bv).length od)).setCell ⟨w.heap.size + 1, 2, none⟩ (.int .i64 E)).setCell ⟨w.heap.size + 1, 3, none⟩ (.bool true)).heap.size = u2.heap.size := by simp
    have R5 := Cls.set (Cls.set (Cls.set (Cls.set hR 0 (.slice oa (L A).length oc) _ rfl) 1 (.slice ob (L Bv).length od) _ rfl) 2 (.int .i64 E) _ rfl) 3 (.bool true) #[.slice oa (L A).length oc, .slice ob (L Bv).length od, .int .i64 E, .bool true] rfl
    have B5 := ((((b0).setCell (p := ⟨w.heap.size + 1, 0, none⟩) (by simp only; omega) (.slice oa (L A).length oc)).setCell (p := ⟨w.heap.size + 1, 1, none⟩) (by simp only; omega) (.slice ob (L Bv).length od)).setCell (p := ⟨w.heap.size + 1, 2, none⟩) (by simp only; omega) (.int .i64 E)).setCell (p := ⟨w.heap.size + 1, 3, none⟩) (by simp only; omega) (.bool true)
    clear gg
    generalize ((((u2.setCell ⟨w.heap.size + 1, 0, none⟩ (.slice oa (L A).length oc)).setCell ⟨w.heap.size + 1, 1, none⟩ (.slice ob (L Bv).length od)).setCell ⟨w.heap.size + 1, 2, none⟩ (.int .i64 E)).setCell ⟨w.heap.size + 1, 3, none⟩ (.bool true)) = Yw at R5 B5 oA' oB' sz ⊢
    have q0 := R5.cell 0 rfl
    have q1 := R5.cell 1 rfl
    have q2 := R5.cell 2 rfl
    have q3 := R5.cell 3 rfl
    refine bodyPost_ret (v := .agg #[.slice oa (L A).length oc, .slice ob (L Bv).length od, .int .i64 E, .bool true]) (by simp [results, Try.results15, go_sem, q0, q1, q2, q3]) rfl ⟨oa, oc, ob, od, u1.heap.size, rfl, ?_, ?_, oA'.widen4 ?_ (Nat.le_refl _), oB'.widen4 (Nat.le_refl _) (by omega), B5⟩
    · omega
    · omega
    · have : wc.drew.heap.size = wc.heap.size := rfl
      omega)

end Go.Proofs.Ytehplfmnipadmae

namespace Go.Proofs.Ytehplfmnipadmae
open Go.RowKit
set_option linter.unusedVariables false
set_option maxRecDepth 100000

theorem V_snoc0 (xs : List Nat) : V (xs ++ List.replicate 1 0) = V xs := by
  unfold V; rw [M.val_append]; simp [M.val]

set_option maxHeartbeats 1000000 in
theorem add_ge (ao bo : Option Addr) (n m c d : Nat) (a b : Nat) (w : World) (sw : Bool) (hl : (L a).length = n) (hm : (L b).length = m) (hnm : m ≤ n) (hn : n ≤ 1048576) (hr : Rd w ao (L a)) (hr2 : Rd w bo (L b)) (hsw : sw = true → m < n) :
    Calls Try.prog 38 (if sw then #[.slice bo m d, .slice ao n c] else #[.slice ao n c, .slice bo m d]) w fun e w' => Ret w w' e (L (a + b)) := by
  have fin : ∀ (w1 w2 : World), Blk w1 w.heap.size (L a ++ List.replicate 1 0) → Below w.heap.size w w1 → AddInPost w1 w2 w.heap.size (L a ++ List.replicate 1 0) 0 (n + 1) (V (L b)) →
      ∃ cur, Blk w2 w.heap.size cur ∧ cur.length = n + 1 ∧ F64 cur ∧ V cur = a + b ∧ Below w.heap.size w w2 := by
    intro w1 w2 hB hb hp
    obtain ⟨hg, cur, cc, hBc, hW, hc1, hv⟩ := hp
    have hlen : cur.length = n + 1 := by rw [hW.len]; simp [hl]
    refine ⟨cur, hBc, hlen, hW.lt, ?_, hb.trans ((Below.refl _ _).grown hg hb.size (fun _ h => by cases h; exact Nat.le_refl _))⟩
    rw [M.seg_all cur _ hlen, M.seg_all _ _ (by simp [hl]), V_snoc0, V_L, V_L] at hv
    have h1 := L_lt a n (by omega)
    have h2 := L_lt b n (by omega)
    exact (M.no_carry hv (by rw [Nat.pow_succ]; omega)).2
  have hsep : ∀ b2 o2, 0 < (L b).length → bo = some ⟨b2, o2, none⟩ → b2 ≠ w.heap.size := by
    intro b2 o2 hp e
    obtain ⟨b3, o3, e3, hc⟩ := hr2 hp
    rw [e] at e3
    simp only [Option.some.injEq, Addr.mk.injEq] at e3
    have := World.block_lt_of_cell? w _ (hc 0 hp)
    simp at this
    omega
  cases sw
  · have hlt : ¬ (n : Int) < (m : Int) := by omega
    simp only [Bool.false_eq_true, if_false]
    go_enter Try.func38, Try.ntmps38
    go_wp2_with fail
    refine (clone_any ao n c 1 (L a) _ hl (by omega) (by omega) hr).mono ?_
    rintro e w1 ⟨rfl, hB1, hb1⟩
    go_wp2_with fail
    refine (addIn_any w.heap.size 0 (n + 1) (n + 1) bo m d _ (L b) _ hB1 (fun x hx => ?_) (by simp [hl]) (by omega) hm (by omega) (F64_L b) (hr2.below hb1) (fun hp b2 o2 => hsep b2 o2 hp)).mono ?_
    · rcases List.mem_append.1 hx with hx | hx
      · exact F64_L a x hx
      · simp at hx; omega
    rintro e w2 ⟨rfl, hp⟩
    obtain ⟨cur, hB2, hlen, hf, hv, hb2⟩ := fin w1 w2 hB1 hb1 hp
    clear hp fin hB1
    go_wp2_with fail
    refine (trim_any _ (n + 1) (n + 1) cur _ hlen (Nat.le_refl _) (by omega) hf hB2.rd0).mono ?_
    rw [hv]
    rintro e w3 ⟨rfl, rfl⟩
    go_wp2_with fail
    go_ret
    have h1 := L_len cur hf
    have h2 := L_take cur hf
    rw [hv] at h1 h2
    have h3 := hB2.ownPre (base := w.heap.size) (Nat.le_refl _) h1 hlen (by unfold maxLen; omega)
    rw [h2] at h3
    exact ⟨_, _, rfl, h3, hb2⟩
  · have hlt : (m : Int) < (n : Int) := by have := hsw rfl; omega
    simp only [if_true]
    go_enter Try.func38, Try.ntmps38
    go_wp2_with fail
    refine (clone_any ao n c 1 (L a) _ hl (by omega) (by omega) hr).mono ?_
    rintro e w1 ⟨rfl, hB1, hb1⟩
    go_wp2_with fail
    refine (addIn_any w.heap.size 0 (n + 1) (n + 1) bo m d _ (L b) _ hB1 (fun x hx => ?_) (by simp [hl]) (by omega) hm (by omega) (F64_L b) (hr2.below hb1) (fun hp b2 o2 => hsep b2 o2 hp)).mono ?_
    · rcases List.mem_append.1 hx with hx | hx
      · exact F64_L a x hx
      · simp at hx; omega
    rintro e w2 ⟨rfl, hp⟩
    obtain ⟨cur, hB2, hlen, hf, hv, hb2⟩ := fin w1 w2 hB1 hb1 hp
    clear hp fin hB1
    go_wp2_with fail
    refine (trim_any _ (n + 1) (n + 1) cur _ hlen (Nat.le_refl _) (by omega) hf hB2.rd0).mono ?_
    rw [hv]
    rintro e w3 ⟨rfl, rfl⟩
    go_wp2_with fail
    go_ret
    have h1 := L_len cur hf
    have h2 := L_take cur hf
    rw [hv] at h1 h2
    have h3 := hB2.ownPre (base := w.heap.size) (Nat.le_refl _) h1 hlen (by unfold maxLen; omega)
    rw [h2] at h3
    exact ⟨_, _, rfl, h3, hb2⟩

theorem add_any (ao bo : Option Addr) (n m c d : Nat) (a b : Nat) (w : World) (hl : (L a).length = n) (hm : (L b).length = m) (hn : n ≤ 1048576) (hm2 : m ≤ 1048576) (hr : Rd w ao (L a)) (hr2 : Rd w bo (L b)) :
    Calls Try.prog 38 #[.slice ao n c, .slice bo m d] w fun e w' => Ret w w' e (L (a + b)) := by
  by_cases h : m ≤ n
  · exact add_ge ao bo n m c d a b w false hl hm h hn hr hr2 (fun h => by cases h)
  · have := add_ge bo ao m n d c b a w true hm hl (by omega) (by omega) hr2 hr (fun _ => by omega)
    rw [Nat.add_comm b a] at this
    exact this

/-- What NatAdd is to answer. -/
def addDoc (xs ys : List Nat) : List Nat := if xs.length ≤ 1200 ∧ ys.length ≤ 1200 then L (V xs + V ys) else []

theorem addDoc_len (xs ys : List Nat) (hx : F64 xs) (hy : F64 ys) : (addDoc xs ys).length ≤ 2400 := by
  unfold addDoc
  split
  · next h =>
    have h1 := L_len xs hx
    have h2 := L_len ys hy
    have := M.len_add (B := 18446744073709551616) (by omega) (V xs) (V ys) 1200 (show (L (V xs)).length ≤ 1200 by omega) (show (L (V ys)).length ≤ 1200 by omega)
    exact Nat.le_trans this (by omega)
  · simp

set_option maxHeartbeats 1000000 in
theorem implNatAdd_any (ao bo : Option Addr) (n m c d : Nat) (xs ys : List Nat) (w : World) (hl : xs.length = n) (hm : ys.length = m) (hc : n ≤ c) (hd : m ≤ d) (hn : n ≤ 1048576) (hn2 : m ≤ 1048576) (hx : F64 xs) (hy : F64 ys) (hr : Rd w ao xs) (hr2 : Rd w bo ys) :
    Calls Try.prog 10 #[.slice ao n c, .slice bo m d] w fun e w' => Ret w w' e (addDoc xs ys) := by
  by_cases h1 : n ≤ 1200 ∧ m ≤ 1200
  · have hdoc : addDoc xs ys = L (V xs + V ys) := by unfold addDoc; rw [if_pos (by omega)]
    rw [hdoc]
    have hall : true = [n, m].all (fun x => decide (x ≤ 1200)) := by simp [h1]
    have hall' := hid hall; clear hall
    go_enter Try.func10, Try.ntmps10
    go_wp2_with fail
    refine (short_any _ 2 [n, m] true _ rfl (by omega) (by simp; omega) hall'.out (two_cells _ _ _ _ _ _ _ _)).mono ?_
    rintro e w1 ⟨rfl, hw1⟩
    have hb1 : Below w.heap.size w w1 := by rw [hw1]; exact (Below.refl _ _).alloc (Nat.le_refl _) _
    clear hw1
    go_wp2_with fail
    refine (trim_any ao n c xs _ hl hc (by omega) hx (hr.below hb1)).mono ?_
    rintro e w2 ⟨rfl, rfl⟩
    go_wp2_with fail
    refine (trim_any bo m d ys _ hm hd (by omega) hy (hr2.below hb1)).mono ?_
    rintro e w3 ⟨rfl, rfl⟩
    go_wp2_with fail
    have s1 := L_len xs hx
    have s2 := L_len ys hy
    refine (add_any ao bo _ _ c d (V xs) (V ys) _ rfl rfl (by omega) (by omega) ((hr.below hb1).trim hx) ((hr2.below hb1).trim hy)).mono ?_
    rintro e w4 hret
    obtain ⟨ao', cap', rfl, ho, hb⟩ := hret.later hb1
    go_wp2_with fail
    go_ret
    exact ⟨ao', cap', rfl, ho, hb⟩
  · have hdoc : addDoc xs ys = [] := by unfold addDoc; rw [if_neg (by omega)]
    rw [hdoc]
    have hall : false = [n, m].all (fun x => decide (x ≤ 1200)) := by simp; omega
    have hall' := hid hall; clear hall
    go_enter Try.func10, Try.ntmps10
    go_wp2_with fail
    refine (short_any _ 2 [n, m] false _ rfl (by omega) (by simp; omega) hall'.out (two_cells _ _ _ _ _ _ _ _)).mono ?_
    rintro e w1 ⟨rfl, hw1⟩
    have hb1 : Below w.heap.size w w1 := by rw [hw1]; exact (Below.refl _ _).alloc (Nat.le_refl _) _
    clear hw1
    go_wp2_with fail
    go_ret
    exact Ret.nil hb1

end Go.Proofs.Ytehplfmnipadmae

namespace Go.Proofs.Ytehplfmnipadmae
open Go.RowKit Go.Maps
set_option linter.unusedVariables false
set_option maxRecDepth 100000

theorem T2.cls {tb bm : Nat} {w v : World} {g : Nat} {xs : Array Value} {t : TypeId} (h : T2 tb bm w v) (hc : Cls w g xs t) (h1 : g ≠ tb) (h2 : g ≠ bm) : Cls v g xs t := (h.block g hc.lt h1 h2).trans hc

theorem T2.trans {tb bm : Nat} {w v u : World} (h : T2 tb bm w v) (k : T2 tb bm v u) : T2 tb bm w u :=
  ⟨k.os.trans h.os, k.tape.trans h.tape, k.output.trans h.output, Nat.le_trans h.size k.size, fun j hj h1 h2 => (k.block j (Nat.lt_of_lt_of_le hj h.size) h1 h2).trans (h.block j hj h1 h2)⟩

/-- A span with two lists of its own; only two blocks have turned. -/
def Sx (tb bm : Nat) (w w' : World) (e : Ending) (xs ys : List Nat) (q : Int) (ok : Bool) : Prop :=
  ∃ (a : Option Addr) (ca : Nat) (b : Option Addr) (cb m1 : Nat), e = .returned (.agg #[.slice a xs.length ca, .slice b ys.length cb, .int .i64 q, .bool ok]) ∧ w.heap.size ≤ m1 ∧ m1 ≤ w'.heap.size ∧ Own w' w.heap.size m1 a ca xs ∧ Own w' m1 w'.heap.size b cb ys ∧ T2 tb bm w w'

set_option maxRecDepth 100000 in
set_option maxHeartbeats 4000000 in
theorem iscale_no (d : Nat) (k W : Int) (T : Nat) (E : Int) (x : Bool) (w : World) (tb bm : Nat) (ltb : tb < w.heap.size) (lbm : bm < w.heap.size) (c0 : w.cell? ⟨tb, 0, none⟩ = some (.int .i32 0)) (c2 : w.cell? ⟨tb, 2, none⟩ = some (.map (some bm))) (f0 : w.frozen? ⟨tb, 0, none⟩ = false) (hbt : bm ≠ tb) (hown : w.ownsMap Try.prog 85 Rz bm 0 (.map [])) :
    Calls Try.prog 49 #[.pointer (some ⟨tb, 0, none⟩), .int .u64 (d : Int), .agg #[.int .i64 k, .int .i64 W, .int .u64 (M.hiN T : Int), .int .u64 (M.loN T : Int), .int .i64 E, .bool x, .bool false]] w fun e w' => e = .returned (.agg #[.slice none 0 0, .slice none 0 0, .int .i64 0, .bool false]) ∧ T2 tb bm w w' := by
  have bW : Below w.heap.size w ((w.alloc (.cells #[.int .i64 k, .int .i64 W, .int .u64 (M.hiN T : Int), .int .u64 (M.loN T : Int), .int .i64 E, .bool x, .bool false] 29)).alloc (.cells #[.slice none 0 0, .slice none 0 0, .int .i64 0, .bool false] 41)) := ((Below.refl _ _).alloc (Nat.le_refl _) _).alloc (by simp) _
  have b0 : T2 tb bm w ((w.alloc (.cells #[.int .i64 k, .int .i64 W, .int .u64 (M.hiN T : Int), .int .u64 (M.loN T : Int), .int .i64 E, .bool x, .bool false] 29)).alloc (.cells #[.slice none 0 0, .slice none 0 0, .int .i64 0, .bool false] 41)) := (T2.refl _ _ _).below bW (Nat.le_refl _)
  have hP : Cls ((w.alloc (.cells #[.int .i64 k, .int .i64 W, .int .u64 (M.hiN T : Int), .int .u64 (M.loN T : Int), .int .i64 E, .bool x, .bool false] 29)).alloc (.cells #[.slice none 0 0, .slice none 0 0, .int .i64 0, .bool false] 41)) w.heap.size #[.int .i64 k, .int .i64 W, .int .u64 (M.hiN T : Int), .int .u64 (M.loN T : Int), .int .i64 E, .bool x, .bool false] 29 := (Cls.new w _ _).below ((Below.refl _ _).alloc (Nat.le_refl _) _)
  have hR : Cls ((w.alloc (.cells #[.int .i64 k, .int .i64 W, .int .u64 (M.hiN T : Int), .int .u64 (M.loN T : Int), .int .i64 E, .bool x, .bool false] 29)).alloc (.cells #[.slice none 0 0, .slice none 0 0, .int .i64 0, .bool false] 41)) (w.heap.size + 1) #[.slice none 0 0, .slice none 0 0, .int .i64 0, .bool false] 41 := by
    have := Cls.new (w.alloc (.cells #[.int .i64 k, .int .i64 W, .int .u64 (M.hiN T : Int), .int .u64 (M.loN T : Int), .int .i64 E, .bool x, .bool false] 29)) #[.slice none 0 0, .slice none 0 0, .int .i64 0, .bool false] 41
    rwa [World.size_alloc] at this
  replace c0 := (bW.cell (p := ⟨tb, 0, none⟩) ltb).trans c0
  replace c2 := (bW.cell (p := ⟨tb, 2, none⟩) ltb).trans c2
  replace f0 := (bW.frozen (p := ⟨tb, 0, none⟩) ltb).trans f0
  have ownV : ((w.alloc (.cells #[.int .i64 k, .int .i64 W, .int .u64 (M.hiN T : Int), .int .u64 (M.loN T : Int), .int .i64 E, .bool x, .bool false] 29)).alloc (.cells #[.slice none 0 0, .slice none 0 0, .int .i64 0, .bool false] 41)).ownsMap Try.prog 85 Rz bm 0 (.map []) := (hown.alloc _).alloc _
  have lV : w.heap.size + 1 < ((w.alloc (.cells #[.int .i64 k, .int .i64 W, .int .u64 (M.hiN T : Int), .int .u64 (M.loN T : Int), .int .i64 E, .bool x, .bool false] 29)).alloc (.cells #[.slice none 0 0, .slice none 0 0, .int .i64 0, .bool false] 41)).heap.size := hR.lt
  clear bW hown
  generalize hV : ((w.alloc (.cells #[.int .i64 k, .int .i64 W, .int .u64 (M.hiN T : Int), .int .u64 (M.loN T : Int), .int .i64 E, .bool x, .bool false] 29)).alloc (.cells #[.slice none 0 0, .slice none 0 0, .int .i64 0, .bool false] 41)) = v0 at *
  go_enter Try.func49, Try.ntmps49
  go_upto_region 1 with fail
  clear hV
  have p6 := hP.cell 6 rfl
  go_quiet (fail)
  replace hR := hR.below (scDrew (Below.refl _ _) nq)
  replace b0 := b0.below (scDrew (Below.refl v0.heap.size v0) nq) (by omega)
  generalize v0.drewN nq = v1 at *
  clear p6
  have r0 := hR.cell 0 rfl
  have s0 := hR.frozen 0
  have r1 := hR.cell 1 rfl
  have s1 := hR.frozen 1
  have r2 := hR.cell 2 rfl
  have s2 := hR.frozen 2
  have r3 := hR.cell 3 rfl
  have s3 := hR.frozen 3
  go_wp2_with fail
  have R5 := Cls.set (Cls.set (Cls.set (Cls.set (hR) 0 (.slice none 0 0) _ rfl) 1 (.slice none 0 0) _ rfl) 2 (.int .i64 0) _ rfl) 3 (.bool false) #[.slice none 0 0, .slice none 0 0, .int .i64 0, .bool false] rfl
  have B5 := ((((b0).set (w.heap.size + 1) 0 (.slice none 0 0) (by omega)).set (w.heap.size + 1) 1 (.slice none 0 0) (by omega)).set (w.heap.size + 1) 2 (.int .i64 0) (by omega)).set (w.heap.size + 1) 3 (.bool false) (by omega)
  generalize ((((v1.setCell ⟨w.heap.size + 1, 0, none⟩ (.slice none 0 0)).setCell ⟨w.heap.size + 1, 1, none⟩ (.slice none 0 0)).setCell ⟨w.heap.size + 1, 2, none⟩ (.int .i64 0)).setCell ⟨w.heap.size + 1, 3, none⟩ (.bool false)) = Yw at R5 B5 ⊢
  have q0 := R5.cell 0 rfl
  have q1 := R5.cell 1 rfl
  have q2 := R5.cell 2 rfl
  have q3 := R5.cell 3 rfl
  exact bodyPost_ret (v := .agg #[.slice none 0 0, .slice none 0 0, .int .i64 0, .bool false]) (by simp [results, Try.results49, go_sem, q0, q1, q2, q3]) rfl ⟨rfl, B5⟩

set_option maxRecDepth 100000 in
set_option maxHeartbeats 4000000 in
theorem iscale_ne (d : Nat) (k W : Int) (T : Nat) (E : Int) (x : Bool) (w : World) (tb bm : Nat) (ltb : tb < w.heap.size) (lbm : bm < w.heap.size) (c0 : w.cell? ⟨tb, 0, none⟩ = some (.int .i32 0)) (c2 : w.cell? ⟨tb, 2, none⟩ = some (.map (some bm))) (f0 : w.frozen? ⟨tb, 0, none⟩ = false) (hbt : bm ≠ tb) (hown : w.ownsMap Try.prog 85 Rz bm 0 (.map [])) (a0 a1 a2 a3 a4 : Int) (a5 a6 : Bool)
    (kT : ∀ v : World, v.cell? ⟨tb, 0, none⟩ = some (.int .i32 0) → v.cell? ⟨tb, 2, none⟩ = some (.map (some bm)) → v.frozen? ⟨tb, 0, none⟩ = false → v.ownsMap Try.prog 85 Rz bm 0 (.map []) → Calls Try.prog 24 #[.pointer (some ⟨tb, 0, none⟩), .int .i64 k, .int .i64 W] v fun e w' => e = .returned (.agg #[.int .i64 a0, .int .i64 a1, .int .u64 a2, .int .u64 a3, .int .i64 a4, .bool a5, .bool a6]) ∧ T2 tb bm v w')
    (hne : ¬ (k = a0 ∧ W = a1 ∧ (M.hiN T : Int) = a2 ∧ (M.loN T : Int) = a3 ∧ E = a4 ∧ x = a5 ∧ true = a6)) :
    Calls Try.prog 49 #[.pointer (some ⟨tb, 0, none⟩), .int .u64 (d : Int), .agg #[.int .i64 k, .int .i64 W, .int .u64 (M.hiN T : Int), .int .u64 (M.loN T : Int), .int .i64 E, .bool x, .bool true]] w fun e w' => e = .returned (.agg #[.slice none 0 0, .slice none 0 0, .int .i64 0, .bool false]) ∧ T2 tb bm w w' := by
  have HN := hid hne; clear hne
  have bW : Below w.heap.size w ((w.alloc (.cells #[.int .i64 k, .int .i64 W, .int .u64 (M.hiN T : Int), .int .u64 (M.loN T : Int), .int .i64 E, .bool x, .bool true] 29)).alloc (.cells #[.slice none 0 0, .slice none 0 0, .int .i64 0, .bool false] 41)) := ((Below.refl _ _).alloc (Nat.le_refl _) _).alloc (by simp) _
  have b0 : T2 tb bm w ((w.alloc (.cells #[.int .i64 k, .int .i64 W, .int .u64 (M.hiN T : Int), .int .u64 (M.loN T : Int), .int .i64 E, .bool x, .bool true] 29)).alloc (.cells #[.slice none 0 0, .slice none 0 0, .int .i64 0, .bool false] 41)) := (T2.refl _ _ _).below bW (Nat.le_refl _)
  have hP : Cls ((w.alloc (.cells #[.int .i64 k, .int .i64 W, .int .u64 (M.hiN T : Int), .int .u64 (M.loN T : Int), .int .i64 E, .bool x, .bool true] 29)).alloc (.cells #[.slice none 0 0, .slice none 0 0, .int .i64 0, .bool false] 41)) w.heap.size #[.int .i64 k, .int .i64 W, .int .u64 (M.hiN T : Int), .int .u64 (M.loN T : Int), .int .i64 E, .bool x, .bool true] 29 := (Cls.new w _ _).below ((Below.refl _ _).alloc (Nat.le_refl _) _)
  have hR : Cls ((w.alloc (.cells #[.int .i64 k, .int .i64 W, .int .u64 (M.hiN T : Int), .int .u64 (M.loN T : Int), .int .i64 E, .bool x, .bool true] 29)).alloc (.cells #[.slice none 0 0, .slice none 0 0, .int .i64 0, .bool false] 41)) (w.heap.size + 1) #[.slice none 0 0, .slice none 0 0, .int .i64 0, .bool false] 41 := by
    have := Cls.new (w.alloc (.cells #[.int .i64 k, .int .i64 W, .int .u64 (M.hiN T : Int), .int .u64 (M.loN T : Int), .int .i64 E, .bool x, .bool true] 29)) #[.slice none 0 0, .slice none 0 0, .int .i64 0, .bool false] 41
    rwa [World.size_alloc] at this
  replace c0 := (bW.cell (p := ⟨tb, 0, none⟩) ltb).trans c0
  replace c2 := (bW.cell (p := ⟨tb, 2, none⟩) ltb).trans c2
  replace f0 := (bW.frozen (p := ⟨tb, 0, none⟩) ltb).trans f0
  have ownV : ((w.alloc (.cells #[.int .i64 k, .int .i64 W, .int .u64 (M.hiN T : Int), .int .u64 (M.loN T : Int), .int .i64 E, .bool x, .bool true] 29)).alloc (.cells #[.slice none 0 0, .slice none 0 0, .int .i64 0, .bool false] 41)).ownsMap Try.prog 85 Rz bm 0 (.map []) := (hown.alloc _).alloc _
  have lV : w.heap.size + 1 < ((w.alloc (.cells #[.int .i64 k, .int .i64 W, .int .u64 (M.hiN T : Int), .int .u64 (M.loN T : Int), .int .i64 E, .bool x, .bool true] 29)).alloc (.cells #[.slice none 0 0, .slice none 0 0, .int .i64 0, .bool false] 41)).heap.size := hR.lt
  clear bW hown
  generalize hV : ((w.alloc (.cells #[.int .i64 k, .int .i64 W, .int .u64 (M.hiN T : Int), .int .u64 (M.loN T : Int), .int .i64 E, .bool x, .bool true] 29)).alloc (.cells #[.slice none 0 0, .slice none 0 0, .int .i64 0, .bool false] 41)) = v0 at *
  go_enter Try.func49, Try.ntmps49
  go_upto_region 1 with fail
  clear hV
  go_cut [22] (fun z wx => z = .bool (decide (¬ (k = a0 ∧ W = a1 ∧ (M.hiN T : Int) = a2 ∧ (M.loN T : Int) = a3 ∧ E = a4 ∧ x = a5 ∧ true = a6))) ∧ T2 tb bm v0 wx)
  case first =>
    have A0 : T2 tb bm v0 v0.drew := (T2.refl _ _ _).below (Below.refl v0.heap.size v0).drew (Nat.le_refl _)
    have KB : ∀ v, T2 tb bm v0 v → (fun v => v.cell? ⟨w.heap.size, 0, none⟩ = some (.int .i64 k) ∧ v.cell? ⟨w.heap.size, 1, none⟩ = some (.int .i64 W) ∧ v.cell? ⟨w.heap.size, 2, none⟩ = some (.int .u64 (M.hiN T : Int)) ∧ v.cell? ⟨w.heap.size, 3, none⟩ = some (.int .u64 (M.loN T : Int)) ∧ v.cell? ⟨w.heap.size, 4, none⟩ = some (.int .i64 E) ∧ v.cell? ⟨w.heap.size, 5, none⟩ = some (.bool x) ∧ v.cell? ⟨w.heap.size, 6, none⟩ = some (.bool true)) v := fun v hv => ⟨(hv.cls hP (by omega) (by omega)).cell 0 rfl, (hv.cls hP (by omega) (by omega)).cell 1 rfl, (hv.cls hP (by omega) (by omega)).cell 2 rfl, (hv.cls hP (by omega) (by omega)).cell 3 rfl, (hv.cls hP (by omega) (by omega)).cell 4 rfl, (hv.cls hP (by omega) (by omega)).cell 5 rfl, (hv.cls hP (by omega) (by omega)).cell 6 rfl⟩
    by_cases f0 : k = a0
    rotate_left
    · have EN : Hid ((decide (¬ (k = a0 ∧ W = a1 ∧ (M.hiN T : Int) = a2 ∧ (M.loN T : Int) = a3 ∧ E = a4 ∧ x = a5 ∧ true = a6))) = true) := decide_eq_true (by intro hh; exact f0 (by simp only [← hh]))
      have e0 : (k == a0) = false := beq_eq_false_iff_ne.2 f0
      skip
      have F0 := hid f0; clear f0
      go_region_held3 (fun v => v.cell? ⟨w.heap.size, 0, none⟩ = some (.int .i64 k) ∧ v.cell? ⟨w.heap.size, 1, none⟩ = some (.int .i64 W) ∧ v.cell? ⟨w.heap.size, 2, none⟩ = some (.int .u64 (M.hiN T : Int)) ∧ v.cell? ⟨w.heap.size, 3, none⟩ = some (.int .u64 (M.loN T : Int)) ∧ v.cell? ⟨w.heap.size, 4, none⟩ = some (.int .i64 E) ∧ v.cell? ⟨w.heap.size, 5, none⟩ = some (.bool x) ∧ v.cell? ⟨w.heap.size, 6, none⟩ = some (.bool true)) (first | with_reducible exact KB _ hb1 | with_reducible exact KB _ A0) (first | (go_at_call 24; refine (kT v0.drew c0 c2 f0 ownV.drew).mono ?_; rintro e u1 ⟨rfl, hb0⟩; have hb1 := A0.trans hb0; clear hb0))
      all_goals go_wp2_with fail
      all_goals go_meet
      all_goals exact ⟨by rw [EN.out], hb1⟩
    have e0 : (k == a0) = true := beq_iff_eq.2 f0
    skip
    have F0 := hid f0; clear f0
    by_cases f1 : W = a1
    rotate_left
    · have EN : Hid ((decide (¬ (k = a0 ∧ W = a1 ∧ (M.hiN T : Int) = a2 ∧ (M.loN T : Int) = a3 ∧ E = a4 ∧ x = a5 ∧ true = a6))) = true) := decide_eq_true (by intro hh; exact f1 (by simp only [← hh]))
      have e1 : (W == a1) = false := beq_eq_false_iff_ne.2 f1
      skip
      have F1 := hid f1; clear f1
      go_region_held3 (fun v => v.cell? ⟨w.heap.size, 0, none⟩ = some (.int .i64 k) ∧ v.cell? ⟨w.heap.size, 1, none⟩ = some (.int .i64 W) ∧ v.cell? ⟨w.heap.size, 2, none⟩ = some (.int .u64 (M.hiN T : Int)) ∧ v.cell? ⟨w.heap.size, 3, none⟩ = some (.int .u64 (M.loN T : Int)) ∧ v.cell? ⟨w.heap.size, 4, none⟩ = some (.int .i64 E) ∧ v.cell? ⟨w.heap.size, 5, none⟩ = some (.bool x) ∧ v.cell? ⟨w.heap.size, 6, none⟩ = some (.bool true)) (first | with_reducible exact KB _ hb1 | with_reducible exact KB _ A0) (first | (go_at_call 24; refine (kT v0.drew c0 c2 f0 ownV.drew).mono ?_; rintro e u1 ⟨rfl, hb0⟩; have hb1 := A0.trans hb0; clear hb0))
      all_goals go_wp2_with fail
      all_goals go_meet
      all_goals exact ⟨by rw [EN.out], hb1⟩
    have e1 : (W == a1) = true := beq_iff_eq.2 f1
    skip
    have F1 := hid f1; clear f1
    by_cases f2 : (M.hiN T : Int) = a2
    rotate_left
    · have EN : Hid ((decide (¬ (k = a0 ∧ W = a1 ∧ (M.hiN T : Int) = a2 ∧ (M.loN T : Int) = a3 ∧ E = a4 ∧ x = a5 ∧ true = a6))) = true) := decide_eq_true (by intro hh; exact f2 (by simp only [← hh]))
      have e2 : ((M.hiN T : Int) == a2) = false := beq_eq_false_iff_ne.2 f2
      skip
      have F2 := hid f2; clear f2
      go_region_held3 (fun v => v.cell? ⟨w.heap.size, 0, none⟩ = some (.int .i64 k) ∧ v.cell? ⟨w.heap.size, 1, none⟩ = some (.int .i64 W) ∧ v.cell? ⟨w.heap.size, 2, none⟩ = some (.int .u64 (M.hiN T : Int)) ∧ v.cell? ⟨w.heap.size, 3, none⟩ = some (.int .u64 (M.loN T : Int)) ∧ v.cell? ⟨w.heap.size, 4, none⟩ = some (.int .i64 E) ∧ v.cell? ⟨w.heap.size, 5, none⟩ = some (.bool x) ∧ v.cell? ⟨w.heap.size, 6, none⟩ = some (.bool true)) (first | with_reducible exact KB _ hb1 | with_reducible exact KB _ A0) (first | (go_at_call 24; refine (kT v0.drew c0 c2 f0 ownV.drew).mono ?_; rintro e u1 ⟨rfl, hb0⟩; have hb1 := A0.trans hb0; clear hb0))
      all_goals go_wp2_with fail
      all_goals go_meet
      all_goals exact ⟨by rw [EN.out], hb1⟩
    have e2 : ((M.hiN T : Int) == a2) = true := beq_iff_eq.2 f2
    skip
    have F2 := hid f2; clear f2
    by_cases f3 : (M.loN T : Int) = a3
    rotate_left
    · have EN : Hid ((decide (¬ (k = a0 ∧ W = a1 ∧ (M.hiN T : Int) = a2 ∧ (M.loN T : Int) = a3 ∧ E = a4 ∧ x = a5 ∧ true = a6))) = true) := decide_eq_true (by intro hh; exact f3 (by simp only [← hh]))
      have e3 : ((M.loN T : Int) == a3) = false := beq_eq_false_iff_ne.2 f3
      skip
      have F3 := hid f3; clear f3
      go_region_held3 (fun v => v.cell? ⟨w.heap.size, 0, none⟩ = some (.int .i64 k) ∧ v.cell? ⟨w.heap.size, 1, none⟩ = some (.int .i64 W) ∧ v.cell? ⟨w.heap.size, 2, none⟩ = some (.int .u64 (M.hiN T : Int)) ∧ v.cell? ⟨w.heap.size, 3, none⟩ = some (.int .u64 (M.loN T : Int)) ∧ v.cell? ⟨w.heap.size, 4, none⟩ = some (.int .i64 E) ∧ v.cell? ⟨w.heap.size, 5, none⟩ = some (.bool x) ∧ v.cell? ⟨w.heap.size, 6, none⟩ = some (.bool true)) (first | with_reducible exact KB _ hb1 | with_reducible exact KB _ A0) (first | (go_at_call 24; refine (kT v0.drew c0 c2 f0 ownV.drew).mono ?_; rintro e u1 ⟨rfl, hb0⟩; have hb1 := A0.trans hb0; clear hb0))
      all_goals go_wp2_with fail
      all_goals go_meet
      all_goals exact ⟨by rw [EN.out], hb1⟩
    have e3 : ((M.loN T : Int) == a3) = true := beq_iff_eq.2 f3
    skip
    have F3 := hid f3; clear f3
    by_cases f4 : E = a4
    rotate_left
    · have EN : Hid ((decide (¬ (k = a0 ∧ W = a1 ∧ (M.hiN T : Int) = a2 ∧ (M.loN T : Int) = a3 ∧ E = a4 ∧ x = a5 ∧ true = a6))) = true) := decide_eq_true (by intro hh; exact f4 (by simp only [← hh]))
      have e4 : (E == a4) = false := beq_eq_false_iff_ne.2 f4
      skip
      have F4 := hid f4; clear f4
      go_region_held3 (fun v => v.cell? ⟨w.heap.size, 0, none⟩ = some (.int .i64 k) ∧ v.cell? ⟨w.heap.size, 1, none⟩ = some (.int .i64 W) ∧ v.cell? ⟨w.heap.size, 2, none⟩ = some (.int .u64 (M.hiN T : Int)) ∧ v.cell? ⟨w.heap.size, 3, none⟩ = some (.int .u64 (M.loN T : Int)) ∧ v.cell? ⟨w.heap.size, 4, none⟩ = some (.int .i64 E) ∧ v.cell? ⟨w.heap.size, 5, none⟩ = some (.bool x) ∧ v.cell? ⟨w.heap.size, 6, none⟩ = some (.bool true)) (first | with_reducible exact KB _ hb1 | with_reducible exact KB _ A0) (first | (go_at_call 24; refine (kT v0.drew c0 c2 f0 ownV.drew).mono ?_; rintro e u1 ⟨rfl, hb0⟩; have hb1 := A0.trans hb0; clear hb0))
      all_goals go_wp2_with fail
      all_goals go_meet
      all_goals exact ⟨by rw [EN.out], hb1⟩
    have e4 : (E == a4) = true := beq_iff_eq.2 f4
    skip
    have F4 := hid f4; clear f4
    by_cases f5 : x = a5
    rotate_left
    · have EN : Hid ((decide (¬ (k = a0 ∧ W = a1 ∧ (M.hiN T : Int) = a2 ∧ (M.loN T : Int) = a3 ∧ E = a4 ∧ x = a5 ∧ true = a6))) = true) := decide_eq_true (by intro hh; exact f5 (by simp only [← hh]))
      have e5 : (x == a5) = false := beq_eq_false_iff_ne.2 f5
      skip
      have F5 := hid f5; clear f5
      go_region_held3 (fun v => v.cell? ⟨w.heap.size, 0, none⟩ = some (.int .i64 k) ∧ v.cell? ⟨w.heap.size, 1, none⟩ = some (.int .i64 W) ∧ v.cell? ⟨w.heap.size, 2, none⟩ = some (.int .u64 (M.hiN T : Int)) ∧ v.cell? ⟨w.heap.size, 3, none⟩ = some (.int .u64 (M.loN T : Int)) ∧ v.cell? ⟨w.heap.size, 4, none⟩ = some (.int .i64 E) ∧ v.cell? ⟨w.heap.size, 5, none⟩ = some (.bool x) ∧ v.cell? ⟨w.heap.size, 6, none⟩ = some (.bool true)) (first | with_reducible exact KB _ hb1 | with_reducible exact KB _ A0) (first | (go_at_call 24; refine (kT v0.drew c0 c2 f0 ownV.drew).mono ?_; rintro e u1 ⟨rfl, hb0⟩; have hb1 := A0.trans hb0; clear hb0))
      all_goals go_wp2_with fail
      all_goals go_meet
      all_goals exact ⟨by rw [EN.out], hb1⟩
    have e5 : (x == a5) = true := beq_iff_eq.2 f5
    skip
    have F5 := hid f5; clear f5
    by_cases f6 : true = a6
    rotate_left
    · have EN : Hid ((decide (¬ (k = a0 ∧ W = a1 ∧ (M.hiN T : Int) = a2 ∧ (M.loN T : Int) = a3 ∧ E = a4 ∧ x = a5 ∧ true = a6))) = true) := decide_eq_true (by intro hh; exact f6 (by simp only [← hh]))
      have e6 : (true == a6) = false := beq_eq_false_iff_ne.2 f6
      have e6x : a6 = false := by cases a6 <;> simp_all
      have F6 := hid f6; clear f6
      go_region_held3 (fun v => v.cell? ⟨w.heap.size, 0, none⟩ = some (.int .i64 k) ∧ v.cell? ⟨w.heap.size, 1, none⟩ = some (.int .i64 W) ∧ v.cell? ⟨w.heap.size, 2, none⟩ = some (.int .u64 (M.hiN T : Int)) ∧ v.cell? ⟨w.heap.size, 3, none⟩ = some (.int .u64 (M.loN T : Int)) ∧ v.cell? ⟨w.heap.size, 4, none⟩ = some (.int .i64 E) ∧ v.cell? ⟨w.heap.size, 5, none⟩ = some (.bool x) ∧ v.cell? ⟨w.heap.size, 6, none⟩ = some (.bool true)) (first | with_reducible exact KB _ hb1 | with_reducible exact KB _ A0) (first | (go_at_call 24; refine (kT v0.drew c0 c2 f0 ownV.drew).mono ?_; rintro e u1 ⟨rfl, hb0⟩; have hb1 := A0.trans hb0; clear hb0))
      all_goals go_wp2_with fail
      all_goals go_meet
      all_goals exact ⟨by rw [EN.out], hb1⟩
    have e6 : (true == a6) = true := beq_iff_eq.2 f6
    have e6x : a6 = true := f6.symm
    have F6 := hid f6; clear f6
    have EN : Hid ((decide (¬ (k = a0 ∧ W = a1 ∧ (M.hiN T : Int) = a2 ∧ (M.loN T : Int) = a3 ∧ E = a4 ∧ x = a5 ∧ true = a6))) = false) := decide_eq_false (by intro hh; exact hh ⟨F0.out, F1.out, F2.out, F3.out, F4.out, F5.out, F6.out⟩)
    go_region_held3 (fun v => v.cell? ⟨w.heap.size, 0, none⟩ = some (.int .i64 k) ∧ v.cell? ⟨w.heap.size, 1, none⟩ = some (.int .i64 W) ∧ v.cell? ⟨w.heap.size, 2, none⟩ = some (.int .u64 (M.hiN T : Int)) ∧ v.cell? ⟨w.heap.size, 3, none⟩ = some (.int .u64 (M.loN T : Int)) ∧ v.cell? ⟨w.heap.size, 4, none⟩ = some (.int .i64 E) ∧ v.cell? ⟨w.heap.size, 5, none⟩ = some (.bool x) ∧ v.cell? ⟨w.heap.size, 6, none⟩ = some (.bool true)) (first | with_reducible exact KB _ hb1 | with_reducible exact KB _ A0) (first | (go_at_call 24; refine (kT v0.drew c0 c2 f0 ownV.drew).mono ?_; rintro e u1 ⟨rfl, hb0⟩; have hb1 := A0.trans hb0; clear hb0))
    all_goals go_wp2_with fail
    all_goals go_meet
    all_goals exact ⟨by rw [EN.out], hb1⟩
  case rest =>
  obtain ⟨rfl, hbx⟩ := hcut
  replace hR := hbx.cls hR (by omega) (by omega)
  replace b0 := b0.trans hbx
  clear hbx kT hP
  rw [decide_eq_true HN.out]
  have r0 := hR.cell 0 rfl
  have s0 := hR.frozen 0
  have r1 := hR.cell 1 rfl
  have s1 := hR.frozen 1
  have r2 := hR.cell 2 rfl
  have s2 := hR.frozen 2
  have r3 := hR.cell 3 rfl
  have s3 := hR.frozen 3
  go_wp2_with fail
  have R5 := Cls.set (Cls.set (Cls.set (Cls.set (hR) 0 (.slice none 0 0) _ rfl) 1 (.slice none 0 0) _ rfl) 2 (.int .i64 0) _ rfl) 3 (.bool false) #[.slice none 0 0, .slice none 0 0, .int .i64 0, .bool false] rfl
  have B5 := ((((b0).set (w.heap.size + 1) 0 (.slice none 0 0) (by omega)).set (w.heap.size + 1) 1 (.slice none 0 0) (by omega)).set (w.heap.size + 1) 2 (.int .i64 0) (by omega)).set (w.heap.size + 1) 3 (.bool false) (by omega)
  generalize ((((wc.setCell ⟨w.heap.size + 1, 0, none⟩ (.slice none 0 0)).setCell ⟨w.heap.size + 1, 1, none⟩ (.slice none 0 0)).setCell ⟨w.heap.size + 1, 2, none⟩ (.int .i64 0)).setCell ⟨w.heap.size + 1, 3, none⟩ (.bool false)) = Yw at R5 B5 ⊢
  have q0 := R5.cell 0 rfl
  have q1 := R5.cell 1 rfl
  have q2 := R5.cell 2 rfl
  have q3 := R5.cell 3 rfl
  exact bodyPost_ret (v := .agg #[.slice none 0 0, .slice none 0 0, .int .i64 0, .bool false]) (by simp [results, Try.results49, go_sem, q0, q1, q2, q3]) rfl ⟨rfl, B5⟩

end Go.Proofs.Ytehplfmnipadmae

namespace Go.Proofs.Ytehplfmnipadmae
open Go.RowKit Go.Maps
set_option linter.unusedVariables false
set_option maxRecDepth 100000

theorem lit_rd (v : World) (d : Nat) (t : TypeId) : Rd (v.alloc (.cells #[.int .u64 (d : Int)] t)) (some ⟨v.heap.size, 0, none⟩) [d] := by
  intro _
  refine ⟨v.heap.size, 0, rfl, fun i hi => ?_⟩
  have : i = 0 := by simp at hi; omega
  subst this
  simp [go_sem]

theorem grown1s (W : World) (g j : Nat) (v : Value) : W.grownBy (W.setCell ⟨g, j, none⟩ v) (some g) :=
  ⟨rfl, rfl, rfl, by simp, fun k _ hk => Below.heap_setCell _ _ _ k (fun e => hk (by rw [e]))⟩

theorem Own.wide {v : World} {lo hi lo' hi' : Nat} {ao : Option Addr} {cap : Nat} {r : List Nat} (h : Own v lo hi ao cap r) (h1 : lo' ≤ lo) (h2 : hi ≤ hi') : Own v lo' hi' ao cap r :=
  ⟨h.row, fun k hk => by have := h.place k hk; omega⟩

theorem one_rds (u : World) (t : TypeId) : Rd (u.alloc (.cells #[.int .u64 1] t)) (some ⟨u.heap.size, 0, none⟩) [1] := by
  intro _
  refine ⟨u.heap.size, 0, rfl, fun i hi => ?_⟩
  have : i = 0 := by simp at hi; omega
  subst this
  simp [go_sem]

theorem set4b {w v : World} {g : Nat} (hb : Below w.heap.size w v) (hg : w.heap.size ≤ g) (a b c d : Value) : Below w.heap.size w ((((v.setCell ⟨g, 0, none⟩ a).setCell ⟨g, 1, none⟩ b).setCell ⟨g, 2, none⟩ c).setCell ⟨g, 3, none⟩ d) :=
  (((hb.setCell (p := ⟨g, 0, none⟩) hg a).setCell (p := ⟨g, 1, none⟩) hg b).setCell (p := ⟨g, 2, none⟩) hg c).setCell (p := ⟨g, 3, none⟩) hg d

theorem Own.set4 {v : World} {lo hi : Nat} {ao : Option Addr} {cap : Nat} {r : List Nat} {g : Nat} (h : Own v lo hi ao cap r) (hg : hi ≤ g ∨ g < lo) (a b c d : Value) : Own ((((v.setCell ⟨g, 0, none⟩ a).setCell ⟨g, 1, none⟩ b).setCell ⟨g, 2, none⟩ c).setCell ⟨g, 3, none⟩ d) lo hi ao cap r :=
  h.grown (grown_trans (grown_trans (grown_trans (grown1s _ _ _ _) (grown1s _ _ _ _)) (grown1s _ _ _ _)) (grown1s _ _ _ _)) (fun k h1 h2 e => by injection e; omega)

theorem V1 (d : Nat) : V [d] = d := by simp [V, M.val]

set_option maxRecDepth 100000 in
set_option maxHeartbeats 4000000 in
theorem iscale_eq (d : Nat) (hd : d < 18446744073709551616) (k W : Int) (T : Nat) (E : Int) (x : Bool) (w : World) (tb bm : Nat) (ltb : tb < w.heap.size) (lbm : bm < w.heap.size) (c0 : w.cell? ⟨tb, 0, none⟩ = some (.int .i32 0)) (c2 : w.cell? ⟨tb, 2, none⟩ = some (.map (some bm))) (f0 : w.frozen? ⟨tb, 0, none⟩ = false) (hbt : bm ≠ tb) (hown : w.ownsMap Try.prog 85 Rz bm 0 (.map [])) (A Bv : Nat)
    (kT : ∀ v : World, v.cell? ⟨tb, 0, none⟩ = some (.int .i32 0) → v.cell? ⟨tb, 2, none⟩ = some (.map (some bm)) → v.frozen? ⟨tb, 0, none⟩ = false → v.ownsMap Try.prog 85 Rz bm 0 (.map []) → Calls Try.prog 24 #[.pointer (some ⟨tb, 0, none⟩), .int .i64 k, .int .i64 W] v fun e w' => e = .returned (.agg #[.int .i64 k, .int .i64 W, .int .u64 (M.hiN T : Int), .int .u64 (M.loN T : Int), .int .i64 E, .bool x, .bool true]) ∧ T2 tb bm v w')
    (k2 : ∀ v : World, Calls Try.prog 70 #[.agg #[.int .u64 (M.hiN T : Int), .int .u64 (M.loN T : Int)]] v fun e w' => ∃ ao c, e = .returned (.slice ao (L T).length c) ∧ Rd w' ao (L T) ∧ (L T).length ≤ c ∧ Below v.heap.size v w')
    (kM : ∀ (v : World) (ao bo : Option Addr) (c e : Nat), Rd v ao (L d) → Rd v bo (L T) → Calls Try.prog 41 #[.slice ao (L d).length c, .slice bo (L T).length e] v fun e w' => Ret v w' e (L A))
    (kA : ∀ (v : World) (ao bo : Option Addr) (c e : Nat), Rd v ao (L T) → Rd v bo [1] → Calls Try.prog 38 #[.slice ao (L T).length c, .slice bo 1 e] v fun e w' => Ret v w' e (L (T + 1)))
    (Tv : Nat) (hT : Tv = if x then T else T + 1)
    (kN : ∀ (v : World) (ao bo : Option Addr) (c e : Nat), Rd v ao (L d) → Rd v bo (L Tv) → Calls Try.prog 41 #[.slice ao (L d).length c, .slice bo (L Tv).length e] v fun e w' => Ret v w' e (L Bv)) :
    Calls Try.prog 49 #[.pointer (some ⟨tb, 0, none⟩), .int .u64 (d : Int), .agg #[.int .i64 k, .int .i64 W, .int .u64 (M.hiN T : Int), .int .u64 (M.loN T : Int), .int .i64 E, .bool x, .bool true]] w fun e w' => Sx tb bm w w' e (L A) (L Bv) E true := by
  have HT := hid hT; clear hT
  have bW : Below w.heap.size w ((w.alloc (.cells #[.int .i64 k, .int .i64 W, .int .u64 (M.hiN T : Int), .int .u64 (M.loN T : Int), .int .i64 E, .bool x, .bool true] 29)).alloc (.cells #[.slice none 0 0, .slice none 0 0, .int .i64 0, .bool false] 41)) := ((Below.refl _ _).alloc (Nat.le_refl _) _).alloc (by simp) _
  have b0 : T2 tb bm w ((w.alloc (.cells #[.int .i64 k, .int .i64 W, .int .u64 (M.hiN T : Int), .int .u64 (M.loN T : Int), .int .i64 E, .bool x, .bool true] 29)).alloc (.cells #[.slice none 0 0, .slice none 0 0, .int .i64 0, .bool false] 41)) := (T2.refl _ _ _).below bW (Nat.le_refl _)
  have hP : Cls ((w.alloc (.cells #[.int .i64 k, .int .i64 W, .int .u64 (M.hiN T : Int), .int .u64 (M.loN T : Int), .int .i64 E, .bool x, .bool true] 29)).alloc (.cells #[.slice none 0 0, .slice none 0 0, .int .i64 0, .bool false] 41)) w.heap.size #[.int .i64 k, .int .i64 W, .int .u64 (M.hiN T : Int), .int .u64 (M.loN T : Int), .int .i64 E, .bool x, .bool true] 29 := (Cls.new w _ _).below ((Below.refl _ _).alloc (Nat.le_refl _) _)
  have hR : Cls ((w.alloc (.cells #[.int .i64 k, .int .i64 W, .int .u64 (M.hiN T : Int), .int .u64 (M.loN T : Int), .int .i64 E, .bool x, .bool true] 29)).alloc (.cells #[.slice none 0 0, .slice none 0 0, .int .i64 0, .bool false] 41)) (w.heap.size + 1) #[.slice none 0 0, .slice none 0 0, .int .i64 0, .bool false] 41 := by
    have := Cls.new (w.alloc (.cells #[.int .i64 k, .int .i64 W, .int .u64 (M.hiN T : Int), .int .u64 (M.loN T : Int), .int .i64 E, .bool x, .bool true] 29)) #[.slice none 0 0, .slice none 0 0, .int .i64 0, .bool false] 41
    rwa [World.size_alloc] at this
  replace c0 := (bW.cell (p := ⟨tb, 0, none⟩) ltb).trans c0
  replace c2 := (bW.cell (p := ⟨tb, 2, none⟩) ltb).trans c2
  replace f0 := (bW.frozen (p := ⟨tb, 0, none⟩) ltb).trans f0
  have ownV : ((w.alloc (.cells #[.int .i64 k, .int .i64 W, .int .u64 (M.hiN T : Int), .int .u64 (M.loN T : Int), .int .i64 E, .bool x, .bool true] 29)).alloc (.cells #[.slice none 0 0, .slice none 0 0, .int .i64 0, .bool false] 41)).ownsMap Try.prog 85 Rz bm 0 (.map []) := (hown.alloc _).alloc _
  have lV : w.heap.size + 1 < ((w.alloc (.cells #[.int .i64 k, .int .i64 W, .int .u64 (M.hiN T : Int), .int .u64 (M.loN T : Int), .int .i64 E, .bool x, .bool true] 29)).alloc (.cells #[.slice none 0 0, .slice none 0 0, .int .i64 0, .bool false] 41)).heap.size := hR.lt
  clear bW hown
  generalize hV : ((w.alloc (.cells #[.int .i64 k, .int .i64 W, .int .u64 (M.hiN T : Int), .int .u64 (M.loN T : Int), .int .i64 E, .bool x, .bool true] 29)).alloc (.cells #[.slice none 0 0, .slice none 0 0, .int .i64 0, .bool false] 41)) = v0 at *
  go_enter Try.func49, Try.ntmps49
  go_upto_region 1 with fail
  clear hV
  go_cut [22] (fun z wx => z = .bool false ∧ T2 tb bm v0 wx)
  case first =>
    have A0 : T2 tb bm v0 v0.drew := (T2.refl _ _ _).below (Below.refl v0.heap.size v0).drew (Nat.le_refl _)
    have KB : ∀ v, T2 tb bm v0 v → (fun v => v.cell? ⟨w.heap.size, 0, none⟩ = some (.int .i64 k) ∧ v.cell? ⟨w.heap.size, 1, none⟩ = some (.int .i64 W) ∧ v.cell? ⟨w.heap.size, 2, none⟩ = some (.int .u64 (M.hiN T : Int)) ∧ v.cell? ⟨w.heap.size, 3, none⟩ = some (.int .u64 (M.loN T : Int)) ∧ v.cell? ⟨w.heap.size, 4, none⟩ = some (.int .i64 E) ∧ v.cell? ⟨w.heap.size, 5, none⟩ = some (.bool x) ∧ v.cell? ⟨w.heap.size, 6, none⟩ = some (.bool true)) v := fun v hv => ⟨(hv.cls hP (by omega) (by omega)).cell 0 rfl, (hv.cls hP (by omega) (by omega)).cell 1 rfl, (hv.cls hP (by omega) (by omega)).cell 2 rfl, (hv.cls hP (by omega) (by omega)).cell 3 rfl, (hv.cls hP (by omega) (by omega)).cell 4 rfl, (hv.cls hP (by omega) (by omega)).cell 5 rfl, (hv.cls hP (by omega) (by omega)).cell 6 rfl⟩
    go_region_held3 (fun v => v.cell? ⟨w.heap.size, 0, none⟩ = some (.int .i64 k) ∧ v.cell? ⟨w.heap.size, 1, none⟩ = some (.int .i64 W) ∧ v.cell? ⟨w.heap.size, 2, none⟩ = some (.int .u64 (M.hiN T : Int)) ∧ v.cell? ⟨w.heap.size, 3, none⟩ = some (.int .u64 (M.loN T : Int)) ∧ v.cell? ⟨w.heap.size, 4, none⟩ = some (.int .i64 E) ∧ v.cell? ⟨w.heap.size, 5, none⟩ = some (.bool x) ∧ v.cell? ⟨w.heap.size, 6, none⟩ = some (.bool true)) (first | with_reducible exact KB _ hb1 | with_reducible exact KB _ A0) (first | (go_at_call 24; refine (kT v0.drew c0 c2 f0 ownV.drew).mono ?_; rintro e u1 ⟨rfl, hb0⟩; have hb1 := A0.trans hb0; clear hb0))
    all_goals go_wp2_with fail
    all_goals go_meet
    all_goals exact ⟨rfl, hb1⟩
  case rest =>
  obtain ⟨rfl, hbx⟩ := hcut
  replace hR := hbx.cls hR (by omega) (by omega)
  replace hP := hbx.cls hP (by omega) (by omega)
  replace b0 := b0.trans hbx
  clear hbx kT c0 c2 f0 ownV
  have lR := hR.lt
  go_upto_region 3 with fail
  go_cut [7, 8] (fun y z wx => ∃ (a1 : Option Addr) (c1 : Nat) (a2 : Option Addr) (c2 : Nat), y = .slice a1 (L d).length c1 ∧ z = .slice a2 (L T).length c2 ∧ Rd wx a1 (L d) ∧ Rd wx a2 (L T) ∧ Below wc.heap.size wc wx)
  case first =>
    have A0 : Below wc.heap.size wc wc.drew := (Below.refl _ _).drew
    have A1 : Below wc.heap.size wc (wc.alloc (.cells #[.int .u64 (d : Int)] 25)).drew := ((Below.refl _ _).alloc (Nat.le_refl _) _).drew
    have A2 : Below wc.heap.size wc (wc.drew.alloc (.cells #[.int .u64 (d : Int)] 25)) := ((Below.refl wc.heap.size wc).drew).alloc (Nat.le_refl _) _
    have R2 : Rd (wc.drew.alloc (.cells #[.int .u64 (d : Int)] 25)) (some ⟨wc.heap.size, 0, none⟩) [d] := lit_rd wc.drew d _
    have hF : F64 [d] := by intro y hy; simp at hy; omega
    have kt := fun (v : World) (hr : Rd v (some ⟨wc.heap.size, 0, none⟩) [d]) => trim_any (some ⟨wc.heap.size, 0, none⟩) 1 1 [d] v rfl (Nat.le_refl _) (by omega) hF hr
    rw [V1] at kt
    have KB : ∀ v, Below wc.heap.size wc v → (fun v => v.cell? ⟨w.heap.size, 2, none⟩ = some (.int .u64 (M.hiN T : Int)) ∧ v.cell? ⟨w.heap.size, 3, none⟩ = some (.int .u64 (M.loN T : Int))) v := fun v hv => ⟨(hP.below hv).cell 2 rfl, (hP.below hv).cell 3 rfl⟩
    have KU : ∀ u1, u1 = (wc.drew.alloc (.cells #[.int .u64 (d : Int)] 25)) → Below wc.heap.size wc u1 := fun u hu => by rw [hu]; exact A2
    have KR : ∀ u1, u1 = (wc.drew.alloc (.cells #[.int .u64 (d : Int)] 25)) → Rd u1 (some ⟨wc.heap.size, 0, none⟩) (L d) := fun u hu => by
      rw [hu]
      have := R2.trim hF
      rwa [V1] at this
    have d2 := hP.cell 2 rfl
    have d3 := hP.cell 3 rfl
    go_region_held3 (fun v => v.cell? ⟨w.heap.size, 2, none⟩ = some (.int .u64 (M.hiN T : Int)) ∧ v.cell? ⟨w.heap.size, 3, none⟩ = some (.int .u64 (M.loN T : Int))) (first | with_reducible exact KB _ hb2 | with_reducible exact KB _ hb1 | with_reducible exact KB _ A0 | with_reducible exact KB _ A1 | with_reducible exact KB _ A2)
      (first | (have hq := hb1; clear hq; go_at_call 70; refine (k2 _).mono ?_; rintro e u2 ⟨a2, c2, rfl, r2, -, hb0⟩; have hb2 := keepC1 (w1 := wc) hb1 hb0; replace r1 := r1.below hb0; clear hb0) | (go_at_call 37; refine (kt _ R2).mono ?_; rintro e u1 ⟨rfl, hu⟩; have hb1 := KU _ hu; have r1 := KR _ hu; clear hu))
    all_goals go_wp2_with fail
    all_goals go_meet
    all_goals exact ⟨_, _, a2, c2, rfl, rfl, r1, r2, hb2⟩
  case rest =>
  obtain ⟨a1, c1, a2, c2, rfl, rfl, r1, r2, hbx⟩ := hcut
  replace hR := hR.below hbx
  replace hP := hP.below hbx
  replace b0 := b0.below hbx b0.size
  have lx := hbx.size
  clear hbx k2
  rename World => wy
  go_upto_region 4 with fail
  go_cut [9] (fun z wx => ∃ (gs lo hi : Nat) (oa : Option Addr) (oc : Nat), z = .pointer (some ⟨gs, 0, none⟩) ∧ wy.heap.size ≤ gs ∧ gs < wx.heap.size ∧ Cls wx gs #[.slice oa (L A).length oc, .slice none 0 0, .int .i64 E, .bool true] 41 ∧ Own wx lo hi oa oc (L A) ∧ wy.heap.size ≤ lo ∧ hi ≤ wx.heap.size ∧ (hi ≤ gs ∨ gs < lo) ∧ Below wy.heap.size wy wx)
  case first =>
    have A0 : Below wy.heap.size wy wy.drew := (Below.refl _ _).drew
    have A1 : Below wy.heap.size wy (wy.alloc (.cells #[.slice none 0 0, .slice none 0 0, .int .i64 0, .bool false] 41)).drew := ((Below.refl _ _).alloc (Nat.le_refl _) _).drew
    have A2 : Below wy.heap.size wy (wy.drew.alloc (.cells #[.slice none 0 0, .slice none 0 0, .int .i64 0, .bool false] 41)) := ((Below.refl wy.heap.size wy).drew).alloc (Nat.le_refl _) _
    have KB : ∀ v, Below wy.heap.size wy v → (fun v => v.cell? ⟨w.heap.size, 4, none⟩ = some (.int .i64 E)) v := fun v hv => (hP.below hv).cell 4 rfl
    have z1 : Cls (wy.alloc (.cells #[.slice none 0 0, .slice none 0 0, .int .i64 0, .bool false] 41)).drew wy.heap.size #[.slice none 0 0, .slice none 0 0, .int .i64 0, .bool false] 41 := (Cls.new wy _ _).below (Below.refl _ _).drew
    have z2 : Cls (wy.drew.alloc (.cells #[.slice none 0 0, .slice none 0 0, .int .i64 0, .bool false] 41)) wy.heap.size #[.slice none 0 0, .slice none 0 0, .int .i64 0, .bool false] 41 := Cls.new wy.drew _ _
    have d4 := hP.cell 4 rfl
    go_region_held3 (fun v => v.cell? ⟨w.heap.size, 4, none⟩ = some (.int .i64 E)) (first | with_reducible exact KB _ hb1 | with_reducible exact KB _ A0 | with_reducible exact KB _ A1 | with_reducible exact KB _ A2 | with_reducible exact KB _ (hb1.alloc hb1.size _) | with_reducible exact KB _ (set4b hb1 (Nat.le_refl _) _ _ _ _))
      (first | (go_at_call 41; refine (kM wy.drew a1 a2 c1 c2 (r1.below A0) (r2.below A0)).mono ?_; rintro e u1 ⟨oa, oc, rfl, ho, hb0⟩; have hb1 := keepC1 (w1 := wy) A0 hb0; have hz := hb0) | (go_at_call 41; refine (kM _ a1 a2 c1 c2 (r1.below A1) (r2.below A1)).mono ?_; rintro e u1 ⟨oa, oc, rfl, ho, hb0⟩; have hb1 := keepC1 (w1 := wy) A1 hb0; have hz := z1.below hb0; have e0 := hz.cell 0 rfl; have e1 := hz.cell 1 rfl; have e2 := hz.cell 2 rfl; have e3 := hz.cell 3 rfl; have g0 := hz.frozen 0; have g1 := hz.frozen 1; have g2 := hz.frozen 2; have g3 := hz.frozen 3) | (go_at_call 41; refine (kM _ a1 a2 c1 c2 (r1.below A2) (r2.below A2)).mono ?_; rintro e u1 ⟨oa, oc, rfl, ho, hb0⟩; have hb1 := keepC1 (w1 := wy) A2 hb0; have hz := z2.below hb0; have e0 := hz.cell 0 rfl; have e1 := hz.cell 1 rfl; have e2 := hz.cell 2 rfl; have e3 := hz.cell 3 rfl; have g0 := hz.frozen 0; have g1 := hz.frozen 1; have g2 := hz.frozen 2; have g3 := hz.frozen 3))
    all_goals go_wp2_with fail
    all_goals go_meet
    · exact ⟨u1.heap.size, wy.heap.size, u1.heap.size, oa, oc, rfl, hb1.size, by simp, Cls.new u1 _ _, ((Own.of ho).wide (Nat.le_refl _) (Nat.le_refl _)).keep ((Below.refl _ _).alloc (Nat.le_refl _) _), Nat.le_refl _, by simp, .inl (Nat.le_refl _), hb1.alloc hb1.size _⟩
    · have lz := hz.lt
      exact ⟨wy.heap.size, wy.heap.size + 1, u1.heap.size, oa, oc, rfl, Nat.le_refl _, by simpa using lz, Cls.set (Cls.set (Cls.set (Cls.set hz 0 (.slice oa (L A).length oc) _ rfl) 1 (.slice none 0 0) _ rfl) 2 (.int .i64 E) _ rfl) 3 (.bool true) #[.slice oa (L A).length oc, .slice none 0 0, .int .i64 E, .bool true] rfl, Own.set4 ((Own.of ho).wide (by simp) (Nat.le_refl _)) (.inr (Nat.lt_succ_self _)) _ _ _ _, Nat.le_succ _, by simp, .inr (Nat.lt_succ_self _), set4b hb1 (Nat.le_refl _) _ _ _ _⟩
  case rest =>
  obtain ⟨gs, lo, hi, oa, oc, rfl, lg, lg2, hG, ho, l1, l2, hd, hbx⟩ := hcut
  replace hR := hR.below hbx
  replace hP := hP.below hbx
  replace r1 := r1.below hbx
  replace r2 := r2.below hbx
  replace b0 := b0.below hbx b0.size
  clear hbx kM
  rename World => wv
  have l3 := hR.lt
  have d5 := hP.cell 5 rfl
  cases x
  · replace HT : Tv = T + 1 := by simpa using HT.out
    subst HT
    have A3 : Below wv.heap.size wv (wv.alloc (.cells #[.int .u64 1] 25)) := (Below.refl _ _).alloc (Nat.le_refl _) _
    go_wp2_with fail
    refine (kA _ a2 _ c2 _ (r2.below A3) (one_rds wv _)).mono ?_
    rintro e u2 ⟨a3, c3, rfl, ho3, hb3⟩
    have r3 := Rd.own ho3
    have hbx : Below wv.heap.size wv u2 := A3.trans (hb3.mono A3.size)
    clear ho3 hb3 A3 kA r2
    replace r1 := r1.below hbx
    replace hR := hR.below hbx
    replace hG := hG.below hbx
    replace ho := ho.keep hbx
    replace b0 := b0.below hbx b0.size
    have l4 := hbx.size
    clear hbx d5 hP
    go_wp2_with fail
    refine (kN _ a1 a3 c1 c3 r1 r3).mono ?_
    rintro e u3 ⟨ob, od, rfl, hob, hb3⟩
    replace hR := hR.below hb3
    replace hG := hG.below hb3
    replace ho := ho.keep hb3
    replace b0 := b0.below hb3 b0.size
    have l5 := hb3.size
    have hoB := Own.of hob
    clear hb3 hob r1 r3 kN
    have q0 := hG.cell 0 rfl
    have q1 := hG.cell 1 rfl
    have q2 := hG.cell 2 rfl
    have q3 := hG.cell 3 rfl
    have f1 := hG.frozen 1
    go_upto_region 8 with fail
    clear q0 q1 q2 q3 f1
    replace hG := hG.set 1 (.slice ob (L Bv).length od) #[.slice oa (L A).length oc, .slice ob (L Bv).length od, .int .i64 E, .bool true] rfl
    replace hR := hR.far ⟨gs, 1, none⟩ (by simp only; omega) (.slice ob (L Bv).length od)
    replace b0 := b0.set gs 1 (.slice ob (L Bv).length od) (by omega)
    replace ho := ho.grown (grown1s _ gs 1 (.slice ob (L Bv).length od)) (fun k h1 h2 e => by injection e; omega)
    replace hoB := hoB.grown (grown1s _ gs 1 (.slice ob (L Bv).length od)) (fun k h1 h2 e => by injection e; omega)
    have lz : u3.heap.size = (u3.setCell ⟨gs, 1, none⟩ (.slice ob (L Bv).length od)).heap.size := by simp
    rw [lz] at hoB l5
    clear lz
    generalize u3.setCell ⟨gs, 1, none⟩ (.slice ob (L Bv).length od) = u4 at *
    have q0 := hG.cell 0 rfl
    have q1 := hG.cell 1 rfl
    have q2 := hG.cell 2 rfl
    have q3 := hG.cell 3 rfl
    have r0 := hR.cell 0 rfl
    have s0 := hR.frozen 0
    have r1 := hR.cell 1 rfl
    have s1 := hR.frozen 1
    have r2 := hR.cell 2 rfl
    have s2 := hR.frozen 2
    have r3 := hR.cell 3 rfl
    have s3 := hR.frozen 3
    go_wp2_with fail
    have R5 := Cls.set (Cls.set (Cls.set (Cls.set hR 0 (.slice oa (L A).length oc) _ rfl) 1 (.slice ob (L Bv).length od) _ rfl) 2 (.int .i64 E) _ rfl) 3 (.bool true) #[.slice oa (L A).length oc, .slice ob (L Bv).length od, .int .i64 E, .bool true] rfl
    have B5 := (((b0.set (w.heap.size + 1) 0 (.slice oa (L A).length oc) (by omega)).set (w.heap.size + 1) 1 (.slice ob (L Bv).length od) (by omega)).set (w.heap.size + 1) 2 (.int .i64 E) (by omega)).set (w.heap.size + 1) 3 (.bool true) (by omega)
    have O1 := Own.set4 (g := w.heap.size + 1) ho (.inr (by omega)) (.slice oa (L A).length oc) (.slice ob (L Bv).length od) (.int .i64 E) (.bool true)
    have O2 := Own.set4 (g := w.heap.size + 1) hoB (.inr (by omega)) (.slice oa (L A).length oc) (.slice ob (L Bv).length od) (.int .i64 E) (.bool true)
    have lz : u4.heap.size = ((((u4.setCell ⟨w.heap.size + 1, 0, none⟩ (.slice oa (L A).length oc)).setCell ⟨w.heap.size + 1, 1, none⟩ (.slice ob (L Bv).length od)).setCell ⟨w.heap.size + 1, 2, none⟩ (.int .i64 E)).setCell ⟨w.heap.size + 1, 3, none⟩ (.bool true)).heap.size := by simp
    generalize ((((u4.setCell ⟨w.heap.size + 1, 0, none⟩ (.slice oa (L A).length oc)).setCell ⟨w.heap.size + 1, 1, none⟩ (.slice ob (L Bv).length od)).setCell ⟨w.heap.size + 1, 2, none⟩ (.int .i64 E)).setCell ⟨w.heap.size + 1, 3, none⟩ (.bool true)) = Yw at R5 B5 O1 O2 lz ⊢
    have p0 := R5.cell 0 rfl
    have p1 := R5.cell 1 rfl
    have p2 := R5.cell 2 rfl
    have p3 := R5.cell 3 rfl
    exact bodyPost_ret (v := .agg #[.slice oa (L A).length oc, .slice ob (L Bv).length od, .int .i64 E, .bool true]) (by simp [results, Try.results49, go_sem, p0, p1, p2, p3]) rfl ⟨oa, oc, ob, od, u2.heap.size, rfl, by omega, by omega, O1.wide (by omega) (by omega), O2.wide (Nat.le_refl _) (by omega), B5⟩
  · replace HT : Tv = T := by simpa using HT.out
    subst HT
    clear kA
    go_upto_region 7 with fail
    clear d5 hP
    go_wp2_with fail
    refine (kN _ a1 a2 c1 c2 r1 r2).mono ?_
    rintro e u3 ⟨ob, od, rfl, hob, hb3⟩
    replace hR := hR.below hb3
    replace hG := hG.below hb3
    replace ho := ho.keep hb3
    replace b0 := b0.below hb3 b0.size
    have l5 := hb3.size
    have hoB := Own.of hob
    clear hb3 hob r1 r2 kN
    have q0 := hG.cell 0 rfl
    have q1 := hG.cell 1 rfl
    have q2 := hG.cell 2 rfl
    have q3 := hG.cell 3 rfl
    have f1 := hG.frozen 1
    go_upto_region 8 with fail
    clear q0 q1 q2 q3 f1
    replace hG := hG.set 1 (.slice ob (L Bv).length od) #[.slice oa (L A).length oc, .slice ob (L Bv).length od, .int .i64 E, .bool true] rfl
    replace hR := hR.far ⟨gs, 1, none⟩ (by simp only; omega) (.slice ob (L Bv).length od)
    replace b0 := b0.set gs 1 (.slice ob (L Bv).length od) (by omega)
    replace ho := ho.grown (grown1s _ gs 1 (.slice ob (L Bv).length od)) (fun k h1 h2 e => by injection e; omega)
    replace hoB := hoB.grown (grown1s _ gs 1 (.slice ob (L Bv).length od)) (fun k h1 h2 e => by injection e; omega)
    have lz : u3.heap.size = (u3.setCell ⟨gs, 1, none⟩ (.slice ob (L Bv).length od)).heap.size := by simp
    rw [lz] at hoB l5
    clear lz
    generalize u3.setCell ⟨gs, 1, none⟩ (.slice ob (L Bv).length od) = u4 at *
    have q0 := hG.cell 0 rfl
    have q1 := hG.cell 1 rfl
    have q2 := hG.cell 2 rfl
    have q3 := hG.cell 3 rfl
    have r0 := hR.cell 0 rfl
    have s0 := hR.frozen 0
    have r1 := hR.cell 1 rfl
    have s1 := hR.frozen 1
    have r2 := hR.cell 2 rfl
    have s2 := hR.frozen 2
    have r3 := hR.cell 3 rfl
    have s3 := hR.frozen 3
    go_wp2_with fail
    have R5 := Cls.set (Cls.set (Cls.set (Cls.set hR 0 (.slice oa (L A).length oc) _ rfl) 1 (.slice ob (L Bv).length od) _ rfl) 2 (.int .i64 E) _ rfl) 3 (.bool true) #[.slice oa (L A).length oc, .slice ob (L Bv).length od, .int .i64 E, .bool true] rfl
    have B5 := (((b0.set (w.heap.size + 1) 0 (.slice oa (L A).length oc) (by omega)).set (w.heap.size + 1) 1 (.slice ob (L Bv).length od) (by omega)).set (w.heap.size + 1) 2 (.int .i64 E) (by omega)).set (w.heap.size + 1) 3 (.bool true) (by omega)
    have O1 := Own.set4 (g := w.heap.size + 1) ho (.inr (by omega)) (.slice oa (L A).length oc) (.slice ob (L Bv).length od) (.int .i64 E) (.bool true)
    have O2 := Own.set4 (g := w.heap.size + 1) hoB (.inr (by omega)) (.slice oa (L A).length oc) (.slice ob (L Bv).length od) (.int .i64 E) (.bool true)
    have lz : u4.heap.size = ((((u4.setCell ⟨w.heap.size + 1, 0, none⟩ (.slice oa (L A).length oc)).setCell ⟨w.heap.size + 1, 1, none⟩ (.slice ob (L Bv).length od)).setCell ⟨w.heap.size + 1, 2, none⟩ (.int .i64 E)).setCell ⟨w.heap.size + 1, 3, none⟩ (.bool true)).heap.size := by simp
    generalize ((((u4.setCell ⟨w.heap.size + 1, 0, none⟩ (.slice oa (L A).length oc)).setCell ⟨w.heap.size + 1, 1, none⟩ (.slice ob (L Bv).length od)).setCell ⟨w.heap.size + 1, 2, none⟩ (.int .i64 E)).setCell ⟨w.heap.size + 1, 3, none⟩ (.bool true)) = Yw at R5 B5 O1 O2 lz ⊢
    have p0 := R5.cell 0 rfl
    have p1 := R5.cell 1 rfl
    have p2 := R5.cell 2 rfl
    have p3 := R5.cell 3 rfl
    exact bodyPost_ret (v := .agg #[.slice oa (L A).length oc, .slice ob (L Bv).length od, .int .i64 E, .bool true]) (by simp [results, Try.results49, go_sem, p0, p1, p2, p3]) rfl ⟨oa, oc, ob, od, wv.heap.size, rfl, by omega, by omega, O1.wide (by omega) (by omega), O2.wide (Nat.le_refl _) (by omega), B5⟩

end Go.Proofs.Ytehplfmnipadmae

namespace Go.Proofs.Ytehplfmnipadmae
open Go.RowKit Go.Maps
set_option linter.unusedVariables false
set_option maxRecDepth 100000

theorem Sx.zero {tb bm : Nat} {w w' : World} {e : Ending} (h : e = .returned (.agg #[.slice none 0 0, .slice none 0 0, .int .i64 0, .bool false]) ∧ T2 tb bm w w') : Sx tb bm w w' e [] [] 0 false :=
  ⟨none, 0, none, 0, w.heap.size, h.1, Nat.le_refl _, h.2.size, Own.nil _ _ _, Own.nil _ _ _, h.2⟩

theorem Sw.zero {w w' : World} {e : Ending} (h : e = .returned (.agg #[.slice none 0 0, .slice none 0 0, .int .i64 0, .bool false]) ∧ Below w.heap.size w w') : Sw w w' e [] [] 0 false :=
  ⟨none, 0, none, 0, w.heap.size, h.1, Nat.le_refl _, h.2.size, Own.nil _ _ _, Own.nil _ _ _, h.2⟩

set_option maxRecDepth 100000 in
set_option maxHeartbeats 4000000 in
theorem iScale_key (d : Nat) (k W : Int) (T : Nat) (E : Int) (x ok : Bool) (xs ys : List Nat) (q : Int) (y : Bool) (w : World)
    (kS : ∀ (w : World) (tb bm : Nat), tb < w.heap.size → bm < w.heap.size → w.cell? ⟨tb, 0, none⟩ = some (.int .i32 0) → w.cell? ⟨tb, 2, none⟩ = some (.map (some bm)) → w.frozen? ⟨tb, 0, none⟩ = false → bm ≠ tb → w.ownsMap Try.prog 85 Rz bm 0 (.map []) → Calls Try.prog 49 #[.pointer (some ⟨tb, 0, none⟩), .int .u64 (d : Int), .agg #[.int .i64 k, .int .i64 W, .int .u64 (M.hiN T : Int), .int .u64 (M.loN T : Int), .int .i64 E, .bool x, .bool ok]] w fun e w' => Sx tb bm w w' e xs ys q y) :
    Calls Try.prog 17 #[.int .u64 (d : Int), .agg #[.int .i64 k, .int .i64 W, .int .u64 (M.hiN T : Int), .int .u64 (M.loN T : Int), .int .i64 E, .bool x, .bool ok]] w fun e w' => Sw w w' e xs ys q y := by
  have b0 : Below w.heap.size w ((w.alloc (.cells #[.int .i64 k, .int .i64 W, .int .u64 (M.hiN T : Int), .int .u64 (M.loN T : Int), .int .i64 E, .bool x, .bool ok] 29)).alloc (.cells #[.slice none 0 0, .slice none 0 0, .int .i64 0, .bool false] 41)) := ((Below.refl _ _).alloc (Nat.le_refl _) _).alloc (by simp) _
  have hP : Cls ((w.alloc (.cells #[.int .i64 k, .int .i64 W, .int .u64 (M.hiN T : Int), .int .u64 (M.loN T : Int), .int .i64 E, .bool x, .bool ok] 29)).alloc (.cells #[.slice none 0 0, .slice none 0 0, .int .i64 0, .bool false] 41)) w.heap.size #[.int .i64 k, .int .i64 W, .int .u64 (M.hiN T : Int), .int .u64 (M.loN T : Int), .int .i64 E, .bool x, .bool ok] 29 := (Cls.new w _ _).below ((Below.refl _ _).alloc (Nat.le_refl _) _)
  have hR : Cls ((w.alloc (.cells #[.int .i64 k, .int .i64 W, .int .u64 (M.hiN T : Int), .int .u64 (M.loN T : Int), .int .i64 E, .bool x, .bool ok] 29)).alloc (.cells #[.slice none 0 0, .slice none 0 0, .int .i64 0, .bool false] 41)) (w.heap.size + 1) #[.slice none 0 0, .slice none 0 0, .int .i64 0, .bool false] 41 := by
    have := Cls.new (w.alloc (.cells #[.int .i64 k, .int .i64 W, .int .u64 (M.hiN T : Int), .int .u64 (M.loN T : Int), .int .i64 E, .bool x, .bool ok] 29)) #[.slice none 0 0, .slice none 0 0, .int .i64 0, .bool false] 41
    rwa [World.size_alloc] at this
  generalize hV : ((w.alloc (.cells #[.int .i64 k, .int .i64 W, .int .u64 (M.hiN T : Int), .int .u64 (M.loN T : Int), .int .i64 E, .bool x, .bool ok] 29)).alloc (.cells #[.slice none 0 0, .slice none 0 0, .int .i64 0, .bool false] 41)) = v0 at *
  obtain ⟨v1, hv1⟩ : ∃ v1, v1 = (v0.drew.alloc (.map #[] 0)).alloc (.cells #[.int .i32 0, .int .u32 0, .map (some v0.heap.size)] 83) := ⟨_, rfl⟩
  have b1 : Below v0.heap.size v0 v1 := by rw [hv1]; exact (((Below.refl v0.heap.size v0).drew).alloc (Nat.le_refl _) _).alloc (by simp) _
  have own1 : v1.ownsMap Try.prog 85 Rz v0.heap.size 0 (.map []) := by rw [hv1]; exact (World.ownsMap_made v0.drew Try.prog 85 Rz).alloc _
  have c0 : v1.cell? ⟨v0.heap.size + 1, 0, none⟩ = some (.int .i32 0) := by rw [hv1]; simp [go_sem]
  have c2 : v1.cell? ⟨v0.heap.size + 1, 2, none⟩ = some (.map (some v0.heap.size)) := by rw [hv1]; simp [go_sem]
  have f0 : v1.frozen? ⟨v0.heap.size + 1, 0, none⟩ = false := by rw [hv1]; simp [go_sem]
  have ls : v0.heap.size + 1 < v1.heap.size := by rw [hv1]; simp
  have kC := kS v1 (v0.heap.size + 1) v0.heap.size ls (by omega) c0 c2 f0 (by omega) own1
  have kN : Calls Try.prog 23 #[] v0.drew fun e w' => e = .returned (.pointer (some ⟨v0.heap.size + 1, 0, none⟩)) ∧ w' = v1 := by
    have := newTable_any v0.drew
    rw [hv1]
    exact this
  have KT : ∀ u2, T2 (v0.heap.size + 1) v0.heap.size v1 u2 → Below v0.heap.size v0 u2 := fun u hu => b1.trans (hu.under v0.heap.size (Nat.le_succ _) (Nat.le_refl _) b1.size)
  clear hv1 own1 c0 c2 f0 kS
  have lR := hR.lt
  go_enter Try.func17, Try.ntmps17
  go_upto_region 1 with fail
  clear hV
  have A0 : Below v0.heap.size v0 v0.drew := (Below.refl _ _).drew
  have z := hR.below b1
  have KB : ∀ v, Below v0.heap.size v0 v → (fun v => v.cell? ⟨w.heap.size, 0, none⟩ = some (.int .i64 k) ∧ v.cell? ⟨w.heap.size, 1, none⟩ = some (.int .i64 W) ∧ v.cell? ⟨w.heap.size, 2, none⟩ = some (.int .u64 (M.hiN T : Int)) ∧ v.cell? ⟨w.heap.size, 3, none⟩ = some (.int .u64 (M.loN T : Int)) ∧ v.cell? ⟨w.heap.size, 4, none⟩ = some (.int .i64 E) ∧ v.cell? ⟨w.heap.size, 5, none⟩ = some (.bool x) ∧ v.cell? ⟨w.heap.size, 6, none⟩ = some (.bool ok)) v := fun v hv => ⟨(hP.below hv).cell 0 rfl, (hP.below hv).cell 1 rfl, (hP.below hv).cell 2 rfl, (hP.below hv).cell 3 rfl, (hP.below hv).cell 4 rfl, (hP.below hv).cell 5 rfl, (hP.below hv).cell 6 rfl⟩
  have KF : ∀ u, Below v0.heap.size v0 u → ∀ a b c e : Value, (fun v => v.cell? ⟨w.heap.size, 0, none⟩ = some (.int .i64 k) ∧ v.cell? ⟨w.heap.size, 1, none⟩ = some (.int .i64 W) ∧ v.cell? ⟨w.heap.size, 2, none⟩ = some (.int .u64 (M.hiN T : Int)) ∧ v.cell? ⟨w.heap.size, 3, none⟩ = some (.int .u64 (M.loN T : Int)) ∧ v.cell? ⟨w.heap.size, 4, none⟩ = some (.int .i64 E) ∧ v.cell? ⟨w.heap.size, 5, none⟩ = some (.bool x) ∧ v.cell? ⟨w.heap.size, 6, none⟩ = some (.bool ok)) ((((u.setCell ⟨w.heap.size + 1, 0, none⟩ a).setCell ⟨w.heap.size + 1, 1, none⟩ b).setCell ⟨w.heap.size + 1, 2, none⟩ c).setCell ⟨w.heap.size + 1, 3, none⟩ e) := fun u hu a b c e => by
    have hv := (((((hP.below hu).far ⟨w.heap.size + 1, 0, none⟩ (by simp) a).far ⟨w.heap.size + 1, 1, none⟩ (by simp) b).far ⟨w.heap.size + 1, 2, none⟩ (by simp) c).far ⟨w.heap.size + 1, 3, none⟩ (by simp) e)
    exact ⟨hv.cell 0 rfl, hv.cell 1 rfl, hv.cell 2 rfl, hv.cell 3 rfl, hv.cell 4 rfl, hv.cell 5 rfl, hv.cell 6 rfl⟩
  go_region_held3 (fun v => v.cell? ⟨w.heap.size, 0, none⟩ = some (.int .i64 k) ∧ v.cell? ⟨w.heap.size, 1, none⟩ = some (.int .i64 W) ∧ v.cell? ⟨w.heap.size, 2, none⟩ = some (.int .u64 (M.hiN T : Int)) ∧ v.cell? ⟨w.heap.size, 3, none⟩ = some (.int .u64 (M.loN T : Int)) ∧ v.cell? ⟨w.heap.size, 4, none⟩ = some (.int .i64 E) ∧ v.cell? ⟨w.heap.size, 5, none⟩ = some (.bool x) ∧ v.cell? ⟨w.heap.size, 6, none⟩ = some (.bool ok)) (first | with_reducible exact KB _ hb2 | with_reducible exact KF _ hb2 _ _ _ _ | with_reducible exact KB _ b1 | with_reducible exact KB _ A0) (first | (go_at_call 23; refine kN.mono ?_; rintro e u1 ⟨rfl, rfl⟩) | (go_at_call 49; refine kC.mono ?_; rintro e u2 ⟨oa, oc, ob, od, m1, rfl, l1, l2, ho, hoB, ht⟩; have hb2 := KT _ ht; have hz := hR.below hb2; have e0 := hz.cell 0 rfl; have e1 := hz.cell 1 rfl; have e2 := hz.cell 2 rfl; have e3 := hz.cell 3 rfl; have g0 := hz.frozen 0; have g1 := hz.frozen 1; have g2 := hz.frozen 2; have g3 := hz.frozen 3))
  go_wp2_with fail
  have R5 := Cls.set (Cls.set (Cls.set (Cls.set hz 0 (.slice oa xs.length oc) _ rfl) 1 (.slice ob ys.length od) _ rfl) 2 (.int .i64 q) _ rfl) 3 (.bool y) #[.slice oa xs.length oc, .slice ob ys.length od, .int .i64 q, .bool y] rfl
  have B5 := set4b (g := w.heap.size + 1) (b0.trans (hb2.mono b0.size)) (Nat.le_succ _) (.slice oa xs.length oc) (.slice ob ys.length od) (.int .i64 q) (.bool y)
  have l3 := b1.size
  have O1 := Own.set4 (g := w.heap.size + 1) ho (.inr (by omega)) (.slice oa xs.length oc) (.slice ob ys.length od) (.int .i64 q) (.bool y)
  have O2 := Own.set4 (g := w.heap.size + 1) hoB (.inr (by omega)) (.slice oa xs.length oc) (.slice ob ys.length od) (.int .i64 q) (.bool y)
  have lz : u2.heap.size = ((((u2.setCell ⟨w.heap.size + 1, 0, none⟩ (.slice oa xs.length oc)).setCell ⟨w.heap.size + 1, 1, none⟩ (.slice ob ys.length od)).setCell ⟨w.heap.size + 1, 2, none⟩ (.int .i64 q)).setCell ⟨w.heap.size + 1, 3, none⟩ (.bool y)).heap.size := by simp
  generalize ((((u2.setCell ⟨w.heap.size + 1, 0, none⟩ (.slice oa xs.length oc)).setCell ⟨w.heap.size + 1, 1, none⟩ (.slice ob ys.length od)).setCell ⟨w.heap.size + 1, 2, none⟩ (.int .i64 q)).setCell ⟨w.heap.size + 1, 3, none⟩ (.bool y)) = Yw at R5 B5 O1 O2 lz ⊢
  have q0 := R5.cell 0 rfl
  have q1 := R5.cell 1 rfl
  have q2 := R5.cell 2 rfl
  have q3 := R5.cell 3 rfl
  have l4 := b0.size
  exact bodyPost_ret (v := .agg #[.slice oa xs.length oc, .slice ob ys.length od, .int .i64 q, .bool y]) (by simp [results, Try.results17, go_sem, q0, q1, q2, q3]) rfl ⟨oa, oc, ob, od, m1, rfl, by omega, by omega, O1.wide (by omega) (Nat.le_refl _), O2.wide (Nat.le_refl _) (by omega), B5⟩

theorem own_map_lt {v : World} {bm : Nat} (h : v.ownsMap Try.prog 85 Rz bm 0 (.map [])) : bm < v.heap.size := h.lt

theorem L_one4 : L 1 = [1] := by
  have h := M.len_of_lt (B := 18446744073709551616) (by omega) 1 1 (by omega)
  have h2 : V (L 1) = 1 := V_L 1
  match hL : L 1, h, h2 with
  | [], _, h2 => simp [V, M.val] at h2
  | [y], _, h2 => simp [V, M.val] at h2; rw [h2]
  | _ :: _ :: _, h, _ => unfold L at hL; rw [hL] at h; simp at h

/-- What the document asks of a scaled power. -/
def scOk (k W : Int) (T : Nat) (E : Int) (x ok : Bool) : Prop := ok = true ∧ tpv k W = pwv k W T E x true
def scN (T : Nat) (x : Bool) : Nat := if x then T else T + 1

theorem D_len4 (n m : Nat) (h : n < 4294967296 ^ m) : (D n).length ≤ m := M.len_of_lt (by omega) _ _ h
theorem L_len4 (n m : Nat) (h : n < 18446744073709551616 ^ m) : (L n).length ≤ m := M.len_of_lt (by omega) _ _ h

set_option maxHeartbeats 1000000 in
theorem sScale_good (d : Nat) (hd : d < 18446744073709551616) (k W : Int) (T : Nat) (hT : T < 2 ^ 128) (E : Int) (x : Bool) (h : tpv k W = pwv k W T E x true) (w : World) :
    Calls Try.prog 15 #[.int .u64 (d : Int), .agg #[.int .i64 k, .int .i64 W, .int .u64 (M.hiN T : Int), .int .u64 (M.loN T : Int), .int .i64 E, .bool x, .bool true]] w fun e w' => Sw w w' e (L (d * T)) (L (d * scN T x)) E true := by
  have kT := fun v : World => specTenPower_any k W v
  rw [h] at kT
  unfold pwv at kT
  have ld := D_len4 d 2 (by omega)
  have lT := D_len4 T 4 (by omega)
  have lT1 := D_len4 (T + 1) 5 (by omega)
  have l1 := D_len4 1 1 (by omega)
  have mx : ∀ y, y ≤ 2 ^ 128 → d * y < 4294967296 ^ 6 := fun y hy => Nat.lt_of_le_of_lt (Nat.mul_le_mul_left d hy) (by omega)
  refine sscale_eq d k W T E x w (d * T) (d * scN T x) kT (fun v => l1Of_any d v hd) (fun v => l1Of_any 1 v (by omega)) (fun v => l2Of_n T hT v) (fun v ao bo c e hr hr2 => l1Mul_any ao bo _ _ c e d T v rfl rfl (by omega) (by omega) hr hr2) (fun v ao bo c e hr hr2 => l1Add_any ao bo _ _ c e T 1 v rfl rfl (by omega) (by omega) hr hr2) (fun hx v ao bo c e hr hr2 => ?_) (fun hx => by rw [hx]; rfl) (fun v ao c hr => ?_) (fun v ao c hr => ?_)
  · rw [hx]
    exact l1Mul_any ao bo _ _ c e d (T + 1) v rfl rfl (by omega) (by omega) hr hr2
  · exact l1Out_any ao _ c (d * T) v rfl (Nat.le_trans (D_len4 _ 6 (mx _ (by omega))) (by omega)) hr
  · exact l1Out_any ao _ c (d * scN T x) v rfl (Nat.le_trans (D_len4 _ 6 (mx _ (by unfold scN; split <;> omega))) (by omega)) hr

set_option maxHeartbeats 1000000 in
theorem sScale_bad (d : Nat) (k W : Int) (T : Nat) (E : Int) (x ok : Bool) (h : ¬ scOk k W T E x ok) (w : World) :
    Calls Try.prog 15 #[.int .u64 (d : Int), .agg #[.int .i64 k, .int .i64 W, .int .u64 (M.hiN T : Int), .int .u64 (M.loN T : Int), .int .i64 E, .bool x, .bool ok]] w fun e w' => Sw w w' e [] [] 0 false := by
  cases ok with
  | false => exact (sscale_no d k W T E x w).mono fun e w' hh => Sw.zero hh
  | true =>
    have kT := fun v : World => specTenPower_any k W v
    obtain ⟨a, b, T', E', x', y', hv⟩ := tpv_shape k W
    have hne : ¬ (a = k ∧ b = W ∧ (M.hiN T' : Int) = (M.hiN T : Int) ∧ (M.loN T' : Int) = (M.loN T : Int) ∧ E' = E ∧ x' = x ∧ y' = true) := by
      rintro ⟨h0, h1, h2, h3, h4, h5, h6⟩
      refine h ⟨rfl, ?_⟩
      rw [hv]
      unfold pwv
      rw [h0, h1, h2, h3, h4, h5, h6]
    rw [hv] at kT
    unfold pwv at kT
    exact (sscale_ne d k W T E x w _ _ _ _ _ _ _ kT hne).mono fun e w' hh => Sw.zero hh

set_option maxHeartbeats 1000000 in
theorem iscaleT_bad (d : Nat) (k W : Int) (T : Nat) (E : Int) (x ok : Bool) (h : ¬ scOk k W T E x ok) (w : World) (tb bm : Nat) (ltb : tb < w.heap.size) (lbm : bm < w.heap.size) (c0 : w.cell? ⟨tb, 0, none⟩ = some (.int .i32 0)) (c2 : w.cell? ⟨tb, 2, none⟩ = some (.map (some bm))) (f0 : w.frozen? ⟨tb, 0, none⟩ = false) (hbt : bm ≠ tb) (hown : w.ownsMap Try.prog 85 Rz bm 0 (.map [])) :
    Calls Try.prog 49 #[.pointer (some ⟨tb, 0, none⟩), .int .u64 (d : Int), .agg #[.int .i64 k, .int .i64 W, .int .u64 (M.hiN T : Int), .int .u64 (M.loN T : Int), .int .i64 E, .bool x, .bool ok]] w fun e w' => Sx tb bm w w' e [] [] 0 false := by
  cases ok with
  | false => exact (iscale_no d k W T E x w tb bm ltb lbm c0 c2 f0 hbt hown).mono fun e w' hh => Sx.zero hh
  | true =>
    have kT := fun (v : World) (lv : bm < v.heap.size) => entry_any2 k W v tb bm lv
    obtain ⟨a, b, T', E', x', y', hv⟩ := tpv_shape k W
    have hne : ¬ (k = a ∧ W = b ∧ (M.hiN T : Int) = (M.hiN T' : Int) ∧ (M.loN T : Int) = (M.loN T' : Int) ∧ E = E' ∧ x = x' ∧ true = y') := by
      rintro ⟨h0, h1, h2, h3, h4, h5, h6⟩
      refine h ⟨rfl, ?_⟩
      rw [hv]
      unfold pwv
      rw [← h0, ← h1, ← h2, ← h3, ← h4, ← h5, ← h6]
    rw [hv] at kT
    unfold pwv at kT
    exact (iscale_ne d k W T E x w tb bm ltb lbm c0 c2 f0 hbt hown _ _ _ _ _ _ _ (fun v g0 g2 g3 g4 => kT v (own_map_lt g4) g0 g2 g3 hbt g4) hne).mono fun e w' hh => Sx.zero hh

set_option maxHeartbeats 1000000 in
theorem iscaleT_good (d : Nat) (hd : d < 18446744073709551616) (k W : Int) (T : Nat) (hT : T < 2 ^ 128) (E : Int) (x : Bool) (h : tpv k W = pwv k W T E x true) (w : World) (tb bm : Nat) (ltb : tb < w.heap.size) (lbm : bm < w.heap.size) (c0 : w.cell? ⟨tb, 0, none⟩ = some (.int .i32 0)) (c2 : w.cell? ⟨tb, 2, none⟩ = some (.map (some bm))) (f0 : w.frozen? ⟨tb, 0, none⟩ = false) (hbt : bm ≠ tb) (hown : w.ownsMap Try.prog 85 Rz bm 0 (.map [])) :
    Calls Try.prog 49 #[.pointer (some ⟨tb, 0, none⟩), .int .u64 (d : Int), .agg #[.int .i64 k, .int .i64 W, .int .u64 (M.hiN T : Int), .int .u64 (M.loN T : Int), .int .i64 E, .bool x, .bool true]] w fun e w' => Sx tb bm w w' e (L (d * T)) (L (d * scN T x)) E true := by
  have kT := fun (v : World) (lv : bm < v.heap.size) => entry_any2 k W v tb bm lv
  rw [h] at kT
  unfold pwv at kT
  have ld := L_len4 d 1 (by omega)
  have lT := L_len4 T 2 (by omega)
  have lT1 := L_len4 (T + 1) 3 (by omega)
  have e1 : L 1 = [1] := L_one4
  exact iscale_eq d hd k W T E x w tb bm ltb lbm c0 c2 f0 hbt hown (d * T) (d * scN T x) (fun v g0 g2 g3 g4 => kT v (own_map_lt g4) g0 g2 g3 hbt g4) (fun v => number_n T hT v) (fun v ao bo c e hr hr2 => mul_any ao bo _ _ c e d T v rfl rfl (by omega) (by omega) hr hr2) (fun v ao bo c e hr hr2 => add_any ao bo _ _ c e T 1 v rfl (by rw [e1]; rfl) (by omega) (by omega) hr (by rw [e1]; exact hr2)) (scN T x) rfl (fun v ao bo c e hr hr2 => mul_any ao bo _ _ c e d (scN T x) v rfl rfl (by omega) (by unfold scN; split <;> omega) hr hr2)

/-- The document's answer, for both sides. -/
theorem scale_both (d : Nat) (hd : d < 18446744073709551616) (k W : Int) (T : Nat) (hT : T < 2 ^ 128) (E : Int) (x ok : Bool) :
    ∃ (xs ys : List Nat) (q : Int) (y : Bool), xs.length ≤ 6 ∧ ys.length ≤ 6 ∧
      (∀ w : World, Calls Try.prog 15 #[.int .u64 (d : Int), .agg #[.int .i64 k, .int .i64 W, .int .u64 (M.hiN T : Int), .int .u64 (M.loN T : Int), .int .i64 E, .bool x, .bool ok]] w fun e w' => Sw w w' e xs ys q y) ∧
      (∀ w : World, Calls Try.prog 17 #[.int .u64 (d : Int), .agg #[.int .i64 k, .int .i64 W, .int .u64 (M.hiN T : Int), .int .u64 (M.loN T : Int), .int .i64 E, .bool x, .bool ok]] w fun e w' => Sw w w' e xs ys q y) := by
  by_cases h : scOk k W T E x ok
  · obtain ⟨rfl, h⟩ := h
    have mx : ∀ y, y ≤ 2 ^ 128 → d * y < 18446744073709551616 ^ 6 := fun y hy => Nat.lt_of_le_of_lt (Nat.mul_le_mul_left d hy) (by omega)
    exact ⟨L (d * T), L (d * scN T x), E, true, L_len4 _ 6 (mx _ (by omega)), L_len4 _ 6 (mx _ (by unfold scN; split <;> omega)), fun w => sScale_good d hd k W T hT E x h w, fun w => iScale_key d k W T E x true _ _ _ _ w (fun w tb bm a1 a2 a3 a4 a5 a6 a7 => iscaleT_good d hd k W T hT E x h w tb bm a1 a2 a3 a4 a5 a6 a7)⟩
  · exact ⟨[], [], 0, false, by simp, by simp, fun w => sScale_bad d k W T E x ok h w, fun w => iScale_key d k W T E x ok _ _ _ _ w (fun w tb bm a1 a2 a3 a4 a5 a6 a7 => iscaleT_bad d k W T E x ok h w tb bm a1 a2 a3 a4 a5 a6 a7)⟩

end Go.Proofs.Ytehplfmnipadmae

namespace Go.Proofs.Ytehplfmnipadmae
open Go.RowKit
set_option linter.unusedVariables false
set_option maxRecDepth 100000

set_option maxHeartbeats 1000000 in
theorem toWord_sc (a b : Int) (w : World) :
    Calls Try.prog 48 #[.agg #[.int .u64 a, .int .u64 b]] w fun e w' => e = .returned (.agg #[.int .u64 a, .int .u64 b]) ∧ Below w.heap.size w w' := by
  have b0 : Below w.heap.size w (((w.alloc (.cells #[.int .u64 a, .int .u64 b] 37)).alloc (.cells #[.int .u64 0, .int .u64 0] 27)).alloc (.cells #[.int .u64 0, .int .u64 0] 27)) := (((Below.refl _ _).alloc (Nat.le_refl _) _).alloc (by simp) _).alloc (by simp; omega) _
  have hA : Cls (((w.alloc (.cells #[.int .u64 a, .int .u64 b] 37)).alloc (.cells #[.int .u64 0, .int .u64 0] 27)).alloc (.cells #[.int .u64 0, .int .u64 0] 27)) w.heap.size #[.int .u64 a, .int .u64 b] 37 := ((Cls.new w _ _).below ((Below.refl _ _).alloc (Nat.le_refl _) _)).below ((Below.refl _ _).alloc (Nat.le_refl _) _)
  have hR : Cls (((w.alloc (.cells #[.int .u64 a, .int .u64 b] 37)).alloc (.cells #[.int .u64 0, .int .u64 0] 27)).alloc (.cells #[.int .u64 0, .int .u64 0] 27)) (w.heap.size + 1) #[.int .u64 0, .int .u64 0] 27 := by
    have := (Cls.new (w.alloc (.cells #[.int .u64 a, .int .u64 b] 37)) #[.int .u64 0, .int .u64 0] 27).below ((Below.refl _ _).alloc (Nat.le_refl _) (.cells #[.int .u64 0, .int .u64 0] 27))
    rwa [World.size_alloc] at this
  have hY : Cls (((w.alloc (.cells #[.int .u64 a, .int .u64 b] 37)).alloc (.cells #[.int .u64 0, .int .u64 0] 27)).alloc (.cells #[.int .u64 0, .int .u64 0] 27)) (w.heap.size + 1 + 1) #[.int .u64 0, .int .u64 0] 27 := by
    have := Cls.new ((w.alloc (.cells #[.int .u64 a, .int .u64 b] 37)).alloc (.cells #[.int .u64 0, .int .u64 0] 27)) #[.int .u64 0, .int .u64 0] 27
    rwa [World.size_alloc, World.size_alloc] at this
  generalize hV : (((w.alloc (.cells #[.int .u64 a, .int .u64 b] 37)).alloc (.cells #[.int .u64 0, .int .u64 0] 27)).alloc (.cells #[.int .u64 0, .int .u64 0] 27)) = v0 at *
  go_enter Try.func48, Try.ntmps48
  go_upto_region 2 with fail
  clear hV
  have a0 := hA.cell 0 rfl
  have a1 := hA.cell 1 rfl
  have y0 := hY.cell 0 rfl
  have y1 := hY.cell 1 rfl
  have f0 := hY.frozen 0
  have f1 := hY.frozen 1
  go_upto_region 4 with fail
  clear a0 a1 y0 y1 f0 f1
  replace hY := (hY.set 0 (.int .u64 a) _ rfl).set 1 (.int .u64 b) #[.int .u64 a, .int .u64 b] rfl
  replace hR := (hR.far ⟨w.heap.size + 1 + 1, 0, none⟩ (by simp only; omega) (.int .u64 a)).far ⟨w.heap.size + 1 + 1, 1, none⟩ (by simp only; omega) (.int .u64 b)
  replace b0 := (b0.setCell (p := ⟨w.heap.size + 1 + 1, 0, none⟩) (by simp only; omega) (.int .u64 a)).setCell (p := ⟨w.heap.size + 1 + 1, 1, none⟩) (by simp only; omega) (.int .u64 b)
  clear hA
  generalize ((v0.setCell ⟨w.heap.size + 1 + 1, 0, none⟩ (.int .u64 a)).setCell ⟨w.heap.size + 1 + 1, 1, none⟩ (.int .u64 b)) = v1 at *
  have y0 := hY.cell 0 rfl
  have y1 := hY.cell 1 rfl
  have r0 := hR.cell 0 rfl
  have r1 := hR.cell 1 rfl
  have s0 := hR.frozen 0
  have s1 := hR.frozen 1
  go_wp2_with fail
  have R5 := (hR.set 0 (.int .u64 a) _ rfl).set 1 (.int .u64 b) #[.int .u64 a, .int .u64 b] rfl
  have B5 := (b0.setCell (p := ⟨w.heap.size + 1, 0, none⟩) (by simp only; omega) (.int .u64 a)).setCell (p := ⟨w.heap.size + 1, 1, none⟩) (by simp only; omega) (.int .u64 b)
  generalize ((v1.setCell ⟨w.heap.size + 1, 0, none⟩ (.int .u64 a)).setCell ⟨w.heap.size + 1, 1, none⟩ (.int .u64 b)) = Yw at R5 B5 ⊢
  have q0 := R5.cell 0 rfl
  have q1 := R5.cell 1 rfl
  exact bodyPost_ret (v := .agg #[.int .u64 a, .int .u64 b]) (by simp [results, Try.results48, go_sem, q0, q1]) rfl ⟨rfl, B5⟩

set_option maxRecDepth 100000 in
set_option maxHeartbeats 2000000 in
theorem toPower_any (a b c d e : Int) (x y : Bool) (w : World) :
    Calls Try.prog 16 #[.agg #[.int .i64 a, .int .i64 b, .int .u64 c, .int .u64 d, .int .i64 e, .bool x, .bool y]] w fun r w' => r = .returned (.agg #[.int .i64 a, .int .i64 b, .int .u64 c, .int .u64 d, .int .i64 e, .bool x, .bool y]) ∧ Below w.heap.size w w' := by
  have b0 : Below w.heap.size w (((w.alloc (.cells #[.int .i64 a, .int .i64 b, .int .u64 c, .int .u64 d, .int .i64 e, .bool x, .bool y] 39)).alloc (.cells #[.int .i64 0, .int .i64 0, .int .u64 0, .int .u64 0, .int .i64 0, .bool false, .bool false] 29)).alloc (.cells #[.int .i64 0, .int .i64 0, .int .u64 0, .int .u64 0, .int .i64 0, .bool false, .bool false] 29)) := (((Below.refl _ _).alloc (Nat.le_refl _) _).alloc (by simp) _).alloc (by simp; omega) _
  have hA : Cls (((w.alloc (.cells #[.int .i64 a, .int .i64 b, .int .u64 c, .int .u64 d, .int .i64 e, .bool x, .bool y] 39)).alloc (.cells #[.int .i64 0, .int .i64 0, .int .u64 0, .int .u64 0, .int .i64 0, .bool false, .bool false] 29)).alloc (.cells #[.int .i64 0, .int .i64 0, .int .u64 0, .int .u64 0, .int .i64 0, .bool false, .bool false] 29)) w.heap.size #[.int .i64 a, .int .i64 b, .int .u64 c, .int .u64 d, .int .i64 e, .bool x, .bool y] 39 := ((Cls.new w _ _).below ((Below.refl _ _).alloc (Nat.le_refl _) _)).below ((Below.refl _ _).alloc (Nat.le_refl _) _)
  have hR : Cls (((w.alloc (.cells #[.int .i64 a, .int .i64 b, .int .u64 c, .int .u64 d, .int .i64 e, .bool x, .bool y] 39)).alloc (.cells #[.int .i64 0, .int .i64 0, .int .u64 0, .int .u64 0, .int .i64 0, .bool false, .bool false] 29)).alloc (.cells #[.int .i64 0, .int .i64 0, .int .u64 0, .int .u64 0, .int .i64 0, .bool false, .bool false] 29)) (w.heap.size + 1) #[.int .i64 0, .int .i64 0, .int .u64 0, .int .u64 0, .int .i64 0, .bool false, .bool false] 29 := by
    have := (Cls.new (w.alloc (.cells #[.int .i64 a, .int .i64 b, .int .u64 c, .int .u64 d, .int .i64 e, .bool x, .bool y] 39)) #[.int .i64 0, .int .i64 0, .int .u64 0, .int .u64 0, .int .i64 0, .bool false, .bool false] 29).below ((Below.refl _ _).alloc (Nat.le_refl _) (.cells #[.int .i64 0, .int .i64 0, .int .u64 0, .int .u64 0, .int .i64 0, .bool false, .bool false] 29))
    rwa [World.size_alloc] at this
  have hY : Cls (((w.alloc (.cells #[.int .i64 a, .int .i64 b, .int .u64 c, .int .u64 d, .int .i64 e, .bool x, .bool y] 39)).alloc (.cells #[.int .i64 0, .int .i64 0, .int .u64 0, .int .u64 0, .int .i64 0, .bool false, .bool false] 29)).alloc (.cells #[.int .i64 0, .int .i64 0, .int .u64 0, .int .u64 0, .int .i64 0, .bool false, .bool false] 29)) (w.heap.size + 1 + 1) #[.int .i64 0, .int .i64 0, .int .u64 0, .int .u64 0, .int .i64 0, .bool false, .bool false] 29 := by
    have := Cls.new ((w.alloc (.cells #[.int .i64 a, .int .i64 b, .int .u64 c, .int .u64 d, .int .i64 e, .bool x, .bool y] 39)).alloc (.cells #[.int .i64 0, .int .i64 0, .int .u64 0, .int .u64 0, .int .i64 0, .bool false, .bool false] 29)) #[.int .i64 0, .int .i64 0, .int .u64 0, .int .u64 0, .int .i64 0, .bool false, .bool false] 29
    rwa [World.size_alloc, World.size_alloc] at this
  generalize hV : (((w.alloc (.cells #[.int .i64 a, .int .i64 b, .int .u64 c, .int .u64 d, .int .i64 e, .bool x, .bool y] 39)).alloc (.cells #[.int .i64 0, .int .i64 0, .int .u64 0, .int .u64 0, .int .i64 0, .bool false, .bool false] 29)).alloc (.cells #[.int .i64 0, .int .i64 0, .int .u64 0, .int .u64 0, .int .i64 0, .bool false, .bool false] 29)) = v0 at *
  go_enter Try.func16, Try.ntmps16
  go_upto_region 2 with fail
  clear hV
  have a0 := hA.cell 0 rfl
  have a1 := hA.cell 1 rfl
  have y0 := hY.cell 0 rfl
  have yf0 := hY.frozen 0
  have y1 := hY.cell 1 rfl
  have yf1 := hY.frozen 1
  go_upto_region 4 with fail
  clear a0 a1
  clear y0 yf0 y1 yf1
  replace hY := ((hY).set 0 (.int .i64 a) _ rfl).set 1 (.int .i64 b) #[.int .i64 a, .int .i64 b, .int .u64 0, .int .u64 0, .int .i64 0, .bool false, .bool false] rfl
  replace hR := ((hR).far ⟨w.heap.size + 1 + 1, 0, none⟩ (by simp only; omega) (.int .i64 a)).far ⟨w.heap.size + 1 + 1, 1, none⟩ (by simp only; omega) (.int .i64 b)
  replace hA := ((hA).far ⟨w.heap.size + 1 + 1, 0, none⟩ (by simp only; omega) (.int .i64 a)).far ⟨w.heap.size + 1 + 1, 1, none⟩ (by simp only; omega) (.int .i64 b)
  replace b0 := ((b0).setCell (p := ⟨w.heap.size + 1 + 1, 0, none⟩) (by simp only; omega) (.int .i64 a)).setCell (p := ⟨w.heap.size + 1 + 1, 1, none⟩) (by simp only; omega) (.int .i64 b)
  generalize ((v0.setCell ⟨w.heap.size + 1 + 1, 0, none⟩ (.int .i64 a)).setCell ⟨w.heap.size + 1 + 1, 1, none⟩ (.int .i64 b)) = v1 at *
  have a2 := hA.cell 2 rfl
  have a3 := hA.cell 3 rfl
  go_wp2_with fail
  refine (toWord_sc c d _).mono ?_
  rintro r v2 ⟨rfl, hb2⟩
  replace hA := hA.below hb2
  replace hR := hR.below hb2
  replace hY := hY.below hb2
  replace b0 := b0.trans (hb2.mono b0.size)
  clear hb2
  clear a2 a3
  have y2 := hY.cell 2 rfl
  have yf2 := hY.frozen 2
  have y3 := hY.cell 3 rfl
  have yf3 := hY.frozen 3
  go_upto_region 5 with fail
  clear y2 yf2 y3 yf3
  replace hY := ((hY).set 2 (.int .u64 c) _ rfl).set 3 (.int .u64 d) #[.int .i64 a, .int .i64 b, .int .u64 c, .int .u64 d, .int .i64 0, .bool false, .bool false] rfl
  replace hR := ((hR).far ⟨w.heap.size + 1 + 1, 2, none⟩ (by simp only; omega) (.int .u64 c)).far ⟨w.heap.size + 1 + 1, 3, none⟩ (by simp only; omega) (.int .u64 d)
  replace hA := ((hA).far ⟨w.heap.size + 1 + 1, 2, none⟩ (by simp only; omega) (.int .u64 c)).far ⟨w.heap.size + 1 + 1, 3, none⟩ (by simp only; omega) (.int .u64 d)
  replace b0 := ((b0).setCell (p := ⟨w.heap.size + 1 + 1, 2, none⟩) (by simp only; omega) (.int .u64 c)).setCell (p := ⟨w.heap.size + 1 + 1, 3, none⟩) (by simp only; omega) (.int .u64 d)
  generalize ((v2.setCell ⟨w.heap.size + 1 + 1, 2, none⟩ (.int .u64 c)).setCell ⟨w.heap.size + 1 + 1, 3, none⟩ (.int .u64 d)) = v3 at *
  have a4 := hA.cell 4 rfl
  have a5 := hA.cell 5 rfl
  have a6 := hA.cell 6 rfl
  have y4 := hY.cell 4 rfl
  have yf4 := hY.frozen 4
  have y5 := hY.cell 5 rfl
  have yf5 := hY.frozen 5
  have y6 := hY.cell 6 rfl
  have yf6 := hY.frozen 6
  go_upto_region 8 with fail
  clear a4 a5 a6
  clear y4 yf4 y5 yf5 y6 yf6
  replace hY := (((hY).set 4 (.int .i64 e) _ rfl).set 5 (.bool x) _ rfl).set 6 (.bool y) #[.int .i64 a, .int .i64 b, .int .u64 c, .int .u64 d, .int .i64 e, .bool x, .bool y] rfl
  replace hR := (((hR).far ⟨w.heap.size + 1 + 1, 4, none⟩ (by simp only; omega) (.int .i64 e)).far ⟨w.heap.size + 1 + 1, 5, none⟩ (by simp only; omega) (.bool x)).far ⟨w.heap.size + 1 + 1, 6, none⟩ (by simp only; omega) (.bool y)
  replace b0 := (((b0).setCell (p := ⟨w.heap.size + 1 + 1, 4, none⟩) (by simp only; omega) (.int .i64 e)).setCell (p := ⟨w.heap.size + 1 + 1, 5, none⟩) (by simp only; omega) (.bool x)).setCell (p := ⟨w.heap.size + 1 + 1, 6, none⟩) (by simp only; omega) (.bool y)
  clear hA
  generalize (((v3.setCell ⟨w.heap.size + 1 + 1, 4, none⟩ (.int .i64 e)).setCell ⟨w.heap.size + 1 + 1, 5, none⟩ (.bool x)).setCell ⟨w.heap.size + 1 + 1, 6, none⟩ (.bool y)) = v4 at *
  have y0 := hY.cell 0 rfl
  have y1 := hY.cell 1 rfl
  have y2 := hY.cell 2 rfl
  have y3 := hY.cell 3 rfl
  have y4 := hY.cell 4 rfl
  have y5 := hY.cell 5 rfl
  have y6 := hY.cell 6 rfl
  have r0 := hR.cell 0 rfl
  have rf0 := hR.frozen 0
  have r1 := hR.cell 1 rfl
  have rf1 := hR.frozen 1
  have r2 := hR.cell 2 rfl
  have rf2 := hR.frozen 2
  have r3 := hR.cell 3 rfl
  have rf3 := hR.frozen 3
  have r4 := hR.cell 4 rfl
  have rf4 := hR.frozen 4
  have r5 := hR.cell 5 rfl
  have rf5 := hR.frozen 5
  have r6 := hR.cell 6 rfl
  have rf6 := hR.frozen 6
  go_wp2_with fail
  have R5 := (((((((hR).set 0 (.int .i64 a) _ rfl).set 1 (.int .i64 b) _ rfl).set 2 (.int .u64 c) _ rfl).set 3 (.int .u64 d) _ rfl).set 4 (.int .i64 e) _ rfl).set 5 (.bool x) _ rfl).set 6 (.bool y) #[.int .i64 a, .int .i64 b, .int .u64 c, .int .u64 d, .int .i64 e, .bool x, .bool y] rfl
  have B5 := (((((((b0).setCell (p := ⟨w.heap.size + 1, 0, none⟩) (by simp only; omega) (.int .i64 a)).setCell (p := ⟨w.heap.size + 1, 1, none⟩) (by simp only; omega) (.int .i64 b)).setCell (p := ⟨w.heap.size + 1, 2, none⟩) (by simp only; omega) (.int .u64 c)).setCell (p := ⟨w.heap.size + 1, 3, none⟩) (by simp only; omega) (.int .u64 d)).setCell (p := ⟨w.heap.size + 1, 4, none⟩) (by simp only; omega) (.int .i64 e)).setCell (p := ⟨w.heap.size + 1, 5, none⟩) (by simp only; omega) (.bool x)).setCell (p := ⟨w.heap.size + 1, 6, none⟩) (by simp only; omega) (.bool y)
  generalize (((((((v4.setCell ⟨w.heap.size + 1, 0, none⟩ (.int .i64 a)).setCell ⟨w.heap.size + 1, 1, none⟩ (.int .i64 b)).setCell ⟨w.heap.size + 1, 2, none⟩ (.int .u64 c)).setCell ⟨w.heap.size + 1, 3, none⟩ (.int .u64 d)).setCell ⟨w.heap.size + 1, 4, none⟩ (.int .i64 e)).setCell ⟨w.heap.size + 1, 5, none⟩ (.bool x)).setCell ⟨w.heap.size + 1, 6, none⟩ (.bool y)) = Yw at R5 B5 ⊢
  have q0 := R5.cell 0 rfl
  have q1 := R5.cell 1 rfl
  have q2 := R5.cell 2 rfl
  have q3 := R5.cell 3 rfl
  have q4 := R5.cell 4 rfl
  have q5 := R5.cell 5 rfl
  have q6 := R5.cell 6 rfl
  exact bodyPost_ret (v := .agg #[.int .i64 a, .int .i64 b, .int .u64 c, .int .u64 d, .int .i64 e, .bool x, .bool y]) (by simp [results, Try.results16, go_sem, q0, q1, q2, q3, q4, q5, q6]) rfl ⟨rfl, B5⟩

end Go.Proofs.Ytehplfmnipadmae

namespace Go.Proofs.Ytehplfmnipadmae
open Go.RowKit
set_option linter.unusedVariables false
set_option maxRecDepth 100000

theorem Own.under4 {v v' : World} {B lo hi : Nat} {ao : Option Addr} {cap : Nat} {r : List Nat} (h : Own v lo hi ao cap r) (hb : Below B v v') (hh : hi ≤ B) : Own v' lo hi ao cap r := by
  refine ⟨⟨h.row.1, ?_⟩, h.place⟩
  rcases h.row.2 with h' | ⟨g, cap', cur, e, hg, hq, r⟩
  · exact .inl h'
  · exact .inr ⟨g, cap', cur, e, hg, by rw [hb.block g (by have := (h.place g (by rw [e]; rfl)).2; omega)]; exact hq, r⟩

set_option maxRecDepth 100000 in
set_option maxHeartbeats 4000000 in
theorem lawScKey (d k W a b E : Int) (x ok : Bool) (xs ys : List Nat) (q : Int) (y : Bool) (w : World) (h1 : xs.length ≤ 6) (h2 : ys.length ≤ 6)
    (hS : ∀ v : World, Calls Try.prog 15 #[.int .u64 d, .agg #[.int .i64 k, .int .i64 W, .int .u64 a, .int .u64 b, .int .i64 E, .bool x, .bool ok]] v fun e w' => Sw v w' e xs ys q y)
    (hI : ∀ v : World, Calls Try.prog 17 #[.int .u64 d, .agg #[.int .i64 k, .int .i64 W, .int .u64 a, .int .u64 b, .int .i64 E, .bool x, .bool ok]] v fun e w' => Sw v w' e xs ys q y) :
    Calls Try.prog 4 #[.int .u64 d, .agg #[.int .i64 k, .int .i64 W, .int .u64 a, .int .u64 b, .int .i64 E, .bool x, .bool ok]] w fun e w' => e = .returned (.bool true) ∧ Below w.heap.size w w' := by
  have b0 := (Below.refl w.heap.size w).alloc (Nat.le_refl _) (.cells #[.int .i64 k, .int .i64 W, .int .u64 a, .int .u64 b, .int .i64 E, .bool x, .bool ok] 39)
  have hX : Cls (w.alloc (.cells #[.int .i64 k, .int .i64 W, .int .u64 a, .int .u64 b, .int .i64 E, .bool x, .bool ok] 39)) w.heap.size #[.int .i64 k, .int .i64 W, .int .u64 a, .int .u64 b, .int .i64 E, .bool x, .bool ok] 39 := Cls.new _ _ _
  generalize hV : w.alloc (.cells #[.int .i64 k, .int .i64 W, .int .u64 a, .int .u64 b, .int .i64 E, .bool x, .bool ok] 39) = v0 at *
  go_enter Try.func4, Try.ntmps4
  go_upto_region 1 with fail
  clear hV
  have x0 := hX.cell 0 rfl
  have x1 := hX.cell 1 rfl
  have x2 := hX.cell 2 rfl
  have x3 := hX.cell 3 rfl
  have x4 := hX.cell 4 rfl
  have x5 := hX.cell 5 rfl
  have x6 := hX.cell 6 rfl
  go_wp2_with fail
  refine (toPower_any k W a b E x ok _).mono ?_
  rintro e v1 ⟨rfl, hb⟩
  replace hX := hX.below hb
  replace b0 := b0.trans (hb.mono b0.size)
  clear hb x0 x1 x2 x3 x4 x5 x6
  go_wp2_with fail
  refine (hS _).mono ?_
  rintro e v2 ⟨wa, wca, wb, wcb, wm1, rfl, wg1, wg2, oWa, oWb, hb⟩
  replace hX := hX.below hb
  replace b0 := b0.trans (hb.mono b0.size)
  clear hb hS
  go_upto_region 2 with fail
  have hb := (Below.refl v2.heap.size v2).alloc (Nat.le_refl _) (.cells #[.slice wa xs.length wca, .slice wb ys.length wcb, .int .i64 q, .bool y] 41)
  have W0 := Cls.new v2 #[.slice wa xs.length wca, .slice wb ys.length wcb, .int .i64 q, .bool y] 41
  replace hX := hX.below hb
  replace oWa := oWa.keep hb
  replace oWb := oWb.keep hb
  replace b0 := b0.trans (hb.mono b0.size)
  clear hb
  generalize v2.alloc (.cells #[.slice wa xs.length wca, .slice wb ys.length wcb, .int .i64 q, .bool y] 41) = v3 at *
  obtain ⟨gw, hgw⟩ : ∃ gw, gw = v2.heap.size := ⟨_, rfl⟩
  rw [← hgw] at W0 wg2 oWb ⊢
  clear hgw
  have x0 := hX.cell 0 rfl
  have x1 := hX.cell 1 rfl
  have x2 := hX.cell 2 rfl
  have x3 := hX.cell 3 rfl
  have x4 := hX.cell 4 rfl
  have x5 := hX.cell 5 rfl
  have x6 := hX.cell 6 rfl
  go_wp2_with fail
  refine (toPower_any k W a b E x ok _).mono ?_
  rintro e v4 ⟨rfl, hb⟩
  replace hX := hX.below hb
  replace W0 := W0.below hb
  replace oWa := oWa.keep hb
  replace oWb := oWb.keep hb
  replace b0 := b0.trans (hb.mono b0.size)
  clear hb x0 x1 x2 x3 x4 x5 x6
  have lw4 := W0.lt
  have lx4 := hX.lt
  go_wp2_with fail
  refine (hI _).mono ?_
  rintro e v5 ⟨ga, gca, gb, gcb, gm1, rfl, gg1, gg2, oGa, oGb, hb⟩
  replace hX := hX.below hb
  replace W0 := W0.below hb
  replace oWa := oWa.keep hb
  replace oWb := oWb.keep hb
  replace b0 := b0.trans (hb.mono b0.size)
  have lv45 := hb.size
  clear hb
  go_upto_region 3 with fail
  have hb := (Below.refl v5.heap.size v5).alloc (Nat.le_refl _) (.cells #[.slice ga xs.length gca, .slice gb ys.length gcb, .int .i64 q, .bool y] 41)
  have G0 := Cls.new v5 #[.slice ga xs.length gca, .slice gb ys.length gcb, .int .i64 q, .bool y] 41
  replace hX := hX.below hb
  replace W0 := W0.below hb
  replace oWa := oWa.keep hb
  replace oWb := oWb.keep hb
  replace oGa := oGa.keep hb
  replace oGb := oGb.keep hb
  replace b0 := b0.trans (hb.mono b0.size)
  clear hb
  generalize v5.alloc (.cells #[.slice ga xs.length gca, .slice gb ys.length gcb, .int .i64 q, .bool y] 41) = v6 at *
  obtain ⟨gg, hgg⟩ : ∃ gg, gg = v5.heap.size := ⟨_, rfl⟩
  rw [← hgg] at G0 gg2 oGb lv45 ⊢
  clear hgg
  have p0 := G0.cell 0 rfl
  have p1 := G0.cell 1 rfl
  have p2 := G0.cell 2 rfl
  have p3 := G0.cell 3 rfl
  have q0 := W0.cell 0 rfl
  have q1 := W0.cell 1 rfl
  have q2 := W0.cell 2 rfl
  have q3 := W0.cell 3 rfl
  go_wp2_with fail
  refine (eqSp_same xs ys q y ga gca gb gcb wa wca wb wcb _ (by omega) (by omega) oGa.rd oGb.rd oWa.rd oWb.rd).mono ?_
  rintro e v7 ⟨rfl, hb⟩
  replace hX := hX.below hb
  replace W0 := W0.below hb
  replace G0 := G0.below hb
  replace oWa := oWa.keep hb
  replace oWb := oWb.keep hb
  replace oGa := oGa.keep hb
  replace oGb := oGb.keep hb
  replace b0 := b0.trans (hb.mono b0.size)
  clear hb p0 p1 p2 p3 q0 q1 q2 q3
  have p0 := G0.cell 0 rfl
  have p1 := G0.cell 1 rfl
  have p2 := G0.cell 2 rfl
  have p3 := G0.cell 3 rfl
  obtain ⟨k1, hk1⟩ : ∃ k : Nat, k = 1 + xs.length := ⟨_, rfl⟩
  obtain ⟨k2, hk2⟩ : ∃ k : Nat, k = k1 + ys.length := ⟨_, rfl⟩
  have HK := hid (And.intro hk1 hk2)
  clear hk1 hk2
  have lg7 := G0.lt
  go_wp2_with fail
  refine (markSp xs ys q y ga gca gb gcb _ v4.heap.size gm1 gg k1 k2 (by omega) (by omega) HK.out.1 HK.out.2 (Nat.le_of_lt lg7) gg1 gg2 oGa oGb).mono ?_
  rintro e v8 ⟨rfl, m1, m2, bm, hG⟩
  have s1 := bm.size
  replace G0 := (hG gg (Nat.le_refl _) lg7).trans G0
  replace W0 := (bm.block gw lw4).trans W0
  replace hX := (bm.block w.heap.size lx4).trans hX
  replace oWa := oWa.under4 bm (by omega)
  replace oWb := oWb.under4 bm (by omega)
  replace b0 := b0.trans (bm.mono (Nat.le_of_lt lx4))
  clear s1 hG bm oGa oGb p0 p1 p2 p3 lg7
  change Cls v8 gg _ _ at G0
  change Cls v8 gw _ _ at W0
  change Cls v8 w.heap.size _ _ at hX
  have p0 := G0.cell 0 rfl
  have p1 := G0.cell 1 rfl
  have p2 := G0.cell 2 rfl
  have p3 := G0.cell 3 rfl
  have n3 : ¬ (k2 : Int) < 0 := by omega
  have hne : ((k2 : Int) != (k2 : Int)) = false := by simp
  go_wp2_with fail
  refine (heldSp xs ys q y ga gca gb gcb _ k1 k2 (by omega) (by omega) HK.out.1 HK.out.2 m1 m2).mono ?_
  rintro e v9 ⟨rfl, hb⟩
  replace hX := hX.below hb
  replace W0 := W0.below hb
  replace oWa := oWa.keep hb
  replace oWb := oWb.keep hb
  replace b0 := b0.trans (hb.mono b0.size)
  clear hb p0 p1 p2 p3 G0 m1 m2
  have x0 := hX.cell 0 rfl
  have x1 := hX.cell 1 rfl
  have x2 := hX.cell 2 rfl
  have x3 := hX.cell 3 rfl
  have x4 := hX.cell 4 rfl
  have x5 := hX.cell 5 rfl
  have x6 := hX.cell 6 rfl
  go_wp2_with fail
  refine (toPower_any k W a b E x ok _).mono ?_
  rintro e v10 ⟨rfl, hb⟩
  replace W0 := W0.below hb
  replace oWa := oWa.keep hb
  replace oWb := oWb.keep hb
  replace b0 := b0.trans (hb.mono b0.size)
  clear hb x0 x1 x2 x3 x4 x5 x6 hX
  go_wp2_with fail
  refine (hI _).mono ?_
  rintro e v11 ⟨ha, hca, hhb, hcb, hm1, rfl, hg1, hg2, oHa, oHb, hb⟩
  replace W0 := W0.below hb
  replace oWa := oWa.keep hb
  replace oWb := oWb.keep hb
  replace b0 := b0.trans (hb.mono b0.size)
  clear hb hg1 hg2
  go_upto_region 14 with fail
  have hb := (Below.refl v11.heap.size v11).alloc (Nat.le_refl _) (.cells #[.slice ha xs.length hca, .slice hhb ys.length hcb, .int .i64 q, .bool y] 41)
  have H0 := Cls.new v11 #[.slice ha xs.length hca, .slice hhb ys.length hcb, .int .i64 q, .bool y] 41
  replace W0 := W0.below hb
  replace oWa := oWa.keep hb
  replace oWb := oWb.keep hb
  replace oHa := oHa.keep hb
  replace oHb := oHb.keep hb
  replace b0 := b0.trans (hb.mono b0.size)
  clear hb
  generalize v11.alloc (.cells #[.slice ha xs.length hca, .slice hhb ys.length hcb, .int .i64 q, .bool y] 41) = v12 at *
  have p0 := H0.cell 0 rfl
  have p1 := H0.cell 1 rfl
  have p2 := H0.cell 2 rfl
  have p3 := H0.cell 3 rfl
  have q0 := W0.cell 0 rfl
  have q1 := W0.cell 1 rfl
  have q2 := W0.cell 2 rfl
  have q3 := W0.cell 3 rfl
  generalize v11.heap.size = gh at *
  go_wp2_with fail
  refine (eqSp_same xs ys q y ha hca hhb hcb wa wca wb wcb _ (by omega) (by omega) oHa.rd oHb.rd oWa.rd oWb.rd).mono ?_
  rintro e v13 ⟨rfl, hb⟩
  have HB := hid (b0.trans (hb.mono b0.size))
  clear hb b0
  go_wp2_with fail
  go_ret
  exact ⟨rfl, HB.out⟩


theorem lawScale (d k W a b E : Int) (x ok : Bool) (w : World) (wd : (Lit.int .u64 d).wf = true) (wa : (Lit.int .u64 a).wf = true) (wb : (Lit.int .u64 b).wf = true) :
    Calls Try.prog 4 #[.int .u64 d, .agg #[.int .i64 k, .int .i64 W, .int .u64 a, .int .u64 b, .int .i64 E, .bool x, .bool ok]] w fun e w' => e = .returned (.bool true) ∧ Below w.heap.size w w' := by
  have hd := bounds_u64 wd
  have ha := bounds_u64 wa
  have hb := bounds_u64 wb
  obtain ⟨n, rfl⟩ : ∃ n : Nat, d = (n : Int) := ⟨d.toNat, by omega⟩
  obtain ⟨x1, rfl⟩ : ∃ x : Nat, a = (x : Int) := ⟨a.toNat, by omega⟩
  obtain ⟨y1, rfl⟩ : ∃ y : Nat, b = (y : Int) := ⟨b.toNat, by omega⟩
  obtain ⟨X, hX, e1, e2⟩ : ∃ X : Nat, X < 2 ^ 128 ∧ (x1 : Int) = (M.hiN X : Int) ∧ (y1 : Int) = (M.loN X : Int) := ⟨x1 * 18446744073709551616 + y1, by omega, by rw [M.hiOf x1 y1 (by omega)], by rw [M.loOf x1 y1 (by omega)]⟩
  rw [e1, e2]
  obtain ⟨xs, ys, q, y, l1, l2, k1, k2⟩ := scale_both n (by omega) k W X hX E x ok
  exact lawScKey _ _ _ _ _ _ _ _ xs ys q y w l1 l2 k1 k2

end Go.Proofs.Ytehplfmnipadmae

namespace Go.Proofs.Ytehplfmnipadmae
open Go.ChangeShapes Go.WideShapes Go.ChangeAt Go.RowKit
set_option linter.unusedVariables false
set_option maxRecDepth 100000

theorem Try.cellsPwInt : Try.prog.cellsOf 3 = 1 := by kernel_rfl
theorem Try.cellsPwU64 : Try.prog.cellsOf 25 = 1 := by kernel_rfl
theorem Try.cellsPwBool : Try.prog.cellsOf 4 = 1 := by kernel_rfl
theorem Try.cellsPwWord : Try.prog.cellsOf 37 = 2 := by kernel_rfl
theorem Try.cellsPw : Try.prog.cellsOf 39 = 7 := by kernel_rfl

theorem agg_of_cells7 {v : Value} {l : List Value} (h : v.cells.toList = l) (hl : l.length ≠ 1) : v = .agg l.toArray := by
  subst h
  cases v <;> first | (simp [Value.cells] at hl; done) | simp [Value.cells]

theorem open_pw {H : Type} {enc : TypeId × Value → H} {w : World} {base : Nat} {sp : Nat → Bool} {held : Bool} {v : Value} {d : DataW H} {ps : List MemPlace} (h : DataW.Trod enc Try.prog w base sp held 39 v d ps) :
    ∃ (k m a b e : Int) (x y : Bool), v = .agg #[.int .i64 k, .int .i64 m, .int .u64 a, .int .u64 b, .int .i64 e, .bool x, .bool y] ∧ d = .agg [.lit (.int .i64 k), .lit (.int .i64 m), .agg [.lit (.int .u64 a), .lit (.int .u64 b)], .lit (.int .i64 e), .lit (.bool x), .lit (.bool y)] ∧ ps = [] ∧ (Lit.int .i64 k).wf = true ∧ (Lit.int .i64 m).wf = true ∧ (Lit.int .u64 a).wf = true ∧ (Lit.int .u64 b).wf = true ∧ (Lit.int .i64 e).wf = true := by
  obtain ⟨fuel, hf⟩ := h
  obtain ⟨xs, n, rfl, hx, hl, hxl, hall⟩ := DataW.trod_struct Try.underlying39 hf
  rw [Try.cellsPw] at hl
  have f0 : DataW.trod enc Try.prog w base sp held n 3 ((v.cells.toList.drop 0).take (Try.prog.cellsOf 3)) = xs[0]? := hall 0 _ rfl
  have f1 : DataW.trod enc Try.prog w base sp held n 3 ((v.cells.toList.drop 1).take (Try.prog.cellsOf 3)) = xs[1]? := hall 1 _ rfl
  have f2 : DataW.trod enc Try.prog w base sp held n 37 ((v.cells.toList.drop 2).take (Try.prog.cellsOf 37)) = xs[2]? := hall 2 _ rfl
  have f3 : DataW.trod enc Try.prog w base sp held n 3 ((v.cells.toList.drop 4).take (Try.prog.cellsOf 3)) = xs[3]? := hall 3 _ rfl
  have f4 : DataW.trod enc Try.prog w base sp held n 4 ((v.cells.toList.drop 5).take (Try.prog.cellsOf 4)) = xs[4]? := hall 4 _ rfl
  have f5 : DataW.trod enc Try.prog w base sp held n 4 ((v.cells.toList.drop 6).take (Try.prog.cellsOf 4)) = xs[5]? := hall 5 _ rfl
  rw [Try.cellsPwInt] at f0 f1 f3
  rw [Try.cellsPwBool] at f4 f5
  rw [Try.cellsPwWord] at f2
  match xs, hxl, hx, f0, f1, f2, f3, f4, f5 with
  | [x0, x1, x2, x3, x4, x5], _, hx, f0, f1, f2, f3, f4, f5 =>
    obtain ⟨z0, e0, y0, k0⟩ := DataW.trod_int Try.underlying3 f0
    obtain ⟨z1, e1, y1, k1⟩ := DataW.trod_int Try.underlying3 f1
    obtain ⟨z3, e3, y3, k3⟩ := DataW.trod_int Try.underlying3 f3
    obtain ⟨z4, e4, y4⟩ := DataW.trod_bool Try.underlying4 f4
    obtain ⟨z5, e5, y5⟩ := DataW.trod_bool Try.underlying4 f5
    subst y0; subst y1; subst y3; subst y4; subst y5
    obtain ⟨ys, m, rfl, hy, hl2, hyl, hall2⟩ := DataW.trod_struct Try.underlying37 f2
    have g0 : DataW.trod enc Try.prog w base sp held m 25 ((((v.cells.toList.drop 2).take 2).drop 0).take (Try.prog.cellsOf 25)) = ys[0]? := hall2 0 _ rfl
    have g1 : DataW.trod enc Try.prog w base sp held m 25 ((((v.cells.toList.drop 2).take 2).drop 1).take (Try.prog.cellsOf 25)) = ys[1]? := hall2 1 _ rfl
    rw [Try.cellsPwU64] at g0 g1
    match ys, hyl, hy, g0, g1 with
    | [u0, u1], _, hy, g0, g1 =>
      obtain ⟨t0, r0, s0, j0⟩ := DataW.trod_int Try.underlying25 g0
      obtain ⟨t1, r1, s1, j1⟩ := DataW.trod_int Try.underlying25 g1
      subst s0; subst s1
      have hv : v.cells.toList = [.int .i64 z0, .int .i64 z1, .int .u64 t0, .int .u64 t1, .int .i64 z3, .bool z4, .bool z5] := by
        generalize v.cells.toList = l at *
        match l, hl with
        | [l0, l1, l2, l3, l4, l5, l6], _ =>
          simp at e0 e1 e3 e4 e5 r0 r1
          rw [e0, e1, e3, e4, e5, r0, r1]
      have := agg_of_cells7 hv (by simp)
      subst hy
      simp at hx
      exact ⟨z0, z1, t0, t1, z3, z4, z5, this, hx.1, hx.2, k0, k1, j0, j1, k3⟩

theorem shut_pw {H : Type} {enc : TypeId × Value → H} {w : World} {base : Nat} {sp : Nat → Bool} {held : Bool} {k m a b e : Int} {x y : Bool} (hk : (Lit.int .i64 k).wf = true) (hm : (Lit.int .i64 m).wf = true) (ha : (Lit.int .u64 a).wf = true) (hb : (Lit.int .u64 b).wf = true) (he : (Lit.int .i64 e).wf = true) :
    DataW.Trod enc Try.prog w base sp held 39 (.agg #[.int .i64 k, .int .i64 m, .int .u64 a, .int .u64 b, .int .i64 e, .bool x, .bool y]) (.agg [.lit (.int .i64 k), .lit (.int .i64 m), .agg [.lit (.int .u64 a), .lit (.int .u64 b)], .lit (.int .i64 e), .lit (.bool x), .lit (.bool y)]) [] := by
  refine ⟨3, ?_⟩
  refine trod_struct_mk (xs := [(.lit (.int .i64 k), []), (.lit (.int .i64 m), []), (.agg [.lit (.int .u64 a), .lit (.int .u64 b)], []), (.lit (.int .i64 e), []), (.lit (.bool x), []), (.lit (.bool y), [])]) Try.underlying39 (by rw [Try.cellsPw]; rfl) ?_
  have hwd : DataW.trod enc Try.prog w base sp held 2 37 [.int .u64 a, .int .u64 b] = some (.agg [.lit (.int .u64 a), .lit (.int .u64 b)], []) := by
    refine trod_struct_mk (xs := [(.lit (.int .u64 a), []), (.lit (.int .u64 b), [])]) Try.underlying37 (by rw [Try.cellsPwWord]; rfl) ?_
    simp [DataW.trod, Try.underlying25, Try.cellsPwU64, ha, hb]
  have h0 : DataW.trod enc Try.prog w base sp held 2 3 [.int .i64 k] = some (.lit (.int .i64 k), []) := by simp [DataW.trod, Try.underlying3, hk]
  have h1 : DataW.trod enc Try.prog w base sp held 2 3 [.int .i64 m] = some (.lit (.int .i64 m), []) := by simp [DataW.trod, Try.underlying3, hm]
  have h3 : DataW.trod enc Try.prog w base sp held 2 3 [.int .i64 e] = some (.lit (.int .i64 e), []) := by simp [DataW.trod, Try.underlying3, he]
  have h4 : DataW.trod enc Try.prog w base sp held 2 4 [.bool x] = some (.lit (.bool x), []) := by simp [DataW.trod, Try.underlying4]
  have h5 : DataW.trod enc Try.prog w base sp held 2 4 [.bool y] = some (.lit (.bool y), []) := by simp [DataW.trod, Try.underlying4]
  simp [Try.cellsPwInt, Try.cellsPwBool, Try.cellsPwWord, Value.cells, h0, h1, h3, h4, h5, hwd]

end Go.Proofs.Ytehplfmnipadmae
