import Derived.OpenShut
import Derived.Lib.SlBytesConst
import Derived.Test.YtodgblbaclionaaGreatDoorqBG
import Derived.Test.YtodgblbaclionaaGreatDoorqBF
import Derived.Test.YtodgblbaclionaaGreatDoorqBY
namespace Go.Proofs.YtodgblbaclionaaGreatDoor

open Go.RowKit

set_option linter.unusedVariables false
set_option maxRecDepth 100000

theorem rdb_nan (u : World) : RdB (u.alloc (.cells #[.int .u8 110, .int .u8 97, .int .u8 110] 5 (3, 4))) (some ⟨u.heap.size, 0, none⟩) [110, 97, 110] := by
  refine ⟨fun x hx => by simp at hx; omega, fun _ => ⟨u.heap.size, 0, rfl, fun i hi => ?_⟩⟩
  simp only [List.length_cons, List.length_nil] at hi
  rcases (show i = 0 ∨ i = 1 ∨ i = 2 by omega) with rfl | rfl | rfl <;> (unfold World.cell?; rw [heap_alloc_new]; rfl)

theorem fld_wp (a b c d x : Int) (v : World) : Sem.run Tryz.prog (Instr.field 34 (.agg #[.int .u64 a, .int .u64 b, .int .i64 c, .int .i64 d, .int .i64 x]) 0) v = .ok (.agg #[.int .u64 a, .int .u64 b]) v := by kernel_rfl

/-- What the law asks of what it calls. -/
def FpK (w : World) (f : Int) (X : Nat) (T : M.Pt) : Prop :=
  (∀ v : World, Fmt v → Calls Tryz.prog 6 #[.int .i64 f, .agg #[.int .u64 (M.hiN X : Int), .int .u64 (M.loN X : Int)]] v fun e w' => e = .returned (pv T) ∧ Below v.heap.size v w') ∧
  (∀ v : World, Calls Tryz.prog 7 #[.int .i64 f, .agg #[.int .u64 (M.hiN X : Int), .int .u64 (M.loN X : Int)]] v fun e w' => e = .returned (pv T) ∧ Below v.heap.size v w') ∧
  ((T.c = 0 ∧ (∀ v : World, Fmt v → Calls Tryz.prog 8 #[.int .i64 f, pv T] v fun e w' => e = .returned (.tuple #[.agg #[.int .u64 0, .int .u64 0], .bool false]) ∧ Below v.heap.size v w')) ∨
   (T.c = 5 ∧ ∃ Y : Nat, (∀ v : World, Fmt v → Calls Tryz.prog 8 #[.int .i64 f, pv T] v fun e w' => e = .returned (.tuple #[.agg #[.int .u64 (M.hiN Y : Int), .int .u64 (M.loN Y : Int)], .bool true]) ∧ Below v.heap.size v w') ∧
      (∀ v : World, Fmt v → Calls Tryz.prog 6 #[.int .i64 f, .agg #[.int .u64 (M.hiN Y : Int), .int .u64 (M.loN Y : Int)]] v fun e w' => e = .returned (pv T) ∧ Below v.heap.size v w') ∧
      (∀ (v : World) (ao : Option Addr) (cc : Nat), Below w.heap.size w v → RdB v ao [110, 97, 110] → Calls Tryz.prog 9 #[.int .i64 f, .slice ao 3 cc] v fun e w' => e = .returned (.agg #[.int .u64 (M.hiN Y : Int), .int .u64 (M.loN Y : Int), .int .i64 0, .int .i64 0, .int .i64 0]) ∧ Below v.heap.size v w')) ∨
   (T.c ≠ 0 ∧ T.c ≠ 5 ∧ (∀ v : World, Fmt v → Calls Tryz.prog 8 #[.int .i64 f, pv T] v fun e w' => e = .returned (.tuple #[.agg #[.int .u64 (M.hiN X : Int), .int .u64 (M.loN X : Int)], .bool true]) ∧ Below v.heap.size v w')))

set_option maxHeartbeats 8000000 in
set_option maxRecDepth 100000 in
theorem lawFpKey (a0 : Option Addr) (n c : Nat) (w : World) (hm : Fmt w) (h1 : n ≤ 1048576)
    (kD : ∀ (v : World), Below w.heap.size w v → Calls Tryz.prog 5 #[.slice a0 n c] v fun e w' => ∃ (f : Int) (X : Nat), X < 2 ^ 128 ∧ e = .returned (.tuple #[.int .i64 f, .agg #[.int .u64 (M.hiN X : Int), .int .u64 (M.loN X : Int)]]) ∧ Below v.heap.size v w')
    (kA : ∀ (f : Int) (X : Nat), X < 2 ^ 128 → ∃ T, FpK w f X T) :
    Calls Tryz.prog 3 #[.slice a0 n c] w fun e w' => e = .returned (.bool true) ∧ Below w.heap.size w w' := by
  have h1' : ¬ (1048576 : Int) < (n : Int) := by omega
  go_enter Tryz.func3, Tryz.ntmps3
  go_wp2_with fail
  refine (kD _ (Below.refl _ _)).mono ?_
  rintro e v1 ⟨f, X, hX, rfl, b0⟩
  obtain ⟨T, kU, kS, kC⟩ := kA f X hX
  clear kA kD
  have m0 := hm.below b0
  have cw := Cls.new v1 #[.int .u64 (M.hiN X : Int), .int .u64 (M.loN X : Int)] 25
  have hb := (Below.refl _ v1).alloc (Nat.le_refl _) (.cells #[.int .u64 (M.hiN X : Int), .int .u64 (M.loN X : Int)] 25)
  replace b0 := b0.trans (hb.mono b0.size)
  replace m0 := m0.below hb
  clear hb
  obtain ⟨tc, tn, ts, tq⟩ := T
  simp only [pv] at kU kS kC
  go_upto_region 3 with fail
  generalize (v1.alloc (.cells #[.int .u64 (M.hiN X : Int), .int .u64 (M.loN X : Int)] 25)) = v2 at *
  generalize v1.heap.size = gw at *
  have x0 := cw.cell 0 rfl
  have x1 := cw.cell 1 rfl
  rcases kC with ⟨hc0, kP⟩ | ⟨hc5, Y, kP, kU2, kN⟩ | ⟨hc0, hc5, kP⟩
  · subst hc0
    go_wp2_with fail
    refine (kU _ m0).mono ?_
    rintro e v3 ⟨rfl, hb3⟩
    replace b0 := b0.trans (hb3.mono b0.size)
    replace m0 := m0.below hb3
    replace cw := cw.below hb3
    clear hb3 x0 x1
    have cp := Cls.new v3 #[.int .i64 0, .bool tn, .int .u64 (M.hiN ts : Int), .int .u64 (M.loN ts : Int), .int .i64 tq] 29
    have hb := (Below.refl _ v3).alloc (Nat.le_refl _) (.cells #[.int .i64 0, .bool tn, .int .u64 (M.hiN ts : Int), .int .u64 (M.loN ts : Int), .int .i64 tq] 29)
    replace b0 := b0.trans (hb.mono b0.size)
    replace m0 := m0.below hb
    replace cw := cw.below hb
    clear hb
    go_upto_region 4 with fail
    generalize (v3.alloc (.cells #[.int .i64 0, .bool tn, .int .u64 (M.hiN ts : Int), .int .u64 (M.loN ts : Int), .int .i64 tq] 29)) = v4 at *
    generalize v3.heap.size = gp at *
    have x0 := cw.cell 0 rfl
    have x1 := cw.cell 1 rfl
    have p0 := cp.cell 0 rfl
    have p1 := cp.cell 1 rfl
    have p2 := cp.cell 2 rfl
    have p3 := cp.cell 3 rfl
    have p4 := cp.cell 4 rfl
    have D1 : ∀ v, Below v4.heap.size v4 v → (fun v : World => v.cell? ⟨gw, 0, none⟩ = some (.int .u64 (M.hiN X : Int)) ∧ v.cell? ⟨gw, 1, none⟩ = some (.int .u64 (M.loN X : Int)) ∧ v.cell? ⟨gp, 0, none⟩ = some (.int .i64 0) ∧ v.cell? ⟨gp, 1, none⟩ = some (.bool tn) ∧ v.cell? ⟨gp, 2, none⟩ = some (.int .u64 (M.hiN ts : Int)) ∧ v.cell? ⟨gp, 3, none⟩ = some (.int .u64 (M.loN ts : Int)) ∧ v.cell? ⟨gp, 4, none⟩ = some (.int .i64 tq)) v := fun v hv => ⟨(cw.below hv).cell 0 rfl, (cw.below hv).cell 1 rfl, (cp.below hv).cell 0 rfl, (cp.below hv).cell 1 rfl, (cp.below hv).cell 2 rfl, (cp.below hv).cell 3 rfl, (cp.below hv).cell 4 rfl⟩
    have hrf : Below v4.heap.size v4 v4 := Below.refl _ _
    have hdr : Below v4.heap.size v4 v4.drew := (Below.refl _ _).drew
    clear x0 x1 p0 p1 p2 p3 p4
    go_wp2_with fail
    go_region_held3 (fun v : World => v.cell? ⟨gw, 0, none⟩ = some (.int .u64 (M.hiN X : Int)) ∧ v.cell? ⟨gw, 1, none⟩ = some (.int .u64 (M.loN X : Int)) ∧ v.cell? ⟨gp, 0, none⟩ = some (.int .i64 0) ∧ v.cell? ⟨gp, 1, none⟩ = some (.bool tn) ∧ v.cell? ⟨gp, 2, none⟩ = some (.int .u64 (M.hiN ts : Int)) ∧ v.cell? ⟨gp, 3, none⟩ = some (.int .u64 (M.loN ts : Int)) ∧ v.cell? ⟨gp, 4, none⟩ = some (.int .i64 tq)) (with_reducible exact D1 _ (by assumption))
      (first | (go_at_call 7; refine (kS _).mono ?_; rintro e v5 ⟨rfl, hb5'⟩; have hb5 := hdr.trans (hb5'.mono (Nat.le_refl _)); clear hb5'))
    go_wp2_with fail
    replace b0 := b0.trans (hb5.mono b0.size)
    replace m0 := m0.below hb5
    replace cw := cw.below hb5
    replace cp := cp.below hb5
    clear D1 hrf hdr hb5
    refine (kP _ m0).mono ?_
    rintro e v6 ⟨rfl, hb6⟩
    replace b0 := b0.trans (hb6.mono b0.size)
    replace m0 := m0.below hb6
    replace cw := cw.below hb6
    replace cp := cp.below hb6
    clear hb6
    have cg := Cls.new v6 #[.int .u64 0, .int .u64 0] 25
    have hb := (Below.refl _ v6).alloc (Nat.le_refl _) (.cells #[.int .u64 0, .int .u64 0] 25)
    replace b0 := b0.trans (hb.mono b0.size)
    replace m0 := m0.below hb
    replace cw := cw.below hb
    replace cp := cp.below hb
    clear hb
    go_upto_region 8 with fail
    generalize (v6.alloc (.cells #[.int .u64 0, .int .u64 0] 25)) = v7 at *
    generalize v6.heap.size = gg at *
    have x0 := cw.cell 0 rfl
    have x1 := cw.cell 1 rfl
    have p0 := cp.cell 0 rfl
    have p1 := cp.cell 1 rfl
    have p2 := cp.cell 2 rfl
    have p3 := cp.cell 3 rfl
    have p4 := cp.cell 4 rfl
    have y0 := cg.cell 0 rfl
    have y1 := cg.cell 1 rfl
    have HB := hid b0
    clear b0
    go_wp2_with fail
    go_ret
    exact ⟨rfl, HB.out⟩
  · subst hc5
    go_wp2_with fail
    refine (kU _ m0).mono ?_
    rintro e v3 ⟨rfl, hb3⟩
    replace b0 := b0.trans (hb3.mono b0.size)
    replace m0 := m0.below hb3
    replace cw := cw.below hb3
    clear hb3 x0 x1
    have cp := Cls.new v3 #[.int .i64 5, .bool tn, .int .u64 (M.hiN ts : Int), .int .u64 (M.loN ts : Int), .int .i64 tq] 29
    have hb := (Below.refl _ v3).alloc (Nat.le_refl _) (.cells #[.int .i64 5, .bool tn, .int .u64 (M.hiN ts : Int), .int .u64 (M.loN ts : Int), .int .i64 tq] 29)
    replace b0 := b0.trans (hb.mono b0.size)
    replace m0 := m0.below hb
    replace cw := cw.below hb
    clear hb
    go_upto_region 4 with fail
    generalize (v3.alloc (.cells #[.int .i64 5, .bool tn, .int .u64 (M.hiN ts : Int), .int .u64 (M.loN ts : Int), .int .i64 tq] 29)) = v4 at *
    generalize v3.heap.size = gp at *
    have x0 := cw.cell 0 rfl
    have x1 := cw.cell 1 rfl
    have p0 := cp.cell 0 rfl
    have p1 := cp.cell 1 rfl
    have p2 := cp.cell 2 rfl
    have p3 := cp.cell 3 rfl
    have p4 := cp.cell 4 rfl
    have D1 : ∀ v, Below v4.heap.size v4 v → (fun v : World => v.cell? ⟨gw, 0, none⟩ = some (.int .u64 (M.hiN X : Int)) ∧ v.cell? ⟨gw, 1, none⟩ = some (.int .u64 (M.loN X : Int)) ∧ v.cell? ⟨gp, 0, none⟩ = some (.int .i64 5) ∧ v.cell? ⟨gp, 1, none⟩ = some (.bool tn) ∧ v.cell? ⟨gp, 2, none⟩ = some (.int .u64 (M.hiN ts : Int)) ∧ v.cell? ⟨gp, 3, none⟩ = some (.int .u64 (M.loN ts : Int)) ∧ v.cell? ⟨gp, 4, none⟩ = some (.int .i64 tq)) v := fun v hv => ⟨(cw.below hv).cell 0 rfl, (cw.below hv).cell 1 rfl, (cp.below hv).cell 0 rfl, (cp.below hv).cell 1 rfl, (cp.below hv).cell 2 rfl, (cp.below hv).cell 3 rfl, (cp.below hv).cell 4 rfl⟩
    have hrf : Below v4.heap.size v4 v4 := Below.refl _ _
    have hdr : Below v4.heap.size v4 v4.drew := (Below.refl _ _).drew
    clear x0 x1 p0 p1 p2 p3 p4
    go_wp2_with fail
    go_region_held3 (fun v : World => v.cell? ⟨gw, 0, none⟩ = some (.int .u64 (M.hiN X : Int)) ∧ v.cell? ⟨gw, 1, none⟩ = some (.int .u64 (M.loN X : Int)) ∧ v.cell? ⟨gp, 0, none⟩ = some (.int .i64 5) ∧ v.cell? ⟨gp, 1, none⟩ = some (.bool tn) ∧ v.cell? ⟨gp, 2, none⟩ = some (.int .u64 (M.hiN ts : Int)) ∧ v.cell? ⟨gp, 3, none⟩ = some (.int .u64 (M.loN ts : Int)) ∧ v.cell? ⟨gp, 4, none⟩ = some (.int .i64 tq)) (with_reducible exact D1 _ (by assumption))
      (first | (go_at_call 7; refine (kS _).mono ?_; rintro e v5 ⟨rfl, hb5'⟩; have hb5 := hdr.trans (hb5'.mono (Nat.le_refl _)); clear hb5'))
    go_wp2_with fail
    replace b0 := b0.trans (hb5.mono b0.size)
    replace m0 := m0.below hb5
    replace cw := cw.below hb5
    replace cp := cp.below hb5
    clear D1 hrf hdr hb5
    refine (kP _ m0).mono ?_
    rintro e v6 ⟨rfl, hb6⟩
    replace b0 := b0.trans (hb6.mono b0.size)
    replace m0 := m0.below hb6
    replace cw := cw.below hb6
    replace cp := cp.below hb6
    clear hb6
    have cg := Cls.new v6 #[.int .u64 (M.hiN Y : Int), .int .u64 (M.loN Y : Int)] 25
    have hb := (Below.refl _ v6).alloc (Nat.le_refl _) (.cells #[.int .u64 (M.hiN Y : Int), .int .u64 (M.loN Y : Int)] 25)
    replace b0 := b0.trans (hb.mono b0.size)
    replace m0 := m0.below hb
    replace cw := cw.below hb
    replace cp := cp.below hb
    clear hb
    go_upto_region 8 with fail
    generalize (v6.alloc (.cells #[.int .u64 (M.hiN Y : Int), .int .u64 (M.loN Y : Int)] 25)) = v7 at *
    generalize v6.heap.size = gg at *
    have x0 := cw.cell 0 rfl
    have x1 := cw.cell 1 rfl
    have p0 := cp.cell 0 rfl
    have p1 := cp.cell 1 rfl
    have p2 := cp.cell 2 rfl
    have p3 := cp.cell 3 rfl
    have p4 := cp.cell 4 rfl
    have y0 := cg.cell 0 rfl
    have y1 := cg.cell 1 rfl
    have KB : ∀ v, Below v7.heap.size v7 v → (fun v : World => v.cell? ⟨gg, 0, none⟩ = some (.int .u64 (M.hiN Y : Int)) ∧ v.cell? ⟨gg, 1, none⟩ = some (.int .u64 (M.loN Y : Int)) ∧ v.cell? ⟨gp, 0, none⟩ = some (.int .i64 5) ∧ v.cell? ⟨gp, 1, none⟩ = some (.bool tn) ∧ v.cell? ⟨gp, 2, none⟩ = some (.int .u64 (M.hiN ts : Int)) ∧ v.cell? ⟨gp, 3, none⟩ = some (.int .u64 (M.loN ts : Int)) ∧ v.cell? ⟨gp, 4, none⟩ = some (.int .i64 tq)) v := fun v hv => ⟨(cg.below hv).cell 0 rfl, (cg.below hv).cell 1 rfl, (cp.below hv).cell 0 rfl, (cp.below hv).cell 1 rfl, (cp.below hv).cell 2 rfl, (cp.below hv).cell 3 rfl, (cp.below hv).cell 4 rfl⟩
    have HB := hid b0
    clear b0
    have fw := fld_wp
    go_wp2_with fail
    clear kU kS kP x0 x1 p0 p1 p2 p3 p4 y0 y1 cw cp cg hm
    have A0 : Below v7.heap.size v7 v7.drew := (Below.refl _ _).drew
    refine wp_region_held_drew (S := (fun v : World => v.cell? ⟨gg, 0, none⟩ = some (.int .u64 (M.hiN Y : Int)) ∧ v.cell? ⟨gg, 1, none⟩ = some (.int .u64 (M.loN Y : Int)) ∧ v.cell? ⟨gp, 0, none⟩ = some (.int .i64 5) ∧ v.cell? ⟨gp, 1, none⟩ = some (.bool tn) ∧ v.cell? ⟨gp, 2, none⟩ = some (.int .u64 (M.hiN ts : Int)) ∧ v.cell? ⟨gp, 3, none⟩ = some (.int .u64 (M.loN ts : Int)) ∧ v.cell? ⟨gp, 4, none⟩ = some (.int .i64 tq))) (by kernel_rfl) (KB _ A0) (fun hS => ?_)
    refine wpAnyH_take (i := 0) (v := .bool true) rfl (by kernel_rfl) (by kernel_rfl) (by kernel_rfl) (fun _ _ _ h => h) (Or.inl ⟨by kernel_rfl, ?_⟩) hS ?_
    · (intro u hSu; obtain ⟨s1, s2, s3, s4, s5, s6, s7⟩ := hSu; go_simp)
    refine wpAnyH_take (i := 1) (v := .bool true) rfl (by kernel_rfl) (by kernel_rfl) (by kernel_rfl) (fun _ _ _ h => h) (Or.inl ⟨by kernel_rfl, ?_⟩) hS ?_
    · (intro u hSu; obtain ⟨s1, s2, s3, s4, s5, s6, s7⟩ := hSu; go_simp)
    refine wpAnyH_take (i := 2) (v := ?_) rfl (by kernel_rfl) (by kernel_rfl) (by kernel_rfl) (fun _ _ _ h => h) (Or.inl ⟨by kernel_rfl, ?_⟩) hS ?_
    rotate_left
    · (intro u hSu; obtain ⟨s1, s2, s3, s4, s5, s6, s7⟩ := hSu; first | (go_simp; done) | (go_simp; with_reducible rfl) | with_reducible rfl)
    refine wpAnyH_take (i := 3) (v := ?_) rfl (by kernel_rfl) (by kernel_rfl) (by kernel_rfl) (fun _ _ _ h => h) (Or.inl ⟨by kernel_rfl, ?_⟩) hS ?_
    rotate_left
    · (intro u hSu; obtain ⟨s1, s2, s3, s4, s5, s6, s7⟩ := hSu; first | (go_simp; done) | (go_simp; with_reducible rfl) | with_reducible rfl)
    refine wpAnyH_take (i := 5) (v := ?_) rfl (by kernel_rfl) (by kernel_rfl) (by kernel_rfl) (fun _ _ _ h => h) (Or.inl ⟨by kernel_rfl, ?_⟩) hS ?_
    rotate_left
    · (intro u hSu; obtain ⟨s1, s2, s3, s4, s5, s6, s7⟩ := hSu; first | (go_simp; done) | (go_simp; with_reducible rfl) | with_reducible rfl)
    refine wpAnyH_ready (rs := [4]) (by kernel_rfl) (by simp) ?_
    refine AllReadyH.cons rfl (fun K hK => ?_) AllReadyH.nil
    go_simp
    go_at_call 6
    refine (kU2 _ (m0.below A0)).mono ?_
    rintro e u1 ⟨rfl, hb0⟩
    have A1 := A0.trans (hb0.mono A0.size)
    clear A0 hb0
    go_simp
    refine hK.out _ _ (KB _ A1) ?_
    clear hK K hS
    intro hS
    refine wpAnyH_take (i := 6) (v := .bool true) rfl (by kernel_rfl) (by kernel_rfl) (by kernel_rfl) (fun _ _ _ h => h) (Or.inl ⟨by kernel_rfl, ?_⟩) hS ?_
    · (intro u hSu; obtain ⟨s1, s2, s3, s4, s5, s6, s7⟩ := hSu; go_simp)
    refine wpAnyH_take (i := 7) (v := .bool true) rfl (by kernel_rfl) (by kernel_rfl) (by kernel_rfl) (fun _ _ _ h => h) (Or.inl ⟨by kernel_rfl, ?_⟩) hS ?_
    · (intro u hSu; obtain ⟨s1, s2, s3, s4, s5, s6, s7⟩ := hSu; go_simp)
    refine wpAnyH_take (i := 8) (v := .bool true) rfl (by kernel_rfl) (by kernel_rfl) (by kernel_rfl) (fun _ _ _ h => h) (Or.inl ⟨by kernel_rfl, ?_⟩) hS ?_
    · (intro u hSu; obtain ⟨s1, s2, s3, s4, s5, s6, s7⟩ := hSu; go_simp)
    refine wpAnyH_take (i := 9) (v := ?_) rfl (by kernel_rfl) (by kernel_rfl) (by kernel_rfl) (fun _ _ _ h => h) (Or.inl ⟨by kernel_rfl, ?_⟩) hS ?_
    rotate_left
    · (intro u hSu; obtain ⟨s1, s2, s3, s4, s5, s6, s7⟩ := hSu; first | (go_simp; done) | (go_simp; with_reducible rfl) | with_reducible rfl)
    refine wpAnyH_take (i := 14) (v := ?_) rfl (by kernel_rfl) (by kernel_rfl) (by kernel_rfl) (fun _ _ _ h => h) (Or.inl ⟨by kernel_rfl, ?_⟩) hS ?_
    rotate_left
    · (intro u hSu; obtain ⟨s1, s2, s3, s4, s5, s6, s7⟩ := hSu; first | (go_simp; done) | (go_simp; with_reducible rfl) | with_reducible rfl)
    refine wpAnyH_ready (rs := [10]) (by kernel_rfl) (by simp) ?_
    refine AllReadyH.cons rfl (fun K hK => ?_) AllReadyH.nil
    go_simp
    have A2 := A1.alloc (A1.size) (.cells #[.int .u8 110, .int .u8 97, .int .u8 110] 5)
    refine hK.out _ _ (KB _ A2) ?_
    clear hK K hS A2
    intro hS
    have kc := Lib.run_convert_bytes_const (P := Tryz.prog) u1 22 5 #[.int .u8 110, .int .u8 97, .int .u8 110] 3 3 Tryz.underlying22 Tryz.underlying5
    refine wpAnyH_ready (rs := [11]) (by kernel_rfl) (by simp) ?_
    refine AllReadyH.cons rfl (fun K hK => ?_) AllReadyH.nil
    go_simp
    have A2 := A1.alloc (A1.size) (.cells #[.int .u8 110, .int .u8 97, .int .u8 110] 5 (3, 4))
    have rB := rdb_nan u1
    refine hK.out _ _ (KB _ A2) ?_
    clear hK K hS A1 kc
    intro hS
    generalize (u1.alloc (.cells #[.int .u8 110, .int .u8 97, .int .u8 110] 5 (3, 4))) = u2 at *
    generalize u1.heap.size = gn at *
    refine wpAnyH_ready (rs := [12]) (by kernel_rfl) (by simp) ?_
    refine AllReadyH.cons rfl (fun K hK => ?_) AllReadyH.nil
    go_simp
    go_at_call 9
    refine (kN _ _ _ (HB.out.trans (A2.mono HB.out.size)) rB).mono ?_
    rintro e u3 ⟨rfl, hb0⟩
    have A3 := A2.trans (hb0.mono A2.size)
    clear A2 hb0
    go_simp
    refine hK.out _ _ (KB _ A3) ?_
    clear hK K hS
    intro hS
    refine wpAnyH_take (i := 13) (v := .agg #[.int .u64 (M.hiN Y : Int), .int .u64 (M.loN Y : Int)]) rfl (by kernel_rfl) (by kernel_rfl) (by kernel_rfl) (fun _ _ _ h => h) (Or.inl ⟨by kernel_rfl, ?_⟩) hS ?_
    · (intro u hSu; obtain ⟨s1, s2, s3, s4, s5, s6, s7⟩ := hSu; go_simp)
    refine wpAnyH_take (i := 15) (v := .bool true) rfl (by kernel_rfl) (by kernel_rfl) (by kernel_rfl) (fun _ _ _ h => h) (Or.inl ⟨by kernel_rfl, ?_⟩) hS ?_
    · (intro u hSu; obtain ⟨s1, s2, s3, s4, s5, s6, s7⟩ := hSu; go_simp)
    refine wpAnyH_take (i := 16) (v := .bool true) rfl (by kernel_rfl) (by kernel_rfl) (by kernel_rfl) (fun _ _ _ h => h) (Or.inl ⟨by kernel_rfl, ?_⟩) hS ?_
    · (intro u hSu; obtain ⟨s1, s2, s3, s4, s5, s6, s7⟩ := hSu; go_simp)
    refine wpAnyH_ready (rs := [17]) (by kernel_rfl) (by simp) ?_
    refine AllReadyH.cons rfl (fun K hK => ?_) AllReadyH.nil
    go_simp
    refine hK.out _ _ (KB _ A3) ?_
    clear hK K hS
    intro hS
    refine wpAnyH_done (by kernel_rfl) ?_ _
    have HB9 := hid (HB.out.trans (A3.mono HB.out.size))
    go_wp2_with fail
    go_ret
    exact ⟨rfl, HB9.out⟩
  · go_wp2_with fail
    refine (kU _ m0).mono ?_
    rintro e v3 ⟨rfl, hb3⟩
    replace b0 := b0.trans (hb3.mono b0.size)
    replace m0 := m0.below hb3
    replace cw := cw.below hb3
    clear hb3 x0 x1
    have cp := Cls.new v3 #[.int .i64 tc, .bool tn, .int .u64 (M.hiN ts : Int), .int .u64 (M.loN ts : Int), .int .i64 tq] 29
    have hb := (Below.refl _ v3).alloc (Nat.le_refl _) (.cells #[.int .i64 tc, .bool tn, .int .u64 (M.hiN ts : Int), .int .u64 (M.loN ts : Int), .int .i64 tq] 29)
    replace b0 := b0.trans (hb.mono b0.size)
    replace m0 := m0.below hb
    replace cw := cw.below hb
    clear hb
    go_upto_region 4 with fail
    generalize (v3.alloc (.cells #[.int .i64 tc, .bool tn, .int .u64 (M.hiN ts : Int), .int .u64 (M.loN ts : Int), .int .i64 tq] 29)) = v4 at *
    generalize v3.heap.size = gp at *
    have x0 := cw.cell 0 rfl
    have x1 := cw.cell 1 rfl
    have p0 := cp.cell 0 rfl
    have p1 := cp.cell 1 rfl
    have p2 := cp.cell 2 rfl
    have p3 := cp.cell 3 rfl
    have p4 := cp.cell 4 rfl
    have D1 : ∀ v, Below v4.heap.size v4 v → (fun v : World => v.cell? ⟨gw, 0, none⟩ = some (.int .u64 (M.hiN X : Int)) ∧ v.cell? ⟨gw, 1, none⟩ = some (.int .u64 (M.loN X : Int)) ∧ v.cell? ⟨gp, 0, none⟩ = some (.int .i64 tc) ∧ v.cell? ⟨gp, 1, none⟩ = some (.bool tn) ∧ v.cell? ⟨gp, 2, none⟩ = some (.int .u64 (M.hiN ts : Int)) ∧ v.cell? ⟨gp, 3, none⟩ = some (.int .u64 (M.loN ts : Int)) ∧ v.cell? ⟨gp, 4, none⟩ = some (.int .i64 tq)) v := fun v hv => ⟨(cw.below hv).cell 0 rfl, (cw.below hv).cell 1 rfl, (cp.below hv).cell 0 rfl, (cp.below hv).cell 1 rfl, (cp.below hv).cell 2 rfl, (cp.below hv).cell 3 rfl, (cp.below hv).cell 4 rfl⟩
    have hrf : Below v4.heap.size v4 v4 := Below.refl _ _
    have hdr : Below v4.heap.size v4 v4.drew := (Below.refl _ _).drew
    clear x0 x1 p0 p1 p2 p3 p4
    go_wp2_with fail
    go_region_held3 (fun v : World => v.cell? ⟨gw, 0, none⟩ = some (.int .u64 (M.hiN X : Int)) ∧ v.cell? ⟨gw, 1, none⟩ = some (.int .u64 (M.loN X : Int)) ∧ v.cell? ⟨gp, 0, none⟩ = some (.int .i64 tc) ∧ v.cell? ⟨gp, 1, none⟩ = some (.bool tn) ∧ v.cell? ⟨gp, 2, none⟩ = some (.int .u64 (M.hiN ts : Int)) ∧ v.cell? ⟨gp, 3, none⟩ = some (.int .u64 (M.loN ts : Int)) ∧ v.cell? ⟨gp, 4, none⟩ = some (.int .i64 tq)) (with_reducible exact D1 _ (by assumption))
      (first | (go_at_call 7; refine (kS _).mono ?_; rintro e v5 ⟨rfl, hb5'⟩; have hb5 := hdr.trans (hb5'.mono (Nat.le_refl _)); clear hb5'))
    go_wp2_with fail
    replace b0 := b0.trans (hb5.mono b0.size)
    replace m0 := m0.below hb5
    replace cw := cw.below hb5
    replace cp := cp.below hb5
    clear D1 hrf hdr hb5
    refine (kP _ m0).mono ?_
    rintro e v6 ⟨rfl, hb6⟩
    replace b0 := b0.trans (hb6.mono b0.size)
    replace m0 := m0.below hb6
    replace cw := cw.below hb6
    replace cp := cp.below hb6
    clear hb6
    have cg := Cls.new v6 #[.int .u64 (M.hiN X : Int), .int .u64 (M.loN X : Int)] 25
    have hb := (Below.refl _ v6).alloc (Nat.le_refl _) (.cells #[.int .u64 (M.hiN X : Int), .int .u64 (M.loN X : Int)] 25)
    replace b0 := b0.trans (hb.mono b0.size)
    replace m0 := m0.below hb
    replace cw := cw.below hb
    replace cp := cp.below hb
    clear hb
    go_upto_region 8 with fail
    generalize (v6.alloc (.cells #[.int .u64 (M.hiN X : Int), .int .u64 (M.loN X : Int)] 25)) = v7 at *
    generalize v6.heap.size = gg at *
    have x0 := cw.cell 0 rfl
    have x1 := cw.cell 1 rfl
    have p0 := cp.cell 0 rfl
    have p1 := cp.cell 1 rfl
    have p2 := cp.cell 2 rfl
    have p3 := cp.cell 3 rfl
    have p4 := cp.cell 4 rfl
    have y0 := cg.cell 0 rfl
    have y1 := cg.cell 1 rfl
    have HB := hid b0
    clear b0
    go_wp2_with fail
    go_ret
    exact ⟨rfl, HB.out⟩

end Go.Proofs.YtodgblbaclionaaGreatDoor

