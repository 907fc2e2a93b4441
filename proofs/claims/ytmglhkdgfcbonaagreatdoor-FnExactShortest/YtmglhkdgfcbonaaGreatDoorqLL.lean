import Derived.OpenShut
import Derived.Test.YtmglhkdgfcbonaaGreatDoorqLB
namespace Go.Proofs.YtmglhkdgfcbonaaGreatDoor

open Go.RowKit

set_option linter.unusedVariables false
set_option maxRecDepth 100000

theorem below4t {w v : World} (h : Below w.heap.size w v) {g : Nat} (hg : w.heap.size ≤ g) (a b c d : Value) : Below w.heap.size w ((((v.setCell ⟨g, 0, none⟩ a).setCell ⟨g, 1, none⟩ b).setCell ⟨g, 2, none⟩ c).setCell ⟨g, 3, none⟩ d) :=
  (((h.setCell (p := ⟨g, 0, none⟩) hg _).setCell (p := ⟨g, 1, none⟩) hg _).setCell (p := ⟨g, 2, none⟩) hg _).setCell (p := ⟨g, 3, none⟩) hg _

set_option maxHeartbeats 1000000 in
set_option maxRecDepth 10000 in
theorem sshort_out0 (f : Int) (X : Nat) (T : M.Pt) (F : M.Fm) (w : World) (hp0 : F.p ≠ 0) (hc : T.c = 0)
    (kE : ∀ v : World, Calls Tryz.prog 29 #[.int .i64 f] v fun e w' => e = .returned (dv F) ∧ Below v.heap.size v w')
    (kU : ∀ v : World, Calls Tryz.prog 18 #[.int .i64 f, .agg #[.int .u64 (M.hiN X : Int), .int .u64 (M.loN X : Int)]] v fun e w' => e = .returned (pv T) ∧ Below v.heap.size v w') :
    Calls Tryz.prog 6 #[.int .i64 f, .agg #[.int .u64 (M.hiN X : Int), .int .u64 (M.loN X : Int)]] w fun e w' => ShR w w' e [] 0 false 3 := by
  obtain ⟨tc, tn, ts, tq⟩ := T
  simp only [dv, pv] at *
  have hp1 : ¬ (F.p : Int) = 0 := by omega
  subst hc
  have fd := fld_dp
  obtain ⟨cw, cr, b0⟩ := Cls.new2 w #[.int .u64 (M.hiN X : Int), .int .u64 (M.loN X : Int)] #[.slice none 0 0, .int .i64 0, .bool false, .int .i64 0] 29 27
  go_enter Tryz.func6, Tryz.ntmps6
  go_wp2_with fail
  refine (kE _).mono ?_
  rintro e v1 ⟨rfl, hb⟩
  replace cw := cw.below hb
  replace cr := cr.below hb
  replace b0 := b0.trans (hb.mono b0.size)
  clear hb
  have x0 := cw.cell 0 rfl
  have x1 := cw.cell 1 rfl
  go_wp2_with fail
  refine (kU _).mono ?_
  rintro e v2 ⟨rfl, hb⟩
  have cp := Cls.new v2 #[.int .i64 0, .bool tn, .int .u64 (M.hiN ts : Int), .int .u64 (M.loN ts : Int), .int .i64 tq] 42
  have hb2 : Below v2.heap.size v2 (v2.alloc (.cells #[.int .i64 0, .bool tn, .int .u64 (M.hiN ts : Int), .int .u64 (M.loN ts : Int), .int .i64 tq] 42)) := (Below.refl _ _).alloc (Nat.le_refl _) _
  replace hb := hb.trans (hb2.mono hb.size)
  replace cr := cr.below hb
  replace b0 := b0.trans (hb.mono b0.size)
  clear hb hb2 cw x0 x1
  go_upto_region 4 with fail
  generalize (v2.alloc (.cells #[.int .i64 0, .bool tn, .int .u64 (M.hiN ts : Int), .int .u64 (M.loN ts : Int), .int .i64 tq] 42)) = v3 at *
  generalize v2.heap.size = gp at *
  have p0 := cp.cell 0 rfl
  have p1 := cp.cell 1 rfl
  have p2 := cp.cell 2 rfl
  have p3 := cp.cell 3 rfl
  have p4 := cp.cell 4 rfl
  have r0 := cr.cell 0 rfl
  have r1 := cr.cell 1 rfl
  have r2 := cr.cell 2 rfl
  have r3 := cr.cell 3 rfl
  have z0 := cr.frozen 0
  have z1 := cr.frozen 1
  have z2 := cr.frozen 2
  have z3 := cr.frozen 3
  have lr : w.heap.size + 1 < v3.heap.size := cr.lt
  go_wp2_with fail
  exact bodyPost_ret (v := .agg #[.slice none 0 0, .int .i64 0, .bool false, .int .i64 3]) (by simp [results, Tryz.results6, go_sem, r0, r1, r2, r3]) rfl ⟨none, 0, rfl, RdY.nil _ _, below4t b0 (by omega) _ _ _ _⟩

set_option maxHeartbeats 1000000 in
set_option maxRecDepth 10000 in
theorem sshort_out1 (f : Int) (X : Nat) (T : M.Pt) (F : M.Fm) (w : World) (hp0 : F.p ≠ 0) (hc : T.c = 1)
    (kE : ∀ v : World, Calls Tryz.prog 29 #[.int .i64 f] v fun e w' => e = .returned (dv F) ∧ Below v.heap.size v w')
    (kU : ∀ v : World, Calls Tryz.prog 18 #[.int .i64 f, .agg #[.int .u64 (M.hiN X : Int), .int .u64 (M.loN X : Int)]] v fun e w' => e = .returned (pv T) ∧ Below v.heap.size v w') :
    Calls Tryz.prog 6 #[.int .i64 f, .agg #[.int .u64 (M.hiN X : Int), .int .u64 (M.loN X : Int)]] w fun e w' => ShR w w' e [] 0 T.n 0 := by
  obtain ⟨tc, tn, ts, tq⟩ := T
  simp only [dv, pv] at *
  have hp1 : ¬ (F.p : Int) = 0 := by omega
  subst hc
  have fd := fld_dp
  obtain ⟨cw, cr, b0⟩ := Cls.new2 w #[.int .u64 (M.hiN X : Int), .int .u64 (M.loN X : Int)] #[.slice none 0 0, .int .i64 0, .bool false, .int .i64 0] 29 27
  go_enter Tryz.func6, Tryz.ntmps6
  go_wp2_with fail
  refine (kE _).mono ?_
  rintro e v1 ⟨rfl, hb⟩
  replace cw := cw.below hb
  replace cr := cr.below hb
  replace b0 := b0.trans (hb.mono b0.size)
  clear hb
  have x0 := cw.cell 0 rfl
  have x1 := cw.cell 1 rfl
  go_wp2_with fail
  refine (kU _).mono ?_
  rintro e v2 ⟨rfl, hb⟩
  have cp := Cls.new v2 #[.int .i64 1, .bool tn, .int .u64 (M.hiN ts : Int), .int .u64 (M.loN ts : Int), .int .i64 tq] 42
  have hb2 : Below v2.heap.size v2 (v2.alloc (.cells #[.int .i64 1, .bool tn, .int .u64 (M.hiN ts : Int), .int .u64 (M.loN ts : Int), .int .i64 tq] 42)) := (Below.refl _ _).alloc (Nat.le_refl _) _
  replace hb := hb.trans (hb2.mono hb.size)
  replace cr := cr.below hb
  replace b0 := b0.trans (hb.mono b0.size)
  clear hb hb2 cw x0 x1
  go_upto_region 4 with fail
  generalize (v2.alloc (.cells #[.int .i64 1, .bool tn, .int .u64 (M.hiN ts : Int), .int .u64 (M.loN ts : Int), .int .i64 tq] 42)) = v3 at *
  generalize v2.heap.size = gp at *
  have p0 := cp.cell 0 rfl
  have p1 := cp.cell 1 rfl
  have p2 := cp.cell 2 rfl
  have p3 := cp.cell 3 rfl
  have p4 := cp.cell 4 rfl
  have r0 := cr.cell 0 rfl
  have r1 := cr.cell 1 rfl
  have r2 := cr.cell 2 rfl
  have r3 := cr.cell 3 rfl
  have z0 := cr.frozen 0
  have z1 := cr.frozen 1
  have z2 := cr.frozen 2
  have z3 := cr.frozen 3
  have lr : w.heap.size + 1 < v3.heap.size := cr.lt
  go_wp2_with fail
  exact bodyPost_ret (v := .agg #[.slice none 0 0, .int .i64 0, .bool tn, .int .i64 0]) (by simp [results, Tryz.results6, go_sem, r0, r1, r2, r3]) rfl ⟨none, 0, rfl, RdY.nil _ _, below4t b0 (by omega) _ _ _ _⟩

set_option maxHeartbeats 1000000 in
set_option maxRecDepth 10000 in
theorem sshort_out4 (f : Int) (X : Nat) (T : M.Pt) (F : M.Fm) (w : World) (hp0 : F.p ≠ 0) (hc : T.c = 4)
    (kE : ∀ v : World, Calls Tryz.prog 29 #[.int .i64 f] v fun e w' => e = .returned (dv F) ∧ Below v.heap.size v w')
    (kU : ∀ v : World, Calls Tryz.prog 18 #[.int .i64 f, .agg #[.int .u64 (M.hiN X : Int), .int .u64 (M.loN X : Int)]] v fun e w' => e = .returned (pv T) ∧ Below v.heap.size v w') :
    Calls Tryz.prog 6 #[.int .i64 f, .agg #[.int .u64 (M.hiN X : Int), .int .u64 (M.loN X : Int)]] w fun e w' => ShR w w' e [] 0 T.n 0 := by
  obtain ⟨tc, tn, ts, tq⟩ := T
  simp only [dv, pv] at *
  have hp1 : ¬ (F.p : Int) = 0 := by omega
  subst hc
  have fd := fld_dp
  obtain ⟨cw, cr, b0⟩ := Cls.new2 w #[.int .u64 (M.hiN X : Int), .int .u64 (M.loN X : Int)] #[.slice none 0 0, .int .i64 0, .bool false, .int .i64 0] 29 27
  go_enter Tryz.func6, Tryz.ntmps6
  go_wp2_with fail
  refine (kE _).mono ?_
  rintro e v1 ⟨rfl, hb⟩
  replace cw := cw.below hb
  replace cr := cr.below hb
  replace b0 := b0.trans (hb.mono b0.size)
  clear hb
  have x0 := cw.cell 0 rfl
  have x1 := cw.cell 1 rfl
  go_wp2_with fail
  refine (kU _).mono ?_
  rintro e v2 ⟨rfl, hb⟩
  have cp := Cls.new v2 #[.int .i64 4, .bool tn, .int .u64 (M.hiN ts : Int), .int .u64 (M.loN ts : Int), .int .i64 tq] 42
  have hb2 : Below v2.heap.size v2 (v2.alloc (.cells #[.int .i64 4, .bool tn, .int .u64 (M.hiN ts : Int), .int .u64 (M.loN ts : Int), .int .i64 tq] 42)) := (Below.refl _ _).alloc (Nat.le_refl _) _
  replace hb := hb.trans (hb2.mono hb.size)
  replace cr := cr.below hb
  replace b0 := b0.trans (hb.mono b0.size)
  clear hb hb2 cw x0 x1
  go_upto_region 4 with fail
  generalize (v2.alloc (.cells #[.int .i64 4, .bool tn, .int .u64 (M.hiN ts : Int), .int .u64 (M.loN ts : Int), .int .i64 tq] 42)) = v3 at *
  generalize v2.heap.size = gp at *
  have p0 := cp.cell 0 rfl
  have p1 := cp.cell 1 rfl
  have p2 := cp.cell 2 rfl
  have p3 := cp.cell 3 rfl
  have p4 := cp.cell 4 rfl
  have r0 := cr.cell 0 rfl
  have r1 := cr.cell 1 rfl
  have r2 := cr.cell 2 rfl
  have r3 := cr.cell 3 rfl
  have z0 := cr.frozen 0
  have z1 := cr.frozen 1
  have z2 := cr.frozen 2
  have z3 := cr.frozen 3
  have lr : w.heap.size + 1 < v3.heap.size := cr.lt
  go_wp2_with fail
  exact bodyPost_ret (v := .agg #[.slice none 0 0, .int .i64 0, .bool tn, .int .i64 0]) (by simp [results, Tryz.results6, go_sem, r0, r1, r2, r3]) rfl ⟨none, 0, rfl, RdY.nil _ _, below4t b0 (by omega) _ _ _ _⟩

set_option maxHeartbeats 1000000 in
set_option maxRecDepth 10000 in
theorem sshort_out5 (f : Int) (X : Nat) (T : M.Pt) (F : M.Fm) (w : World) (hp0 : F.p ≠ 0) (hc : T.c = 5)
    (kE : ∀ v : World, Calls Tryz.prog 29 #[.int .i64 f] v fun e w' => e = .returned (dv F) ∧ Below v.heap.size v w')
    (kU : ∀ v : World, Calls Tryz.prog 18 #[.int .i64 f, .agg #[.int .u64 (M.hiN X : Int), .int .u64 (M.loN X : Int)]] v fun e w' => e = .returned (pv T) ∧ Below v.heap.size v w') :
    Calls Tryz.prog 6 #[.int .i64 f, .agg #[.int .u64 (M.hiN X : Int), .int .u64 (M.loN X : Int)]] w fun e w' => ShR w w' e [] 0 T.n 0 := by
  obtain ⟨tc, tn, ts, tq⟩ := T
  simp only [dv, pv] at *
  have hp1 : ¬ (F.p : Int) = 0 := by omega
  subst hc
  have fd := fld_dp
  obtain ⟨cw, cr, b0⟩ := Cls.new2 w #[.int .u64 (M.hiN X : Int), .int .u64 (M.loN X : Int)] #[.slice none 0 0, .int .i64 0, .bool false, .int .i64 0] 29 27
  go_enter Tryz.func6, Tryz.ntmps6
  go_wp2_with fail
  refine (kE _).mono ?_
  rintro e v1 ⟨rfl, hb⟩
  replace cw := cw.below hb
  replace cr := cr.below hb
  replace b0 := b0.trans (hb.mono b0.size)
  clear hb
  have x0 := cw.cell 0 rfl
  have x1 := cw.cell 1 rfl
  go_wp2_with fail
  refine (kU _).mono ?_
  rintro e v2 ⟨rfl, hb⟩
  have cp := Cls.new v2 #[.int .i64 5, .bool tn, .int .u64 (M.hiN ts : Int), .int .u64 (M.loN ts : Int), .int .i64 tq] 42
  have hb2 : Below v2.heap.size v2 (v2.alloc (.cells #[.int .i64 5, .bool tn, .int .u64 (M.hiN ts : Int), .int .u64 (M.loN ts : Int), .int .i64 tq] 42)) := (Below.refl _ _).alloc (Nat.le_refl _) _
  replace hb := hb.trans (hb2.mono hb.size)
  replace cr := cr.below hb
  replace b0 := b0.trans (hb.mono b0.size)
  clear hb hb2 cw x0 x1
  go_upto_region 4 with fail
  generalize (v2.alloc (.cells #[.int .i64 5, .bool tn, .int .u64 (M.hiN ts : Int), .int .u64 (M.loN ts : Int), .int .i64 tq] 42)) = v3 at *
  generalize v2.heap.size = gp at *
  have p0 := cp.cell 0 rfl
  have p1 := cp.cell 1 rfl
  have p2 := cp.cell 2 rfl
  have p3 := cp.cell 3 rfl
  have p4 := cp.cell 4 rfl
  have r0 := cr.cell 0 rfl
  have r1 := cr.cell 1 rfl
  have r2 := cr.cell 2 rfl
  have r3 := cr.cell 3 rfl
  have z0 := cr.frozen 0
  have z1 := cr.frozen 1
  have z2 := cr.frozen 2
  have z3 := cr.frozen 3
  have lr : w.heap.size + 1 < v3.heap.size := cr.lt
  go_wp2_with fail
  exact bodyPost_ret (v := .agg #[.slice none 0 0, .int .i64 0, .bool tn, .int .i64 0]) (by simp [results, Tryz.results6, go_sem, r0, r1, r2, r3]) rfl ⟨none, 0, rfl, RdY.nil _ _, below4t b0 (by omega) _ _ _ _⟩

set_option maxHeartbeats 1000000 in
set_option maxRecDepth 10000 in
theorem sshort_no (f : Int) (hf : f < 0 ∨ 4 ≤ f) (X : Nat) (w : World) :
    Calls Tryz.prog 6 #[.int .i64 f, .agg #[.int .u64 (M.hiN X : Int), .int .u64 (M.loN X : Int)]] w fun e w' => ShR w w' e [] 0 false 4 := by
  have kE := fun v : World => sdescribeNo f v hf
  have fd := fld_dp
  obtain ⟨cw, cr, b0⟩ := Cls.new2 w #[.int .u64 (M.hiN X : Int), .int .u64 (M.loN X : Int)] #[.slice none 0 0, .int .i64 0, .bool false, .int .i64 0] 29 27
  go_enter Tryz.func6, Tryz.ntmps6
  go_wp2_with fail
  refine (kE _).mono ?_
  rintro e v1 ⟨rfl, hb⟩
  replace cr := cr.below hb
  replace b0 := b0.trans (hb.mono b0.size)
  clear hb cw
  have r0 := cr.cell 0 rfl
  have r1 := cr.cell 1 rfl
  have r2 := cr.cell 2 rfl
  have r3 := cr.cell 3 rfl
  have z0 := cr.frozen 0
  have z1 := cr.frozen 1
  have z2 := cr.frozen 2
  have z3 := cr.frozen 3
  have lr : w.heap.size + 1 < v1.heap.size := cr.lt
  go_wp2_with fail
  exact bodyPost_ret (v := .agg #[.slice none 0 0, .int .i64 0, .bool false, .int .i64 4]) (by simp [results, Tryz.results6, go_sem, r0, r1, r2, r3]) rfl ⟨none, 0, rfl, RdY.nil _ _, below4t b0 (by omega) _ _ _ _⟩

end Go.Proofs.YtmglhkdgfcbonaaGreatDoor

namespace Go.Proofs.YtmglhkdgfcbonaaGreatDoor

open Go.RowKit

set_option linter.unusedVariables false
set_option maxRecDepth 100000

theorem pick_len (t : M.Wd) (h : t.Ok) (r : Nat) : (M.sd (t.pick (t.X + r))).length ≤ 10000 := by
  have e0 : t.T (t.X + r) = t.T t.X / 10 ^ r := M.uT_add _ _ h.den_pos _ _
  have tb : t.pick (t.X + r) ≤ t.T t.X / 10 ^ r + 1 := by
    rw [← e0]
    unfold M.Wd.pick
    split
    · omega
    · split
      · omega
      · split <;> omega
  have q1 : t.pick (t.X + r) < 10 ^ 40 := by
    have := h.first.2.1
    have := Nat.div_le_self (t.T t.X) (10 ^ r)
    omega
  have := M.tl_len 40 _ q1
  have := M.sd_len (t.pick (t.X + r))
  omega

theorem lawShortest (f a b : Int) (w : World) (wf0 : (Lit.int .i64 f).wf = true) (wa : (Lit.int .u64 a).wf = true) (wb : (Lit.int .u64 b).wf = true) (h : Fmt w) :
    Calls Tryz.prog 3 #[.int .i64 f, .agg #[.int .u64 a, .int .u64 b]] w fun e w' => e = .returned (.bool true) ∧ Below w.heap.size w w' := by
  have ha := bounds_u64 wa
  have hb := bounds_u64 wb
  obtain ⟨x, rfl⟩ : ∃ x : Nat, a = (x : Int) := ⟨a.toNat, by omega⟩
  obtain ⟨y, rfl⟩ : ∃ y : Nat, b = (y : Int) := ⟨b.toNat, by omega⟩
  obtain ⟨X, hX, e1, e2⟩ : ∃ X : Nat, X < 2 ^ 128 ∧ (x : Int) = (M.hiN X : Int) ∧ (y : Int) = (M.loN X : Int) := ⟨x * 18446744073709551616 + y, by omega, by rw [M.hiOf x y (by omega)], by rw [M.loOf x y (by omega)]⟩
  rw [e1, e2]
  by_cases hf : 0 ≤ f ∧ f < 4
  · obtain ⟨k, rfl⟩ : ∃ k : Nat, f = (k : Int) := ⟨f.toNat, by omega⟩
    have hk : k < 4 := by omega
    have h' := M.fm_ok k
    obtain ⟨T, hT⟩ : ∃ T, T = (M.fm k).upk X := ⟨_, rfl⟩
    have hp := h'.upk_proper X
    rw [← hT] at hp
    have hp0 : (M.fm k).p ≠ 0 := by have := h'.p1; omega
    have kE := fun (v : World) (hv : Fmt v) => describe_ok k hk v hv
    have kK := fun v : World => dKnown (M.fm k) h' v
    have kU := fun v : World => unpack_any (M.fm k) h' X hX v
    have sE := fun v : World => sdescribe_ok k hk v
    have sU := fun v : World => sunpack_any k hk X hX v
    rw [← hT] at kU sU
    by_cases hc : T.c = 2 ∨ T.c = 3
    · have hpr : (M.fm k).Proper T := by
        rcases hp with hp | hp
        · rw [hp] at hc; simp at hc
        · exact hp
      obtain ⟨t, ht⟩ : ∃ t, t = wdOf (M.fm k) T := ⟨_, rfl⟩
      have hok := wd_ok h' (fin_of h' hpr hc)
      rw [← ht] at hok
      obtain ⟨r, br⟩ := hok.exists_best
      exact lawShKey _ _ _ _ _ _ _ w h (pick_len t hok r) (fun v => sshort_any k hk X hX v T hT hc t ht r br) (fun v hv => ishort_any k hk X hX v hv T hT hc t ht r br)
    · have hcc : T.c = 0 ∨ T.c = 1 ∨ T.c = 4 ∨ T.c = 5 := by
        rcases hp with hp | hp
        · rw [hp]; exact .inl rfl
        · unfold M.Fm.Proper at hp; omega
      rcases hcc with hc | hc | hc | hc
      · exact lawShKey _ _ _ [] _ _ _ w h (by simp) (fun v => sshort_out0 (k : Int) X T (M.fm k) v hp0 hc sE sU) (fun v hv => ishort_out0 (k : Int) X T (M.fm k) v hv hc kE kK kU)
      · exact lawShKey _ _ _ [] _ _ _ w h (by simp) (fun v => sshort_out1 (k : Int) X T (M.fm k) v hp0 hc sE sU) (fun v hv => ishort_out1 (k : Int) X T (M.fm k) v hv hc kE kK kU)
      · exact lawShKey _ _ _ [] _ _ _ w h (by simp) (fun v => sshort_out4 (k : Int) X T (M.fm k) v hp0 hc sE sU) (fun v hv => ishort_out4 (k : Int) X T (M.fm k) v hv hc kE kK kU)
      · exact lawShKey _ _ _ [] _ _ _ w h (by simp) (fun v => sshort_out5 (k : Int) X T (M.fm k) v hp0 hc sE sU) (fun v hv => ishort_out5 (k : Int) X T (M.fm k) v hv hc kE kK kU)
  · have hn : f < 0 ∨ 4 ≤ f := by omega
    exact lawShKey _ _ _ [] _ _ _ w h (by simp) (fun v => sshort_no f hn X v) (fun v hv => ishort_no f hn X v hv)

end Go.Proofs.YtmglhkdgfcbonaaGreatDoor

