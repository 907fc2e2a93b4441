import Derived.Test.YtodgblbaclionaaGreatDoorrBP
namespace Go.Proofs.YtodgblbaclionaaGreatDoor

open Go.RowKit

set_option linter.unusedVariables false
set_option maxRecDepth 100000

theorem fld_dp (a b c d e : Int) (x : Bool) (v : World) : Sem.run Tryz.prog (Instr.field 47 (.agg #[.int .i64 a, .int .i64 b, .int .i64 c, .int .i64 d, .int .i64 e, .bool x]) 0) v = .ok (.int .i64 a) v := by kernel_rfl

set_option maxRecDepth 10000 in
set_option maxHeartbeats 2000000 in
theorem sparse_no (f : Int) (hf : f < 0 ∨ 4 ≤ f) (ao : Option Addr) (n c : Nat) (w : World) :
    Calls Tryz.prog 10 #[.int .i64 f, .slice ao n c] w fun e w' => e = .returned (.agg #[.int .u64 0, .int .u64 0, .int .i64 4, .int .i64 0, .int .i64 0]) ∧ Below w.heap.size w w' := by
  have b0 : Below w.heap.size w (w.alloc (.cells zParP 34)) := (Below.refl _ _).alloc (Nat.le_refl _) _
  have c0 : Cls (w.alloc (.cells zParP 34)) w.heap.size zParP 34 := Cls.new _ _ _
  have fd := fld_dp
  go_enter Tryz.func10, Tryz.ntmps10
  go_wp2_with fail
  refine (sdescribeNo f _ hf).mono ?_
  rintro e v1 ⟨rfl, hb⟩
  replace b0 := b0.trans (hb.mono b0.size)
  replace c0 := c0.below hb
  clear hb
  have RB := hid (below5p b0 _ (Nat.le_refl _) (.int .u64 0) (.int .u64 0) (.int .i64 4) (.int .i64 0) (.int .i64 0))
  have x0 := c0.cell 0 rfl
  have x1 := c0.cell 1 rfl
  have x2 := c0.cell 2 rfl
  have x3 := c0.cell 3 rfl
  have x4 := c0.cell 4 rfl
  have z0 := c0.frozen 0
  have z1 := c0.frozen 1
  have z2 := c0.frozen 2
  have z3 := c0.frozen 3
  have z4 := c0.frozen 4
  clear b0 c0
  go_wp2_with fail
  exact bodyPost_ret (v := .agg #[.int .u64 0, .int .u64 0, .int .i64 4, .int .i64 0, .int .i64 0]) (by simp [results, Tryz.results10, go_sem, x0, x1, x2, x3, x4]) rfl ⟨rfl, RB.out⟩

set_option maxRecDepth 10000 in
set_option maxHeartbeats 4000000 in
theorem sparse_bad (f : Int) (ao : Option Addr) (n c : Nat) (w : World) (F : M.Fm) (hp0 : F.p ≠ 0)
    (kE : ∀ v : World, Calls Tryz.prog 19 #[.int .i64 f] v fun e w' => e = .returned (dv F) ∧ Below v.heap.size v w')
    (kd : Int) (ng : Bool) (dl : Nat) (ex cd off : Int) (he1 : -2000000 ≤ ex) (he2 : ex ≤ 2000000) (hdl : dl ≤ 10000) (OK : World → Option Addr → Nat → Prop) (okB : ∀ v v' a k, OK v a k → Below v.heap.size v v' → OK v' a k)
    (kS : ∀ v : World, Below w.heap.size w v → Calls Tryz.prog 30 #[.slice ao n c] v fun e w' => ∃ a cc, e = .returned (.agg #[.int .i64 kd, .bool ng, .slice a dl cc, .int .i64 ex, .int .i64 cd, .int .i64 off]) ∧ OK w' a cc ∧ Below v.heap.size v w')
    (hcd : cd ≠ 0) :
    Calls Tryz.prog 10 #[.int .i64 f, .slice ao n c] w fun e w' => e = .returned (.agg #[.int .u64 0, .int .u64 0, .int .i64 cd, .int .i64 off, .int .i64 0]) ∧ Below w.heap.size w w' := by
  simp only [dv] at kE
  have hp1 : ¬ (F.p : Int) = 0 := by omega
  have b0 : Below w.heap.size w (w.alloc (.cells zParP 34)) := (Below.refl _ _).alloc (Nat.le_refl _) _
  have c0 : Cls (w.alloc (.cells zParP 34)) w.heap.size zParP 34 := Cls.new _ _ _
  have fd := fld_dp
  go_enter Tryz.func10, Tryz.ntmps10
  go_wp2_with fail
  refine (kE _).mono ?_
  rintro e v1 ⟨rfl, hb⟩
  replace b0 := b0.trans (hb.mono b0.size)
  replace c0 := c0.below hb
  clear hb
  go_wp2_with fail
  refine (kS _ b0).mono ?_
  rintro e v2 ⟨a, cc, rfl, ho, hb⟩
  have cs := Cls.new v2 #[.int .i64 kd, .bool ng, .slice a dl cc, .int .i64 ex, .int .i64 cd, .int .i64 off] 66
  have hb2 : Below v2.heap.size v2 (v2.alloc (.cells #[.int .i64 kd, .bool ng, .slice a dl cc, .int .i64 ex, .int .i64 cd, .int .i64 off] 66)) := (Below.refl _ _).alloc (Nat.le_refl _) _
  replace ho := okB _ _ _ _ ho hb2
  replace hb := hb.trans (hb2.mono hb.size)
  replace b0 := b0.trans (hb.mono b0.size)
  replace c0 := c0.below hb
  clear hb hb2
  go_upto_region 4 with fail
  generalize (v2.alloc (.cells #[.int .i64 kd, .bool ng, .slice a dl cc, .int .i64 ex, .int .i64 cd, .int .i64 off] 66)) = v3 at *
  generalize v2.heap.size = gs at *
  have s0 := cs.cell 0 rfl
  have s1 := cs.cell 1 rfl
  have s2 := cs.cell 2 rfl
  have s3 := cs.cell 3 rfl
  have s4 := cs.cell 4 rfl
  have s5 := cs.cell 5 rfl
  have RB := hid (below5p b0 _ (Nat.le_refl _) (.int .u64 0) (.int .u64 0) (.int .i64 cd) (.int .i64 off) (.int .i64 0))
  have x0 := c0.cell 0 rfl
  have x1 := c0.cell 1 rfl
  have x2 := c0.cell 2 rfl
  have x3 := c0.cell 3 rfl
  have x4 := c0.cell 4 rfl
  have z0 := c0.frozen 0
  have z1 := c0.frozen 1
  have z2 := c0.frozen 2
  have z3 := c0.frozen 3
  have z4 := c0.frozen 4
  clear b0 c0
  go_wp2_with fail
  exact bodyPost_ret (v := .agg #[.int .u64 0, .int .u64 0, .int .i64 cd, .int .i64 off, .int .i64 0]) (by simp [results, Tryz.results10, go_sem, x0, x1, x2, x3, x4]) rfl ⟨rfl, RB.out⟩

set_option maxRecDepth 10000 in
set_option maxHeartbeats 4000000 in
theorem sparse_inf (f : Int) (ao : Option Addr) (n c : Nat) (w : World) (F : M.Fm) (hp0 : F.p ≠ 0)
    (kE : ∀ v : World, Calls Tryz.prog 19 #[.int .i64 f] v fun e w' => e = .returned (dv F) ∧ Below v.heap.size v w')
    (kd : Int) (ng : Bool) (dl : Nat) (ex cd off : Int) (he1 : -2000000 ≤ ex) (he2 : ex ≤ 2000000) (hdl : dl ≤ 10000) (OK : World → Option Addr → Nat → Prop) (okB : ∀ v v' a k, OK v a k → Below v.heap.size v v' → OK v' a k)
    (kS : ∀ v : World, Below w.heap.size w v → Calls Tryz.prog 30 #[.slice ao n c] v fun e w' => ∃ a cc, e = .returned (.agg #[.int .i64 kd, .bool ng, .slice a dl cc, .int .i64 ex, .int .i64 cd, .int .i64 off]) ∧ OK w' a cc ∧ Below v.heap.size v w')
    (hcd : cd = 0) (hk : kd = 2) (h l : Int) (okb : Bool) (kP : ∀ v : World, Calls Tryz.prog 36 #[.int .i64 f, .agg #[.int .i64 4, .bool ng, .int .u64 0, .int .u64 0, .int .i64 0]] v fun e w' => e = .returned (.tuple #[.agg #[.int .u64 h, .int .u64 l], .bool okb]) ∧ Below v.heap.size v w') :
    Calls Tryz.prog 10 #[.int .i64 f, .slice ao n c] w fun e w' => e = .returned (.agg #[.int .u64 h, .int .u64 l, .int .i64 0, .int .i64 0, .int .i64 0]) ∧ Below w.heap.size w w' := by
  simp only [dv] at kE
  have hp1 : ¬ (F.p : Int) = 0 := by omega
  subst hcd
  subst hk
  have b0 : Below w.heap.size w (w.alloc (.cells zParP 34)) := (Below.refl _ _).alloc (Nat.le_refl _) _
  have c0 : Cls (w.alloc (.cells zParP 34)) w.heap.size zParP 34 := Cls.new _ _ _
  have fd := fld_dp
  go_enter Tryz.func10, Tryz.ntmps10
  go_wp2_with fail
  refine (kE _).mono ?_
  rintro e v1 ⟨rfl, hb⟩
  replace b0 := b0.trans (hb.mono b0.size)
  replace c0 := c0.below hb
  clear hb
  go_wp2_with fail
  refine (kS _ b0).mono ?_
  rintro e v2 ⟨a, cc, rfl, ho, hb⟩
  have cs := Cls.new v2 #[.int .i64 2, .bool ng, .slice a dl cc, .int .i64 ex, .int .i64 0, .int .i64 off] 66
  have hb2 : Below v2.heap.size v2 (v2.alloc (.cells #[.int .i64 2, .bool ng, .slice a dl cc, .int .i64 ex, .int .i64 0, .int .i64 off] 66)) := (Below.refl _ _).alloc (Nat.le_refl _) _
  replace ho := okB _ _ _ _ ho hb2
  replace hb := hb.trans (hb2.mono hb.size)
  replace b0 := b0.trans (hb.mono b0.size)
  replace c0 := c0.below hb
  clear hb hb2
  go_upto_region 4 with fail
  generalize (v2.alloc (.cells #[.int .i64 2, .bool ng, .slice a dl cc, .int .i64 ex, .int .i64 0, .int .i64 off] 66)) = v3 at *
  generalize v2.heap.size = gs at *
  have s0 := cs.cell 0 rfl
  have s1 := cs.cell 1 rfl
  have s2 := cs.cell 2 rfl
  have s3 := cs.cell 3 rfl
  have s4 := cs.cell 4 rfl
  have s5 := cs.cell 5 rfl
  have cD := Cls.new v3 #[.int .i64 2, .bool ng, .slice a dl cc, .int .i64 ex] 61
  have hb : Below v3.heap.size v3 (v3.alloc (.cells #[.int .i64 2, .bool ng, .slice a dl cc, .int .i64 ex] 61)) := (Below.refl _ _).alloc (Nat.le_refl _) _
  replace ho := okB _ _ _ _ ho hb
  replace b0 := b0.trans (hb.mono b0.size)
  replace c0 := c0.below hb
  clear hb
  go_upto_region 9 with fail
  generalize (v3.alloc (.cells #[.int .i64 2, .bool ng, .slice a dl cc, .int .i64 ex] 61)) = v4 at *
  generalize v3.heap.size = gd at *
  have t0 := cD.cell 0 rfl
  have t1 := cD.cell 1 rfl
  have t2 := cD.cell 2 rfl
  have t3 := cD.cell 3 rfl
  go_wp2_with fail
  refine (kP _).mono ?_
  rintro e v5 ⟨rfl, hb⟩
  have cW := Cls.new v5 #[.int .u64 h, .int .u64 l] 25
  have hb2 : Below v5.heap.size v5 (v5.alloc (.cells #[.int .u64 h, .int .u64 l] 25)) := (Below.refl _ _).alloc (Nat.le_refl _) _
  replace hb := hb.trans (hb2.mono hb.size)
  replace b0 := b0.trans (hb.mono b0.size)
  replace c0 := c0.below hb
  clear hb hb2 s0 s1 s2 s3 s4 s5 t0 t1 t2 t3
  go_upto_region 28 with fail
  generalize (v5.alloc (.cells #[.int .u64 h, .int .u64 l] 25)) = v6 at *
  generalize v5.heap.size = gw at *
  have y0 := cW.cell 0 rfl
  have y1 := cW.cell 1 rfl
  have RB := hid (below5p b0 _ (Nat.le_refl _) (.int .u64 h) (.int .u64 l) (.int .i64 0) (.int .i64 0) (.int .i64 0))
  have x0 := c0.cell 0 rfl
  have x1 := c0.cell 1 rfl
  have x2 := c0.cell 2 rfl
  have x3 := c0.cell 3 rfl
  have x4 := c0.cell 4 rfl
  have z0 := c0.frozen 0
  have z1 := c0.frozen 1
  have z2 := c0.frozen 2
  have z3 := c0.frozen 3
  have z4 := c0.frozen 4
  clear b0 c0
  go_wp2_with fail
  exact bodyPost_ret (v := .agg #[.int .u64 h, .int .u64 l, .int .i64 0, .int .i64 0, .int .i64 0]) (by simp [results, Tryz.results10, go_sem, x0, x1, x2, x3, x4]) rfl ⟨rfl, RB.out⟩

set_option maxRecDepth 10000 in
set_option maxHeartbeats 4000000 in
theorem sparse_nan (f : Int) (ao : Option Addr) (n c : Nat) (w : World) (F : M.Fm) (hp0 : F.p ≠ 0)
    (kE : ∀ v : World, Calls Tryz.prog 19 #[.int .i64 f] v fun e w' => e = .returned (dv F) ∧ Below v.heap.size v w')
    (kd : Int) (ng : Bool) (dl : Nat) (ex cd off : Int) (he1 : -2000000 ≤ ex) (he2 : ex ≤ 2000000) (hdl : dl ≤ 10000) (OK : World → Option Addr → Nat → Prop) (okB : ∀ v v' a k, OK v a k → Below v.heap.size v v' → OK v' a k)
    (kS : ∀ v : World, Below w.heap.size w v → Calls Tryz.prog 30 #[.slice ao n c] v fun e w' => ∃ a cc, e = .returned (.agg #[.int .i64 kd, .bool ng, .slice a dl cc, .int .i64 ex, .int .i64 cd, .int .i64 off]) ∧ OK w' a cc ∧ Below v.heap.size v w')
    (hcd : cd = 0) (hk : kd = 3) (h l : Int) (okb : Bool) (kP : ∀ v : World, Calls Tryz.prog 36 #[.int .i64 f, .agg #[.int .i64 5, .bool ng, .int .u64 0, .int .u64 0, .int .i64 0]] v fun e w' => e = .returned (.tuple #[.agg #[.int .u64 h, .int .u64 l], .bool okb]) ∧ Below v.heap.size v w') :
    Calls Tryz.prog 10 #[.int .i64 f, .slice ao n c] w fun e w' => e = .returned (.agg #[.int .u64 h, .int .u64 l, .int .i64 0, .int .i64 0, .int .i64 0]) ∧ Below w.heap.size w w' := by
  simp only [dv] at kE
  have hp1 : ¬ (F.p : Int) = 0 := by omega
  subst hcd
  subst hk
  have b0 : Below w.heap.size w (w.alloc (.cells zParP 34)) := (Below.refl _ _).alloc (Nat.le_refl _) _
  have c0 : Cls (w.alloc (.cells zParP 34)) w.heap.size zParP 34 := Cls.new _ _ _
  have fd := fld_dp
  go_enter Tryz.func10, Tryz.ntmps10
  go_wp2_with fail
  refine (kE _).mono ?_
  rintro e v1 ⟨rfl, hb⟩
  replace b0 := b0.trans (hb.mono b0.size)
  replace c0 := c0.below hb
  clear hb
  go_wp2_with fail
  refine (kS _ b0).mono ?_
  rintro e v2 ⟨a, cc, rfl, ho, hb⟩
  have cs := Cls.new v2 #[.int .i64 3, .bool ng, .slice a dl cc, .int .i64 ex, .int .i64 0, .int .i64 off] 66
  have hb2 : Below v2.heap.size v2 (v2.alloc (.cells #[.int .i64 3, .bool ng, .slice a dl cc, .int .i64 ex, .int .i64 0, .int .i64 off] 66)) := (Below.refl _ _).alloc (Nat.le_refl _) _
  replace ho := okB _ _ _ _ ho hb2
  replace hb := hb.trans (hb2.mono hb.size)
  replace b0 := b0.trans (hb.mono b0.size)
  replace c0 := c0.below hb
  clear hb hb2
  go_upto_region 4 with fail
  generalize (v2.alloc (.cells #[.int .i64 3, .bool ng, .slice a dl cc, .int .i64 ex, .int .i64 0, .int .i64 off] 66)) = v3 at *
  generalize v2.heap.size = gs at *
  have s0 := cs.cell 0 rfl
  have s1 := cs.cell 1 rfl
  have s2 := cs.cell 2 rfl
  have s3 := cs.cell 3 rfl
  have s4 := cs.cell 4 rfl
  have s5 := cs.cell 5 rfl
  have cD := Cls.new v3 #[.int .i64 3, .bool ng, .slice a dl cc, .int .i64 ex] 61
  have hb : Below v3.heap.size v3 (v3.alloc (.cells #[.int .i64 3, .bool ng, .slice a dl cc, .int .i64 ex] 61)) := (Below.refl _ _).alloc (Nat.le_refl _) _
  replace ho := okB _ _ _ _ ho hb
  replace b0 := b0.trans (hb.mono b0.size)
  replace c0 := c0.below hb
  clear hb
  go_upto_region 9 with fail
  generalize (v3.alloc (.cells #[.int .i64 3, .bool ng, .slice a dl cc, .int .i64 ex] 61)) = v4 at *
  generalize v3.heap.size = gd at *
  have t0 := cD.cell 0 rfl
  have t1 := cD.cell 1 rfl
  have t2 := cD.cell 2 rfl
  have t3 := cD.cell 3 rfl
  go_wp2_with fail
  refine (kP _).mono ?_
  rintro e v5 ⟨rfl, hb⟩
  have cW := Cls.new v5 #[.int .u64 h, .int .u64 l] 25
  have hb2 : Below v5.heap.size v5 (v5.alloc (.cells #[.int .u64 h, .int .u64 l] 25)) := (Below.refl _ _).alloc (Nat.le_refl _) _
  replace hb := hb.trans (hb2.mono hb.size)
  replace b0 := b0.trans (hb.mono b0.size)
  replace c0 := c0.below hb
  clear hb hb2 s0 s1 s2 s3 s4 s5 t0 t1 t2 t3
  go_upto_region 28 with fail
  generalize (v5.alloc (.cells #[.int .u64 h, .int .u64 l] 25)) = v6 at *
  generalize v5.heap.size = gw at *
  have y0 := cW.cell 0 rfl
  have y1 := cW.cell 1 rfl
  have RB := hid (below5p b0 _ (Nat.le_refl _) (.int .u64 h) (.int .u64 l) (.int .i64 0) (.int .i64 0) (.int .i64 0))
  have x0 := c0.cell 0 rfl
  have x1 := c0.cell 1 rfl
  have x2 := c0.cell 2 rfl
  have x3 := c0.cell 3 rfl
  have x4 := c0.cell 4 rfl
  have z0 := c0.frozen 0
  have z1 := c0.frozen 1
  have z2 := c0.frozen 2
  have z3 := c0.frozen 3
  have z4 := c0.frozen 4
  clear b0 c0
  go_wp2_with fail
  exact bodyPost_ret (v := .agg #[.int .u64 h, .int .u64 l, .int .i64 0, .int .i64 0, .int .i64 0]) (by simp [results, Tryz.results10, go_sem, x0, x1, x2, x3, x4]) rfl ⟨rfl, RB.out⟩

set_option maxRecDepth 10000 in
set_option maxHeartbeats 4000000 in
theorem sparse_zero (f : Int) (ao : Option Addr) (n c : Nat) (w : World) (F : M.Fm) (hp0 : F.p ≠ 0)
    (kE : ∀ v : World, Calls Tryz.prog 19 #[.int .i64 f] v fun e w' => e = .returned (dv F) ∧ Below v.heap.size v w')
    (kd : Int) (ng : Bool) (dl : Nat) (ex cd off : Int) (he1 : -2000000 ≤ ex) (he2 : ex ≤ 2000000) (hdl : dl ≤ 10000) (OK : World → Option Addr → Nat → Prop) (okB : ∀ v v' a k, OK v a k → Below v.heap.size v v' → OK v' a k)
    (kS : ∀ v : World, Below w.heap.size w v → Calls Tryz.prog 30 #[.slice ao n c] v fun e w' => ∃ a cc, e = .returned (.agg #[.int .i64 kd, .bool ng, .slice a dl cc, .int .i64 ex, .int .i64 cd, .int .i64 off]) ∧ OK w' a cc ∧ Below v.heap.size v w')
    (hcd : cd = 0) (hk : kd ≠ 2) (hk3 : kd ≠ 3) (hd0 : dl = 0) (h l : Int) (okb : Bool) (kP : ∀ v : World, Calls Tryz.prog 36 #[.int .i64 f, .agg #[.int .i64 1, .bool ng, .int .u64 0, .int .u64 0, .int .i64 0]] v fun e w' => e = .returned (.tuple #[.agg #[.int .u64 h, .int .u64 l], .bool okb]) ∧ Below v.heap.size v w') :
    Calls Tryz.prog 10 #[.int .i64 f, .slice ao n c] w fun e w' => e = .returned (.agg #[.int .u64 h, .int .u64 l, .int .i64 0, .int .i64 0, .int .i64 0]) ∧ Below w.heap.size w w' := by
  simp only [dv] at kE
  have hp1 : ¬ (F.p : Int) = 0 := by omega
  subst hcd
  subst hd0
  have b0 : Below w.heap.size w (w.alloc (.cells zParP 34)) := (Below.refl _ _).alloc (Nat.le_refl _) _
  have c0 : Cls (w.alloc (.cells zParP 34)) w.heap.size zParP 34 := Cls.new _ _ _
  have fd := fld_dp
  go_enter Tryz.func10, Tryz.ntmps10
  go_wp2_with fail
  refine (kE _).mono ?_
  rintro e v1 ⟨rfl, hb⟩
  replace b0 := b0.trans (hb.mono b0.size)
  replace c0 := c0.below hb
  clear hb
  go_wp2_with fail
  refine (kS _ b0).mono ?_
  rintro e v2 ⟨a, cc, rfl, ho, hb⟩
  have cs := Cls.new v2 #[.int .i64 kd, .bool ng, .slice a 0 cc, .int .i64 ex, .int .i64 0, .int .i64 off] 66
  have hb2 : Below v2.heap.size v2 (v2.alloc (.cells #[.int .i64 kd, .bool ng, .slice a 0 cc, .int .i64 ex, .int .i64 0, .int .i64 off] 66)) := (Below.refl _ _).alloc (Nat.le_refl _) _
  replace ho := okB _ _ _ _ ho hb2
  replace hb := hb.trans (hb2.mono hb.size)
  replace b0 := b0.trans (hb.mono b0.size)
  replace c0 := c0.below hb
  clear hb hb2
  go_upto_region 4 with fail
  generalize (v2.alloc (.cells #[.int .i64 kd, .bool ng, .slice a 0 cc, .int .i64 ex, .int .i64 0, .int .i64 off] 66)) = v3 at *
  generalize v2.heap.size = gs at *
  have s0 := cs.cell 0 rfl
  have s1 := cs.cell 1 rfl
  have s2 := cs.cell 2 rfl
  have s3 := cs.cell 3 rfl
  have s4 := cs.cell 4 rfl
  have s5 := cs.cell 5 rfl
  have cD := Cls.new v3 #[.int .i64 kd, .bool ng, .slice a 0 cc, .int .i64 ex] 61
  have hb : Below v3.heap.size v3 (v3.alloc (.cells #[.int .i64 kd, .bool ng, .slice a 0 cc, .int .i64 ex] 61)) := (Below.refl _ _).alloc (Nat.le_refl _) _
  replace ho := okB _ _ _ _ ho hb
  replace b0 := b0.trans (hb.mono b0.size)
  replace c0 := c0.below hb
  clear hb
  go_upto_region 9 with fail
  generalize (v3.alloc (.cells #[.int .i64 kd, .bool ng, .slice a 0 cc, .int .i64 ex] 61)) = v4 at *
  generalize v3.heap.size = gd at *
  have t0 := cD.cell 0 rfl
  have t1 := cD.cell 1 rfl
  have t2 := cD.cell 2 rfl
  have t3 := cD.cell 3 rfl
  go_wp2_with fail
  refine (kP _).mono ?_
  rintro e v5 ⟨rfl, hb⟩
  have cW := Cls.new v5 #[.int .u64 h, .int .u64 l] 25
  have hb2 : Below v5.heap.size v5 (v5.alloc (.cells #[.int .u64 h, .int .u64 l] 25)) := (Below.refl _ _).alloc (Nat.le_refl _) _
  replace hb := hb.trans (hb2.mono hb.size)
  replace b0 := b0.trans (hb.mono b0.size)
  replace c0 := c0.below hb
  clear hb hb2 s0 s1 s2 s3 s4 s5 t0 t1 t2 t3
  go_upto_region 28 with fail
  generalize (v5.alloc (.cells #[.int .u64 h, .int .u64 l] 25)) = v6 at *
  generalize v5.heap.size = gw at *
  have y0 := cW.cell 0 rfl
  have y1 := cW.cell 1 rfl
  have RB := hid (below5p b0 _ (Nat.le_refl _) (.int .u64 h) (.int .u64 l) (.int .i64 0) (.int .i64 0) (.int .i64 0))
  have x0 := c0.cell 0 rfl
  have x1 := c0.cell 1 rfl
  have x2 := c0.cell 2 rfl
  have x3 := c0.cell 3 rfl
  have x4 := c0.cell 4 rfl
  have z0 := c0.frozen 0
  have z1 := c0.frozen 1
  have z2 := c0.frozen 2
  have z3 := c0.frozen 3
  have z4 := c0.frozen 4
  clear b0 c0
  go_wp2_with fail
  exact bodyPost_ret (v := .agg #[.int .u64 h, .int .u64 l, .int .i64 0, .int .i64 0, .int .i64 0]) (by simp [results, Tryz.results10, go_sem, x0, x1, x2, x3, x4]) rfl ⟨rfl, RB.out⟩

set_option maxRecDepth 10000 in
set_option maxHeartbeats 4000000 in
theorem sparse_big (f : Int) (ao : Option Addr) (n c : Nat) (w : World) (F : M.Fm) (hp0 : F.p ≠ 0)
    (kE : ∀ v : World, Calls Tryz.prog 19 #[.int .i64 f] v fun e w' => e = .returned (dv F) ∧ Below v.heap.size v w')
    (kd : Int) (ng : Bool) (dl : Nat) (ex cd off : Int) (he1 : -2000000 ≤ ex) (he2 : ex ≤ 2000000) (hdl : dl ≤ 10000) (OK : World → Option Addr → Nat → Prop) (okB : ∀ v v' a k, OK v a k → Below v.heap.size v v' → OK v' a k)
    (kS : ∀ v : World, Below w.heap.size w v → Calls Tryz.prog 30 #[.slice ao n c] v fun e w' => ∃ a cc, e = .returned (.agg #[.int .i64 kd, .bool ng, .slice a dl cc, .int .i64 ex, .int .i64 cd, .int .i64 off]) ∧ OK w' a cc ∧ Below v.heap.size v w')
    (hcd : cd = 0) (hk : kd ≠ 2) (hk3 : kd ≠ 3) (hd0 : dl ≠ 0) (hpl : 5000 < (dl : Int) + ex) (h l : Int) (okb : Bool) (kP : ∀ v : World, Calls Tryz.prog 36 #[.int .i64 f, .agg #[.int .i64 4, .bool ng, .int .u64 0, .int .u64 0, .int .i64 0]] v fun e w' => e = .returned (.tuple #[.agg #[.int .u64 h, .int .u64 l], .bool okb]) ∧ Below v.heap.size v w') :
    Calls Tryz.prog 10 #[.int .i64 f, .slice ao n c] w fun e w' => e = .returned (.agg #[.int .u64 h, .int .u64 l, .int .i64 0, .int .i64 0, .int .i64 1]) ∧ Below w.heap.size w w' := by
  simp only [dv] at kE
  have hp1 : ¬ (F.p : Int) = 0 := by omega
  subst hcd
  have hd0' : ¬ (dl : Int) = 0 := by omega
  have b0 : Below w.heap.size w (w.alloc (.cells zParP 34)) := (Below.refl _ _).alloc (Nat.le_refl _) _
  have c0 : Cls (w.alloc (.cells zParP 34)) w.heap.size zParP 34 := Cls.new _ _ _
  have fd := fld_dp
  go_enter Tryz.func10, Tryz.ntmps10
  go_wp2_with fail
  refine (kE _).mono ?_
  rintro e v1 ⟨rfl, hb⟩
  replace b0 := b0.trans (hb.mono b0.size)
  replace c0 := c0.below hb
  clear hb
  go_wp2_with fail
  refine (kS _ b0).mono ?_
  rintro e v2 ⟨a, cc, rfl, ho, hb⟩
  have cs := Cls.new v2 #[.int .i64 kd, .bool ng, .slice a dl cc, .int .i64 ex, .int .i64 0, .int .i64 off] 66
  have hb2 : Below v2.heap.size v2 (v2.alloc (.cells #[.int .i64 kd, .bool ng, .slice a dl cc, .int .i64 ex, .int .i64 0, .int .i64 off] 66)) := (Below.refl _ _).alloc (Nat.le_refl _) _
  replace ho := okB _ _ _ _ ho hb2
  replace hb := hb.trans (hb2.mono hb.size)
  replace b0 := b0.trans (hb.mono b0.size)
  replace c0 := c0.below hb
  clear hb hb2
  go_upto_region 4 with fail
  generalize (v2.alloc (.cells #[.int .i64 kd, .bool ng, .slice a dl cc, .int .i64 ex, .int .i64 0, .int .i64 off] 66)) = v3 at *
  generalize v2.heap.size = gs at *
  have s0 := cs.cell 0 rfl
  have s1 := cs.cell 1 rfl
  have s2 := cs.cell 2 rfl
  have s3 := cs.cell 3 rfl
  have s4 := cs.cell 4 rfl
  have s5 := cs.cell 5 rfl
  have cD := Cls.new v3 #[.int .i64 kd, .bool ng, .slice a dl cc, .int .i64 ex] 61
  have hb : Below v3.heap.size v3 (v3.alloc (.cells #[.int .i64 kd, .bool ng, .slice a dl cc, .int .i64 ex] 61)) := (Below.refl _ _).alloc (Nat.le_refl _) _
  replace ho := okB _ _ _ _ ho hb
  replace b0 := b0.trans (hb.mono b0.size)
  replace c0 := c0.below hb
  clear hb
  go_upto_region 9 with fail
  generalize (v3.alloc (.cells #[.int .i64 kd, .bool ng, .slice a dl cc, .int .i64 ex] 61)) = v4 at *
  generalize v3.heap.size = gd at *
  have t0 := cD.cell 0 rfl
  have t1 := cD.cell 1 rfl
  have t2 := cD.cell 2 rfl
  have t3 := cD.cell 3 rfl
  go_wp2_with fail
  refine (kP _).mono ?_
  rintro e v5 ⟨rfl, hb⟩
  have cW := Cls.new v5 #[.int .u64 h, .int .u64 l] 25
  have hb2 : Below v5.heap.size v5 (v5.alloc (.cells #[.int .u64 h, .int .u64 l] 25)) := (Below.refl _ _).alloc (Nat.le_refl _) _
  replace hb := hb.trans (hb2.mono hb.size)
  replace b0 := b0.trans (hb.mono b0.size)
  replace c0 := c0.below hb
  clear hb hb2 s0 s1 s2 s3 s4 s5 t0 t1 t2 t3
  go_upto_region 28 with fail
  generalize (v5.alloc (.cells #[.int .u64 h, .int .u64 l] 25)) = v6 at *
  generalize v5.heap.size = gw at *
  have y0 := cW.cell 0 rfl
  have y1 := cW.cell 1 rfl
  have RB := hid (below5p b0 _ (Nat.le_refl _) (.int .u64 h) (.int .u64 l) (.int .i64 0) (.int .i64 0) (.int .i64 1))
  have x0 := c0.cell 0 rfl
  have x1 := c0.cell 1 rfl
  have x2 := c0.cell 2 rfl
  have x3 := c0.cell 3 rfl
  have x4 := c0.cell 4 rfl
  have z0 := c0.frozen 0
  have z1 := c0.frozen 1
  have z2 := c0.frozen 2
  have z3 := c0.frozen 3
  have z4 := c0.frozen 4
  clear b0 c0
  go_wp2_with fail
  exact bodyPost_ret (v := .agg #[.int .u64 h, .int .u64 l, .int .i64 0, .int .i64 0, .int .i64 1]) (by simp [results, Tryz.results10, go_sem, x0, x1, x2, x3, x4]) rfl ⟨rfl, RB.out⟩

set_option maxRecDepth 10000 in
set_option maxHeartbeats 4000000 in
theorem sparse_small (f : Int) (ao : Option Addr) (n c : Nat) (w : World) (F : M.Fm) (hp0 : F.p ≠ 0)
    (kE : ∀ v : World, Calls Tryz.prog 19 #[.int .i64 f] v fun e w' => e = .returned (dv F) ∧ Below v.heap.size v w')
    (kd : Int) (ng : Bool) (dl : Nat) (ex cd off : Int) (he1 : -2000000 ≤ ex) (he2 : ex ≤ 2000000) (hdl : dl ≤ 10000) (OK : World → Option Addr → Nat → Prop) (okB : ∀ v v' a k, OK v a k → Below v.heap.size v v' → OK v' a k)
    (kS : ∀ v : World, Below w.heap.size w v → Calls Tryz.prog 30 #[.slice ao n c] v fun e w' => ∃ a cc, e = .returned (.agg #[.int .i64 kd, .bool ng, .slice a dl cc, .int .i64 ex, .int .i64 cd, .int .i64 off]) ∧ OK w' a cc ∧ Below v.heap.size v w')
    (hcd : cd = 0) (hk : kd ≠ 2) (hk3 : kd ≠ 3) (hd0 : dl ≠ 0) (hpl : (dl : Int) + ex < -5100) (h l : Int) (okb : Bool) (kP : ∀ v : World, Calls Tryz.prog 36 #[.int .i64 f, .agg #[.int .i64 1, .bool ng, .int .u64 0, .int .u64 0, .int .i64 0]] v fun e w' => e = .returned (.tuple #[.agg #[.int .u64 h, .int .u64 l], .bool okb]) ∧ Below v.heap.size v w') :
    Calls Tryz.prog 10 #[.int .i64 f, .slice ao n c] w fun e w' => e = .returned (.agg #[.int .u64 h, .int .u64 l, .int .i64 0, .int .i64 0, .int .i64 2]) ∧ Below w.heap.size w w' := by
  simp only [dv] at kE
  have hp1 : ¬ (F.p : Int) = 0 := by omega
  subst hcd
  have hd0' : ¬ (dl : Int) = 0 := by omega
  have hpl' : ¬ 5000 < (dl : Int) + ex := by omega
  have b0 : Below w.heap.size w (w.alloc (.cells zParP 34)) := (Below.refl _ _).alloc (Nat.le_refl _) _
  have c0 : Cls (w.alloc (.cells zParP 34)) w.heap.size zParP 34 := Cls.new _ _ _
  have fd := fld_dp
  go_enter Tryz.func10, Tryz.ntmps10
  go_wp2_with fail
  refine (kE _).mono ?_
  rintro e v1 ⟨rfl, hb⟩
  replace b0 := b0.trans (hb.mono b0.size)
  replace c0 := c0.below hb
  clear hb
  go_wp2_with fail
  refine (kS _ b0).mono ?_
  rintro e v2 ⟨a, cc, rfl, ho, hb⟩
  have cs := Cls.new v2 #[.int .i64 kd, .bool ng, .slice a dl cc, .int .i64 ex, .int .i64 0, .int .i64 off] 66
  have hb2 : Below v2.heap.size v2 (v2.alloc (.cells #[.int .i64 kd, .bool ng, .slice a dl cc, .int .i64 ex, .int .i64 0, .int .i64 off] 66)) := (Below.refl _ _).alloc (Nat.le_refl _) _
  replace ho := okB _ _ _ _ ho hb2
  replace hb := hb.trans (hb2.mono hb.size)
  replace b0 := b0.trans (hb.mono b0.size)
  replace c0 := c0.below hb
  clear hb hb2
  go_upto_region 4 with fail
  generalize (v2.alloc (.cells #[.int .i64 kd, .bool ng, .slice a dl cc, .int .i64 ex, .int .i64 0, .int .i64 off] 66)) = v3 at *
  generalize v2.heap.size = gs at *
  have s0 := cs.cell 0 rfl
  have s1 := cs.cell 1 rfl
  have s2 := cs.cell 2 rfl
  have s3 := cs.cell 3 rfl
  have s4 := cs.cell 4 rfl
  have s5 := cs.cell 5 rfl
  have cD := Cls.new v3 #[.int .i64 kd, .bool ng, .slice a dl cc, .int .i64 ex] 61
  have hb : Below v3.heap.size v3 (v3.alloc (.cells #[.int .i64 kd, .bool ng, .slice a dl cc, .int .i64 ex] 61)) := (Below.refl _ _).alloc (Nat.le_refl _) _
  replace ho := okB _ _ _ _ ho hb
  replace b0 := b0.trans (hb.mono b0.size)
  replace c0 := c0.below hb
  clear hb
  go_upto_region 9 with fail
  generalize (v3.alloc (.cells #[.int .i64 kd, .bool ng, .slice a dl cc, .int .i64 ex] 61)) = v4 at *
  generalize v3.heap.size = gd at *
  have t0 := cD.cell 0 rfl
  have t1 := cD.cell 1 rfl
  have t2 := cD.cell 2 rfl
  have t3 := cD.cell 3 rfl
  go_wp2_with fail
  refine (kP _).mono ?_
  rintro e v5 ⟨rfl, hb⟩
  have cW := Cls.new v5 #[.int .u64 h, .int .u64 l] 25
  have hb2 : Below v5.heap.size v5 (v5.alloc (.cells #[.int .u64 h, .int .u64 l] 25)) := (Below.refl _ _).alloc (Nat.le_refl _) _
  replace hb := hb.trans (hb2.mono hb.size)
  replace b0 := b0.trans (hb.mono b0.size)
  replace c0 := c0.below hb
  clear hb hb2 s0 s1 s2 s3 s4 s5 t0 t1 t2 t3
  go_upto_region 28 with fail
  generalize (v5.alloc (.cells #[.int .u64 h, .int .u64 l] 25)) = v6 at *
  generalize v5.heap.size = gw at *
  have y0 := cW.cell 0 rfl
  have y1 := cW.cell 1 rfl
  have RB := hid (below5p b0 _ (Nat.le_refl _) (.int .u64 h) (.int .u64 l) (.int .i64 0) (.int .i64 0) (.int .i64 2))
  have x0 := c0.cell 0 rfl
  have x1 := c0.cell 1 rfl
  have x2 := c0.cell 2 rfl
  have x3 := c0.cell 3 rfl
  have x4 := c0.cell 4 rfl
  have z0 := c0.frozen 0
  have z1 := c0.frozen 1
  have z2 := c0.frozen 2
  have z3 := c0.frozen 3
  have z4 := c0.frozen 4
  clear b0 c0
  go_wp2_with fail
  exact bodyPost_ret (v := .agg #[.int .u64 h, .int .u64 l, .int .i64 0, .int .i64 0, .int .i64 2]) (by simp [results, Tryz.results10, go_sem, x0, x1, x2, x3, x4]) rfl ⟨rfl, RB.out⟩

set_option maxRecDepth 10000 in
set_option maxHeartbeats 4000000 in
theorem sparse_pos (f : Int) (ao : Option Addr) (n c : Nat) (w : World) (F : M.Fm) (hp0 : F.p ≠ 0)
    (kE : ∀ v : World, Calls Tryz.prog 19 #[.int .i64 f] v fun e w' => e = .returned (dv F) ∧ Below v.heap.size v w')
    (kd : Int) (ng : Bool) (dl : Nat) (ex cd off : Int) (he1 : -2000000 ≤ ex) (he2 : ex ≤ 2000000) (hdl : dl ≤ 10000) (OK : World → Option Addr → Nat → Prop) (okB : ∀ v v' a k, OK v a k → Below v.heap.size v v' → OK v' a k)
    (kS : ∀ v : World, Below w.heap.size w v → Calls Tryz.prog 30 #[.slice ao n c] v fun e w' => ∃ a cc, e = .returned (.agg #[.int .i64 kd, .bool ng, .slice a dl cc, .int .i64 ex, .int .i64 cd, .int .i64 off]) ∧ OK w' a cc ∧ Below v.heap.size v w')
    (hcd : cd = 0) (hk : kd ≠ 2) (hk3 : kd ≠ 3) (hd0 : dl ≠ 0) (hpl : ¬ 5000 < (dl : Int) + ex) (hpl2 : ¬ (dl : Int) + ex < -5100) (N0 T : Nat) (lN0 : (D N0).length ≤ 1048576) (lT : (D T).length ≤ 1048576) (h l fl : Int)
    (kD : ∀ (v : World) a cc, OK v a cc → Calls Tryz.prog 31 #[.slice a dl cc] v fun e w' => Ret v w' e (D N0)) (hex : 0 ≤ ex)
    (kT : ∀ v : World, Calls Tryz.prog 34 #[.int .i64 (ex)] v fun e w' => Ret v w' e (D T))
    (kR : ∀ (v : World) (a1 b1 : Option Addr) (c1 d1 : Nat), (D (N0 * T)).length ≤ c1 → Rd v a1 (D (N0 * T)) → Rd v b1 (D (1)) → Calls Tryz.prog 35 #[.int .i64 f, .bool ng, .slice a1 (D (N0 * T)).length c1, .slice b1 (D (1)).length d1] v fun e w' => e = .returned (.agg #[.int .u64 h, .int .u64 l, .int .i64 fl, .bool true]) ∧ Below v.heap.size v w') :
    Calls Tryz.prog 10 #[.int .i64 f, .slice ao n c] w fun e w' => e = .returned (.agg #[.int .u64 h, .int .u64 l, .int .i64 0, .int .i64 0, .int .i64 fl]) ∧ Below w.heap.size w w' := by
  simp only [dv] at kE
  have hp1 : ¬ (F.p : Int) = 0 := by omega
  subst hcd
  have hd0' : ¬ (dl : Int) = 0 := by omega
  have b0 : Below w.heap.size w (w.alloc (.cells zParP 34)) := (Below.refl _ _).alloc (Nat.le_refl _) _
  have c0 : Cls (w.alloc (.cells zParP 34)) w.heap.size zParP 34 := Cls.new _ _ _
  have fd := fld_dp
  go_enter Tryz.func10, Tryz.ntmps10
  go_wp2_with fail
  refine (kE _).mono ?_
  rintro e v1 ⟨rfl, hb⟩
  replace b0 := b0.trans (hb.mono b0.size)
  replace c0 := c0.below hb
  clear hb
  go_wp2_with fail
  refine (kS _ b0).mono ?_
  rintro e v2 ⟨a, cc, rfl, ho, hb⟩
  have cs := Cls.new v2 #[.int .i64 kd, .bool ng, .slice a dl cc, .int .i64 ex, .int .i64 0, .int .i64 off] 66
  have hb2 : Below v2.heap.size v2 (v2.alloc (.cells #[.int .i64 kd, .bool ng, .slice a dl cc, .int .i64 ex, .int .i64 0, .int .i64 off] 66)) := (Below.refl _ _).alloc (Nat.le_refl _) _
  replace ho := okB _ _ _ _ ho hb2
  replace hb := hb.trans (hb2.mono hb.size)
  replace b0 := b0.trans (hb.mono b0.size)
  replace c0 := c0.below hb
  clear hb hb2
  go_upto_region 4 with fail
  generalize (v2.alloc (.cells #[.int .i64 kd, .bool ng, .slice a dl cc, .int .i64 ex, .int .i64 0, .int .i64 off] 66)) = v3 at *
  generalize v2.heap.size = gs at *
  have s0 := cs.cell 0 rfl
  have s1 := cs.cell 1 rfl
  have s2 := cs.cell 2 rfl
  have s3 := cs.cell 3 rfl
  have s4 := cs.cell 4 rfl
  have s5 := cs.cell 5 rfl
  have cD := Cls.new v3 #[.int .i64 kd, .bool ng, .slice a dl cc, .int .i64 ex] 61
  have hb : Below v3.heap.size v3 (v3.alloc (.cells #[.int .i64 kd, .bool ng, .slice a dl cc, .int .i64 ex] 61)) := (Below.refl _ _).alloc (Nat.le_refl _) _
  replace ho := okB _ _ _ _ ho hb
  replace b0 := b0.trans (hb.mono b0.size)
  replace c0 := c0.below hb
  clear hb
  go_upto_region 9 with fail
  generalize (v3.alloc (.cells #[.int .i64 kd, .bool ng, .slice a dl cc, .int .i64 ex] 61)) = v4 at *
  generalize v3.heap.size = gd at *
  have t0 := cD.cell 0 rfl
  have t1 := cD.cell 1 rfl
  have t2 := cD.cell 2 rfl
  have t3 := cD.cell 3 rfl
  go_wp2_with fail
  refine (kD _ _ _ ho).mono ?_
  rintro e v5 ⟨a5, c5, rfl, o5, hb⟩
  have r5 := Rd.own o5
  replace b0 := b0.trans (hb.mono b0.size)
  replace c0 := c0.below hb
  replace cD := cD.below hb
  clear hb s0 s1 s2 s3 s4 s5 t0 t1 t2 t3
  go_wp2_with fail
  refine (l1Of_any 1 _ (by omega)).mono ?_
  rintro e v6 ⟨a6, c6, rfl, o6, hb⟩
  have r6 := Rd.own o6
  replace r5 := r5.below hb
  replace o5 := own_below o5 hb
  replace b0 := b0.trans (hb.mono b0.size)
  replace c0 := c0.below hb
  replace cD := cD.below hb
  clear hb
  have t0 := cD.cell 0 rfl
  have t1 := cD.cell 1 rfl
  have t2 := cD.cell 2 rfl
  have t3 := cD.cell 3 rfl
  go_wp2_with fail
  refine (kT _).mono ?_
  rintro e v7 ⟨a7, c7, rfl, o7, hb⟩
  have r7 := Rd.own o7
  replace r5 := r5.below hb
  replace r6 := r6.below hb
  replace o5 := own_below o5 hb
  replace b0 := b0.trans (hb.mono b0.size)
  replace c0 := c0.below hb
  replace cD := cD.below hb
  clear hb t0 t1 t2 t3
  go_wp2_with fail
  refine (l1Mul_any a5 a7 _ _ c5 c7 N0 T _ rfl rfl lN0 lT r5 r7).mono ?_
  rintro e v8 ⟨a8, c8, rfl, o8, hb⟩
  have r8 := Rd.own o8
  have hc8 := own_cap o8
  replace r6 := r6.below hb
  replace b0 := b0.trans (hb.mono b0.size)
  replace c0 := c0.below hb
  replace cD := cD.below hb
  clear hb
  have t0 := cD.cell 0 rfl
  have t1 := cD.cell 1 rfl
  have t2 := cD.cell 2 rfl
  have t3 := cD.cell 3 rfl
  go_wp2_with fail
  refine (kR _ _ _ _ _ hc8 r8 r6).mono ?_
  rintro e v9 ⟨rfl, hb⟩
  have cR := Cls.new v9 #[.int .u64 h, .int .u64 l, .int .i64 fl, .bool true] 71
  have hb2 : Below v9.heap.size v9 (v9.alloc (.cells #[.int .u64 h, .int .u64 l, .int .i64 fl, .bool true] 71)) := (Below.refl _ _).alloc (Nat.le_refl _) _
  replace hb := hb.trans (hb2.mono hb.size)
  replace b0 := b0.trans (hb.mono b0.size)
  replace c0 := c0.below hb
  clear hb hb2 t0 t1 t2 t3
  go_upto_region 16 with fail
  generalize (v9.alloc (.cells #[.int .u64 h, .int .u64 l, .int .i64 fl, .bool true] 71)) = v10 at *
  generalize v9.heap.size = gr at *
  have y0 := cR.cell 0 rfl
  have y1 := cR.cell 1 rfl
  have y2 := cR.cell 2 rfl
  have y3 := cR.cell 3 rfl
  have RB := hid (below5p b0 _ (Nat.le_refl _) (.int .u64 h) (.int .u64 l) (.int .i64 0) (.int .i64 0) (.int .i64 fl))
  have x0 := c0.cell 0 rfl
  have x1 := c0.cell 1 rfl
  have x2 := c0.cell 2 rfl
  have x3 := c0.cell 3 rfl
  have x4 := c0.cell 4 rfl
  have z0 := c0.frozen 0
  have z1 := c0.frozen 1
  have z2 := c0.frozen 2
  have z3 := c0.frozen 3
  have z4 := c0.frozen 4
  clear b0 c0
  go_wp2_with fail
  exact bodyPost_ret (v := .agg #[.int .u64 h, .int .u64 l, .int .i64 0, .int .i64 0, .int .i64 fl]) (by simp [results, Tryz.results10, go_sem, x0, x1, x2, x3, x4]) rfl ⟨rfl, RB.out⟩

set_option maxRecDepth 10000 in
set_option maxHeartbeats 4000000 in
theorem sparse_neg (f : Int) (ao : Option Addr) (n c : Nat) (w : World) (F : M.Fm) (hp0 : F.p ≠ 0)
    (kE : ∀ v : World, Calls Tryz.prog 19 #[.int .i64 f] v fun e w' => e = .returned (dv F) ∧ Below v.heap.size v w')
    (kd : Int) (ng : Bool) (dl : Nat) (ex cd off : Int) (he1 : -2000000 ≤ ex) (he2 : ex ≤ 2000000) (hdl : dl ≤ 10000) (OK : World → Option Addr → Nat → Prop) (okB : ∀ v v' a k, OK v a k → Below v.heap.size v v' → OK v' a k)
    (kS : ∀ v : World, Below w.heap.size w v → Calls Tryz.prog 30 #[.slice ao n c] v fun e w' => ∃ a cc, e = .returned (.agg #[.int .i64 kd, .bool ng, .slice a dl cc, .int .i64 ex, .int .i64 cd, .int .i64 off]) ∧ OK w' a cc ∧ Below v.heap.size v w')
    (hcd : cd = 0) (hk : kd ≠ 2) (hk3 : kd ≠ 3) (hd0 : dl ≠ 0) (hpl : ¬ 5000 < (dl : Int) + ex) (hpl2 : ¬ (dl : Int) + ex < -5100) (N0 T : Nat) (lN0 : (D N0).length ≤ 1048576) (lT : (D T).length ≤ 1048576) (h l fl : Int)
    (kD : ∀ (v : World) a cc, OK v a cc → Calls Tryz.prog 31 #[.slice a dl cc] v fun e w' => Ret v w' e (D N0)) (hex : ¬ 0 ≤ ex)
    (kT : ∀ v : World, Calls Tryz.prog 34 #[.int .i64 (-ex)] v fun e w' => Ret v w' e (D T))
    (kR : ∀ (v : World) (a1 b1 : Option Addr) (c1 d1 : Nat), (D (N0)).length ≤ c1 → Rd v a1 (D (N0)) → Rd v b1 (D (T)) → Calls Tryz.prog 35 #[.int .i64 f, .bool ng, .slice a1 (D (N0)).length c1, .slice b1 (D (T)).length d1] v fun e w' => e = .returned (.agg #[.int .u64 h, .int .u64 l, .int .i64 fl, .bool true]) ∧ Below v.heap.size v w') :
    Calls Tryz.prog 10 #[.int .i64 f, .slice ao n c] w fun e w' => e = .returned (.agg #[.int .u64 h, .int .u64 l, .int .i64 0, .int .i64 0, .int .i64 fl]) ∧ Below w.heap.size w w' := by
  simp only [dv] at kE
  have hp1 : ¬ (F.p : Int) = 0 := by omega
  subst hcd
  have hd0' : ¬ (dl : Int) = 0 := by omega
  have b0 : Below w.heap.size w (w.alloc (.cells zParP 34)) := (Below.refl _ _).alloc (Nat.le_refl _) _
  have c0 : Cls (w.alloc (.cells zParP 34)) w.heap.size zParP 34 := Cls.new _ _ _
  have fd := fld_dp
  go_enter Tryz.func10, Tryz.ntmps10
  go_wp2_with fail
  refine (kE _).mono ?_
  rintro e v1 ⟨rfl, hb⟩
  replace b0 := b0.trans (hb.mono b0.size)
  replace c0 := c0.below hb
  clear hb
  go_wp2_with fail
  refine (kS _ b0).mono ?_
  rintro e v2 ⟨a, cc, rfl, ho, hb⟩
  have cs := Cls.new v2 #[.int .i64 kd, .bool ng, .slice a dl cc, .int .i64 ex, .int .i64 0, .int .i64 off] 66
  have hb2 : Below v2.heap.size v2 (v2.alloc (.cells #[.int .i64 kd, .bool ng, .slice a dl cc, .int .i64 ex, .int .i64 0, .int .i64 off] 66)) := (Below.refl _ _).alloc (Nat.le_refl _) _
  replace ho := okB _ _ _ _ ho hb2
  replace hb := hb.trans (hb2.mono hb.size)
  replace b0 := b0.trans (hb.mono b0.size)
  replace c0 := c0.below hb
  clear hb hb2
  go_upto_region 4 with fail
  generalize (v2.alloc (.cells #[.int .i64 kd, .bool ng, .slice a dl cc, .int .i64 ex, .int .i64 0, .int .i64 off] 66)) = v3 at *
  generalize v2.heap.size = gs at *
  have s0 := cs.cell 0 rfl
  have s1 := cs.cell 1 rfl
  have s2 := cs.cell 2 rfl
  have s3 := cs.cell 3 rfl
  have s4 := cs.cell 4 rfl
  have s5 := cs.cell 5 rfl
  have cD := Cls.new v3 #[.int .i64 kd, .bool ng, .slice a dl cc, .int .i64 ex] 61
  have hb : Below v3.heap.size v3 (v3.alloc (.cells #[.int .i64 kd, .bool ng, .slice a dl cc, .int .i64 ex] 61)) := (Below.refl _ _).alloc (Nat.le_refl _) _
  replace ho := okB _ _ _ _ ho hb
  replace b0 := b0.trans (hb.mono b0.size)
  replace c0 := c0.below hb
  clear hb
  go_upto_region 9 with fail
  generalize (v3.alloc (.cells #[.int .i64 kd, .bool ng, .slice a dl cc, .int .i64 ex] 61)) = v4 at *
  generalize v3.heap.size = gd at *
  have t0 := cD.cell 0 rfl
  have t1 := cD.cell 1 rfl
  have t2 := cD.cell 2 rfl
  have t3 := cD.cell 3 rfl
  go_wp2_with fail
  refine (kD _ _ _ ho).mono ?_
  rintro e v5 ⟨a5, c5, rfl, o5, hb⟩
  have r5 := Rd.own o5
  replace b0 := b0.trans (hb.mono b0.size)
  replace c0 := c0.below hb
  replace cD := cD.below hb
  clear hb s0 s1 s2 s3 s4 s5 t0 t1 t2 t3
  go_wp2_with fail
  refine (l1Of_any 1 _ (by omega)).mono ?_
  rintro e v6 ⟨a6, c6, rfl, o6, hb⟩
  have r6 := Rd.own o6
  replace r5 := r5.below hb
  replace o5 := own_below o5 hb
  replace b0 := b0.trans (hb.mono b0.size)
  replace c0 := c0.below hb
  replace cD := cD.below hb
  clear hb
  have t0 := cD.cell 0 rfl
  have t1 := cD.cell 1 rfl
  have t2 := cD.cell 2 rfl
  have t3 := cD.cell 3 rfl
  go_wp2_with fail
  refine (kT _).mono ?_
  rintro e v7 ⟨a7, c7, rfl, o7, hb⟩
  have r7 := Rd.own o7
  replace r5 := r5.below hb
  replace r6 := r6.below hb
  replace o5 := own_below o5 hb
  replace b0 := b0.trans (hb.mono b0.size)
  replace c0 := c0.below hb
  replace cD := cD.below hb
  clear hb t0 t1 t2 t3
  have hc5 := own_cap o5
  have t0 := cD.cell 0 rfl
  have t1 := cD.cell 1 rfl
  have t2 := cD.cell 2 rfl
  have t3 := cD.cell 3 rfl
  go_wp2_with fail
  refine (kR _ _ _ _ _ hc5 r5 r7).mono ?_
  rintro e v9 ⟨rfl, hb⟩
  have cR := Cls.new v9 #[.int .u64 h, .int .u64 l, .int .i64 fl, .bool true] 71
  have hb2 : Below v9.heap.size v9 (v9.alloc (.cells #[.int .u64 h, .int .u64 l, .int .i64 fl, .bool true] 71)) := (Below.refl _ _).alloc (Nat.le_refl _) _
  replace hb := hb.trans (hb2.mono hb.size)
  replace b0 := b0.trans (hb.mono b0.size)
  replace c0 := c0.below hb
  clear hb hb2 t0 t1 t2 t3
  go_upto_region 16 with fail
  generalize (v9.alloc (.cells #[.int .u64 h, .int .u64 l, .int .i64 fl, .bool true] 71)) = v10 at *
  generalize v9.heap.size = gr at *
  have y0 := cR.cell 0 rfl
  have y1 := cR.cell 1 rfl
  have y2 := cR.cell 2 rfl
  have y3 := cR.cell 3 rfl
  have RB := hid (below5p b0 _ (Nat.le_refl _) (.int .u64 h) (.int .u64 l) (.int .i64 0) (.int .i64 0) (.int .i64 fl))
  have x0 := c0.cell 0 rfl
  have x1 := c0.cell 1 rfl
  have x2 := c0.cell 2 rfl
  have x3 := c0.cell 3 rfl
  have x4 := c0.cell 4 rfl
  have z0 := c0.frozen 0
  have z1 := c0.frozen 1
  have z2 := c0.frozen 2
  have z3 := c0.frozen 3
  have z4 := c0.frozen 4
  clear b0 c0
  go_wp2_with fail
  exact bodyPost_ret (v := .agg #[.int .u64 h, .int .u64 l, .int .i64 0, .int .i64 0, .int .i64 fl]) (by simp [results, Tryz.results10, go_sem, x0, x1, x2, x3, x4]) rfl ⟨rfl, RB.out⟩

end Go.Proofs.YtodgblbaclionaaGreatDoor

