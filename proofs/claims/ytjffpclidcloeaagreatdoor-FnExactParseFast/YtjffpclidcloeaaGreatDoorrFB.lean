import Derived.Test.YtjffpclidcloeaaGreatDoorrSA
import Derived.Test.YtjffpclidcloeaaGreatDoorrPA
set_option maxHeartbeats 8000000
set_option maxRecDepth 100000
namespace Go.Proofs.YtjffpclidcloeaaGreatDoor
open Go.RowKit
set_option linter.unusedVariables false
set_option maxRecDepth 100000
theorem belowD {w v : World} (h : Below w.heap.size w v) (g : Nat) (hg : w.heap.size ≤ g) (a b c d : Value) : Below w.heap.size w ((((v.setCell ⟨g, 0, none⟩ a).setCell ⟨g, 1, none⟩ b).setCell ⟨g, 2, none⟩ c).setCell ⟨g, 3, none⟩ d) :=
 (((h.setCell (p := ⟨g, 0, none⟩) hg a).setCell (p := ⟨g, 1, none⟩) hg b).setCell (p := ⟨g, 2, none⟩) hg c).setCell (p := ⟨g, 3, none⟩) hg d

theorem power_no (f : Int) (ao : Option Addr) (n c : Nat) (w : World) (e0 e1 e2 e3 e4 : Int) (e5 : Bool)
 (kE : ∀ v : World, Calls Tryz.prog 26 #[.int .i64 f] v fun e w' => e = .returned (.agg #[.int .i64 e0, .int .i64 e1, .int .i64 e2, .int .i64 e3, .int .i64 e4, .bool e5]) ∧ Below v.heap.size v w')
 (kd : Int) (ng : Bool) (dl : Nat) (ex cd off : Int) (OK : World → Nat → Option Addr → Nat → Prop) (okB : ∀ v v' lo a k, OK v lo a k → Below v.heap.size v v' → OK v' lo a k) (okF : ∀ v lo a k (p : Addr) x, OK v lo a k → p.block < lo → OK (v.setCell p x) lo a k)
 (kS : ∀ v : World, Below w.heap.size w v → Calls Tryz.prog 25 #[.slice ao n c] v fun e w' => ∃ a cc, e = .returned (.agg #[.int .i64 kd, .bool ng, .slice a dl cc, .int .i64 ex, .int .i64 cd, .int .i64 off]) ∧ OK w' v.heap.size a cc ∧ Below v.heap.size v w')
 (hc : e0 = 0 ∨ cd ≠ 0 ∨ kd ≠ 1 ∨ dl = 0) :
 Calls Tryz.prog 9 #[.int .i64 f, .slice ao n c] w fun e w' => e = .returned (.tuple #[.agg #[.int .i64 0, .bool false, .slice none 0 0, .int .i64 0], .int .i64 0, .int .i64 0, .bool false]) ∧ Below w.heap.size w w' := by
 have HC := hid hc; clear hc
 have b0 : Below w.heap.size w (w.alloc (.cells #[.int .i64 0, .bool false, .slice none 0 0, .int .i64 0] 36)) := (Below.refl _ _).alloc (Nat.le_refl _) _
 have c0 : Cls (w.alloc (.cells #[.int .i64 0, .bool false, .slice none 0 0, .int .i64 0] 36)) w.heap.size #[.int .i64 0, .bool false, .slice none 0 0, .int .i64 0] 36 := Cls.new _ _ _
 have fd := fld_dp
 go_enter Tryz.func9, Tryz.ntmps9
 go_wp2_with fail
 refine (kS _ b0).mono ?_
 rintro e v1 ⟨a, cc, rfl, ho, hb⟩
 have cs := Cls.new v1 #[.int .i64 kd, .bool ng, .slice a dl cc, .int .i64 ex, .int .i64 cd, .int .i64 off] 65
 have hb2 : Below v1.heap.size v1 (v1.alloc (.cells #[.int .i64 kd, .bool ng, .slice a dl cc, .int .i64 ex, .int .i64 cd, .int .i64 off] 65)) := (Below.refl _ _).alloc (Nat.le_refl _) _
 have lg : w.heap.size < v1.heap.size := (c0.below hb).lt
 replace ho := okB _ _ _ _ _ ho hb2
 replace hb := hb.trans (hb2.mono hb.size)
 replace b0 := b0.trans (hb.mono b0.size)
 replace c0 := c0.below hb
 clear hb hb2 kS
 go_upto_region 2 with fail
 generalize v1.alloc (.cells #[.int .i64 kd, .bool ng, .slice a dl cc, .int .i64 ex, .int .i64 cd, .int .i64 off] 65) = v2 at *
 generalize v1.heap.size = gs at *
 go_cut [33] (fun z wx => z = .bool true ∧ Below v2.heap.size v2 wx)
 case first =>
  go_wp2_with fail
  refine (kE _).mono ?_
  rintro e u1 ⟨rfl, hb⟩
  have s0 := (cs.below hb).cell 0 rfl; have s2 := (cs.below hb).cell 2 rfl; have s4 := (cs.below hb).cell 4 rfl
  by_cases q0 : e0 = 0
  · subst q0
    go_wp2_with fail
    go_meet
    case rel => exact ⟨rfl, hb⟩
  by_cases q1 : cd = 0
  · by_cases q2 : kd = 1
    · have q3 : dl = 0 := by have := HC.out; omega
      subst q1 q2 q3
      go_wp2_with fail
      go_meet
      case rel => exact ⟨rfl, hb⟩
    · subst q1
      go_wp2_with fail
      go_meet
      case rel => exact ⟨rfl, hb⟩
  · skip
    go_wp2_with fail
    go_meet
    case rel => exact ⟨rfl, hb⟩
 case rest =>
 obtain ⟨rfl, hb⟩ := hcut
 rename World => v3
 replace b0 := b0.trans (hb.mono b0.size)
 replace c0 := c0.below hb
 have x0 := c0.cell 0 rfl; have z0 := c0.frozen 0; have x1 := c0.cell 1 rfl; have z1 := c0.frozen 1; have x2 := c0.cell 2 rfl; have z2 := c0.frozen 2; have x3 := c0.cell 3 rfl; have z3 := c0.frozen 3
 have HB := hid b0
 clear b0 c0 hb
 go_wp2_with fail
 exact bodyPost_ret (v := .tuple #[.agg #[.int .i64 0, .bool false, .slice none 0 0, .int .i64 0], .int .i64 0, .int .i64 0, .bool false]) (by simp [results, Tryz.results9, go_sem, x0, x1, x2, x3]) rfl ⟨rfl, belowD HB.out _ (Nat.le_refl _) _ _ _ _⟩

theorem power_yes (f : Int) (ao : Option Addr) (n c : Nat) (w : World) (e0 e1 e2 e3 e4 : Int) (e5 : Bool)
 (kE : ∀ v : World, Calls Tryz.prog 26 #[.int .i64 f] v fun e w' => e = .returned (.agg #[.int .i64 e0, .int .i64 e1, .int .i64 e2, .int .i64 e3, .int .i64 e4, .bool e5]) ∧ Below v.heap.size v w')
 (kd : Int) (ng : Bool) (dl : Nat) (ex cd off : Int) (OK : World → Nat → Option Addr → Nat → Prop) (okB : ∀ v v' lo a k, OK v lo a k → Below v.heap.size v v' → OK v' lo a k) (okF : ∀ v lo a k (p : Addr) x, OK v lo a k → p.block < lo → OK (v.setCell p x) lo a k)
 (kS : ∀ v : World, Below w.heap.size w v → Calls Tryz.prog 25 #[.slice ao n c] v fun e w' => ∃ a cc, e = .returned (.agg #[.int .i64 kd, .bool ng, .slice a dl cc, .int .i64 ex, .int .i64 cd, .int .i64 off]) ∧ OK w' v.heap.size a cc ∧ Below v.heap.size v w')
 (h0 : e0 ≠ 0) (h1 : cd = 0) (h2 : kd = 1) (h3 : 0 < dl) (hdl : dl ≤ 10000) (he1 : -2000000 ≤ ex) (he2 : ex ≤ 2000000) (m : Nat) (hm : m = dl - 19) (k : Int) (hk : k = ex + (m : Int)) :
 Calls Tryz.prog 9 #[.int .i64 f, .slice ao n c] w fun e w' => ∃ a cc, e = .returned (.tuple #[.agg #[.int .i64 kd, .bool ng, .slice a dl cc, .int .i64 ex], .int .i64 (m : Int), .int .i64 k, .bool true]) ∧ OK w' (w.heap.size + 1) a cc ∧ Below w.heap.size w w' := by
 subst h1 h2
 have HM := hid hm; have HK := hid hk; clear hm hk
 have b0 : Below w.heap.size w (w.alloc (.cells #[.int .i64 0, .bool false, .slice none 0 0, .int .i64 0] 36)) := (Below.refl _ _).alloc (Nat.le_refl _) _
 have c0 : Cls (w.alloc (.cells #[.int .i64 0, .bool false, .slice none 0 0, .int .i64 0] 36)) w.heap.size #[.int .i64 0, .bool false, .slice none 0 0, .int .i64 0] 36 := Cls.new _ _ _
 have fd := fld_dp
 go_enter Tryz.func9, Tryz.ntmps9
 go_wp2_with fail
 refine (kS _ b0).mono ?_
 rintro e v1 ⟨a, cc, rfl, ho, hb⟩
 have cs := Cls.new v1 #[.int .i64 1, .bool ng, .slice a dl cc, .int .i64 ex, .int .i64 0, .int .i64 off] 65
 have hb2 : Below v1.heap.size v1 (v1.alloc (.cells #[.int .i64 1, .bool ng, .slice a dl cc, .int .i64 ex, .int .i64 0, .int .i64 off] 65)) := (Below.refl _ _).alloc (Nat.le_refl _) _
 have lg : w.heap.size < v1.heap.size := (c0.below hb).lt
 replace ho := okB _ _ _ _ _ ho hb2
 replace hb := hb.trans (hb2.mono hb.size)
 replace b0 := b0.trans (hb.mono b0.size)
 replace c0 := c0.below hb
 clear hb hb2 kS
 go_upto_region 2 with fail
 generalize v1.alloc (.cells #[.int .i64 1, .bool ng, .slice a dl cc, .int .i64 ex, .int .i64 0, .int .i64 off] 65) = v2 at *
 generalize v1.heap.size = gs at *
 go_cut [33] (fun z wx => z = .bool false ∧ Below v2.heap.size v2 wx)
 case first =>
  have q3 : ¬ (dl : Int) = 0 := by omega
  go_wp2_with fail
  refine (kE _).mono ?_
  rintro e u1 ⟨rfl, hb⟩
  have s0 := (cs.below hb).cell 0 rfl; have s2 := (cs.below hb).cell 2 rfl; have s4 := (cs.below hb).cell 4 rfl
  go_wp2_with fail
  go_meet
  case rel => exact ⟨by simp [h0]; omega, hb⟩
 case rest =>
 obtain ⟨rfl, hb⟩ := hcut
 rename World => v3
 replace b0 := b0.trans (hb.mono b0.size)
 replace c0 := c0.below hb
 replace cs := cs.below hb
 replace ho := okB _ _ _ _ _ ho hb
 clear hb kE
 have s2 := cs.cell 2 rfl
 go_upto_if 39 with fail
 go_cut [9] (fun z wx => z = .int .i64 (m : Int) ∧ wx = v3)
 case first =>
  by_cases g : 19 < dl
  · have g' : (19 : Int) < (dl : Int) := by omega
    have q : IntKind.i64.wrap ((dl : Int) - 19) = (m : Int) := by rw [IntKind.wrap_i64]; have := HM.out; omega
    go_wp2_with fail
    go_meet
    case rel => exact ⟨rfl, rfl⟩
  · have g' : ¬ (19 : Int) < (dl : Int) := by omega
    have q : (m : Int) = 0 := by have := HM.out; omega
    have Q := hid q; clear q
    go_wp2_with fail
    go_meet
    case rel => exact ⟨by rw [Q.out], rfl⟩
 case rest =>
 obtain ⟨rfl, hwc⟩ := hcut
 subst hwc
 clear s2
 have q : IntKind.i64.wrap (ex + (m : Int)) = k := by rw [IntKind.wrap_i64, HK.out]; have := HM.out; omega
 have A0 : Below wc.heap.size wc wc.drew := (Below.refl _ _).drew
 have KB : ∀ v, Below wc.heap.size wc v → (fun v : World => v.cell? ⟨gs, 0, none⟩ = some (.int .i64 1) ∧ v.cell? ⟨gs, 1, none⟩ = some (.bool ng) ∧ v.cell? ⟨gs, 2, none⟩ = some (.slice a dl cc) ∧ v.cell? ⟨gs, 3, none⟩ = some (.int .i64 ex)) v := fun v hv => ⟨(cs.below hv).cell 0 rfl, (cs.below hv).cell 1 rfl, (cs.below hv).cell 2 rfl, (cs.below hv).cell 3 rfl⟩
 have KS : ∀ v y0 y1 y2 y3, Below wc.heap.size wc v → (fun v : World => v.cell? ⟨gs, 0, none⟩ = some (.int .i64 1) ∧ v.cell? ⟨gs, 1, none⟩ = some (.bool ng) ∧ v.cell? ⟨gs, 2, none⟩ = some (.slice a dl cc) ∧ v.cell? ⟨gs, 3, none⟩ = some (.int .i64 ex)) ((((v.setCell ⟨w.heap.size, 0, none⟩ y0).setCell ⟨w.heap.size, 1, none⟩ y1).setCell ⟨w.heap.size, 2, none⟩ y2).setCell ⟨w.heap.size, 3, none⟩ y3) := fun v y0 y1 y2 y3 hv => by
  have c9 := ((((cs.below hv).far ⟨w.heap.size, 0, none⟩ (by simp only; omega) y0).far ⟨w.heap.size, 1, none⟩ (by simp only; omega) y1).far ⟨w.heap.size, 2, none⟩ (by simp only; omega) y2).far ⟨w.heap.size, 3, none⟩ (by simp only; omega) y3
  exact ⟨c9.cell 0 rfl, c9.cell 1 rfl, c9.cell 2 rfl, c9.cell 3 rfl⟩
 have KS2 : ∀ y0 y1 y2 y3, (fun v : World => v.cell? ⟨gs, 0, none⟩ = some (.int .i64 1) ∧ v.cell? ⟨gs, 1, none⟩ = some (.bool ng) ∧ v.cell? ⟨gs, 2, none⟩ = some (.slice a dl cc) ∧ v.cell? ⟨gs, 3, none⟩ = some (.int .i64 ex)) ((((wc.setCell ⟨w.heap.size, 0, none⟩ y0).setCell ⟨w.heap.size, 1, none⟩ y1).setCell ⟨w.heap.size, 2, none⟩ y2).setCell ⟨w.heap.size, 3, none⟩ y3).drew := fun y0 y1 y2 y3 => KS wc y0 y1 y2 y3 (Below.refl _ _)
 have RB := hid (belowD b0 _ (Nat.le_refl _) (.int .i64 1) (.bool ng) (.slice a dl cc) (.int .i64 ex)).drew
 have x0 := c0.cell 0 rfl; have z0 := c0.frozen 0; have x1 := c0.cell 1 rfl; have z1 := c0.frozen 1; have x2 := c0.cell 2 rfl; have z2 := c0.frozen 2; have x3 := c0.cell 3 rfl; have z3 := c0.frozen 3
 have lo1 : (w.alloc (.cells #[.int .i64 0, .bool false, .slice none 0 0, .int .i64 0] 36)).heap.size = w.heap.size + 1 := by simp
 rw [lo1] at ho
 have HO := hid (okB _ _ _ _ _ (okF _ _ _ _ ⟨w.heap.size, 3, none⟩ (.int .i64 ex) (okF _ _ _ _ ⟨w.heap.size, 2, none⟩ (.slice a dl cc) (okF _ _ _ _ ⟨w.heap.size, 1, none⟩ (.bool ng) (okF _ _ _ _ ⟨w.heap.size, 0, none⟩ (.int .i64 1) ho (Nat.lt_succ_self _)) (Nat.lt_succ_self _)) (Nat.lt_succ_self _)) (Nat.lt_succ_self _)) (Below.refl _ _).drew)
 go_upto_region 7 with fail
 go_region_held3 (fun v : World => v.cell? ⟨gs, 0, none⟩ = some (.int .i64 1) ∧ v.cell? ⟨gs, 1, none⟩ = some (.bool ng) ∧ v.cell? ⟨gs, 2, none⟩ = some (.slice a dl cc) ∧ v.cell? ⟨gs, 3, none⟩ = some (.int .i64 ex)) (first | with_reducible exact KB _ A0 | with_reducible exact KS2 _ _ _ _) (fail)
 all_goals go_wp2_with fail
 all_goals exact bodyPost_ret (v := .tuple #[.agg #[.int .i64 1, .bool ng, .slice a dl cc, .int .i64 ex], .int .i64 (m : Int), .int .i64 k, .bool true]) (by simp [results, Tryz.results9, go_sem, x0, x1, x2, x3]) rfl ⟨a, cc, rfl, HO.out, RB.out⟩

theorem belowU {w v : World} (h : Below w.heap.size w v) (g : Nat) (hg : w.heap.size ≤ g) (a b c d e f : Value) : Below w.heap.size w ((((((v.setCell ⟨g, 0, none⟩ a).setCell ⟨g, 1, none⟩ b).setCell ⟨g, 2, none⟩ c).setCell ⟨g, 3, none⟩ d).setCell ⟨g, 4, none⟩ e).setCell ⟨g, 5, none⟩ f) :=
 (((((h.setCell (p := ⟨g, 0, none⟩) hg a).setCell (p := ⟨g, 1, none⟩) hg b).setCell (p := ⟨g, 2, none⟩) hg c).setCell (p := ⟨g, 3, none⟩) hg d).setCell (p := ⟨g, 4, none⟩) hg e).setCell (p := ⟨g, 5, none⟩) hg f

theorem fld_s0 (a b : Option Addr) (n c m d : Nat) (e : Int) (x : Bool) (v : World) : Sem.run Tryz.prog (Instr.field 47 (.agg #[.slice a n c, .slice b m d, .int .i64 e, .bool x]) 0) v = .ok (.slice a n c) v := by kernel_rfl

theorem fld_s1 (a b : Option Addr) (n c m d : Nat) (e : Int) (x : Bool) (v : World) : Sem.run Tryz.prog (Instr.field 47 (.agg #[.slice a n c, .slice b m d, .int .i64 e, .bool x]) 1) v = .ok (.slice b m d) v := by kernel_rfl

theorem sfast_set (f : Int) (ao : Option Addr) (n c : Nat) (W : Int) (w : World) (h l cd off fl : Int)
 (kL : ∀ v : World, Below w.heap.size w v → Calls Tryz.prog 9 #[.int .i64 f, .slice ao n c] v fun e w' => e = .returned (.tuple #[.agg #[.int .i64 0, .bool false, .slice none 0 0, .int .i64 0], .int .i64 0, .int .i64 0, .bool false]) ∧ Below v.heap.size v w')
 (kX : ∀ v : World, Below w.heap.size w v → Calls Tryz.prog 10 #[.int .i64 f, .slice ao n c] v fun e w' => e = .returned (.agg #[.int .u64 h, .int .u64 l, .int .i64 cd, .int .i64 off, .int .i64 fl]) ∧ Below v.heap.size v w') :
 Calls Tryz.prog 4 #[.int .i64 f, .slice ao n c, .int .i64 W] w fun e w' => e = .returned (.agg #[.int .u64 h, .int .u64 l, .int .i64 cd, .int .i64 off, .int .i64 fl, .bool true]) ∧ Below w.heap.size w w' := by
 have b0 : Below w.heap.size w (w.alloc (.cells #[.int .u64 0, .int .u64 0, .int .i64 0, .int .i64 0, .int .i64 0, .bool false] 29)) := (Below.refl _ _).alloc (Nat.le_refl _) _
 have cr : Cls (w.alloc (.cells #[.int .u64 0, .int .u64 0, .int .i64 0, .int .i64 0, .int .i64 0, .bool false] 29)) w.heap.size #[.int .u64 0, .int .u64 0, .int .i64 0, .int .i64 0, .int .i64 0, .bool false] 29 := Cls.new _ _ _
 go_enter Tryz.func4, Tryz.ntmps4
 go_wp2_with fail
 refine (kL _ b0).mono ?_
 rintro e v1 ⟨rfl, hb⟩
 replace b0 := b0.trans (hb.mono b0.size)
 replace cr := cr.below hb
 clear hb
 go_upto_region 3 with fail
 have hb : Below v1.heap.size v1 (v1.alloc (.cells #[.int .i64 0, .bool false, .slice none 0 0, .int .i64 0] 36)) := (Below.refl _ _).alloc (Nat.le_refl _) _
 have cdd := Cls.new v1 #[.int .i64 0, .bool false, .slice none 0 0, .int .i64 0] 36
 replace b0 := b0.trans (hb.mono b0.size)
 replace cr := cr.below hb
 generalize v1.alloc (.cells #[.int .i64 0, .bool false, .slice none 0 0, .int .i64 0] 36) = v2 at *
 generalize v1.heap.size = gd at *
 clear hb
 go_wp2_with fail
 refine (kX _ b0).mono ?_
 rintro e v3 ⟨rfl, hb⟩
 replace b0 := b0.trans (hb.mono b0.size)
 replace cr := cr.below hb
 have x0 := cr.cell 0 rfl; have z0 := cr.frozen 0; have x1 := cr.cell 1 rfl; have z1 := cr.frozen 1; have x2 := cr.cell 2 rfl; have z2 := cr.frozen 2; have x3 := cr.cell 3 rfl; have z3 := cr.frozen 3; have x4 := cr.cell 4 rfl; have z4 := cr.frozen 4; have x5 := cr.cell 5 rfl; have z5 := cr.frozen 5
 have HB := hid b0
 clear hb b0 cr
 go_wp2_with fail
 exact bodyPost_ret (v := .agg #[.int .u64 h, .int .u64 l, .int .i64 cd, .int .i64 off, .int .i64 fl, .bool true]) (by simp [results, Tryz.results4, go_sem, x0, x1, x2, x3, x4, x5]) rfl ⟨rfl, belowU HB.out _ (Nat.le_refl _) _ _ _ _ _ _⟩

theorem sfast_out (f : Int) (ao : Option Addr) (n c : Nat) (W : Int) (w : World) (kd : Int) (ng : Bool) (dl m : Nat) (ex k : Int)
 (kL : ∀ v : World, Below w.heap.size w v → Calls Tryz.prog 9 #[.int .i64 f, .slice ao n c] v fun e w' => ∃ a cc, e = .returned (.tuple #[.agg #[.int .i64 kd, .bool ng, .slice a dl cc, .int .i64 ex], .int .i64 (m : Int), .int .i64 k, .bool true]) ∧ Below v.heap.size v w')
 (kT : ∀ v : World, Calls Tryz.prog 11 #[.int .i64 k, .int .i64 W] v fun e w' => e = .returned (.agg #[.int .i64 0, .int .i64 0, .int .u64 0, .int .u64 0, .int .i64 0, .bool false, .bool false]) ∧ Below v.heap.size v w') :
 Calls Tryz.prog 4 #[.int .i64 f, .slice ao n c, .int .i64 W] w fun e w' => e = .returned (.agg #[.int .u64 0, .int .u64 0, .int .i64 0, .int .i64 0, .int .i64 0, .bool false]) ∧ Below w.heap.size w w' := by
 have b0 : Below w.heap.size w (w.alloc (.cells #[.int .u64 0, .int .u64 0, .int .i64 0, .int .i64 0, .int .i64 0, .bool false] 29)) := (Below.refl _ _).alloc (Nat.le_refl _) _
 have cr : Cls (w.alloc (.cells #[.int .u64 0, .int .u64 0, .int .i64 0, .int .i64 0, .int .i64 0, .bool false] 29)) w.heap.size #[.int .u64 0, .int .u64 0, .int .i64 0, .int .i64 0, .int .i64 0, .bool false] 29 := Cls.new _ _ _
 go_enter Tryz.func4, Tryz.ntmps4
 go_wp2_with fail
 refine (kL _ b0).mono ?_
 rintro e v1 ⟨a, cc, rfl, hb⟩
 replace b0 := b0.trans (hb.mono b0.size)
 replace cr := cr.below hb
 clear hb
 go_upto_region 4 with fail
 have hb : Below v1.heap.size v1 (v1.alloc (.cells #[.int .i64 kd, .bool ng, .slice a dl cc, .int .i64 ex] 36)) := (Below.refl _ _).alloc (Nat.le_refl _) _
 have cd := Cls.new v1 #[.int .i64 kd, .bool ng, .slice a dl cc, .int .i64 ex] 36
 replace b0 := b0.trans (hb.mono b0.size)
 replace cr := cr.below hb
 generalize v1.alloc (.cells #[.int .i64 kd, .bool ng, .slice a dl cc, .int .i64 ex] 36) = v2 at *
 generalize v1.heap.size = gd at *
 clear hb
 go_wp2_with fail
 refine (kT _).mono ?_
 rintro e v3 ⟨rfl, hb⟩
 replace b0 := b0.trans (hb.mono b0.size)
 replace cr := cr.below hb
 clear hb
 go_upto_region 6 with fail
 have hb : Below v3.heap.size v3 (v3.alloc (.cells #[.int .i64 0, .int .i64 0, .int .u64 0, .int .u64 0, .int .i64 0, .bool false, .bool false] 41)) := (Below.refl _ _).alloc (Nat.le_refl _) _
 have cp := Cls.new v3 #[.int .i64 0, .int .i64 0, .int .u64 0, .int .u64 0, .int .i64 0, .bool false, .bool false] 41
 replace b0 := b0.trans (hb.mono b0.size)
 replace cr := cr.below hb
 generalize v3.alloc (.cells #[.int .i64 0, .int .i64 0, .int .u64 0, .int .u64 0, .int .i64 0, .bool false, .bool false] 41) = v4 at *
 generalize v3.heap.size = gp at *
 clear hb
 have x0 := cr.cell 0 rfl; have z0 := cr.frozen 0; have x1 := cr.cell 1 rfl; have z1 := cr.frozen 1; have x2 := cr.cell 2 rfl; have z2 := cr.frozen 2; have x3 := cr.cell 3 rfl; have z3 := cr.frozen 3; have x4 := cr.cell 4 rfl; have z4 := cr.frozen 4; have x5 := cr.cell 5 rfl; have z5 := cr.frozen 5
 have HB := hid b0
 clear b0 cr
 go_wp2_with fail
 exact bodyPost_ret (v := .agg #[.int .u64 0, .int .u64 0, .int .i64 0, .int .i64 0, .int .i64 0, .bool false]) (by simp [results, Tryz.results4, go_sem, x0, x1, x2, x3, x4, x5]) rfl ⟨rfl, belowU HB.out _ (Nat.le_refl _) _ _ _ _ _ _⟩

theorem sfast_fin (f : Int) (ao : Option Addr) (n c : Nat) (W : Int) (w : World) (kd : Int) (ng : Bool) (dl m t : Nat) (ex k E : Int) (T : Nat) (x : Bool) (hd h2d A Bo A2 B2 B NA NB Q : Nat) (h1 l1 f1 h2 l2 f2 : Int) (R : Value) (OK : World → Option Addr → Nat → Prop) (okB : ∀ v v' a k, OK v a k → Below v.heap.size v v' → OK v' a k) (okC : ∀ v a k, OK v a k → dl ≤ k ∧ k ≤ 9223372036854775807 ∧ ∃ b off, a = some ⟨b, off, none⟩)
 (ht : IntKind.i64.wrap ((dl : Int) - (m : Int)) = (t : Int)) (htd : t ≤ dl) (hL : L hd = [hd]) (hw : IntKind.u64.wrap ((hd : Int) + 1) = (h2d : Int)) (hB : B = if 0 < m then B2 else Bo) (hE1 : -100000 ≤ E) (hE2 : E ≤ 100000)
 (hy : h1 = h2 ∧ l1 = l2 ∧ f1 = f2 → R = .agg #[.int .u64 h1, .int .u64 l1, .int .i64 0, .int .i64 0, .int .i64 f1, .bool true]) (hn : ¬ (h1 = h2 ∧ l1 = l2 ∧ f1 = f2) → R = .agg #[.int .u64 0, .int .u64 0, .int .i64 0, .int .i64 0, .int .i64 0, .bool false])
 (kL : ∀ v : World, Below w.heap.size w v → Calls Tryz.prog 9 #[.int .i64 f, .slice ao n c] v fun e w' => ∃ a cc, e = .returned (.tuple #[.agg #[.int .i64 kd, .bool ng, .slice a dl cc, .int .i64 ex], .int .i64 (m : Int), .int .i64 k, .bool true]) ∧ OK w' a cc ∧ Below v.heap.size v w')
 (kT : ∀ v : World, Calls Tryz.prog 11 #[.int .i64 k, .int .i64 W] v fun e w' => e = .returned (.agg #[.int .i64 k, .int .i64 W, .int .u64 (M.hiN T : Int), .int .u64 (M.loN T : Int), .int .i64 E, .bool x, .bool true]) ∧ Below v.heap.size v w')
 (kD : ∀ (v : World) (a : Option Addr) (cc : Nat), OK v a cc → Calls Tryz.prog 13 #[.slice a t cc] v fun e w' => Ret v w' e (D hd))
 (kO : ∀ (v : World) (a : Option Addr) (cc : Nat), Rd v a (D hd) → Calls Tryz.prog 12 #[.slice a (D hd).length cc] v fun e w' => ∃ a' c', e = .returned (.slice a' (L hd).length c') ∧ w'.ownsRow v.heap.size 23 1 (.slice a' (L hd).length c') (L hd).length (U (L hd)) ∧ Below v.heap.size v w')
 (kS1 : ∀ v : World, Calls Tryz.prog 15 #[.int .u64 (hd : Int), .agg #[.int .i64 k, .int .i64 W, .int .u64 (M.hiN T : Int), .int .u64 (M.loN T : Int), .int .i64 E, .bool x, .bool true]] v fun e w' => Sw v w' e (L A) (L Bo) E true)
 (kS2 : ∀ v : World, Calls Tryz.prog 15 #[.int .u64 (h2d : Int), .agg #[.int .i64 k, .int .i64 W, .int .u64 (M.hiN T : Int), .int .u64 (M.loN T : Int), .int .i64 E, .bool x, .bool true]] v fun e w' => Sw v w' e (L A2) (L B2) E true)
 (kI : ∀ (N : Nat) (v : World) (a : Option Addr) (cc : Nat), N = A ∨ N = Bo ∨ N = B2 → Rd v a (L N) → Calls Tryz.prog 14 #[.slice a (L N).length cc] v fun e w' => Ret v w' e (D N))
 (k1 : ∀ v : World, Calls Tryz.prog 16 #[.int .u64 1] v fun e w' => Ret v w' e (D 1))
 (kU : 0 ≤ E → Q = 1 ∧ (∀ (v : World) (a : Option Addr) (cc : Nat), Rd v a (D A) → Calls Tryz.prog 17 #[.slice a (D A).length cc, .int .i64 E] v fun e w' => Ret v w' e (D NA)) ∧ (∀ (v : World) (a : Option Addr) (cc : Nat), Rd v a (D B) → Calls Tryz.prog 17 #[.slice a (D B).length cc, .int .i64 E] v fun e w' => Ret v w' e (D NB)))
 (kV : E < 0 → NA = A ∧ NB = B ∧ ∀ v : World, Calls Tryz.prog 18 #[.int .i64 (-E)] v fun e w' => Ret v w' e (D Q))
 (kR1 : ∀ (v : World) (a b : Option Addr) (c d : Nat), (D NA).length ≤ c → Rd v a (D NA) → Rd v b (D Q) → Calls Tryz.prog 19 #[.int .i64 f, .bool ng, .slice a (D NA).length c, .slice b (D Q).length d] v fun e w' => e = .returned (.agg #[.int .u64 h1, .int .u64 l1, .int .i64 f1, .bool true]) ∧ Below v.heap.size v w')
 (kR2 : ∀ (v : World) (a b : Option Addr) (c d : Nat), (D NB).length ≤ c → Rd v a (D NB) → Rd v b (D Q) → Calls Tryz.prog 19 #[.int .i64 f, .bool ng, .slice a (D NB).length c, .slice b (D Q).length d] v fun e w' => e = .returned (.agg #[.int .u64 h2, .int .u64 l2, .int .i64 f2, .bool true]) ∧ Below v.heap.size v w') :
 Calls Tryz.prog 4 #[.int .i64 f, .slice ao n c, .int .i64 W] w fun e w' => e = .returned R ∧ Below w.heap.size w w' := by
 have HBB := hid hB; have HY := hid hy; have HN := hid hn; have HL := hid hL; have HW := hid hw
 clear hB hy hn hL hw
 have b0 : Below w.heap.size w (w.alloc (.cells #[.int .u64 0, .int .u64 0, .int .i64 0, .int .i64 0, .int .i64 0, .bool false] 29)) := (Below.refl _ _).alloc (Nat.le_refl _) _
 have cr : Cls (w.alloc (.cells #[.int .u64 0, .int .u64 0, .int .i64 0, .int .i64 0, .int .i64 0, .bool false] 29)) w.heap.size #[.int .u64 0, .int .u64 0, .int .i64 0, .int .i64 0, .int .i64 0, .bool false] 29 := Cls.new _ _ _
 go_enter Tryz.func4, Tryz.ntmps4
 go_wp2_with fail
 refine (kL _ b0).mono ?_
 rintro e v1 ⟨a, cc, rfl, ho, hb⟩
 replace b0 := b0.trans (hb.mono b0.size)
 replace cr := cr.below hb
 clear hb kL
 go_upto_region 4 with fail
 have hb : Below v1.heap.size v1 (v1.alloc (.cells #[.int .i64 kd, .bool ng, .slice a dl cc, .int .i64 ex] 36)) := (Below.refl _ _).alloc (Nat.le_refl _) _
 have cd := Cls.new v1 #[.int .i64 kd, .bool ng, .slice a dl cc, .int .i64 ex] 36
 replace b0 := b0.trans (hb.mono b0.size)
 replace cr := cr.below hb
 replace ho := okB _ _ _ _ ho hb
 generalize v1.alloc (.cells #[.int .i64 kd, .bool ng, .slice a dl cc, .int .i64 ex] 36) = v2 at *
 generalize v1.heap.size = gd at *
 clear hb
 go_wp2_with fail
 refine (kT _).mono ?_
 rintro e v3 ⟨rfl, hb⟩
 replace b0 := b0.trans (hb.mono b0.size)
 replace cr := cr.below hb
 replace cd := cd.below hb
 replace ho := okB _ _ _ _ ho hb
 clear hb kT
 go_upto_region 7 with fail
 have hb : Below v3.heap.size v3 (v3.alloc (.cells #[.int .i64 k, .int .i64 W, .int .u64 (M.hiN T : Int), .int .u64 (M.loN T : Int), .int .i64 E, .bool x, .bool true] 41)) := (Below.refl _ _).alloc (Nat.le_refl _) _
 have cp := Cls.new v3 #[.int .i64 k, .int .i64 W, .int .u64 (M.hiN T : Int), .int .u64 (M.loN T : Int), .int .i64 E, .bool x, .bool true] 41
 replace b0 := b0.trans (hb.mono b0.size)
 replace cr := cr.below hb
 replace cd := cd.below hb
 replace ho := okB _ _ _ _ ho hb
 generalize v3.alloc (.cells #[.int .i64 k, .int .i64 W, .int .u64 (M.hiN T : Int), .int .u64 (M.loN T : Int), .int .i64 E, .bool x, .bool true] 41) = v4 at *
 generalize v3.heap.size = gp at *
 clear hb
 have d2 := cd.cell 2 rfl
 obtain ⟨ca, cb, bb, oo, ha⟩ := okC _ _ _ ho
 subst ha
 have t0 : (0 : Int) ≤ (t : Int) := by omega
 have t1 : (t : Int) ≤ (cc : Int) := by omega
 have t4 : t ≤ cc := by omega
 go_wp2_with fail
 clear d2
 refine (kD _ _ _ ho).mono ?_
 rintro e v5 ⟨da, dc, rfl, oD, hb⟩
 replace b0 := b0.trans (hb.mono b0.size)
 replace cr := cr.below hb
 replace cd := cd.below hb
 replace cp := cp.below hb
 clear hb kD ho
 go_wp2_with fail
 refine (kO _ _ _ (Rd.own oD)).mono ?_
 rintro e v6 ⟨la, lc, rfl, oL, hb⟩
 replace b0 := b0.trans (hb.mono b0.size)
 replace cr := cr.below hb
 replace cd := cd.below hb
 replace cp := cp.below hb
 clear hb kO oD
 have rL := Rd.own oL
 rw [HL.out] at rL ⊢
 obtain ⟨lb, lo, hla, hlc⟩ := rL (by simp)
 subst hla
 have i0 := hlc 0 (by simp)
 simp only [List.getD_cons_zero, Nat.add_zero] at i0
 clear oL hlc
 go_upto_region 8 with fail
 clear i0
 have p0 := cp.cell 0 rfl; have p1 := cp.cell 1 rfl; have p2 := cp.cell 2 rfl; have p3 := cp.cell 3 rfl; have p4 := cp.cell 4 rfl; have p5 := cp.cell 5 rfl; have p6 := cp.cell 6 rfl
 have fs := fld_s0
 go_wp2_with fail
 clear p0 p1 p2 p3 p4 p5 p6
 refine (kS1 _).mono ?_
 rintro e v7 ⟨sa, sc, sb, sd, m1, rfl, -, -, oA, oB, hb⟩
 replace b0 := b0.trans (hb.mono b0.size)
 replace cr := cr.below hb
 replace cd := cd.below hb
 replace cp := cp.below hb
 clear hb
 go_wp2_with fail
 clear fs
 refine (kI A _ _ _ (.inl rfl) oA.rd).mono ?_
 rintro e v8 ⟨aa, ac, rfl, oX, hb⟩
 replace b0 := b0.trans (hb.mono b0.size)
 replace cr := cr.below hb
 replace cd := cd.below hb
 replace cp := cp.below hb
 have rA := Rd.own oX
 have cA := own_cap oX
 clear hb oX oA oB
 go_upto_region 9 with fail
 have p0 := cp.cell 0 rfl; have p1 := cp.cell 1 rfl; have p2 := cp.cell 2 rfl; have p3 := cp.cell 3 rfl; have p4 := cp.cell 4 rfl; have p5 := cp.cell 5 rfl; have p6 := cp.cell 6 rfl
 have fs := fld_s1
 go_wp2_with fail
 clear p0 p1 p2 p3 p4 p5 p6
 refine (kS1 _).mono ?_
 rintro e v9 ⟨sa, sc, sb, sd, m1, rfl, -, -, oA, oB, hb⟩
 replace b0 := b0.trans (hb.mono b0.size)
 replace cr := cr.below hb
 replace cd := cd.below hb
 replace cp := cp.below hb
 replace rA := rA.below hb
 clear hb
 go_wp2_with fail
 clear fs
 refine (kI Bo _ _ _ (.inr (.inl rfl)) oB.rd).mono ?_
 rintro e va ⟨ba, bc, rfl, oX, hb⟩
 replace b0 := b0.trans (hb.mono b0.size)
 replace cr := cr.below hb
 replace cd := cd.below hb
 replace cp := cp.below hb
 replace rA := rA.below hb
 have rB := Rd.own oX
 have cB := own_cap oX
 clear hb oX oA oB kS1
 go_upto_if 62 with fail
 go_cut [14] (fun z wx => ∃ (a : Option Addr) (c : Nat), z = .slice a (D B).length c ∧ (D B).length ≤ c ∧ Rd wx a (D B) ∧ Below va.heap.size va wx)
 case first =>
  by_cases hm : 0 < m
  · have hm' : (0 : Int) < (m : Int) := by omega
    have eB : B = B2 := by rw [HBB.out, if_pos hm]
    have EB := hid eB; clear eB
    have hw := HW.out
    have p0 := cp.cell 0 rfl; have p1 := cp.cell 1 rfl; have p2 := cp.cell 2 rfl; have p3 := cp.cell 3 rfl; have p4 := cp.cell 4 rfl; have p5 := cp.cell 5 rfl; have p6 := cp.cell 6 rfl
    have fs := fld_s1
    go_wp2_with fail
    clear p0 p1 p2 p3 p4 p5 p6
    refine (kS2 _).mono ?_
    rintro e vb ⟨sa, sc, sb, sd, m1, rfl, -, -, oA, oB, hb⟩
    go_wp2_with fail
    refine (kI B2 _ _ _ (.inr (.inr rfl)) oB.rd).mono ?_
    rintro e vc ⟨ya, yc, rfl, oX, hb2⟩
    have rX := Rd.own oX
    have cX := own_cap oX
    have HBX := hid (hb.trans (hb2.mono hb.size))
    clear hb hb2 oX fs hw
    go_wp2_with fail
    go_meet
    case rel => exact ⟨ya, yc, by rw [EB.out], by rw [EB.out]; exact cX, by rw [EB.out]; exact rX, HBX.out⟩
  · have hm' : ¬ (0 : Int) < (m : Int) := by omega
    have eB : B = Bo := by rw [HBB.out, if_neg hm]
    have EB := hid eB; clear eB
    go_wp2_with fail
    go_meet
    case rel => exact ⟨ba, bc, by rw [EB.out], by rw [EB.out]; exact cB, by rw [EB.out]; exact rB, Below.refl _ _⟩
 case rest =>
 clear rB cB kS2
 obtain ⟨ba, bc, rfl, cB, rB, hb⟩ := hcut
 rename World => vb
 replace b0 := b0.trans (hb.mono b0.size)
 replace cr := cr.below hb
 replace cd := cd.below hb
 replace cp := cp.below hb
 replace rA := rA.below hb
 clear hb kI
 go_wp2_with fail
 refine (k1 _).mono ?_
 rintro e vc ⟨qa, qc, rfl, oX, hb⟩
 replace b0 := b0.trans (hb.mono b0.size)
 replace cr := cr.below hb
 replace cd := cd.below hb
 replace cp := cp.below hb
 replace rA := rA.below hb
 replace rB := rB.below hb
 have r1 := Rd.own oX
 clear hb oX k1
 have p4 := cp.cell 4 rfl
 go_upto_if 72 with fail
 go_cut [13, 14, 15] (fun y z q wx => ∃ (a : Option Addr) (c : Nat) (b : Option Addr) (d : Nat) (g : Option Addr) (k : Nat), y = .slice a (D NA).length c ∧ z = .slice b (D NB).length d ∧ q = .slice g (D Q).length k ∧ (D NA).length ≤ c ∧ (D NB).length ≤ d ∧ Rd wx a (D NA) ∧ Rd wx b (D NB) ∧ Rd wx g (D Q) ∧ Below vc.heap.size vc wx)
 case first =>
  by_cases hE : 0 ≤ E
  · obtain ⟨eQ, kA, kB⟩ := kU hE
    have EQ := hid eQ; clear eQ
    go_wp2_with fail
    refine (kA _ _ _ rA).mono ?_
    rintro e vd ⟨ya, yc, rfl, oX, hb⟩
    have rX := Rd.own oX
    have cX := own_cap oX
    have p4 := (cp.below hb).cell 4 rfl
    replace rB := rB.below hb
    go_wp2_with fail
    refine (kB _ _ _ rB).mono ?_
    rintro e ve ⟨za, zc, rfl, oY, hb2⟩
    have rY := Rd.own oY
    have cY := own_cap oY
    replace rX := rX.below hb2
    have HBX := hid (hb.trans (hb2.mono hb.size))
    have HR := hid (r1.below (hb.trans (hb2.mono hb.size)))
    clear hb hb2 oX oY p4
    go_wp2_with fail
    go_meet
    case rel => exact ⟨ya, yc, za, zc, qa, qc, rfl, rfl, by rw [EQ.out], cX, cY, rX, rY, by rw [EQ.out]; exact HR.out, HBX.out⟩
  · obtain ⟨eA, eB, kT⟩ := kV (by omega)
    have EA := hid eA; have EB := hid eB; clear eA eB
    have q : IntKind.i64.wrap (-E) = -E := by rw [IntKind.wrap_i64]; omega
    go_wp2_with fail
    clear q
    refine (kT _).mono ?_
    rintro e vd ⟨ya, yc, rfl, oX, hb⟩
    have rX := Rd.own oX
    replace rA := rA.below hb
    replace rB := rB.below hb
    go_wp2_with fail
    go_meet
    case rel => exact ⟨aa, ac, ba, bc, ya, yc, by rw [EA.out], by rw [EB.out], rfl, by rw [EA.out]; exact cA, by rw [EB.out]; exact cB, by rw [EA.out]; exact rA, by rw [EB.out]; exact rB, rX, hb⟩
 case rest =>
 clear rA rB cA cB r1 p4 kU kV
 obtain ⟨aa, ac, ba, bc, qa, qc, rfl, rfl, rfl, cA, cB, rA, rB, rQ, hb⟩ := hcut
 rename World => vd
 replace b0 := b0.trans (hb.mono b0.size)
 replace cr := cr.below hb
 replace cd := cd.below hb
 clear hb cp
 have d1 := cd.cell 1 rfl
 go_wp2_with fail
 clear d1
 refine (kR1 _ _ _ _ _ cA rA rQ).mono ?_
 rintro e ve ⟨rfl, hb⟩
 replace b0 := b0.trans (hb.mono b0.size)
 replace cr := cr.below hb
 replace cd := cd.below hb
 replace rB := rB.below hb
 replace rQ := rQ.below hb
 clear hb kR1 rA cA
 go_upto_region 18 with fail
 have hb : Below ve.heap.size ve (ve.alloc (.cells #[.int .u64 h1, .int .u64 l1, .int .i64 f1, .bool true] 53)) := (Below.refl _ _).alloc (Nat.le_refl _) _
 have cx := Cls.new ve #[.int .u64 h1, .int .u64 l1, .int .i64 f1, .bool true] 53
 replace b0 := b0.trans (hb.mono b0.size)
 replace cr := cr.below hb
 replace cd := cd.below hb
 replace rB := rB.below hb
 replace rQ := rQ.below hb
 generalize ve.alloc (.cells #[.int .u64 h1, .int .u64 l1, .int .i64 f1, .bool true] 53) = vf at *
 generalize ve.heap.size = ga at *
 clear hb
 have d1 := cd.cell 1 rfl
 go_wp2_with fail
 clear d1
 refine (kR2 _ _ _ _ _ cB rB rQ).mono ?_
 rintro e vg ⟨rfl, hb⟩
 replace b0 := b0.trans (hb.mono b0.size)
 replace cr := cr.below hb
 replace cx := cx.below hb
 clear hb kR2 rB cB rQ cd
 go_upto_region 19 with fail
 have hb : Below vg.heap.size vg (vg.alloc (.cells #[.int .u64 h2, .int .u64 l2, .int .i64 f2, .bool true] 53)) := (Below.refl _ _).alloc (Nat.le_refl _) _
 have cy := Cls.new vg #[.int .u64 h2, .int .u64 l2, .int .i64 f2, .bool true] 53
 replace b0 := b0.trans (hb.mono b0.size)
 replace cr := cr.below hb
 replace cx := cx.below hb
 generalize vg.alloc (.cells #[.int .u64 h2, .int .u64 l2, .int .i64 f2, .bool true] 53) = vh at *
 generalize vg.heap.size = gb at *
 clear hb
 have x0 := cr.cell 0 rfl; have z0 := cr.frozen 0; have x1 := cr.cell 1 rfl; have z1 := cr.frozen 1; have x2 := cr.cell 2 rfl; have z2 := cr.frozen 2; have x3 := cr.cell 3 rfl; have z3 := cr.frozen 3; have x4 := cr.cell 4 rfl; have z4 := cr.frozen 4; have x5 := cr.cell 5 rfl; have z5 := cr.frozen 5
 have y0 := cx.cell 0 rfl; have y1 := cx.cell 1 rfl; have y2 := cx.cell 2 rfl; have y3 := cx.cell 3 rfl
 have u0 := cy.cell 0 rfl; have u1 := cy.cell 1 rfl; have u2 := cy.cell 2 rfl; have u3 := cy.cell 3 rfl
 have HB := hid b0
 clear b0 cr cx cy
 by_cases e1 : h1 = h2
 · by_cases e2 : l1 = l2
   · by_cases e3 : f1 = f2
     · have EY := hid (HY.out ⟨e1, e2, e3⟩)
       subst e1 e2 e3
       go_wp2_with fail
       exact bodyPost_ret (v := .agg #[.int .u64 h1, .int .u64 l1, .int .i64 0, .int .i64 0, .int .i64 f1, .bool true]) (by simp [results, Tryz.results4, go_sem, x0, x1, x2, x3, x4, x5]) rfl ⟨by rw [EY.out], belowU HB.out _ (Nat.le_refl _) _ _ _ _ _ _⟩
     · have EN := hid (HN.out (fun hh => e3 hh.2.2))
       subst e1 e2
       have q : (f1 == f2) = false := beq_eq_false_iff_ne.2 e3
       go_wp2_with fail
       exact bodyPost_ret (v := .agg #[.int .u64 0, .int .u64 0, .int .i64 0, .int .i64 0, .int .i64 0, .bool false]) (by simp [results, Tryz.results4, go_sem, x0, x1, x2, x3, x4, x5]) rfl ⟨by rw [EN.out], belowU HB.out _ (Nat.le_refl _) _ _ _ _ _ _⟩
   · have EN := hid (HN.out (fun hh => e2 hh.2.1))
     subst e1
     have q : (l1 == l2) = false := beq_eq_false_iff_ne.2 e2
     go_wp2_with fail
     exact bodyPost_ret (v := .agg #[.int .u64 0, .int .u64 0, .int .i64 0, .int .i64 0, .int .i64 0, .bool false]) (by simp [results, Tryz.results4, go_sem, x0, x1, x2, x3, x4, x5]) rfl ⟨by rw [EN.out], belowU HB.out _ (Nat.le_refl _) _ _ _ _ _ _⟩
 · have EN := hid (HN.out (fun hh => e1 hh.1))
   have q : (h1 == h2) = false := beq_eq_false_iff_ne.2 e1
   go_wp2_with fail
   exact bodyPost_ret (v := .agg #[.int .u64 0, .int .u64 0, .int .i64 0, .int .i64 0, .int .i64 0, .bool false]) (by simp [results, Tryz.results4, go_sem, x0, x1, x2, x3, x4, x5]) rfl ⟨by rw [EN.out], belowU HB.out _ (Nat.le_refl _) _ _ _ _ _ _⟩

end Go.Proofs.YtjffpclidcloeaaGreatDoor
