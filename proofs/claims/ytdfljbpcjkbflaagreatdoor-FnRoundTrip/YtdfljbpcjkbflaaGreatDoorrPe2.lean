import Derived.Deep.Cut
import Derived.Test.YtdfljbpcjkbflaaGreatDoorrHAF
set_option maxHeartbeats 4000000
set_option maxRecDepth 10000
namespace Go.Proofs.YtdfljbpcjkbflaaGreatDoor
open Go.RowKit
set_option linter.unusedVariables false
set_option maxRecDepth 100000
abbrev pA : Array Value := #[.int .i64 0, .bool false, .slice none 0 0, .int .i64 0]

abbrev iI : Array Value := #[.int .u64 0, .int .u64 0, .int .i64 0, .int .i64 0, .int .i64 0]

structure SB (w v : World) : Prop where
 d : Cls v w.heap.size pA 46
 p : Cls v (w.heap.size + 1) iI 32
 b : Below w.heap.size w v

theorem SB.below {w v v' : World} (h : SB w v) (hb : Below v.heap.size v v') : SB w v' := ⟨h.d.below hb, h.p.below hb, h.b.trans (hb.mono h.b.size)⟩

theorem SB.new (w : World) : SB w ((w.alloc (.cells pA 46)).alloc (.cells iI 32)) := by
 have b1 : Below w.heap.size w (w.alloc (.cells pA 46)) := (Below.refl _ _).alloc (Nat.le_refl _) _
 have b2 : Below (w.alloc (.cells pA 46)).heap.size (w.alloc (.cells pA 46)) ((w.alloc (.cells pA 46)).alloc (.cells iI 32)) := (Below.refl _ _).alloc (Nat.le_refl _) _
 refine ⟨(Cls.new w _ _).below b2, ?_, b1.trans (b2.mono b1.size)⟩
 have := Cls.new (w.alloc (.cells pA 46)) iI 32
 rwa [World.size_alloc] at this

theorem SB.put {w v : World} (h : SB w v) (a0 a1 a2 a3 p0 p1 p2 p3 p4 : Value) :
 Cls (((((((((v.setCell ⟨w.heap.size, 0, none⟩ a0).setCell ⟨w.heap.size, 1, none⟩ a1).setCell ⟨w.heap.size, 2, none⟩ a2).setCell ⟨w.heap.size, 3, none⟩ a3).setCell ⟨w.heap.size + 1, 0, none⟩ p0).setCell ⟨w.heap.size + 1, 1, none⟩ p1).setCell ⟨w.heap.size + 1, 2, none⟩ p2).setCell ⟨w.heap.size + 1, 3, none⟩ p3).setCell ⟨w.heap.size + 1, 4, none⟩ p4) w.heap.size #[a0, a1, a2, a3] 46 ∧
 Cls (((((((((v.setCell ⟨w.heap.size, 0, none⟩ a0).setCell ⟨w.heap.size, 1, none⟩ a1).setCell ⟨w.heap.size, 2, none⟩ a2).setCell ⟨w.heap.size, 3, none⟩ a3).setCell ⟨w.heap.size + 1, 0, none⟩ p0).setCell ⟨w.heap.size + 1, 1, none⟩ p1).setCell ⟨w.heap.size + 1, 2, none⟩ p2).setCell ⟨w.heap.size + 1, 3, none⟩ p3).setCell ⟨w.heap.size + 1, 4, none⟩ p4) (w.heap.size + 1) #[p0, p1, p2, p3, p4] 32 ∧
 Below w.heap.size w (((((((((v.setCell ⟨w.heap.size, 0, none⟩ a0).setCell ⟨w.heap.size, 1, none⟩ a1).setCell ⟨w.heap.size, 2, none⟩ a2).setCell ⟨w.heap.size, 3, none⟩ a3).setCell ⟨w.heap.size + 1, 0, none⟩ p0).setCell ⟨w.heap.size + 1, 1, none⟩ p1).setCell ⟨w.heap.size + 1, 2, none⟩ p2).setCell ⟨w.heap.size + 1, 3, none⟩ p3).setCell ⟨w.heap.size + 1, 4, none⟩ p4) := by
 have ne : w.heap.size ≠ w.heap.size + 1 := by omega
 refine ⟨?_, ?_, ?_⟩
 · exact ((((((((h.d.set 0 a0 _ rfl).set 1 a1 _ rfl).set 2 a2 _ rfl).set 3 a3 _ rfl).far _ ne.symm _).far _ ne.symm _).far _ ne.symm _).far _ ne.symm _).far _ ne.symm _
 · exact ((((((((h.p.far _ ne _).far _ ne _).far _ ne _).far _ ne _).set 0 p0 _ rfl).set 1 p1 _ rfl).set 2 p2 _ rfl).set 3 p3 _ rfl).set 4 p4 _ rfl
 · exact ((((((((h.b.setCell (p := ⟨w.heap.size, 0, none⟩) (Nat.le_refl _) _).setCell (p := ⟨w.heap.size, 1, none⟩) (Nat.le_refl _) _).setCell (p := ⟨w.heap.size, 2, none⟩) (Nat.le_refl _) _).setCell (p := ⟨w.heap.size, 3, none⟩) (Nat.le_refl _) _).setCell (p := ⟨w.heap.size + 1, 0, none⟩) (Nat.le_succ _) _).setCell (p := ⟨w.heap.size + 1, 1, none⟩) (Nat.le_succ _) _).setCell (p := ⟨w.heap.size + 1, 2, none⟩) (Nat.le_succ _) _).setCell (p := ⟨w.heap.size + 1, 3, none⟩) (Nat.le_succ _) _).setCell (p := ⟨w.heap.size + 1, 4, none⟩) (Nat.le_succ _) _

theorem cN {v : World} {g b o : Nat} {x y z u : Value} (h : b ≠ g) : ((((v.setCell ⟨g, 0, none⟩ x).setCell ⟨g, 1, none⟩ y).setCell ⟨g, 2, none⟩ z).setCell ⟨g, 3, none⟩ u).cell? ⟨b, o, none⟩ = v.cell? ⟨b, o, none⟩ :=
 World.cell?_of_block (w := v) (a := ⟨b, o, none⟩) ((((Below.heap_setCell _ _ _ _ h).trans (Below.heap_setCell _ _ _ _ h)).trans (Below.heap_setCell _ _ _ _ h)).trans (Below.heap_setCell _ _ _ _ h))

theorem bH {v : World} {g b o : Nat} {x y z u t : Value} (h : b ≠ g) : (((((v.setCell ⟨g, 0, none⟩ x).setCell ⟨g, 1, none⟩ y).setCell ⟨g, 2, none⟩ z).setCell ⟨g, 3, none⟩ u).setCell ⟨g, 4, none⟩ t).cell? ⟨b, o, none⟩ = v.cell? ⟨b, o, none⟩ :=
 World.cell?_of_block (w := v) (a := ⟨b, o, none⟩) (((((Below.heap_setCell _ _ _ _ h).trans (Below.heap_setCell _ _ _ _ h)).trans (Below.heap_setCell _ _ _ _ h)).trans (Below.heap_setCell _ _ _ _ h)).trans (Below.heap_setCell _ _ _ _ h))

theorem vJ (f : Int) (ao : Option Addr) (n c : Nat) (w : World) (hm : Fmt w) (F : M.Fm)
 (kE : ∀ v : World, Fmt v → Calls Tryz.prog 18 #[.int .i64 f] v fun e w' => e = .returned (dv F) ∧ Below v.heap.size v w')
 (kK : ∀ v : World, Calls Tryz.prog 31 #[dv F] v fun e w' => e = .returned (.bool true) ∧ Below v.heap.size v w')
 (kd : Int) (ng : Bool) (dl : Nat) (ex cd off : Int) (OK : World → Nat → Option Addr → Nat → Prop) (okB : ∀ v v' lo a k, OK v lo a k → Below v.heap.size v v' → OK v' lo a k) (okF : ∀ v lo a k (p : Addr) x, OK v lo a k → p.block < lo → OK (v.setCell p x) lo a k) (okL : ∀ v lo lo' a k, OK v lo a k → lo' ≤ lo → OK v lo' a k)
 (hcd : cd ≠ 0)
 (kS : ∀ v : World, Below w.heap.size w v → Calls Tryz.prog 49 #[.slice ao n c] v fun e w' => ∃ a cc, e = .returned (.agg #[.int .i64 kd, .bool ng, .slice a dl cc, .int .i64 ex, .int .i64 cd, .int .i64 off]) ∧ OK w' v.heap.size a cc ∧ Below v.heap.size v w') :
 Calls Tryz.prog 16 #[.int .i64 f, .slice ao n c] w fun e w' => e = .returned (.tuple #[.agg #[.int .i64 0, .bool false, .slice none 0 0, .int .i64 0], .agg #[.int .u64 0, .int .u64 0, .int .i64 cd, .int .i64 off, .int .i64 0], .bool true]) ∧ Below w.heap.size w w' := by
 simp only [dv] at kE kK
 go_enter Tryz.func16, Tryz.ntmps16
 go_wp2_with fail
 have s0 := SB.new w
 refine (kE _ (hm.below s0.b)).mono ?_
 rintro e v1 ⟨rfl, hb⟩
 replace s0 := s0.below hb
 have lgd0 := s0.p.lt
 have bA : Below v1.heap.size v1 (v1.alloc (.cells #[.int .i64 (F.p : Int), .int .i64 (1 - (F.emax : Int)), .int .i64 (F.emax : Int), .int .i64 (F.wd : Int), .int .i64 (F.e : Int), .bool F.x] 51)) := (Below.refl _ _).alloc (Nat.le_refl _) _
 have cA := Cls.new v1 #[.int .i64 (F.p : Int), .int .i64 (1 - (F.emax : Int)), .int .i64 (F.emax : Int), .int .i64 (F.wd : Int), .int .i64 (F.e : Int), .bool F.x] 51
 replace s0 := s0.below bA
 clear hb bA
 go_wp2_with fail
 generalize (v1.alloc (.cells #[.int .i64 (F.p : Int), .int .i64 (1 - (F.emax : Int)), .int .i64 (F.emax : Int), .int .i64 (F.wd : Int), .int .i64 (F.e : Int), .bool F.x] 51)) = v1' at *
 have lgd : w.heap.size + 1 < v1.heap.size := lgd0
 generalize v1.heap.size = gd at *
 refine (kK _).mono ?_
 rintro e v2 ⟨rfl, hb2⟩
 replace s0 := s0.below hb2
 replace cA := cA.below hb2
 clear hb2
 go_wp2_with fail
 have l2 : w.heap.size + 1 < v2.heap.size := s0.p.lt
 refine (kS _ s0.b).mono ?_
 rintro e v3 ⟨a, cc, rfl, hO, hb3⟩
 replace s0 := s0.below hb3
 replace cA := cA.below hb3
 have hb3s := hb3.size
 clear hb3
 generalize v2.heap.size = lo at *
 have bS : Below v3.heap.size v3 (v3.alloc (.cells #[.int .i64 kd, .bool ng, .slice a dl cc, .int .i64 ex, .int .i64 cd, .int .i64 off] 92)) := (Below.refl _ _).alloc (Nat.le_refl _) _
 have cS := Cls.new v3 #[.int .i64 kd, .bool ng, .slice a dl cc, .int .i64 ex, .int .i64 cd, .int .i64 off] 92
 replace s0 := s0.below bS
 replace cA := cA.below bS
 replace hO := okB _ _ _ _ _ hO bS
 clear bS
 go_upto_region 5 with fail
 generalize (v3.alloc (.cells #[.int .i64 kd, .bool ng, .slice a dl cc, .int .i64 ex, .int .i64 cd, .int .i64 off] 92)) = v4 at *
 have lgs : w.heap.size + 1 < v3.heap.size := Nat.lt_of_lt_of_le l2 hb3s
 generalize v3.heap.size = gs at *
 have x0 := cS.cell 0 rfl
 have x1 := cS.cell 1 rfl
 have x2 := cS.cell 2 rfl
 have x3 := cS.cell 3 rfl
 have x4 := cS.cell 4 rfl
 have x5 := cS.cell 5 rfl
 go_wp2_with fail
 have ne1S : w.heap.size ≠ gs := by omega
 have ne2S : w.heap.size + 1 ≠ gs := by omega
 obtain ⟨S, hS⟩ : ∃ S : World → Prop, S = (fun v : World => v.cell? ⟨gs, 0, none⟩ = some (.int .i64 kd) ∧ v.cell? ⟨gs, 1, none⟩ = some (.bool ng) ∧ v.cell? ⟨gs, 2, none⟩ = some (.slice a dl cc) ∧ v.cell? ⟨gs, 3, none⟩ = some (.int .i64 ex) ∧ v.cell? ⟨gs, 4, none⟩ = some (.int .i64 cd) ∧ v.cell? ⟨gs, 5, none⟩ = some (.int .i64 off)) := ⟨_, rfl⟩
 have D1 : ∀ v, Below v4.heap.size v4 v → S v := fun v hv => by rw [hS]; exact ⟨(cS.below hv).cell 0 rfl, (cS.below hv).cell 1 rfl, (cS.below hv).cell 2 rfl, (cS.below hv).cell 3 rfl, (cS.below hv).cell 4 rfl, (cS.below hv).cell 5 rfl⟩
 have K1 : ∀ v : World, S v → S v.drew := fun v h => by rw [hS] at h ⊢; exact h
 have K2 : ∀ (v : World) u0 u1 u2 u3, S v → S ((((v.setCell ⟨w.heap.size, 0, none⟩ u0).setCell ⟨w.heap.size, 1, none⟩ u1).setCell ⟨w.heap.size, 2, none⟩ u2).setCell ⟨w.heap.size, 3, none⟩ u3) := fun v u0 u1 u2 u3 h => by rw [hS] at h ⊢; exact ⟨(cN (Ne.symm ne1S)).trans h.1, (cN (Ne.symm ne1S)).trans h.2.1, (cN (Ne.symm ne1S)).trans h.2.2.1, (cN (Ne.symm ne1S)).trans h.2.2.2.1, (cN (Ne.symm ne1S)).trans h.2.2.2.2.1, (cN (Ne.symm ne1S)).trans h.2.2.2.2.2⟩
 have K3 : ∀ (v : World) u4 u5 u6 u7 u8, S v → S (((((v.setCell ⟨w.heap.size + 1, 0, none⟩ u4).setCell ⟨w.heap.size + 1, 1, none⟩ u5).setCell ⟨w.heap.size + 1, 2, none⟩ u6).setCell ⟨w.heap.size + 1, 3, none⟩ u7).setCell ⟨w.heap.size + 1, 4, none⟩ u8) := fun v u4 u5 u6 u7 u8 h => by rw [hS] at h ⊢; exact ⟨(bH (Ne.symm ne2S)).trans h.1, (bH (Ne.symm ne2S)).trans h.2.1, (bH (Ne.symm ne2S)).trans h.2.2.1, (bH (Ne.symm ne2S)).trans h.2.2.2.1, (bH (Ne.symm ne2S)).trans h.2.2.2.2.1, (bH (Ne.symm ne2S)).trans h.2.2.2.2.2⟩
 have GD : ∀ v : World, Below w.heap.size w v ∧ OK v lo a cc → Below w.heap.size w v.drew ∧ OK v.drew lo a cc := fun v h => ⟨h.1.drew, okB _ _ _ _ _ h.2 (Below.refl _ _).drew⟩
 have GS : ∀ (v : World) (p : Addr) x, w.heap.size ≤ p.block → p.block < lo → Below w.heap.size w v ∧ OK v lo a cc → Below w.heap.size w (v.setCell p x) ∧ OK (v.setCell p x) lo a cc := fun v p x h1 h2 h => ⟨h.1.setCell h1 _, okF _ _ _ _ _ _ h.2 h2⟩
 have hrf : Below v4.heap.size v4 v4 := Below.refl _ _
 have hdr : Below v4.heap.size v4 v4.drew := (Below.refl _ _).drew
 have cc0 := s0.d.cell 0 rfl
 have cc1 := s0.d.cell 1 rfl
 have cc2 := s0.d.cell 2 rfl
 have cc3 := s0.d.cell 3 rfl
 have qq0 := s0.p.cell 0 rfl
 have qq1 := s0.p.cell 1 rfl
 have qq2 := s0.p.cell 2 rfl
 have qq3 := s0.p.cell 3 rfl
 have qq4 := s0.p.cell 4 rfl
 have ff0 := s0.d.frozen 0
 have ff1 := s0.d.frozen 1
 have ff2 := s0.d.frozen 2
 have ff3 := s0.d.frozen 3
 have gg0 := s0.p.frozen 0
 have gg1 := s0.p.frozen 1
 have gg2 := s0.p.frozen 2
 have gg3 := s0.p.frozen 3
 have gg4 := s0.p.frozen 4
 have s5 := s0.below hdr
 have o5 : Below w.heap.size w v4 ∧ OK v4 lo a cc := ⟨s0.b, hO⟩
 have c0 := s5.d.cell 0 rfl
 have c1 := s5.d.cell 1 rfl
 have c2 := s5.d.cell 2 rfl
 have c3 := s5.d.cell 3 rfl
 have q0 := s5.p.cell 0 rfl
 have q1 := s5.p.cell 1 rfl
 have q2 := s5.p.cell 2 rfl
 have q3 := s5.p.cell 3 rfl
 have q4 := s5.p.cell 4 rfl
 have f0 := s5.d.frozen 0
 have f1 := s5.d.frozen 1
 have f2 := s5.d.frozen 2
 have f3 := s5.d.frozen 3
 have g0 := s5.p.frozen 0
 have g1 := s5.p.frozen 1
 have g2 := s5.p.frozen 2
 have g3 := s5.p.frozen 3
 have g4 := s5.p.frozen 4
 subst hS
 go_region_held3 (fun v : World => v.cell? ⟨gs, 0, none⟩ = some (.int .i64 kd) ∧ v.cell? ⟨gs, 1, none⟩ = some (.bool ng) ∧ v.cell? ⟨gs, 2, none⟩ = some (.slice a dl cc) ∧ v.cell? ⟨gs, 3, none⟩ = some (.int .i64 ex) ∧ v.cell? ⟨gs, 4, none⟩ = some (.int .i64 cd) ∧ v.cell? ⟨gs, 5, none⟩ = some (.int .i64 off)) (repeat' (first | (with_reducible exact D1 _ (by assumption)) | (with_reducible refine K1 _ ?_) | (with_reducible refine K2 _ _ _ _ _ ?_) | (with_reducible refine K3 _ _ _ _ _ _ ?_)))
  (fail)
 all_goals go_wp2_with fail
 all_goals refine bodyPost_ret (v := .tuple #[.agg #[.int .i64 0, .bool false, .slice none 0 0, .int .i64 0], .agg #[.int .u64 0, .int .u64 0, .int .i64 cd, .int .i64 off, .int .i64 0], .bool true]) (by simp [results, Tryz.results16, go_sem, cc0, cc1, cc2, cc3, qq0, qq1, qq2, qq3, qq4]) rfl ⟨rfl, ?_⟩
 all_goals refine (fun h => h.1 : ∀ {v : World}, Below w.heap.size w v ∧ OK v lo a cc → Below w.heap.size w v) ?_
 all_goals (repeat' (first | (with_reducible exact o5) | (with_reducible refine GD _ ?_) | (with_reducible refine GS _ _ _ (by simp only; omega) (by simp only; omega) ?_)))

theorem mU (f : Int) (ao : Option Addr) (n c : Nat) (w : World) (hm : Fmt w) (F : M.Fm)
 (kE : ∀ v : World, Fmt v → Calls Tryz.prog 18 #[.int .i64 f] v fun e w' => e = .returned (dv F) ∧ Below v.heap.size v w')
 (kK : ∀ v : World, Calls Tryz.prog 31 #[dv F] v fun e w' => e = .returned (.bool true) ∧ Below v.heap.size v w')
 (kd : Int) (ng : Bool) (dl : Nat) (ex cd off : Int) (OK : World → Nat → Option Addr → Nat → Prop) (okB : ∀ v v' lo a k, OK v lo a k → Below v.heap.size v v' → OK v' lo a k) (okF : ∀ v lo a k (p : Addr) x, OK v lo a k → p.block < lo → OK (v.setCell p x) lo a k) (okL : ∀ v lo lo' a k, OK v lo a k → lo' ≤ lo → OK v lo' a k)
 (hcd : cd = 0) (cl : Int) (np : Bool) (hK : kd = 2 ∧ cl = 4 ∧ ng = np ∨ kd = 3 ∧ cl = 5 ∧ np = false ∨ kd ≠ 2 ∧ kd ≠ 3 ∧ dl = 0 ∧ cl = 1 ∧ ng = np) (h l : Int) (kP : ∀ v : World, Calls Tryz.prog 50 #[dv F, .agg #[.int .i64 cl, .bool np, .int .u64 0, .int .u64 0, .int .i64 0]] v fun e w' => e = .returned (.agg #[.int .u64 h, .int .u64 l]) ∧ Below v.heap.size v w')
 (kS : ∀ v : World, Below w.heap.size w v → Calls Tryz.prog 49 #[.slice ao n c] v fun e w' => ∃ a cc, e = .returned (.agg #[.int .i64 kd, .bool ng, .slice a dl cc, .int .i64 ex, .int .i64 cd, .int .i64 off]) ∧ OK w' v.heap.size a cc ∧ Below v.heap.size v w') :
 Calls Tryz.prog 16 #[.int .i64 f, .slice ao n c] w fun e w' => ∃ a cc, e = .returned (.tuple #[.agg #[.int .i64 kd, .bool ng, .slice a dl cc, .int .i64 ex], .agg #[.int .u64 h, .int .u64 l, .int .i64 0, .int .i64 0, .int .i64 0], .bool true]) ∧ OK w' w.heap.size a cc ∧ Below w.heap.size w w' := by
 simp only [dv] at kE kK kP
 subst hcd
 have HK := hid hK
 clear hK
 go_enter Tryz.func16, Tryz.ntmps16
 go_wp2_with fail
 have s0 := SB.new w
 refine (kE _ (hm.below s0.b)).mono ?_
 rintro e v1 ⟨rfl, hb⟩
 replace s0 := s0.below hb
 have lgd0 := s0.p.lt
 have bA : Below v1.heap.size v1 (v1.alloc (.cells #[.int .i64 (F.p : Int), .int .i64 (1 - (F.emax : Int)), .int .i64 (F.emax : Int), .int .i64 (F.wd : Int), .int .i64 (F.e : Int), .bool F.x] 51)) := (Below.refl _ _).alloc (Nat.le_refl _) _
 have cA := Cls.new v1 #[.int .i64 (F.p : Int), .int .i64 (1 - (F.emax : Int)), .int .i64 (F.emax : Int), .int .i64 (F.wd : Int), .int .i64 (F.e : Int), .bool F.x] 51
 replace s0 := s0.below bA
 clear hb bA
 go_wp2_with fail
 generalize (v1.alloc (.cells #[.int .i64 (F.p : Int), .int .i64 (1 - (F.emax : Int)), .int .i64 (F.emax : Int), .int .i64 (F.wd : Int), .int .i64 (F.e : Int), .bool F.x] 51)) = v1' at *
 have lgd : w.heap.size + 1 < v1.heap.size := lgd0
 generalize v1.heap.size = gd at *
 refine (kK _).mono ?_
 rintro e v2 ⟨rfl, hb2⟩
 replace s0 := s0.below hb2
 replace cA := cA.below hb2
 clear hb2
 go_wp2_with fail
 have l2 : w.heap.size + 1 < v2.heap.size := s0.p.lt
 refine (kS _ s0.b).mono ?_
 rintro e v3 ⟨a, cc, rfl, hO, hb3⟩
 replace s0 := s0.below hb3
 replace cA := cA.below hb3
 have hb3s := hb3.size
 clear hb3
 generalize v2.heap.size = lo at *
 have bS : Below v3.heap.size v3 (v3.alloc (.cells #[.int .i64 kd, .bool ng, .slice a dl cc, .int .i64 ex, .int .i64 0, .int .i64 off] 92)) := (Below.refl _ _).alloc (Nat.le_refl _) _
 have cS := Cls.new v3 #[.int .i64 kd, .bool ng, .slice a dl cc, .int .i64 ex, .int .i64 0, .int .i64 off] 92
 replace s0 := s0.below bS
 replace cA := cA.below bS
 replace hO := okB _ _ _ _ _ hO bS
 clear bS
 go_upto_region 5 with fail
 generalize (v3.alloc (.cells #[.int .i64 kd, .bool ng, .slice a dl cc, .int .i64 ex, .int .i64 0, .int .i64 off] 92)) = v4 at *
 have lgs : w.heap.size + 1 < v3.heap.size := Nat.lt_of_lt_of_le l2 hb3s
 generalize v3.heap.size = gs at *
 rcases HK.out with ⟨hk, rfl, rfl⟩ | ⟨hk, rfl, rfl⟩ | ⟨hk, hk3, hdl, rfl, rfl⟩
 all_goals (
  clear HK
  have x0 := cS.cell 0 rfl
  have x1 := cS.cell 1 rfl
  have x2 := cS.cell 2 rfl
  have x3 := cS.cell 3 rfl
  have x4 := cS.cell 4 rfl
  have x5 := cS.cell 5 rfl
  go_wp2_with fail
  have ne1S : w.heap.size ≠ gs := by omega
  have ne2S : w.heap.size + 1 ≠ gs := by omega
  have ne1A : w.heap.size ≠ gd := by omega
  have ne2A : w.heap.size + 1 ≠ gd := by omega
  obtain ⟨S, hS⟩ : ∃ S : World → Prop, S = (fun v : World => v.cell? ⟨gs, 0, none⟩ = some (.int .i64 kd) ∧ v.cell? ⟨gs, 1, none⟩ = some (.bool ng) ∧ v.cell? ⟨gs, 2, none⟩ = some (.slice a dl cc) ∧ v.cell? ⟨gs, 3, none⟩ = some (.int .i64 ex) ∧ v.cell? ⟨gs, 4, none⟩ = some (.int .i64 0) ∧ v.cell? ⟨gs, 5, none⟩ = some (.int .i64 off) ∧ v.cell? ⟨gd, 0, none⟩ = some (.int .i64 (F.p : Int)) ∧ v.cell? ⟨gd, 1, none⟩ = some (.int .i64 (1 - (F.emax : Int))) ∧ v.cell? ⟨gd, 2, none⟩ = some (.int .i64 (F.emax : Int)) ∧ v.cell? ⟨gd, 3, none⟩ = some (.int .i64 (F.wd : Int)) ∧ v.cell? ⟨gd, 4, none⟩ = some (.int .i64 (F.e : Int)) ∧ v.cell? ⟨gd, 5, none⟩ = some (.bool F.x)) := ⟨_, rfl⟩
  have D1 : ∀ v, Below v4.heap.size v4 v → S v := fun v hv => by rw [hS]; exact ⟨(cS.below hv).cell 0 rfl, (cS.below hv).cell 1 rfl, (cS.below hv).cell 2 rfl, (cS.below hv).cell 3 rfl, (cS.below hv).cell 4 rfl, (cS.below hv).cell 5 rfl, (cA.below hv).cell 0 rfl, (cA.below hv).cell 1 rfl, (cA.below hv).cell 2 rfl, (cA.below hv).cell 3 rfl, (cA.below hv).cell 4 rfl, (cA.below hv).cell 5 rfl⟩
  have K1 : ∀ v : World, S v → S v.drew := fun v h => by rw [hS] at h ⊢; exact h
  have K2 : ∀ (v : World) u0 u1 u2 u3, S v → S ((((v.setCell ⟨w.heap.size, 0, none⟩ u0).setCell ⟨w.heap.size, 1, none⟩ u1).setCell ⟨w.heap.size, 2, none⟩ u2).setCell ⟨w.heap.size, 3, none⟩ u3) := fun v u0 u1 u2 u3 h => by rw [hS] at h ⊢; exact ⟨(cN (Ne.symm ne1S)).trans h.1, (cN (Ne.symm ne1S)).trans h.2.1, (cN (Ne.symm ne1S)).trans h.2.2.1, (cN (Ne.symm ne1S)).trans h.2.2.2.1, (cN (Ne.symm ne1S)).trans h.2.2.2.2.1, (cN (Ne.symm ne1S)).trans h.2.2.2.2.2.1, (cN (Ne.symm ne1A)).trans h.2.2.2.2.2.2.1, (cN (Ne.symm ne1A)).trans h.2.2.2.2.2.2.2.1, (cN (Ne.symm ne1A)).trans h.2.2.2.2.2.2.2.2.1, (cN (Ne.symm ne1A)).trans h.2.2.2.2.2.2.2.2.2.1, (cN (Ne.symm ne1A)).trans h.2.2.2.2.2.2.2.2.2.2.1, (cN (Ne.symm ne1A)).trans h.2.2.2.2.2.2.2.2.2.2.2⟩
  have K3 : ∀ (v : World) u4 u5 u6 u7 u8, S v → S (((((v.setCell ⟨w.heap.size + 1, 0, none⟩ u4).setCell ⟨w.heap.size + 1, 1, none⟩ u5).setCell ⟨w.heap.size + 1, 2, none⟩ u6).setCell ⟨w.heap.size + 1, 3, none⟩ u7).setCell ⟨w.heap.size + 1, 4, none⟩ u8) := fun v u4 u5 u6 u7 u8 h => by rw [hS] at h ⊢; exact ⟨(bH (Ne.symm ne2S)).trans h.1, (bH (Ne.symm ne2S)).trans h.2.1, (bH (Ne.symm ne2S)).trans h.2.2.1, (bH (Ne.symm ne2S)).trans h.2.2.2.1, (bH (Ne.symm ne2S)).trans h.2.2.2.2.1, (bH (Ne.symm ne2S)).trans h.2.2.2.2.2.1, (bH (Ne.symm ne2A)).trans h.2.2.2.2.2.2.1, (bH (Ne.symm ne2A)).trans h.2.2.2.2.2.2.2.1, (bH (Ne.symm ne2A)).trans h.2.2.2.2.2.2.2.2.1, (bH (Ne.symm ne2A)).trans h.2.2.2.2.2.2.2.2.2.1, (bH (Ne.symm ne2A)).trans h.2.2.2.2.2.2.2.2.2.2.1, (bH (Ne.symm ne2A)).trans h.2.2.2.2.2.2.2.2.2.2.2⟩
  have GD : ∀ v : World, Below w.heap.size w v ∧ OK v lo a cc → Below w.heap.size w v.drew ∧ OK v.drew lo a cc := fun v h => ⟨h.1.drew, okB _ _ _ _ _ h.2 (Below.refl _ _).drew⟩
  have GS : ∀ (v : World) (p : Addr) x, w.heap.size ≤ p.block → p.block < lo → Below w.heap.size w v ∧ OK v lo a cc → Below w.heap.size w (v.setCell p x) ∧ OK (v.setCell p x) lo a cc := fun v p x h1 h2 h => ⟨h.1.setCell h1 _, okF _ _ _ _ _ _ h.2 h2⟩
  have hrf : Below v4.heap.size v4 v4 := Below.refl _ _
  have hdr : Below v4.heap.size v4 v4.drew := (Below.refl _ _).drew
  clear x0 x1 x2 x3 x4 x5
  subst hS
  go_region_held3 (fun v : World => v.cell? ⟨gs, 0, none⟩ = some (.int .i64 kd) ∧ v.cell? ⟨gs, 1, none⟩ = some (.bool ng) ∧ v.cell? ⟨gs, 2, none⟩ = some (.slice a dl cc) ∧ v.cell? ⟨gs, 3, none⟩ = some (.int .i64 ex) ∧ v.cell? ⟨gs, 4, none⟩ = some (.int .i64 0) ∧ v.cell? ⟨gs, 5, none⟩ = some (.int .i64 off) ∧ v.cell? ⟨gd, 0, none⟩ = some (.int .i64 (F.p : Int)) ∧ v.cell? ⟨gd, 1, none⟩ = some (.int .i64 (1 - (F.emax : Int))) ∧ v.cell? ⟨gd, 2, none⟩ = some (.int .i64 (F.emax : Int)) ∧ v.cell? ⟨gd, 3, none⟩ = some (.int .i64 (F.wd : Int)) ∧ v.cell? ⟨gd, 4, none⟩ = some (.int .i64 (F.e : Int)) ∧ v.cell? ⟨gd, 5, none⟩ = some (.bool F.x)) (repeat' (first | (with_reducible exact D1 _ (by assumption)) | (with_reducible refine K1 _ ?_) | (with_reducible refine K2 _ _ _ _ _ ?_) | (with_reducible refine K3 _ _ _ _ _ _ ?_)))
   (first | (go_at_call 50; refine (kP _).mono ?_; rintro e v5 ⟨rfl, hb5'⟩; have hb5 := hdr.trans (hb5'.mono (Nat.le_refl _)); have s5 := s0.below hb5; have o5 : Below w.heap.size w _ ∧ OK _ lo a cc := ⟨s5.b, okB _ _ _ _ _ hO hb5⟩; have c0 := s5.d.cell 0 rfl; have c1 := s5.d.cell 1 rfl; have c2 := s5.d.cell 2 rfl; have c3 := s5.d.cell 3 rfl; have q0 := s5.p.cell 0 rfl; have q1 := s5.p.cell 1 rfl; have q2 := s5.p.cell 2 rfl; have q3 := s5.p.cell 3 rfl; have q4 := s5.p.cell 4 rfl; have f0 := s5.d.frozen 0; have f1 := s5.d.frozen 1; have f2 := s5.d.frozen 2; have f3 := s5.d.frozen 3; have g0 := s5.p.frozen 0; have g1 := s5.p.frozen 1; have g2 := s5.p.frozen 2; have g3 := s5.p.frozen 3; have g4 := s5.p.frozen 4))
  all_goals go_wp2_with fail
  all_goals refine bodyPost_ret (v := .tuple #[.agg #[.int .i64 kd, .bool ng, .slice a dl cc, .int .i64 ex], .agg #[.int .u64 h, .int .u64 l, .int .i64 0, .int .i64 0, .int .i64 0], .bool true]) (by first | (simp [results, Tryz.results16, go_sem, c0, c1, c2, c3, q0, q1, q2, q3, q4, hk]; done) | simp [results, Tryz.results16, go_sem, c0, c1, c2, c3, q0, q1, q2, q3, q4, hdl]) rfl ⟨a, cc, rfl, ?_⟩
  all_goals refine (fun h => ⟨okL _ _ _ _ _ h.2 (by omega), h.1⟩ : ∀ {v : World}, Below w.heap.size w v ∧ OK v lo a cc → OK v w.heap.size a cc ∧ Below w.heap.size w v) ?_
  all_goals (repeat' (first | (with_reducible exact o5) | (with_reducible refine GD _ ?_) | (with_reducible refine GS _ _ _ (by simp only; omega) (by simp only; omega) ?_))))

theorem wM (f : Int) (ao : Option Addr) (n c : Nat) (w : World) (hm : Fmt w) (F : M.Fm)
 (kE : ∀ v : World, Fmt v → Calls Tryz.prog 18 #[.int .i64 f] v fun e w' => e = .returned (dv F) ∧ Below v.heap.size v w')
 (kK : ∀ v : World, Calls Tryz.prog 31 #[dv F] v fun e w' => e = .returned (.bool true) ∧ Below v.heap.size v w')
 (kd : Int) (ng : Bool) (dl : Nat) (ex cd off : Int) (OK : World → Nat → Option Addr → Nat → Prop) (okB : ∀ v v' lo a k, OK v lo a k → Below v.heap.size v v' → OK v' lo a k) (okF : ∀ v lo a k (p : Addr) x, OK v lo a k → p.block < lo → OK (v.setCell p x) lo a k) (okL : ∀ v lo lo' a k, OK v lo a k → lo' ≤ lo → OK v lo' a k)
 (hcd : cd = 0) (hk : kd ≠ 2) (hk3 : kd ≠ 3) (hdl : dl ≠ 0)
 (kS : ∀ v : World, Below w.heap.size w v → Calls Tryz.prog 49 #[.slice ao n c] v fun e w' => ∃ a cc, e = .returned (.agg #[.int .i64 kd, .bool ng, .slice a dl cc, .int .i64 ex, .int .i64 cd, .int .i64 off]) ∧ OK w' v.heap.size a cc ∧ Below v.heap.size v w') :
 Calls Tryz.prog 16 #[.int .i64 f, .slice ao n c] w fun e w' => ∃ a cc, e = .returned (.tuple #[.agg #[.int .i64 kd, .bool ng, .slice a dl cc, .int .i64 ex], .agg #[.int .u64 0, .int .u64 0, .int .i64 0, .int .i64 0, .int .i64 0], .bool false]) ∧ OK w' w.heap.size a cc ∧ Below w.heap.size w w' := by
 simp only [dv] at kE kK
 subst hcd
 go_enter Tryz.func16, Tryz.ntmps16
 go_wp2_with fail
 have s0 := SB.new w
 refine (kE _ (hm.below s0.b)).mono ?_
 rintro e v1 ⟨rfl, hb⟩
 replace s0 := s0.below hb
 have lgd0 := s0.p.lt
 have bA : Below v1.heap.size v1 (v1.alloc (.cells #[.int .i64 (F.p : Int), .int .i64 (1 - (F.emax : Int)), .int .i64 (F.emax : Int), .int .i64 (F.wd : Int), .int .i64 (F.e : Int), .bool F.x] 51)) := (Below.refl _ _).alloc (Nat.le_refl _) _
 have cA := Cls.new v1 #[.int .i64 (F.p : Int), .int .i64 (1 - (F.emax : Int)), .int .i64 (F.emax : Int), .int .i64 (F.wd : Int), .int .i64 (F.e : Int), .bool F.x] 51
 replace s0 := s0.below bA
 clear hb bA
 go_wp2_with fail
 generalize (v1.alloc (.cells #[.int .i64 (F.p : Int), .int .i64 (1 - (F.emax : Int)), .int .i64 (F.emax : Int), .int .i64 (F.wd : Int), .int .i64 (F.e : Int), .bool F.x] 51)) = v1' at *
 have lgd : w.heap.size + 1 < v1.heap.size := lgd0
 generalize v1.heap.size = gd at *
 refine (kK _).mono ?_
 rintro e v2 ⟨rfl, hb2⟩
 replace s0 := s0.below hb2
 replace cA := cA.below hb2
 clear hb2
 go_wp2_with fail
 have l2 : w.heap.size + 1 < v2.heap.size := s0.p.lt
 refine (kS _ s0.b).mono ?_
 rintro e v3 ⟨a, cc, rfl, hO, hb3⟩
 replace s0 := s0.below hb3
 replace cA := cA.below hb3
 have hb3s := hb3.size
 clear hb3
 generalize v2.heap.size = lo at *
 have bS : Below v3.heap.size v3 (v3.alloc (.cells #[.int .i64 kd, .bool ng, .slice a dl cc, .int .i64 ex, .int .i64 0, .int .i64 off] 92)) := (Below.refl _ _).alloc (Nat.le_refl _) _
 have cS := Cls.new v3 #[.int .i64 kd, .bool ng, .slice a dl cc, .int .i64 ex, .int .i64 0, .int .i64 off] 92
 replace s0 := s0.below bS
 replace cA := cA.below bS
 replace hO := okB _ _ _ _ _ hO bS
 clear bS
 go_upto_region 5 with fail
 generalize (v3.alloc (.cells #[.int .i64 kd, .bool ng, .slice a dl cc, .int .i64 ex, .int .i64 0, .int .i64 off] 92)) = v4 at *
 have lgs : w.heap.size + 1 < v3.heap.size := Nat.lt_of_lt_of_le l2 hb3s
 generalize v3.heap.size = gs at *
 have x0 := cS.cell 0 rfl
 have x1 := cS.cell 1 rfl
 have x2 := cS.cell 2 rfl
 have x3 := cS.cell 3 rfl
 have x4 := cS.cell 4 rfl
 have x5 := cS.cell 5 rfl
 have hdl' : ¬ (dl : Int) = 0 := by omega
 have HP := hid (s0.put (.int .i64 kd) (.bool ng) (.slice a dl cc) (.int .i64 ex) (.int .u64 0) (.int .u64 0) (.int .i64 0) (.int .i64 0) (.int .i64 0))
 have c0 := s0.d.cell 0 rfl
 have c1 := s0.d.cell 1 rfl
 have c2 := s0.d.cell 2 rfl
 have c3 := s0.d.cell 3 rfl
 have q0 := s0.p.cell 0 rfl
 have q1 := s0.p.cell 1 rfl
 have q2 := s0.p.cell 2 rfl
 have q3 := s0.p.cell 3 rfl
 have q4 := s0.p.cell 4 rfl
 have f0 := s0.d.frozen 0
 have f1 := s0.d.frozen 1
 have f2 := s0.d.frozen 2
 have f3 := s0.d.frozen 3
 have g0 := s0.p.frozen 0
 have g1 := s0.p.frozen 1
 have g2 := s0.p.frozen 2
 have g3 := s0.p.frozen 3
 have g4 := s0.p.frozen 4
 clear s0
 go_wp2_with fail
 exact bodyPost_ret (v := .tuple #[.agg #[.int .i64 kd, .bool ng, .slice a dl cc, .int .i64 ex], .agg #[.int .u64 0, .int .u64 0, .int .i64 0, .int .i64 0, .int .i64 0], .bool false]) (by simp [results, Tryz.results16, go_sem, c0, c1, c2, c3, q0, q1, q2, q3, q4]) rfl ⟨a, cc, rfl, okL _ _ _ _ _ ((okF _ _ _ _ _ _ (okF _ _ _ _ _ _ (okF _ _ _ _ _ _ (okF _ _ _ _ _ _ (okF _ _ _ _ _ _ (okF _ _ _ _ _ _ (okF _ _ _ _ _ _ (okF _ _ _ _ _ _ (okF _ _ _ _ _ _ hO (by simp only; omega)) (by simp only; omega)) (by simp only; omega)) (by simp only; omega)) (by simp only; omega)) (by simp only; omega)) (by simp only; omega)) (by simp only; omega)) (by simp only; omega))) (by omega), HP.out.2.2⟩

end Go.Proofs.YtdfljbpcjkbflaaGreatDoor
