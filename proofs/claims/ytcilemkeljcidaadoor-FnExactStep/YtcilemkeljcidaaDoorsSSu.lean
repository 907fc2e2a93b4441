import Derived.Test.YtcilemkeljcidaaDoorsW15a
import Derived.Test.YtcilemkeljcidaaDoorsSSt
set_option maxHeartbeats 8000000
set_option maxRecDepth 100000
namespace Go.Proofs.YtcilemkeljcidaaDoor
open Go.RowKit
set_option linter.unusedVariables false
set_option maxRecDepth 100000
structure O5 (v : World) (g : Nat) (t : M.Pt) : Prop where
 p : P5 v g t
 f0 : v.frozen? ⟨g, 0, none⟩ = false
 f1 : v.frozen? ⟨g, 1, none⟩ = false
 f2 : v.frozen? ⟨g, 2, none⟩ = false
 f3 : v.frozen? ⟨g, 3, none⟩ = false
 f4 : v.frozen? ⟨g, 4, none⟩ = false

theorem O5_new (v : World) (t : M.Pt) : O5 (v.alloc (.cells #[.int .i64 t.c, .bool t.n, .int .u64 (M.hiN t.s : Int), .int .u64 (M.loN t.s : Int), .int .i64 t.q] 32)) v.heap.size t := by
 refine ⟨P5_new v t, ?_, ?_, ?_, ?_, ?_⟩ <;> simp [go_sem]

theorem O5_set {v : World} {g : Nat} (h : Z5 v g) (t : M.Pt) : O5 (((((v.setCell ⟨g, 0, none⟩ (.int .i64 t.c)).setCell ⟨g, 1, none⟩ (.bool t.n)).setCell ⟨g, 2, none⟩ (.int .u64 (M.hiN t.s : Int))).setCell ⟨g, 3, none⟩ (.int .u64 (M.loN t.s : Int))).setCell ⟨g, 4, none⟩ (.int .i64 t.q)) g t := by
 refine ⟨P5_set h t, ?_, ?_, ?_, ?_, ?_⟩ <;> simp [go_sem, h.f0, h.f1, h.f2, h.f3, h.f4]

theorem O5.below {v v' : World} {g : Nat} {t : M.Pt} (h : O5 v g t) (hb : Below v.heap.size v v') : O5 v' g t :=
 ⟨h.p.below hb, (hb.frozen h.p.2.2.2.2.2).trans h.f0, (hb.frozen h.p.2.2.2.2.2).trans h.f1, (hb.frozen h.p.2.2.2.2.2).trans h.f2, (hb.frozen h.p.2.2.2.2.2).trans h.f3, (hb.frozen h.p.2.2.2.2.2).trans h.f4⟩

theorem W2.far1 {v : World} {g k o X : Nat} (h : W2 v g X) (hk : g ≠ k) (a : Value) : W2 (v.setCell ⟨k, o, none⟩ a) g X := by
 obtain ⟨d0, d1, f0, f1, l⟩ := h
 have e : ∀ j, (v.setCell ⟨k, o, none⟩ a).cell? ⟨g, j, none⟩ = v.cell? ⟨g, j, none⟩ := fun j => World.cell?_setCell_other v ⟨k, o, none⟩ ⟨g, j, none⟩ a (by intro hh; have := congrArg Addr.block hh; simp only at this; omega)
 exact ⟨(e 0).trans d0, (e 1).trans d1, by simpa using f0, by simpa using f1, by simpa using l⟩

theorem W2.far5 {v : World} {g k X : Nat} (h : W2 v g X) (hk : g ≠ k) (a b c d e : Value) : W2 (((((v.setCell ⟨k, 0, none⟩ a).setCell ⟨k, 1, none⟩ b).setCell ⟨k, 2, none⟩ c).setCell ⟨k, 3, none⟩ d).setCell ⟨k, 4, none⟩ e) g X :=
 ((((h.far1 hk a).far1 hk b).far1 hk c).far1 hk d).far1 hk e

theorem sstep_gcm (f : Int) (X : Nat) (up : Bool) (T : M.Pt) (e0 e1 e2 e3 e4 : Int) (e5 : Bool) (w : World)
 (kE : ∀ v : World, Calls Tryd.prog 8 #[.int .i64 f] v fun e w' => e = .returned (.agg #[.int .i64 e0, .int .i64 e1, .int .i64 e2, .int .i64 e3, .int .i64 e4, .bool e5]) ∧ Below v.heap.size v w')
 (kU : ∀ v : World, Calls Tryd.prog 11 #[.int .i64 f, .agg #[.int .u64 (M.hiN X : Int), .int .u64 (M.loN X : Int)]] v fun e w' => e = .returned (.agg #[.int .i64 T.c, .bool T.n, .int .u64 (M.hiN T.s : Int), .int .u64 (M.loN T.s : Int), .int .i64 T.q]) ∧ Below v.heap.size v w')
 (S : Nat) (Q : Int) (S1 : Nat) (b : Int) (hg : (up == T.n) = false) (c0 : ¬ T.c = 0) (c5 : ¬ T.c = 5) (c1 : ¬ T.c = 1) (c4 : ¬ T.c = 4) (qm : Int) (hq : wrap64 (wrap64 (e1 - e0) + 1) = qm) (kO2 : ∀ (v : World), Calls Tryd.prog 23 #[.agg #[.int .u64 (M.hiN T.s : Int), .int .u64 (M.loN T.s : Int)]] v fun e w' => Ret v w' e (D T.s)) (kO : ∀ (v : World), Calls Tryd.prog 42 #[.int .u64 1] v fun e w' => Ret v w' e (D 1)) (kG : ∀ (v : World) (ao bo : Option Addr) (c d : Nat), Rd v ao (D T.s) → Rd v bo (D 1) → Calls Tryd.prog 28 #[.slice ao (D T.s).length c, .slice bo (D 1).length d] v fun e w' => Ret v w' e (D S1)) (kB : ∀ (v : World) (ao : Option Addr) (c : Nat), Rd v ao (D S1) → Calls Tryd.prog 24 #[.slice ao (D S1).length c] v fun e w' => e = .returned (.int .i64 b) ∧ w' = v) (hb : e0 < b) (kR : ∀ (v : World) (ao : Option Addr) (c : Nat), Rd v ao (D S1) → Calls Tryd.prog 43 #[.slice ao (D S1).length c, .int .i64 1] v fun e w' => Ret v w' e (D S)) (hqq : wrap64 (T.q + 1) = Q) (hz : ¬ (D S).length = 0) (E : Int) (hE : wrap64 (wrap64 (Q + e0) - 1) = E) (hi : ¬ e2 < E) (b2 : Int) (kB2 : ∀ (v : World) (ao : Option Addr) (c : Nat), Rd v ao (D S) → Calls Tryd.prog 24 #[.slice ao (D S).length c] v fun e w' => e = .returned (.int .i64 b2) ∧ w' = v) (hs : ¬ b2 < e0) (kW : ∀ (v : World) (ao : Option Addr) (c : Nat), Rd v ao (D S) → Calls Tryd.prog 27 #[.slice ao (D S).length c] v fun e w' => e = .returned (.agg #[.int .u64 (M.hiN S : Int), .int .u64 (M.loN S : Int)]) ∧ Below v.heap.size v w') (R : Nat) (ok : Bool) (kP : ∀ v : World, Calls Tryd.prog 17 #[.int .i64 f, .agg #[.int .i64 3, .bool T.n, .int .u64 (M.hiN S : Int), .int .u64 (M.loN S : Int), .int .i64 Q]] v fun e w' => e = .returned (.tuple #[.agg #[.int .u64 (M.hiN R : Int), .int .u64 (M.loN R : Int)], .bool ok]) ∧ Below v.heap.size v w') :
 Calls Tryd.prog 21 #[.int .i64 f, .agg #[.int .u64 (M.hiN X : Int), .int .u64 (M.loN X : Int)], .bool up] w fun e w' => e = .returned (.tuple #[.agg #[.int .u64 (M.hiN R : Int), .int .u64 (M.loN R : Int)], .bool ok]) ∧ Below w.heap.size w w' := by
 have b0 : Below w.heap.size w ((w.alloc (.cells #[.int .u64 (M.hiN X : Int), .int .u64 (M.loN X : Int)] 30)).alloc (.cells #[.int .u64 0, .int .u64 0] 30)) := ((Below.refl _ _).alloc (Nat.le_refl _) _).alloc (by simp) _
 have X0 : W2 ((w.alloc (.cells #[.int .u64 (M.hiN X : Int), .int .u64 (M.loN X : Int)] 30)).alloc (.cells #[.int .u64 0, .int .u64 0] 30)) w.heap.size X := by refine ⟨?_, ?_, ?_, ?_, ?_⟩ <;> simp [go_sem]
 have R0 : W2 ((w.alloc (.cells #[.int .u64 (M.hiN X : Int), .int .u64 (M.loN X : Int)] 30)).alloc (.cells #[.int .u64 0, .int .u64 0] 30)) (w.heap.size + 1) 0 := by refine ⟨?_, ?_, ?_, ?_, ?_⟩ <;> simp [go_sem, hi0, lo0]
 generalize hV : ((w.alloc (.cells #[.int .u64 (M.hiN X : Int), .int .u64 (M.loN X : Int)] 30)).alloc (.cells #[.int .u64 0, .int .u64 0] 30)) = v0 at *
 go_enter Tryd.func21, Tryd.ntmps21
 go_upto_region 1 with fail
 clear hV
 obtain ⟨x0, x1, -⟩ := id X0
 go_wp2_with fail
 refine (kU _).mono ?_
 rintro e v1 ⟨rfl, hb1⟩
 replace b0 := b0.trans (hb1.mono b0.size)
 replace R0 := R0.bl hb1
 have l0 : w.heap.size + 1 < v1.heap.size := R0.2.2.2.2
 clear hb1 kU x0 x1 X0
 go_upto_region 2 with fail
 have bA : Below v1.heap.size v1 (v1.alloc (.cells #[.int .i64 T.c, .bool T.n, .int .u64 (M.hiN T.s : Int), .int .u64 (M.loN T.s : Int), .int .i64 T.q] 32)) := (Below.refl _ _).alloc (Nat.le_refl _) _
 have P0 : P5 (v1.alloc (.cells #[.int .i64 T.c, .bool T.n, .int .u64 (M.hiN T.s : Int), .int .u64 (M.loN T.s : Int), .int .i64 T.q] 32)) v1.heap.size T := P5_new v1 T
 replace b0 := b0.trans (bA.mono b0.size)
 replace R0 := R0.bl bA
 clear bA
 generalize (v1.alloc (.cells #[.int .i64 T.c, .bool T.n, .int .u64 (M.hiN T.s : Int), .int .u64 (M.loN T.s : Int), .int .i64 T.q] 32)) = v2 at *
 generalize v1.heap.size = gp at *
 go_wp2_with fail
 refine (kE _).mono ?_
 rintro e v3 ⟨rfl, hb3⟩
 replace b0 := b0.trans (hb3.mono b0.size)
 replace R0 := R0.bl hb3
 replace P0 := P0.below hb3
 have l1 : gp < v3.heap.size := P0.2.2.2.2.2
 clear hb3 kE
 go_upto_region 3 with fail
 have bA : Below v3.heap.size v3 (v3.alloc (.cells #[.int .i64 e0, .int .i64 e1, .int .i64 e2, .int .i64 e3, .int .i64 e4, .bool e5] 23)) := (Below.refl _ _).alloc (Nat.le_refl _) _
 have Q0 : Tv w (v3.alloc (.cells #[.int .i64 e0, .int .i64 e1, .int .i64 e2, .int .i64 e3, .int .i64 e4, .bool e5] 23)) gp v3.heap.size e0 e1 e2 e3 e4 e5 T := ⟨b0.trans (bA.mono b0.size), D6_new v3 _ _ _ _ _ _ _, P0.below bA, R0.bl bA, l0, l1⟩
 clear bA b0 P0 R0 l0 l1
 generalize (v3.alloc (.cells #[.int .i64 e0, .int .i64 e1, .int .i64 e2, .int .i64 e3, .int .i64 e4, .bool e5] 23)) = v4 at *
 generalize v3.heap.size = gd at *
 obtain ⟨p0, p1, p2, p3, p4, -⟩ := id Q0.p
 obtain ⟨d0, d1, d2, d3, d4, d5, -⟩ := id Q0.d
 have x0 : (T.c == 0) = false := by simp [c0]
 have x5 : (T.c == 5) = false := by simp [c5]
 have x1 : (T.c == 1) = false := by simp [c1]
 have x4 : (T.c == 4) = false := by simp [c4]
 go_wp2_with fail
 refine (kO2 _).mono ?_
 rintro e v6 ⟨sa, sc, rfl, hoS, hb6⟩
 have rS := Rd.own hoS
 replace Q0 := Q0.below hb6
 clear hb6 kO2 hoS p0 p1 p2 p3 p4 d0 d1 d2 d3 d4 d5
 obtain ⟨p0, p1, p2, p3, p4, -⟩ := id Q0.p
 obtain ⟨d0, d1, d2, d3, d4, d5, -⟩ := id Q0.d
 go_wp2_with fail
 refine (kO _).mono ?_
 rintro e v7 ⟨bo, bc, rfl, hoB, hb7⟩
 have rB := Rd.own hoB
 replace rS := rS.below hb7
 replace Q0 := Q0.below hb7
 clear hb7 hoB p0 p1 p2 p3 p4 d0 d1 d2 d3 d4 d5
 go_wp2_with fail
 refine (kG _ _ _ _ _ rS rB).mono ?_
 rintro e v8 ⟨ta, tc, rfl, hoT, hb8⟩
 have rT := Rd.own hoT
 replace Q0 := Q0.below hb8
 clear hb8 kG hoT rS rB
 obtain ⟨d0, d1, d2, d3, d4, d5, -⟩ := id Q0.d
 go_upto_region 18 with fail
 go_quiet ((go_at_call 24; exact Calls.quiet_of_same (kB _ _ _ (Rd.drewN rT _))))
 clear d0 d1 d2 d3 d4 d5
 have A0 : Below v8.heap.size v8 (v8.drewN nq) := ⟨rfl, rfl, rfl, Nat.le_refl _, fun _ _ => rfl⟩
 replace Q0 := Q0.below A0
 replace rT := rT.below A0
 clear A0
 generalize v8.drewN nq = v9 at *
 obtain ⟨p0, p1, p2, p3, p4, -⟩ := id Q0.p
 go_wp2_with fail
 refine (kR _ _ _ rT).mono ?_
 rintro e va ⟨za, zc, rfl, hoZ, hba⟩
 have rZ := Rd.own hoZ
 replace Q0 := Q0.below hba
 clear hba kR hoZ rT p0 p1 p2 p3 p4
 obtain ⟨p0, p1, p2, p3, p4, -⟩ := id Q0.p
 go_upto_region 25 with fail
 clear p0 p1 p2 p3 p4
 rw [hqq]
 have A0 : Below va.heap.size va va.drew := (Below.refl _ _).drew
 have A1 : Below va.heap.size va (va.alloc (.cells #[.int .i64 0, .bool false, .int .u64 0, .int .u64 0, .int .i64 0] 32)).drew := ((Below.refl _ _).alloc (Nat.le_refl _) _).drew
 have ZA : Z5 (va.alloc (.cells #[.int .i64 0, .bool false, .int .u64 0, .int .u64 0, .int .i64 0] 32)).drew va.heap.size := (Z5_new va).below ((Below.refl _ _).drew)
 have KB : ∀ v, Below va.heap.size va v → (fun v => v.cell? ⟨gp, 0, none⟩ = some (.int .i64 T.c) ∧ v.cell? ⟨gp, 1, none⟩ = some (.bool T.n) ∧ v.cell? ⟨gp, 2, none⟩ = some (.int .u64 (M.hiN T.s : Int)) ∧ v.cell? ⟨gp, 3, none⟩ = some (.int .u64 (M.loN T.s : Int)) ∧ v.cell? ⟨gp, 4, none⟩ = some (.int .i64 T.q)) v := fun v hv => by
  obtain ⟨p0, p1, p2, p3, p4, -⟩ := (Q0.below hv).p
  exact ⟨p0, p1, p2, p3, p4⟩
 go_cut [15] (fun p wx => ∃ g, p = .pointer (some ⟨g, 0, none⟩) ∧ va.heap.size ≤ g ∧ O5 wx g ⟨0, T.n, S, Q⟩ ∧ Below va.heap.size va wx)
 case first =>
  go_region_held3 (fun v => v.cell? ⟨gp, 0, none⟩ = some (.int .i64 T.c) ∧ v.cell? ⟨gp, 1, none⟩ = some (.bool T.n) ∧ v.cell? ⟨gp, 2, none⟩ = some (.int .u64 (M.hiN T.s : Int)) ∧ v.cell? ⟨gp, 3, none⟩ = some (.int .u64 (M.loN T.s : Int)) ∧ v.cell? ⟨gp, 4, none⟩ = some (.int .i64 T.q)) (first | with_reducible exact KB _ hb1 | with_reducible exact KB _ (keepAl2 hb1 _) | with_reducible exact KB _ A0 | with_reducible exact KB _ A1 | with_reducible exact KB _ (keepSt5 hb1 _ (by first | with_reducible exact Nat.le_refl _ | with_reducible exact hs1) _ _ _ _ _))
   (first | (go_at_call 27; refine (kW _ _ _ (by first | with_reducible exact rZ.below A0 | with_reducible exact rZ.below A1)).mono ?_; rintro e u1 ⟨rfl, hb0⟩; have hb1 := keepC (w1 := va) (by first | with_reducible exact A0 | with_reducible exact A1) hb0; have hs1 := hb1.size; (first | (with_reducible have z1 := ZA.below hb0; obtain ⟨z0, z1', z2, z3, z4, y0, y1, y2, y3, y4, -⟩ := id z1) | skip); clear hb0))
  all_goals go_wp2_with fail
  all_goals go_meet
  all_goals first | exact ⟨_, rfl, hs1, O5_new u1 ⟨0, T.n, S, Q⟩, keepAl2 hb1 _⟩ | exact ⟨_, rfl, Nat.le_refl _, O5_set z1 ⟨0, T.n, S, Q⟩, keepSt5 hb1 _ (Nat.le_refl _) _ _ _ _ _⟩
 case rest =>
  rename World => wx
  obtain ⟨go, rfl, hgo, K0, hbx⟩ := hcut
  have lk : gp < va.heap.size := Q0.p.2.2.2.2.2
  have ld : gd < va.heap.size := Q0.d.2.2.2.2.2.2
  have lr : w.heap.size + 1 < va.heap.size := Q0.r.2.2.2.2
  replace Q0 := Q0.below hbx
  replace rZ := rZ.below hbx
  clear hbx KB A0 A1 ZA kW
  have n1 : gp ≠ go := by omega
  have n2 : gd ≠ go := by omega
  have n3 : w.heap.size + 1 ≠ go := by omega
  have n4 : w.heap.size ≤ go := by omega
  clear lk ld lr hgo
  obtain ⟨q0, q1, q2, q3, q4, -⟩ := id K0.p
  have g0 := K0.f0
  have g1 := K0.f1
  have g2 := K0.f2
  have g3 := K0.f3
  have g4 := K0.f4
  obtain ⟨p0, p1, p2, p3, p4, -⟩ := id Q0.p
  obtain ⟨d0, d1, d2, d3, d4, d5, -⟩ := id Q0.d
  go_upto_region 31 with fail
  go_quiet ((go_at_call 24; exact Calls.quiet_of_same (kB2 _ _ _ (Rd.drewN rZ _))))
  have A0 : Below wx.heap.size wx (wx.drewN nq) := ⟨rfl, rfl, rfl, Nat.le_refl _, fun _ _ => rfl⟩
  replace Q0 := Q0.below A0
  replace K0 := K0.below A0
  clear A0 p0 p1 p2 p3 p4 d0 d1 d2 d3 d4 d5 q0 q1 q2 q3 q4 g0 g1 g2 g3 g4
  generalize wx.drewN nq = wy at *
  obtain ⟨q0, q1, q2, q3, q4, -⟩ := id K0.p
  have g0 := K0.f0
  have R1 := Q0.r.far1 (o := 0) n3 (.int .i64 3)
  have bz := Q0.b.setCell (p := ⟨go, 0, none⟩) n4 (.int .i64 3)
  have HR1 := hid R1
  have HBZ := hid bz
  clear R1 bz Q0
  go_wp2_with fail
  refine (kP _).mono ?_
  rintro e vz ⟨rfl, hbz⟩
  have R2 := HR1.out.bl hbz
  have bb := ((HBZ.out.trans (hbz.mono HBZ.out.size)).setCell (p := ⟨w.heap.size + 1, 0, none⟩) (by simp only; omega) (.int .u64 (M.hiN R : Int))).setCell (p := ⟨w.heap.size + 1, 1, none⟩) (by simp only; omega) (.int .u64 (M.loN R : Int))
  have HB := hid bb
  clear bb hbz HBZ HR1
  obtain ⟨r0, r1, r2, r3, -⟩ := id R2
  clear R2
  go_wp2_with fail
  exact bodyPost_ret (v := .tuple #[.agg #[.int .u64 (M.hiN R : Int), .int .u64 (M.loN R : Int)], .bool ok]) (by simp [results, Tryd.results21, go_sem, r0, r1]) rfl ⟨rfl, HB.out⟩

theorem sstep_gci (f : Int) (X : Nat) (up : Bool) (T : M.Pt) (e0 e1 e2 e3 e4 : Int) (e5 : Bool) (w : World)
 (kE : ∀ v : World, Calls Tryd.prog 8 #[.int .i64 f] v fun e w' => e = .returned (.agg #[.int .i64 e0, .int .i64 e1, .int .i64 e2, .int .i64 e3, .int .i64 e4, .bool e5]) ∧ Below v.heap.size v w')
 (kU : ∀ v : World, Calls Tryd.prog 11 #[.int .i64 f, .agg #[.int .u64 (M.hiN X : Int), .int .u64 (M.loN X : Int)]] v fun e w' => e = .returned (.agg #[.int .i64 T.c, .bool T.n, .int .u64 (M.hiN T.s : Int), .int .u64 (M.loN T.s : Int), .int .i64 T.q]) ∧ Below v.heap.size v w')
 (S : Nat) (Q : Int) (S1 : Nat) (b : Int) (hg : (up == T.n) = false) (c0 : ¬ T.c = 0) (c5 : ¬ T.c = 5) (c1 : ¬ T.c = 1) (c4 : ¬ T.c = 4) (qm : Int) (hq : wrap64 (wrap64 (e1 - e0) + 1) = qm) (kO2 : ∀ (v : World), Calls Tryd.prog 23 #[.agg #[.int .u64 (M.hiN T.s : Int), .int .u64 (M.loN T.s : Int)]] v fun e w' => Ret v w' e (D T.s)) (kO : ∀ (v : World), Calls Tryd.prog 42 #[.int .u64 1] v fun e w' => Ret v w' e (D 1)) (kG : ∀ (v : World) (ao bo : Option Addr) (c d : Nat), Rd v ao (D T.s) → Rd v bo (D 1) → Calls Tryd.prog 28 #[.slice ao (D T.s).length c, .slice bo (D 1).length d] v fun e w' => Ret v w' e (D S1)) (kB : ∀ (v : World) (ao : Option Addr) (c : Nat), Rd v ao (D S1) → Calls Tryd.prog 24 #[.slice ao (D S1).length c] v fun e w' => e = .returned (.int .i64 b) ∧ w' = v) (hb : e0 < b) (kR : ∀ (v : World) (ao : Option Addr) (c : Nat), Rd v ao (D S1) → Calls Tryd.prog 43 #[.slice ao (D S1).length c, .int .i64 1] v fun e w' => Ret v w' e (D S)) (hqq : wrap64 (T.q + 1) = Q) (hz : ¬ (D S).length = 0) (E : Int) (hE : wrap64 (wrap64 (Q + e0) - 1) = E) (hi : e2 < E) (kW : ∀ (v : World) (ao : Option Addr) (c : Nat), Rd v ao (D S) → Calls Tryd.prog 27 #[.slice ao (D S).length c] v fun e w' => e = .returned (.agg #[.int .u64 (M.hiN S : Int), .int .u64 (M.loN S : Int)]) ∧ Below v.heap.size v w') (R : Nat) (ok : Bool) (kP : ∀ v : World, Calls Tryd.prog 17 #[.int .i64 f, .agg #[.int .i64 4, .bool T.n, .int .u64 0, .int .u64 0, .int .i64 0]] v fun e w' => e = .returned (.tuple #[.agg #[.int .u64 (M.hiN R : Int), .int .u64 (M.loN R : Int)], .bool ok]) ∧ Below v.heap.size v w') :
 Calls Tryd.prog 21 #[.int .i64 f, .agg #[.int .u64 (M.hiN X : Int), .int .u64 (M.loN X : Int)], .bool up] w fun e w' => e = .returned (.tuple #[.agg #[.int .u64 (M.hiN R : Int), .int .u64 (M.loN R : Int)], .bool ok]) ∧ Below w.heap.size w w' := by
 have b0 : Below w.heap.size w ((w.alloc (.cells #[.int .u64 (M.hiN X : Int), .int .u64 (M.loN X : Int)] 30)).alloc (.cells #[.int .u64 0, .int .u64 0] 30)) := ((Below.refl _ _).alloc (Nat.le_refl _) _).alloc (by simp) _
 have X0 : W2 ((w.alloc (.cells #[.int .u64 (M.hiN X : Int), .int .u64 (M.loN X : Int)] 30)).alloc (.cells #[.int .u64 0, .int .u64 0] 30)) w.heap.size X := by refine ⟨?_, ?_, ?_, ?_, ?_⟩ <;> simp [go_sem]
 have R0 : W2 ((w.alloc (.cells #[.int .u64 (M.hiN X : Int), .int .u64 (M.loN X : Int)] 30)).alloc (.cells #[.int .u64 0, .int .u64 0] 30)) (w.heap.size + 1) 0 := by refine ⟨?_, ?_, ?_, ?_, ?_⟩ <;> simp [go_sem, hi0, lo0]
 generalize hV : ((w.alloc (.cells #[.int .u64 (M.hiN X : Int), .int .u64 (M.loN X : Int)] 30)).alloc (.cells #[.int .u64 0, .int .u64 0] 30)) = v0 at *
 go_enter Tryd.func21, Tryd.ntmps21
 go_upto_region 1 with fail
 clear hV
 obtain ⟨x0, x1, -⟩ := id X0
 go_wp2_with fail
 refine (kU _).mono ?_
 rintro e v1 ⟨rfl, hb1⟩
 replace b0 := b0.trans (hb1.mono b0.size)
 replace R0 := R0.bl hb1
 have l0 : w.heap.size + 1 < v1.heap.size := R0.2.2.2.2
 clear hb1 kU x0 x1 X0
 go_upto_region 2 with fail
 have bA : Below v1.heap.size v1 (v1.alloc (.cells #[.int .i64 T.c, .bool T.n, .int .u64 (M.hiN T.s : Int), .int .u64 (M.loN T.s : Int), .int .i64 T.q] 32)) := (Below.refl _ _).alloc (Nat.le_refl _) _
 have P0 : P5 (v1.alloc (.cells #[.int .i64 T.c, .bool T.n, .int .u64 (M.hiN T.s : Int), .int .u64 (M.loN T.s : Int), .int .i64 T.q] 32)) v1.heap.size T := P5_new v1 T
 replace b0 := b0.trans (bA.mono b0.size)
 replace R0 := R0.bl bA
 clear bA
 generalize (v1.alloc (.cells #[.int .i64 T.c, .bool T.n, .int .u64 (M.hiN T.s : Int), .int .u64 (M.loN T.s : Int), .int .i64 T.q] 32)) = v2 at *
 generalize v1.heap.size = gp at *
 go_wp2_with fail
 refine (kE _).mono ?_
 rintro e v3 ⟨rfl, hb3⟩
 replace b0 := b0.trans (hb3.mono b0.size)
 replace R0 := R0.bl hb3
 replace P0 := P0.below hb3
 have l1 : gp < v3.heap.size := P0.2.2.2.2.2
 clear hb3 kE
 go_upto_region 3 with fail
 have bA : Below v3.heap.size v3 (v3.alloc (.cells #[.int .i64 e0, .int .i64 e1, .int .i64 e2, .int .i64 e3, .int .i64 e4, .bool e5] 23)) := (Below.refl _ _).alloc (Nat.le_refl _) _
 have Q0 : Tv w (v3.alloc (.cells #[.int .i64 e0, .int .i64 e1, .int .i64 e2, .int .i64 e3, .int .i64 e4, .bool e5] 23)) gp v3.heap.size e0 e1 e2 e3 e4 e5 T := ⟨b0.trans (bA.mono b0.size), D6_new v3 _ _ _ _ _ _ _, P0.below bA, R0.bl bA, l0, l1⟩
 clear bA b0 P0 R0 l0 l1
 generalize (v3.alloc (.cells #[.int .i64 e0, .int .i64 e1, .int .i64 e2, .int .i64 e3, .int .i64 e4, .bool e5] 23)) = v4 at *
 generalize v3.heap.size = gd at *
 obtain ⟨p0, p1, p2, p3, p4, -⟩ := id Q0.p
 obtain ⟨d0, d1, d2, d3, d4, d5, -⟩ := id Q0.d
 have x0 : (T.c == 0) = false := by simp [c0]
 have x5 : (T.c == 5) = false := by simp [c5]
 have x1 : (T.c == 1) = false := by simp [c1]
 have x4 : (T.c == 4) = false := by simp [c4]
 go_wp2_with fail
 refine (kO2 _).mono ?_
 rintro e v6 ⟨sa, sc, rfl, hoS, hb6⟩
 have rS := Rd.own hoS
 replace Q0 := Q0.below hb6
 clear hb6 kO2 hoS p0 p1 p2 p3 p4 d0 d1 d2 d3 d4 d5
 obtain ⟨p0, p1, p2, p3, p4, -⟩ := id Q0.p
 obtain ⟨d0, d1, d2, d3, d4, d5, -⟩ := id Q0.d
 go_wp2_with fail
 refine (kO _).mono ?_
 rintro e v7 ⟨bo, bc, rfl, hoB, hb7⟩
 have rB := Rd.own hoB
 replace rS := rS.below hb7
 replace Q0 := Q0.below hb7
 clear hb7 hoB p0 p1 p2 p3 p4 d0 d1 d2 d3 d4 d5
 go_wp2_with fail
 refine (kG _ _ _ _ _ rS rB).mono ?_
 rintro e v8 ⟨ta, tc, rfl, hoT, hb8⟩
 have rT := Rd.own hoT
 replace Q0 := Q0.below hb8
 clear hb8 kG hoT rS rB
 obtain ⟨d0, d1, d2, d3, d4, d5, -⟩ := id Q0.d
 go_upto_region 18 with fail
 go_quiet ((go_at_call 24; exact Calls.quiet_of_same (kB _ _ _ (Rd.drewN rT _))))
 clear d0 d1 d2 d3 d4 d5
 have A0 : Below v8.heap.size v8 (v8.drewN nq) := ⟨rfl, rfl, rfl, Nat.le_refl _, fun _ _ => rfl⟩
 replace Q0 := Q0.below A0
 replace rT := rT.below A0
 clear A0
 generalize v8.drewN nq = v9 at *
 obtain ⟨p0, p1, p2, p3, p4, -⟩ := id Q0.p
 go_wp2_with fail
 refine (kR _ _ _ rT).mono ?_
 rintro e va ⟨za, zc, rfl, hoZ, hba⟩
 have rZ := Rd.own hoZ
 replace Q0 := Q0.below hba
 clear hba kR hoZ rT p0 p1 p2 p3 p4
 obtain ⟨p0, p1, p2, p3, p4, -⟩ := id Q0.p
 go_upto_region 25 with fail
 clear p0 p1 p2 p3 p4
 rw [hqq]
 have A0 : Below va.heap.size va va.drew := (Below.refl _ _).drew
 have A1 : Below va.heap.size va (va.alloc (.cells #[.int .i64 0, .bool false, .int .u64 0, .int .u64 0, .int .i64 0] 32)).drew := ((Below.refl _ _).alloc (Nat.le_refl _) _).drew
 have ZA : Z5 (va.alloc (.cells #[.int .i64 0, .bool false, .int .u64 0, .int .u64 0, .int .i64 0] 32)).drew va.heap.size := (Z5_new va).below ((Below.refl _ _).drew)
 have KB : ∀ v, Below va.heap.size va v → (fun v => v.cell? ⟨gp, 0, none⟩ = some (.int .i64 T.c) ∧ v.cell? ⟨gp, 1, none⟩ = some (.bool T.n) ∧ v.cell? ⟨gp, 2, none⟩ = some (.int .u64 (M.hiN T.s : Int)) ∧ v.cell? ⟨gp, 3, none⟩ = some (.int .u64 (M.loN T.s : Int)) ∧ v.cell? ⟨gp, 4, none⟩ = some (.int .i64 T.q)) v := fun v hv => by
  obtain ⟨p0, p1, p2, p3, p4, -⟩ := (Q0.below hv).p
  exact ⟨p0, p1, p2, p3, p4⟩
 go_cut [15] (fun p wx => ∃ g, p = .pointer (some ⟨g, 0, none⟩) ∧ va.heap.size ≤ g ∧ O5 wx g ⟨0, T.n, S, Q⟩ ∧ Below va.heap.size va wx)
 case first =>
  go_region_held3 (fun v => v.cell? ⟨gp, 0, none⟩ = some (.int .i64 T.c) ∧ v.cell? ⟨gp, 1, none⟩ = some (.bool T.n) ∧ v.cell? ⟨gp, 2, none⟩ = some (.int .u64 (M.hiN T.s : Int)) ∧ v.cell? ⟨gp, 3, none⟩ = some (.int .u64 (M.loN T.s : Int)) ∧ v.cell? ⟨gp, 4, none⟩ = some (.int .i64 T.q)) (first | with_reducible exact KB _ hb1 | with_reducible exact KB _ (keepAl2 hb1 _) | with_reducible exact KB _ A0 | with_reducible exact KB _ A1 | with_reducible exact KB _ (keepSt5 hb1 _ (by first | with_reducible exact Nat.le_refl _ | with_reducible exact hs1) _ _ _ _ _))
   (first | (go_at_call 27; refine (kW _ _ _ (by first | with_reducible exact rZ.below A0 | with_reducible exact rZ.below A1)).mono ?_; rintro e u1 ⟨rfl, hb0⟩; have hb1 := keepC (w1 := va) (by first | with_reducible exact A0 | with_reducible exact A1) hb0; have hs1 := hb1.size; (first | (with_reducible have z1 := ZA.below hb0; obtain ⟨z0, z1', z2, z3, z4, y0, y1, y2, y3, y4, -⟩ := id z1) | skip); clear hb0))
  all_goals go_wp2_with fail
  all_goals go_meet
  all_goals first | exact ⟨_, rfl, hs1, O5_new u1 ⟨0, T.n, S, Q⟩, keepAl2 hb1 _⟩ | exact ⟨_, rfl, Nat.le_refl _, O5_set z1 ⟨0, T.n, S, Q⟩, keepSt5 hb1 _ (Nat.le_refl _) _ _ _ _ _⟩
 case rest =>
  rename World => wx
  obtain ⟨go, rfl, hgo, K0, hbx⟩ := hcut
  have lk : gp < va.heap.size := Q0.p.2.2.2.2.2
  have ld : gd < va.heap.size := Q0.d.2.2.2.2.2.2
  have lr : w.heap.size + 1 < va.heap.size := Q0.r.2.2.2.2
  replace Q0 := Q0.below hbx
  replace rZ := rZ.below hbx
  clear hbx KB A0 A1 ZA kW
  have n1 : gp ≠ go := by omega
  have n2 : gd ≠ go := by omega
  have n3 : w.heap.size + 1 ≠ go := by omega
  have n4 : w.heap.size ≤ go := by omega
  clear lk ld lr hgo
  obtain ⟨q0, q1, q2, q3, q4, -⟩ := id K0.p
  have g0 := K0.f0
  have g1 := K0.f1
  have g2 := K0.f2
  have g3 := K0.f3
  have g4 := K0.f4
  obtain ⟨p0, p1, p2, p3, p4, -⟩ := id Q0.p
  obtain ⟨d0, d1, d2, d3, d4, d5, -⟩ := id Q0.d
  have R1 := Q0.r.far5 n3 (.int .i64 4) (.bool T.n) (.int .u64 0) (.int .u64 0) (.int .i64 0)
  have bz := below5 Q0.b n4 (.int .i64 4) (.bool T.n) (.int .u64 0) (.int .u64 0) (.int .i64 0)
  have HR1 := hid R1
  have HBZ := hid bz
  clear R1 bz Q0
  go_wp2_with fail
  refine (kP _).mono ?_
  rintro e vz ⟨rfl, hbz⟩
  have R2 := HR1.out.bl hbz
  have bb := ((HBZ.out.trans (hbz.mono HBZ.out.size)).setCell (p := ⟨w.heap.size + 1, 0, none⟩) (by simp only; omega) (.int .u64 (M.hiN R : Int))).setCell (p := ⟨w.heap.size + 1, 1, none⟩) (by simp only; omega) (.int .u64 (M.loN R : Int))
  have HB := hid bb
  clear bb hbz HBZ HR1
  obtain ⟨r0, r1, r2, r3, -⟩ := id R2
  clear R2
  go_wp2_with fail
  exact bodyPost_ret (v := .tuple #[.agg #[.int .u64 (M.hiN R : Int), .int .u64 (M.loN R : Int)], .bool ok]) (by simp [results, Tryd.results21, go_sem, r0, r1]) rfl ⟨rfl, HB.out⟩

theorem sstep_gns (f : Int) (X : Nat) (up : Bool) (T : M.Pt) (e0 e1 e2 e3 e4 : Int) (e5 : Bool) (w : World)
 (kE : ∀ v : World, Calls Tryd.prog 8 #[.int .i64 f] v fun e w' => e = .returned (.agg #[.int .i64 e0, .int .i64 e1, .int .i64 e2, .int .i64 e3, .int .i64 e4, .bool e5]) ∧ Below v.heap.size v w')
 (kU : ∀ v : World, Calls Tryd.prog 11 #[.int .i64 f, .agg #[.int .u64 (M.hiN X : Int), .int .u64 (M.loN X : Int)]] v fun e w' => e = .returned (.agg #[.int .i64 T.c, .bool T.n, .int .u64 (M.hiN T.s : Int), .int .u64 (M.loN T.s : Int), .int .i64 T.q]) ∧ Below v.heap.size v w')
 (S : Nat) (b : Int) (hg : (up == T.n) = false) (c0 : ¬ T.c = 0) (c5 : ¬ T.c = 5) (c1 : ¬ T.c = 1) (c4 : ¬ T.c = 4) (qm : Int) (hq : wrap64 (wrap64 (e1 - e0) + 1) = qm) (kO2 : ∀ (v : World), Calls Tryd.prog 23 #[.agg #[.int .u64 (M.hiN T.s : Int), .int .u64 (M.loN T.s : Int)]] v fun e w' => Ret v w' e (D T.s)) (kO : ∀ (v : World), Calls Tryd.prog 42 #[.int .u64 1] v fun e w' => Ret v w' e (D 1)) (kG : ∀ (v : World) (ao bo : Option Addr) (c d : Nat), Rd v ao (D T.s) → Rd v bo (D 1) → Calls Tryd.prog 28 #[.slice ao (D T.s).length c, .slice bo (D 1).length d] v fun e w' => Ret v w' e (D S)) (kB : ∀ (v : World) (ao : Option Addr) (c : Nat), Rd v ao (D S) → Calls Tryd.prog 24 #[.slice ao (D S).length c] v fun e w' => e = .returned (.int .i64 b) ∧ w' = v) (hb : ¬ e0 < b) (hz : ¬ (D S).length = 0) (E : Int) (hE : wrap64 (wrap64 (T.q + e0) - 1) = E) (hi : ¬ e2 < E) (b2 : Int) (kB2 : ∀ (v : World) (ao : Option Addr) (c : Nat), Rd v ao (D S) → Calls Tryd.prog 24 #[.slice ao (D S).length c] v fun e w' => e = .returned (.int .i64 b2) ∧ w' = v) (hs : b2 < e0) (kW : ∀ (v : World) (ao : Option Addr) (c : Nat), Rd v ao (D S) → Calls Tryd.prog 27 #[.slice ao (D S).length c] v fun e w' => e = .returned (.agg #[.int .u64 (M.hiN S : Int), .int .u64 (M.loN S : Int)]) ∧ Below v.heap.size v w') (R : Nat) (ok : Bool) (kP : ∀ v : World, Calls Tryd.prog 17 #[.int .i64 f, .agg #[.int .i64 2, .bool T.n, .int .u64 (M.hiN S : Int), .int .u64 (M.loN S : Int), .int .i64 T.q]] v fun e w' => e = .returned (.tuple #[.agg #[.int .u64 (M.hiN R : Int), .int .u64 (M.loN R : Int)], .bool ok]) ∧ Below v.heap.size v w') :
 Calls Tryd.prog 21 #[.int .i64 f, .agg #[.int .u64 (M.hiN X : Int), .int .u64 (M.loN X : Int)], .bool up] w fun e w' => e = .returned (.tuple #[.agg #[.int .u64 (M.hiN R : Int), .int .u64 (M.loN R : Int)], .bool ok]) ∧ Below w.heap.size w w' := by
 have b0 : Below w.heap.size w ((w.alloc (.cells #[.int .u64 (M.hiN X : Int), .int .u64 (M.loN X : Int)] 30)).alloc (.cells #[.int .u64 0, .int .u64 0] 30)) := ((Below.refl _ _).alloc (Nat.le_refl _) _).alloc (by simp) _
 have X0 : W2 ((w.alloc (.cells #[.int .u64 (M.hiN X : Int), .int .u64 (M.loN X : Int)] 30)).alloc (.cells #[.int .u64 0, .int .u64 0] 30)) w.heap.size X := by refine ⟨?_, ?_, ?_, ?_, ?_⟩ <;> simp [go_sem]
 have R0 : W2 ((w.alloc (.cells #[.int .u64 (M.hiN X : Int), .int .u64 (M.loN X : Int)] 30)).alloc (.cells #[.int .u64 0, .int .u64 0] 30)) (w.heap.size + 1) 0 := by refine ⟨?_, ?_, ?_, ?_, ?_⟩ <;> simp [go_sem, hi0, lo0]
 generalize hV : ((w.alloc (.cells #[.int .u64 (M.hiN X : Int), .int .u64 (M.loN X : Int)] 30)).alloc (.cells #[.int .u64 0, .int .u64 0] 30)) = v0 at *
 go_enter Tryd.func21, Tryd.ntmps21
 go_upto_region 1 with fail
 clear hV
 obtain ⟨x0, x1, -⟩ := id X0
 go_wp2_with fail
 refine (kU _).mono ?_
 rintro e v1 ⟨rfl, hb1⟩
 replace b0 := b0.trans (hb1.mono b0.size)
 replace R0 := R0.bl hb1
 have l0 : w.heap.size + 1 < v1.heap.size := R0.2.2.2.2
 clear hb1 kU x0 x1 X0
 go_upto_region 2 with fail
 have bA : Below v1.heap.size v1 (v1.alloc (.cells #[.int .i64 T.c, .bool T.n, .int .u64 (M.hiN T.s : Int), .int .u64 (M.loN T.s : Int), .int .i64 T.q] 32)) := (Below.refl _ _).alloc (Nat.le_refl _) _
 have P0 : P5 (v1.alloc (.cells #[.int .i64 T.c, .bool T.n, .int .u64 (M.hiN T.s : Int), .int .u64 (M.loN T.s : Int), .int .i64 T.q] 32)) v1.heap.size T := P5_new v1 T
 replace b0 := b0.trans (bA.mono b0.size)
 replace R0 := R0.bl bA
 clear bA
 generalize (v1.alloc (.cells #[.int .i64 T.c, .bool T.n, .int .u64 (M.hiN T.s : Int), .int .u64 (M.loN T.s : Int), .int .i64 T.q] 32)) = v2 at *
 generalize v1.heap.size = gp at *
 go_wp2_with fail
 refine (kE _).mono ?_
 rintro e v3 ⟨rfl, hb3⟩
 replace b0 := b0.trans (hb3.mono b0.size)
 replace R0 := R0.bl hb3
 replace P0 := P0.below hb3
 have l1 : gp < v3.heap.size := P0.2.2.2.2.2
 clear hb3 kE
 go_upto_region 3 with fail
 have bA : Below v3.heap.size v3 (v3.alloc (.cells #[.int .i64 e0, .int .i64 e1, .int .i64 e2, .int .i64 e3, .int .i64 e4, .bool e5] 23)) := (Below.refl _ _).alloc (Nat.le_refl _) _
 have Q0 : Tv w (v3.alloc (.cells #[.int .i64 e0, .int .i64 e1, .int .i64 e2, .int .i64 e3, .int .i64 e4, .bool e5] 23)) gp v3.heap.size e0 e1 e2 e3 e4 e5 T := ⟨b0.trans (bA.mono b0.size), D6_new v3 _ _ _ _ _ _ _, P0.below bA, R0.bl bA, l0, l1⟩
 clear bA b0 P0 R0 l0 l1
 generalize (v3.alloc (.cells #[.int .i64 e0, .int .i64 e1, .int .i64 e2, .int .i64 e3, .int .i64 e4, .bool e5] 23)) = v4 at *
 generalize v3.heap.size = gd at *
 obtain ⟨p0, p1, p2, p3, p4, -⟩ := id Q0.p
 obtain ⟨d0, d1, d2, d3, d4, d5, -⟩ := id Q0.d
 have x0 : (T.c == 0) = false := by simp [c0]
 have x5 : (T.c == 5) = false := by simp [c5]
 have x1 : (T.c == 1) = false := by simp [c1]
 have x4 : (T.c == 4) = false := by simp [c4]
 go_wp2_with fail
 refine (kO2 _).mono ?_
 rintro e v6 ⟨sa, sc, rfl, hoS, hb6⟩
 have rS := Rd.own hoS
 replace Q0 := Q0.below hb6
 clear hb6 kO2 hoS p0 p1 p2 p3 p4 d0 d1 d2 d3 d4 d5
 obtain ⟨p0, p1, p2, p3, p4, -⟩ := id Q0.p
 obtain ⟨d0, d1, d2, d3, d4, d5, -⟩ := id Q0.d
 go_wp2_with fail
 refine (kO _).mono ?_
 rintro e v7 ⟨bo, bc, rfl, hoB, hb7⟩
 have rB := Rd.own hoB
 replace rS := rS.below hb7
 replace Q0 := Q0.below hb7
 clear hb7 hoB p0 p1 p2 p3 p4 d0 d1 d2 d3 d4 d5
 go_wp2_with fail
 refine (kG _ _ _ _ _ rS rB).mono ?_
 rintro e v8 ⟨za, zc, rfl, hoT, hb8⟩
 have rZ := Rd.own hoT
 replace Q0 := Q0.below hb8
 clear hb8 kG hoT rS rB
 obtain ⟨d0, d1, d2, d3, d4, d5, -⟩ := id Q0.d
 go_upto_region 18 with fail
 go_quiet ((go_at_call 24; exact Calls.quiet_of_same (kB _ _ _ (Rd.drewN rZ _))))
 clear d0 d1 d2 d3 d4 d5
 have A0 : Below v8.heap.size v8 (v8.drewN nq) := ⟨rfl, rfl, rfl, Nat.le_refl _, fun _ _ => rfl⟩
 replace Q0 := Q0.below A0
 replace rZ := rZ.below A0
 clear A0
 generalize v8.drewN nq = v9 at *
 obtain ⟨p0, p1, p2, p3, p4, -⟩ := id Q0.p
 go_upto_region 25 with fail
 clear p0 p1 p2 p3 p4
 have A0 : Below v9.heap.size v9 v9.drew := (Below.refl _ _).drew
 have A1 : Below v9.heap.size v9 (v9.alloc (.cells #[.int .i64 0, .bool false, .int .u64 0, .int .u64 0, .int .i64 0] 32)).drew := ((Below.refl _ _).alloc (Nat.le_refl _) _).drew
 have ZA : Z5 (v9.alloc (.cells #[.int .i64 0, .bool false, .int .u64 0, .int .u64 0, .int .i64 0] 32)).drew v9.heap.size := (Z5_new v9).below ((Below.refl _ _).drew)
 have KB : ∀ v, Below v9.heap.size v9 v → (fun v => v.cell? ⟨gp, 0, none⟩ = some (.int .i64 T.c) ∧ v.cell? ⟨gp, 1, none⟩ = some (.bool T.n) ∧ v.cell? ⟨gp, 2, none⟩ = some (.int .u64 (M.hiN T.s : Int)) ∧ v.cell? ⟨gp, 3, none⟩ = some (.int .u64 (M.loN T.s : Int)) ∧ v.cell? ⟨gp, 4, none⟩ = some (.int .i64 T.q)) v := fun v hv => by
  obtain ⟨p0, p1, p2, p3, p4, -⟩ := (Q0.below hv).p
  exact ⟨p0, p1, p2, p3, p4⟩
 go_cut [15] (fun p wx => ∃ g, p = .pointer (some ⟨g, 0, none⟩) ∧ v9.heap.size ≤ g ∧ O5 wx g ⟨0, T.n, S, T.q⟩ ∧ Below v9.heap.size v9 wx)
 case first =>
  go_region_held3 (fun v => v.cell? ⟨gp, 0, none⟩ = some (.int .i64 T.c) ∧ v.cell? ⟨gp, 1, none⟩ = some (.bool T.n) ∧ v.cell? ⟨gp, 2, none⟩ = some (.int .u64 (M.hiN T.s : Int)) ∧ v.cell? ⟨gp, 3, none⟩ = some (.int .u64 (M.loN T.s : Int)) ∧ v.cell? ⟨gp, 4, none⟩ = some (.int .i64 T.q)) (first | with_reducible exact KB _ hb1 | with_reducible exact KB _ (keepAl2 hb1 _) | with_reducible exact KB _ A0 | with_reducible exact KB _ A1 | with_reducible exact KB _ (keepSt5 hb1 _ (by first | with_reducible exact Nat.le_refl _ | with_reducible exact hs1) _ _ _ _ _))
   (first | (go_at_call 27; refine (kW _ _ _ (by first | with_reducible exact rZ.below A0 | with_reducible exact rZ.below A1)).mono ?_; rintro e u1 ⟨rfl, hb0⟩; have hb1 := keepC (w1 := v9) (by first | with_reducible exact A0 | with_reducible exact A1) hb0; have hs1 := hb1.size; (first | (with_reducible have z1 := ZA.below hb0; obtain ⟨z0, z1', z2, z3, z4, y0, y1, y2, y3, y4, -⟩ := id z1) | skip); clear hb0))
  all_goals go_wp2_with fail
  all_goals go_meet
  all_goals first | exact ⟨_, rfl, hs1, O5_new u1 ⟨0, T.n, S, T.q⟩, keepAl2 hb1 _⟩ | exact ⟨_, rfl, Nat.le_refl _, O5_set z1 ⟨0, T.n, S, T.q⟩, keepSt5 hb1 _ (Nat.le_refl _) _ _ _ _ _⟩
 case rest =>
  rename World => wx
  obtain ⟨go, rfl, hgo, K0, hbx⟩ := hcut
  have lk : gp < v9.heap.size := Q0.p.2.2.2.2.2
  have ld : gd < v9.heap.size := Q0.d.2.2.2.2.2.2
  have lr : w.heap.size + 1 < v9.heap.size := Q0.r.2.2.2.2
  replace Q0 := Q0.below hbx
  replace rZ := rZ.below hbx
  clear hbx KB A0 A1 ZA kW
  have n1 : gp ≠ go := by omega
  have n2 : gd ≠ go := by omega
  have n3 : w.heap.size + 1 ≠ go := by omega
  have n4 : w.heap.size ≤ go := by omega
  clear lk ld lr hgo
  obtain ⟨q0, q1, q2, q3, q4, -⟩ := id K0.p
  have g0 := K0.f0
  have g1 := K0.f1
  have g2 := K0.f2
  have g3 := K0.f3
  have g4 := K0.f4
  obtain ⟨p0, p1, p2, p3, p4, -⟩ := id Q0.p
  obtain ⟨d0, d1, d2, d3, d4, d5, -⟩ := id Q0.d
  go_upto_region 31 with fail
  go_quiet ((go_at_call 24; exact Calls.quiet_of_same (kB2 _ _ _ (Rd.drewN rZ _))))
  have A0 : Below wx.heap.size wx (wx.drewN nq) := ⟨rfl, rfl, rfl, Nat.le_refl _, fun _ _ => rfl⟩
  replace Q0 := Q0.below A0
  replace K0 := K0.below A0
  clear A0 p0 p1 p2 p3 p4 d0 d1 d2 d3 d4 d5 q0 q1 q2 q3 q4 g0 g1 g2 g3 g4
  generalize wx.drewN nq = wy at *
  obtain ⟨q0, q1, q2, q3, q4, -⟩ := id K0.p
  have g0 := K0.f0
  have R1 := Q0.r.far1 (o := 0) n3 (.int .i64 2)
  have bz := Q0.b.setCell (p := ⟨go, 0, none⟩) n4 (.int .i64 2)
  have HR1 := hid R1
  have HBZ := hid bz
  clear R1 bz Q0
  go_wp2_with fail
  refine (kP _).mono ?_
  rintro e vz ⟨rfl, hbz⟩
  have R2 := HR1.out.bl hbz
  have bb := ((HBZ.out.trans (hbz.mono HBZ.out.size)).setCell (p := ⟨w.heap.size + 1, 0, none⟩) (by simp only; omega) (.int .u64 (M.hiN R : Int))).setCell (p := ⟨w.heap.size + 1, 1, none⟩) (by simp only; omega) (.int .u64 (M.loN R : Int))
  have HB := hid bb
  clear bb hbz HBZ HR1
  obtain ⟨r0, r1, r2, r3, -⟩ := id R2
  clear R2
  go_wp2_with fail
  exact bodyPost_ret (v := .tuple #[.agg #[.int .u64 (M.hiN R : Int), .int .u64 (M.loN R : Int)], .bool ok]) (by simp [results, Tryd.results21, go_sem, r0, r1]) rfl ⟨rfl, HB.out⟩

theorem sstep_gnm (f : Int) (X : Nat) (up : Bool) (T : M.Pt) (e0 e1 e2 e3 e4 : Int) (e5 : Bool) (w : World)
 (kE : ∀ v : World, Calls Tryd.prog 8 #[.int .i64 f] v fun e w' => e = .returned (.agg #[.int .i64 e0, .int .i64 e1, .int .i64 e2, .int .i64 e3, .int .i64 e4, .bool e5]) ∧ Below v.heap.size v w')
 (kU : ∀ v : World, Calls Tryd.prog 11 #[.int .i64 f, .agg #[.int .u64 (M.hiN X : Int), .int .u64 (M.loN X : Int)]] v fun e w' => e = .returned (.agg #[.int .i64 T.c, .bool T.n, .int .u64 (M.hiN T.s : Int), .int .u64 (M.loN T.s : Int), .int .i64 T.q]) ∧ Below v.heap.size v w')
 (S : Nat) (b : Int) (hg : (up == T.n) = false) (c0 : ¬ T.c = 0) (c5 : ¬ T.c = 5) (c1 : ¬ T.c = 1) (c4 : ¬ T.c = 4) (qm : Int) (hq : wrap64 (wrap64 (e1 - e0) + 1) = qm) (kO2 : ∀ (v : World), Calls Tryd.prog 23 #[.agg #[.int .u64 (M.hiN T.s : Int), .int .u64 (M.loN T.s : Int)]] v fun e w' => Ret v w' e (D T.s)) (kO : ∀ (v : World), Calls Tryd.prog 42 #[.int .u64 1] v fun e w' => Ret v w' e (D 1)) (kG : ∀ (v : World) (ao bo : Option Addr) (c d : Nat), Rd v ao (D T.s) → Rd v bo (D 1) → Calls Tryd.prog 28 #[.slice ao (D T.s).length c, .slice bo (D 1).length d] v fun e w' => Ret v w' e (D S)) (kB : ∀ (v : World) (ao : Option Addr) (c : Nat), Rd v ao (D S) → Calls Tryd.prog 24 #[.slice ao (D S).length c] v fun e w' => e = .returned (.int .i64 b) ∧ w' = v) (hb : ¬ e0 < b) (hz : ¬ (D S).length = 0) (E : Int) (hE : wrap64 (wrap64 (T.q + e0) - 1) = E) (hi : ¬ e2 < E) (b2 : Int) (kB2 : ∀ (v : World) (ao : Option Addr) (c : Nat), Rd v ao (D S) → Calls Tryd.prog 24 #[.slice ao (D S).length c] v fun e w' => e = .returned (.int .i64 b2) ∧ w' = v) (hs : ¬ b2 < e0) (kW : ∀ (v : World) (ao : Option Addr) (c : Nat), Rd v ao (D S) → Calls Tryd.prog 27 #[.slice ao (D S).length c] v fun e w' => e = .returned (.agg #[.int .u64 (M.hiN S : Int), .int .u64 (M.loN S : Int)]) ∧ Below v.heap.size v w') (R : Nat) (ok : Bool) (kP : ∀ v : World, Calls Tryd.prog 17 #[.int .i64 f, .agg #[.int .i64 3, .bool T.n, .int .u64 (M.hiN S : Int), .int .u64 (M.loN S : Int), .int .i64 T.q]] v fun e w' => e = .returned (.tuple #[.agg #[.int .u64 (M.hiN R : Int), .int .u64 (M.loN R : Int)], .bool ok]) ∧ Below v.heap.size v w') :
 Calls Tryd.prog 21 #[.int .i64 f, .agg #[.int .u64 (M.hiN X : Int), .int .u64 (M.loN X : Int)], .bool up] w fun e w' => e = .returned (.tuple #[.agg #[.int .u64 (M.hiN R : Int), .int .u64 (M.loN R : Int)], .bool ok]) ∧ Below w.heap.size w w' := by
 have b0 : Below w.heap.size w ((w.alloc (.cells #[.int .u64 (M.hiN X : Int), .int .u64 (M.loN X : Int)] 30)).alloc (.cells #[.int .u64 0, .int .u64 0] 30)) := ((Below.refl _ _).alloc (Nat.le_refl _) _).alloc (by simp) _
 have X0 : W2 ((w.alloc (.cells #[.int .u64 (M.hiN X : Int), .int .u64 (M.loN X : Int)] 30)).alloc (.cells #[.int .u64 0, .int .u64 0] 30)) w.heap.size X := by refine ⟨?_, ?_, ?_, ?_, ?_⟩ <;> simp [go_sem]
 have R0 : W2 ((w.alloc (.cells #[.int .u64 (M.hiN X : Int), .int .u64 (M.loN X : Int)] 30)).alloc (.cells #[.int .u64 0, .int .u64 0] 30)) (w.heap.size + 1) 0 := by refine ⟨?_, ?_, ?_, ?_, ?_⟩ <;> simp [go_sem, hi0, lo0]
 generalize hV : ((w.alloc (.cells #[.int .u64 (M.hiN X : Int), .int .u64 (M.loN X : Int)] 30)).alloc (.cells #[.int .u64 0, .int .u64 0] 30)) = v0 at *
 go_enter Tryd.func21, Tryd.ntmps21
 go_upto_region 1 with fail
 clear hV
 obtain ⟨x0, x1, -⟩ := id X0
 go_wp2_with fail
 refine (kU _).mono ?_
 rintro e v1 ⟨rfl, hb1⟩
 replace b0 := b0.trans (hb1.mono b0.size)
 replace R0 := R0.bl hb1
 have l0 : w.heap.size + 1 < v1.heap.size := R0.2.2.2.2
 clear hb1 kU x0 x1 X0
 go_upto_region 2 with fail
 have bA : Below v1.heap.size v1 (v1.alloc (.cells #[.int .i64 T.c, .bool T.n, .int .u64 (M.hiN T.s : Int), .int .u64 (M.loN T.s : Int), .int .i64 T.q] 32)) := (Below.refl _ _).alloc (Nat.le_refl _) _
 have P0 : P5 (v1.alloc (.cells #[.int .i64 T.c, .bool T.n, .int .u64 (M.hiN T.s : Int), .int .u64 (M.loN T.s : Int), .int .i64 T.q] 32)) v1.heap.size T := P5_new v1 T
 replace b0 := b0.trans (bA.mono b0.size)
 replace R0 := R0.bl bA
 clear bA
 generalize (v1.alloc (.cells #[.int .i64 T.c, .bool T.n, .int .u64 (M.hiN T.s : Int), .int .u64 (M.loN T.s : Int), .int .i64 T.q] 32)) = v2 at *
 generalize v1.heap.size = gp at *
 go_wp2_with fail
 refine (kE _).mono ?_
 rintro e v3 ⟨rfl, hb3⟩
 replace b0 := b0.trans (hb3.mono b0.size)
 replace R0 := R0.bl hb3
 replace P0 := P0.below hb3
 have l1 : gp < v3.heap.size := P0.2.2.2.2.2
 clear hb3 kE
 go_upto_region 3 with fail
 have bA : Below v3.heap.size v3 (v3.alloc (.cells #[.int .i64 e0, .int .i64 e1, .int .i64 e2, .int .i64 e3, .int .i64 e4, .bool e5] 23)) := (Below.refl _ _).alloc (Nat.le_refl _) _
 have Q0 : Tv w (v3.alloc (.cells #[.int .i64 e0, .int .i64 e1, .int .i64 e2, .int .i64 e3, .int .i64 e4, .bool e5] 23)) gp v3.heap.size e0 e1 e2 e3 e4 e5 T := ⟨b0.trans (bA.mono b0.size), D6_new v3 _ _ _ _ _ _ _, P0.below bA, R0.bl bA, l0, l1⟩
 clear bA b0 P0 R0 l0 l1
 generalize (v3.alloc (.cells #[.int .i64 e0, .int .i64 e1, .int .i64 e2, .int .i64 e3, .int .i64 e4, .bool e5] 23)) = v4 at *
 generalize v3.heap.size = gd at *
 obtain ⟨p0, p1, p2, p3, p4, -⟩ := id Q0.p
 obtain ⟨d0, d1, d2, d3, d4, d5, -⟩ := id Q0.d
 have x0 : (T.c == 0) = false := by simp [c0]
 have x5 : (T.c == 5) = false := by simp [c5]
 have x1 : (T.c == 1) = false := by simp [c1]
 have x4 : (T.c == 4) = false := by simp [c4]
 go_wp2_with fail
 refine (kO2 _).mono ?_
 rintro e v6 ⟨sa, sc, rfl, hoS, hb6⟩
 have rS := Rd.own hoS
 replace Q0 := Q0.below hb6
 clear hb6 kO2 hoS p0 p1 p2 p3 p4 d0 d1 d2 d3 d4 d5
 obtain ⟨p0, p1, p2, p3, p4, -⟩ := id Q0.p
 obtain ⟨d0, d1, d2, d3, d4, d5, -⟩ := id Q0.d
 go_wp2_with fail
 refine (kO _).mono ?_
 rintro e v7 ⟨bo, bc, rfl, hoB, hb7⟩
 have rB := Rd.own hoB
 replace rS := rS.below hb7
 replace Q0 := Q0.below hb7
 clear hb7 hoB p0 p1 p2 p3 p4 d0 d1 d2 d3 d4 d5
 go_wp2_with fail
 refine (kG _ _ _ _ _ rS rB).mono ?_
 rintro e v8 ⟨za, zc, rfl, hoT, hb8⟩
 have rZ := Rd.own hoT
 replace Q0 := Q0.below hb8
 clear hb8 kG hoT rS rB
 obtain ⟨d0, d1, d2, d3, d4, d5, -⟩ := id Q0.d
 go_upto_region 18 with fail
 go_quiet ((go_at_call 24; exact Calls.quiet_of_same (kB _ _ _ (Rd.drewN rZ _))))
 clear d0 d1 d2 d3 d4 d5
 have A0 : Below v8.heap.size v8 (v8.drewN nq) := ⟨rfl, rfl, rfl, Nat.le_refl _, fun _ _ => rfl⟩
 replace Q0 := Q0.below A0
 replace rZ := rZ.below A0
 clear A0
 generalize v8.drewN nq = v9 at *
 obtain ⟨p0, p1, p2, p3, p4, -⟩ := id Q0.p
 go_upto_region 25 with fail
 clear p0 p1 p2 p3 p4
 have A0 : Below v9.heap.size v9 v9.drew := (Below.refl _ _).drew
 have A1 : Below v9.heap.size v9 (v9.alloc (.cells #[.int .i64 0, .bool false, .int .u64 0, .int .u64 0, .int .i64 0] 32)).drew := ((Below.refl _ _).alloc (Nat.le_refl _) _).drew
 have ZA : Z5 (v9.alloc (.cells #[.int .i64 0, .bool false, .int .u64 0, .int .u64 0, .int .i64 0] 32)).drew v9.heap.size := (Z5_new v9).below ((Below.refl _ _).drew)
 have KB : ∀ v, Below v9.heap.size v9 v → (fun v => v.cell? ⟨gp, 0, none⟩ = some (.int .i64 T.c) ∧ v.cell? ⟨gp, 1, none⟩ = some (.bool T.n) ∧ v.cell? ⟨gp, 2, none⟩ = some (.int .u64 (M.hiN T.s : Int)) ∧ v.cell? ⟨gp, 3, none⟩ = some (.int .u64 (M.loN T.s : Int)) ∧ v.cell? ⟨gp, 4, none⟩ = some (.int .i64 T.q)) v := fun v hv => by
  obtain ⟨p0, p1, p2, p3, p4, -⟩ := (Q0.below hv).p
  exact ⟨p0, p1, p2, p3, p4⟩
 go_cut [15] (fun p wx => ∃ g, p = .pointer (some ⟨g, 0, none⟩) ∧ v9.heap.size ≤ g ∧ O5 wx g ⟨0, T.n, S, T.q⟩ ∧ Below v9.heap.size v9 wx)
 case first =>
  go_region_held3 (fun v => v.cell? ⟨gp, 0, none⟩ = some (.int .i64 T.c) ∧ v.cell? ⟨gp, 1, none⟩ = some (.bool T.n) ∧ v.cell? ⟨gp, 2, none⟩ = some (.int .u64 (M.hiN T.s : Int)) ∧ v.cell? ⟨gp, 3, none⟩ = some (.int .u64 (M.loN T.s : Int)) ∧ v.cell? ⟨gp, 4, none⟩ = some (.int .i64 T.q)) (first | with_reducible exact KB _ hb1 | with_reducible exact KB _ (keepAl2 hb1 _) | with_reducible exact KB _ A0 | with_reducible exact KB _ A1 | with_reducible exact KB _ (keepSt5 hb1 _ (by first | with_reducible exact Nat.le_refl _ | with_reducible exact hs1) _ _ _ _ _))
   (first | (go_at_call 27; refine (kW _ _ _ (by first | with_reducible exact rZ.below A0 | with_reducible exact rZ.below A1)).mono ?_; rintro e u1 ⟨rfl, hb0⟩; have hb1 := keepC (w1 := v9) (by first | with_reducible exact A0 | with_reducible exact A1) hb0; have hs1 := hb1.size; (first | (with_reducible have z1 := ZA.below hb0; obtain ⟨z0, z1', z2, z3, z4, y0, y1, y2, y3, y4, -⟩ := id z1) | skip); clear hb0))
  all_goals go_wp2_with fail
  all_goals go_meet
  all_goals first | exact ⟨_, rfl, hs1, O5_new u1 ⟨0, T.n, S, T.q⟩, keepAl2 hb1 _⟩ | exact ⟨_, rfl, Nat.le_refl _, O5_set z1 ⟨0, T.n, S, T.q⟩, keepSt5 hb1 _ (Nat.le_refl _) _ _ _ _ _⟩
 case rest =>
  rename World => wx
  obtain ⟨go, rfl, hgo, K0, hbx⟩ := hcut
  have lk : gp < v9.heap.size := Q0.p.2.2.2.2.2
  have ld : gd < v9.heap.size := Q0.d.2.2.2.2.2.2
  have lr : w.heap.size + 1 < v9.heap.size := Q0.r.2.2.2.2
  replace Q0 := Q0.below hbx
  replace rZ := rZ.below hbx
  clear hbx KB A0 A1 ZA kW
  have n1 : gp ≠ go := by omega
  have n2 : gd ≠ go := by omega
  have n3 : w.heap.size + 1 ≠ go := by omega
  have n4 : w.heap.size ≤ go := by omega
  clear lk ld lr hgo
  obtain ⟨q0, q1, q2, q3, q4, -⟩ := id K0.p
  have g0 := K0.f0
  have g1 := K0.f1
  have g2 := K0.f2
  have g3 := K0.f3
  have g4 := K0.f4
  obtain ⟨p0, p1, p2, p3, p4, -⟩ := id Q0.p
  obtain ⟨d0, d1, d2, d3, d4, d5, -⟩ := id Q0.d
  go_upto_region 31 with fail
  go_quiet ((go_at_call 24; exact Calls.quiet_of_same (kB2 _ _ _ (Rd.drewN rZ _))))
  have A0 : Below wx.heap.size wx (wx.drewN nq) := ⟨rfl, rfl, rfl, Nat.le_refl _, fun _ _ => rfl⟩
  replace Q0 := Q0.below A0
  replace K0 := K0.below A0
  clear A0 p0 p1 p2 p3 p4 d0 d1 d2 d3 d4 d5 q0 q1 q2 q3 q4 g0 g1 g2 g3 g4
  generalize wx.drewN nq = wy at *
  obtain ⟨q0, q1, q2, q3, q4, -⟩ := id K0.p
  have g0 := K0.f0
  have R1 := Q0.r.far1 (o := 0) n3 (.int .i64 3)
  have bz := Q0.b.setCell (p := ⟨go, 0, none⟩) n4 (.int .i64 3)
  have HR1 := hid R1
  have HBZ := hid bz
  clear R1 bz Q0
  go_wp2_with fail
  refine (kP _).mono ?_
  rintro e vz ⟨rfl, hbz⟩
  have R2 := HR1.out.bl hbz
  have bb := ((HBZ.out.trans (hbz.mono HBZ.out.size)).setCell (p := ⟨w.heap.size + 1, 0, none⟩) (by simp only; omega) (.int .u64 (M.hiN R : Int))).setCell (p := ⟨w.heap.size + 1, 1, none⟩) (by simp only; omega) (.int .u64 (M.loN R : Int))
  have HB := hid bb
  clear bb hbz HBZ HR1
  obtain ⟨r0, r1, r2, r3, -⟩ := id R2
  clear R2
  go_wp2_with fail
  exact bodyPost_ret (v := .tuple #[.agg #[.int .u64 (M.hiN R : Int), .int .u64 (M.loN R : Int)], .bool ok]) (by simp [results, Tryd.results21, go_sem, r0, r1]) rfl ⟨rfl, HB.out⟩

theorem sstep_sbm (f : Int) (X : Nat) (up : Bool) (T : M.Pt) (e0 e1 e2 e3 e4 : Int) (e5 : Bool) (w : World)
 (kE : ∀ v : World, Calls Tryd.prog 8 #[.int .i64 f] v fun e w' => e = .returned (.agg #[.int .i64 e0, .int .i64 e1, .int .i64 e2, .int .i64 e3, .int .i64 e4, .bool e5]) ∧ Below v.heap.size v w')
 (kU : ∀ v : World, Calls Tryd.prog 11 #[.int .i64 f, .agg #[.int .u64 (M.hiN X : Int), .int .u64 (M.loN X : Int)]] v fun e w' => e = .returned (.agg #[.int .i64 T.c, .bool T.n, .int .u64 (M.hiN T.s : Int), .int .u64 (M.loN T.s : Int), .int .i64 T.q]) ∧ Below v.heap.size v w')
 (S : Nat) (Q : Int) (S1 S2 : Nat) (b : Int) (hg : (up == T.n) = true) (c0 : ¬ T.c = 0) (c5 : ¬ T.c = 5) (c1 : ¬ T.c = 1) (c4 : ¬ T.c = 4) (qm : Int) (hq : wrap64 (wrap64 (e1 - e0) + 1) = qm) (kO2 : ∀ (v : World), Calls Tryd.prog 23 #[.agg #[.int .u64 (M.hiN T.s : Int), .int .u64 (M.loN T.s : Int)]] v fun e w' => Ret v w' e (D T.s)) (kO : ∀ (v : World), Calls Tryd.prog 42 #[.int .u64 1] v fun e w' => Ret v w' e (D 1)) (kG : ∀ (v : World) (ao bo : Option Addr) (c d : Nat), Rd v ao (D T.s) → Rd v bo (D 1) → Calls Tryd.prog 41 #[.slice ao (D T.s).length c, .slice bo (D 1).length d] v fun e w' => Ret v w' e (D S1)) (kB : ∀ (v : World) (ao : Option Addr) (c : Nat), Rd v ao (D S1) → Calls Tryd.prog 24 #[.slice ao (D S1).length c] v fun e w' => e = .returned (.int .i64 b) ∧ w' = v) (hb : b < e0) (hqm : qm < T.q) (kL : ∀ (v : World) (ao : Option Addr) (c : Nat), Rd v ao (D S1) → Calls Tryd.prog 44 #[.slice ao (D S1).length c, .int .i64 1] v fun e w' => Ret v w' e (D S2)) (kA : ∀ (v : World) (ao bo : Option Addr) (c d : Nat), Rd v ao (D S2) → Rd v bo (D 1) → Calls Tryd.prog 28 #[.slice ao (D S2).length c, .slice bo (D 1).length d] v fun e w' => Ret v w' e (D S)) (hqq : wrap64 (T.q - 1) = Q) (hz : ¬ (D S).length = 0) (E : Int) (hE : wrap64 (wrap64 (Q + e0) - 1) = E) (hi : ¬ e2 < E) (b2 : Int) (kB2 : ∀ (v : World) (ao : Option Addr) (c : Nat), Rd v ao (D S) → Calls Tryd.prog 24 #[.slice ao (D S).length c] v fun e w' => e = .returned (.int .i64 b2) ∧ w' = v) (hs : ¬ b2 < e0) (kW : ∀ (v : World) (ao : Option Addr) (c : Nat), Rd v ao (D S) → Calls Tryd.prog 27 #[.slice ao (D S).length c] v fun e w' => e = .returned (.agg #[.int .u64 (M.hiN S : Int), .int .u64 (M.loN S : Int)]) ∧ Below v.heap.size v w') (R : Nat) (ok : Bool) (kP : ∀ v : World, Calls Tryd.prog 17 #[.int .i64 f, .agg #[.int .i64 3, .bool T.n, .int .u64 (M.hiN S : Int), .int .u64 (M.loN S : Int), .int .i64 Q]] v fun e w' => e = .returned (.tuple #[.agg #[.int .u64 (M.hiN R : Int), .int .u64 (M.loN R : Int)], .bool ok]) ∧ Below v.heap.size v w') :
 Calls Tryd.prog 21 #[.int .i64 f, .agg #[.int .u64 (M.hiN X : Int), .int .u64 (M.loN X : Int)], .bool up] w fun e w' => e = .returned (.tuple #[.agg #[.int .u64 (M.hiN R : Int), .int .u64 (M.loN R : Int)], .bool ok]) ∧ Below w.heap.size w w' := by
 have b0 : Below w.heap.size w ((w.alloc (.cells #[.int .u64 (M.hiN X : Int), .int .u64 (M.loN X : Int)] 30)).alloc (.cells #[.int .u64 0, .int .u64 0] 30)) := ((Below.refl _ _).alloc (Nat.le_refl _) _).alloc (by simp) _
 have X0 : W2 ((w.alloc (.cells #[.int .u64 (M.hiN X : Int), .int .u64 (M.loN X : Int)] 30)).alloc (.cells #[.int .u64 0, .int .u64 0] 30)) w.heap.size X := by refine ⟨?_, ?_, ?_, ?_, ?_⟩ <;> simp [go_sem]
 have R0 : W2 ((w.alloc (.cells #[.int .u64 (M.hiN X : Int), .int .u64 (M.loN X : Int)] 30)).alloc (.cells #[.int .u64 0, .int .u64 0] 30)) (w.heap.size + 1) 0 := by refine ⟨?_, ?_, ?_, ?_, ?_⟩ <;> simp [go_sem, hi0, lo0]
 generalize hV : ((w.alloc (.cells #[.int .u64 (M.hiN X : Int), .int .u64 (M.loN X : Int)] 30)).alloc (.cells #[.int .u64 0, .int .u64 0] 30)) = v0 at *
 go_enter Tryd.func21, Tryd.ntmps21
 go_upto_region 1 with fail
 clear hV
 obtain ⟨x0, x1, -⟩ := id X0
 go_wp2_with fail
 refine (kU _).mono ?_
 rintro e v1 ⟨rfl, hb1⟩
 replace b0 := b0.trans (hb1.mono b0.size)
 replace R0 := R0.bl hb1
 have l0 : w.heap.size + 1 < v1.heap.size := R0.2.2.2.2
 clear hb1 kU x0 x1 X0
 go_upto_region 2 with fail
 have bA : Below v1.heap.size v1 (v1.alloc (.cells #[.int .i64 T.c, .bool T.n, .int .u64 (M.hiN T.s : Int), .int .u64 (M.loN T.s : Int), .int .i64 T.q] 32)) := (Below.refl _ _).alloc (Nat.le_refl _) _
 have P0 : P5 (v1.alloc (.cells #[.int .i64 T.c, .bool T.n, .int .u64 (M.hiN T.s : Int), .int .u64 (M.loN T.s : Int), .int .i64 T.q] 32)) v1.heap.size T := P5_new v1 T
 replace b0 := b0.trans (bA.mono b0.size)
 replace R0 := R0.bl bA
 clear bA
 generalize (v1.alloc (.cells #[.int .i64 T.c, .bool T.n, .int .u64 (M.hiN T.s : Int), .int .u64 (M.loN T.s : Int), .int .i64 T.q] 32)) = v2 at *
 generalize v1.heap.size = gp at *
 go_wp2_with fail
 refine (kE _).mono ?_
 rintro e v3 ⟨rfl, hb3⟩
 replace b0 := b0.trans (hb3.mono b0.size)
 replace R0 := R0.bl hb3
 replace P0 := P0.below hb3
 have l1 : gp < v3.heap.size := P0.2.2.2.2.2
 clear hb3 kE
 go_upto_region 3 with fail
 have bA : Below v3.heap.size v3 (v3.alloc (.cells #[.int .i64 e0, .int .i64 e1, .int .i64 e2, .int .i64 e3, .int .i64 e4, .bool e5] 23)) := (Below.refl _ _).alloc (Nat.le_refl _) _
 have Q0 : Tv w (v3.alloc (.cells #[.int .i64 e0, .int .i64 e1, .int .i64 e2, .int .i64 e3, .int .i64 e4, .bool e5] 23)) gp v3.heap.size e0 e1 e2 e3 e4 e5 T := ⟨b0.trans (bA.mono b0.size), D6_new v3 _ _ _ _ _ _ _, P0.below bA, R0.bl bA, l0, l1⟩
 clear bA b0 P0 R0 l0 l1
 generalize (v3.alloc (.cells #[.int .i64 e0, .int .i64 e1, .int .i64 e2, .int .i64 e3, .int .i64 e4, .bool e5] 23)) = v4 at *
 generalize v3.heap.size = gd at *
 obtain ⟨p0, p1, p2, p3, p4, -⟩ := id Q0.p
 obtain ⟨d0, d1, d2, d3, d4, d5, -⟩ := id Q0.d
 have x0 : (T.c == 0) = false := by simp [c0]
 have x5 : (T.c == 5) = false := by simp [c5]
 have x1 : (T.c == 1) = false := by simp [c1]
 have x4 : (T.c == 4) = false := by simp [c4]
 go_wp2_with fail
 refine (kO2 _).mono ?_
 rintro e v6 ⟨sa, sc, rfl, hoS, hb6⟩
 have rS := Rd.own hoS
 replace Q0 := Q0.below hb6
 clear hb6 kO2 hoS p0 p1 p2 p3 p4 d0 d1 d2 d3 d4 d5
 obtain ⟨p0, p1, p2, p3, p4, -⟩ := id Q0.p
 obtain ⟨d0, d1, d2, d3, d4, d5, -⟩ := id Q0.d
 go_wp2_with fail
 refine (kO _).mono ?_
 rintro e v7 ⟨bo, bc, rfl, hoB, hb7⟩
 have rB := Rd.own hoB
 replace rS := rS.below hb7
 replace Q0 := Q0.below hb7
 clear hb7 hoB p0 p1 p2 p3 p4 d0 d1 d2 d3 d4 d5
 go_wp2_with fail
 refine (kG _ _ _ _ _ rS rB).mono ?_
 rintro e v8 ⟨ta, tc, rfl, hoT, hb8⟩
 have rT := Rd.own hoT
 replace Q0 := Q0.below hb8
 clear hb8 kG hoT rS rB
 obtain ⟨d0, d1, d2, d3, d4, d5, -⟩ := id Q0.d
 go_upto_region 22 with fail
 go_quiet ((go_at_call 24; exact Calls.quiet_of_same (kB _ _ _ (Rd.drewN rT _))))
 clear d0 d1 d2 d3 d4 d5
 have A0 : Below v8.heap.size v8 (v8.drewN nq) := ⟨rfl, rfl, rfl, Nat.le_refl _, fun _ _ => rfl⟩
 replace Q0 := Q0.below A0
 replace rT := rT.below A0
 clear A0
 generalize v8.drewN nq = v9 at *
 obtain ⟨p0, p1, p2, p3, p4, -⟩ := id Q0.p
 go_wp2_with fail
 refine (kL _ _ _ rT).mono ?_
 rintro e va ⟨ua, uc, rfl, hoU, hba⟩
 have rU := Rd.own hoU
 replace Q0 := Q0.below hba
 clear hba kL hoU rT p0 p1 p2 p3 p4
 go_wp2_with fail
 refine (kO _).mono ?_
 rintro e vb ⟨bo, bc, rfl, hoB, hbb⟩
 have rB := Rd.own hoB
 replace rU := rU.below hbb
 replace Q0 := Q0.below hbb
 clear hbb hoB
 go_wp2_with fail
 refine (kA _ _ _ _ _ rU rB).mono ?_
 rintro e vc ⟨za, zc, rfl, hoZ, hbc⟩
 have rZ := Rd.own hoZ
 replace Q0 := Q0.below hbc
 clear hbc hoZ rU rB kA
 obtain ⟨p0, p1, p2, p3, p4, -⟩ := id Q0.p
 go_upto_region 25 with fail
 clear p0 p1 p2 p3 p4
 rw [hqq]
 have A0 : Below vc.heap.size vc vc.drew := (Below.refl _ _).drew
 have A1 : Below vc.heap.size vc (vc.alloc (.cells #[.int .i64 0, .bool false, .int .u64 0, .int .u64 0, .int .i64 0] 32)).drew := ((Below.refl _ _).alloc (Nat.le_refl _) _).drew
 have ZA : Z5 (vc.alloc (.cells #[.int .i64 0, .bool false, .int .u64 0, .int .u64 0, .int .i64 0] 32)).drew vc.heap.size := (Z5_new vc).below ((Below.refl _ _).drew)
 have KB : ∀ v, Below vc.heap.size vc v → (fun v => v.cell? ⟨gp, 0, none⟩ = some (.int .i64 T.c) ∧ v.cell? ⟨gp, 1, none⟩ = some (.bool T.n) ∧ v.cell? ⟨gp, 2, none⟩ = some (.int .u64 (M.hiN T.s : Int)) ∧ v.cell? ⟨gp, 3, none⟩ = some (.int .u64 (M.loN T.s : Int)) ∧ v.cell? ⟨gp, 4, none⟩ = some (.int .i64 T.q)) v := fun v hv => by
  obtain ⟨p0, p1, p2, p3, p4, -⟩ := (Q0.below hv).p
  exact ⟨p0, p1, p2, p3, p4⟩
 go_cut [15] (fun p wx => ∃ g, p = .pointer (some ⟨g, 0, none⟩) ∧ vc.heap.size ≤ g ∧ O5 wx g ⟨0, T.n, S, Q⟩ ∧ Below vc.heap.size vc wx)
 case first =>
  go_region_held3 (fun v => v.cell? ⟨gp, 0, none⟩ = some (.int .i64 T.c) ∧ v.cell? ⟨gp, 1, none⟩ = some (.bool T.n) ∧ v.cell? ⟨gp, 2, none⟩ = some (.int .u64 (M.hiN T.s : Int)) ∧ v.cell? ⟨gp, 3, none⟩ = some (.int .u64 (M.loN T.s : Int)) ∧ v.cell? ⟨gp, 4, none⟩ = some (.int .i64 T.q)) (first | with_reducible exact KB _ hb1 | with_reducible exact KB _ (keepAl2 hb1 _) | with_reducible exact KB _ A0 | with_reducible exact KB _ A1 | with_reducible exact KB _ (keepSt5 hb1 _ (by first | with_reducible exact Nat.le_refl _ | with_reducible exact hs1) _ _ _ _ _))
   (first | (go_at_call 27; refine (kW _ _ _ (by first | with_reducible exact rZ.below A0 | with_reducible exact rZ.below A1)).mono ?_; rintro e u1 ⟨rfl, hb0⟩; have hb1 := keepC (w1 := vc) (by first | with_reducible exact A0 | with_reducible exact A1) hb0; have hs1 := hb1.size; (first | (with_reducible have z1 := ZA.below hb0; obtain ⟨z0, z1', z2, z3, z4, y0, y1, y2, y3, y4, -⟩ := id z1) | skip); clear hb0))
  all_goals go_wp2_with fail
  all_goals go_meet
  all_goals first | exact ⟨_, rfl, hs1, O5_new u1 ⟨0, T.n, S, Q⟩, keepAl2 hb1 _⟩ | exact ⟨_, rfl, Nat.le_refl _, O5_set z1 ⟨0, T.n, S, Q⟩, keepSt5 hb1 _ (Nat.le_refl _) _ _ _ _ _⟩
 case rest =>
  rename World => wx
  obtain ⟨go, rfl, hgo, K0, hbx⟩ := hcut
  have lk : gp < vc.heap.size := Q0.p.2.2.2.2.2
  have ld : gd < vc.heap.size := Q0.d.2.2.2.2.2.2
  have lr : w.heap.size + 1 < vc.heap.size := Q0.r.2.2.2.2
  replace Q0 := Q0.below hbx
  replace rZ := rZ.below hbx
  clear hbx KB A0 A1 ZA kW
  have n1 : gp ≠ go := by omega
  have n2 : gd ≠ go := by omega
  have n3 : w.heap.size + 1 ≠ go := by omega
  have n4 : w.heap.size ≤ go := by omega
  clear lk ld lr hgo
  obtain ⟨q0, q1, q2, q3, q4, -⟩ := id K0.p
  have g0 := K0.f0
  have g1 := K0.f1
  have g2 := K0.f2
  have g3 := K0.f3
  have g4 := K0.f4
  obtain ⟨p0, p1, p2, p3, p4, -⟩ := id Q0.p
  obtain ⟨d0, d1, d2, d3, d4, d5, -⟩ := id Q0.d
  go_upto_region 31 with fail
  go_quiet ((go_at_call 24; exact Calls.quiet_of_same (kB2 _ _ _ (Rd.drewN rZ _))))
  have A0 : Below wx.heap.size wx (wx.drewN nq) := ⟨rfl, rfl, rfl, Nat.le_refl _, fun _ _ => rfl⟩
  replace Q0 := Q0.below A0
  replace K0 := K0.below A0
  clear A0 p0 p1 p2 p3 p4 d0 d1 d2 d3 d4 d5 q0 q1 q2 q3 q4 g0 g1 g2 g3 g4
  generalize wx.drewN nq = wy at *
  obtain ⟨q0, q1, q2, q3, q4, -⟩ := id K0.p
  have g0 := K0.f0
  have R1 := Q0.r.far1 (o := 0) n3 (.int .i64 3)
  have bz := Q0.b.setCell (p := ⟨go, 0, none⟩) n4 (.int .i64 3)
  have HR1 := hid R1
  have HBZ := hid bz
  clear R1 bz Q0
  go_wp2_with fail
  refine (kP _).mono ?_
  rintro e vz ⟨rfl, hbz⟩
  have R2 := HR1.out.bl hbz
  have bb := ((HBZ.out.trans (hbz.mono HBZ.out.size)).setCell (p := ⟨w.heap.size + 1, 0, none⟩) (by simp only; omega) (.int .u64 (M.hiN R : Int))).setCell (p := ⟨w.heap.size + 1, 1, none⟩) (by simp only; omega) (.int .u64 (M.loN R : Int))
  have HB := hid bb
  clear bb hbz HBZ HR1
  obtain ⟨r0, r1, r2, r3, -⟩ := id R2
  clear R2
  go_wp2_with fail
  exact bodyPost_ret (v := .tuple #[.agg #[.int .u64 (M.hiN R : Int), .int .u64 (M.loN R : Int)], .bool ok]) (by simp [results, Tryd.results21, go_sem, r0, r1]) rfl ⟨rfl, HB.out⟩

theorem sstep_sn2z (f : Int) (X : Nat) (up : Bool) (T : M.Pt) (e0 e1 e2 e3 e4 : Int) (e5 : Bool) (w : World)
 (kE : ∀ v : World, Calls Tryd.prog 8 #[.int .i64 f] v fun e w' => e = .returned (.agg #[.int .i64 e0, .int .i64 e1, .int .i64 e2, .int .i64 e3, .int .i64 e4, .bool e5]) ∧ Below v.heap.size v w')
 (kU : ∀ v : World, Calls Tryd.prog 11 #[.int .i64 f, .agg #[.int .u64 (M.hiN X : Int), .int .u64 (M.loN X : Int)]] v fun e w' => e = .returned (.agg #[.int .i64 T.c, .bool T.n, .int .u64 (M.hiN T.s : Int), .int .u64 (M.loN T.s : Int), .int .i64 T.q]) ∧ Below v.heap.size v w')
 (S : Nat) (b : Int) (hg : (up == T.n) = true) (c0 : ¬ T.c = 0) (c5 : ¬ T.c = 5) (c1 : ¬ T.c = 1) (c4 : ¬ T.c = 4) (qm : Int) (hq : wrap64 (wrap64 (e1 - e0) + 1) = qm) (kO2 : ∀ (v : World), Calls Tryd.prog 23 #[.agg #[.int .u64 (M.hiN T.s : Int), .int .u64 (M.loN T.s : Int)]] v fun e w' => Ret v w' e (D T.s)) (kO : ∀ (v : World), Calls Tryd.prog 42 #[.int .u64 1] v fun e w' => Ret v w' e (D 1)) (kG : ∀ (v : World) (ao bo : Option Addr) (c d : Nat), Rd v ao (D T.s) → Rd v bo (D 1) → Calls Tryd.prog 41 #[.slice ao (D T.s).length c, .slice bo (D 1).length d] v fun e w' => Ret v w' e (D S)) (kB : ∀ (v : World) (ao : Option Addr) (c : Nat), Rd v ao (D S) → Calls Tryd.prog 24 #[.slice ao (D S).length c] v fun e w' => e = .returned (.int .i64 b) ∧ w' = v) (hb : b < e0) (hqm : ¬ qm < T.q) (hz : Hid ((D S).length = 0)) (kW : ∀ (v : World) (ao : Option Addr) (c : Nat), Rd v ao (D S) → Calls Tryd.prog 27 #[.slice ao (D S).length c] v fun e w' => e = .returned (.agg #[.int .u64 (M.hiN S : Int), .int .u64 (M.loN S : Int)]) ∧ Below v.heap.size v w') (R : Nat) (ok : Bool) (kP : ∀ v : World, Calls Tryd.prog 17 #[.int .i64 f, .agg #[.int .i64 1, .bool T.n, .int .u64 0, .int .u64 0, .int .i64 0]] v fun e w' => e = .returned (.tuple #[.agg #[.int .u64 (M.hiN R : Int), .int .u64 (M.loN R : Int)], .bool ok]) ∧ Below v.heap.size v w') :
 Calls Tryd.prog 21 #[.int .i64 f, .agg #[.int .u64 (M.hiN X : Int), .int .u64 (M.loN X : Int)], .bool up] w fun e w' => e = .returned (.tuple #[.agg #[.int .u64 (M.hiN R : Int), .int .u64 (M.loN R : Int)], .bool ok]) ∧ Below w.heap.size w w' := by
 have b0 : Below w.heap.size w ((w.alloc (.cells #[.int .u64 (M.hiN X : Int), .int .u64 (M.loN X : Int)] 30)).alloc (.cells #[.int .u64 0, .int .u64 0] 30)) := ((Below.refl _ _).alloc (Nat.le_refl _) _).alloc (by simp) _
 have X0 : W2 ((w.alloc (.cells #[.int .u64 (M.hiN X : Int), .int .u64 (M.loN X : Int)] 30)).alloc (.cells #[.int .u64 0, .int .u64 0] 30)) w.heap.size X := by refine ⟨?_, ?_, ?_, ?_, ?_⟩ <;> simp [go_sem]
 have R0 : W2 ((w.alloc (.cells #[.int .u64 (M.hiN X : Int), .int .u64 (M.loN X : Int)] 30)).alloc (.cells #[.int .u64 0, .int .u64 0] 30)) (w.heap.size + 1) 0 := by refine ⟨?_, ?_, ?_, ?_, ?_⟩ <;> simp [go_sem, hi0, lo0]
 generalize hV : ((w.alloc (.cells #[.int .u64 (M.hiN X : Int), .int .u64 (M.loN X : Int)] 30)).alloc (.cells #[.int .u64 0, .int .u64 0] 30)) = v0 at *
 go_enter Tryd.func21, Tryd.ntmps21
 go_upto_region 1 with fail
 clear hV
 obtain ⟨x0, x1, -⟩ := id X0
 go_wp2_with fail
 refine (kU _).mono ?_
 rintro e v1 ⟨rfl, hb1⟩
 replace b0 := b0.trans (hb1.mono b0.size)
 replace R0 := R0.bl hb1
 have l0 : w.heap.size + 1 < v1.heap.size := R0.2.2.2.2
 clear hb1 kU x0 x1 X0
 go_upto_region 2 with fail
 have bA : Below v1.heap.size v1 (v1.alloc (.cells #[.int .i64 T.c, .bool T.n, .int .u64 (M.hiN T.s : Int), .int .u64 (M.loN T.s : Int), .int .i64 T.q] 32)) := (Below.refl _ _).alloc (Nat.le_refl _) _
 have P0 : P5 (v1.alloc (.cells #[.int .i64 T.c, .bool T.n, .int .u64 (M.hiN T.s : Int), .int .u64 (M.loN T.s : Int), .int .i64 T.q] 32)) v1.heap.size T := P5_new v1 T
 replace b0 := b0.trans (bA.mono b0.size)
 replace R0 := R0.bl bA
 clear bA
 generalize (v1.alloc (.cells #[.int .i64 T.c, .bool T.n, .int .u64 (M.hiN T.s : Int), .int .u64 (M.loN T.s : Int), .int .i64 T.q] 32)) = v2 at *
 generalize v1.heap.size = gp at *
 go_wp2_with fail
 refine (kE _).mono ?_
 rintro e v3 ⟨rfl, hb3⟩
 replace b0 := b0.trans (hb3.mono b0.size)
 replace R0 := R0.bl hb3
 replace P0 := P0.below hb3
 have l1 : gp < v3.heap.size := P0.2.2.2.2.2
 clear hb3 kE
 go_upto_region 3 with fail
 have bA : Below v3.heap.size v3 (v3.alloc (.cells #[.int .i64 e0, .int .i64 e1, .int .i64 e2, .int .i64 e3, .int .i64 e4, .bool e5] 23)) := (Below.refl _ _).alloc (Nat.le_refl _) _
 have Q0 : Tv w (v3.alloc (.cells #[.int .i64 e0, .int .i64 e1, .int .i64 e2, .int .i64 e3, .int .i64 e4, .bool e5] 23)) gp v3.heap.size e0 e1 e2 e3 e4 e5 T := ⟨b0.trans (bA.mono b0.size), D6_new v3 _ _ _ _ _ _ _, P0.below bA, R0.bl bA, l0, l1⟩
 clear bA b0 P0 R0 l0 l1
 generalize (v3.alloc (.cells #[.int .i64 e0, .int .i64 e1, .int .i64 e2, .int .i64 e3, .int .i64 e4, .bool e5] 23)) = v4 at *
 generalize v3.heap.size = gd at *
 obtain ⟨p0, p1, p2, p3, p4, -⟩ := id Q0.p
 obtain ⟨d0, d1, d2, d3, d4, d5, -⟩ := id Q0.d
 have x0 : (T.c == 0) = false := by simp [c0]
 have x5 : (T.c == 5) = false := by simp [c5]
 have x1 : (T.c == 1) = false := by simp [c1]
 have x4 : (T.c == 4) = false := by simp [c4]
 go_wp2_with fail
 refine (kO2 _).mono ?_
 rintro e v6 ⟨sa, sc, rfl, hoS, hb6⟩
 have rS := Rd.own hoS
 replace Q0 := Q0.below hb6
 clear hb6 kO2 hoS p0 p1 p2 p3 p4 d0 d1 d2 d3 d4 d5
 obtain ⟨p0, p1, p2, p3, p4, -⟩ := id Q0.p
 obtain ⟨d0, d1, d2, d3, d4, d5, -⟩ := id Q0.d
 go_wp2_with fail
 refine (kO _).mono ?_
 rintro e v7 ⟨bo, bc, rfl, hoB, hb7⟩
 have rB := Rd.own hoB
 replace rS := rS.below hb7
 replace Q0 := Q0.below hb7
 clear hb7 hoB p0 p1 p2 p3 p4 d0 d1 d2 d3 d4 d5
 go_wp2_with fail
 refine (kG _ _ _ _ _ rS rB).mono ?_
 rintro e v8 ⟨za, zc, rfl, hoT, hb8⟩
 have rZ := Rd.own hoT
 replace Q0 := Q0.below hb8
 clear hb8 kG hoT rS rB
 obtain ⟨d0, d1, d2, d3, d4, d5, -⟩ := id Q0.d
 go_upto_region 22 with fail
 go_quiet ((go_at_call 24; exact Calls.quiet_of_same (kB _ _ _ (Rd.drewN rZ _))))
 clear d0 d1 d2 d3 d4 d5
 have A0 : Below v8.heap.size v8 (v8.drewN nq) := ⟨rfl, rfl, rfl, Nat.le_refl _, fun _ _ => rfl⟩
 replace Q0 := Q0.below A0
 replace rZ := rZ.below A0
 clear A0
 generalize v8.drewN nq = v9 at *
 obtain ⟨p0, p1, p2, p3, p4, -⟩ := id Q0.p
 go_upto_region 25 with fail
 clear p0 p1 p2 p3 p4
 have A0 : Below v9.heap.size v9 v9.drew := (Below.refl _ _).drew
 have A1 : Below v9.heap.size v9 (v9.alloc (.cells #[.int .i64 0, .bool false, .int .u64 0, .int .u64 0, .int .i64 0] 32)).drew := ((Below.refl _ _).alloc (Nat.le_refl _) _).drew
 have ZA : Z5 (v9.alloc (.cells #[.int .i64 0, .bool false, .int .u64 0, .int .u64 0, .int .i64 0] 32)).drew v9.heap.size := (Z5_new v9).below ((Below.refl _ _).drew)
 have KB : ∀ v, Below v9.heap.size v9 v → (fun v => v.cell? ⟨gp, 0, none⟩ = some (.int .i64 T.c) ∧ v.cell? ⟨gp, 1, none⟩ = some (.bool T.n) ∧ v.cell? ⟨gp, 2, none⟩ = some (.int .u64 (M.hiN T.s : Int)) ∧ v.cell? ⟨gp, 3, none⟩ = some (.int .u64 (M.loN T.s : Int)) ∧ v.cell? ⟨gp, 4, none⟩ = some (.int .i64 T.q)) v := fun v hv => by
  obtain ⟨p0, p1, p2, p3, p4, -⟩ := (Q0.below hv).p
  exact ⟨p0, p1, p2, p3, p4⟩
 go_cut [15] (fun p wx => ∃ g, p = .pointer (some ⟨g, 0, none⟩) ∧ v9.heap.size ≤ g ∧ O5 wx g ⟨0, T.n, S, T.q⟩ ∧ Below v9.heap.size v9 wx)
 case first =>
  go_region_held3 (fun v => v.cell? ⟨gp, 0, none⟩ = some (.int .i64 T.c) ∧ v.cell? ⟨gp, 1, none⟩ = some (.bool T.n) ∧ v.cell? ⟨gp, 2, none⟩ = some (.int .u64 (M.hiN T.s : Int)) ∧ v.cell? ⟨gp, 3, none⟩ = some (.int .u64 (M.loN T.s : Int)) ∧ v.cell? ⟨gp, 4, none⟩ = some (.int .i64 T.q)) (first | with_reducible exact KB _ hb1 | with_reducible exact KB _ (keepAl2 hb1 _) | with_reducible exact KB _ A0 | with_reducible exact KB _ A1 | with_reducible exact KB _ (keepSt5 hb1 _ (by first | with_reducible exact Nat.le_refl _ | with_reducible exact hs1) _ _ _ _ _))
   (first | (go_at_call 27; refine (kW _ _ _ (by first | with_reducible exact rZ.below A0 | with_reducible exact rZ.below A1)).mono ?_; rintro e u1 ⟨rfl, hb0⟩; have hb1 := keepC (w1 := v9) (by first | with_reducible exact A0 | with_reducible exact A1) hb0; have hs1 := hb1.size; (first | (with_reducible have z1 := ZA.below hb0; obtain ⟨z0, z1', z2, z3, z4, y0, y1, y2, y3, y4, -⟩ := id z1) | skip); clear hb0))
  all_goals go_wp2_with fail
  all_goals go_meet
  all_goals first | exact ⟨_, rfl, hs1, O5_new u1 ⟨0, T.n, S, T.q⟩, keepAl2 hb1 _⟩ | exact ⟨_, rfl, Nat.le_refl _, O5_set z1 ⟨0, T.n, S, T.q⟩, keepSt5 hb1 _ (Nat.le_refl _) _ _ _ _ _⟩
 case rest =>
  rename World => wx
  obtain ⟨go, rfl, hgo, K0, hbx⟩ := hcut
  have lk : gp < v9.heap.size := Q0.p.2.2.2.2.2
  have ld : gd < v9.heap.size := Q0.d.2.2.2.2.2.2
  have lr : w.heap.size + 1 < v9.heap.size := Q0.r.2.2.2.2
  replace Q0 := Q0.below hbx
  replace rZ := rZ.below hbx
  clear hbx KB A0 A1 ZA kW
  have n1 : gp ≠ go := by omega
  have n2 : gd ≠ go := by omega
  have n3 : w.heap.size + 1 ≠ go := by omega
  have n4 : w.heap.size ≤ go := by omega
  clear lk ld lr hgo
  obtain ⟨q0, q1, q2, q3, q4, -⟩ := id K0.p
  have g0 := K0.f0
  have g1 := K0.f1
  have g2 := K0.f2
  have g3 := K0.f3
  have g4 := K0.f4
  obtain ⟨p0, p1, p2, p3, p4, -⟩ := id Q0.p
  obtain ⟨d0, d1, d2, d3, d4, d5, -⟩ := id Q0.d
  have hz1 := hz.out
  have R1 := Q0.r.far5 n3 (.int .i64 1) (.bool T.n) (.int .u64 0) (.int .u64 0) (.int .i64 0)
  have bz := below5 Q0.b n4 (.int .i64 1) (.bool T.n) (.int .u64 0) (.int .u64 0) (.int .i64 0)
  have HR1 := hid R1
  have HBZ := hid bz
  clear R1 bz Q0
  go_wp2_with fail
  refine (kP _).mono ?_
  rintro e vz ⟨rfl, hbz⟩
  have R2 := HR1.out.bl hbz
  have bb := ((HBZ.out.trans (hbz.mono HBZ.out.size)).setCell (p := ⟨w.heap.size + 1, 0, none⟩) (by simp only; omega) (.int .u64 (M.hiN R : Int))).setCell (p := ⟨w.heap.size + 1, 1, none⟩) (by simp only; omega) (.int .u64 (M.loN R : Int))
  have HB := hid bb
  clear bb hbz HBZ HR1
  obtain ⟨r0, r1, r2, r3, -⟩ := id R2
  clear R2
  go_wp2_with fail
  exact bodyPost_ret (v := .tuple #[.agg #[.int .u64 (M.hiN R : Int), .int .u64 (M.loN R : Int)], .bool ok]) (by simp [results, Tryd.results21, go_sem, r0, r1]) rfl ⟨rfl, HB.out⟩

theorem sstep_sn2s (f : Int) (X : Nat) (up : Bool) (T : M.Pt) (e0 e1 e2 e3 e4 : Int) (e5 : Bool) (w : World)
 (kE : ∀ v : World, Calls Tryd.prog 8 #[.int .i64 f] v fun e w' => e = .returned (.agg #[.int .i64 e0, .int .i64 e1, .int .i64 e2, .int .i64 e3, .int .i64 e4, .bool e5]) ∧ Below v.heap.size v w')
 (kU : ∀ v : World, Calls Tryd.prog 11 #[.int .i64 f, .agg #[.int .u64 (M.hiN X : Int), .int .u64 (M.loN X : Int)]] v fun e w' => e = .returned (.agg #[.int .i64 T.c, .bool T.n, .int .u64 (M.hiN T.s : Int), .int .u64 (M.loN T.s : Int), .int .i64 T.q]) ∧ Below v.heap.size v w')
 (S : Nat) (b : Int) (hg : (up == T.n) = true) (c0 : ¬ T.c = 0) (c5 : ¬ T.c = 5) (c1 : ¬ T.c = 1) (c4 : ¬ T.c = 4) (qm : Int) (hq : wrap64 (wrap64 (e1 - e0) + 1) = qm) (kO2 : ∀ (v : World), Calls Tryd.prog 23 #[.agg #[.int .u64 (M.hiN T.s : Int), .int .u64 (M.loN T.s : Int)]] v fun e w' => Ret v w' e (D T.s)) (kO : ∀ (v : World), Calls Tryd.prog 42 #[.int .u64 1] v fun e w' => Ret v w' e (D 1)) (kG : ∀ (v : World) (ao bo : Option Addr) (c d : Nat), Rd v ao (D T.s) → Rd v bo (D 1) → Calls Tryd.prog 41 #[.slice ao (D T.s).length c, .slice bo (D 1).length d] v fun e w' => Ret v w' e (D S)) (kB : ∀ (v : World) (ao : Option Addr) (c : Nat), Rd v ao (D S) → Calls Tryd.prog 24 #[.slice ao (D S).length c] v fun e w' => e = .returned (.int .i64 b) ∧ w' = v) (hb : b < e0) (hqm : ¬ qm < T.q) (hz : ¬ (D S).length = 0) (E : Int) (hE : wrap64 (wrap64 (T.q + e0) - 1) = E) (hi : ¬ e2 < E) (b2 : Int) (kB2 : ∀ (v : World) (ao : Option Addr) (c : Nat), Rd v ao (D S) → Calls Tryd.prog 24 #[.slice ao (D S).length c] v fun e w' => e = .returned (.int .i64 b2) ∧ w' = v) (hs : b2 < e0) (kW : ∀ (v : World) (ao : Option Addr) (c : Nat), Rd v ao (D S) → Calls Tryd.prog 27 #[.slice ao (D S).length c] v fun e w' => e = .returned (.agg #[.int .u64 (M.hiN S : Int), .int .u64 (M.loN S : Int)]) ∧ Below v.heap.size v w') (R : Nat) (ok : Bool) (kP : ∀ v : World, Calls Tryd.prog 17 #[.int .i64 f, .agg #[.int .i64 2, .bool T.n, .int .u64 (M.hiN S : Int), .int .u64 (M.loN S : Int), .int .i64 T.q]] v fun e w' => e = .returned (.tuple #[.agg #[.int .u64 (M.hiN R : Int), .int .u64 (M.loN R : Int)], .bool ok]) ∧ Below v.heap.size v w') :
 Calls Tryd.prog 21 #[.int .i64 f, .agg #[.int .u64 (M.hiN X : Int), .int .u64 (M.loN X : Int)], .bool up] w fun e w' => e = .returned (.tuple #[.agg #[.int .u64 (M.hiN R : Int), .int .u64 (M.loN R : Int)], .bool ok]) ∧ Below w.heap.size w w' := by
 have b0 : Below w.heap.size w ((w.alloc (.cells #[.int .u64 (M.hiN X : Int), .int .u64 (M.loN X : Int)] 30)).alloc (.cells #[.int .u64 0, .int .u64 0] 30)) := ((Below.refl _ _).alloc (Nat.le_refl _) _).alloc (by simp) _
 have X0 : W2 ((w.alloc (.cells #[.int .u64 (M.hiN X : Int), .int .u64 (M.loN X : Int)] 30)).alloc (.cells #[.int .u64 0, .int .u64 0] 30)) w.heap.size X := by refine ⟨?_, ?_, ?_, ?_, ?_⟩ <;> simp [go_sem]
 have R0 : W2 ((w.alloc (.cells #[.int .u64 (M.hiN X : Int), .int .u64 (M.loN X : Int)] 30)).alloc (.cells #[.int .u64 0, .int .u64 0] 30)) (w.heap.size + 1) 0 := by refine ⟨?_, ?_, ?_, ?_, ?_⟩ <;> simp [go_sem, hi0, lo0]
 generalize hV : ((w.alloc (.cells #[.int .u64 (M.hiN X : Int), .int .u64 (M.loN X : Int)] 30)).alloc (.cells #[.int .u64 0, .int .u64 0] 30)) = v0 at *
 go_enter Tryd.func21, Tryd.ntmps21
 go_upto_region 1 with fail
 clear hV
 obtain ⟨x0, x1, -⟩ := id X0
 go_wp2_with fail
 refine (kU _).mono ?_
 rintro e v1 ⟨rfl, hb1⟩
 replace b0 := b0.trans (hb1.mono b0.size)
 replace R0 := R0.bl hb1
 have l0 : w.heap.size + 1 < v1.heap.size := R0.2.2.2.2
 clear hb1 kU x0 x1 X0
 go_upto_region 2 with fail
 have bA : Below v1.heap.size v1 (v1.alloc (.cells #[.int .i64 T.c, .bool T.n, .int .u64 (M.hiN T.s : Int), .int .u64 (M.loN T.s : Int), .int .i64 T.q] 32)) := (Below.refl _ _).alloc (Nat.le_refl _) _
 have P0 : P5 (v1.alloc (.cells #[.int .i64 T.c, .bool T.n, .int .u64 (M.hiN T.s : Int), .int .u64 (M.loN T.s : Int), .int .i64 T.q] 32)) v1.heap.size T := P5_new v1 T
 replace b0 := b0.trans (bA.mono b0.size)
 replace R0 := R0.bl bA
 clear bA
 generalize (v1.alloc (.cells #[.int .i64 T.c, .bool T.n, .int .u64 (M.hiN T.s : Int), .int .u64 (M.loN T.s : Int), .int .i64 T.q] 32)) = v2 at *
 generalize v1.heap.size = gp at *
 go_wp2_with fail
 refine (kE _).mono ?_
 rintro e v3 ⟨rfl, hb3⟩
 replace b0 := b0.trans (hb3.mono b0.size)
 replace R0 := R0.bl hb3
 replace P0 := P0.below hb3
 have l1 : gp < v3.heap.size := P0.2.2.2.2.2
 clear hb3 kE
 go_upto_region 3 with fail
 have bA : Below v3.heap.size v3 (v3.alloc (.cells #[.int .i64 e0, .int .i64 e1, .int .i64 e2, .int .i64 e3, .int .i64 e4, .bool e5] 23)) := (Below.refl _ _).alloc (Nat.le_refl _) _
 have Q0 : Tv w (v3.alloc (.cells #[.int .i64 e0, .int .i64 e1, .int .i64 e2, .int .i64 e3, .int .i64 e4, .bool e5] 23)) gp v3.heap.size e0 e1 e2 e3 e4 e5 T := ⟨b0.trans (bA.mono b0.size), D6_new v3 _ _ _ _ _ _ _, P0.below bA, R0.bl bA, l0, l1⟩
 clear bA b0 P0 R0 l0 l1
 generalize (v3.alloc (.cells #[.int .i64 e0, .int .i64 e1, .int .i64 e2, .int .i64 e3, .int .i64 e4, .bool e5] 23)) = v4 at *
 generalize v3.heap.size = gd at *
 obtain ⟨p0, p1, p2, p3, p4, -⟩ := id Q0.p
 obtain ⟨d0, d1, d2, d3, d4, d5, -⟩ := id Q0.d
 have x0 : (T.c == 0) = false := by simp [c0]
 have x5 : (T.c == 5) = false := by simp [c5]
 have x1 : (T.c == 1) = false := by simp [c1]
 have x4 : (T.c == 4) = false := by simp [c4]
 go_wp2_with fail
 refine (kO2 _).mono ?_
 rintro e v6 ⟨sa, sc, rfl, hoS, hb6⟩
 have rS := Rd.own hoS
 replace Q0 := Q0.below hb6
 clear hb6 kO2 hoS p0 p1 p2 p3 p4 d0 d1 d2 d3 d4 d5
 obtain ⟨p0, p1, p2, p3, p4, -⟩ := id Q0.p
 obtain ⟨d0, d1, d2, d3, d4, d5, -⟩ := id Q0.d
 go_wp2_with fail
 refine (kO _).mono ?_
 rintro e v7 ⟨bo, bc, rfl, hoB, hb7⟩
 have rB := Rd.own hoB
 replace rS := rS.below hb7
 replace Q0 := Q0.below hb7
 clear hb7 hoB p0 p1 p2 p3 p4 d0 d1 d2 d3 d4 d5
 go_wp2_with fail
 refine (kG _ _ _ _ _ rS rB).mono ?_
 rintro e v8 ⟨za, zc, rfl, hoT, hb8⟩
 have rZ := Rd.own hoT
 replace Q0 := Q0.below hb8
 clear hb8 kG hoT rS rB
 obtain ⟨d0, d1, d2, d3, d4, d5, -⟩ := id Q0.d
 go_upto_region 22 with fail
 go_quiet ((go_at_call 24; exact Calls.quiet_of_same (kB _ _ _ (Rd.drewN rZ _))))
 clear d0 d1 d2 d3 d4 d5
 have A0 : Below v8.heap.size v8 (v8.drewN nq) := ⟨rfl, rfl, rfl, Nat.le_refl _, fun _ _ => rfl⟩
 replace Q0 := Q0.below A0
 replace rZ := rZ.below A0
 clear A0
 generalize v8.drewN nq = v9 at *
 obtain ⟨p0, p1, p2, p3, p4, -⟩ := id Q0.p
 go_upto_region 25 with fail
 clear p0 p1 p2 p3 p4
 have A0 : Below v9.heap.size v9 v9.drew := (Below.refl _ _).drew
 have A1 : Below v9.heap.size v9 (v9.alloc (.cells #[.int .i64 0, .bool false, .int .u64 0, .int .u64 0, .int .i64 0] 32)).drew := ((Below.refl _ _).alloc (Nat.le_refl _) _).drew
 have ZA : Z5 (v9.alloc (.cells #[.int .i64 0, .bool false, .int .u64 0, .int .u64 0, .int .i64 0] 32)).drew v9.heap.size := (Z5_new v9).below ((Below.refl _ _).drew)
 have KB : ∀ v, Below v9.heap.size v9 v → (fun v => v.cell? ⟨gp, 0, none⟩ = some (.int .i64 T.c) ∧ v.cell? ⟨gp, 1, none⟩ = some (.bool T.n) ∧ v.cell? ⟨gp, 2, none⟩ = some (.int .u64 (M.hiN T.s : Int)) ∧ v.cell? ⟨gp, 3, none⟩ = some (.int .u64 (M.loN T.s : Int)) ∧ v.cell? ⟨gp, 4, none⟩ = some (.int .i64 T.q)) v := fun v hv => by
  obtain ⟨p0, p1, p2, p3, p4, -⟩ := (Q0.below hv).p
  exact ⟨p0, p1, p2, p3, p4⟩
 go_cut [15] (fun p wx => ∃ g, p = .pointer (some ⟨g, 0, none⟩) ∧ v9.heap.size ≤ g ∧ O5 wx g ⟨0, T.n, S, T.q⟩ ∧ Below v9.heap.size v9 wx)
 case first =>
  go_region_held3 (fun v => v.cell? ⟨gp, 0, none⟩ = some (.int .i64 T.c) ∧ v.cell? ⟨gp, 1, none⟩ = some (.bool T.n) ∧ v.cell? ⟨gp, 2, none⟩ = some (.int .u64 (M.hiN T.s : Int)) ∧ v.cell? ⟨gp, 3, none⟩ = some (.int .u64 (M.loN T.s : Int)) ∧ v.cell? ⟨gp, 4, none⟩ = some (.int .i64 T.q)) (first | with_reducible exact KB _ hb1 | with_reducible exact KB _ (keepAl2 hb1 _) | with_reducible exact KB _ A0 | with_reducible exact KB _ A1 | with_reducible exact KB _ (keepSt5 hb1 _ (by first | with_reducible exact Nat.le_refl _ | with_reducible exact hs1) _ _ _ _ _))
   (first | (go_at_call 27; refine (kW _ _ _ (by first | with_reducible exact rZ.below A0 | with_reducible exact rZ.below A1)).mono ?_; rintro e u1 ⟨rfl, hb0⟩; have hb1 := keepC (w1 := v9) (by first | with_reducible exact A0 | with_reducible exact A1) hb0; have hs1 := hb1.size; (first | (with_reducible have z1 := ZA.below hb0; obtain ⟨z0, z1', z2, z3, z4, y0, y1, y2, y3, y4, -⟩ := id z1) | skip); clear hb0))
  all_goals go_wp2_with fail
  all_goals go_meet
  all_goals first | exact ⟨_, rfl, hs1, O5_new u1 ⟨0, T.n, S, T.q⟩, keepAl2 hb1 _⟩ | exact ⟨_, rfl, Nat.le_refl _, O5_set z1 ⟨0, T.n, S, T.q⟩, keepSt5 hb1 _ (Nat.le_refl _) _ _ _ _ _⟩
 case rest =>
  rename World => wx
  obtain ⟨go, rfl, hgo, K0, hbx⟩ := hcut
  have lk : gp < v9.heap.size := Q0.p.2.2.2.2.2
  have ld : gd < v9.heap.size := Q0.d.2.2.2.2.2.2
  have lr : w.heap.size + 1 < v9.heap.size := Q0.r.2.2.2.2
  replace Q0 := Q0.below hbx
  replace rZ := rZ.below hbx
  clear hbx KB A0 A1 ZA kW
  have n1 : gp ≠ go := by omega
  have n2 : gd ≠ go := by omega
  have n3 : w.heap.size + 1 ≠ go := by omega
  have n4 : w.heap.size ≤ go := by omega
  clear lk ld lr hgo
  obtain ⟨q0, q1, q2, q3, q4, -⟩ := id K0.p
  have g0 := K0.f0
  have g1 := K0.f1
  have g2 := K0.f2
  have g3 := K0.f3
  have g4 := K0.f4
  obtain ⟨p0, p1, p2, p3, p4, -⟩ := id Q0.p
  obtain ⟨d0, d1, d2, d3, d4, d5, -⟩ := id Q0.d
  go_upto_region 31 with fail
  go_quiet ((go_at_call 24; exact Calls.quiet_of_same (kB2 _ _ _ (Rd.drewN rZ _))))
  have A0 : Below wx.heap.size wx (wx.drewN nq) := ⟨rfl, rfl, rfl, Nat.le_refl _, fun _ _ => rfl⟩
  replace Q0 := Q0.below A0
  replace K0 := K0.below A0
  clear A0 p0 p1 p2 p3 p4 d0 d1 d2 d3 d4 d5 q0 q1 q2 q3 q4 g0 g1 g2 g3 g4
  generalize wx.drewN nq = wy at *
  obtain ⟨q0, q1, q2, q3, q4, -⟩ := id K0.p
  have g0 := K0.f0
  have R1 := Q0.r.far1 (o := 0) n3 (.int .i64 2)
  have bz := Q0.b.setCell (p := ⟨go, 0, none⟩) n4 (.int .i64 2)
  have HR1 := hid R1
  have HBZ := hid bz
  clear R1 bz Q0
  go_wp2_with fail
  refine (kP _).mono ?_
  rintro e vz ⟨rfl, hbz⟩
  have R2 := HR1.out.bl hbz
  have bb := ((HBZ.out.trans (hbz.mono HBZ.out.size)).setCell (p := ⟨w.heap.size + 1, 0, none⟩) (by simp only; omega) (.int .u64 (M.hiN R : Int))).setCell (p := ⟨w.heap.size + 1, 1, none⟩) (by simp only; omega) (.int .u64 (M.loN R : Int))
  have HB := hid bb
  clear bb hbz HBZ HR1
  obtain ⟨r0, r1, r2, r3, -⟩ := id R2
  clear R2
  go_wp2_with fail
  exact bodyPost_ret (v := .tuple #[.agg #[.int .u64 (M.hiN R : Int), .int .u64 (M.loN R : Int)], .bool ok]) (by simp [results, Tryd.results21, go_sem, r0, r1]) rfl ⟨rfl, HB.out⟩

theorem sstep_sn1m (f : Int) (X : Nat) (up : Bool) (T : M.Pt) (e0 e1 e2 e3 e4 : Int) (e5 : Bool) (w : World)
 (kE : ∀ v : World, Calls Tryd.prog 8 #[.int .i64 f] v fun e w' => e = .returned (.agg #[.int .i64 e0, .int .i64 e1, .int .i64 e2, .int .i64 e3, .int .i64 e4, .bool e5]) ∧ Below v.heap.size v w')
 (kU : ∀ v : World, Calls Tryd.prog 11 #[.int .i64 f, .agg #[.int .u64 (M.hiN X : Int), .int .u64 (M.loN X : Int)]] v fun e w' => e = .returned (.agg #[.int .i64 T.c, .bool T.n, .int .u64 (M.hiN T.s : Int), .int .u64 (M.loN T.s : Int), .int .i64 T.q]) ∧ Below v.heap.size v w')
 (S : Nat) (b : Int) (hg : (up == T.n) = true) (c0 : ¬ T.c = 0) (c5 : ¬ T.c = 5) (c1 : ¬ T.c = 1) (c4 : ¬ T.c = 4) (qm : Int) (hq : wrap64 (wrap64 (e1 - e0) + 1) = qm) (kO2 : ∀ (v : World), Calls Tryd.prog 23 #[.agg #[.int .u64 (M.hiN T.s : Int), .int .u64 (M.loN T.s : Int)]] v fun e w' => Ret v w' e (D T.s)) (kO : ∀ (v : World), Calls Tryd.prog 42 #[.int .u64 1] v fun e w' => Ret v w' e (D 1)) (kG : ∀ (v : World) (ao bo : Option Addr) (c d : Nat), Rd v ao (D T.s) → Rd v bo (D 1) → Calls Tryd.prog 41 #[.slice ao (D T.s).length c, .slice bo (D 1).length d] v fun e w' => Ret v w' e (D S)) (kB : ∀ (v : World) (ao : Option Addr) (c : Nat), Rd v ao (D S) → Calls Tryd.prog 24 #[.slice ao (D S).length c] v fun e w' => e = .returned (.int .i64 b) ∧ w' = v) (hb : ¬ b < e0) (hz : ¬ (D S).length = 0) (E : Int) (hE : wrap64 (wrap64 (T.q + e0) - 1) = E) (hi : ¬ e2 < E) (b2 : Int) (kB2 : ∀ (v : World) (ao : Option Addr) (c : Nat), Rd v ao (D S) → Calls Tryd.prog 24 #[.slice ao (D S).length c] v fun e w' => e = .returned (.int .i64 b2) ∧ w' = v) (hs : ¬ b2 < e0) (kW : ∀ (v : World) (ao : Option Addr) (c : Nat), Rd v ao (D S) → Calls Tryd.prog 27 #[.slice ao (D S).length c] v fun e w' => e = .returned (.agg #[.int .u64 (M.hiN S : Int), .int .u64 (M.loN S : Int)]) ∧ Below v.heap.size v w') (R : Nat) (ok : Bool) (kP : ∀ v : World, Calls Tryd.prog 17 #[.int .i64 f, .agg #[.int .i64 3, .bool T.n, .int .u64 (M.hiN S : Int), .int .u64 (M.loN S : Int), .int .i64 T.q]] v fun e w' => e = .returned (.tuple #[.agg #[.int .u64 (M.hiN R : Int), .int .u64 (M.loN R : Int)], .bool ok]) ∧ Below v.heap.size v w') :
 Calls Tryd.prog 21 #[.int .i64 f, .agg #[.int .u64 (M.hiN X : Int), .int .u64 (M.loN X : Int)], .bool up] w fun e w' => e = .returned (.tuple #[.agg #[.int .u64 (M.hiN R : Int), .int .u64 (M.loN R : Int)], .bool ok]) ∧ Below w.heap.size w w' := by
 have b0 : Below w.heap.size w ((w.alloc (.cells #[.int .u64 (M.hiN X : Int), .int .u64 (M.loN X : Int)] 30)).alloc (.cells #[.int .u64 0, .int .u64 0] 30)) := ((Below.refl _ _).alloc (Nat.le_refl _) _).alloc (by simp) _
 have X0 : W2 ((w.alloc (.cells #[.int .u64 (M.hiN X : Int), .int .u64 (M.loN X : Int)] 30)).alloc (.cells #[.int .u64 0, .int .u64 0] 30)) w.heap.size X := by refine ⟨?_, ?_, ?_, ?_, ?_⟩ <;> simp [go_sem]
 have R0 : W2 ((w.alloc (.cells #[.int .u64 (M.hiN X : Int), .int .u64 (M.loN X : Int)] 30)).alloc (.cells #[.int .u64 0, .int .u64 0] 30)) (w.heap.size + 1) 0 := by refine ⟨?_, ?_, ?_, ?_, ?_⟩ <;> simp [go_sem, hi0, lo0]
 generalize hV : ((w.alloc (.cells #[.int .u64 (M.hiN X : Int), .int .u64 (M.loN X : Int)] 30)).alloc (.cells #[.int .u64 0, .int .u64 0] 30)) = v0 at *
 go_enter Tryd.func21, Tryd.ntmps21
 go_upto_region 1 with fail
 clear hV
 obtain ⟨x0, x1, -⟩ := id X0
 go_wp2_with fail
 refine (kU _).mono ?_
 rintro e v1 ⟨rfl, hb1⟩
 replace b0 := b0.trans (hb1.mono b0.size)
 replace R0 := R0.bl hb1
 have l0 : w.heap.size + 1 < v1.heap.size := R0.2.2.2.2
 clear hb1 kU x0 x1 X0
 go_upto_region 2 with fail
 have bA : Below v1.heap.size v1 (v1.alloc (.cells #[.int .i64 T.c, .bool T.n, .int .u64 (M.hiN T.s : Int), .int .u64 (M.loN T.s : Int), .int .i64 T.q] 32)) := (Below.refl _ _).alloc (Nat.le_refl _) _
 have P0 : P5 (v1.alloc (.cells #[.int .i64 T.c, .bool T.n, .int .u64 (M.hiN T.s : Int), .int .u64 (M.loN T.s : Int), .int .i64 T.q] 32)) v1.heap.size T := P5_new v1 T
 replace b0 := b0.trans (bA.mono b0.size)
 replace R0 := R0.bl bA
 clear bA
 generalize (v1.alloc (.cells #[.int .i64 T.c, .bool T.n, .int .u64 (M.hiN T.s : Int), .int .u64 (M.loN T.s : Int), .int .i64 T.q] 32)) = v2 at *
 generalize v1.heap.size = gp at *
 go_wp2_with fail
 refine (kE _).mono ?_
 rintro e v3 ⟨rfl, hb3⟩
 replace b0 := b0.trans (hb3.mono b0.size)
 replace R0 := R0.bl hb3
 replace P0 := P0.below hb3
 have l1 : gp < v3.heap.size := P0.2.2.2.2.2
 clear hb3 kE
 go_upto_region 3 with fail
 have bA : Below v3.heap.size v3 (v3.alloc (.cells #[.int .i64 e0, .int .i64 e1, .int .i64 e2, .int .i64 e3, .int .i64 e4, .bool e5] 23)) := (Below.refl _ _).alloc (Nat.le_refl _) _
 have Q0 : Tv w (v3.alloc (.cells #[.int .i64 e0, .int .i64 e1, .int .i64 e2, .int .i64 e3, .int .i64 e4, .bool e5] 23)) gp v3.heap.size e0 e1 e2 e3 e4 e5 T := ⟨b0.trans (bA.mono b0.size), D6_new v3 _ _ _ _ _ _ _, P0.below bA, R0.bl bA, l0, l1⟩
 clear bA b0 P0 R0 l0 l1
 generalize (v3.alloc (.cells #[.int .i64 e0, .int .i64 e1, .int .i64 e2, .int .i64 e3, .int .i64 e4, .bool e5] 23)) = v4 at *
 generalize v3.heap.size = gd at *
 obtain ⟨p0, p1, p2, p3, p4, -⟩ := id Q0.p
 obtain ⟨d0, d1, d2, d3, d4, d5, -⟩ := id Q0.d
 have x0 : (T.c == 0) = false := by simp [c0]
 have x5 : (T.c == 5) = false := by simp [c5]
 have x1 : (T.c == 1) = false := by simp [c1]
 have x4 : (T.c == 4) = false := by simp [c4]
 go_wp2_with fail
 refine (kO2 _).mono ?_
 rintro e v6 ⟨sa, sc, rfl, hoS, hb6⟩
 have rS := Rd.own hoS
 replace Q0 := Q0.below hb6
 clear hb6 kO2 hoS p0 p1 p2 p3 p4 d0 d1 d2 d3 d4 d5
 obtain ⟨p0, p1, p2, p3, p4, -⟩ := id Q0.p
 obtain ⟨d0, d1, d2, d3, d4, d5, -⟩ := id Q0.d
 go_wp2_with fail
 refine (kO _).mono ?_
 rintro e v7 ⟨bo, bc, rfl, hoB, hb7⟩
 have rB := Rd.own hoB
 replace rS := rS.below hb7
 replace Q0 := Q0.below hb7
 clear hb7 hoB p0 p1 p2 p3 p4 d0 d1 d2 d3 d4 d5
 go_wp2_with fail
 refine (kG _ _ _ _ _ rS rB).mono ?_
 rintro e v8 ⟨za, zc, rfl, hoT, hb8⟩
 have rZ := Rd.own hoT
 replace Q0 := Q0.below hb8
 clear hb8 kG hoT rS rB
 obtain ⟨d0, d1, d2, d3, d4, d5, -⟩ := id Q0.d
 go_upto_region 22 with fail
 have t1 : decide (b < e0) = false := decide_eq_false (by omega)
 have t2 : ¬ b < e0 := by omega
 have t3 : (b < e0) = False := eq_false t2
 go_quiet ((go_at_call 24; exact Calls.quiet_of_same (kB _ _ _ (Rd.drewN rZ _))))
 clear d0 d1 d2 d3 d4 d5
 have A0 : Below v8.heap.size v8 (v8.drewN nq) := ⟨rfl, rfl, rfl, Nat.le_refl _, fun _ _ => rfl⟩
 replace Q0 := Q0.below A0
 replace rZ := rZ.below A0
 clear A0
 generalize v8.drewN nq = v9 at *
 obtain ⟨p0, p1, p2, p3, p4, -⟩ := id Q0.p
 go_upto_region 25 with fail
 clear p0 p1 p2 p3 p4
 have A0 : Below v9.heap.size v9 v9.drew := (Below.refl _ _).drew
 have A1 : Below v9.heap.size v9 (v9.alloc (.cells #[.int .i64 0, .bool false, .int .u64 0, .int .u64 0, .int .i64 0] 32)).drew := ((Below.refl _ _).alloc (Nat.le_refl _) _).drew
 have ZA : Z5 (v9.alloc (.cells #[.int .i64 0, .bool false, .int .u64 0, .int .u64 0, .int .i64 0] 32)).drew v9.heap.size := (Z5_new v9).below ((Below.refl _ _).drew)
 have KB : ∀ v, Below v9.heap.size v9 v → (fun v => v.cell? ⟨gp, 0, none⟩ = some (.int .i64 T.c) ∧ v.cell? ⟨gp, 1, none⟩ = some (.bool T.n) ∧ v.cell? ⟨gp, 2, none⟩ = some (.int .u64 (M.hiN T.s : Int)) ∧ v.cell? ⟨gp, 3, none⟩ = some (.int .u64 (M.loN T.s : Int)) ∧ v.cell? ⟨gp, 4, none⟩ = some (.int .i64 T.q)) v := fun v hv => by
  obtain ⟨p0, p1, p2, p3, p4, -⟩ := (Q0.below hv).p
  exact ⟨p0, p1, p2, p3, p4⟩
 go_cut [15] (fun p wx => ∃ g, p = .pointer (some ⟨g, 0, none⟩) ∧ v9.heap.size ≤ g ∧ O5 wx g ⟨0, T.n, S, T.q⟩ ∧ Below v9.heap.size v9 wx)
 case first =>
  go_region_held3 (fun v => v.cell? ⟨gp, 0, none⟩ = some (.int .i64 T.c) ∧ v.cell? ⟨gp, 1, none⟩ = some (.bool T.n) ∧ v.cell? ⟨gp, 2, none⟩ = some (.int .u64 (M.hiN T.s : Int)) ∧ v.cell? ⟨gp, 3, none⟩ = some (.int .u64 (M.loN T.s : Int)) ∧ v.cell? ⟨gp, 4, none⟩ = some (.int .i64 T.q)) (first | with_reducible exact KB _ hb1 | with_reducible exact KB _ (keepAl2 hb1 _) | with_reducible exact KB _ A0 | with_reducible exact KB _ A1 | with_reducible exact KB _ (keepSt5 hb1 _ (by first | with_reducible exact Nat.le_refl _ | with_reducible exact hs1) _ _ _ _ _))
   (first | (go_at_call 27; refine (kW _ _ _ (by first | with_reducible exact rZ.below A0 | with_reducible exact rZ.below A1)).mono ?_; rintro e u1 ⟨rfl, hb0⟩; have hb1 := keepC (w1 := v9) (by first | with_reducible exact A0 | with_reducible exact A1) hb0; have hs1 := hb1.size; (first | (with_reducible have z1 := ZA.below hb0; obtain ⟨z0, z1', z2, z3, z4, y0, y1, y2, y3, y4, -⟩ := id z1) | skip); clear hb0))
  all_goals go_wp2_with fail
  all_goals go_meet
  all_goals first | exact ⟨_, rfl, hs1, O5_new u1 ⟨0, T.n, S, T.q⟩, keepAl2 hb1 _⟩ | exact ⟨_, rfl, Nat.le_refl _, O5_set z1 ⟨0, T.n, S, T.q⟩, keepSt5 hb1 _ (Nat.le_refl _) _ _ _ _ _⟩
 case rest =>
  rename World => wx
  obtain ⟨go, rfl, hgo, K0, hbx⟩ := hcut
  have lk : gp < v9.heap.size := Q0.p.2.2.2.2.2
  have ld : gd < v9.heap.size := Q0.d.2.2.2.2.2.2
  have lr : w.heap.size + 1 < v9.heap.size := Q0.r.2.2.2.2
  replace Q0 := Q0.below hbx
  replace rZ := rZ.below hbx
  clear hbx KB A0 A1 ZA kW
  have n1 : gp ≠ go := by omega
  have n2 : gd ≠ go := by omega
  have n3 : w.heap.size + 1 ≠ go := by omega
  have n4 : w.heap.size ≤ go := by omega
  clear lk ld lr hgo
  obtain ⟨q0, q1, q2, q3, q4, -⟩ := id K0.p
  have g0 := K0.f0
  have g1 := K0.f1
  have g2 := K0.f2
  have g3 := K0.f3
  have g4 := K0.f4
  obtain ⟨p0, p1, p2, p3, p4, -⟩ := id Q0.p
  obtain ⟨d0, d1, d2, d3, d4, d5, -⟩ := id Q0.d
  go_upto_region 31 with fail
  go_quiet ((go_at_call 24; exact Calls.quiet_of_same (kB2 _ _ _ (Rd.drewN rZ _))))
  have A0 : Below wx.heap.size wx (wx.drewN nq) := ⟨rfl, rfl, rfl, Nat.le_refl _, fun _ _ => rfl⟩
  replace Q0 := Q0.below A0
  replace K0 := K0.below A0
  clear A0 p0 p1 p2 p3 p4 d0 d1 d2 d3 d4 d5 q0 q1 q2 q3 q4 g0 g1 g2 g3 g4
  generalize wx.drewN nq = wy at *
  obtain ⟨q0, q1, q2, q3, q4, -⟩ := id K0.p
  have g0 := K0.f0
  have R1 := Q0.r.far1 (o := 0) n3 (.int .i64 3)
  have bz := Q0.b.setCell (p := ⟨go, 0, none⟩) n4 (.int .i64 3)
  have HR1 := hid R1
  have HBZ := hid bz
  clear R1 bz Q0
  go_wp2_with fail
  refine (kP _).mono ?_
  rintro e vz ⟨rfl, hbz⟩
  have R2 := HR1.out.bl hbz
  have bb := ((HBZ.out.trans (hbz.mono HBZ.out.size)).setCell (p := ⟨w.heap.size + 1, 0, none⟩) (by simp only; omega) (.int .u64 (M.hiN R : Int))).setCell (p := ⟨w.heap.size + 1, 1, none⟩) (by simp only; omega) (.int .u64 (M.loN R : Int))
  have HB := hid bb
  clear bb hbz HBZ HR1
  obtain ⟨r0, r1, r2, r3, -⟩ := id R2
  clear R2
  go_wp2_with fail
  exact bodyPost_ret (v := .tuple #[.agg #[.int .u64 (M.hiN R : Int), .int .u64 (M.loN R : Int)], .bool ok]) (by simp [results, Tryd.results21, go_sem, r0, r1]) rfl ⟨rfl, HB.out⟩

end Go.Proofs.YtcilemkeljcidaaDoor
