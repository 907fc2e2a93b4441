import Derived.Test.YtjffpclidcloeaaGreatDoorrSc7
import Derived.Test.YtjffpclidcloeaaGreatDoorrBL
import Derived.Test.YtjffpclidcloeaaGreatDoorrPe2
set_option maxHeartbeats 8000000
set_option maxRecDepth 100000
namespace Go.Proofs.YtjffpclidcloeaaGreatDoor
open Go.RowKit Go.Maps
set_option linter.unusedVariables false
set_option maxRecDepth 100000
structure Emp (v : World) (tb bm : Nat) : Prop where
 c0 : v.cell? ⟨tb, 0, none⟩ = some (.int .i32 0)
 c2 : v.cell? ⟨tb, 2, none⟩ = some (.map (some bm))
 f0 : v.frozen? ⟨tb, 0, none⟩ = false
 ne : bm ≠ tb
 lt : tb < v.heap.size
 lb : bm < v.heap.size
 own : v.ownsMap Tryz.prog 119 Rz bm 0 (.map [])

theorem Emp.below {v v' : World} {tb bm : Nat} (h : Emp v tb bm) (hb : Below v.heap.size v v') : Emp v' tb bm :=
 ⟨(hb.cell (p := ⟨tb, 0, none⟩) h.lt).trans h.c0, (hb.cell (p := ⟨tb, 2, none⟩) h.lt).trans h.c2, (hb.frozen (p := ⟨tb, 0, none⟩) h.lt).trans h.f0, h.ne, Nat.lt_of_lt_of_le h.lt hb.size, Nat.lt_of_lt_of_le h.lb hb.size, own_keep h.own hb h.lb⟩

theorem T2.keep {tb bm : Nat} {w v v' : World} (h : T2 tb bm w v) (hb : Below v.heap.size v v') : T2 tb bm w v' := h.below hb h.size

theorem T2.of {tb bm : Nat} {w v : World} (hb : Below w.heap.size w v) : T2 tb bm w v := (T2.refl _ _ _).below hb (Nat.le_refl _)

theorem belowT {w v : World} (h : Below w.heap.size w v) (g : Nat) (hg : w.heap.size ≤ g) (a b c d e f : Value) : Below w.heap.size w ((((((v.setCell ⟨g, 0, none⟩ a).setCell ⟨g, 1, none⟩ b).setCell ⟨g, 2, none⟩ c).setCell ⟨g, 3, none⟩ d).setCell ⟨g, 4, none⟩ e).setCell ⟨g, 5, none⟩ f) :=
 (((((h.setCell (p := ⟨g, 0, none⟩) hg a).setCell (p := ⟨g, 1, none⟩) hg b).setCell (p := ⟨g, 2, none⟩) hg c).setCell (p := ⟨g, 3, none⟩) hg d).setCell (p := ⟨g, 4, none⟩) hg e).setCell (p := ⟨g, 5, none⟩) hg f

theorem T2.set6 {tb bm : Nat} {w v : World} (h : T2 tb bm w v) (g : Nat) (hg : w.heap.size ≤ g) (a b c d e f : Value) : T2 tb bm w ((((((v.setCell ⟨g, 0, none⟩ a).setCell ⟨g, 1, none⟩ b).setCell ⟨g, 2, none⟩ c).setCell ⟨g, 3, none⟩ d).setCell ⟨g, 4, none⟩ e).setCell ⟨g, 5, none⟩ f) :=
 (((((h.set g 0 a (.inr (.inr hg))).set g 1 b (.inr (.inr hg))).set g 2 c (.inr (.inr hg))).set g 3 d (.inr (.inr hg))).set g 4 e (.inr (.inr hg))).set g 5 f (.inr (.inr hg))

theorem T2.set4 {tb bm : Nat} {w v : World} (h : T2 tb bm w v) (g : Nat) (hg : w.heap.size ≤ g) (a b c d : Value) : T2 tb bm w ((((v.setCell ⟨g, 0, none⟩ a).setCell ⟨g, 1, none⟩ b).setCell ⟨g, 2, none⟩ c).setCell ⟨g, 3, none⟩ d) :=
 (((h.set g 0 a (.inr (.inr hg))).set g 1 b (.inr (.inr hg))).set g 2 c (.inr (.inr hg))).set g 3 d (.inr (.inr hg))

theorem try_no (F : M.Fm) (kd : Int) (ng : Bool) (a : Option Addr) (n c : Nat) (ex k W : Int) (w : World) (tb bm : Nat)
 (kF : ∀ v : World, Calls Tryz.prog 46 #[.agg #[.int .i64 kd, .bool ng, .slice a n c, .int .i64 ex]] v fun e w' => e = .returned (.int .i64 k) ∧ Below v.heap.size v w')
 (kE : ∀ v : World, Calls Tryz.prog 45 #[.pointer (some ⟨tb, 0, none⟩), .int .i64 k, .int .i64 W] v fun e w' => e = .returned (.agg #[.int .i64 0, .int .i64 0, .int .u64 0, .int .u64 0, .int .i64 0, .bool false, .bool false]) ∧ Below v.heap.size v w') :
 Calls Tryz.prog 22 #[.pointer (some ⟨tb, 0, none⟩), .agg #[.int .i64 (F.p : Int), .int .i64 (1 - (F.emax : Int)), .int .i64 (F.emax : Int), .int .i64 (F.wd : Int), .int .i64 (F.e : Int), .bool F.x], .agg #[.int .i64 kd, .bool ng, .slice a n c, .int .i64 ex], .int .i64 W] w fun e w' => e = .returned (.agg #[.int .u64 0, .int .u64 0, .int .i64 0, .int .i64 0, .int .i64 0, .bool false]) ∧ Below w.heap.size w w' := by
 obtain ⟨cd, cx, cr, b0⟩ := Cls.new3 w #[.int .i64 (F.p : Int), .int .i64 (1 - (F.emax : Int)), .int .i64 (F.emax : Int), .int .i64 (F.wd : Int), .int .i64 (F.e : Int), .bool F.x] #[.int .i64 kd, .bool ng, .slice a n c, .int .i64 ex] #[.int .u64 0, .int .u64 0, .int .i64 0, .int .i64 0, .int .i64 0, .bool false] 61 36 29
 go_enter Tryz.func22, Tryz.ntmps22
 go_wp2_with fail
 refine (kF _).mono ?_
 rintro e v1 ⟨rfl, hb⟩
 replace b0 := b0.trans (hb.mono b0.size)
 replace cr := cr.below hb
 clear hb
 go_wp2_with fail
 refine (kE _).mono ?_
 rintro e v2 ⟨rfl, hb⟩
 replace b0 := b0.trans (hb.mono b0.size)
 replace cr := cr.below hb
 clear hb
 have lg := cr.lt
 go_upto_region 3 with fail
 have hb : Below v2.heap.size v2 (v2.alloc (.cells #[.int .i64 0, .int .i64 0, .int .u64 0, .int .u64 0, .int .i64 0, .bool false, .bool false] 41)) := (Below.refl _ _).alloc (Nat.le_refl _) _
 replace b0 := b0.trans (hb.mono b0.size)
 replace cr := cr.below hb
 generalize v2.alloc (.cells #[.int .i64 0, .int .i64 0, .int .u64 0, .int .u64 0, .int .i64 0, .bool false, .bool false] 41) = v3 at *
 clear hb
 have z0 := cr.cell 0 rfl; have z1 := cr.cell 1 rfl; have z2 := cr.cell 2 rfl; have z3 := cr.cell 3 rfl; have z4 := cr.cell 4 rfl; have z5 := cr.cell 5 rfl
 have y0 := cr.frozen 0; have y1 := cr.frozen 1; have y2 := cr.frozen 2; have y3 := cr.frozen 3; have y4 := cr.frozen 4; have y5 := cr.frozen 5
 have HB := hid b0
 clear b0 cr
 go_wp2_with fail
 exact bodyPost_ret (v := .agg #[.int .u64 0, .int .u64 0, .int .i64 0, .int .i64 0, .int .i64 0, .bool false]) (by simp [results, Tryz.results22, go_sem, z0, z1, z2, z3, z4, z5]) rfl ⟨rfl, belowT HB.out _ (by omega) _ _ _ _ _ _⟩

def Spv (tb bm : Nat) (k W : Int) (V : Value) (w0 : World) (A B : Nat) (E : Int) (s : Value) (wx : World) : Prop :=
 ∃ (gs : Nat) (oa : Option Addr) (oc : Nat) (ob : Option Addr) (od : Nat), s = .pointer (some ⟨gs, 0, none⟩) ∧ w0.heap.size ≤ gs ∧ Cls wx gs #[.slice oa (L A).length oc, .slice ob (L B).length od, .int .i64 E, .bool true] 47 ∧ Rd wx oa (L A) ∧ Rd wx ob (L B) ∧ (Apart oa (L A) gs ∧ Apart oa (L A) tb ∧ Apart oa (L A) bm) ∧ T2 tb bm w0 wx ∧ Full wx tb bm k W V

theorem Own.aside {v : World} {lo hi : Nat} {ao : Option Addr} {cap : Nat} {r : List Nat} {g : Nat} (h : Own v lo hi ao cap r) (hg : hi ≤ g ∨ g < lo) : Apart ao r g := by
 intro hp b2 o2 e
 have := h.place b2 (by rw [e]; rfl)
 omega

theorem Spv.put {tb bm : Nat} {k W : Int} {V : Value} {w0 u v : World} {A B : Nat} {E : Int} {oa ob : Option Addr} {oc od m1 gs : Nat} (h0 : T2 tb bm w0 v) (hF : Full v tb bm k W V) (hg : w0.heap.size ≤ gs) (hgu : gs < u.heap.size) (hu : T2 tb bm u v) (hm : u.heap.size ≤ m1) (hc : Cls v gs #[.slice none 0 0, .slice none 0 0, .int .i64 0, .bool false] 47) (hA : Own v u.heap.size m1 oa oc (L A)) (hB : Own v m1 v.heap.size ob od (L B)) (n1 : gs ≠ tb) (n2 : gs ≠ bm) (k1 : tb < u.heap.size) (k2 : bm < u.heap.size) :
 Spv tb bm k W V w0 A B E (.pointer (some ⟨gs, 0, none⟩)) ((((v.setCell ⟨gs, 0, none⟩ (.slice oa (L A).length oc)).setCell ⟨gs, 1, none⟩ (.slice ob (L B).length od)).setCell ⟨gs, 2, none⟩ (.int .i64 E)).setCell ⟨gs, 3, none⟩ (.bool true)) :=
 ⟨gs, oa, oc, ob, od, rfl, hg, Cls.set (Cls.set (Cls.set (Cls.set hc 0 (.slice oa (L A).length oc) _ rfl) 1 (.slice ob (L B).length od) _ rfl) 2 (.int .i64 E) _ rfl) 3 (.bool true) _ rfl, (hA.set4 (.inr hgu) _ _ _ _).rd, (hB.set4 (.inr (by omega)) _ _ _ _).rd, ⟨hA.aside (.inr hgu), hA.aside (.inr k1), hA.aside (.inr k2)⟩, h0.set4 gs hg _ _ _ _, (((hF.set gs 0 _ n1 n2).set gs 1 _ n1 n2).set gs 2 _ n1 n2).set gs 3 _ n1 n2⟩

theorem Spv.new {tb bm : Nat} {k W : Int} {V : Value} {w0 u v : World} {A B : Nat} {E : Int} {oa ob : Option Addr} {oc od m1 : Nat} (h0 : T2 tb bm w0 v) (hF : Full v tb bm k W V) (hm2 : m1 ≤ v.heap.size) (hA : Own v u.heap.size m1 oa oc (L A)) (hB : Own v m1 v.heap.size ob od (L B)) (k1 : tb < u.heap.size) (k2 : bm < u.heap.size) :
 Spv tb bm k W V w0 A B E (.pointer (some ⟨v.heap.size, 0, none⟩)) (v.alloc (.cells #[.slice oa (L A).length oc, .slice ob (L B).length od, .int .i64 E, .bool true] 47)) :=
 have hb : Below v.heap.size v (v.alloc (.cells #[.slice oa (L A).length oc, .slice ob (L B).length od, .int .i64 E, .bool true] 47)) := (Below.refl _ _).alloc (Nat.le_refl _) _
 ⟨v.heap.size, oa, oc, ob, od, rfl, h0.size, Cls.new v _ _, hA.rd.below hb, hB.rd.below hb, ⟨hA.aside (.inl hm2), hA.aside (.inr k1), hA.aside (.inr k2)⟩, h0.keep hb, hF.below hb⟩

theorem RdB.two {tb bm : Nat} {w v : World} {a : Option Addr} {bs : List Nat} (h : T2 tb bm w v) (hr : RdB w a bs) (n1 : ∀ b o, a = some ⟨b, o, none⟩ → b ≠ tb) (n2 : ∀ b o, a = some ⟨b, o, none⟩ → b ≠ bm) : RdB v a bs := by
 refine ⟨hr.1, fun hp => ?_⟩
 obtain ⟨b, o, e, hc⟩ := hr.2 hp
 refine ⟨b, o, e, fun i hi => ?_⟩
 have hci := hc i hi
 have hl : b < w.heap.size := World.block_lt_of_cell? w _ hci
 rw [← hci]
 exact World.cell?_of_block (w := w) (a := ⟨b, o + i, none⟩) (h.block b hl (n1 b o e) (n2 b o e))

theorem T2.rdB {tb bm : Nat} {w v : World} {a : Option Addr} {bs : List Nat} (h : T2 tb bm w v) (hr : RdB w a bs) (n1 : ∀ b o, a = some ⟨b, o, none⟩ → b ≠ tb) (n2 : ∀ b o, a = some ⟨b, o, none⟩ → b ≠ bm) : RdB v a bs := RdB.two h hr n1 n2

theorem T2.rd {tb bm : Nat} {w v : World} {ao : Option Addr} {xs : List Nat} (h : T2 tb bm w v) (hr : Rd w ao xs) (s1 : Apart ao xs tb) (s2 : Apart ao xs bm) : Rd v ao xs := by
 intro hp
 obtain ⟨b, o, e, hc⟩ := hr hp
 refine ⟨b, o, e, fun i hi => ?_⟩
 have hci := hc i hi
 have hl : b < w.heap.size := World.block_lt_of_cell? w _ hci
 rw [← hci]
 exact World.cell?_of_block (w := w) (a := ⟨b, o + i, none⟩) (h.block b hl (s1 hp b o e) (s2 hp b o e))

theorem fld_hi (a b : Option Addr) (n c m d : Nat) (e : Int) (x : Bool) (v : World) : Sem.run Tryz.prog (Instr.field 47 (.agg #[.slice a n c, .slice b m d, .int .i64 e, .bool x]) 1) v = .ok (.slice b m d) v := by kernel_rfl

theorem al1 (v : World) (o : Obj) : Below v.heap.size v (v.alloc o) := (Below.refl _ _).alloc (Nat.le_refl _) _

theorem try_fin (F : M.Fm) (kd : Int) (ng : Bool) (a : Option Addr) (n c : Nat) (ex k W E : Int) (T : Nat) (x : Bool) (bs : List Nat) (w : World) (tb bm : Nat) (hE : Emp w tb bm) (hr : RdB w a bs) (n1 : ∀ b o, a = some ⟨b, o, none⟩ → b ≠ tb) (n2 : ∀ b o, a = some ⟨b, o, none⟩ → b ≠ bm) (hd h2d m A Bo A2 B2 B NA NB Q2 : Nat) (h1 l1 f1 h2 l2 f2 : Int) (R : Value)
 (hw : IntKind.u64.wrap ((hd : Int) + 1) = (h2d : Int)) (hB : B = if 0 < m then B2 else Bo)
 (hy : h1 = h2 ∧ l1 = l2 ∧ f1 = f2 → R = .agg #[.int .u64 h1, .int .u64 l1, .int .i64 0, .int .i64 0, .int .i64 f1, .bool true]) (hn : ¬ (h1 = h2 ∧ l1 = l2 ∧ f1 = f2) → R = .agg #[.int .u64 0, .int .u64 0, .int .i64 0, .int .i64 0, .int .i64 0, .bool false])
 (kF : ∀ v : World, Calls Tryz.prog 46 #[.agg #[.int .i64 kd, .bool ng, .slice a n c, .int .i64 ex]] v fun e w' => e = .returned (.int .i64 k) ∧ Below v.heap.size v w')
 (kE : ∀ v : World, Emp v tb bm → Calls Tryz.prog 45 #[.pointer (some ⟨tb, 0, none⟩), .int .i64 k, .int .i64 W] v fun e w' => e = .returned (.agg #[.int .i64 k, .int .i64 W, .int .u64 (M.hiN T : Int), .int .u64 (M.loN T : Int), .int .i64 E, .bool x, .bool true]) ∧ T2 tb bm v w' ∧ Full w' tb bm k W (.agg #[.int .i64 k, .int .i64 W, .int .u64 (M.hiN T : Int), .int .u64 (M.loN T : Int), .int .i64 E, .bool x, .bool true]))
 (kH : ∀ v : World, RdB v a bs → Calls Tryz.prog 48 #[.agg #[.int .i64 kd, .bool ng, .slice a n c, .int .i64 ex]] v fun e w' => e = .returned (.int .u64 (hd : Int)) ∧ Below v.heap.size v w')
 (kC : ∀ v : World, Calls Tryz.prog 49 #[.agg #[.int .i64 kd, .bool ng, .slice a n c, .int .i64 ex]] v fun e w' => e = .returned (.int .i64 (m : Int)) ∧ Below v.heap.size v w')
 (kS1 : ∀ v : World, Full v tb bm k W (.agg #[.int .i64 k, .int .i64 W, .int .u64 (M.hiN T : Int), .int .u64 (M.loN T : Int), .int .i64 E, .bool x, .bool true]) → Calls Tryz.prog 47 #[.pointer (some ⟨tb, 0, none⟩), .int .u64 (hd : Int), (.agg #[.int .i64 k, .int .i64 W, .int .u64 (M.hiN T : Int), .int .u64 (M.loN T : Int), .int .i64 E, .bool x, .bool true])] v fun e w' => Sx tb bm v w' e (L A) (L Bo) E true ∧ Full w' tb bm k W (.agg #[.int .i64 k, .int .i64 W, .int .u64 (M.hiN T : Int), .int .u64 (M.loN T : Int), .int .i64 E, .bool x, .bool true]))
 (kS2 : ∀ v : World, Full v tb bm k W (.agg #[.int .i64 k, .int .i64 W, .int .u64 (M.hiN T : Int), .int .u64 (M.loN T : Int), .int .i64 E, .bool x, .bool true]) → Calls Tryz.prog 47 #[.pointer (some ⟨tb, 0, none⟩), .int .u64 (h2d : Int), (.agg #[.int .i64 k, .int .i64 W, .int .u64 (M.hiN T : Int), .int .u64 (M.loN T : Int), .int .i64 E, .bool x, .bool true])] v fun e w' => Sx tb bm v w' e (L A2) (L B2) E true ∧ Full w' tb bm k W (.agg #[.int .i64 k, .int .i64 W, .int .u64 (M.hiN T : Int), .int .u64 (M.loN T : Int), .int .i64 E, .bool x, .bool true]))
 (kW1 : ∀ (v : World) (ao bo : Option Addr) (cc : Nat), Rd v ao (L A) → Rd v bo [1] → Calls Tryz.prog 50 #[.agg #[.slice ao (L A).length cc, .slice bo 1 1], .int .i64 E] v fun e w' => RR v w' e NA Q2)
 (kW2 : ∀ (v : World) (ao bo : Option Addr) (cc : Nat), Rd v ao (L B) → Rd v bo [1] → Calls Tryz.prog 50 #[.agg #[.slice ao (L B).length cc, .slice bo 1 1], .int .i64 E] v fun e w' => RR v w' e NB Q2)
 (kP1 : ∀ (v : World) (ao bo : Option Addr) (cc dd : Nat), Rd v ao (L NA) → Rd v bo (L Q2) → Calls Tryz.prog 51 #[.agg #[.int .i64 (F.p : Int), .int .i64 (1 - (F.emax : Int)), .int .i64 (F.emax : Int), .int .i64 (F.wd : Int), .int .i64 (F.e : Int), .bool F.x], .bool ng, .agg #[.slice ao (L NA).length cc, .slice bo (L Q2).length dd]] v fun e w' => e = .returned (.agg #[.int .u64 h1, .int .u64 l1, .int .i64 0, .int .i64 0, .int .i64 f1]) ∧ Below v.heap.size v w')
 (kP2 : ∀ (v : World) (ao bo : Option Addr) (cc dd : Nat), Rd v ao (L NB) → Rd v bo (L Q2) → Calls Tryz.prog 51 #[.agg #[.int .i64 (F.p : Int), .int .i64 (1 - (F.emax : Int)), .int .i64 (F.emax : Int), .int .i64 (F.wd : Int), .int .i64 (F.e : Int), .bool F.x], .bool ng, .agg #[.slice ao (L NB).length cc, .slice bo (L Q2).length dd]] v fun e w' => e = .returned (.agg #[.int .u64 h2, .int .u64 l2, .int .i64 0, .int .i64 0, .int .i64 f2]) ∧ Below v.heap.size v w') :
 Calls Tryz.prog 22 #[.pointer (some ⟨tb, 0, none⟩), .agg #[.int .i64 (F.p : Int), .int .i64 (1 - (F.emax : Int)), .int .i64 (F.emax : Int), .int .i64 (F.wd : Int), .int .i64 (F.e : Int), .bool F.x], .agg #[.int .i64 kd, .bool ng, .slice a n c, .int .i64 ex], .int .i64 W] w fun e w' => e = .returned R ∧ T2 tb bm w w' := by
 have HB := hid hB; have HY := hid hy; have HN := hid hn
 clear hB hy hn
 obtain ⟨cd, cx, cr, b00⟩ := Cls.new3 w #[.int .i64 (F.p : Int), .int .i64 (1 - (F.emax : Int)), .int .i64 (F.emax : Int), .int .i64 (F.wd : Int), .int .i64 (F.e : Int), .bool F.x] #[.int .i64 kd, .bool ng, .slice a n c, .int .i64 ex] #[.int .u64 0, .int .u64 0, .int .i64 0, .int .i64 0, .int .i64 0, .bool false] 61 36 29
 have b0 : T2 tb bm w _ := T2.of b00
 have lt := hE.lt
 have lb := hE.lb
 replace hE := hE.below b00
 replace hr := hr.below b00
 clear b00
 go_enter Tryz.func22, Tryz.ntmps22
 go_wp2_with fail
 refine (kF _).mono ?_
 rintro e v1 ⟨rfl, hb⟩
 replace cd := cd.below hb
 replace cx := cx.below hb
 replace cr := cr.below hb
 replace b0 := b0.keep hb
 replace hE := hE.below hb
 replace hr := hr.below hb
 clear hb kF
 go_wp2_with fail
 refine (kE _ hE).mono ?_
 rintro e v2 ⟨rfl, ht, hF⟩
 replace cd := ht.cls cd (by omega) (by omega)
 replace cx := ht.cls cx (by omega) (by omega)
 replace cr := ht.cls cr (by omega) (by omega)
 replace b0 := b0.trans ht
 replace hr := ht.rdB hr n1 n2
 clear ht kE hE
 have lg := cr.lt
 go_upto_region 4 with fail
 have hb : Below v2.heap.size v2 (v2.alloc (.cells #[.int .i64 k, .int .i64 W, .int .u64 (M.hiN T : Int), .int .u64 (M.loN T : Int), .int .i64 E, .bool x, .bool true] 41)) := (Below.refl _ _).alloc (Nat.le_refl _) _
 have cp := Cls.new v2 #[.int .i64 k, .int .i64 W, .int .u64 (M.hiN T : Int), .int .u64 (M.loN T : Int), .int .i64 E, .bool x, .bool true] 41
 have lcp := b0.size
 replace cd := cd.below hb
 replace cx := cx.below hb
 replace cr := cr.below hb
 replace b0 := b0.keep hb
 replace hr := hr.below hb
 replace hF := hF.below hb
 generalize v2.alloc (.cells #[.int .i64 k, .int .i64 W, .int .u64 (M.hiN T : Int), .int .u64 (M.loN T : Int), .int .i64 E, .bool x, .bool true] 41) = v3 at *
 generalize v2.heap.size = gp at *
 clear hb
 have lg3 := cp.lt
 have A0 : Below v3.heap.size v3 v3.drew := (Below.refl _ _).drew
 have A1 : Below v3.heap.size v3 ((v3.alloc (.cells #[.slice none 0 0, .slice none 0 0, .int .i64 0, .bool false] 47)).drew) := ((Below.refl _ _).alloc (Nat.le_refl _) _).drew
 have A2' : Below v3.heap.size v3 (v3.drew.alloc (.cells #[.slice none 0 0, .slice none 0 0, .int .i64 0, .bool false] 47)) := ((Below.refl v3.heap.size v3).drew).alloc (Nat.le_refl _) _
 have CZ1 : Cls ((v3.alloc (.cells #[.slice none 0 0, .slice none 0 0, .int .i64 0, .bool false] 47)).drew) v3.heap.size #[.slice none 0 0, .slice none 0 0, .int .i64 0, .bool false] 47 := (Cls.new v3 _ _).below (Below.refl _ _).drew
 have CZ2 : Cls (v3.drew.alloc (.cells #[.slice none 0 0, .slice none 0 0, .int .i64 0, .bool false] 47)) v3.heap.size #[.slice none 0 0, .slice none 0 0, .int .i64 0, .bool false] 47 := Cls.new v3.drew _ _
 have T20 : T2 tb bm v3 v3.drew := T2.of A0
 have HR : ∀ v, Below v3.heap.size v3 v → RdB v a bs := fun v hv => hr.below hv
 have KB : ∀ v, T2 tb bm v3 v → (fun v : World => v.cell? ⟨w.heap.size + 1, 0, none⟩ = some (.int .i64 kd) ∧ v.cell? ⟨w.heap.size + 1, 1, none⟩ = some (.bool ng) ∧ v.cell? ⟨w.heap.size + 1, 2, none⟩ = some (.slice a n c) ∧ v.cell? ⟨w.heap.size + 1, 3, none⟩ = some (.int .i64 ex) ∧ v.cell? ⟨gp, 0, none⟩ = some (.int .i64 k) ∧ v.cell? ⟨gp, 1, none⟩ = some (.int .i64 W) ∧ v.cell? ⟨gp, 2, none⟩ = some (.int .u64 (M.hiN T : Int)) ∧ v.cell? ⟨gp, 3, none⟩ = some (.int .u64 (M.loN T : Int)) ∧ v.cell? ⟨gp, 4, none⟩ = some (.int .i64 E) ∧ v.cell? ⟨gp, 5, none⟩ = some (.bool x) ∧ v.cell? ⟨gp, 6, none⟩ = some (.bool true)) v := fun v hv => ⟨(hv.cls cx (by omega) (by omega)).cell 0 rfl, (hv.cls cx (by omega) (by omega)).cell 1 rfl, (hv.cls cx (by omega) (by omega)).cell 2 rfl, (hv.cls cx (by omega) (by omega)).cell 3 rfl, (hv.cls cp (by omega) (by omega)).cell 0 rfl, (hv.cls cp (by omega) (by omega)).cell 1 rfl, (hv.cls cp (by omega) (by omega)).cell 2 rfl, (hv.cls cp (by omega) (by omega)).cell 3 rfl, (hv.cls cp (by omega) (by omega)).cell 4 rfl, (hv.cls cp (by omega) (by omega)).cell 5 rfl, (hv.cls cp (by omega) (by omega)).cell 6 rfl⟩
 go_cut [10] (fun s wx => Spv tb bm k W (.agg #[.int .i64 k, .int .i64 W, .int .u64 (M.hiN T : Int), .int .u64 (M.loN T : Int), .int .i64 E, .bool x, .bool true]) v3 A Bo E s wx)
 case first =>
  go_region_held3 (fun v : World => v.cell? ⟨w.heap.size + 1, 0, none⟩ = some (.int .i64 kd) ∧ v.cell? ⟨w.heap.size + 1, 1, none⟩ = some (.bool ng) ∧ v.cell? ⟨w.heap.size + 1, 2, none⟩ = some (.slice a n c) ∧ v.cell? ⟨w.heap.size + 1, 3, none⟩ = some (.int .i64 ex) ∧ v.cell? ⟨gp, 0, none⟩ = some (.int .i64 k) ∧ v.cell? ⟨gp, 1, none⟩ = some (.int .i64 W) ∧ v.cell? ⟨gp, 2, none⟩ = some (.int .u64 (M.hiN T : Int)) ∧ v.cell? ⟨gp, 3, none⟩ = some (.int .u64 (M.loN T : Int)) ∧ v.cell? ⟨gp, 4, none⟩ = some (.int .i64 E) ∧ v.cell? ⟨gp, 5, none⟩ = some (.bool x) ∧ v.cell? ⟨gp, 6, none⟩ = some (.bool true)) (first | with_reducible exact KB _ T20 | with_reducible exact KB _ T21 | with_reducible exact KB _ (T2.of A1) | with_reducible exact KB _ (T2.of A2') | with_reducible exact KB _ (T2.of B1) | with_reducible exact KB _ (T2.of (keepAl2 B1 _)) | with_reducible exact KB _ (T21.keep (al1 _ _)) | (with_reducible refine KB _ (T21.set4 _ ?_ _ _ _ _) <;> omega))
   (first
     | (go_at_call 48; refine (kH _ (by first | with_reducible exact HR _ A0 | with_reducible exact HR _ A1 | with_reducible exact HR _ A2')).mono ?_; rintro e u1 ⟨rfl, hb0⟩; have B1 := keepC (w1 := v3) (by first | with_reducible exact A0 | with_reducible exact A1 | with_reducible exact A2') hb0; have lu := B1.size; have k1 : tb < u1.heap.size := (by omega); have k2 : bm < u1.heap.size := (by omega); (first | (with_reducible have z1 := CZ1.below hb0) | (with_reducible have z1 := CZ2.below hb0) | skip); clear hb0)
     | (go_at_call 47; refine (kS1 _ (by first | with_reducible exact hF.below B1 | with_reducible exact hF.below (keepAl2 B1 _))).mono ?_; rintro e u2 ⟨⟨oa, oc, ob, od, m1, rfl, q1, q2, o1, o2, t2⟩, F2⟩; (first | (with_reducible have T21 := (T2.of (tb := tb) (bm := bm) B1).trans t2) | (with_reducible have T21 := (T2.of (tb := tb) (bm := bm) (keepAl2 B1 _)).trans t2)); (first | (have z2 := t2.cls z1 (by omega) (by omega); have e0 := z2.cell 0 rfl; have e1 := z2.cell 1 rfl; have e2 := z2.cell 2 rfl; have e3 := z2.cell 3 rfl; have g0 := z2.frozen 0; have g1 := z2.frozen 1; have g2 := z2.frozen 2; have g3 := z2.frozen 3) | (have z2 := t2.cls (Cls.new u1 #[.slice none 0 0, .slice none 0 0, .int .i64 0, .bool false] 47) (by omega) (by omega); have e0 := z2.cell 0 rfl; have e1 := z2.cell 1 rfl; have e2 := z2.cell 2 rfl; have e3 := z2.cell 3 rfl; have g0 := z2.frozen 0; have g1 := z2.frozen 1; have g2 := z2.frozen 2; have g3 := z2.frozen 3) | skip)))
  all_goals go_wp2_with fail
  all_goals go_meet
  all_goals first | with_reducible exact Spv.new (u := u1) T21 F2 q2 o1 o2 k1 k2 | exact Spv.put (u := u1) T21 F2 (Nat.le_refl _) z1.lt t2 q1 z2 o1 o2 (by omega) (by omega) k1 k2 | exact Spv.put (u := u1.alloc (.cells #[.slice none 0 0, .slice none 0 0, .int .i64 0, .bool false] 47)) T21 F2 lu (by simp) t2 q1 z2 o1 o2 (by omega) (by omega) (by simp; omega) (by simp; omega)
 case rest =>
 obtain ⟨gs, oa, oc, ob, od, rfl, lgs, cs, rA, rB, sA, ht, hF'⟩ := hcut
 rename World => v4
 clear hF
 replace cd := ht.cls cd (by omega) (by omega)
 replace cx := ht.cls cx (by omega) (by omega)
 replace cr := ht.cls cr (by omega) (by omega)
 replace cp := ht.cls cp (by omega) (by omega)
 replace b0 := b0.trans ht
 replace hr := ht.rdB hr n1 n2
 have lv := ht.size
 clear ht A0 A1 A2' CZ1 CZ2 T20 HR KB kS1
 have lgs4 := cs.lt
 have x0 := cx.cell 0 rfl; have x1 := cx.cell 1 rfl; have x2 := cx.cell 2 rfl; have x3 := cx.cell 3 rfl
 go_wp2_with fail
 clear x0 x1 x2 x3
 refine (kC _).mono ?_
 rintro e v5 ⟨rfl, hb⟩
 replace cd := cd.below hb
 replace cx := cx.below hb
 replace cr := cr.below hb
 replace cp := cp.below hb
 replace b0 := b0.keep hb
 replace hr := hr.below hb
 replace hF' := hF'.below hb
 replace cs := cs.below hb
 replace rA := rA.below hb
 replace rB := rB.below hb
 have lv5 := hb.size
 clear hb kC
 go_upto_if 30 with fail
 go_cut [] (fun wx => ∃ (ob : Option Addr) (od : Nat), Cls wx gs #[.slice oa (L A).length oc, .slice ob (L B).length od, .int .i64 E, .bool true] 47 ∧ Rd wx oa (L A) ∧ Rd wx ob (L B) ∧ T2 tb bm w wx ∧ Cls wx w.heap.size #[.int .i64 (F.p : Int), .int .i64 (1 - (F.emax : Int)), .int .i64 (F.emax : Int), .int .i64 (F.wd : Int), .int .i64 (F.e : Int), .bool F.x] 61 ∧ Cls wx (w.heap.size + 1) #[.int .i64 kd, .bool ng, .slice a n c, .int .i64 ex] 36 ∧ Cls wx (w.heap.size + 1 + 1) #[.int .u64 0, .int .u64 0, .int .i64 0, .int .i64 0, .int .i64 0, .bool false] 29)
 case first =>
  by_cases hm : 0 < m
  · have hm' : (0 : Int) < (m : Int) := by omega
    have eB : B = B2 := by rw [HB.out, if_pos hm]
    have EB := hid eB; clear eB
    have fh := fld_hi
    go_upto_region 6 with fail
    have A0 : Below v5.heap.size v5 v5.drew := (Below.refl _ _).drew
    have T20 : T2 tb bm v5 v5.drew := T2.of A0
    have KB : ∀ v, T2 tb bm v5 v → (fun v : World => v.cell? ⟨w.heap.size + 1, 0, none⟩ = some (.int .i64 kd) ∧ v.cell? ⟨w.heap.size + 1, 1, none⟩ = some (.bool ng) ∧ v.cell? ⟨w.heap.size + 1, 2, none⟩ = some (.slice a n c) ∧ v.cell? ⟨w.heap.size + 1, 3, none⟩ = some (.int .i64 ex) ∧ v.cell? ⟨gp, 0, none⟩ = some (.int .i64 k) ∧ v.cell? ⟨gp, 1, none⟩ = some (.int .i64 W) ∧ v.cell? ⟨gp, 2, none⟩ = some (.int .u64 (M.hiN T : Int)) ∧ v.cell? ⟨gp, 3, none⟩ = some (.int .u64 (M.loN T : Int)) ∧ v.cell? ⟨gp, 4, none⟩ = some (.int .i64 E) ∧ v.cell? ⟨gp, 5, none⟩ = some (.bool x) ∧ v.cell? ⟨gp, 6, none⟩ = some (.bool true)) v := fun v hv => ⟨(hv.cls cx (by omega) (by omega)).cell 0 rfl, (hv.cls cx (by omega) (by omega)).cell 1 rfl, (hv.cls cx (by omega) (by omega)).cell 2 rfl, (hv.cls cx (by omega) (by omega)).cell 3 rfl, (hv.cls cp (by omega) (by omega)).cell 0 rfl, (hv.cls cp (by omega) (by omega)).cell 1 rfl, (hv.cls cp (by omega) (by omega)).cell 2 rfl, (hv.cls cp (by omega) (by omega)).cell 3 rfl, (hv.cls cp (by omega) (by omega)).cell 4 rfl, (hv.cls cp (by omega) (by omega)).cell 5 rfl, (hv.cls cp (by omega) (by omega)).cell 6 rfl⟩
    have KS : ∀ v y, T2 tb bm v5 v → (fun v : World => v.cell? ⟨w.heap.size + 1, 0, none⟩ = some (.int .i64 kd) ∧ v.cell? ⟨w.heap.size + 1, 1, none⟩ = some (.bool ng) ∧ v.cell? ⟨w.heap.size + 1, 2, none⟩ = some (.slice a n c) ∧ v.cell? ⟨w.heap.size + 1, 3, none⟩ = some (.int .i64 ex) ∧ v.cell? ⟨gp, 0, none⟩ = some (.int .i64 k) ∧ v.cell? ⟨gp, 1, none⟩ = some (.int .i64 W) ∧ v.cell? ⟨gp, 2, none⟩ = some (.int .u64 (M.hiN T : Int)) ∧ v.cell? ⟨gp, 3, none⟩ = some (.int .u64 (M.loN T : Int)) ∧ v.cell? ⟨gp, 4, none⟩ = some (.int .i64 E) ∧ v.cell? ⟨gp, 5, none⟩ = some (.bool x) ∧ v.cell? ⟨gp, 6, none⟩ = some (.bool true)) (v.setCell ⟨gs, 1, none⟩ y) := fun v y hv => ⟨((hv.cls cx (by omega) (by omega)).far ⟨gs, 1, none⟩ (by simp only; omega) y).cell 0 rfl, ((hv.cls cx (by omega) (by omega)).far ⟨gs, 1, none⟩ (by simp only; omega) y).cell 1 rfl, ((hv.cls cx (by omega) (by omega)).far ⟨gs, 1, none⟩ (by simp only; omega) y).cell 2 rfl, ((hv.cls cx (by omega) (by omega)).far ⟨gs, 1, none⟩ (by simp only; omega) y).cell 3 rfl, ((hv.cls cp (by omega) (by omega)).far ⟨gs, 1, none⟩ (by simp only; omega) y).cell 0 rfl, ((hv.cls cp (by omega) (by omega)).far ⟨gs, 1, none⟩ (by simp only; omega) y).cell 1 rfl, ((hv.cls cp (by omega) (by omega)).far ⟨gs, 1, none⟩ (by simp only; omega) y).cell 2 rfl, ((hv.cls cp (by omega) (by omega)).far ⟨gs, 1, none⟩ (by simp only; omega) y).cell 3 rfl, ((hv.cls cp (by omega) (by omega)).far ⟨gs, 1, none⟩ (by simp only; omega) y).cell 4 rfl, ((hv.cls cp (by omega) (by omega)).far ⟨gs, 1, none⟩ (by simp only; omega) y).cell 5 rfl, ((hv.cls cp (by omega) (by omega)).far ⟨gs, 1, none⟩ (by simp only; omega) y).cell 6 rfl⟩
    go_region_held3 (fun v : World => v.cell? ⟨w.heap.size + 1, 0, none⟩ = some (.int .i64 kd) ∧ v.cell? ⟨w.heap.size + 1, 1, none⟩ = some (.bool ng) ∧ v.cell? ⟨w.heap.size + 1, 2, none⟩ = some (.slice a n c) ∧ v.cell? ⟨w.heap.size + 1, 3, none⟩ = some (.int .i64 ex) ∧ v.cell? ⟨gp, 0, none⟩ = some (.int .i64 k) ∧ v.cell? ⟨gp, 1, none⟩ = some (.int .i64 W) ∧ v.cell? ⟨gp, 2, none⟩ = some (.int .u64 (M.hiN T : Int)) ∧ v.cell? ⟨gp, 3, none⟩ = some (.int .u64 (M.loN T : Int)) ∧ v.cell? ⟨gp, 4, none⟩ = some (.int .i64 E) ∧ v.cell? ⟨gp, 5, none⟩ = some (.bool x) ∧ v.cell? ⟨gp, 6, none⟩ = some (.bool true)) (first | with_reducible exact KB _ T20 | with_reducible exact KB _ T21 | with_reducible exact KB _ (T2.of B1) | with_reducible exact KS _ _ T21)
     (first
       | (go_at_call 48; refine (kH _ (hr.below A0)).mono ?_; rintro e u1 ⟨rfl, hb0⟩; have B1 := keepC (w1 := v5) A0 hb0; have lu := B1.size; clear hb0)
       | (go_at_call 47; refine (kS2 _ (hF'.below B1)).mono ?_; rintro e u2 ⟨⟨oa2, oc2, ob2, od2, m1, rfl, q1, q2, o1, o2, t2⟩, F2⟩; have T21 := (T2.of (tb := tb) (bm := bm) B1).trans t2; have z2 := T21.cls cs (by omega) (by omega); have e1 := z2.cell 1 rfl; have g1 := z2.frozen 1))
    all_goals go_wp2_with fail
    all_goals go_meet
    all_goals exact ⟨ob2, od2, by rw [EB.out]; exact Cls.set z2 1 _ _ rfl, (T21.rd rA sA.2.1 sA.2.2).apart (grown1s _ _ _ _) sA.1, by rw [EB.out]; exact (o2.grown (grown1s _ gs 1 _) (fun j h1 h2 e => by injection e; omega)).rd, (b0.trans T21).set gs 1 _ (.inr (.inr (by omega))), (T21.cls cd (by omega) (by omega)).far ⟨gs, 1, none⟩ (by simp only; omega) _, (T21.cls cx (by omega) (by omega)).far ⟨gs, 1, none⟩ (by simp only; omega) _, (T21.cls cr (by omega) (by omega)).far ⟨gs, 1, none⟩ (by simp only; omega) _⟩
  · have hm' : ¬ (0 : Int) < (m : Int) := by omega
    have eB : B = Bo := by rw [HB.out, if_neg hm]
    have EB := hid eB; clear eB
    go_wp2_with fail
    go_meet
    case rel => exact ⟨ob, od, by rw [EB.out]; exact cs, rA, by rw [EB.out]; exact rB, b0, cd, cx, cr⟩
 case rest =>
 clear sA cp hr hF' rB cs rA cd cx cr b0 ob od kH kS2
 obtain ⟨ob, od, cs, rA, rB, b0, cd, cx, cr⟩ := hcut
 rename World => v6
 have lr := cr.lt
 have s0 := cs.cell 0 rfl; have s2 := (cs.below (al1 v6 (.cells #[.int .u64 1] 23))).cell 2 rfl
 go_wp2_with fail
 clear s0 s2
 refine (kW1 _ oa _ oc (rA.below (al1 _ _)) (one_rds v6 _)).mono ?_
 rintro e v7 ⟨a1, c1, b1, d1, rfl, q1, q2, hb⟩
 replace hb := (al1 v6 (.cells #[.int .u64 1] 23)).trans (hb.mono (by simp))
 replace cd := cd.below hb
 replace cx := cx.below hb
 replace cr := cr.below hb
 replace b0 := b0.keep hb
 replace cs := cs.below hb
 replace rB := rB.below hb
 clear hb kW1 rA
 go_upto_region 8 with fail
 have hb : Below v7.heap.size v7 (v7.alloc (.cells #[.slice a1 (L NA).length c1, .slice b1 (L Q2).length d1] 99)) := (Below.refl _ _).alloc (Nat.le_refl _) _
 have cl := Cls.new v7 #[.slice a1 (L NA).length c1, .slice b1 (L Q2).length d1] 99
 have lcl := b0.size
 replace cd := cd.below hb
 replace cx := cx.below hb
 replace cr := cr.below hb
 replace b0 := b0.keep hb
 replace cs := cs.below hb
 replace rB := rB.below hb
 replace q1 := q1.below hb
 replace q2 := q2.below hb
 generalize v7.alloc (.cells #[.slice a1 (L NA).length c1, .slice b1 (L Q2).length d1] 99) = v8 at *
 generalize v7.heap.size = gl at *
 clear hb
 have s1 := cs.cell 1 rfl; have s2 := (cs.below (al1 v8 (.cells #[.int .u64 1] 23))).cell 2 rfl
 go_wp2_with fail
 clear s1 s2
 refine (kW2 _ ob _ od (rB.below (al1 _ _)) (one_rds v8 _)).mono ?_
 rintro e v9 ⟨a2, c2, b2, d2, rfl, q3, q4, hb⟩
 replace hb := (al1 v8 (.cells #[.int .u64 1] 23)).trans (hb.mono (by simp))
 replace cd := cd.below hb
 replace cx := cx.below hb
 replace cr := cr.below hb
 replace b0 := b0.keep hb
 replace cl := cl.below hb
 replace q1 := q1.below hb
 replace q2 := q2.below hb
 clear hb kW2 rB cs
 go_upto_region 9 with fail
 have hb : Below v9.heap.size v9 (v9.alloc (.cells #[.slice a2 (L NB).length c2, .slice b2 (L Q2).length d2] 99)) := (Below.refl _ _).alloc (Nat.le_refl _) _
 have ch := Cls.new v9 #[.slice a2 (L NB).length c2, .slice b2 (L Q2).length d2] 99
 have lch := b0.size
 replace cd := cd.below hb
 replace cx := cx.below hb
 replace cr := cr.below hb
 replace b0 := b0.keep hb
 replace cl := cl.below hb
 replace q1 := q1.below hb
 replace q2 := q2.below hb
 replace q3 := q3.below hb
 replace q4 := q4.below hb
 generalize v9.alloc (.cells #[.slice a2 (L NB).length c2, .slice b2 (L Q2).length d2] 99) = va at *
 generalize v9.heap.size = gh at *
 clear hb
 have d0 := cd.cell 0 rfl; have d1' := cd.cell 1 rfl; have d2' := cd.cell 2 rfl; have d3 := cd.cell 3 rfl; have d4 := cd.cell 4 rfl; have d5 := cd.cell 5 rfl; have x1 := cx.cell 1 rfl; have t0 := cl.cell 0 rfl; have t1 := cl.cell 1 rfl
 go_wp2_with fail
 clear d0 d1' d2' d3 d4 d5 x1 t0 t1
 refine (kP1 _ _ _ _ _ q1 q2).mono ?_
 rintro e vb ⟨rfl, hb⟩
 replace cd := cd.below hb
 replace cx := cx.below hb
 replace cr := cr.below hb
 replace b0 := b0.keep hb
 replace ch := ch.below hb
 replace q3 := q3.below hb
 replace q4 := q4.below hb
 clear hb kP1 cl q1 q2
 go_upto_region 10 with fail
 have hb : Below vb.heap.size vb (vb.alloc (.cells #[.int .u64 h1, .int .u64 l1, .int .i64 0, .int .i64 0, .int .i64 f1] 27)) := (Below.refl _ _).alloc (Nat.le_refl _) _
 have co := Cls.new vb #[.int .u64 h1, .int .u64 l1, .int .i64 0, .int .i64 0, .int .i64 f1] 27
 have lco := b0.size
 replace cd := cd.below hb
 replace cx := cx.below hb
 replace cr := cr.below hb
 replace b0 := b0.keep hb
 replace ch := ch.below hb
 replace q3 := q3.below hb
 replace q4 := q4.below hb
 generalize vb.alloc (.cells #[.int .u64 h1, .int .u64 l1, .int .i64 0, .int .i64 0, .int .i64 f1] 27) = vc at *
 generalize vb.heap.size = go at *
 clear hb
 have lo := co.lt
 have SV : Hid ((h1 = h2 ∧ l1 = l2 ∧ f1 = f2) ∨ ¬ (h1 = h2 ∧ l1 = l2 ∧ f1 = f2)) := hid (Classical.em _)
 have A0 : Below vc.heap.size vc vc.drew := (Below.refl _ _).drew
 have KB : ∀ v, Below vc.heap.size vc v → (fun v : World => v.cell? ⟨w.heap.size, 0, none⟩ = some (.int .i64 (F.p : Int)) ∧ v.cell? ⟨w.heap.size, 1, none⟩ = some (.int .i64 (1 - (F.emax : Int))) ∧ v.cell? ⟨w.heap.size, 2, none⟩ = some (.int .i64 (F.emax : Int)) ∧ v.cell? ⟨w.heap.size, 3, none⟩ = some (.int .i64 (F.wd : Int)) ∧ v.cell? ⟨w.heap.size, 4, none⟩ = some (.int .i64 (F.e : Int)) ∧ v.cell? ⟨w.heap.size, 5, none⟩ = some (.bool F.x) ∧ v.cell? ⟨w.heap.size + 1, 1, none⟩ = some (.bool ng) ∧ v.cell? ⟨gh, 0, none⟩ = some (.slice a2 (L NB).length c2) ∧ v.cell? ⟨gh, 1, none⟩ = some (.slice b2 (L Q2).length d2) ∧ v.cell? ⟨go, 0, none⟩ = some (.int .u64 h1) ∧ v.cell? ⟨go, 1, none⟩ = some (.int .u64 l1) ∧ v.cell? ⟨go, 2, none⟩ = some (.int .i64 0) ∧ v.cell? ⟨go, 3, none⟩ = some (.int .i64 0) ∧ v.cell? ⟨go, 4, none⟩ = some (.int .i64 f1)) v := fun v hv => ⟨(cd.below hv).cell 0 rfl, (cd.below hv).cell 1 rfl, (cd.below hv).cell 2 rfl, (cd.below hv).cell 3 rfl, (cd.below hv).cell 4 rfl, (cd.below hv).cell 5 rfl, (cx.below hv).cell 1 rfl, (ch.below hv).cell 0 rfl, (ch.below hv).cell 1 rfl, (co.below hv).cell 0 rfl, (co.below hv).cell 1 rfl, (co.below hv).cell 2 rfl, (co.below hv).cell 3 rfl, (co.below hv).cell 4 rfl⟩
 go_cut [64] (fun z wx => ∃ bq : Bool, z = .bool bq ∧ Hid ((bq = true → R = .agg #[.int .u64 0, .int .u64 0, .int .i64 0, .int .i64 0, .int .i64 0, .bool false]) ∧ (bq = false → R = .agg #[.int .u64 h1, .int .u64 l1, .int .i64 0, .int .i64 0, .int .i64 f1, .bool true])) ∧ Below vc.heap.size vc wx)
 case first =>
  by_cases e1 : h1 = h2
  · by_cases e2 : l1 = l2
    · by_cases e3 : f1 = f2
      · have EY := hid (HY.out ⟨e1, e2, e3⟩)
        subst e1 e2 e3
        go_region_held3 (fun v : World => v.cell? ⟨w.heap.size, 0, none⟩ = some (.int .i64 (F.p : Int)) ∧ v.cell? ⟨w.heap.size, 1, none⟩ = some (.int .i64 (1 - (F.emax : Int))) ∧ v.cell? ⟨w.heap.size, 2, none⟩ = some (.int .i64 (F.emax : Int)) ∧ v.cell? ⟨w.heap.size, 3, none⟩ = some (.int .i64 (F.wd : Int)) ∧ v.cell? ⟨w.heap.size, 4, none⟩ = some (.int .i64 (F.e : Int)) ∧ v.cell? ⟨w.heap.size, 5, none⟩ = some (.bool F.x) ∧ v.cell? ⟨w.heap.size + 1, 1, none⟩ = some (.bool ng) ∧ v.cell? ⟨gh, 0, none⟩ = some (.slice a2 (L NB).length c2) ∧ v.cell? ⟨gh, 1, none⟩ = some (.slice b2 (L Q2).length d2) ∧ v.cell? ⟨go, 0, none⟩ = some (.int .u64 h1) ∧ v.cell? ⟨go, 1, none⟩ = some (.int .u64 l1) ∧ v.cell? ⟨go, 2, none⟩ = some (.int .i64 0) ∧ v.cell? ⟨go, 3, none⟩ = some (.int .i64 0) ∧ v.cell? ⟨go, 4, none⟩ = some (.int .i64 f1)) (first | with_reducible exact KB _ A0 | with_reducible exact KB _ B1)
         (first | (go_at_call 51; refine (kP2 _ _ _ _ _ (q3.below A0) (q4.below A0)).mono ?_; rintro e u1 ⟨rfl, hb⟩; have B1 := keepC (w1 := vc) A0 hb; clear hb))
        all_goals go_wp2_with fail
        all_goals go_meet
        all_goals exact ⟨false, by rfl, hid ⟨fun h => (by cases h), fun _ => EY.out⟩, B1⟩
      · have EN := hid (HN.out (fun hh => e3 hh.2.2))
        subst e1 e2
        have q : (f1 == f2) = false := beq_eq_false_iff_ne.2 e3
        go_region_held3 (fun v : World => v.cell? ⟨w.heap.size, 0, none⟩ = some (.int .i64 (F.p : Int)) ∧ v.cell? ⟨w.heap.size, 1, none⟩ = some (.int .i64 (1 - (F.emax : Int))) ∧ v.cell? ⟨w.heap.size, 2, none⟩ = some (.int .i64 (F.emax : Int)) ∧ v.cell? ⟨w.heap.size, 3, none⟩ = some (.int .i64 (F.wd : Int)) ∧ v.cell? ⟨w.heap.size, 4, none⟩ = some (.int .i64 (F.e : Int)) ∧ v.cell? ⟨w.heap.size, 5, none⟩ = some (.bool F.x) ∧ v.cell? ⟨w.heap.size + 1, 1, none⟩ = some (.bool ng) ∧ v.cell? ⟨gh, 0, none⟩ = some (.slice a2 (L NB).length c2) ∧ v.cell? ⟨gh, 1, none⟩ = some (.slice b2 (L Q2).length d2) ∧ v.cell? ⟨go, 0, none⟩ = some (.int .u64 h1) ∧ v.cell? ⟨go, 1, none⟩ = some (.int .u64 l1) ∧ v.cell? ⟨go, 2, none⟩ = some (.int .i64 0) ∧ v.cell? ⟨go, 3, none⟩ = some (.int .i64 0) ∧ v.cell? ⟨go, 4, none⟩ = some (.int .i64 f1)) (first | with_reducible exact KB _ A0 | with_reducible exact KB _ B1)
         (first | (go_at_call 51; refine (kP2 _ _ _ _ _ (q3.below A0) (q4.below A0)).mono ?_; rintro e u1 ⟨rfl, hb⟩; have B1 := keepC (w1 := vc) A0 hb; clear hb))
        all_goals go_wp2_with fail
        all_goals go_meet
        all_goals exact ⟨true, by rfl, hid ⟨fun _ => EN.out, fun h => (by cases h)⟩, B1⟩
    · have EN := hid (HN.out (fun hh => e2 hh.2.1))
      subst e1
      have q : (l1 == l2) = false := beq_eq_false_iff_ne.2 e2
      go_region_held3 (fun v : World => v.cell? ⟨w.heap.size, 0, none⟩ = some (.int .i64 (F.p : Int)) ∧ v.cell? ⟨w.heap.size, 1, none⟩ = some (.int .i64 (1 - (F.emax : Int))) ∧ v.cell? ⟨w.heap.size, 2, none⟩ = some (.int .i64 (F.emax : Int)) ∧ v.cell? ⟨w.heap.size, 3, none⟩ = some (.int .i64 (F.wd : Int)) ∧ v.cell? ⟨w.heap.size, 4, none⟩ = some (.int .i64 (F.e : Int)) ∧ v.cell? ⟨w.heap.size, 5, none⟩ = some (.bool F.x) ∧ v.cell? ⟨w.heap.size + 1, 1, none⟩ = some (.bool ng) ∧ v.cell? ⟨gh, 0, none⟩ = some (.slice a2 (L NB).length c2) ∧ v.cell? ⟨gh, 1, none⟩ = some (.slice b2 (L Q2).length d2) ∧ v.cell? ⟨go, 0, none⟩ = some (.int .u64 h1) ∧ v.cell? ⟨go, 1, none⟩ = some (.int .u64 l1) ∧ v.cell? ⟨go, 2, none⟩ = some (.int .i64 0) ∧ v.cell? ⟨go, 3, none⟩ = some (.int .i64 0) ∧ v.cell? ⟨go, 4, none⟩ = some (.int .i64 f1)) (first | with_reducible exact KB _ A0 | with_reducible exact KB _ B1)
       (first | (go_at_call 51; refine (kP2 _ _ _ _ _ (q3.below A0) (q4.below A0)).mono ?_; rintro e u1 ⟨rfl, hb⟩; have B1 := keepC (w1 := vc) A0 hb; clear hb))
      all_goals go_wp2_with fail
      all_goals go_meet
      all_goals exact ⟨true, by rfl, hid ⟨fun _ => EN.out, fun h => (by cases h)⟩, B1⟩
  · have EN := hid (HN.out (fun hh => e1 hh.1))
    have q : (h1 == h2) = false := beq_eq_false_iff_ne.2 e1
    go_region_held3 (fun v : World => v.cell? ⟨w.heap.size, 0, none⟩ = some (.int .i64 (F.p : Int)) ∧ v.cell? ⟨w.heap.size, 1, none⟩ = some (.int .i64 (1 - (F.emax : Int))) ∧ v.cell? ⟨w.heap.size, 2, none⟩ = some (.int .i64 (F.emax : Int)) ∧ v.cell? ⟨w.heap.size, 3, none⟩ = some (.int .i64 (F.wd : Int)) ∧ v.cell? ⟨w.heap.size, 4, none⟩ = some (.int .i64 (F.e : Int)) ∧ v.cell? ⟨w.heap.size, 5, none⟩ = some (.bool F.x) ∧ v.cell? ⟨w.heap.size + 1, 1, none⟩ = some (.bool ng) ∧ v.cell? ⟨gh, 0, none⟩ = some (.slice a2 (L NB).length c2) ∧ v.cell? ⟨gh, 1, none⟩ = some (.slice b2 (L Q2).length d2) ∧ v.cell? ⟨go, 0, none⟩ = some (.int .u64 h1) ∧ v.cell? ⟨go, 1, none⟩ = some (.int .u64 l1) ∧ v.cell? ⟨go, 2, none⟩ = some (.int .i64 0) ∧ v.cell? ⟨go, 3, none⟩ = some (.int .i64 0) ∧ v.cell? ⟨go, 4, none⟩ = some (.int .i64 f1)) (first | with_reducible exact KB _ A0 | with_reducible exact KB _ B1)
     (first | (go_at_call 51; refine (kP2 _ _ _ _ _ (q3.below A0) (q4.below A0)).mono ?_; rintro e u1 ⟨rfl, hb⟩; have B1 := keepC (w1 := vc) A0 hb; clear hb))
    all_goals go_wp2_with fail
    all_goals go_meet
    all_goals exact ⟨true, by rfl, hid ⟨fun _ => EN.out, fun h => (by cases h)⟩, B1⟩
 case rest =>
 obtain ⟨bq, rfl, HQ, hb⟩ := hcut
 rename World => vd
 replace cr := cr.below hb
 replace b0 := b0.keep hb
 replace co := co.below hb
 clear hb KB A0 cd cx ch q3 q4 kP2
 have z0 := cr.cell 0 rfl; have z1 := cr.cell 1 rfl; have z2 := cr.cell 2 rfl; have z3 := cr.cell 3 rfl; have z4 := cr.cell 4 rfl; have z5 := cr.cell 5 rfl
 have y0 := cr.frozen 0; have y1 := cr.frozen 1; have y2 := cr.frozen 2; have y3 := cr.frozen 3; have y4 := cr.frozen 4; have y5 := cr.frozen 5
 have t0 := co.cell 0 rfl; have t1 := co.cell 1 rfl; have t2 := co.cell 2 rfl; have t3 := co.cell 3 rfl; have t4 := co.cell 4 rfl
 have HB0 := hid b0
 clear b0 cr co
 cases bq
 · go_wp2_with fail
   exact bodyPost_ret (v := .agg #[.int .u64 h1, .int .u64 l1, .int .i64 0, .int .i64 0, .int .i64 f1, .bool true]) (by simp [results, Tryz.results22, go_sem, z0, z1, z2, z3, z4, z5]) rfl ⟨by rw [HQ.out.2 (by trivial)], HB0.out.set6 _ (by omega) _ _ _ _ _ _⟩
 · go_wp2_with fail
   exact bodyPost_ret (v := .agg #[.int .u64 0, .int .u64 0, .int .i64 0, .int .i64 0, .int .i64 0, .bool false]) (by simp [results, Tryz.results22, go_sem, z0, z1, z2, z3, z4, z5]) rfl ⟨by rw [HQ.out.1 (by trivial)], HB0.out.set6 _ (by omega) _ _ _ _ _ _⟩

end Go.Proofs.YtjffpclidcloeaaGreatDoor
