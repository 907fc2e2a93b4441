import Derived.Test.YtfdgkleoaehjaaaGreatDoorsGAO
set_option maxHeartbeats 4000000
set_option maxRecDepth 10000
namespace Go.Proofs.YtfdgkleoaehjaaaGreatDoor
open Go.RowKit
set_option linter.unusedVariables false
set_option maxRecDepth 100000
def RR (w w' : World) (e : Ending) (N De : Nat) : Prop := ∃ a c b d, e = .returned (.agg #[.slice a (L N).length c, .slice b (L De).length d]) /\ Rd w' a (L N) /\ Rd w' b (L De) /\ Below w.heap.size w w'

theorem sS : aA 10 = 4 := by decide

theorem gL (m : Nat) (h : m <= 19000) : aA 10 * m <= 76800 := by rw [sS]; omega

theorem qJ {w : World} {base n cap g : Nat} {ao : Option Addr} {xs : List Value} (h : w.ownsRow base 25 1 (.slice ao n cap) n xs) (hg : g < base) : (Value.slice ao n cap).ownBlock ≠ some g := by
 rcases h.2 with ⟨he, h0⟩ | ⟨k, cap', cur, he, hk, _⟩
 . simp only [Value.slice.injEq] at he;obtain ⟨rfl, _, rfl⟩ := he
   simp [Value.ownBlock]
 . simp only [Value.slice.injEq] at he;obtain ⟨rfl, _, rfl⟩ := he
   simp [Value.ownBlock]; omega

theorem jS {w : World} {base n cap g : Nat} {ao : Option Addr} {xs : List Nat} (h : w.ownsRow base 25 1 (.slice ao n cap) n (U xs)) (hg : g < base) (u v : Value) : Rd ((w.setCell ⟨g, 0, none⟩ u).setCell ⟨g, 1, none⟩ v) ao xs :=
 Rd.own (ownsRow_setCell_other (ownsRow_setCell_other h (qJ h hg) u) (qJ h hg) v)

theorem sL (m : Nat) (w : World) (hm : m <= 19000) :
 Calls Tryz.prog 52 #[.int .i64 (m : Int)] w fun e w' => RR w w' e (10 ^ m) (1) := by
 have k1 := fun v : World => gE 10 m v (by omega) (by omega) (gL m (by omega))
 have k2 := fun v : World => gE 10 0 v (by omega) (by omega) (gL 0 (by omega))
 have hz : max (m : Int) 0 = (m : Int) := by omega
 have hz2 : max (-(m : Int)) 0 = (0 : Int) := by omega
 have b0 := (Below.refl w.heap.size w).alloc (Nat.le_refl _) (.cells #[.slice none 0 0, .slice none 0 0] 90);obtain ⟨c0, c1, z0, z1⟩ := sV w 90 (.slice none 0 0) (.slice none 0 0);have l0 : w.heap.size < (w.alloc (.cells #[.slice none 0 0, .slice none 0 0] 90)).heap.size := by simp
 go_enter Tryz.func52, Tryz.ntmps52;go_wp2_with fail;refine (k1 _).mono ?_;rintro e v1 ⟨a, c, rfl, ho1, hb1⟩;have b1 := b0.trans (hb1.mono b0.size);go_wp2_with fail;refine (k2 _).mono ?_;rintro e v2 ⟨b, d, rfl, ho2, hb2⟩;have hb3 := hb1.trans (hb2.mono hb1.size);have b2 := b1.trans (hb2.mono b1.size);have c0' : v2.cell? ⟨w.heap.size, 0, none⟩ = some (.slice none 0 0) := (hb3.cell l0).trans c0;have c1' : v2.cell? ⟨w.heap.size, 1, none⟩ = some (.slice none 0 0) := (hb3.cell l0).trans c1;have z0' : v2.frozen? ⟨w.heap.size, 0, none⟩ = false := (hb3.frozen l0).trans z0;have z1' : v2.frozen? ⟨w.heap.size, 1, none⟩ = false := (hb3.frozen l0).trans z1;have hl : w.heap.size < v1.heap.size := Nat.lt_of_lt_of_le l0 hb1.size;have q1 := jS (eL ho1 hb2) l0;have q2 := jS ho2 hl;clear ho1 ho2 c0 c1 z0 z1 hb2 hb1 hb3 b1 b0 l0 hl;go_wp2_with fail;exact bodyPost_ret (v := .agg #[.slice a (L (10 ^ m)).length c, .slice b (L (1)).length d]) (by simp [results, Tryz.results52, go_sem, c0', c1']) rfl ⟨a, c, b, d, rfl, q1 _ _, q2 _ _, (b2.setCell (p := ⟨w.heap.size, 0, none⟩) (Nat.le_refl _) _).setCell (p := ⟨w.heap.size, 1, none⟩) (Nat.le_refl _) _⟩

theorem sC (m : Nat) (w : World) (hm : m <= 19000) :
 Calls Tryz.prog 52 #[.int .i64 (-(m : Int))] w fun e w' => RR w w' e (1) (10 ^ m) := by
 have k1 := fun v : World => gE 10 0 v (by omega) (by omega) (gL 0 (by omega))
 have k2 := fun v : World => gE 10 m v (by omega) (by omega) (gL m (by omega))
 have hz : max (-(m : Int)) 0 = (0 : Int) := by omega
 have hz2 : max (-(-(m : Int))) 0 = (m : Int) := by omega
 have b0 := (Below.refl w.heap.size w).alloc (Nat.le_refl _) (.cells #[.slice none 0 0, .slice none 0 0] 90);obtain ⟨c0, c1, z0, z1⟩ := sV w 90 (.slice none 0 0) (.slice none 0 0);have l0 : w.heap.size < (w.alloc (.cells #[.slice none 0 0, .slice none 0 0] 90)).heap.size := by simp
 go_enter Tryz.func52, Tryz.ntmps52;go_wp2_with fail;refine (k1 _).mono ?_;rintro e v1 ⟨a, c, rfl, ho1, hb1⟩;have b1 := b0.trans (hb1.mono b0.size);go_wp2_with fail;refine (k2 _).mono ?_;rintro e v2 ⟨b, d, rfl, ho2, hb2⟩;have hb3 := hb1.trans (hb2.mono hb1.size);have b2 := b1.trans (hb2.mono b1.size);have c0' : v2.cell? ⟨w.heap.size, 0, none⟩ = some (.slice none 0 0) := (hb3.cell l0).trans c0;have c1' : v2.cell? ⟨w.heap.size, 1, none⟩ = some (.slice none 0 0) := (hb3.cell l0).trans c1;have z0' : v2.frozen? ⟨w.heap.size, 0, none⟩ = false := (hb3.frozen l0).trans z0;have z1' : v2.frozen? ⟨w.heap.size, 1, none⟩ = false := (hb3.frozen l0).trans z1;have hl : w.heap.size < v1.heap.size := Nat.lt_of_lt_of_le l0 hb1.size;have q1 := jS (eL ho1 hb2) l0;have q2 := jS ho2 hl;clear ho1 ho2 c0 c1 z0 z1 hb2 hb1 hb3 b1 b0 l0 hl;go_wp2_with fail;exact bodyPost_ret (v := .agg #[.slice a (L (1)).length c, .slice b (L (10 ^ m)).length d]) (by simp [results, Tryz.results52, go_sem, c0', c1']) rfl ⟨a, c, b, d, rfl, q1 _ _, q2 _ _, (b2.setCell (p := ⟨w.heap.size, 0, none⟩) (Nat.le_refl _) _).setCell (p := ⟨w.heap.size, 1, none⟩) (Nat.le_refl _) _⟩

theorem zX (v : World) (x y : Value) {g b o : Nat} (h : b ≠ g) : ((v.setCell ⟨g, 0, none⟩ x).setCell ⟨g, 1, none⟩ y).cell? ⟨b, o, none⟩ = v.cell? ⟨b, o, none⟩ :=
 World.cell?_of_block (w := v) (a := ⟨b, o, none⟩) ((Below.heap_setCell _ _ _ _ h).trans (Below.heap_setCell _ _ _ _ h))

theorem BX (a b a' b' : Option Addr) (c d n m c' d' n' m' N De N' De' : Nat) (w : World) (hl : (L N).length = n) (hm : (L De).length = m) (hl' : (L N').length = n') (hm' : (L De').length = m') (hn : n <= 1048576) (hn2 : m <= 1048576) (hn' : n' <= 1048576) (hn2' : m' <= 1048576)
 (ra : Rd w a (L N)) (rb : Rd w b (L De)) (ra' : Rd w a' (L N')) (rb' : Rd w b' (L De')) :
 Calls Tryz.prog 51 #[.agg #[.slice a n c, .slice b m d], .agg #[.slice a' n' c', .slice b' m' d']] w fun e w' => RR w w' e (N * N') (De * De') := by
 go_enter Tryz.func51, Tryz.ntmps51;go_wp2_with fail;have b1 : Below w.heap.size w (((w.alloc (.cells #[.slice a n c, .slice b m d] 90)).alloc (.cells #[.slice a' n' c', .slice b' m' d'] 90)).alloc (.cells #[.slice none 0 0, .slice none 0 0] 90)) := (((Below.refl _ _).alloc (Nat.le_refl _) _).alloc (by simp) _).alloc (by simp; omega) _;generalize hw1 : (((w.alloc (.cells #[.slice a n c, .slice b m d] 90)).alloc (.cells #[.slice a' n' c', .slice b' m' d'] 90)).alloc (.cells #[.slice none 0 0, .slice none 0 0] 90)) = w1 at *;have c0 : w1.cell? ⟨w.heap.size, 0, none⟩ = some (.slice a n c) := by rw [<- hw1]; simp [go_sem]
 have c1 : w1.cell? ⟨w.heap.size, 1, none⟩ = some (.slice b m d) := by rw [<- hw1]; simp [go_sem]
 have c2 : w1.cell? ⟨w.heap.size + 1, 0, none⟩ = some (.slice a' n' c') := by rw [<- hw1]; simp [go_sem]
 have c3 : w1.cell? ⟨w.heap.size + 1, 1, none⟩ = some (.slice b' m' d') := by rw [<- hw1]; simp [go_sem]
 have r0 : w1.cell? ⟨w.heap.size + 1 + 1, 0, none⟩ = some (.slice none 0 0) := by rw [<- hw1]; simp [go_sem]
 have r1 : w1.cell? ⟨w.heap.size + 1 + 1, 1, none⟩ = some (.slice none 0 0) := by rw [<- hw1]; simp [go_sem]
 have z0 : w1.frozen? ⟨w.heap.size + 1 + 1, 0, none⟩ = false := by rw [<- hw1]; simp [go_sem]
 have z1 : w1.frozen? ⟨w.heap.size + 1 + 1, 1, none⟩ = false := by rw [<- hw1]; simp [go_sem]
 have n1 : w.heap.size + 3 <= w1.heap.size := by rw [<- hw1]; simp
 clear hw1
 have k1 : ∀ v, Below w1.heap.size w1 v -> Calls Tryz.prog 99 #[.slice a n c, .slice a' n' c'] v fun e v' => ∃ a1 c1, e = .returned (.slice a1 (L (N * N')).length c1) /\ v'.ownsRow w1.heap.size 25 1 (.slice a1 (L (N * N')).length c1) (L (N * N')).length (U (L (N * N'))) /\ Below w1.heap.size w1 v' := fun v hv => (oC a a' n n' c c' N N' v hl hl' hn hn' ((ra.below b1).below hv) ((ra'.below b1).below hv)).mono fun e v' ⟨a1, c1, he, ho, hb⟩ => ⟨a1, c1, he, aP ho hv.size, nL hv hb⟩
 have k2 : ∀ v a1 c1, Below w1.heap.size w1 v -> v.ownsRow w1.heap.size 25 1 (.slice a1 (L (N * N')).length c1) (L (N * N')).length (U (L (N * N'))) -> Calls Tryz.prog 99 #[.slice b m d, .slice b' m' d'] v fun e v' => ∃ a2 c2, e = .returned (.slice a2 (L (De * De')).length c2) /\ (∀ x y, Rd ((v'.setCell ⟨w.heap.size + 1 + 1, 0, none⟩ x).setCell ⟨w.heap.size + 1 + 1, 1, none⟩ y) a1 (L (N * N')) /\ Rd ((v'.setCell ⟨w.heap.size + 1 + 1, 0, none⟩ x).setCell ⟨w.heap.size + 1 + 1, 1, none⟩ y) a2 (L (De * De'))) /\ v'.cell? ⟨w.heap.size + 1 + 1, 0, none⟩ = some (.slice none 0 0) /\ v'.cell? ⟨w.heap.size + 1 + 1, 1, none⟩ = some (.slice none 0 0) /\ v'.frozen? ⟨w.heap.size + 1 + 1, 0, none⟩ = false /\ v'.frozen? ⟨w.heap.size + 1 + 1, 1, none⟩ = false /\ Below w1.heap.size w1 v' := fun v a1 c1 hv ho1 => (oC b b' m m' d d' De De' v hm hm' hn2 hn2' ((rb.below b1).below hv) ((rb'.below b1).below hv)).mono fun e v' ⟨a2, c2, he, ho, hb⟩ => ⟨a2, c2, he, fun x y => ⟨jS (eL ho1 hb) (by omega) x y, jS ho (by have := hv.size; omega) x y⟩, ((nL hv hb).cell (by simp only; omega)).trans r0, ((nL hv hb).cell (by simp only; omega)).trans r1, ((nL hv hb).frozen (by simp only; omega)).trans z0, ((nL hv hb).frozen (by simp only; omega)).trans z1, nL hv hb⟩
 have D1 : ∀ v, Below w1.heap.size w1 v -> (fun v => v.cell? ⟨w.heap.size, 0, none⟩ = some (.slice a n c) /\ v.cell? ⟨w.heap.size, 1, none⟩ = some (.slice b m d) /\ v.cell? ⟨w.heap.size + 1, 0, none⟩ = some (.slice a' n' c') /\ v.cell? ⟨w.heap.size + 1, 1, none⟩ = some (.slice b' m' d')) v := fun v hv => ⟨(hv.cell (by simp only; omega)).trans c0, (hv.cell (by simp only; omega)).trans c1, (hv.cell (by simp only; omega)).trans c2, (hv.cell (by simp only; omega)).trans c3⟩
 have D2 : ∀ v x y, Below w1.heap.size w1 v -> (fun v => v.cell? ⟨w.heap.size, 0, none⟩ = some (.slice a n c) /\ v.cell? ⟨w.heap.size, 1, none⟩ = some (.slice b m d) /\ v.cell? ⟨w.heap.size + 1, 0, none⟩ = some (.slice a' n' c') /\ v.cell? ⟨w.heap.size + 1, 1, none⟩ = some (.slice b' m' d')) ((v.setCell ⟨w.heap.size + 1 + 1, 0, none⟩ x).setCell ⟨w.heap.size + 1 + 1, 1, none⟩ y) := fun v x y hv => ⟨((zX v x y (by omega)).trans (hv.cell (by simp only; omega))).trans c0, ((zX v x y (by omega)).trans (hv.cell (by simp only; omega))).trans c1, ((zX v x y (by omega)).trans (hv.cell (by simp only; omega))).trans c2, ((zX v x y (by omega)).trans (hv.cell (by simp only; omega))).trans c3⟩
 clear c0 c1 c2 c3 r0 r1 z0 z1 ra rb ra' rb' hl hm hl' hm'
 go_region_held3 (fun v => v.cell? ⟨w.heap.size, 0, none⟩ = some (.slice a n c) /\ v.cell? ⟨w.heap.size, 1, none⟩ = some (.slice b m d) /\ v.cell? ⟨w.heap.size + 1, 0, none⟩ = some (.slice a' n' c') /\ v.cell? ⟨w.heap.size + 1, 1, none⟩ = some (.slice b' m' d')) (first | exact D1 _ (by assumption) | exact D1 _ ((Below.refl _ _).drew) | exact D2 _ _ _ (by assumption))
  (first | (have hq := hb1; go_at_call 99; refine (k2 _ _ _ hq ho1).mono ?_; rintro e w' ⟨ao2, ca2, rfl, hRd, f0, f1, f2, f3, hb2⟩; clear hb1 hq ho1) | (go_at_call 99; refine (k1 _ (Below.refl _ _).drew).mono ?_; rintro e w' ⟨ao1, ca1, rfl, ho1, hb1⟩))
 all_goals go_wp2_with fail
 all_goals exact bodyPost_ret (v := .agg #[.slice ao1 (L (N * N')).length ca1, .slice ao2 (L (De * De')).length ca2]) (by simp [results, Tryz.results51, go_sem, f0, f1]) rfl ⟨ao1, ca1, ao2, ca2, rfl, (hRd _ _).1, (hRd _ _).2, ((b1.trans (hb2.mono b1.size)).setCell (by simp only; omega) _).setCell (by simp only; omega) _⟩

theorem wT (F : M.Fm) (kd : Int) (ng : Bool) (a : Option Addr) (dl cc : Nat) (ex E : Int) (h l cd off fl : Int) (w : World) (D P Q : Nat) (hE : E = max (min ex 5200) (-5200 - (dl : Int))) (hdl : dl <= 10000) (lD : (L D).length <= 1048576) (lP : (L P).length <= 1048576) (lQ : (L Q).length <= 1048576)
 (kN : ∀ v : World, Below w.heap.size w v -> Calls Tryz.prog 49 #[.slice a dl cc] v fun e w' => Ret v w' e (L D))
 (kT : ∀ v : World, Calls Tryz.prog 52 #[.int .i64 E] v fun e w' => RR v w' e P Q)
 (kP : ∀ (v : World) (a1 b1 : Option Addr) (c1 d1 : Nat), Rd v a1 (L (D * P)) -> Rd v b1 (L Q) -> Calls Tryz.prog 50 #[dv F, .bool ng, .agg #[.slice a1 (L (D * P)).length c1, .slice b1 (L Q).length d1]] v fun e w' => e = .returned (.agg #[.int .u64 h, .int .u64 l, .int .i64 cd, .int .i64 off, .int .i64 fl]) /\ Below v.heap.size v w') :
 Calls Tryz.prog 18 #[.agg #[.int .i64 kd, .bool ng, .slice a dl cc, .int .i64 ex], dv F] w fun e w' => e = .returned (.agg #[.int .u64 h, .int .u64 l, .int .i64 cd, .int .i64 off, .int .i64 fl]) /\ Below w.heap.size w w' := by
 simp only [dv] at kP |-;have HE := hid hE; clear hE;obtain ⟨cx, cd', cr, b0⟩ := Cls.new3 w #[.int .i64 kd, .bool ng, .slice a dl cc, .int .i64 ex] #[.int .i64 (F.p : Int), .int .i64 (1 - (F.emax : Int)), .int .i64 (F.emax : Int), .int .i64 (F.wd : Int), .int .i64 (F.e : Int), .bool F.x] aX 32 37 29;go_enter Tryz.func18, Tryz.ntmps18;go_wp2_with fail;rw [<- HE.out];refine (kN _ b0).mono ?_;rintro e v1 ⟨a1, c1, rfl, ho, hb⟩;replace b0 := b0.trans (hb.mono b0.size);replace cx := cx.below hb;replace cd' := cd'.below hb;replace cr := cr.below hb;have rA := Rd.own ho;clear ho hb;go_upto_region 4 with fail;obtain ⟨co, cv, hb⟩ := Cls.new2 v1 #[.int .u64 1] #[.slice a1 (L D).length c1, .slice (some ⟨v1.heap.size, 0, none⟩) 1 1] 25 90;have lgv : w.heap.size + 1 + 1 < v1.heap.size := cr.lt;replace b0 := b0.trans (hb.mono b0.size);replace cx := cx.below hb;replace cd' := cd'.below hb;replace cr := cr.below hb;replace rA := rA.below hb;clear hb;generalize ((v1.alloc (.cells #[.int .u64 1] 25)).alloc (.cells #[.slice a1 (L D).length c1, .slice (some ⟨v1.heap.size, 0, none⟩) 1 1] 90)) = v2 at *;generalize v1.heap.size = gv at *
 have rO : Rd v2 (some ⟨gv, 0, none⟩) (L 1) := by
  rw [sP];intro _
  refine ⟨gv, 0, rfl, fun i hi => ?_⟩
  have hi' : i = 0 := by simp at hi; omega
  subst hi';exact co.cell 0 rfl
 have lO : (L 1).length = 1 := by rw [sP]; rfl
 have D1 : ∀ v, Below v2.heap.size v2 v -> (fun v : World => v.cell? ⟨w.heap.size, 1, none⟩ = some (.bool ng) /\ v.cell? ⟨w.heap.size + 1, 0, none⟩ = some (.int .i64 (F.p : Int)) /\ v.cell? ⟨w.heap.size + 1, 1, none⟩ = some (.int .i64 (1 - (F.emax : Int))) /\ v.cell? ⟨w.heap.size + 1, 2, none⟩ = some (.int .i64 (F.emax : Int)) /\ v.cell? ⟨w.heap.size + 1, 3, none⟩ = some (.int .i64 (F.wd : Int)) /\ v.cell? ⟨w.heap.size + 1, 4, none⟩ = some (.int .i64 (F.e : Int)) /\ v.cell? ⟨w.heap.size + 1, 5, none⟩ = some (.bool F.x) /\ v.cell? ⟨gv + 1, 0, none⟩ = some (.slice a1 (L D).length c1) /\ v.cell? ⟨gv + 1, 1, none⟩ = some (.slice (some ⟨gv, 0, none⟩) 1 1)) v := fun v hv => ⟨(cx.below hv).cell 1 rfl, (cd'.below hv).cell 0 rfl, (cd'.below hv).cell 1 rfl, (cd'.below hv).cell 2 rfl, (cd'.below hv).cell 3 rfl, (cd'.below hv).cell 4 rfl, (cd'.below hv).cell 5 rfl, (cv.below hv).cell 0 rfl, (cv.below hv).cell 1 rfl⟩
 have K3 : ∀ (v : World) u4 u5 u6 u7 u8, (fun v : World => v.cell? ⟨w.heap.size, 1, none⟩ = some (.bool ng) /\ v.cell? ⟨w.heap.size + 1, 0, none⟩ = some (.int .i64 (F.p : Int)) /\ v.cell? ⟨w.heap.size + 1, 1, none⟩ = some (.int .i64 (1 - (F.emax : Int))) /\ v.cell? ⟨w.heap.size + 1, 2, none⟩ = some (.int .i64 (F.emax : Int)) /\ v.cell? ⟨w.heap.size + 1, 3, none⟩ = some (.int .i64 (F.wd : Int)) /\ v.cell? ⟨w.heap.size + 1, 4, none⟩ = some (.int .i64 (F.e : Int)) /\ v.cell? ⟨w.heap.size + 1, 5, none⟩ = some (.bool F.x) /\ v.cell? ⟨gv + 1, 0, none⟩ = some (.slice a1 (L D).length c1) /\ v.cell? ⟨gv + 1, 1, none⟩ = some (.slice (some ⟨gv, 0, none⟩) 1 1)) v -> (fun v : World => v.cell? ⟨w.heap.size, 1, none⟩ = some (.bool ng) /\ v.cell? ⟨w.heap.size + 1, 0, none⟩ = some (.int .i64 (F.p : Int)) /\ v.cell? ⟨w.heap.size + 1, 1, none⟩ = some (.int .i64 (1 - (F.emax : Int))) /\ v.cell? ⟨w.heap.size + 1, 2, none⟩ = some (.int .i64 (F.emax : Int)) /\ v.cell? ⟨w.heap.size + 1, 3, none⟩ = some (.int .i64 (F.wd : Int)) /\ v.cell? ⟨w.heap.size + 1, 4, none⟩ = some (.int .i64 (F.e : Int)) /\ v.cell? ⟨w.heap.size + 1, 5, none⟩ = some (.bool F.x) /\ v.cell? ⟨gv + 1, 0, none⟩ = some (.slice a1 (L D).length c1) /\ v.cell? ⟨gv + 1, 1, none⟩ = some (.slice (some ⟨gv, 0, none⟩) 1 1)) (((((v.setCell ⟨w.heap.size + 1 + 1, 0, none⟩ u4).setCell ⟨w.heap.size + 1 + 1, 1, none⟩ u5).setCell ⟨w.heap.size + 1 + 1, 2, none⟩ u6).setCell ⟨w.heap.size + 1 + 1, 3, none⟩ u7).setCell ⟨w.heap.size + 1 + 1, 4, none⟩ u8) := fun v u4 u5 u6 u7 u8 h => ⟨(cC (by omega)).trans h.1, (cC (by omega)).trans h.2.1, (cC (by omega)).trans h.2.2.1, (cC (by omega)).trans h.2.2.2.1, (cC (by omega)).trans h.2.2.2.2.1, (cC (by omega)).trans h.2.2.2.2.2.1, (cC (by omega)).trans h.2.2.2.2.2.2.1, (cC (by omega)).trans h.2.2.2.2.2.2.2.1, (cC (by omega)).trans h.2.2.2.2.2.2.2.2⟩
 have hdr : Below v2.heap.size v2 v2.drew := (Below.refl _ _).drew
 go_region_held3 (fun v : World => v.cell? ⟨w.heap.size, 1, none⟩ = some (.bool ng) /\ v.cell? ⟨w.heap.size + 1, 0, none⟩ = some (.int .i64 (F.p : Int)) /\ v.cell? ⟨w.heap.size + 1, 1, none⟩ = some (.int .i64 (1 - (F.emax : Int))) /\ v.cell? ⟨w.heap.size + 1, 2, none⟩ = some (.int .i64 (F.emax : Int)) /\ v.cell? ⟨w.heap.size + 1, 3, none⟩ = some (.int .i64 (F.wd : Int)) /\ v.cell? ⟨w.heap.size + 1, 4, none⟩ = some (.int .i64 (F.e : Int)) /\ v.cell? ⟨w.heap.size + 1, 5, none⟩ = some (.bool F.x) /\ v.cell? ⟨gv + 1, 0, none⟩ = some (.slice a1 (L D).length c1) /\ v.cell? ⟨gv + 1, 1, none⟩ = some (.slice (some ⟨gv, 0, none⟩) 1 1)) (first | (with_reducible exact D1 _ (by assumption)) | (with_reducible exact K3 _ _ _ _ _ _ (D1 _ (by assumption))))
  (first
    | (go_at_call 52; refine (kT _).mono ?_; rintro e t1 ⟨ta, tc, tb, td, rfl, rT, rQ, hbt'⟩; have hb1 := hdr.trans (hbt'.mono (Nat.le_refl _)); clear hbt')
    | (go_at_call 51; refine (BX a1 (some ⟨gv, 0, none⟩) ta tb c1 1 (L D).length 1 tc td (L P).length (L Q).length D 1 P Q _ rfl lO rfl rfl lD (by omega) lP lQ (rA.below hb1) (rO.below hb1) rT rQ).mono ?_; rintro e t2 ⟨ma, mc, mb, md, he, rM, rN, hbt'⟩; rw [Nat.one_mul] at he rN; subst he; have hb2 := hb1.trans (hbt'.mono hb1.size); clear hbt' hb1)
    | (go_at_call 50; refine (kP _ _ _ _ _ rM rN).mono ?_; rintro e t3 ⟨rfl, hbt'⟩; have hb3 := hb2.trans (hbt'.mono hb2.size); clear hbt' hb2; have r3 := cr.below hb3; have x0 := r3.cell 0 rfl; have x1 := r3.cell 1 rfl; have x2 := r3.cell 2 rfl; have x3 := r3.cell 3 rfl; have x4 := r3.cell 4 rfl; have z0 := r3.frozen 0; have z1 := r3.frozen 1; have z2 := r3.frozen 2; have z3 := r3.frozen 3; have z4 := r3.frozen 4))
 all_goals go_wp2_with fail
 all_goals exact bodyPost_ret (v := .agg #[.int .u64 h, .int .u64 l, .int .i64 cd, .int .i64 off, .int .i64 fl]) (by simp [results, Tryz.results18, go_sem, x0, x1, x2, x3, x4]) rfl ⟨rfl, dU (b0.trans (hb3.mono b0.size)) _ (by omega) _ _ _ _ _⟩

theorem BQ (f : Int) (ao : Option Addr) (n c : Nat) (w : World) (hm : Fmt w) (F : M.Fm) (kd : Int) (ng : Bool) (dl : Nat) (ex h l cd off fl : Int) (OK : World -> Option Addr -> Nat -> Prop) (okB : ∀ v v' a k, OK v a k -> Below v.heap.size v v' -> OK v' a k)
 (kS : ∀ v : World, Below w.heap.size w v -> Calls Tryz.prog 17 #[.int .i64 f, .slice ao n c] v fun e w' => ∃ a cc, e = .returned (.tuple #[.agg #[.int .i64 kd, .bool ng, .slice a dl cc, .int .i64 ex], .agg #[.int .u64 0, .int .u64 0, .int .i64 0, .int .i64 0, .int .i64 0], .bool false]) /\ OK w' a cc /\ Below v.heap.size v w')
 (kE : ∀ v : World, Fmt v -> Calls Tryz.prog 19 #[.int .i64 f] v fun e w' => e = .returned (dv F) /\ Below v.heap.size v w')
 (kR : ∀ (v : World) a cc, OK v a cc -> Calls Tryz.prog 18 #[.agg #[.int .i64 kd, .bool ng, .slice a dl cc, .int .i64 ex], dv F] v fun e w' => e = .returned (.agg #[.int .u64 h, .int .u64 l, .int .i64 cd, .int .i64 off, .int .i64 fl]) /\ Below v.heap.size v w') :
 Calls Tryz.prog 6 #[.int .i64 f, .slice ao n c] w fun e w' => e = .returned (.agg #[.int .u64 h, .int .u64 l, .int .i64 cd, .int .i64 off, .int .i64 fl]) /\ Below w.heap.size w w' := by
 simp only [dv] at kE kR;have b0 : Below w.heap.size w (w.alloc (.cells aX 29)) := (Below.refl _ _).alloc (Nat.le_refl _) _;have c0 : Cls (w.alloc (.cells aX 29)) w.heap.size aX 29 := Cls.new _ _ _;go_enter Tryz.func6, Tryz.ntmps6;go_wp2_with fail;refine (kS _ b0).mono ?_;rintro e v1 ⟨a, cc, rfl, ho, hb⟩;obtain ⟨cx, cp, hb2⟩ := Cls.new2 v1 #[.int .i64 kd, .bool ng, .slice a dl cc, .int .i64 ex] #[.int .u64 0, .int .u64 0, .int .i64 0, .int .i64 0, .int .i64 0] 32 29;have lg : w.heap.size < v1.heap.size := (c0.below hb).lt;replace ho := okB _ _ _ _ ho hb2;replace hb := hb.trans (hb2.mono hb.size);replace b0 := b0.trans (hb.mono b0.size);replace c0 := c0.below hb;clear hb hb2 cp;go_upto_region 2 with fail;generalize ((v1.alloc (.cells #[.int .i64 kd, .bool ng, .slice a dl cc, .int .i64 ex] 32)).alloc (.cells #[.int .u64 0, .int .u64 0, .int .i64 0, .int .i64 0, .int .i64 0] 29)) = v2 at *;generalize v1.heap.size = gx at *;go_wp2_with fail
 have D1 : ∀ v, Below v2.heap.size v2 v -> (fun v : World => v.cell? ⟨gx, 0, none⟩ = some (.int .i64 kd) /\ v.cell? ⟨gx, 1, none⟩ = some (.bool ng) /\ v.cell? ⟨gx, 2, none⟩ = some (.slice a dl cc) /\ v.cell? ⟨gx, 3, none⟩ = some (.int .i64 ex)) v := fun v hv => ⟨(cx.below hv).cell 0 rfl, (cx.below hv).cell 1 rfl, (cx.below hv).cell 2 rfl, (cx.below hv).cell 3 rfl⟩
 have K3 : ∀ (v : World) u4 u5 u6 u7 u8, (fun v : World => v.cell? ⟨gx, 0, none⟩ = some (.int .i64 kd) /\ v.cell? ⟨gx, 1, none⟩ = some (.bool ng) /\ v.cell? ⟨gx, 2, none⟩ = some (.slice a dl cc) /\ v.cell? ⟨gx, 3, none⟩ = some (.int .i64 ex)) v -> (fun v : World => v.cell? ⟨gx, 0, none⟩ = some (.int .i64 kd) /\ v.cell? ⟨gx, 1, none⟩ = some (.bool ng) /\ v.cell? ⟨gx, 2, none⟩ = some (.slice a dl cc) /\ v.cell? ⟨gx, 3, none⟩ = some (.int .i64 ex)) (((((v.setCell ⟨w.heap.size, 0, none⟩ u4).setCell ⟨w.heap.size, 1, none⟩ u5).setCell ⟨w.heap.size, 2, none⟩ u6).setCell ⟨w.heap.size, 3, none⟩ u7).setCell ⟨w.heap.size, 4, none⟩ u8) := fun v u4 u5 u6 u7 u8 h => ⟨(cC (by omega)).trans h.1, (cC (by omega)).trans h.2.1, (cC (by omega)).trans h.2.2.1, (cC (by omega)).trans h.2.2.2⟩
 have hdr : Below v2.heap.size v2 v2.drew := (Below.refl _ _).drew;have m0 := hm.below b0
 go_region_held3 (fun v : World => v.cell? ⟨gx, 0, none⟩ = some (.int .i64 kd) /\ v.cell? ⟨gx, 1, none⟩ = some (.bool ng) /\ v.cell? ⟨gx, 2, none⟩ = some (.slice a dl cc) /\ v.cell? ⟨gx, 3, none⟩ = some (.int .i64 ex)) (first | (with_reducible exact D1 _ (by assumption)) | (with_reducible exact K3 _ _ _ _ _ _ (D1 _ (by assumption))))
  (first
    | (go_at_call 19; refine (kE _ (m0.below hdr)).mono ?_; rintro e t1 ⟨rfl, hbt'⟩; have hb1 := hdr.trans (hbt'.mono (Nat.le_refl _)); clear hbt')
    | (go_at_call 18; refine (kR _ _ _ (okB _ _ _ _ ho hb1)).mono ?_; rintro e t3 ⟨rfl, hbt'⟩; have hb3 := hb1.trans (hbt'.mono hb1.size); clear hbt' hb1; have r3 := c0.below hb3; have x0 := r3.cell 0 rfl; have x1 := r3.cell 1 rfl; have x2 := r3.cell 2 rfl; have x3 := r3.cell 3 rfl; have x4 := r3.cell 4 rfl; have z0 := r3.frozen 0; have z1 := r3.frozen 1; have z2 := r3.frozen 2; have z3 := r3.frozen 3; have z4 := r3.frozen 4))
 all_goals go_wp2_with fail
 all_goals exact bodyPost_ret (v := .agg #[.int .u64 h, .int .u64 l, .int .i64 cd, .int .i64 off, .int .i64 fl]) (by simp [results, Tryz.results6, go_sem, x0, x1, x2, x3, x4]) rfl ⟨rfl, dU (b0.trans (hb3.mono b0.size)) _ (Nat.le_refl _) _ _ _ _ _⟩

theorem Tryz.infoY : (Tryz.prog.info? 5).map (fun i => (i.zero, i.size, i.bytes)) = some (some (.int .u8 0), 1, 1) := by kernel_rfl

def UB (xs : List Nat) : List Value := xs.map fun x : Nat => Value.int .u8 (x : Int)

theorem aN (xs : List Nat) : (UB xs).length = xs.length := by simp [UB]

theorem cQ (xs ys : List Nat) : UB (xs ++ ys) = UB xs ++ UB ys := by simp [UB]

theorem eH (xs : List Nat) (i : Nat) (h : i < xs.length) : (UB xs)[i]? = some (.int .u8 ((xs.getD i 0 : Nat) : Int)) := by
 simp [UB, List.getD_eq_getElem?_getD, List.getElem?_eq_getElem h]

theorem gQ (xs : List Nat) : ∀ u ∈ UB xs, u.oneCell' = true := by
 intro u hu; obtain ⟨_, _, rfl⟩ := List.mem_map.1 hu; rfl

def RdY (w : World) (ao : Option Addr) (xs : List Nat) : Prop :=
 0 < xs.length -> ∃ b off, ao = some ⟨b, off, none⟩ /\ ∀ i, i < xs.length -> w.cell? ⟨b, off + i, none⟩ = some (.int .u8 ((xs.getD i 0 : Nat) : Int))

theorem RdY.own {w : World} {base n cap : Nat} {ao : Option Addr} {xs : List Nat} (h : w.ownsRow base 5 1 (.slice ao n cap) n (UB xs)) : RdY w ao xs := by
 intro hp;have hl := h.1;rw [aN] at hl;rcases h.2 with ⟨he, h0⟩ | ⟨g, cap', cur, he, _, hg, _, _, _, ht⟩
 . omega
 . simp only [Value.slice.injEq] at he;obtain ⟨rfl, _, rfl⟩ := he
   refine ⟨g, 0, rfl, fun i hi => ?_⟩
   have := h.cellAt i (by omega);rw [Nat.zero_add, this, eH xs i hi]

theorem iL {w : World} {base n cap : Nat} {ao : Option Addr} {xs : List Value} (h : w.ownsRow base 5 1 (.slice ao n cap) n xs) : n <= cap := by
 rcases h.2 with ⟨he, h0⟩ | ⟨g, cap', cur, he, _, hg, hc, _⟩
 . simp at he; omega
 . simp only [Value.slice.injEq] at he;obtain ⟨_, _, rfl⟩ := he;exact hc

theorem fO {w : World} {base n cap : Nat} {ao : Option Addr} {xs : List Nat} (h : w.ownsRow base 5 1 (.slice ao n cap) n (UB xs)) : xs.length = n := by
 have := h.1; rw [aN] at this; omega

theorem dH {w : World} {base n : Nat} {v : Value} {xs : List Value} (h : w.ownsRow base 5 1 v n xs) : ∃ ao cap, v = .slice ao n cap := by
 rcases h.2 with ⟨rfl, rfl⟩ | ⟨g, cap', cur, rfl, _⟩
 . exact ⟨none, 0, rfl⟩
 . exact ⟨_, _, rfl⟩

theorem jX {w : World} {base base' n : Nat} {v : Value} {xs : List Value} (h : w.ownsRow base 5 1 v n xs) (hb : base' <= base) : w.ownsRow base' 5 1 v n xs := by
 refine ⟨h.1, ?_⟩;rcases h.2 with h' | ⟨g, cap', cur, e, hg, r⟩
 . exact .inl h'
 . exact .inr ⟨g, cap', cur, e, by omega, r⟩

theorem lH {w w' : World} {base n : Nat} {v : Value} {xs : List Value} (h : w.ownsRow base 5 1 v n xs) (hb : Below w.heap.size w w') : w'.ownsRow base 5 1 v n xs := by
 refine ⟨h.1, ?_⟩;rcases h.2 with h' | ⟨g, cap', cur, e, hg, hh, r⟩
 . exact .inl h'
 . exact .inr ⟨g, cap', cur, e, hg, by rw [hb.block g (Array.getElem?_eq_some_iff.1 hh).1]; exact hh, r⟩

theorem CA {w : World} {base n cap : Nat} {ao : Option Addr} {xs : List Value} (h : w.ownsRow base 5 1 (.slice ao n cap) n xs) (hn : 0 < n) : ∃ g, ao = some ⟨g, 0, none⟩ /\ base <= g := by
 rcases h.2 with ⟨he, h0⟩ | ⟨g, cap', cur, he, hb, _⟩
 . omega
 . simp only [Value.slice.injEq] at he;exact ⟨g, he.1, hb⟩

theorem RdB.y {w : World} {ao : Option Addr} {bs : List Nat} (h : RdB w ao bs) : RdY w ao bs := h.2

theorem RdB.of {w : World} {ao : Option Addr} {bs : List Nat} (h : RdY w ao bs) (hb : ∀ x ∈ bs, x < 256) : RdB w ao bs := ⟨hb, h⟩

def RetY (w w' : World) (e : Ending) (r : List Nat) : Prop :=
 ∃ ra rc, e = .returned (.slice ra r.length rc) /\ w'.ownsRow w.heap.size 5 1 (.slice ra r.length rc) r.length (UB r) /\ Below w.heap.size w w'

def RetR (w w' : World) (e : Ending) (r : List Nat) : Prop :=
 ∃ ra rc, e = .returned (.slice ra r.length rc) /\ RdY w' ra r /\ r.length <= rc /\ Below w.heap.size w w'

theorem RetY.toR {w w' : World} {e : Ending} {r : List Nat} (h : RetY w w' e r) : RetR w w' e r := by
 obtain ⟨ra, rc, h1, h2, h3⟩ := h;exact ⟨ra, rc, h1, RdY.own h2, iL h2, h3⟩

theorem RetR.later {w0 w w' : World} {e : Ending} {r : List Nat} (h : RetR w w' e r) (hb : Below w0.heap.size w0 w) : RetR w0 w' e r := by
 obtain ⟨ra, rc, h1, h2, h4, h3⟩ := h;exact ⟨ra, rc, h1, h2, h4, hb.trans (h3.mono hb.size)⟩

theorem bM {W : World} {base e k j : Nat} {v : Value} {xs : List Value} (h : W.ownsRow base e 1 v k xs) (hj : v.ownBlock = some j) : base <= j := by
 rcases h.2 with ⟨rfl, _⟩ | ⟨g, cap, cur, rfl, hb, _⟩
 . simp [Value.ownBlock] at hj
 . simp only [Value.ownBlock, Option.some.injEq] at hj;omega

end Go.Proofs.YtfdgkleoaehjaaaGreatDoor
