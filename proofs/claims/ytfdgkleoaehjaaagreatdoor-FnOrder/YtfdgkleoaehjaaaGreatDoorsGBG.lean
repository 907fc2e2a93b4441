import Derived.Test.YtfdgkleoaehjaaaGreatDoorsWq
import Derived.Test.YtfdgkleoaehjaaaGreatDoorsMd
import Derived.Test.YtfdgkleoaehjaaaGreatDoorsSw
set_option maxHeartbeats 8000000
set_option maxRecDepth 100000
namespace Go.Proofs.YtfdgkleoaehjaaaGreatDoor
set_option linter.unusedVariables false
set_option maxRecDepth 100000
theorem xL {x u : Nat} (hx : x < 2 ^ 128) : x * 2 ^ u < 2 ^ (128 + u) := by
 rw [Nat.pow_add];exact Nat.mul_lt_mul_of_pos_right hx (Nat.pow_pos (by omega))

def JS (F : M.Fm) (t : M.Pt) : Nat := if t.s = F.lead /\ F.qmin < t.q then 4 * t.s - 1 else 4 * t.s - 2

structure Fin (F : M.Fm) (t : M.Pt) : Prop where
 s1 : 0 < t.s
 s2 : t.s < 2 * F.lead
 q1 : F.qmin <= t.q
 q2 : t.q + F.p - 1 <= F.emax
 q3 : -16600 <= t.q
 q4 : t.q <= 16400
 s3 : t.s < 2 ^ 114
 s4 : t.c = 2 -> t.s < F.lead

theorem DV {F : M.Fm} (h : F.Ok) {t : M.Pt} (hp : F.Proper t) (hc : t.c = 2 \/ t.c = 3) : Fin F t := by
 have p1 := h.p1;have p2 := h.p2;have lp := h.leadPos;have tp := h.top2;have hq : F.qmin = 2 - (F.emax : Int) - (F.p : Int) := rfl;have l2 : F.lead <= 2 ^ 112 := Nat.pow_le_pow_right (by omega) (by omega);have := hp;unfold M.Fm.Proper at this
 constructor <;> omega

namespace M

theorem Wd.Ok.e_le {t : Wd} (h : t.Ok) : -7001 <= t.e /\ t.e <= 7039 /\ -7000 <= t.X /\ t.X <= 7000 := by
 have hN := h.N_le;have q1 := h.q1;have q2 := h.q2;have := JP (t.q - 2) (by omega) (by omega)
 show -7001 <= t.X + (t.N : Int) - 1 /\ t.X + (t.N : Int) - 1 <= 7039 /\ -7000 <= t.X /\ t.X <= 7000
 simp only [Wd.X];omega

end M

open Go.RowKit
def LU (F : M.Fm) (T : M.Pt) : M.Wd := ⟨T.s, JS F T, T.q⟩

theorem JC {F : M.Fm} (h : F.Ok) {T : M.Pt} (hf : Fin F T) : (LU F T).Ok := by
 have p1 := h.p1;have p2 := h.p2;have tp := h.top2;have hq : F.qmin = 2 - (F.emax : Int) - (F.p : Int) := rfl;have l2 : F.lead <= 2 ^ 112 := Nat.pow_le_pow_right (by omega) (by omega);obtain ⟨s1, s2, q1, q2, q3, q4, s3, s4⟩ := hf;refine ⟨s1, ?_, ?_, ?_, ?_⟩
 . show T.s < 2 ^ 113
   omega
 . show JS F T < 4 * T.s
   unfold JS; split <;> omega
 . show -16598 <= T.q
   omega
 . show T.q <= 16600
   omega

theorem LJ (a j : Nat) (x : Int) (h : a < 2 ^ j) (hj : j <= 17200) (hx : -7100 <= x) : (D (M.un a x)).length <= 1500 := by
 unfold M.un;have l1 := aJ a j 540 h (by omega);have l2 := aJ (10 ^ (-x).toNat) (4 * (-x).toNat + 1) 900 (mH _) (by omega);have := bX _ _ 540 900 l1 l2;omega

theorem LF (a j : Nat) (x : Int) (h : a < 2 ^ j) (hj : j <= 17200) (hx : x <= 7100) : (D (M.ud a x)).length <= 1500 := by
 unfold M.ud;have l1 := aJ a j 540 h (by omega);have l2 := aJ (10 ^ x.toNat) (4 * x.toNat + 1) 900 (mH _) (by omega);have := bX _ _ 540 900 l1 l2;omega

theorem CR (f : Nat) (hf : f < 4) (X : Nat) (hX : X < 2 ^ 128) (w : World) (T : M.Pt) (hT : T = (M.fm f).upk X) (hc : T.c = 2 \/ T.c = 3) (hpr : (M.fm f).Proper T) :
 Calls Tryz.prog 117 #[.int .i64 (f : Int), .agg #[.int .u64 (M.hiN X : Int), .int .u64 (M.loN X : Int)]] w fun e w' => ∃ ds x n, ((ds = [] /\ x = 0) \/ (1 <= ds.length /\ ds.length <= 100)) /\ -9000 < (ds.length : Int) + x /\ (ds.length : Int) + x < 9000 /\ ShR w w' e ds x n 0 := by
 have h := M.jA f
 have kU := fun v : World => gW f hf X hX v
 rw [<- hT] at kU;have hfi := DV h hpr hc;have hok := JC h hfi;obtain ⟨t, ht⟩ : ∃ t, t = LU (M.fm f) T := ⟨_, rfl⟩;rw [<- ht] at hok
 have kE := fun v : World => bU f hf v
 have eM : t.mid = T.s * 2 ^ 2 * 2 ^ (T.q - 2).toNat := by rw [ht]; show 4 * T.s * _ = _; rw [show 4 * T.s = T.s * 2 ^ 2 by omega]; rfl
 have eC : t.den = 2 ^ (2 - T.q).toNat := by rw [ht]; rfl
 obtain ⟨s1, s2, q1, q2, q3, q4, s3, s4⟩ := hfi;have p1 := h.p1;have p2 := h.p2;have em := h.emax_le
 have kP := fun v : World => JT (f : Int) T (M.fm f) t.den v (by omega) (by omega) (by omega) (by omega) (by omega) p2 (by omega) eC kE
 have hM : t.mid < 2 ^ (128 + (T.q - 2).toNat) := by rw [eM]; exact xL (by omega)
 have l3 : t.den < 2 ^ (128 + (2 - T.q).toNat) := by rw [eC]; exact Nat.pow_lt_pow_right (by omega) (by omega)
 obtain ⟨e1, e2, -, -⟩ := hok.e_le;have lm := LJ t.mid _ (t.e - 40 + 1) hM (by omega) (by omega);have lu := LF t.den _ (t.e - 40 + 1) l3 (by omega) (by omega);have lC := aJ _ _ 540 l3 (by omega);have lM := aJ _ _ 540 hM (by omega);have l4s := aJ (T.s * 2 ^ 2) 128 540 (by omega) (by omega);have lS := aJ T.s 128 540 (by omega) (by omega);have l6 := bZ _ _ hM;have l7 := bZ _ _ l3
 exact FD (f : Int) X T (M.fm f) t.den t.mid w (by omega) hc (by omega) (by omega) (by omega) eM hok.den_pos (by omega) (by omega) (by omega) (by omega) (by omega) (by omega) t.e (by omega) (by omega) (by omega) (by omega) (fun y => hok.ten y) kE kU kP

theorem AE {w v : World} (h : Below w.heap.size w v) {g : Nat} (hg : w.heap.size <= g) (a b c d : Value) : Below w.heap.size w ((((v.setCell ⟨g, 0, none⟩ a).setCell ⟨g, 1, none⟩ b).setCell ⟨g, 2, none⟩ c).setCell ⟨g, 3, none⟩ d) :=
 (((h.setCell (p := ⟨g, 0, none⟩) hg _).setCell (p := ⟨g, 1, none⟩) hg _).setCell (p := ⟨g, 2, none⟩) hg _).setCell (p := ⟨g, 3, none⟩) hg _

theorem pM (f : Int) (X : Nat) (T : M.Pt) (F : M.Fm) (w : World) (hp0 : F.p ≠ 0) (ng : Bool) (k : Int) (hc : (T.c = 0 /\ ng = false /\ k = 3) \/ ((T.c = 1 \/ T.c = 4 \/ T.c = 5) /\ ng = T.n /\ k = 0))
 (kE : ∀ v : World, Calls Tryz.prog 9 #[.int .i64 f] v fun e w' => e = .returned (dv F) /\ Below v.heap.size v w')
 (kU : ∀ v : World, Calls Tryz.prog 67 #[.int .i64 f, .agg #[.int .u64 (M.hiN X : Int), .int .u64 (M.loN X : Int)]] v fun e w' => e = .returned (pv T) /\ Below v.heap.size v w') :
 Calls Tryz.prog 117 #[.int .i64 f, .agg #[.int .u64 (M.hiN X : Int), .int .u64 (M.loN X : Int)]] w fun e w' => ShR w w' e [] 0 ng k := by
 obtain ⟨tc, tn, ts, tq⟩ := T;simp only [dv, pv] at *;have hp1 : ¬ (F.p : Int) = 0 := by omega
 have HC := hid hc;clear hc;have fd := fG;obtain ⟨cw, cr, b0⟩ := Cls.new2 w #[.int .u64 (M.hiN X : Int), .int .u64 (M.loN X : Int)] #[.slice none 0 0, .int .i64 0, .bool false, .int .i64 0] 27 155;go_enter Tryz.func117, Tryz.ntmps117;go_wp2_with fail;refine (kE _).mono ?_;rintro e v1 ⟨rfl, hb⟩;replace cw := cw.below hb;replace cr := cr.below hb;replace b0 := b0.trans (hb.mono b0.size);clear hb;have x0 := cw.cell 0 rfl;have x1 := cw.cell 1 rfl;go_wp2_with fail;refine (kU _).mono ?_;rintro e v2 ⟨rfl, hb⟩;have cp := Cls.new v2 #[.int .i64 tc, .bool tn, .int .u64 (M.hiN ts : Int), .int .u64 (M.loN ts : Int), .int .i64 tq] 67;have hb2 : Below v2.heap.size v2 (v2.alloc (.cells #[.int .i64 tc, .bool tn, .int .u64 (M.hiN ts : Int), .int .u64 (M.loN ts : Int), .int .i64 tq] 67)) := (Below.refl _ _).alloc (Nat.le_refl _) _;replace hb := hb.trans (hb2.mono hb.size);replace cr := cr.below hb;replace b0 := b0.trans (hb.mono b0.size);clear hb hb2 cw x0 x1;go_upto_region 4 with fail;generalize (v2.alloc (.cells #[.int .i64 tc, .bool tn, .int .u64 (M.hiN ts : Int), .int .u64 (M.loN ts : Int), .int .i64 tq] 67)) = v3 at *;generalize v2.heap.size = gp at *;have p0 := cp.cell 0 rfl;have p1 := cp.cell 1 rfl;have p2 := cp.cell 2 rfl;have p3 := cp.cell 3 rfl;have p4 := cp.cell 4 rfl;have r0 := cr.cell 0 rfl;have r1 := cr.cell 1 rfl;have r2 := cr.cell 2 rfl;have r3 := cr.cell 3 rfl;have z0 := cr.frozen 0;have z1 := cr.frozen 1;have z2 := cr.frozen 2;have z3 := cr.frozen 3;have lr : w.heap.size + 1 < v3.heap.size := cr.lt;rcases HC.out with ⟨hc, rfl, rfl⟩ | ⟨hc | hc | hc, rfl, rfl⟩
 all_goals (
  clear HC;go_wp2_with fail
  exact bodyPost_ret (v := .agg #[.slice none 0 0, .int .i64 0, .bool _, .int .i64 _]) (by simp [results, Tryz.results117, go_sem, r0, r1, r2, r3]) rfl ⟨none, 0, rfl, OwnV.nil _ _, AE b0 (by omega) _ _ _ _⟩)

theorem AY (f : Int) (hf : f < 0 \/ 4 <= f) (X : Nat) (w : World) :
 Calls Tryz.prog 117 #[.int .i64 f, .agg #[.int .u64 (M.hiN X : Int), .int .u64 (M.loN X : Int)]] w fun e w' => ShR w w' e [] 0 false 4 := by
 have kE := fun v : World => iB f v hf
 have fd := fG;obtain ⟨cw, cr, b0⟩ := Cls.new2 w #[.int .u64 (M.hiN X : Int), .int .u64 (M.loN X : Int)] #[.slice none 0 0, .int .i64 0, .bool false, .int .i64 0] 27 155;go_enter Tryz.func117, Tryz.ntmps117;go_wp2_with fail;refine (kE _).mono ?_;rintro e v1 ⟨rfl, hb⟩;replace cr := cr.below hb;replace b0 := b0.trans (hb.mono b0.size);clear hb cw;have r0 := cr.cell 0 rfl;have r1 := cr.cell 1 rfl;have r2 := cr.cell 2 rfl;have r3 := cr.cell 3 rfl;have z0 := cr.frozen 0;have z1 := cr.frozen 1;have z2 := cr.frozen 2;have z3 := cr.frozen 3;have lr : w.heap.size + 1 < v1.heap.size := cr.lt;go_wp2_with fail;exact bodyPost_ret (v := .agg #[.slice none 0 0, .int .i64 0, .bool false, .int .i64 4]) (by simp [results, Tryz.results117, go_sem, r0, r1, r2, r3]) rfl ⟨none, 0, rfl, OwnV.nil _ _, AE b0 (by omega) _ _ _ _⟩

theorem IM {F : M.Fm} (h : F.Ok) (t : M.Pt) : vU F t < 2 ^ 128 := by
 unfold vU
 by_cases hp : F.Proper t
 . rw [if_pos hp];exact Nat.lt_of_lt_of_le (h.upk_pk t hp).2 h.width.2.2
 . rw [if_neg hp]; exact Nat.pow_pos (by omega)

theorem tV (f : Int) {w0 v : World} {ao : Option Addr} {n c : Nat} {bs : List Nat} (hl : bs.length = n) (hn : n <= 1048576) (hb : RdB w0 ao bs) (h : Rs w0 v ao n c) :
 Calls Tryz.prog 88 #[.pointer (some ⟨w0.heap.size, 0, none⟩), .int .i64 f] v fun e v' => ∃ X : Nat, X < 2 ^ 128 /\ e = .returned (.agg #[.int .u64 (M.hiN X : Int), .int .u64 (M.loN X : Int)]) /\ Rs w0 v' ao n c := by
 obtain ⟨k, hk, hf⟩ : ∃ k : Nat, k < 4 /\ ((f < 0 \/ 4 <= f) /\ k = 1 \/ f = (k : Int)) := by
  by_cases hf : f < 0 \/ 4 <= f
  . exact ⟨1, by omega, .inl ⟨hf, rfl⟩⟩
  . exact ⟨f.toNat, by omega, .inr (by omega)⟩
 have ok := M.jA k
 have kE := fun u : World => bU k hk u
 have kP := fun (cl : Int) (ng : Bool) (s : Nat) (q : Int) (u : World) (hs : s < 2 ^ 128) (h1 : -1000000 <= q) (h2 : q <= 1000000) => (nQ k hk cl ng s hs q (by omega) (by omega) u).mono (fun e u' g => (⟨_, _, IM ok _, g.1, g.2⟩ : ∃ (Y : Nat) (o : Bool), Y < 2 ^ 128 /\ e = .returned (.tuple #[.agg #[.int .u64 (M.hiN Y : Int), .int .u64 (M.loN Y : Int)], .bool o]) /\ Below u.heap.size u u'))
 simp only [dv] at kE;have p1 := ok.p1; have p2 := ok.p2; have hwd := ok.w
 have hem : (M.fm k).emax <= 16383 /\ 1 <= (M.fm k).emax := by
  have e2 := ok.e2;have e1 := ok.e1;unfold M.Fm.emax;have a : 2 ^ ((M.fm k).e - 1) <= 2 ^ 14 := Nat.pow_le_pow_right (by omega) (by omega);have b : 2 ^ 7 <= 2 ^ ((M.fm k).e - 1) := Nat.pow_le_pow_right (by omega) (by omega);omega
 rcases hf with ⟨hf, rfl⟩ | rfl
 . generalize M.fm 1 = F at *
   exact DI F.p (F.p - 1) F.wd (129 - F.p) f 1 (1 - (F.emax : Int)) F.emax F.e _ (F.emax - (1 - (F.emax : Int)) + 1) F.x hl hn hb h (by omega) (by omega) (by omega) (by omega) hwd rfl rfl (by omega) (by omega) (by omega) (by omega) 0 0 0 0 0 false (fun u => iB f u hf) (Or.inr ⟨rfl, kE, rfl⟩) kP
 . generalize M.fm k = F at *;exact DI F.p (F.p - 1) F.wd (129 - F.p) k k (1 - (F.emax : Int)) F.emax F.e _ (F.emax - (1 - (F.emax : Int)) + 1) F.x hl hn hb h (by omega) (by omega) (by omega) (by omega) hwd rfl rfl (by omega) (by omega) (by omega) (by omega) _ _ _ _ _ _ kE (Or.inl ⟨rfl, rfl, rfl, rfl, rfl, rfl, rfl⟩) kP

theorem wN (f : Int) (X : Nat) (v : World) (hX : X < 2 ^ 128) : Calls Tryz.prog 87 #[.int .i64 f, .agg #[.int .u64 (M.hiN X : Int), .int .u64 (M.loN X : Int)]] v fun e v' => PrP v v' e := by
 by_cases hf : 0 <= f /\ f < 4
 . obtain ⟨k, rfl⟩ : ∃ k : Nat, f = (k : Int) := ⟨f.toNat, by omega⟩;have hk : k < 4 := by omega
   have h' := M.jA k;obtain ⟨T, hT⟩ : ∃ T, T = (M.fm k).upk X := ⟨_, rfl⟩;have hp := h'.upk_proper X;rw [<- hT] at hp;have hp0 : (M.fm k).p ≠ 0 := by have := h'.p1; omega
   have sE := fun v : World => bU k hk v
   have sU := fun v : World => gW k hk X hX v
   rw [<- hT] at sU
   by_cases hc : T.c = 2 \/ T.c = 3
   . have hpr : (M.fm k).Proper T := by
      rcases hp with hp | hp
      . rw [hp] at hc; simp at hc
      . exact hp
     have kS := fun v : World => CR k hk X hX v T hT hc hpr
     have c1 : (T.c : Int) ≠ 1 := by omega
     have c4 : (T.c : Int) ≠ 4 := by omega
     have c5 : (T.c : Int) ≠ 5 := by omega
     refine vP _ _ _ _ _ _ _ _ v (fun u => (kS u).mono ?_) sU
     rintro e w' ⟨d, x, n, g1, g2, g3, g4⟩;exact ⟨d, x, n, .inr ⟨c5, .inr (.inr ⟨c1, c4, g1, g2, g3⟩)⟩, g4⟩
   . have hcc : T.c = 0 \/ T.c = 1 \/ T.c = 4 \/ T.c = 5 := by
      rcases hp with hp | hp
      . rw [hp]; exact .inl rfl
      . unfold M.Fm.Proper at hp; omega
     by_cases hc0 : T.c = 0
     . exact qL _ _ _ v 3 (by decide) (fun u => pM (k : Int) X T (M.fm k) u hp0 false 3 (.inl ⟨hc0, rfl, rfl⟩) sE sU)
     have hcx : T.c = 1 \/ T.c = 4 \/ T.c = 5 := by omega
     have kS := fun v : World => pM (k : Int) X T (M.fm k) v hp0 T.n 0 (.inr ⟨hcx, rfl, rfl⟩) sE sU
     exact vP _ _ _ _ _ _ _ _ v (fun u => (kS u).mono (fun e w' g => ⟨[], 0, T.n, (show T.c = 5 \/ T.c ≠ 5 /\ (T.c = 4 \/ T.c = 1 \/ T.c ≠ 1 /\ T.c ≠ 4 /\ _) by omega), g⟩)) sU
 . have hn : f < 0 \/ 4 <= f := by omega
   exact qL _ _ _ v 4 (by decide) (fun u => AY f hn X u)

theorem xH (f : Int) {w0 v : World} {ao : Option Addr} {n c : Nat} {bs : List Nat} (hl : bs.length = n) (hn : n <= 1048576) (hb : RdB w0 ao bs) (h : Rs w0 v ao n c) :
 Calls Tryz.prog 89 #[.pointer (some ⟨w0.heap.size, 0, none⟩), .int .i64 f] v fun e v' => TxA w0 ao n c e v' := by
 obtain ⟨k, hk, hf⟩ : ∃ k : Nat, k < 4 /\ ((f < 0 \/ 4 <= f) /\ (k : Int) = 0 \/ (0 <= f /\ f < 4) /\ (k : Int) = f) := by
  by_cases hf : f < 0 \/ 4 <= f
  . exact ⟨0, by omega, .inl ⟨hf, rfl⟩⟩
  . exact ⟨f.toNat, by omega, .inr (by omega)⟩
 have ok := M.jA k;have p1 := ok.p1;have p2 := ok.p2;have em := ok.emax_le
 have kE := fun v : World => bU k hk v
 refine yI f (k : Int) (M.fm k) hl hn hb h (by omega) (by omega) hf (fun v hv => tV (k : Int) hl hn hb hv) (fun X v hX => (gW k hk X hX v).mono ?_) kE (fun cl ng s q v h1 h2 h3 h4 => FZ (k : Int) ⟨cl, ng, s, q⟩ (M.fm k) _ v h1 h2 (show -16700 <= q by omega) (show q <= 16700 by omega) (by omega) p2 (by omega) rfl kE)
 rintro e w' ⟨rfl, hb'⟩
 refine ⟨_, _, _, _, rfl, fun hc => ?_, hb'⟩
 have hp := ok.upk_proper X
 have hpr : (M.fm k).Proper ((M.fm k).upk X) := by
  rcases hp with hp | hp
  . rw [hp] at hc; simp at hc
  . exact hp
 obtain ⟨s1, -, -, -, -, -, s3, -⟩ := DV ok hpr (by omega);exact ⟨s1, by omega⟩

theorem FN (f : Int) {w0 v : World} {ao : Option Addr} {n c : Nat} {bs : List Nat} (hl : bs.length = n) (hn : n <= 1048576) (hb : RdB w0 ao bs) (h : Rs w0 v ao n c) :
 Calls Tryz.prog 16 #[.pointer (some ⟨w0.heap.size, 0, none⟩), .int .i64 f] v fun e v' => TxB w0 ao n c e v' :=
 FR f hl hn hb h (fun v hv => wM f hl hn hb hv (fun v hv => tV f hl hn hb hv) (fun X v hX => wN f X v hX) (fun v hv => xH f hl hn hb hv))

def DrE (v v' : World) (e : Ending) : Prop := ∃ (f : Int) (ra : Option Addr) (m rc : Nat), e = .returned (.tuple #[.int .i64 f, .slice ra m rc]) /\ (∃ xs : List Nat, xs.length = m /\ m <= rc /\ (ra = none -> rc = 0) /\ RdB v' ra xs) /\ Below v.heap.size v v'

theorem rU (ao : Option Addr) (n c : Nat) (bs : List Nat) (w : World) (hl : bs.length = n) (hn : n <= 1048576) (hb : RdB w ao bs) :
 Calls Tryz.prog 5 #[.slice ao n c] w fun e w' => DrE w w' e := by
 have s0 : Rs w (w.alloc (.cells #[.slice ao n c, .int .i64 0] 50)) ao n c := ⟨0, by omega, heap_alloc_new w _, (Below.refl _ _).alloc (Nat.le_refl _) _⟩;go_enter Tryz.func5, Tryz.ntmps5;go_wp2_with fail;refine (y9 hl hn hb s0).mono ?_;rintro e w3 ⟨f, _, _, rfl, s3⟩;clear s0;go_wp2_with fail;refine (FN f hl hn hb s3).mono ?_;rintro e w4 ⟨ra, m, rc, rfl, hx, s4⟩;have HX := hid hx; have HS := hid s4;clear hx s4 s3;go_wp2_with fail;exact bodyPost_ret (v := .tuple #[.int .i64 f, .slice ra m rc]) (by simp [results, Tryz.results5, go_sem]) rfl ⟨f, ra, m, rc, rfl, HX.out, HS.out.below⟩

theorem KC (a b c d e : Int) (x : Bool) (v : World) : Sem.run Tryz.prog (Instr.field 37 (.agg #[.int .i64 a, .int .i64 b, .int .i64 c, .int .i64 d, .int .i64 e, .bool x]) 0) v = .ok (.int .i64 a) v := by kernel_rfl

structure Par (w : World) (f : Int) (m : Nat) (xs : List Nat) (A B C E K : Int) : Prop where
 s : ∀ (v : World) (ao : Option Addr) (cc : Nat), m <= cc -> (ao = none -> cc = 0) -> RdB v ao xs -> Calls Tryz.prog 7 #[.int .i64 f, .slice ao m cc] v fun e w' => e = .returned (.agg #[.int .u64 A, .int .u64 B, .int .i64 C, .int .i64 E, .int .i64 K]) /\ Below v.heap.size v w'
 i : ∀ (v : World) (ao : Option Addr) (cc : Nat), Below w.heap.size w v -> RdB v ao xs -> Calls Tryz.prog 6 #[.int .i64 f, .slice ao m cc] v fun e w' => e = .returned (.agg #[.int .u64 A, .int .u64 B, .int .i64 C, .int .i64 E, .int .i64 K]) /\ Below v.heap.size v w'

def Scn (m : Nat) (xs : List Nat) (d : M.Dec) (s1 s2 : Int) : Prop :=
 ∀ (v : World) (ao : Option Addr) (cc : Nat), m <= cc -> (ao = none -> cc = 0) -> RdB v ao xs -> Calls Tryz.prog 8 #[.slice ao m cc] v fun e w' => ∃ (ra : Option Addr) (l rc : Nat), e = .returned (.agg #[.int .i64 d.kind, .bool d.neg, .slice ra l rc, .int .i64 d.exp, .int .i64 s1, .int .i64 s2]) /\ l = d.digits.length /\ RdB w' ra d.digits /\ Below v.heap.size v w'

def Ord (w : World) (f : Int) (A B A' B' : Int) (d d' : M.Dec) : Prop := ∃ o : Int,
 (∀ v : World, Below w.heap.size w v -> Calls Tryz.prog 10 #[.int .i64 f, .agg #[.int .u64 A, .int .u64 B], .agg #[.int .u64 A', .int .u64 B']] v fun e w' => e = .returned (.int .i64 o) /\ Below v.heap.size v w') /\
 (d.digits.length <= 10000 /\ -10000000 <= d.exp /\ d.exp <= 10000000) /\ (d'.digits.length <= 10000 /\ -10000000 <= d'.exp /\ d'.exp <= 10000000) /\
 (M.dP d d' -> o = -1 \/ o = 0) /\ (M.dP d' d -> o = 1 \/ o = 0) /\ (¬ M.dP d d' -> ¬ M.dP d' d -> o = 0)

theorem E9 (a0 a1 : Option Addr) (n c n1 c1 : Nat) (w : World) (h1 : n <= 1048576) (h2 : n1 <= 1048576)
 (kD : ∀ v, Below w.heap.size w v -> Calls Tryz.prog 5 #[.slice a0 n c] v fun e v' => DrE v v' e)
 (kD2 : ∀ v, Below w.heap.size w v -> Calls Tryz.prog 5 #[.slice a1 n1 c1] v fun e v' => DrE v v' e)
 (kA : ∀ (f : Int) (m m2 : Nat) (xs ys : List Nat), xs.length = m -> ys.length = m2 -> ∃ (A B C E K A' B' C' E' K' p q1 q2 q3 q4 : Int) (q5 : Bool) (d d' : M.Dec) (s1 s2 s3 s4 : Int),
   Par w f m xs A B C E K /\ Par w f m2 ys A' B' C' E' K' /\ Scn m xs d s1 s2 /\ Scn m2 ys d' s3 s4 /\
   (∀ v : World, Calls Tryz.prog 9 #[.int .i64 f] v fun e w' => e = .returned (.agg #[.int .i64 p, .int .i64 q1, .int .i64 q2, .int .i64 q3, .int .i64 q4, .bool q5]) /\ Below v.heap.size v w') /\
   (p = 0 \/ p ≠ 0 /\ (d.kind ≠ 1 \/ d.kind = 1 /\ (d'.kind ≠ 1 \/ d'.kind = 1 /\ Ord w f A B A' B' d d')))) :
 Calls Tryz.prog 3 #[.slice a0 n c, .slice a1 n1 c1] w fun e w' => e = .returned (.bool true) /\ Below w.heap.size w w' := by
 have h1' : ¬ (1048576 : Int) < (n : Int) := by omega
 have h2' : ¬ (1048576 : Int) < (n1 : Int) := by omega
 have fr := KC;go_enter Tryz.func3, Tryz.ntmps3;go_wp2_with fail;refine (kD _ (Below.refl _ _)).mono ?_;rintro e v1 ⟨f, ra, m, rc, rfl, ⟨xs, hm, hrc, hno, rx⟩, b0⟩;clear kD;go_wp2_with fail;refine (kD2 _ b0).mono ?_;rintro e v2 ⟨f2, ra2, m2, rc2, rfl, ⟨ys, hm2, hrc2, hno2, ry⟩, hb⟩;clear kD2;replace rx := rx.below hb;replace b0 := b0.trans (hb.mono b0.size);clear hb;obtain ⟨A, B, C, E, K, A', B', C', E', K', p, q1, q2, q3, q4, q5, d, d', s1, s2, s3, s4, pX, pY, sX, sY, kE, kO⟩ := kA f m m2 xs ys hm hm2;have KO := hid kO; have PX := hid pX; have PY := hid pY; have SX := hid sX; have SY := hid sY; have HN := hid hno; have HN2 := hid hno2;clear kA kO pX pY sX sY hno hno2 hm hm2;go_wp2_with fail;refine (PX.out.i _ ra rc b0 rx).mono ?_;rintro e v3 ⟨rfl, hb⟩;have cA := Cls.new v3 #[.int .u64 A, .int .u64 B, .int .i64 C, .int .i64 E, .int .i64 K] 29;have hb9 := (Below.refl _ v3).alloc (Nat.le_refl _) (.cells #[.int .u64 A, .int .u64 B, .int .i64 C, .int .i64 E, .int .i64 K] 29);replace hb := hb.trans (hb9.mono hb.size);replace rx := rx.below hb;replace ry := ry.below hb;replace b0 := b0.trans (hb.mono b0.size);clear hb hb9;go_upto_region 6 with fail;generalize v3.alloc (.cells #[.int .u64 A, .int .u64 B, .int .i64 C, .int .i64 E, .int .i64 K] 29) = v4 at *;generalize v3.heap.size = gA at *;go_wp2_with fail;refine (PY.out.i _ ra2 rc2 b0 ry).mono ?_;rintro e v5 ⟨rfl, hb⟩;have cB := Cls.new v5 #[.int .u64 A', .int .u64 B', .int .i64 C', .int .i64 E', .int .i64 K'] 29;have hb9 := (Below.refl _ v5).alloc (Nat.le_refl _) (.cells #[.int .u64 A', .int .u64 B', .int .i64 C', .int .i64 E', .int .i64 K'] 29);replace hb := hb.trans (hb9.mono hb.size);replace rx := rx.below hb;replace ry := ry.below hb;replace cA := cA.below hb;replace b0 := b0.trans (hb.mono b0.size);clear hb hb9;go_upto_region 7 with fail;generalize v5.alloc (.cells #[.int .u64 A', .int .u64 B', .int .i64 C', .int .i64 E', .int .i64 K'] 29) = v6 at *;generalize v5.heap.size = gB at *
 go_cut [49] (fun z wx => z = .bool false /\ Below v6.heap.size v6 wx)
 case first =>
  as_aux_lemma =>
  have A0 : Below v6.heap.size v6 v6.drew := (Below.refl _ _).drew
  have KB := hid (fun (v : World) (hv : Below v6.heap.size v6 v) => show (fun v : World => (v.cell? ⟨gA, 0, none⟩ = some (.int .u64 A) /\ v.cell? ⟨gA, 1, none⟩ = some (.int .u64 B) /\ v.cell? ⟨gA, 2, none⟩ = some (.int .i64 C) /\ v.cell? ⟨gA, 3, none⟩ = some (.int .i64 E) /\ v.cell? ⟨gA, 4, none⟩ = some (.int .i64 K)) /\ v.cell? ⟨gB, 0, none⟩ = some (.int .u64 A') /\ v.cell? ⟨gB, 1, none⟩ = some (.int .u64 B') /\ v.cell? ⟨gB, 2, none⟩ = some (.int .i64 C') /\ v.cell? ⟨gB, 3, none⟩ = some (.int .i64 E') /\ v.cell? ⟨gB, 4, none⟩ = some (.int .i64 K')) v from ⟨⟨(cA.below hv).cell 0 rfl, (cA.below hv).cell 1 rfl, (cA.below hv).cell 2 rfl, (cA.below hv).cell 3 rfl, (cA.below hv).cell 4 rfl⟩, (cB.below hv).cell 0 rfl, (cB.below hv).cell 1 rfl, (cB.below hv).cell 2 rfl, (cB.below hv).cell 3 rfl, (cB.below hv).cell 4 rfl⟩)
  first | (go_region_held3 (fun v : World => (v.cell? ⟨gA, 0, none⟩ = some (.int .u64 A) /\ v.cell? ⟨gA, 1, none⟩ = some (.int .u64 B) /\ v.cell? ⟨gA, 2, none⟩ = some (.int .i64 C) /\ v.cell? ⟨gA, 3, none⟩ = some (.int .i64 E) /\ v.cell? ⟨gA, 4, none⟩ = some (.int .i64 K)) /\ v.cell? ⟨gB, 0, none⟩ = some (.int .u64 A') /\ v.cell? ⟨gB, 1, none⟩ = some (.int .u64 B') /\ v.cell? ⟨gB, 2, none⟩ = some (.int .i64 C') /\ v.cell? ⟨gB, 3, none⟩ = some (.int .i64 E') /\ v.cell? ⟨gB, 4, none⟩ = some (.int .i64 K')) (first | with_reducible exact KB.out _ hb2 | with_reducible exact KB.out _ hb1 | with_reducible exact KB.out _ A0) (first | (have hq := hb1; clear hq; go_at_call 7; refine (PY.out.s _ ra2 rc2 hrc2 HN2.out (ry.below hb1)).mono ?_; rintro e u2 ⟨rfl, hb0⟩; have hb2 := aC (w1 := v6) hb1 hb0; clear hb0) | (go_at_call 7; refine (PX.out.s _ ra rc hrc HN.out (rx.below A0)).mono ?_; rintro e u1 ⟨rfl, hb0⟩; have hb1 := aC (w1 := v6) A0 hb0; clear hb0))) | fail
  all_goals go_wp2_with fail
  all_goals go_meet
  all_goals exact ⟨rfl, hb2⟩
 case rest =>
 as_aux_lemma =>
 rename World => v7
 obtain ⟨rfl, hb⟩ := hcut;replace rx := rx.below hb;replace ry := ry.below hb;replace cA := cA.below hb;replace cB := cB.below hb;replace b0 := b0.trans (hb.mono b0.size);clear hb;go_wp2_with fail;refine (SX.out _ ra rc hrc HN.out rx).mono ?_;rintro e v8 ⟨xa, l, xc, rfl, hl, rdX, hb⟩;have HL := hid hl;clear hl;have cX := Cls.new v8 #[.int .i64 d.kind, .bool d.neg, .slice xa l xc, .int .i64 d.exp, .int .i64 s1, .int .i64 s2] 34;have hb9 := (Below.refl _ v8).alloc (Nat.le_refl _) (.cells #[.int .i64 d.kind, .bool d.neg, .slice xa l xc, .int .i64 d.exp, .int .i64 s1, .int .i64 s2] 34);replace hb := hb.trans (hb9.mono hb.size);replace rdX := rdX.below hb9;replace ry := ry.below hb;replace cA := cA.below hb;replace cB := cB.below hb;replace b0 := b0.trans (hb.mono b0.size);clear hb hb9 rx;go_upto_region 10 with fail;generalize v8.alloc (.cells #[.int .i64 d.kind, .bool d.neg, .slice xa l xc, .int .i64 d.exp, .int .i64 s1, .int .i64 s2] 34) = v9 at *;generalize v8.heap.size = gX at *;go_wp2_with fail;refine (SY.out _ ra2 rc2 hrc2 HN2.out ry).mono ?_;rintro e vA ⟨ya, l2, yc, rfl, hl2, rdY, hb⟩;have HL2 := hid hl2;clear hl2;have cY := Cls.new vA #[.int .i64 d'.kind, .bool d'.neg, .slice ya l2 yc, .int .i64 d'.exp, .int .i64 s3, .int .i64 s4] 34;have hb9 := (Below.refl _ vA).alloc (Nat.le_refl _) (.cells #[.int .i64 d'.kind, .bool d'.neg, .slice ya l2 yc, .int .i64 d'.exp, .int .i64 s3, .int .i64 s4] 34);replace hb := hb.trans (hb9.mono hb.size);replace rdY := rdY.below hb9;replace rdX := rdX.below hb;replace cX := cX.below hb;replace cA := cA.below hb;replace cB := cB.below hb;replace b0 := b0.trans (hb.mono b0.size);clear hb hb9 ry SX SY PX PY;go_upto_region 11 with fail;generalize vA.alloc (.cells #[.int .i64 d'.kind, .bool d'.neg, .slice ya l2 yc, .int .i64 d'.exp, .int .i64 s3, .int .i64 s4] 34) = vB at *;generalize vA.heap.size = gY at *;go_wp2_with fail;refine (kE _).mono ?_;rintro e vC ⟨rfl, hb⟩;replace rdX := rdX.below hb;replace rdY := rdY.below hb;replace cX := cX.below hb;replace cY := cY.below hb;replace cA := cA.below hb;replace cB := cB.below hb;replace b0 := b0.trans (hb.mono b0.size);clear hb kE;have x0 := cX.cell 0 rfl;have y0 := cY.cell 0 rfl;rcases KO.out with rfl | ⟨hp, kO⟩
 . have HB := hid b0;clear KO b0;go_wp2_with fail;go_ret;exact ⟨rfl, HB.out⟩
 have hp' : (p == 0) = false := beq_eq_false_iff_ne.2 hp;rcases kO with hk | ⟨hk, kO⟩
 . have hk' : (d.kind != 1) = true := by simpa using hk
   have HB := hid b0;clear KO b0;go_wp2_with fail;go_ret;exact ⟨rfl, HB.out⟩
 have hk' : (d.kind != 1) = false := by simpa using hk
 rcases kO with hj | ⟨hj, o, kO, hd, hd', ho1, ho2, ho3⟩
 . have hj' : (d'.kind != 1) = true := by simpa using hj
   have HB := hid b0;clear KO b0;go_wp2_with fail;go_ret;exact ⟨rfl, HB.out⟩
 have hj' : (d'.kind != 1) = false := by simpa using hj
 have O1 := hid ho1; have O2 := hid ho2; have O3 := hid ho3;have HK := hid hk; have HJ := hid hj;clear KO ho1 ho2 ho3 hk hj;have a0' := cA.cell 0 rfl;have a1' := cA.cell 1 rfl;have b0' := cB.cell 0 rfl;have b1' := cB.cell 1 rfl;go_wp2_with fail;refine (kO _ b0).mono ?_;rintro e vD ⟨rfl, hb⟩;replace rdX := rdX.below hb;replace rdY := rdY.below hb;replace cX := cX.below hb;replace cY := cY.below hb;replace b0 := b0.trans (hb.mono b0.size);clear hb kO cA cB a0' a1' b0' b1' x0 y0;have x0 := cX.cell 0 rfl;have x1 := cX.cell 1 rfl;have x2 := cX.cell 2 rfl;have x3 := cX.cell 3 rfl;have y0 := cY.cell 0 rfl;have y1 := cY.cell 1 rfl;have y2 := cY.cell 2 rfl;have y3 := cY.cell 3 rfl
 have k1 : ∀ v : World, RdB v xa d.digits -> RdB v ya d'.digits -> Calls Tryz.prog 11 #[.agg #[.int .i64 d.kind, .bool d.neg, .slice xa l xc, .int .i64 d.exp], .agg #[.int .i64 d'.kind, .bool d'.neg, .slice ya l2 yc, .int .i64 d'.exp]] v fun r w' => ∃ b : Bool, r = .returned (.bool b) /\ (b = true ↔ M.dP d d') /\ Below v.heap.size v w' := fun v r1 r2 => by
  rw [HL.out, HL2.out];exact qD d d' xa ya xc yc v hd.1 hd'.1 hd.2.1 hd.2.2 hd'.2.1 hd'.2.2 r1 r2
 have k2 : ∀ v : World, RdB v xa d.digits -> RdB v ya d'.digits -> Calls Tryz.prog 11 #[.agg #[.int .i64 d'.kind, .bool d'.neg, .slice ya l2 yc, .int .i64 d'.exp], .agg #[.int .i64 d.kind, .bool d.neg, .slice xa l xc, .int .i64 d.exp]] v fun r w' => ∃ b : Bool, r = .returned (.bool b) /\ (b = true ↔ M.dP d' d) /\ Below v.heap.size v w' := fun v r1 r2 => by
  rw [HL.out, HL2.out];exact qD d' d ya xa yc xc v hd'.1 hd.1 hd'.2.1 hd'.2.2 hd.2.1 hd.2.2 r2 r1
 clear hd hd';have K1 := hid k1; have K2 := hid k2;clear k1 k2;generalize d.kind = dk at *;generalize d'.kind = dk' at *;generalize d.neg = dn at *;generalize d'.neg = dn' at *;generalize d.exp = de at *;generalize d'.exp = de' at *;go_wp2_with fail;refine (K1.out _ rdX rdY).mono ?_;rintro e vE ⟨b, rfl, hbb, hb⟩;replace rdX := rdX.below hb;replace rdY := rdY.below hb;replace cX := cX.below hb;replace cY := cY.below hb;replace b0 := b0.trans (hb.mono b0.size);clear hb K1 x0 x1 x2 x3 y0 y1 y2 y3
 cases b with
 | true =>
   have ho := O1.out (hbb.1 rfl);have HB := hid b0;clear b0 hbb;rcases ho with rfl | rfl
   . go_wp2_with fail;go_ret;exact ⟨rfl, HB.out⟩
   . go_wp2_with fail;go_ret;exact ⟨rfl, HB.out⟩
 | false =>
   have HBB := hid hbb;clear hbb;have x0 := cX.cell 0 rfl;have x1 := cX.cell 1 rfl;have x2 := cX.cell 2 rfl;have x3 := cX.cell 3 rfl;have y0 := cY.cell 0 rfl;have y1 := cY.cell 1 rfl;have y2 := cY.cell 2 rfl;have y3 := cY.cell 3 rfl;go_wp2_with fail;refine (K2.out _ rdX rdY).mono ?_;rintro e vF ⟨b, rfl, hbb, hb⟩;replace b0 := b0.trans (hb.mono b0.size);have HB := hid b0;clear hb K2 x0 x1 x2 x3 y0 y1 y2 y3 b0
   cases b with
   | true =>
     have ho := O2.out (hbb.1 rfl);clear hbb;rcases ho with rfl | rfl
     . go_wp2_with fail;go_ret;exact ⟨rfl, HB.out⟩
     . go_wp2_with fail;go_ret;exact ⟨rfl, HB.out⟩
   | false =>
     have ho := O3.out (fun k => by have := HBB.out.2 k; cases this) (fun k => by have := hbb.2 k; cases this)
     clear hbb;subst ho;go_wp2_with fail;go_ret;exact ⟨rfl, HB.out⟩

theorem AB {t : List Nat} {d : M.Dec} (h : M.Sound t d) : M.qQ d := ⟨h.dig, fun hk => (h.size hk).1⟩

theorem tY {F : M.Fm} (h : F.Ok) {t : List Nat} {d : M.Dec} (hs : M.Sound t d) (hk : d.kind = 1) : F.upk (peY F d) = F.decT d /\ peY F d < 2 ^ 128 := by
 unfold peY M.Fm.decT;rw [if_neg (by omega), if_neg (by omega)]
 have key : ∀ t, F.Proper t -> F.upk (F.pk t) = t /\ F.pk t < 2 ^ 128 := fun t hp => ⟨(h.upk_pk t hp).1, Nat.lt_of_lt_of_le (h.upk_pk t hp).2 h.width.2.2⟩
 by_cases hl : d.digits.length = 0
 . rw [if_pos hl, if_pos hl];exact key _ (by unfold M.Fm.Proper; simp)
 . rw [if_neg hl, if_neg hl];have hp : 0 < M.dec d.digits := Nat.lt_of_lt_of_le (Nat.pow_pos (by omega)) (hs.size (by omega)).1;have hN : 0 < peN d := Nat.mul_pos hp (Nat.pow_pos (by omega));have hD : 0 < peD d := Nat.pow_pos (by omega);have e : rY F d.neg (peN d) (peD d) = F.pk (F.rPt d.neg (peN d) (peD d)) := by unfold rY; rw [if_neg (by omega)]
   rw [e];exact key _ (h.rPt_proper d.neg _ _ hN hD)

theorem D0 (m : Nat) (xs : List Nat) (hl : xs.length = m) : Scn m xs (aS xs).1 (aS xs).2.1 (aS xs).2.2 := by
 intro v ao cc h1 h2 h3;refine (qX ao m cc xs v hl h1 h2 h3 _ rfl).mono ?_;rintro e w' ⟨ra, rc, rfl, ho, hb⟩
 have h256 : ∀ x ∈ (aS xs).1.digits, x < 256 := by
  rcases mM xs with ⟨_, k⟩ | ⟨d, k, k2, _⟩
  . rw [k]; simp
  . rw [k]
    exact fun x hx => by have := (M.iA k2).dig x hx; omega
 exact ⟨ra, _, rc, rfl, rfl, (OwnV.of_own ho h256).rd, hb⟩

theorem GY (w : World) (hm : Fmt w) (hF : Fol w) (hWd : Wds w) (k : Nat) (hk : k < 4) (m : Nat) (xs : List Nat) (hl : xs.length = m) :
 ∃ A B C E K : Int, Par w (k : Int) m xs A B C E K /\ ((aS xs).1.kind = 1 -> A = (M.hiN (peY (M.fm k) (aS xs).1) : Int) /\ B = (M.loN (peY (M.fm k) (aS xs).1) : Int) /\ M.Sound xs (aS xs).1 /\ (aS xs).1.digits.length <= 800 /\ xs.length <= 800) := by
 have kS := fun (v : World) (ao : Option Addr) (cc : Nat) (h1 : m <= cc) (h2 : ao = none -> cc = 0) (h3 : RdB v ao xs) => xS k hk ao m cc xs v hl h1 h2 h3
 have kI := fun (v : World) (ao : Option Addr) (cc : Nat) (hv : Below w.heap.size w v) (h3 : RdB v ao xs) => yA k hk ao m cc xs v hl h3 (hm.below hv) (hF.below hv) (hWd.below hv)
 rcases mM xs with ⟨h1, h2⟩ | ⟨d, h1, h2, h3⟩
 . unfold peV at kS kI;simp only [if_pos h1] at kS kI
   exact ⟨_, _, _, _, _, ⟨kS, kI⟩, fun hc => by rw [h2] at hc; simp at hc⟩
 . unfold peV at kS kI;rw [h1] at kS kI |-;simp only [ne_eq, not_true_eq_false, if_false] at kS kI
   refine ⟨_, _, _, _, _, ⟨kS, kI⟩, fun hc => ⟨rfl, rfl, M.iA h2, ?_, h3⟩⟩
   rcases M.lG h2 with x | x | x
   . simp only; omega
   . rw [x.2]; simp
   . rw [x.2.2]; simp

theorem KG (w : World) (hm : Fmt w) (hF : Fol w) (hWd : Wds w) (f : Int) (m m2 : Nat) (xs ys : List Nat) (hl : xs.length = m) (hl2 : ys.length = m2) : ∃ (A B C E K A' B' C' E' K' p q1 q2 q3 q4 : Int) (q5 : Bool) (d d' : M.Dec) (s1 s2 s3 s4 : Int),
 Par w f m xs A B C E K /\ Par w f m2 ys A' B' C' E' K' /\ Scn m xs d s1 s2 /\ Scn m2 ys d' s3 s4 /\
 (∀ v : World, Calls Tryz.prog 9 #[.int .i64 f] v fun e w' => e = .returned (.agg #[.int .i64 p, .int .i64 q1, .int .i64 q2, .int .i64 q3, .int .i64 q4, .bool q5]) /\ Below v.heap.size v w') /\
 (p = 0 \/ p ≠ 0 /\ (d.kind ≠ 1 \/ d.kind = 1 /\ (d'.kind ≠ 1 \/ d'.kind = 1 /\ Ord w f A B A' B' d d'))) := by
 have sX := D0 m xs hl;have sY := D0 m2 ys hl2
 by_cases hf : f < 0 \/ 4 <= f
 . have pr : ∀ (m : Nat) (xs : List Nat), Par w f m xs 0 0 4 0 0 := fun m xs => ⟨fun v ao cc _ _ _ => AQ f hf ao m cc v, fun v ao cc _ _ => AW f hf ao m cc v⟩
   exact ⟨_, _, _, _, _, _, _, _, _, _, _, _, _, _, _, _, _, _, _, _, _, _, pr m xs, pr m2 ys, sX, sY, fun v => iB f v hf, .inl rfl⟩
 . obtain ⟨k, rfl⟩ := Int.eq_ofNat_of_zero_le (show 0 <= f by omega);have hk : k < 4 := by omega
   have h := M.jA k;have hp := h.p1;obtain ⟨A, B, C, E, K, pX, fX⟩ := GY w hm hF hWd k hk m xs hl;obtain ⟨A', B', C', E', K', pY, fY⟩ := GY w hm hF hWd k hk m2 ys hl2
   refine ⟨A, B, C, E, K, A', B', C', E', K', _, _, _, _, _, _, _, _, _, _, _, _, pX, pY, sX, sY, fun v => bU k hk v, .inr ⟨by omega, ?_⟩⟩
   by_cases c1 : (aS xs).1.kind = 1
   . refine .inr ⟨c1, ?_⟩
     by_cases c2 : (aS ys).1.kind = 1
     . refine .inr ⟨c2, ?_⟩;obtain ⟨rfl, rfl, g1, g2, g3⟩ := fX c1;obtain ⟨rfl, rfl, g1', g2', g3'⟩ := fY c2;obtain ⟨e1, l1⟩ := tY h g1 c1;obtain ⟨e2, l2⟩ := tY h g1' c2;have x1 := g1.exp1;have x2 := g1.exp2;have y1 := g1'.exp1;have y2 := g1'.exp2;have ho := h.order_less (AB g1) (AB g1');rw [<- e1, <- e2, h.order] at ho
       exact ⟨_, fun v hv => zJ k hk _ _ l1 l2 v (hm.below hv), ⟨by omega, by omega, by omega⟩, ⟨by omega, by omega, by omega⟩, ho⟩
     . exact .inl c2
   . exact .inl c1

theorem lawFnOd (a0 : Option Addr) (n c : Nat) (bs : List Nat) (a1 : Option Addr) (n1 c1 : Nat) (cs : List Nat) (w : World) (w0 : InB w a0 n c bs) (w1 : InB w a1 n1 c1 cs) (hm : Fmt w) (hF : Fol w) (hWd : Wds w) :
 Calls Tryz.prog 3 #[.slice a0 n c, .slice a1 n1 c1] w fun e w' => e = .returned (.bool true) /\ Below w.heap.size w w' := by
 obtain ⟨hl, hc, hb⟩ := w0;obtain ⟨hl2, hc2, hb2⟩ := w1
 by_cases h1 : n <= 1048576
 . by_cases h2 : n1 <= 1048576
   . exact E9 a0 a1 n c n1 c1 w h1 h2 (fun v hv => rU a0 n c bs v hl h1 (hb.below hv)) (fun v hv => rU a1 n1 c1 cs v hl2 h2 (hb2.below hv)) (KG w hm hF hWd)
   . have h1' : ¬ (1048576 : Int) < (n : Int) := by omega
     have h2' : (1048576 : Int) < (n1 : Int) := by omega
     go_enter Tryz.func3, Tryz.ntmps3;go_wp2_with fail;go_ret;exact ⟨rfl, Below.refl _ _⟩
 . have h1' : (1048576 : Int) < (n : Int) := by omega
   go_enter Tryz.func3, Tryz.ntmps3;go_wp2_with fail;go_ret;exact ⟨rfl, Below.refl _ _⟩

end Go.Proofs.YtfdgkleoaehjaaaGreatDoor
