import Derived.Test.YtdpbhbpcpnlbkaaaCs8
import Derived.Test.YtdpbhbpcpnlbkaaaCs9
import Derived.Test.YtdpbhbpcpnlbkaaaLc7
set_option maxHeartbeats 2000000
namespace Go.Proofs.Ytdpbhbpcpnlbkaa
open Go.RowKit Go.Maps
set_option linter.unusedVariables false
set_option maxRecDepth 100000
theorem Sl.tn {p : Nat → Prop} {w v : World} {ao : Option Addr} {n : Nat} {f : Nat → Value} (h : Sl w ao n f) (t : Tn p w v) (hp : 0 < n → ∀ b off, ao = some ⟨b, off, none⟩ → ¬ p b) : Sl v ao n f := by
 intro h0
 obtain ⟨b, off, e, hl, hc⟩ := h h0
 exact ⟨b, off, e, Nat.lt_of_lt_of_le hl t.size, fun i hi => (t.cell (off + i) hl (hp h0 b off e)).trans (hc i hi)⟩

theorem markInt_own {w : World} {B n c k0 : Nat} {ao : Option Addr} {xs : List Value} (h : w.ownsRow B 3 1 (.slice ao n c) n xs) (hk0 : k0 + n < 4611686018427387904) :
 Calls Try.prog 18 #[.slice ao n c, .int .i64 (k0 : Int)] w fun e w' => e = .returned (.int .i64 ((k0 + n : Nat) : Int)) ∧ Sl w' ao n (fun i => .int .i64 ((k0 + i : Nat) : Int)) ∧ Tn (fun g => Value.ownBlock (.slice ao n c) = some g) w w' := by
 rcases h.2 with ⟨e, h'⟩ | ⟨g, cap', cur, e, hb, hh, r⟩
 · subst h'
   refine (markIntS_nil ao c k0 w).mono ?_
   rintro e w' ⟨rfl, rfl⟩
   exact ⟨rfl, fun h => by omega, Tn.refl _ _⟩
 · injection e with e1 e2 e3
   subst e1; subst e3
   obtain ⟨f, hf, hnc⟩ := own_bf h
   refine (markIntS_any g n c (c * 1) k0 f w (by omega) hk0 hf).mono ?_
   rintro e w' ⟨rfl, h1, h2⟩
   refine ⟨rfl, fun _ => ⟨g, 0, rfl, h1.lt, fun i hi => ?_⟩, h2.mono (fun b _ e => by rw [e]; rfl)⟩
   rw [Nat.zero_add, h1.cell i (by omega), if_pos hi]

theorem markView_own {w : World} {B n c k0 : Nat} {ao : Option Addr} {xs : List Value} (h : w.ownsRow B 38 5 (.slice ao n c) n xs) (hk0 : k0 + n * 5 < 4611686018427387904) :
 Calls Try.prog 47 #[.slice ao n c, .int .i64 (k0 : Int)] w fun e w' => e = .returned (.int .i64 ((k0 + n * 5 : Nat) : Int)) ∧ Sl w' ao (n * 5) (mvf k0) ∧ Tn (fun g => Value.ownBlock (.slice ao n c) = some g) w w' := by
 rcases h.2 with ⟨e, h'⟩ | ⟨g, cap', cur, e, hb, hh, r⟩
 · subst h'
   refine (markViewS_nil ao c k0 w).mono ?_
   rintro e w' ⟨rfl, rfl⟩
   exact ⟨by simp, fun h => by omega, Tn.refl _ _⟩
 · injection e with e1 e2 e3
   subst e1; subst e3
   obtain ⟨f, hf, hnc⟩ := own_bf h
   refine (markViewS_any g n c (c * 5) k0 f w (by omega) hk0 hf).mono ?_
   rintro e w' ⟨rfl, h1, h2⟩
   refine ⟨rfl, fun _ => ⟨g, 0, rfl, h1.lt, fun i hi => ?_⟩, h2.mono (fun b _ e => by rw [e]; rfl)⟩
   rw [Nat.zero_add, h1.cell i (by omega), if_pos hi]

structure MRp (w : World) (D : RD) (ta oa sa : Option Addr) (ob : Nat → Nat) : Prop where
 t : Sl w ta D.T (fun i => .int .i64 ((1 + i : Nat) : Int))
 o : Sl w oa D.T (fun t => .slice (some ⟨ob t, 0, none⟩) (D.len t) (D.len t))
 oo : ∀ t, t < D.T → Sl w (some ⟨ob t, 0, none⟩) (D.len t) (fun i => .int .i64 ((1 + D.T + sumL D.len t + i : Nat) : Int))
 s : Sl w sa (D.vs.length * 5) (mvf (1 + D.T + sumL D.len D.T))

theorem MRp.below {w v : World} {D : RD} {ta oa sa : Option Addr} {ob : Nat → Nat} (h : MRp w D ta oa sa ob) (b : Below w.heap.size w v) : MRp v D ta oa sa ob := ⟨h.t.below b, h.o.below b, fun t ht => (h.oo t ht).below b, h.s.below b⟩

def mTot (D : RD) : Nat := 1 + D.T + sumL D.len D.T + D.vs.length * 5

theorem slice_own {ao : Option Addr} {b off n c : Nat} {w : World} {B sz : Nat} {t : TypeId} {xs : List Value} (h : w.ownsRow B t sz (.slice ao n c) n xs) (h0 : 0 < n) (e : ao = some ⟨b, off, none⟩) : Value.ownBlock (.slice ao n c) = some b := by
 rcases h.2 with ⟨e', h'⟩ | ⟨g, cap', cur, e', _⟩
 · omega
 · injection e' with e1; rw [e1] at e; injection e with e; injection e with e; rw [e1, e]; rfl

theorem markRep_any (D : RD) (dk : RDok D) (ta oa sa : Option Addr) (tc oc sc B : Nat) (ob : Nat → Nat) (w : World) (hB : B ≤ w.heap.size) (h1 : w.ownsRow B 3 1 (.slice ta D.T tc) D.T ((List.range D.T).map fun t => .int .i64 (D.ts t : Int))) (h2 : w.ownsRow B 26 1 (.slice oa D.T oc) D.T ((List.range D.T).map fun t => .slice (some ⟨ob t, 0, none⟩) (D.len t) (D.len t))) (h3 : OwV w B (.slice sa D.vs.length sc) D.vs)
 (h4 : ∀ t, t < D.T → Bf w (ob t) 3 (D.len t) (fun i => .int .i64 (D.out t i : Int)) ∧ B ≤ ob t ∧ Value.ownBlock (.slice ta D.T tc) ≠ some (ob t)) (h5 : ∀ t t', t < D.T → t' < D.T → ob t = ob t' → t = t') (X : Nat) (x1 : ∀ g, Value.ownBlock (.slice ta D.T tc) = some g → g < X) (x2 : ∀ t, t < D.T → ob t < X) (x5 : ∀ g, Value.ownBlock (.slice sa D.vs.length sc) = some g → g < X) :
 Calls Try.prog 19 #[.agg (RDv D (.slice ta D.T tc) (.slice oa D.T oc) (.slice sa D.vs.length sc)), .int .i64 1] w fun e w' => e = .returned (.int .i64 (mTot D : Int)) ∧ MRp w' D ta oa sa ob ∧ Tn (fun g => B ≤ g ∧ g < X) w w' := by
 have hs := sumL_le D.len D.T 1000 dk.len
 have hT := dk.T; have hv := dk.vs
 have hs2 : sumL D.len D.T ≤ 1000000 := Nat.le_trans hs (by have := Nat.mul_le_mul hT (Nat.le_refl 1000); omega)
 obtain ⟨U, hU⟩ : ∃ U, U = w.alloc (.cells (RDv D (.slice ta D.T tc) (.slice oa D.T oc) (.slice sa D.vs.length sc)) 32) := ⟨_, rfl⟩
 have bU : Below w.heap.size w U := by rw [hU]; exact (Below.refl _ _).alloc (Nat.le_refl _) _
 have cU : Cls U w.heap.size (RDv D (.slice ta D.T tc) (.slice oa D.T oc) (.slice sa D.vs.length sc)) 32 := by rw [hU]; exact Cls.new w _ _
 have tf := Tn.below (fun _ => False) bU
 have g1 := own_tn h1 tf (fun _ _ h => h)
 have g2 := own_tn h2 tf (fun _ _ h => h)
 have g3 : U.ownsRow B 38 5 (.slice sa D.vs.length sc) D.vs.length (VL D.vs) := own_tn h3 tf (fun _ _ h => h)
 have g4 := fun t ht => (h4 t ht).1.below bU
 have K1 := markInt_own (k0 := 1) g1 (by omega)
 have nOv : ∀ g, Value.ownBlock (.slice ta D.T tc) = some g → Value.ownBlock (.slice oa D.T oc) ≠ some g := fun g e => own_ne g1 g2 (by decide) e
 have nSv : ∀ g, Value.ownBlock (.slice ta D.T tc) = some g → Value.ownBlock (.slice sa D.vs.length sc) ≠ some g := fun g e => own_ne g1 g3 (by decide) e
 have nC : ∀ g, Value.ownBlock (.slice ta D.T tc) = some g → g ≠ w.heap.size := fun g e e2 => own_ty g1 (Bf.cls cU) (by decide) (e2 ▸ e)
 have K2 := hidQ (fun (u : World) (t1 : Tn (fun g => Value.ownBlock (.slice ta D.T tc) = some g) U u) => by
  have q2 := own_tn g2 t1 (fun g e e2 => nOv g e2 e)
  have q4 := fun t ht => (g4 t ht).tn t1 (h4 t ht).2.2
  have sl := own_sl (f := fun t => .slice (some ⟨ob t, 0, none⟩) (D.len t) (D.len t)) q2 (fun i hi => by rw [List.getElem?_map, List.getElem?_range (by omega)]; rfl)
  rw [Nat.mul_one] at sl
  exact markIntSS_any oa D.T oc (1 + D.T) D.len D.len ob (fun t i => .int .i64 (D.out t i : Int)) u (by omega) (by omega) sl (fun b off e t ht e2 => own_ty q2 (q4 t ht) (by decide) (by rw [← e2]; exact slice_own q2 (by omega) e)) q4 h5)
 have K3 := hidQ (fun (u u2 : World) (t1 : Tn (fun g => Value.ownBlock (.slice ta D.T tc) = some g) U u) (t2 : Tn (fun g => ∃ t, t < D.T ∧ g = ob t) u u2) => by
  have q3 := own_tn g3 t1 (fun g e e2 => nSv g e2 e)
  have q4 := fun t ht => (g4 t ht).tn t1 (h4 t ht).2.2
  have q5 := own_tn q3 t2 (fun g e ⟨t, ht, e2⟩ => own_ty q3 (q4 t ht) (by decide) (e2 ▸ e))
  exact markView_own (k0 := 1 + D.T + sumL D.len D.T) q5 (by omega))
 have x3 : U.cell? ⟨w.heap.size, 3, none⟩ = some (.slice ta D.T tc) := cU.cell 3 rfl
 have C4 := hidQ (fun (u : World) (t1 : Tn (fun g => Value.ownBlock (.slice ta D.T tc) = some g) U u) => show u.cell? ⟨w.heap.size, 4, none⟩ = some (.slice oa D.T oc) from (t1.cell 4 cU.lt (fun e => nC _ e rfl)).trans (cU.cell 4 rfl))
 have C10 := hidQ (fun (u u2 : World) (t1 : Tn (fun g => Value.ownBlock (.slice ta D.T tc) = some g) U u) (t2 : Tn (fun g => ∃ t, t < D.T ∧ g = ob t) u u2) => show u2.cell? ⟨w.heap.size, 10, none⟩ = some (.slice sa D.vs.length sc) from (t2.cell 10 (Nat.lt_of_lt_of_le cU.lt t1.size) (fun ⟨t, ht, e⟩ => by have := (h4 t ht).1.lt; omega)).trans ((t1.cell 10 cU.lt (fun e => nC _ e rfl)).trans (cU.cell 10 rfl)))
 have FIN := hidQ (fun (u u2 u3 : World) (s1 : Sl u ta D.T (fun i => .int .i64 ((1 + i : Nat) : Int))) (t1 : Tn (fun g => Value.ownBlock (.slice ta D.T tc) = some g) U u) (s2 : ∀ t, t < D.T → Bf u2 (ob t) 3 (D.len t) (fun i => .int .i64 ((1 + D.T + sumL D.len t + i : Nat) : Int))) (t2 : Tn (fun g => ∃ t, t < D.T ∧ g = ob t) u u2) (s3 : Sl u3 sa (D.vs.length * 5) (mvf (1 + D.T + sumL D.len D.T))) (t3 : Tn (fun g => Value.ownBlock (.slice sa D.vs.length sc) = some g) u2 u3) =>
  show MRp u3 D ta oa sa ob ∧ Tn (fun g => B ≤ g ∧ g < X) w u3 from by
   have q2 := own_tn g2 t1 (fun g e e2 => nOv g e2 e)
   have q4 := fun t ht => (g4 t ht).tn t1 (h4 t ht).2.2
   have q2' := own_tn q2 t2 (fun g e ⟨t, ht, e2⟩ => own_ty q2 (q4 t ht) (by decide) (e2 ▸ e))
   have q3 := own_tn g3 t1 (fun g e e2 => nSv g e2 e)
   have q5 := own_tn q3 t2 (fun g e ⟨t, ht, e2⟩ => own_ty q3 (q4 t ht) (by decide) (e2 ▸ e))
   have q2'' := own_tn q2' t3 (fun g e e2 => own_ne q5 q2' (by decide) e2 e)
   have sl := own_sl (f := fun t => .slice (some ⟨ob t, 0, none⟩) (D.len t) (D.len t)) q2'' (fun i hi => by rw [List.getElem?_map, List.getElem?_range (by omega)]; rfl)
   rw [Nat.mul_one] at sl
   refine ⟨⟨?_, sl, fun t ht => Sl.of ((s2 t ht).tn t3 (own_ty q5 (s2 t ht) (by decide))), s3⟩, ?_⟩
   · refine (s1.tn t2 (fun h0 b off e ⟨t, ht, e2⟩ => (h4 t ht).2.2 (by rw [← e2]; exact slice_own g1 h0 e))).tn t3 (fun h0 b off e e2 => nSv b (slice_own g1 h0 e) e2)
   · refine (Tn.below _ bU).trans ((t1.mono (fun g _ e => ⟨(own_lt g1 e).2, x1 g e⟩)).trans ((t2.mono (fun g _ ⟨t, ht, e⟩ => by rw [e]; exact ⟨(h4 t ht).2.1, x2 t ht⟩)).trans (t3.mono (fun g _ e => ⟨(own_lt g3 e).2, x5 g e⟩)))))
 have KK1 := hidQ K1
 have TOT := hidQ (rfl : mTot D = 1 + D.T + sumL D.len D.T + D.vs.length * 5)
 unfold RDv at hU
 unfold RDv
 clear h1 h2 h3 h4 h5 g1 g2 g3 g4 tf cU bU K1 nOv nSv nC hs hs2 hT hv dk x1 x2 x5
 go_enter Try.func19, Try.ntmps19
 go_upto_region 1 with fail
 rw [← hU]
 clear hU
 go_wp2_with fail
 refine KK1.out.mono ?_
 rintro e u1 ⟨rfl, s1, t1⟩
 have c4 := C4.out u1 t1
 have H1 := hidQ (And.intro s1 t1)
 clear s1 t1 x3
 go_wp2_with fail
 refine (K2.out _ H1.out.2).mono ?_
 rintro e u2 ⟨rfl, s2, t2⟩
 have c10 := C10.out u1 u2 H1.out.2 t2
 have H2 := hidQ (And.intro s2 t2)
 clear s2 t2 c4
 go_wp2_with fail
 refine (K3.out _ _ H1.out.2 H2.out.2).mono ?_
 rintro e u3 ⟨rfl, s3, t3⟩
 have H3 := hidQ (And.intro s3 t3)
 clear s3 t3 c10
 go_wp2_with fail
 go_ret
 exact ⟨rfl, FIN.out u1 u2 u3 H1.out.1 H1.out.2 H2.out.1 H2.out.2 H3.out.1 H3.out.2⟩

structure GR (w : World) (B : Nat) (D : RD) (ta oa sa : Option Addr) (tc oc sc : Nat) (ob : Nat → Nat) : Prop where
 h1 : w.ownsRow B 3 1 (.slice ta D.T tc) D.T ((List.range D.T).map fun t => .int .i64 (D.ts t : Int))
 h2 : w.ownsRow B 26 1 (.slice oa D.T oc) D.T ((List.range D.T).map fun t => .slice (some ⟨ob t, 0, none⟩) (D.len t) (D.len t))
 h3 : OwV w B (.slice sa D.vs.length sc) D.vs
 h4 : ∀ t, t < D.T → Bf w (ob t) 3 (D.len t) (fun i => .int .i64 (D.out t i : Int)) ∧ B ≤ ob t ∧ Value.ownBlock (.slice ta D.T tc) ≠ some (ob t)
 h5 : ∀ t t', t < D.T → t' < D.T → ob t = ob t' → t = t'

theorem GRp.named {w : World} {B : Nat} {v : Value} {D : RD} (h : GRp w B v D) : ∃ ta tc oa oc sa sc ob, v = .agg (RDv D (.slice ta D.T tc) (.slice oa D.T oc) (.slice sa D.vs.length sc)) ∧ GR w B D ta oa sa tc oc sc ob := by
 obtain ⟨tv, ov, sv, ob, rfl, h1, h2, h3, h4, h5⟩ := h
 obtain ⟨ta, tc, rfl⟩ := own_any h1
 obtain ⟨oa, oc, rfl⟩ := own_any h2
 obtain ⟨sa, sc, rfl⟩ := own_any h3
 exact ⟨ta, tc, oa, oc, sa, sc, ob, rfl, h1, h2, h3, h4, h5⟩

theorem GR.read {w : World} {B : Nat} {D : RD} {ta oa sa : Option Addr} {tc oc sc : Nat} {ob : Nat → Nat} (h : GR w B D ta oa sa tc oc sc ob) : RRp w D ta oa sa ob := by
 obtain ⟨h1, h2, h3, h4, h5⟩ := h
 refine ⟨?_, ?_, fun t ht => Sl.of (h4 t ht).1, own_sl h3 (fun i hi => VL_vf _ i hi)⟩
 · have := own_sl (f := fun t => .int .i64 (D.ts t : Int)) h1 (fun i hi => by rw [List.getElem?_map, List.getElem?_range (by omega)]; rfl)
   rw [Nat.mul_one] at this; exact this
 · have := own_sl (f := fun t => .slice (some ⟨ob t, 0, none⟩) (D.len t) (D.len t)) h2 (fun i hi => by rw [List.getElem?_map, List.getElem?_range (by omega)]; rfl)
   rw [Nat.mul_one] at this; exact this

theorem GR.tn {p : Nat → Prop} {w v : World} {B : Nat} {D : RD} {ta oa sa : Option Addr} {tc oc sc : Nat} {ob : Nat → Nat} (h : GR w B D ta oa sa tc oc sc ob) (t : Tn p w v) (hp : ∀ g, B ≤ g → ¬ p g) : GR v B D ta oa sa tc oc sc ob := by
 obtain ⟨h1, h2, h3, h4, h5⟩ := h
 exact ⟨own_tn h1 t (fun g e => hp g (own_lt h1 e).2), own_tn h2 t (fun g e => hp g (own_lt h2 e).2), own_tn h3 t (fun g e => hp g (own_lt h3 e).2), fun q hq => ⟨(h4 q hq).1.tn t (hp _ (h4 q hq).2.1), (h4 q hq).2⟩, h5⟩

theorem GR.below {w v : World} {B : Nat} {D : RD} {ta oa sa : Option Addr} {tc oc sc : Nat} {ob : Nat → Nat} (h : GR w B D ta oa sa tc oc sc ob) (b : Below w.heap.size w v) : GR v B D ta oa sa tc oc sc ob := h.tn (Tn.below (fun _ => False) b) (fun _ _ e => e)

theorem GR.mark {w0 w : World} {B : Nat} {D : RD} {ta oa sa : Option Addr} {tc oc sc : Nat} {ob : Nat → Nat} (h0 : GR w0 B D ta oa sa tc oc sc ob) (h : GR w B D ta oa sa tc oc sc ob) (dk : RDok D) (hB : B ≤ w.heap.size) :
 Calls Try.prog 19 #[.agg (RDv D (.slice ta D.T tc) (.slice oa D.T oc) (.slice sa D.vs.length sc)), .int .i64 1] w fun e w' => e = .returned (.int .i64 (mTot D : Int)) ∧ MRp w' D ta oa sa ob ∧ Tn (fun g => B ≤ g ∧ g < w0.heap.size) w w' :=
 markRep_any D dk ta oa sa tc oc sc B ob w hB h.h1 h.h2 h.h3 h.h4 h.h5 w0.heap.size (fun g e => (own_lt h0.h1 e).1) (fun t ht => (h0.h4 t ht).1.lt) (fun g e => (own_lt h0.h3 e).1)

def End (N S : Nat) (tasks : List (List (Int × Int))) (picks : List Int) (m : Nat) : Prop :=
 (Q.liv tasks (Q.run N S tasks picks m) = [] ∨ m = 40000) ∧ m ≤ 40000 ∧ ∀ m', m' < m → Q.liv tasks (Q.run N S tasks picks m') ≠ []

theorem End.uniq {N S : Nat} {tasks : List (List (Int × Int))} {picks : List Int} {m m' : Nat} (h : End N S tasks picks m) (h' : End N S tasks picks m') : m = m' := by
 obtain ⟨a, b, c⟩ := h
 obtain ⟨a', b', c'⟩ := h'
 rcases Nat.lt_trichotomy m m' with h | h | h
 · rcases a with a | a
   · exact absurd a (c' m h)
   · omega
 · exact h
 · rcases a' with a' | a'
   · exact absurd a' (c m' h)
   · omega

noncomputable def rdGood (N S : Nat) (tasks : List (List (Int × Int))) (picks : List Int) : RD :=
 let m := Classical.epsilon (End N S tasks picks)
 let r := Q.run N S tasks picks m
 { ok := true, dn := decide (Q.liv tasks r = []), n := m, h := r.c.hits, md := r.c.made, pb := r.c.pub, ev := r.c.ev, ls := r.c.lost, T := tasks.length, ts := r.ts, len := Q.lenAt tasks, out := r.out, vs := Q.vws S r.c (N * S) }

def rdZero : RD := { ok := false, dn := false, n := 0, h := 0, md := 0, pb := 0, ev := 0, ls := 0, T := 0, ts := fun _ => 0, len := fun _ => 0, out := fun _ _ => 0, vs := [] }

def rcOk (a b : Int) (tasks : List (List (Int × Int))) (pn : Nat) : Prop := cfgOk a b ∧ (decide (tasks.length ≤ 8) && tasks.all tOk) = true ∧ pn ≤ 20000

open Classical in
noncomputable def rcD (a b : Int) (tasks : List (List (Int × Int))) (picks : List Int) : RD := if rcOk a b tasks picks.length then rdGood a.toNat b.toNat tasks picks else rdZero

theorem rdGood_of {w : World} {B N S m : Nat} {tasks : List (List (Int × Int))} {picks : List Int} {v : Value} (he : End N S tasks picks m) (h : Rpt w B v (decide (Q.liv tasks (Q.run N S tasks picks m) = [])) m (Q.run N S tasks picks m).c tasks.length (Q.run N S tasks picks m).ts (Q.lenAt tasks) (Q.run N S tasks picks m).out (Q.vws S (Q.run N S tasks picks m).c (N * S))) : GRp w B v (rdGood N S tasks picks) := by
 have e : m = Classical.epsilon (End N S tasks picks) := he.uniq (Classical.epsilon_spec (p := End N S tasks picks) ⟨m, he⟩)
 rw [e] at h
 obtain ⟨tv, ov, sv, ob, h0, h1, h2, h3, h4, h5⟩ := h
 exact ⟨tv, ov, sv, ob, h0, h1, h2, h3, h4, h5⟩

theorem rdZero_of (w : World) (B : Nat) : GRp w B (.agg zrp) rdZero :=
 ⟨.slice none 0 0, .slice none 0 0, .slice none 0 0, fun _ => 0, rfl, World.ownsRow_nil _ _ _ _, World.ownsRow_nil _ _ _ _, World.ownsRow_nil _ _ _ _, fun t ht => by simp [rdZero] at ht, fun t t' ht => by simp [rdZero] at ht⟩

theorem rcD_ok (a b : Int) (tasks : List (List (Int × Int))) (picks : List Int) : RDok (rcD a b tasks picks) := by
 unfold rcD
 split
 · rename_i h
   obtain ⟨hc, ht, -⟩ := h
   rw [Bool.and_eq_true] at ht
   have h8 := of_decide_eq_true ht.1
   have hk := keysOk_of ht.2
   refine ⟨?_, fun t _ => ?_, ?_⟩
   · simp only [rdGood]; omega
   · have := hk.2 t; simp only [rdGood]; omega
   · simp only [rdGood]
     obtain ⟨c1, c2, c3, c4⟩ := hc
     have h1 := Q.vws_len b.toNat (Q.run a.toNat b.toNat tasks picks (Classical.epsilon (End a.toNat b.toNat tasks picks))).c (a.toNat * b.toNat)
     have h2 : a.toNat * b.toNat ≤ 16 * 64 := Nat.mul_le_mul (by omega) (by omega)
     omega
 · exact ⟨by simp [rdZero], fun t ht => by simp [rdZero], by simp [rdZero]⟩

theorem irun_any (a b : Int) (n tc pc : Nat) (ta pa : Option Addr) (tasks : List (List (Int × Int))) (picks : List Int) (kx : Nat → Option Addr) (kc : Nat → Nat) (w : World) (hn : tasks.length = n) (hn2 : n ≤ 1048576) (hl : ∀ t, Q.lenAt tasks t ≤ 1048576) (hT : TkIn w ta tasks kx kc) (hP : RdI w pa picks) (hPb : ∀ b off, pa = some ⟨b, off, none⟩ → b < w.heap.size) :
 Calls Try.prog 7 #[.agg #[.int .i64 a, .int .i64 b], .slice ta n tc, .slice pa picks.length pc] w fun e w' => ∃ v, e = .returned v ∧ GRp w' w.heap.size v (rcD a b tasks picks) ∧ Below w.heap.size w w' := by
 by_cases h : rcOk a b tasks picks.length
 · have hd : rcD a b tasks picks = rdGood a.toNat b.toNat tasks picks := by unfold rcD; rw [if_pos h]
   rw [hd]
   obtain ⟨⟨c1, c2, c3, c4⟩, ht, hp⟩ := h
   rw [Bool.and_eq_true] at ht
   have h8 := of_decide_eq_true ht.1
   have ea : a = ((a.toNat : Nat) : Int) := by omega
   have eb : b = ((b.toNat : Nat) : Int) := by omega
   have := irun_good a.toNat b.toNat n tc pc ta pa tasks picks kx kc w (by omega) (by omega) hn (by omega) ht.2 hp hT hP hPb
   rw [← ea, ← eb] at this
   refine this.mono ?_
   rintro e w' ⟨m, v, rfl, e1, e2, e3, rp, bl⟩
   subst hn
   exact ⟨v, rfl, rdGood_of ⟨e1, e2, e3⟩ rp, bl⟩
 · have hd : rcD a b tasks picks = rdZero := by unfold rcD; rw [if_neg h]
   rw [hd]
   refine (irun_bad a b n tc pc picks.length ta pa tasks kx kc w hn hn2 hl hT (by subst hn; exact h)).mono ?_
   rintro e w' ⟨rfl, bl⟩
   exact ⟨_, rfl, rdZero_of _ _, bl⟩

theorem srun_any (a b : Int) (n tc pc : Nat) (ta pa : Option Addr) (tasks : List (List (Int × Int))) (picks : List Int) (kx : Nat → Option Addr) (kc : Nat → Nat) (w : World) (hn : tasks.length = n) (hn2 : n ≤ 1048576) (hl : ∀ t, Q.lenAt tasks t ≤ 1048576) (hT : TkIn w ta tasks kx kc) (hP : RdI w pa picks) (hPb : ∀ b off, pa = some ⟨b, off, none⟩ → b < w.heap.size) :
 Calls Try.prog 8 #[.agg #[.int .i64 a, .int .i64 b], .slice ta n tc, .slice pa picks.length pc] w fun e w' => ∃ v, e = .returned v ∧ GRp w' w.heap.size v (rcD a b tasks picks) ∧ Below w.heap.size w w' := by
 by_cases h : rcOk a b tasks picks.length
 · have hd : rcD a b tasks picks = rdGood a.toNat b.toNat tasks picks := by unfold rcD; rw [if_pos h]
   rw [hd]
   obtain ⟨⟨c1, c2, c3, c4⟩, ht, hp⟩ := h
   rw [Bool.and_eq_true] at ht
   have h8 := of_decide_eq_true ht.1
   have ea : a = ((a.toNat : Nat) : Int) := by omega
   have eb : b = ((b.toNat : Nat) : Int) := by omega
   have := srun_good a.toNat b.toNat n tc pc ta pa tasks picks kx kc w (by omega) (by omega) hn (by omega) ht.2 hp hT hP hPb
   rw [← ea, ← eb] at this
   refine this.mono ?_
   rintro e w' ⟨m, v, rfl, e1, e2, e3, rp, bl⟩
   subst hn
   exact ⟨v, rfl, rdGood_of ⟨e1, e2, e3⟩ rp, bl⟩
 · have hd : rcD a b tasks picks = rdZero := by unfold rcD; rw [if_neg h]
   rw [hd]
   refine (srun_bad a b n tc pc picks.length ta pa tasks kx kc w hn hn2 hl hT (by subst hn; exact h)).mono ?_
   rintro e w' ⟨rfl, bl⟩
   exact ⟨_, rfl, rdZero_of _ _, bl⟩

end Go.Proofs.Ytdpbhbpcpnlbkaa
