import Derived.Test.YtdpbhbpcpnlbkaaaCa9
import Derived.Test.YtdpbhbpcpnlbkaaaCa5
import Derived.Test.YtdpbhbpcpnlbkaaaCa6
namespace Go.Proofs.Ytdpbhbpcpnlbkaa
open Go.RowKit Go.Maps
set_option linter.unusedVariables false
set_option maxRecDepth 100000
structure LT (L : Lay) (R : Raw) (tasks : List (List (Int × Int))) (kx : Nat → Option Addr) (kc : Nat → Nat) (r : Q.Rst) : Prop where
 lc : LC L R r.c
 k0 : ∀ t, t < L.T → R.k t 0 = .pointer (some ⟨L.cb, 0, none⟩)
 k1 : ∀ t, t < L.T → R.k t 1 = .slice (kx t) (L.len t) (kc t)
 k2 : ∀ t, t < L.T → R.k t 2 = .slice (some ⟨L.ob t, 0, none⟩) (L.len t) (L.len t)
 k3 : ∀ t, t < L.T → R.k t 3 = .int .i64 (r.fin t)
 k4 : ∀ t, t < L.T → R.k t 4 = .pointer (if L.act t = true then some ⟨L.qb t, 0, none⟩ else none)
 k5 : ∀ t, t < L.T → R.k t 5 = .int .i64 (r.ts t)
 o : ∀ t i, t < L.T → i < L.len t → R.o t i = .int .i64 (r.out t i)
 q : ∀ t, t < L.T → L.act t = true → LQ L R t (Q.keyAt tasks t (r.fin t)) (r.cur t)
 qn : ∀ t, t < L.T → L.act t = false → r.cur t = Q.new
 len : ∀ t, t < L.T → L.len t = Q.lenAt tasks t
 T : L.T = tasks.length

structure LE (L L' : Lay) : Prop where
 base : L'.base = L.base
 cb : L'.cb = L.cb
 mb : L'.mb = L.mb
 hb : L'.hb = L.hb
 sb : L'.sb = L.sb
 kb : L'.kb = L.kb
 ob : L'.ob = L.ob
 N : L'.N = L.N
 S : L'.S = L.S
 T : L'.T = L.T
 len : L'.len = L.len

theorem LE.refl (L : Lay) : LE L L := ⟨rfl, rfl, rfl, rfl, rfl, rfl, rfl, rfl, rfl, rfl, rfl⟩

theorem step_end {w v w' : World} {L L' : Lay} {R R1 : Raw} {tasks : List (List (Int × Int))} {kx : Nat → Option Addr} {kc : Nat → Nat} {r : Q.Rst} {t : Nat} (ht : t < L.T) (le : LE L L')
 (l : LT L R tasks kx kc r) (hl : r.fin t < L.len t) (ha : L'.act t = true) (hact : ∀ t', t' ≠ t → L'.act t' = L.act t' ∧ L'.qb t' = L.qb t')
 (hk : R1.k = Q.updN R.k t (upd (upd (R.k t) 5 (.int .i64 ((r.ts t : Int) + 1))) 4 (.pointer (some ⟨L'.qb t, 0, none⟩)))) (ho : R1.o = R.o) (hq : ∀ t', t' < L.T → t' ≠ t → L.act t' = true → LQ L' R1 t' (Q.keyAt tasks t' (r.fin t')) (r.cur t'))
 (x : Q.Cch × Q.Sea × Nat) (hx : x = Q.stp L.S (Q.keyAt tasks t (r.fin t)) (Q.shd L.N (Q.keyAt tasks t (r.fin t))) (Q.hom L.S (Q.keyAt tasks t (r.fin t))) r.c (r.cur t))
 (po : PO w v L' R1 t (Q.keyAt tasks t (r.fin t)) x) (e : Ending)
 (h : (x.2.2 = 0 ∧ e = .returned (.bool true) ∧ Qt v w') ∨ (x.2.2 ≠ 0 ∧ e = .returned (.bool (decide (r.fin t + 1 < L.len t))) ∧ Qt (((v.setCell ⟨L.ob t, r.fin t, none⟩ (.int .i64 x.2.2)).setCell ⟨L.kb t, 3, none⟩ (.int .i64 ((r.fin t : Int) + 1))).setCell ⟨L.kb t, 4, none⟩ (.pointer none)) w')) :
 ∃ L2 R2, e = .returned (.bool (decide ((Q.stepR L.N L.S tasks t r).fin t < L.len t))) ∧ LE L L2 ∧ RI w' L2 R2 ∧ LT L2 R2 tasks kx kc (Q.stepR L.N L.S tasks t r) ∧ Fr L.base w w' ∧ R2.ks.length ≤ R1.ks.length := by
 obtain ⟨R', ri, lc, lq, pk, po', pq, pks, pkv, pb⟩ := po
 have hT : L'.T = L.T := le.T
 have kb := le.kb; have ob := le.ob; have hlen := le.len; have hN := le.N; have hS := le.S; have hcb := le.cb
 have htk : R'.k = _ := pk.trans hk
 have hto : R'.o = R.o := po'.trans ho
 have hst : Q.stepR L.N L.S tasks t r = { c := x.1, ts := Q.updN r.ts t (r.ts t + 1), cur := Q.updN r.cur t (if x.2.2 = 0 then x.2.1 else Q.new), fin := Q.updN r.fin t (if x.2.2 = 0 then r.fin t else r.fin t + 1), out := if x.2.2 = 0 then r.out else Q.updN r.out t (Q.updN (r.out t) (r.fin t) x.2.2) } := by
  rw [hx]; rfl
 rw [hst]
 rcases h with ⟨h0, rfl, hqt⟩ | ⟨h0, rfl, hqt⟩
 · refine ⟨L', R', ?_, le, ri.qt hqt, ?_, ?_, by rw [pks]; exact Nat.le_refl _⟩
   · simp [h0, Q.updN, hl]
   · simp only [if_pos h0]
     have hup : Q.updN r.fin t (r.fin t) = r.fin := by funext a; unfold Q.updN; split <;> simp_all
     rw [hup]
     refine ⟨lc, fun t' ht' => ?_, fun t' ht' => ?_, fun t' ht' => ?_, fun t' ht' => ?_, fun t' ht' => ?_, fun t' ht' => ?_, fun t' i ht' hi => ?_, fun t' ht' hat => ?_, fun t' ht' hat => ?_, fun t' ht' => ?_, by rw [hT]; exact l.T⟩
     all_goals rw [hT] at ht'
     all_goals by_cases e : t' = t
     all_goals try subst e
     · rw [htk]; simp [Q.updN, upd, l.k0 _ ht', hcb]
     · rw [htk]; simp [Q.updN, e, l.k0 _ ht', hcb]
     · rw [htk]; simp [Q.updN, upd, l.k1 _ ht', hlen]
     · rw [htk]; simp [Q.updN, e, l.k1 _ ht', hlen]
     · rw [htk]; simp [Q.updN, upd, l.k2 _ ht', hlen, ob]
     · rw [htk]; simp [Q.updN, e, l.k2 _ ht', hlen, ob]
     · rw [htk]; simp [Q.updN, upd, l.k3 _ ht']
     · rw [htk]; simp [Q.updN, e, l.k3 _ ht']
     · rw [htk]; simp [Q.updN, upd, ha]
     · rw [htk]; simp [Q.updN, e, l.k4 _ ht', hact _ e]
     · rw [htk]; simp [Q.updN, upd]
     · rw [htk]; simp [Q.updN, e, l.k5 _ ht']
     · rw [hto]; exact l.o _ _ ht' (by rw [← hlen]; exact hi)
     · rw [hto]; exact l.o _ _ ht' (by rw [← hlen]; exact hi)
     · simp only [Q.updN]; exact lq h0
     · simp only [Q.updN, if_neg e]; rw [(hact _ e).1] at hat; exact (hq _ ht' e hat).other (pq _ e) pks
     · rw [ha] at hat; cases hat
     · simp only [Q.updN, if_neg e]; rw [(hact _ e).1] at hat; exact l.qn _ ht' hat
     · rw [hlen]; exact l.len _ ht'
     · rw [hlen]; exact l.len _ ht'
   · rw [← le.base]; exact pb.trans (Fr.qt hqt)
 · have htL : t < L'.T := by rw [hT]; exact ht
   refine ⟨{ L' with act := Q.updN L'.act t false }, { R' with o := Q.updN R'.o t (upd (R'.o t) (r.fin t) (.int .i64 x.2.2)), k := Q.updN (Q.updN R'.k t (upd (R'.k t) 3 (.int .i64 ((r.fin t : Int) + 1)))) t (upd (Q.updN R'.k t (upd (R'.k t) 3 (.int .i64 ((r.fin t : Int) + 1))) t) 4 (.pointer none)) }, ?_, ⟨le.base, le.cb, le.mb, le.hb, le.sb, le.kb, le.ob, le.N, le.S, le.T, le.len⟩, ?_, ?_, ?_, by simp only; rw [pks]; exact Nat.le_refl _⟩
   · simp [h0, Q.updN]
   · have r3 := (((ri.setO t htL (r.fin t) (.int .i64 x.2.2)).setK t htL 3 (.int .i64 ((r.fin t : Int) + 1))).setK t htL 4 (.pointer none))
     rw [kb, ob] at r3
     have r4 := r3.qt hqt
     have hac : ∀ i, Q.updN L'.act t false i = true → L'.act i = true := by
      intro i; unfold Q.updN; split
      · intro h; cases h
      · exact id
     exact { r4 with q := fun i hi hh => r4.q i hi (hac i hh), qi := fun i j hi hj h1 h2 => r4.qi i j hi hj (hac i h1) (hac j h2), bq := fun i hi hh => r4.bq i hi (hac i hh) }
   · simp only [if_neg h0]
     refine ⟨⟨lc.c0, lc.c1, lc.c2, lc.c3, lc.c4, lc.c5, lc.c6, lc.c7, lc.c8, lc.c9, lc.h0, lc.h1, lc.s0, lc.s1, lc.s2, lc.mem⟩, fun t' ht' => ?_, fun t' ht' => ?_, fun t' ht' => ?_, fun t' ht' => ?_, fun t' ht' => ?_, fun t' ht' => ?_, fun t' i ht' hi => ?_, fun t' ht' hat => ?_, fun t' ht' hat => ?_, fun t' ht' => ?_, by simp only; rw [hT]; exact l.T⟩
     all_goals simp only at ht'
     all_goals rw [hT] at ht'
     all_goals by_cases e : t' = t
     all_goals try subst e
     · rw [htk]; simp [Q.updN, upd, l.k0 _ ht', hcb]
     · rw [htk]; simp [Q.updN, e, l.k0 _ ht', hcb]
     · rw [htk]; simp [Q.updN, upd, l.k1 _ ht', hlen]
     · rw [htk]; simp [Q.updN, e, l.k1 _ ht', hlen]
     · rw [htk]; simp [Q.updN, upd, l.k2 _ ht', hlen, ob]
     · rw [htk]; simp [Q.updN, e, l.k2 _ ht', hlen, ob]
     · rw [htk]; simp [Q.updN, upd]
     · rw [htk]; simp [Q.updN, e, l.k3 _ ht']
     · simp [Q.updN, upd]
     · rw [htk]; simp [Q.updN, e, l.k4 _ ht', hact _ e]
     · rw [htk]; simp [Q.updN, upd]
     · rw [htk]; simp [Q.updN, e, l.k5 _ ht']
     · simp only at hi; rw [hlen] at hi
       by_cases e2 : i = r.fin t'
       · subst e2; simp [upd, Q.updN]
       · simp [Q.updN, hto, upd, e2, l.o _ _ ht' hi]
     · simp only at hi; rw [hlen] at hi
       simp only [Q.updN, if_neg e, hto]; exact l.o _ _ ht' hi
     · simp [Q.updN] at hat
     · simp only [Q.updN, if_neg e] at hat ⊢
       rw [(hact _ e).1] at hat
       have := (hq _ ht' e hat).other (pq _ e) pks
       exact ⟨this.q0, this.q1, this.q2, this.q3, this.q4, this.q5, this.q6, this.km⟩
     · simp [Q.updN]
     · simp only [Q.updN, if_neg e] at hat ⊢; rw [(hact _ e).1] at hat; exact l.qn _ ht' hat
     · simp only; rw [hlen]; exact l.len _ ht'
     · simp only; rw [hlen]; exact l.len _ ht'
   · rw [← le.base]
     refine pb.trans ?_
     refine Fr.trans ?_ (Fr.qt hqt)
     have O := ri.o t htL; have K := ri.k t htL; have bo := ri.bo t htL; have bk := ri.bk' t htL
     rw [ob] at O bo
     rw [kb] at K bk
     exact (((Fr.refl _ _).set bo O (by decide) _ _).set bk K (by decide) _ _).set bk K (by decide) _ _

theorem upd_self (f : Nat → Value) (i : Nat) (x : Value) (h : f i = x) : upd f i x = f := by
 funext a; unfold upd; split
 · rename_i e; subst e; exact h.symm
 · rfl

theorem sko_of {v : World} {L : Lay} {R R' : Raw} {tasks : List (List (Int × Int))} {kx : Nat → Option Addr} {kc : Nat → Nat} {r : Q.Rst} {t : Nat} (ri : RI v L R') (ht : t < L.T) (hl : r.fin t < L.len t)
 (e1 : R'.k t 1 = .slice (kx t) (L.len t) (kc t)) (e2 : R'.k t 2 = .slice (some ⟨L.ob t, 0, none⟩) (L.len t) (L.len t)) (e3 : R'.k t 3 = .int .i64 (r.fin t)) : SkO v (L.kb t) (L.ob t) (L.len t) (kc t) (r.fin t) (kx t) := by
 have K := ri.k t ht
 have O := ri.o t ht
 exact ⟨(K.cell 1 (by omega)).trans (congrArg some e1), (K.cell 2 (by omega)).trans (congrArg some e2), (K.cell 3 (by omega)).trans (congrArg some e3), ⟨_, K.cell 4 (by omega)⟩, K.frozen, ⟨_, O.cell _ hl⟩, O.frozen _, K.ne O (by decide)⟩

def Stepped (w : World) (L : Lay) (tasks : List (List (Int × Int))) (kx : Nat → Option Addr) (kc : Nat → Nat) (r : Q.Rst) (t m : Nat) (e : Ending) (w' : World) : Prop :=
 ∃ L2 R2, e = .returned (.bool (decide ((Q.stepR L.N L.S tasks t r).fin t < L.len t))) ∧ LE L L2 ∧ RI w' L2 R2 ∧ LT L2 R2 tasks kx kc (Q.stepR L.N L.S tasks t r) ∧ Fr L.base w w' ∧ R2.ks.length ≤ m

def PFd (w1 : World) (L : Lay) (R1 : Raw) (tasks : List (List (Int × Int))) (r : Q.Rst) (t : Nat) (v : World) (oc : Nat) : Prop :=
 PO w1 v L R1 t (Q.keyAt tasks t (r.fin t)) (Q.stp L.S (Q.keyAt tasks t (r.fin t)) (Q.shd L.N (Q.keyAt tasks t (r.fin t))) (Q.hom L.S (Q.keyAt tasks t (r.fin t))) r.c (r.cur t)) ∧ oc = (Q.stp L.S (Q.keyAt tasks t (r.fin t)) (Q.shd L.N (Q.keyAt tasks t (r.fin t))) (Q.hom L.S (Q.keyAt tasks t (r.fin t))) r.c (r.cur t)).2.2

theorem step_act (m : Nat) {w : World} {L : Lay} {R : Raw} {tasks : List (List (Int × Int))} {kx : Nat → Option Addr} {kc : Nat → Nat} {r : Q.Rst} {t n : Nat} (d : Dim L) (ri : RI w L R) (l : LT L R tasks kx kc r) (ok : Q.RstOk L.S n tasks r) (hn : n < 100000) (ht : t < L.T) (hl : r.fin t < L.len t) (ha : L.act t = true) (hlen : L.len t ≤ 1000) (hm : R.ks.length ≤ m)
 (hs : Q.shd L.N (Q.keyAt tasks t (r.fin t)) < L.N) (hh : Q.hom L.S (Q.keyAt tasks t (r.fin t)) < L.S) :
 Calls Try.prog 87 #[.pointer (some ⟨L.kb t, 0, none⟩)] w fun e w' => Stepped w L tasks kx kc r t m e w' := by
 have K := ri.k t ht
 have Qb := ri.q t ht ha
 have lq := l.q t ht ha
 have tsn := ok.ts t
 have hw : IntKind.i64.wrap ((r.ts t : Int) + 1) = (r.ts t : Int) + 1 := by simp only [IntKind.wrap_i64]; omega
 have x5 := (K.cell 5 (by omega)).trans (congrArg some (l.k5 t ht))
 have x4 := (K.cell 4 (by omega)).trans (congrArg some (l.k4 t ht))
 rw [if_pos ha] at x4
 have q4 := (Qb.cell 4 (by omega)).trans (congrArg some lq.q4)
 have hne := K.ne Qb (by decide)
 have r1 := ri.setK t ht 5 (.int .i64 ((r.ts t : Int) + 1))
 have bb : Fr L.base w (w.setCell ⟨L.kb t, 5, none⟩ (.int .i64 ((r.ts t : Int) + 1))) := (Fr.refl _ _).set (ri.bk' t ht) K (by decide) _ _
 have f1 : (upd (R.k t) 5 (.int .i64 ((r.ts t : Int) + 1))) 4 = .pointer (some ⟨L.qb t, 0, none⟩) := by
  rw [upd_ne _ _ (by omega), l.k4 t ht, if_pos ha]
 have hks : Q.updN R.k t (upd (R.k t) 5 (.int .i64 ((r.ts t : Int) + 1))) = Q.updN R.k t (upd (upd (R.k t) 5 (.int .i64 ((r.ts t : Int) + 1))) 4 (.pointer (some ⟨L.qb t, 0, none⟩))) := by rw [upd_self _ _ _ f1]
 have e1 : (Q.updN R.k t (upd (R.k t) 5 (.int .i64 ((r.ts t : Int) + 1)))) t 1 = .slice (kx t) (L.len t) (kc t) := by simp [Q.updN, upd, l.k1 t ht]
 have e2 : (Q.updN R.k t (upd (R.k t) 5 (.int .i64 ((r.ts t : Int) + 1)))) t 2 = .slice (some ⟨L.ob t, 0, none⟩) (L.len t) (L.len t) := by simp [Q.updN, upd, l.k2 t ht]
 have e3 : (Q.updN R.k t (upd (R.k t) 5 (.int .i64 ((r.ts t : Int) + 1)))) t 3 = .int .i64 (r.fin t) := by simp [Q.updN, upd, l.k3 t ht]
 have fin : ∀ (v w' : World) (e : Ending) (oc : Nat), PFd (w.setCell ⟨L.kb t, 5, none⟩ (.int .i64 ((r.ts t : Int) + 1))) L { R with k := Q.updN R.k t (upd (R.k t) 5 (.int .i64 ((r.ts t : Int) + 1))) } tasks r t v oc →
  ((oc = 0 ∧ e = .returned (.bool true) ∧ Qt v w') ∨ (oc ≠ 0 ∧ e = .returned (.bool (decide (r.fin t + 1 < L.len t))) ∧ Qt (((v.setCell ⟨L.ob t, r.fin t, none⟩ (.int .i64 oc)).setCell ⟨L.kb t, 3, none⟩ (.int .i64 ((r.fin t : Int) + 1))).setCell ⟨L.kb t, 4, none⟩ (.pointer none)) w')) → Stepped w L tasks kx kc r t m e w' := by
  rintro v w' e oc ⟨po, rfl⟩ h
  obtain ⟨L2, R2, a1, a2, a3, a4, a5, a6⟩ := step_end (R1 := { R with k := Q.updN R.k t (upd (R.k t) 5 (.int .i64 ((r.ts t : Int) + 1))) }) ht (LE.refl L) l hl ha (fun _ _ => ⟨rfl, rfl⟩) hks rfl (fun t' ht' _ ha' => (l.q t' ht' ha').other rfl rfl) _ rfl po e h
  exact ⟨L2, R2, a1, a2, a3, a4, bb.trans a5, Nat.le_trans a6 hm⟩
 have sk : ∀ (v : World) (oc : Nat), (PO (w.setCell ⟨L.kb t, 5, none⟩ (.int .i64 ((r.ts t : Int) + 1))) v L { R with k := Q.updN R.k t (upd (R.k t) 5 (.int .i64 ((r.ts t : Int) + 1))) } t (Q.keyAt tasks t (r.fin t)) (Q.stp L.S (Q.keyAt tasks t (r.fin t)) (Q.shd L.N (Q.keyAt tasks t (r.fin t))) (Q.hom L.S (Q.keyAt tasks t (r.fin t))) r.c (r.cur t))) → SkO v (L.kb t) (L.ob t) (L.len t) (kc t) (r.fin t) (kx t) := by
  rintro v oc ⟨R', ri', -, -, pk, -⟩
  exact sko_of (R := R) (tasks := tasks) ri' ht hl (by rw [pk]; exact e1) (by rw [pk]; exact e2) (by rw [pk]; exact e3)
 have hp3 := (ok.q t).ph
 have hpc : (r.cur t).ph = 0 ∨ (r.cur t).ph = 1 ∨ (r.cur t).ph = 2 ∨ (r.cur t).ph = 3 := by omega
 have lq1 : LQ L { R with k := Q.updN R.k t (upd (R.k t) 5 (.int .i64 ((r.ts t : Int) + 1))) } t (Q.keyAt tasks t (r.fin t)) (r.cur t) := lq.other rfl rfl
 have lc1 : LC L { R with k := Q.updN R.k t (upd (R.k t) 5 (.int .i64 ((r.ts t : Int) + 1))) } r.c := l.lc.other rfl rfl rfl rfl rfl
 rcases hpc with hp | hp | hp | hp
 · rw [hp] at q4
   refine (step_look (L.kb t) (L.qb t) (L.ob t) (L.len t) (kc t) (r.fin t) (kx t) w (PFd (w.setCell ⟨L.kb t, 5, none⟩ (.int .i64 ((r.ts t : Int) + 1))) L { R with k := Q.updN R.k t (upd (R.k t) 5 (.int .i64 ((r.ts t : Int) + 1))) } tasks r t) hl hlen (r.ts t) hw x5 K.frozen x4 q4 hne ((phase_look d r1 lc1 ht ha lq1 hs hh ok.c hn (ok.q t) hp).mono ?_)).mono ?_
   · rintro e v ⟨oc, rfl, hoc, po⟩
     exact ⟨oc, rfl, ⟨po, hoc⟩, sk v oc po⟩
   · rintro e w' ⟨v, oc, hPF, h⟩
     exact fin v w' e oc hPF h
 · rw [hp] at q4
   refine (step_make (L.kb t) (L.qb t) (L.ob t) (L.len t) (kc t) (r.fin t) (kx t) w (PFd (w.setCell ⟨L.kb t, 5, none⟩ (.int .i64 ((r.ts t : Int) + 1))) L { R with k := Q.updN R.k t (upd (R.k t) 5 (.int .i64 ((r.ts t : Int) + 1))) } tasks r t) hl hlen (r.ts t) hw x5 K.frozen x4 q4 hne ((phase_make d r1 lc1 ht ha lq1 hs hh ok.c hn (ok.q t) hp).mono ?_)).mono ?_
   · rintro e v ⟨oc, rfl, hoc, po⟩
     exact ⟨oc, rfl, ⟨po, hoc⟩, sk v oc po⟩
   · rintro e w' ⟨v, oc, hPF, h⟩
     exact fin v w' e oc hPF h
 · rw [hp] at q4
   refine (step_pick (L.kb t) (L.qb t) (L.ob t) (L.len t) (kc t) (r.fin t) (kx t) w (PFd (w.setCell ⟨L.kb t, 5, none⟩ (.int .i64 ((r.ts t : Int) + 1))) L { R with k := Q.updN R.k t (upd (R.k t) 5 (.int .i64 ((r.ts t : Int) + 1))) } tasks r t) hl hlen (r.ts t) hw x5 K.frozen x4 q4 hne ((phase_pick d r1 lc1 ht ha lq1 hs hh ok.c hn (ok.q t) hp).mono ?_)).mono ?_
   · rintro e v ⟨oc, rfl, hoc, po⟩
     exact ⟨oc, rfl, ⟨po, hoc⟩, sk v oc po⟩
   · rintro e w' ⟨v, oc, hPF, h⟩
     exact fin v w' e oc hPF h
 · rw [hp] at q4
   refine (step_swap (L.kb t) (L.qb t) (L.ob t) (L.len t) (kc t) (r.fin t) (kx t) w (PFd (w.setCell ⟨L.kb t, 5, none⟩ (.int .i64 ((r.ts t : Int) + 1))) L { R with k := Q.updN R.k t (upd (R.k t) 5 (.int .i64 ((r.ts t : Int) + 1))) } tasks r t) hl hlen (r.ts t) hw x5 K.frozen x4 q4 hne ((phase_swap d r1 lc1 ht ha lq1 hs hh ok.c hn (ok.q t) hp).mono ?_)).mono ?_
   · rintro e v ⟨oc, rfl, hoc, po⟩
     exact ⟨oc, rfl, ⟨po, hoc⟩, sk v oc po⟩
   · rintro e w' ⟨v, oc, hPF, h⟩
     exact fin v w' e oc hPF h

theorem RI.below {w v : World} {L : Lay} {R : Raw} (r : RI w L R) (h : Below w.heap.size w v) : RI v L R :=
 { r with c := r.c.below h, h := r.h.below h, s := fun i hi => (r.s i hi).below h, k := fun i hi => (r.k i hi).below h, o := fun i hi => (r.o i hi).below h, q := fun i hi ha => (r.q i hi ha).below h, bk := r.bk.of_block (h.block _ r.bk.lt), ow := own_tn r.ow (Tn.below (fun _ => False) h) (fun _ _ e => e) }

theorem RI.number {w v : World} {L : Lay} {R : Raw} (r : RI w L R) (h : Tn (fun g => g = L.cb ∨ g = L.mb ∨ R.kv.ownBlock = some g) w v) (kv : Value) (ks : List (Int × Int)) (hc : Bf v L.cb 110 10 (upd R.c 8 kv)) (hb : Bk v L.mb ks) (ho : v.ownsRow L.base 36 2 kv ks.length (KL ks)) : RI v L { R with c := upd R.c 8 kv, ks := ks, kv := kv } := by
 have far : ∀ {g n : Nat} {t : TypeId} {f : Nat → Value}, Bf w g t n f → t ≠ 110 → t ≠ 36 → Bf v g t n f := fun {g n t f} hg h1 h2 => hg.tn h (by
  rintro (e | e | e)
  · exact hg.ne r.c h1 e
  · exact r.bk.ne hg e.symm
  · exact own_ty r.ow hg (Ne.symm h2) e)
 exact { r with c := hc, h := far r.h (by decide) (by decide), s := fun i hi => far (r.s i hi) (by decide) (by decide), k := fun i hi => far (r.k i hi) (by decide) (by decide), o := fun i hi => far (r.o i hi) (by decide) (by decide), q := fun i hi ha => far (r.q i hi ha) (by decide) (by decide), bk := hb, ow := ho }

theorem RI.addQ {w : World} {L : Lay} {R : Raw} (r : RI w L R) (t g : Nat) (f : Nat → Value) (hg : Bf w g 153 8 f) (hn : ∀ i, i < L.T → L.act i = true → L.qb i ≠ g) (hb : L.base ≤ g) (ht : t < L.T) (ha : L.act t = false) : RI w { L with qb := Q.updN L.qb t g, act := Q.updN L.act t true } { R with q := Q.updN R.q t f } := by
 refine { r with q := fun i hi hh => ?_, qi := fun i j hi hj h1 h2 e => ?_, bq := fun i hi hh => ?_ }
 · by_cases e : i = t
   · subst e; simpa [Q.updN] using hg
   · simp only [Q.updN, if_neg e] at hh ⊢; exact r.q i hi hh
 · by_cases e1 : i = t
   · by_cases e2 : j = t
     · rw [e1, e2]
     · simp only [Q.updN, if_neg e2] at h2
       simp only [Q.updN, if_neg e2, if_pos e1] at e
       exact absurd e.symm (hn j hj h2)
   · by_cases e2 : j = t
     · simp only [Q.updN, if_neg e1] at h1
       simp only [Q.updN, if_neg e1, if_pos e2] at e
       exact absurd e (hn i hi h1)
     · simp only [Q.updN, if_neg e1] at h1
       simp only [Q.updN, if_neg e2] at h2
       simp only [Q.updN, if_neg e1, if_neg e2] at e
       exact r.qi i j hi hj h1 h2 e
 · by_cases e : i = t
   · subst e; simpa [Q.updN] using hb
   · simp only [Q.updN, if_neg e] at hh ⊢; exact r.bq i hi hh

def Gk (ks ks' : List (Int × Int)) (k : Int × Int) : Prop := k ∈ ks' ∧ (ks' = ks ∨ (ks' = ks ++ [k] ∧ k ∉ ks))

theorem Gk.num {ks ks' : List (Int × Int)} {k : Int × Int} (h : Gk ks ks' k) (x : Int × Int) (hx : x ∈ ks) : num ks' x = num ks x ∧ x ∈ ks' := by
 rcases h.2 with e | ⟨e, hn⟩
 · rw [e]; exact ⟨rfl, hx⟩
 · rw [e]; exact ⟨num_old (fun e => hn (e ▸ hx)), by simp [hx]⟩

theorem LC.grow {L L' : Lay} {R R' : Raw} {c : Q.Cch} {k : Int × Int} (l : LC L R c) (h1 : R'.c = upd R.c 8 R'.kv) (h2 : R'.h = R.h) (h3 : R'.s = R.s) (hg : Gk R.ks R'.ks k) (e1 : L'.N = L.N) (e2 : L'.S = L.S) (e3 : L'.mb = L.mb) (e4 : L'.hb = L.hb) (e5 : L'.sb = L.sb) : LC L' R' c := by
 obtain ⟨a, b, d, e, f, g, h, i, j, k', m, n, o, p, q, r⟩ := l
 constructor
 · rw [h1]; simpa [upd] using a
 · rw [h1]; simpa [upd] using b
 · rw [h1]; simpa [upd] using d
 · rw [h1]; simpa [upd] using e
 · rw [h1]; simpa [upd] using f
 · rw [h1, e1]; simpa [upd] using g
 · rw [h1, e2]; simpa [upd] using h
 · rw [h1, e3]; simpa [upd] using i
 · rw [h1]; simp [upd]
 · rw [h1, e4, e1]; simpa [upd] using k'
 · rw [h2, e5, e2, e1]; exact m
 · rw [h2, e1]; exact n
 · intro x y hx hy
   rw [e1] at hx; rw [e2] at hy
   rw [h3, o x y hx hy]
   cases hk : (c.sl x y).key with
   | none => rfl
   | some z => simp only [numO]; rw [(hg.num z (r x y z hx hy hk)).1]
 · rw [h3, e1, e2]; exact p
 · rw [h3, e1, e2]; exact q
 · intro x y z hx hy hk
   rw [e1] at hx; rw [e2] at hy
   exact (hg.num z (r x y z hx hy hk)).2

theorem LQ.grow {L L' : Lay} {R R' : Raw} {t : Nat} {k k' : Int × Int} {q : Q.Sea} (l : LQ L R t k q) (h1 : R'.q t = R.q t) (hg : Gk R.ks R'.ks k') (e1 : L'.N = L.N) (e2 : L'.S = L.S) (e3 : L'.cb = L.cb) (e4 : L'.hb = L.hb) (e5 : L'.sb = L.sb) (e6 : L'.qb t = L.qb t) : LQ L' R' t k q := by
 obtain ⟨a, b, d, e, f, g, h, i⟩ := l
 obtain ⟨n1, n2⟩ := hg.num k i
 constructor
 · rw [h1, e3]; exact a
 · rw [h1, e4, e1]; exact b
 · rw [h1, n1]; exact d
 · rw [h1, e2]; exact e
 · rw [h1, e6]; exact f
 · rw [h1]; exact g
 · rw [h1, e5, e1]; exact h
 · exact n2

theorem shd_eq {N : Nat} {k : Int × Int} (hN : 0 < N) (hk : keyOk k.1 k.2) : ((k.1 + 5200) * 7 + k.2).tmod (N : Int) = (Q.shd N k : Int) ∧ Q.shd N k < N := by
 obtain ⟨h1, h2, h3, h4⟩ := hk
 have e : ((k.1 + 5200) * 7 + k.2).tmod (N : Int) = ((k.1 + 5200) * 7 + k.2) % (N : Int) := Int.tmod_eq_emod_of_nonneg (by omega)
 have a := Int.emod_nonneg ((k.1 + 5200) * 7 + k.2) (b := (N : Int)) (by omega)
 have b := Int.emod_lt_of_pos ((k.1 + 5200) * 7 + k.2) (b := (N : Int)) (by omega)
 unfold Q.shd
 rw [e]
 omega

theorem hom_eq {S : Nat} {k : Int × Int} (hS : 0 < S) (hk : keyOk k.1 k.2) : (k.1 + 5200 + 3 * k.2).tmod (S : Int) = (Q.hom S k : Int) ∧ Q.hom S k < S := by
 obtain ⟨h1, h2, h3, h4⟩ := hk
 have e : (k.1 + 5200 + 3 * k.2).tmod (S : Int) = (k.1 + 5200 + 3 * k.2) % (S : Int) := Int.tmod_eq_emod_of_nonneg (by omega)
 have a := Int.emod_nonneg (k.1 + 5200 + 3 * k.2) (b := (S : Int)) (by omega)
 have b := Int.emod_lt_of_pos (k.1 + 5200 + 3 * k.2) (b := (S : Int)) (by omega)
 unfold Q.hom
 rw [e]
 omega

def newQ (cb hb j0 nk h0 q : Nat) : Array Value := #[.pointer (some ⟨cb, 0, none⟩), .pointer (some ⟨hb, j0 * 2, none⟩), .int .i64 nk, .int .i64 h0, .func (.func 92) #[.pointer (some ⟨q, 0, none⟩)] #[], .int .i64 0, .pointer none, .int .i64 0]

theorem search_any {v : World} {L : Lay} {R : Raw} {c : Q.Cch} (d : Dim L) (ri : RI v L R) (lc : LC L R c) (k : Int × Int) (hk : keyOk k.1 k.2) (hl : R.ks.length < 100000) (hb : L.base ≤ v.heap.size) :
 Calls Try.prog 88 #[.pointer (some ⟨L.cb, 0, none⟩), .agg #[.int .i64 k.1, .int .i64 k.2]] v fun e v' => ∃ q R2, e = .returned (.pointer (some ⟨q, 0, none⟩)) ∧ v.heap.size ≤ q ∧ Cls v' q (newQ L.cb L.hb (Q.shd L.N k) (num R2.ks k) (Q.hom L.S k) q) 153 ∧ RI v' L R2 ∧ R2.c = upd R.c 8 R2.kv ∧ R2.h = R.h ∧ R2.s = R.s ∧ R2.k = R.k ∧ R2.o = R.o ∧ R2.q = R.q ∧ Gk R.ks R2.ks k ∧ Fr L.base v v' := by
 obtain ⟨es, hj⟩ := shd_eq d.N.1 hk
 obtain ⟨eh, hh⟩ := hom_eq d.S.1 hk
 have hcfg : cfgOk (L.N : Int) (L.S : Int) := by have := d.N; have := d.S; refine ⟨?_, ?_, ?_, ?_⟩ <;> omega
 have kS := fun u : World => shardIn_any (L.N : Int) (L.S : Int) k.1 k.2 hcfg hk u
 have kH := fun u : World => homeIn_any (L.N : Int) (L.S : Int) k.1 k.2 hcfg hk u
 rw [es] at kS
 rw [eh] at kH
 have c5 := (ri.c.cell 5 (by omega)).trans (congrArg some lc.c5)
 have c6 := (ri.c.cell 6 (by omega)).trans (congrArg some lc.c6)
 have c9 := (ri.c.cell 9 (by omega)).trans (congrArg some lc.c9)
 have htn : ∀ g, (g = L.mb ∨ R.kv.ownBlock = some g) → g < v.heap.size := by
  rintro g (e | e)
  · rw [e]; exact ri.bk.lt
  · exact (own_lt ri.ow e).1
 have hbl : ∀ v', Tn (fun g => g = L.cb ∨ g = L.mb ∨ R.kv.ownBlock = some g) v v' → Fr L.base v v' := fun v' h => Fr.tn h hb (by
  rintro g (e | e | e)
  · rw [e]; exact ri.bc
  · rw [e]; exact ri.bm
  · exact (own_lt ri.ow e).2) (by
  rintro g A ty z (e | e | e) hA
  · rw [e] at hA
    obtain ⟨A', h', _⟩ := ri.c
    rw [hA] at h'; injection h' with h'; injection h' with _ h'; rw [h']; decide
  · rw [e] at hA
    obtain ⟨n, D, ⟨es, cl, hb, _⟩, _⟩ := ri.bk
    rw [hA] at hb; cases hb
  · rcases ri.ow.2 with ⟨h', _⟩ | ⟨g', cap', cur, e', hg, hh, _⟩
    · rw [h'] at e; cases e
    · rw [e'] at e; simp [Value.ownBlock] at e; subst e
      rw [hA] at hh; injection hh with hh; injection hh with _ hh; rw [hh]; decide)
 by_cases hm : k ∈ R.ks
 · refine (search_key L.cb L.hb L.N L.S (Q.shd L.N k) (Q.hom L.S k) (num R.ks k) k.1 k.2 v (fun g => g = L.mb ∨ R.kv.ownBlock = some g) (fun u => RI u L R) (fun a b h hb => h.below hb) htn ri.c.lt hj c5 c6 c9 kS kH ?_).mono ?_
   · intro u hu
     have ru := ri.below hu
     have c7 := (ru.c.cell 7 (by omega)).trans (congrArg some lc.c7)
     refine (number_old L.cb L.mb R.ks k.1 k.2 u c7 ru.c.lt ru.bk hk (num R.ks k) rfl (num_pos hm)).mono ?_
     rintro e u' ⟨rfl, hb'⟩
     have ru' := ru.below hb'
     exact ⟨rfl, Tn.below _ hb', ru', (ru'.c.cell 5 (by omega)).trans (congrArg some lc.c5), (ru'.c.cell 6 (by omega)).trans (congrArg some lc.c6), (ru'.c.cell 9 (by omega)).trans (congrArg some lc.c9)⟩
   · rintro e v' ⟨q, rfl, hq, hcl, rv, ht⟩
     exact ⟨q, R, rfl, hq, hcl, rv, (upd_self _ _ _ lc.c8).symm, rfl, rfl, rfl, rfl, rfl, ⟨hm, .inl rfl⟩, hbl v' ht⟩
 · refine (search_key L.cb L.hb L.N L.S (Q.shd L.N k) (Q.hom L.S k) ((R.ks.length : Int) + 1) k.1 k.2 v (fun g => g = L.mb ∨ R.kv.ownBlock = some g) (fun u => ∃ kv, RI u L { R with c := upd R.c 8 kv, ks := R.ks ++ [k], kv := kv }) (fun a b h hb => let ⟨kv, h⟩ := h; ⟨kv, h.below hb⟩) htn ri.c.lt hj c5 c6 c9 kS kH ?_).mono ?_
   · intro u hu
     have ru := ri.below hu
     refine (number_new L.cb L.mb L.base R.c R.kv R.ks k.1 k.2 u ru.c lc.c7 lc.c8 ru.bk hk hm ru.ow (Nat.le_trans hb hu.size) hl).mono ?_
     rintro e u' ⟨rfl, ht, kv, hc', hb', ho'⟩
     have ru' := ru.number ht kv (R.ks ++ [k]) hc' hb' (by rw [List.length_append]; exact ho')
     exact ⟨rfl, ht, ⟨kv, ru'⟩, (hc'.cell 5 (by omega)).trans (congrArg some (by simpa [upd] using lc.c5)), (hc'.cell 6 (by omega)).trans (congrArg some (by simpa [upd] using lc.c6)), (hc'.cell 9 (by omega)).trans (congrArg some (by simpa [upd] using lc.c9))⟩
   · rintro e v' ⟨q, rfl, hq, hcl, ⟨kv, rv⟩, ht⟩
     refine ⟨q, { R with c := upd R.c 8 kv, ks := R.ks ++ [k], kv := kv }, rfl, hq, ?_, rv, rfl, rfl, rfl, rfl, rfl, rfl, ⟨by simp, .inr ⟨rfl, hm⟩⟩, hbl v' ht⟩
     simp only [newQ, num_new hm]
     exact hcl

theorem step_new (m : Nat) {w : World} {L : Lay} {R : Raw} {tasks : List (List (Int × Int))} {kx : Nat → Option Addr} {kc : Nat → Nat} {r : Q.Rst} {t n : Nat} (d : Dim L) (ri : RI w L R) (l : LT L R tasks kx kc r) (ok : Q.RstOk L.S n tasks r) (hn : n < 100000) (ht : t < L.T) (hl : r.fin t < L.len t) (ha : L.act t = false) (hlen : L.len t ≤ 1000)
 (hk : keyOk (Q.keyAt tasks t (r.fin t)).1 (Q.keyAt tasks t (r.fin t)).2) (hks : R.ks.length < 100000) (hm : R.ks.length + 1 ≤ m) (hb : L.base ≤ w.heap.size) (xb xo : Nat) (hx : kx t = some ⟨xb, xo, none⟩) (hxb : xb < L.base)
 (y0 : w.cell? ⟨xb, xo + r.fin t * 2, none⟩ = some (.int .i64 (Q.keyAt tasks t (r.fin t)).1)) (y1 : w.cell? ⟨xb, xo + r.fin t * 2 + 1, none⟩ = some (.int .i64 (Q.keyAt tasks t (r.fin t)).2)) :
 Calls Try.prog 87 #[.pointer (some ⟨L.kb t, 0, none⟩)] w fun e w' => Stepped w L tasks kx kc r t m e w' := by
 obtain ⟨k, hkk⟩ : ∃ k, k = Q.keyAt tasks t (r.fin t) := ⟨_, rfl⟩
 rw [← hkk] at hk y0 y1
 obtain ⟨-, hs⟩ := shd_eq d.N.1 hk
 obtain ⟨-, hh⟩ := hom_eq d.S.1 hk
 have K := ri.k t ht
 have hcur := l.qn t ht ha
 have tsn := ok.ts t
 have hw : IntKind.i64.wrap ((r.ts t : Int) + 1) = (r.ts t : Int) + 1 := by simp only [IntKind.wrap_i64]; omega
 have x0 := (K.cell 0 (by omega)).trans (congrArg some (l.k0 t ht))
 have x1 := (K.cell 1 (by omega)).trans (congrArg some (l.k1 t ht))
 have x3 := (K.cell 3 (by omega)).trans (congrArg some (l.k3 t ht))
 have x4 := (K.cell 4 (by omega)).trans (congrArg some (l.k4 t ht))
 have x5 := (K.cell 5 (by omega)).trans (congrArg some (l.k5 t ht))
 rw [hx] at x1
 rw [if_neg (by rw [ha]; simp)] at x4
 have hkne : xb ≠ L.kb t := by have := ri.bk' t ht; omega
 have r1 := ri.setK t ht 5 (.int .i64 ((r.ts t : Int) + 1))
 have bb : Fr L.base w (w.setCell ⟨L.kb t, 5, none⟩ (.int .i64 ((r.ts t : Int) + 1))) := (Fr.refl _ _).set (ri.bk' t ht) K (by decide) _ _
 have lc1 : LC L { R with k := Q.updN R.k t (upd (R.k t) 5 (.int .i64 ((r.ts t : Int) + 1))) } r.c := l.lc.other rfl rfl rfl rfl rfl
 have sz : (w.setCell ⟨L.kb t, 5, none⟩ (.int .i64 ((r.ts t : Int) + 1))).heap.size = w.heap.size := by simp [World.setCell]
 refine (step_fresh (L.kb t) L.cb (L.ob t) (L.len t) (kc t) (r.fin t) xb xo k.1 k.2 w
  (fun v oc => ∃ (L' : Lay) (R1 : Raw) (u : World), LE L L' ∧ L'.act t = true ∧ (∀ t', t' ≠ t → L'.act t' = L.act t' ∧ L'.qb t' = L.qb t') ∧ R1.k = Q.updN R.k t (upd (upd (R.k t) 5 (.int .i64 ((r.ts t : Int) + 1))) 4 (.pointer (some ⟨L'.qb t, 0, none⟩))) ∧ R1.o = R.o ∧ (∀ t', t' < L.T → t' ≠ t → L.act t' = true → LQ L' R1 t' (Q.keyAt tasks t' (r.fin t')) (r.cur t')) ∧ PO u v L' R1 t k (Q.stp L.S k (Q.shd L.N k) (Q.hom L.S k) r.c (r.cur t)) ∧ oc = (Q.stp L.S k (Q.shd L.N k) (Q.hom L.S k) r.c (r.cur t)).2.2 ∧ Fr L.base w u ∧ R1.ks.length ≤ m)
  (fun v q => ∃ R2, w.heap.size ≤ q ∧ Cls v q (newQ L.cb L.hb (Q.shd L.N k) (num R2.ks k) (Q.hom L.S k) q) 153 ∧ RI v L R2 ∧ R2.c = upd R.c 8 R2.kv ∧ R2.h = R.h ∧ R2.s = R.s ∧ R2.k = Q.updN R.k t (upd (R.k t) 5 (.int .i64 ((r.ts t : Int) + 1))) ∧ R2.o = R.o ∧ R2.q = R.q ∧ Gk R.ks R2.ks k ∧ Fr L.base w v)
  hl hlen (r.ts t) hw x5 K.frozen x0 x1 x3 x4 y0 y1 hkne ?_ ?_).mono ?_
 · intro v hv
   refine (search_any d (r1.qt hv) lc1 k hk hks (by rw [hv.heap, sz]; exact hb)).mono ?_
   rintro e v' ⟨q, R2, rfl, hq, hcl, ri2, g1, g2, g3, g4, g5, g6, g7, g8⟩
   have hq' : w.heap.size ≤ q := by rw [hv.heap, sz] at hq; exact hq
   have K2 := ri2.k t ht
   refine ⟨q, rfl, ⟨R2, hq', hcl, ri2, g1, g2, g3, g4, g5, g6, g7, bb.trans ((Fr.qt hv).trans g8)⟩, ?_, K2.frozen 4, ?_, hcl.cell 4 rfl⟩
   · refine (K2.cell 4 (by omega)).trans (congrArg some ?_)
     rw [g4]; simp [Q.updN, upd, l.k4 t ht, ha]
   · have := K.lt; omega
 · rintro v u q ⟨R2, hq, hcl, ri2, g1, g2, g3, g4, g5, g6, g7, g8⟩ hu
   have Qn : Bf v q 153 8 (fun i => (newQ L.cb L.hb (Q.shd L.N k) (num R2.ks k) (Q.hom L.S k) q).getD i default) := Bf.cls hcl
   have hbq : L.base ≤ q := Nat.le_trans hb hq
   have r3 := (ri2.addQ t q _ Qn (fun i hi hai e => by have := (ri.q i hi hai).lt; omega) hbq ht ha).setK t ht 4 (.pointer (some ⟨q, 0, none⟩))
   have r4 := r3.qt hu
   obtain ⟨f, hf⟩ : ∃ f : Nat → Value, f = fun i => (newQ L.cb L.hb (Q.shd L.N k) (num R2.ks k) (Q.hom L.S k) q).getD i default := ⟨_, rfl⟩
   rw [← hf] at r4
   have F0 : f 0 = .pointer (some ⟨L.cb, 0, none⟩) := by rw [hf]; rfl
   have F1 : f 1 = .pointer (some ⟨L.hb, Q.shd L.N k * 2, none⟩) := by rw [hf]; rfl
   have F2 : f 2 = .int .i64 (num R2.ks k) := by rw [hf]; rfl
   have F3 : f 3 = .int .i64 (Q.hom L.S k) := by rw [hf]; rfl
   have F4 : f 4 = .func (.func 92) #[.pointer (some ⟨q, 0, none⟩)] #[] := by rw [hf]; rfl
   have F5 : f 5 = .int .i64 0 := by rw [hf]; rfl
   clear hf r3 Qn hcl
   obtain ⟨L', hL⟩ : ∃ L' : Lay, L' = { L with qb := Q.updN L.qb t q, act := Q.updN L.act t true } := ⟨_, rfl⟩
   obtain ⟨R3, hR⟩ : ∃ R3 : Raw, R3 = { R2 with q := Q.updN R2.q t f, k := Q.updN R2.k t (upd (R2.k t) 4 (.pointer (some ⟨q, 0, none⟩))) } := ⟨_, rfl⟩
   have r5 : RI u L' R3 := by rw [hL, hR]; exact r4
   have le : LE L L' := by rw [hL]; exact ⟨rfl, rfl, rfl, rfl, rfl, rfl, rfl, rfl, rfl, rfl, rfl⟩
   have ha' : L'.act t = true := by rw [hL]; simp [Q.updN]
   have hqb : L'.qb t = q := by rw [hL]; simp [Q.updN]
   have hoth : ∀ t', t' ≠ t → L'.act t' = L.act t' ∧ L'.qb t' = L.qb t' := by intro t' e; rw [hL]; simp [Q.updN, e]
   have k3 : R3.k = Q.updN R.k t (upd (upd (R.k t) 5 (.int .i64 ((r.ts t : Int) + 1))) 4 (.pointer (some ⟨L'.qb t, 0, none⟩))) := by
    rw [hqb, hR]; simp only [g4]
    funext a
    by_cases e : a = t <;> simp [Q.updN, e]
   have o3 : R3.o = R.o := by rw [hR]; exact g5
   have c3 : R3.c = upd R.c 8 R3.kv := by rw [hR]; exact g1
   have h3 : R3.h = R.h := by rw [hR]; exact g2
   have s3 : R3.s = R.s := by rw [hR]; exact g3
   have gk : Gk R.ks R3.ks k := by rw [hR]; exact g7
   have ks3 : R3.ks = R2.ks := by rw [hR]
   have q3 : R3.q t = f := by rw [hR]; simp [Q.updN]
   have q3' : ∀ t', t' ≠ t → R3.q t' = R.q t' := by intro t' e; rw [hR]; simp [Q.updN, e, g6]
   clear hL hR r4
   have hd' : Dim L' := ⟨by rw [le.N]; exact d.N, by rw [le.S]; exact d.S⟩
   have hlc : LC L' R3 r.c := l.lc.grow c3 h3 s3 gk le.N le.S le.mb le.hb le.sb
   have hlq : LQ L' R3 t k (r.cur t) := by
    rw [hcur]
    refine ⟨?_, ?_, ?_, ?_, ?_, ?_, fun h => by simp [Q.new] at h, gk.1⟩
    · rw [q3, F0, le.cb]
    · rw [q3, F1, le.hb, le.N]
    · rw [q3, F2, ks3]
    · rw [q3, F3, le.S]
    · rw [q3, F4, hqb]; rfl
    · rw [q3, F5]; rfl
   have PL := phase_look hd' r5 hlc (by rw [le.T]; exact ht) ha' hlq (by rw [le.N]; exact hs) (by rw [le.S]; exact hh) (by rw [le.S]; exact ok.c) hn (by rw [le.S]; exact ok.q t) (by rw [hcur]; rfl)
   rw [hqb, le.N, le.S] at PL
   refine PL.mono ?_
   rintro e v' ⟨oc, rfl, hoc, po⟩
   have sk : SkO v' (L.kb t) (L.ob t) (L.len t) (kc t) (r.fin t) (kx t) := by
    obtain ⟨R', ri', -, -, pk, -⟩ := po
    have := sko_of (R := R) (r := r) (kx := kx) (kc := kc) (tasks := tasks) ri' (by rw [le.T]; exact ht) (by rw [le.len]; exact hl) (by rw [pk, k3, le.len]; simp [Q.updN, upd, l.k1 t ht]) (by rw [pk, k3, le.len, le.ob]; simp [Q.updN, upd, l.k2 t ht]) (by rw [pk, k3]; simp [Q.updN, upd, l.k3 t ht])
    rw [le.kb, le.ob, le.len] at this
    exact this
   rw [hx] at sk
   refine ⟨oc, rfl, ⟨L', R3, u, le, ha', hoth, k3, o3, ?_, po, hoc, ?_, ?_⟩, sk⟩
   · intro t' ht' e hat
     exact (l.q t' ht' hat).grow (q3' t' e) gk le.N le.S le.cb le.hb le.sb (hoth t' e).2
   · exact g8.trans (((Fr.refl _ _).set (ri.bk' t ht) (ri2.k t ht) (by decide) _ _).trans (Fr.qt hu))
   · rcases gk.2 with e | ⟨e, _⟩
     · rw [e]; omega
     · rw [e, List.length_append]; exact hm
 · rintro e w' ⟨v, oc, ⟨L', R1, u, le, h1, h2, h3, h4, h5, po, rfl, hbu, hm1⟩, h⟩
   rw [hkk] at po h
   obtain ⟨L2, R2, a1, a2, a3, a4, a5, a6⟩ := step_end (R1 := R1) ht le l hl h1 h2 h3 h4 h5 _ rfl po e h
   exact ⟨L2, R2, a1, a2, a3, a4, hbu.trans a5, Nat.le_trans a6 hm1⟩

def KeysIn (w : World) (base : Nat) (tasks : List (List (Int × Int))) (kx : Nat → Option Addr) : Prop :=
 ∀ t i, t < tasks.length → i < Q.lenAt tasks t → ∃ xb xo, kx t = some ⟨xb, xo, none⟩ ∧ xb < base ∧ w.cell? ⟨xb, xo + i * 2, none⟩ = some (.int .i64 (Q.keyAt tasks t i).1) ∧ w.cell? ⟨xb, xo + i * 2 + 1, none⟩ = some (.int .i64 (Q.keyAt tasks t i).2)

theorem KeysIn.below {w v : World} {base : Nat} {tasks : List (List (Int × Int))} {kx : Nat → Option Addr} (h : KeysIn w base tasks kx) (hb : Below base w v) : KeysIn v base tasks kx := by
 intro t i ht hi
 obtain ⟨xb, xo, e, hx, h0, h1⟩ := h t i ht hi
 exact ⟨xb, xo, e, hx, (hb.cell (p := ⟨xb, _, none⟩) hx).trans h0, (hb.cell (p := ⟨xb, _, none⟩) hx).trans h1⟩

def KeysOk (tasks : List (List (Int × Int))) : Prop := ∀ t i, t < tasks.length → i < Q.lenAt tasks t → keyOk (Q.keyAt tasks t i).1 (Q.keyAt tasks t i).2

def Mem (w : World) (L : Lay) (tasks : List (List (Int × Int))) (kx : Nat → Option Addr) (kc : Nat → Nat) (r : Q.Rst) (n : Nat) : Prop :=
 ∃ L' R, LE L L' ∧ RI w L' R ∧ LT L' R tasks kx kc r ∧ R.ks.length ≤ n ∧ L.base ≤ w.heap.size

theorem step_mem {w : World} {L : Lay} {tasks : List (List (Int × Int))} {kx : Nat → Option Addr} {kc : Nat → Nat} {r : Q.Rst} {t n : Nat} (d : Dim L) (hT : L.T = tasks.length) (hlen : ∀ t, t < L.T → L.len t = Q.lenAt tasks t ∧ L.len t ≤ 1000) (h : Mem w L tasks kx kc r n) (ok : Q.RstOk L.S n tasks r) (hn : n < 90000) (ht : t < L.T) (hl : r.fin t < L.len t) (hk : KeysOk tasks) (hi : KeysIn w L.base tasks kx) :
 Calls Try.prog 87 #[.pointer (some ⟨L.kb t, 0, none⟩)] w fun e w' => e = .returned (.bool (decide ((Q.stepR L.N L.S tasks t r).fin t < L.len t))) ∧ Mem w' L tasks kx kc (Q.stepR L.N L.S tasks t r) (n + 1) ∧ Fr L.base w w' := by
 obtain ⟨L', R, le, ri, lt, hm, hb⟩ := h
 have d' : Dim L' := ⟨by rw [le.N]; exact d.N, by rw [le.S]; exact d.S⟩
 have hl0 : r.fin t < Q.lenAt tasks t := by rw [← (hlen t ht).1]; exact hl
 have k1 := hk t (r.fin t) (by omega) hl0
 have fin : ∀ e w', Stepped w L' tasks kx kc r t (n + 1) e w' → e = .returned (.bool (decide ((Q.stepR L.N L.S tasks t r).fin t < L.len t))) ∧ Mem w' L tasks kx kc (Q.stepR L.N L.S tasks t r) (n + 1) ∧ Fr L.base w w' := by
  rintro e w' ⟨L2, R2, a1, a2, a3, a4, a5, a6⟩
  rw [le.N, le.S, le.len] at a1
  rw [le.N, le.S] at a4
  rw [le.base] at a5
  refine ⟨a1, ⟨L2, R2, ?_, a3, a4, a6, Nat.le_trans hb a5.below.size⟩, a5⟩
  exact ⟨a2.base.trans le.base, a2.cb.trans le.cb, a2.mb.trans le.mb, a2.hb.trans le.hb, a2.sb.trans le.sb, a2.kb.trans le.kb, a2.ob.trans le.ob, a2.N.trans le.N, a2.S.trans le.S, a2.T.trans le.T, a2.len.trans le.len⟩
 have ht' : t < L'.T := by rw [le.T]; exact ht
 have hl' : r.fin t < L'.len t := by rw [le.len]; exact hl
 have ok' : Q.RstOk L'.S n tasks r := by rw [le.S]; exact ok
 have hlen' : L'.len t ≤ 1000 := by rw [le.len]; exact (hlen t ht).2
 rw [← le.kb]
 cases ha : L'.act t with
 | true =>
   obtain ⟨-, hs⟩ := shd_eq d'.N.1 k1
   obtain ⟨-, hh⟩ := hom_eq d'.S.1 k1
   exact (step_act (n + 1) d' ri lt ok' (by omega) ht' hl' ha hlen' (by omega) hs hh).mono (fun e w' h => fin e w' h)
 | false =>
   obtain ⟨xb, xo, e1, e2, e3, e4⟩ := hi t (r.fin t) (by omega) hl0
   exact (step_new (n + 1) d' ri lt ok' (by omega) ht' hl' ha hlen' k1 (by omega) (by omega) (by rw [le.base]; exact hb) xb xo e1 (by rw [le.base]; exact e2) e3 e4).mono (fun e w' h => fin e w' h)

end Go.Proofs.Ytdpbhbpcpnlbkaa
