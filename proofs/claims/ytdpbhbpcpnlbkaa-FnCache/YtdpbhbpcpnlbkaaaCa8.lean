import Derived.Test.YtdpbhbpcpnlbkaaaCa7
namespace Go.Proofs.Ytdpbhbpcpnlbkaa
open Go.RowKit Go.Maps
set_option linter.unusedVariables false
set_option maxRecDepth 100000
def numO (ks : List (Int × Int)) : Option (Int × Int) → Nat
 | none => 0
 | some k => num ks k

def phF (p : Nat) : Nat := if p = 0 then 92 else if p = 1 then 95 else if p = 2 then 96 else 100

structure LC (L : Lay) (R : Raw) (c : Q.Cch) : Prop where
 c0 : R.c 0 = .int .i64 c.hits
 c1 : R.c 1 = .int .i64 c.made
 c2 : R.c 2 = .int .i64 c.pub
 c3 : R.c 3 = .int .i64 c.ev
 c4 : R.c 4 = .int .i64 c.lost
 c5 : R.c 5 = .int .i64 L.N
 c6 : R.c 6 = .int .i64 L.S
 c7 : R.c 7 = .map (some L.mb)
 c8 : R.c 8 = R.kv
 c9 : R.c 9 = .slice (some ⟨L.hb, 0, none⟩) L.N L.N
 h0 : ∀ i, i < L.N → R.h (i * 2) = .slice (some ⟨L.sb i, 0, none⟩) L.S L.S
 h1 : ∀ i, i < L.N → R.h (i * 2 + 1) = .int .i64 (c.hand i)
 s0 : ∀ i j, i < L.N → j < L.S → R.s i (j * 3) = .int .i64 (numO R.ks (c.sl i j).key)
 s1 : ∀ i j, i < L.N → j < L.S → R.s i (j * 3 + 1) = .bool (c.sl i j).mark
 s2 : ∀ i j, i < L.N → j < L.S → R.s i (j * 3 + 2) = .int .i64 (c.sl i j).stamp
 mem : ∀ i j k, i < L.N → j < L.S → (c.sl i j).key = some k → k ∈ R.ks

structure LQ (L : Lay) (R : Raw) (t : Nat) (k : Int × Int) (q : Q.Sea) : Prop where
 q0 : R.q t 0 = .pointer (some ⟨L.cb, 0, none⟩)
 q1 : R.q t 1 = .pointer (some ⟨L.hb, Q.shd L.N k * 2, none⟩)
 q2 : R.q t 2 = .int .i64 (num R.ks k)
 q3 : R.q t 3 = .int .i64 (Q.hom L.S k)
 q4 : R.q t 4 = .func (.func (phF q.ph)) #[.pointer (some ⟨L.qb t, 0, none⟩)] #[]
 q5 : R.q t 5 = .int .i64 q.i
 q6 : q.ph = 3 → R.q t 6 = .pointer (some ⟨L.sb (Q.shd L.N k), q.pl * 3, none⟩) ∧ R.q t 7 = .int .i64 q.seen
 km : k ∈ R.ks

theorem LC.hits {L : Lay} {R : Raw} {c : Q.Cch} (l : LC L R c) : LC L { R with c := upd R.c 0 (.int .i64 ((c.hits : Int) + 1)) } { c with hits := c.hits + 1 } :=
 { l with
   c0 := by simp [upd]
   c1 := by simp [upd, l.c1]
   c2 := by simp [upd, l.c2]
   c3 := by simp [upd, l.c3]
   c4 := by simp [upd, l.c4]
   c5 := by simp [upd, l.c5]
   c6 := by simp [upd, l.c6]
   c7 := by simp [upd, l.c7]
   c8 := by simp [upd, l.c8]
   c9 := by simp [upd, l.c9] }

theorem LC.made {L : Lay} {R : Raw} {c : Q.Cch} (l : LC L R c) : LC L { R with c := upd R.c 1 (.int .i64 ((c.made : Int) + 1)) } { c with made := c.made + 1 } :=
 { l with
   c0 := by simp [upd, l.c0]
   c1 := by simp [upd]
   c2 := by simp [upd, l.c2]
   c3 := by simp [upd, l.c3]
   c4 := by simp [upd, l.c4]
   c5 := by simp [upd, l.c5]
   c6 := by simp [upd, l.c6]
   c7 := by simp [upd, l.c7]
   c8 := by simp [upd, l.c8]
   c9 := by simp [upd, l.c9] }

theorem LC.pub {L : Lay} {R : Raw} {c : Q.Cch} (l : LC L R c) : LC L { R with c := upd R.c 2 (.int .i64 ((c.pub : Int) + 1)) } { c with pub := c.pub + 1 } :=
 { l with
   c0 := by simp [upd, l.c0]
   c1 := by simp [upd, l.c1]
   c2 := by simp [upd]
   c3 := by simp [upd, l.c3]
   c4 := by simp [upd, l.c4]
   c5 := by simp [upd, l.c5]
   c6 := by simp [upd, l.c6]
   c7 := by simp [upd, l.c7]
   c8 := by simp [upd, l.c8]
   c9 := by simp [upd, l.c9] }

theorem LC.ev {L : Lay} {R : Raw} {c : Q.Cch} (l : LC L R c) : LC L { R with c := upd R.c 3 (.int .i64 ((c.ev : Int) + 1)) } { c with ev := c.ev + 1 } :=
 { l with
   c0 := by simp [upd, l.c0]
   c1 := by simp [upd, l.c1]
   c2 := by simp [upd, l.c2]
   c3 := by simp [upd]
   c4 := by simp [upd, l.c4]
   c5 := by simp [upd, l.c5]
   c6 := by simp [upd, l.c6]
   c7 := by simp [upd, l.c7]
   c8 := by simp [upd, l.c8]
   c9 := by simp [upd, l.c9] }

theorem LC.lost {L : Lay} {R : Raw} {c : Q.Cch} (l : LC L R c) : LC L { R with c := upd R.c 4 (.int .i64 ((c.lost : Int) + 1)) } { c with lost := c.lost + 1 } :=
 { l with
   c0 := by simp [upd, l.c0]
   c1 := by simp [upd, l.c1]
   c2 := by simp [upd, l.c2]
   c3 := by simp [upd, l.c3]
   c4 := by simp [upd]
   c5 := by simp [upd, l.c5]
   c6 := by simp [upd, l.c6]
   c7 := by simp [upd, l.c7]
   c8 := by simp [upd, l.c8]
   c9 := by simp [upd, l.c9] }

theorem LC.mark {L : Lay} {R : Raw} {c : Q.Cch} (l : LC L R c) (s j : Nat) (hs : s < L.N) (hj : j < L.S) (b : Bool) : LC L { R with s := Q.updN R.s s (upd (R.s s) (j * 3 + 1) (.bool b)) } { c with sl := Q.put c.sl s j { c.sl s j with mark := b } } := by
 refine { l with s0 := fun a d ha hd => ?_, s1 := fun a d ha hd => ?_, s2 := fun a d ha hd => ?_, mem := fun a d k ha hd h => ?_ }
 · simp only [Q.updN, Q.put]
   by_cases e : a = s
   · subst e
     rw [if_pos rfl, upd_ne _ _ (by omega), l.s0 a d ha hd]
     by_cases e2 : d = j
     · subst e2; simp
     · simp [e2]
   · rw [if_neg e, l.s0 a d ha hd]; simp [e]
 · simp only [Q.updN, Q.put]
   by_cases e : a = s
   · subst e
     rw [if_pos rfl]
     by_cases e2 : d = j
     · subst e2; simp [upd]
     · rw [upd_ne _ _ (by omega), l.s1 a d ha hd]; simp [e2]
   · rw [if_neg e, l.s1 a d ha hd]; simp [e]
 · simp only [Q.updN, Q.put]
   by_cases e : a = s
   · subst e
     rw [if_pos rfl, upd_ne _ _ (by omega), l.s2 a d ha hd]
     by_cases e2 : d = j
     · subst e2; simp
     · simp [e2]
   · rw [if_neg e, l.s2 a d ha hd]; simp [e]
 · refine l.mem a d k ha hd ?_
   simp only [Q.put] at h
   split at h
   · rename_i e; obtain ⟨rfl, rfl⟩ := e; exact h
   · exact h

theorem LC.full {L : Lay} {R : Raw} {c : Q.Cch} (l : LC L R c) (s j : Nat) (hs : s < L.N) (hj : j < L.S) (k : Int × Int) (hk : k ∈ R.ks) (n : Nat) (st : Int) (hst : st = (n : Int)) : LC L { R with s := Q.updN (Q.updN (Q.updN R.s s (upd (R.s s) (j * 3) (.int .i64 (num R.ks k)))) s (upd (Q.updN R.s s (upd (R.s s) (j * 3) (.int .i64 (num R.ks k))) s) (j * 3 + 1) (.bool false))) s (upd (Q.updN (Q.updN R.s s (upd (R.s s) (j * 3) (.int .i64 (num R.ks k)))) s (upd (Q.updN R.s s (upd (R.s s) (j * 3) (.int .i64 (num R.ks k))) s) (j * 3 + 1) (.bool false)) s) (j * 3 + 2) (.int .i64 st)) } { c with sl := Q.put c.sl s j ⟨some k, false, n⟩ } := by
 subst hst
 have hA : ∀ a d, a < L.N → (Q.updN (Q.updN (Q.updN R.s s (upd (R.s s) (j * 3) (.int .i64 (num R.ks k)))) s (upd (Q.updN R.s s (upd (R.s s) (j * 3) (.int .i64 (num R.ks k))) s) (j * 3 + 1) (.bool false))) s (upd (Q.updN (Q.updN R.s s (upd (R.s s) (j * 3) (.int .i64 (num R.ks k)))) s (upd (Q.updN R.s s (upd (R.s s) (j * 3) (.int .i64 (num R.ks k))) s) (j * 3 + 1) (.bool false)) s) (j * 3 + 2) (.int .i64 (n : Int)))) a d = if a = s then upd (upd (upd (R.s s) (j * 3) (.int .i64 (num R.ks k))) (j * 3 + 1) (.bool false)) (j * 3 + 2) (.int .i64 (n : Int)) d else R.s a d := by
  intro a d ha
  simp only [Q.updN]
  by_cases e : a = s <;> simp [e]
 refine { l with s0 := fun a d ha hd => ?_, s1 := fun a d ha hd => ?_, s2 := fun a d ha hd => ?_, mem := fun a d k' ha hd h => ?_ }
 · refine (hA a _ ha).trans ?_
   by_cases e : a = s
   · subst e
     rw [if_pos rfl, upd_ne _ _ (by omega), upd_ne _ _ (by omega)]
     by_cases e2 : d = j
     · subst e2; simp [upd, Q.put, numO]
     · rw [upd_ne _ _ (by omega), l.s0 a d ha hd]; simp [Q.put, e2]
   · rw [if_neg e, l.s0 a d ha hd]; simp [Q.put, e]
 · refine (hA a _ ha).trans ?_
   by_cases e : a = s
   · subst e
     rw [if_pos rfl, upd_ne _ _ (by omega)]
     by_cases e2 : d = j
     · subst e2; simp [upd, Q.put]
     · rw [upd_ne _ _ (by omega), upd_ne _ _ (by omega), l.s1 a d ha hd]; simp [Q.put, e2]
   · rw [if_neg e, l.s1 a d ha hd]; simp [Q.put, e]
 · refine (hA a _ ha).trans ?_
   by_cases e : a = s
   · subst e
     rw [if_pos rfl]
     by_cases e2 : d = j
     · subst e2; simp [upd, Q.put]
     · rw [upd_ne _ _ (by omega), upd_ne _ _ (by omega), upd_ne _ _ (by omega), l.s2 a d ha hd]; simp [Q.put, e2]
   · rw [if_neg e, l.s2 a d ha hd]; simp [Q.put, e]
 · simp only [Q.put] at h
   split at h
   · cases h; exact hk
   · exact l.mem a d k' ha hd h

theorem LC.hand' {L : Lay} {R : Raw} {c : Q.Cch} (l : LC L R c) (s n : Nat) (hs : s < L.N) : LC L { R with h := upd R.h (s * 2 + 1) (.int .i64 n) } { c with hand := fun a => if a = s then n else c.hand a } := by
 refine { l with h0 := fun i hi => ?_, h1 := fun i hi => ?_ }
 · simp only [upd_ne _ _ (show i * 2 ≠ s * 2 + 1 by omega)]; exact l.h0 i hi
 · by_cases e : i = s
   · subst e; simp [upd]
   · simp only [upd_ne _ _ (show i * 2 + 1 ≠ s * 2 + 1 by omega), if_neg e]; exact l.h1 i hi

theorem LC.other {L : Lay} {R R' : Raw} {c : Q.Cch} (l : LC L R c) (h1 : R'.c = R.c) (h2 : R'.h = R.h) (h3 : R'.s = R.s) (h4 : R'.ks = R.ks) (h5 : R'.kv = R.kv) : LC L R' c := by
 obtain ⟨a, b, d, e, f, g, h, i, j, k, m, n, o, p, q, r⟩ := l
 constructor <;> simp only [h1, h2, h3, h4, h5] <;> assumption

theorem LQ.other {L : Lay} {R R' : Raw} {t : Nat} {k : Int × Int} {q : Q.Sea} (l : LQ L R t k q) (h1 : R'.q t = R.q t) (h2 : R'.ks = R.ks) : LQ L R' t k q := by
 obtain ⟨a, b, d, e, f, g, h, i⟩ := l
 constructor <;> simp only [h1, h2] <;> assumption

structure Dim (L : Lay) : Prop where
 N : 0 < L.N ∧ L.N ≤ 16
 S : 0 < L.S ∧ L.S ≤ 64

theorem sr_of {w : World} {L : Lay} {R : Raw} {c : Q.Cch} {t : Nat} {k : Int × Int} {q : Q.Sea} (d : Dim L) (r : RI w L R) (l : LC L R c) (ht : t < L.T) (ha : L.act t = true) (lq : LQ L R t k q) (hs : Q.shd L.N k < L.N) (hh : Q.hom L.S k < L.S) (hi : q.i ≤ L.S) :
 Sr w (L.qb t) L.cb L.hb (Q.shd L.N k * 2) (L.sb (Q.shd L.N k)) (num R.ks k) (Q.hom L.S k) q.i L.S := by
 have Qb := r.q t ht ha
 have Sb := r.s _ hs
 have := d.S
 exact ⟨(Qb.cell 0 (by omega)).trans (congrArg some lq.q0), (Qb.cell 1 (by omega)).trans (congrArg some lq.q1), (Qb.cell 2 (by omega)).trans (congrArg some lq.q2), (Qb.cell 3 (by omega)).trans (congrArg some lq.q3), ⟨_, Qb.cell 4 (by omega)⟩, (Qb.cell 5 (by omega)).trans (congrArg some lq.q5), (r.h.cell _ (by omega)).trans (congrArg some (l.h0 _ hs)),
  Qb.frozen, r.c.frozen, Sb.frozen, r.h.frozen, Qb.ne r.c (by decide), Qb.ne r.h (by decide), Qb.ne Sb (by decide), r.c.ne r.h (by decide), r.c.ne Sb (by decide), r.h.ne Sb (by decide), d.S, by omega, by omega⟩

end Go.Proofs.Ytdpbhbpcpnlbkaa
