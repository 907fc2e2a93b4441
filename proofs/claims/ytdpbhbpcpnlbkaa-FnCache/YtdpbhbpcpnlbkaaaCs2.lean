import Derived.Test.YtdpbhbpcpnlbkaaaGB
import Derived.Test.YtdpbhbpcpnlbkaaaCs1
import Derived.Test.YtdpbhbpcpnlbkaaaCa3
namespace Go.Proofs.Ytdpbhbpcpnlbkaa
open Go.RowKit Go.Maps
set_option linter.unusedVariables false
set_option maxRecDepth 100000
structure SB where
 qb : Nat
 sb : Nat
 hb : Nat
 nb : Nat
 N : Nat
 S : Nat
 T : Nat

structure SR where
 q : Nat → Value
 s : Nat → Value
 h : Nat → Value
 n : Nat → Value

structure SI (w : World) (L : SB) (R : SR) : Prop where
 q : Bf w L.qb 89 9 R.q
 s : Bf w L.sb 123 (L.N * L.S * 5) R.s
 h : Bf w L.hb 3 L.N R.h
 n : Bf w L.nb 84 (L.T * 6) R.n

theorem SI.below {w v : World} {L : SB} {R : SR} (r : SI w L R) (b : Below w.heap.size w v) : SI v L R := ⟨r.q.below b, r.s.below b, r.h.below b, r.n.below b⟩

theorem SI.qt {w v : World} {L : SB} {R : SR} (r : SI w L R) (b : Qt w v) : SI v L R := ⟨r.q.qt b, r.s.qt b, r.h.qt b, r.n.qt b⟩

theorem SI.tn {p : Nat → Prop} {w v : World} {L : SB} {R : SR} (r : SI w L R) (b : Tn p w v) (h1 : ¬ p L.qb) (h2 : ¬ p L.sb) (h3 : ¬ p L.hb) (h4 : ¬ p L.nb) : SI v L R := ⟨r.q.tn b h1, r.s.tn b h2, r.h.tn b h3, r.n.tn b h4⟩

theorem SI.setQ {w : World} {L : SB} {R : SR} (r : SI w L R) (i : Nat) (x : Value) : SI (w.setCell ⟨L.qb, i, none⟩ x) L { R with q := upd R.q i x } := ⟨r.q.set i x, r.s.far _ _ _ (r.s.ne r.q (by decide)), r.h.far _ _ _ (r.h.ne r.q (by decide)), r.n.far _ _ _ (r.n.ne r.q (by decide))⟩

theorem SI.setS {w : World} {L : SB} {R : SR} (r : SI w L R) (i : Nat) (x : Value) : SI (w.setCell ⟨L.sb, i, none⟩ x) L { R with s := upd R.s i x } := ⟨r.q.far _ _ _ (r.q.ne r.s (by decide)), r.s.set i x, r.h.far _ _ _ (r.h.ne r.s (by decide)), r.n.far _ _ _ (r.n.ne r.s (by decide))⟩

theorem SI.setH {w : World} {L : SB} {R : SR} (r : SI w L R) (i : Nat) (x : Value) : SI (w.setCell ⟨L.hb, i, none⟩ x) L { R with h := upd R.h i x } := ⟨r.q.far _ _ _ (r.q.ne r.h (by decide)), r.s.far _ _ _ (r.s.ne r.h (by decide)), r.h.set i x, r.n.far _ _ _ (r.n.ne r.h (by decide))⟩

theorem SI.setN {w : World} {L : SB} {R : SR} (r : SI w L R) (i : Nat) (x : Value) : SI (w.setCell ⟨L.nb, i, none⟩ x) L { R with n := upd R.n i x } := ⟨r.q.far _ _ _ (r.q.ne r.n (by decide)), r.s.far _ _ _ (r.s.ne r.n (by decide)), r.h.far _ _ _ (r.h.ne r.n (by decide)), r.n.set i x⟩

def kOf : Option (Int × Int) → Int × Int
 | none => (0, 0)
 | some k => k

structure SlotAt (f : Nat → Value) (p : Nat) (x : Q.Slo) : Prop where
 a0 : f (p * 5) = .bool x.key.isSome
 a1 : f (p * 5 + 1) = .int .i64 (kOf x.key).1
 a2 : f (p * 5 + 2) = .int .i64 (kOf x.key).2
 a3 : f (p * 5 + 3) = .bool x.mark
 a4 : f (p * 5 + 4) = .int .i64 x.stamp

theorem SlotAt.far {f : Nat → Value} {p p' : Nat} {x : Q.Slo} (h : SlotAt f p x) (hp : p ≠ p') (d : Nat) (hd : d < 5) (v : Value) : SlotAt (upd f (p' * 5 + d) v) p x := by
 obtain ⟨a0, a1, a2, a3, a4⟩ := h
 refine ⟨?_, ?_, ?_, ?_, ?_⟩
 · rw [upd_ne _ _ (by omega)]; exact a0
 · rw [upd_ne _ _ (by omega)]; exact a1
 · rw [upd_ne _ _ (by omega)]; exact a2
 · rw [upd_ne _ _ (by omega)]; exact a3
 · rw [upd_ne _ _ (by omega)]; exact a4

structure SC (L : SB) (R : SR) (c : Q.Cch) : Prop where
 q0 : R.q 0 = .int .i64 L.N
 q1 : R.q 1 = .int .i64 L.S
 q2 : R.q 2 = .slice (some ⟨L.sb, 0, none⟩) (L.N * L.S) (L.N * L.S)
 q3 : R.q 3 = .slice (some ⟨L.hb, 0, none⟩) L.N L.N
 q4 : R.q 4 = .int .i64 c.hits
 q5 : R.q 5 = .int .i64 c.made
 q6 : R.q 6 = .int .i64 c.pub
 q7 : R.q 7 = .int .i64 c.ev
 q8 : R.q 8 = .int .i64 c.lost
 h : ∀ i, i < L.N → R.h i = .int .i64 (c.hand i)
 s : ∀ i j, i < L.N → j < L.S → SlotAt R.s (i * L.S + j) (c.sl i j)

theorem flat_ne {S i j i' j' : Nat} (hj : j < S) (hj' : j' < S) (h : ¬ (i = i' ∧ j = j')) : i * S + j ≠ i' * S + j' := by
 intro e
 have hS : 0 < S := by omega
 have h1 : (i * S + j) / S = i := by rw [Nat.mul_comm, Nat.mul_add_div hS, Nat.div_eq_of_lt hj]; omega
 have h2 : (i' * S + j') / S = i' := by rw [Nat.mul_comm, Nat.mul_add_div hS, Nat.div_eq_of_lt hj']; omega
 have e1 : i = i' := by rw [← h1, ← h2, e]
 subst e1
 exact h ⟨rfl, by omega⟩

theorem flat_lt {N S i j : Nat} (hi : i < N) (hj : j < S) : i * S + j < N * S := by
 have : (i + 1) * S ≤ N * S := Nat.mul_le_mul (by omega) (Nat.le_refl _)
 rw [Nat.add_mul] at this; omega

theorem SC.hits {L : SB} {R : SR} {c : Q.Cch} (l : SC L R c) : SC L { R with q := upd R.q 4 (.int .i64 ((c.hits : Int) + 1)) } { c with hits := c.hits + 1 } :=
 { l with
   q0 := by simp [upd, l.q0]
   q1 := by simp [upd, l.q1]
   q2 := by simp [upd, l.q2]
   q3 := by simp [upd, l.q3]
   q4 := by simp [upd]
   q5 := by simp [upd, l.q5]
   q6 := by simp [upd, l.q6]
   q7 := by simp [upd, l.q7]
   q8 := by simp [upd, l.q8] }

theorem SC.made {L : SB} {R : SR} {c : Q.Cch} (l : SC L R c) : SC L { R with q := upd R.q 5 (.int .i64 ((c.made : Int) + 1)) } { c with made := c.made + 1 } :=
 { l with
   q0 := by simp [upd, l.q0]
   q1 := by simp [upd, l.q1]
   q2 := by simp [upd, l.q2]
   q3 := by simp [upd, l.q3]
   q4 := by simp [upd, l.q4]
   q5 := by simp [upd]
   q6 := by simp [upd, l.q6]
   q7 := by simp [upd, l.q7]
   q8 := by simp [upd, l.q8] }

theorem SC.pub {L : SB} {R : SR} {c : Q.Cch} (l : SC L R c) : SC L { R with q := upd R.q 6 (.int .i64 ((c.pub : Int) + 1)) } { c with pub := c.pub + 1 } :=
 { l with
   q0 := by simp [upd, l.q0]
   q1 := by simp [upd, l.q1]
   q2 := by simp [upd, l.q2]
   q3 := by simp [upd, l.q3]
   q4 := by simp [upd, l.q4]
   q5 := by simp [upd, l.q5]
   q6 := by simp [upd]
   q7 := by simp [upd, l.q7]
   q8 := by simp [upd, l.q8] }

theorem SC.ev {L : SB} {R : SR} {c : Q.Cch} (l : SC L R c) : SC L { R with q := upd R.q 7 (.int .i64 ((c.ev : Int) + 1)) } { c with ev := c.ev + 1 } :=
 { l with
   q0 := by simp [upd, l.q0]
   q1 := by simp [upd, l.q1]
   q2 := by simp [upd, l.q2]
   q3 := by simp [upd, l.q3]
   q4 := by simp [upd, l.q4]
   q5 := by simp [upd, l.q5]
   q6 := by simp [upd, l.q6]
   q7 := by simp [upd]
   q8 := by simp [upd, l.q8] }

theorem SC.lost {L : SB} {R : SR} {c : Q.Cch} (l : SC L R c) : SC L { R with q := upd R.q 8 (.int .i64 ((c.lost : Int) + 1)) } { c with lost := c.lost + 1 } :=
 { l with
   q0 := by simp [upd, l.q0]
   q1 := by simp [upd, l.q1]
   q2 := by simp [upd, l.q2]
   q3 := by simp [upd, l.q3]
   q4 := by simp [upd, l.q4]
   q5 := by simp [upd, l.q5]
   q6 := by simp [upd, l.q6]
   q7 := by simp [upd, l.q7]
   q8 := by simp [upd] }

theorem SC.put {L : SB} {R : SR} {c : Q.Cch} (l : SC L R c) (s j : Nat) (hj : j < L.S) (x : Q.Slo) (f : Nat → Value) (h1 : ∀ p, p ≠ s * L.S + j → ∀ y, SlotAt R.s p y → SlotAt f p y) (h2 : SlotAt f (s * L.S + j) x) : SC L { R with s := f } { c with sl := Q.put c.sl s j x } := by
 refine { l with s := fun a b ha hb => ?_ }
 simp only [Q.put]
 by_cases e : a = s ∧ b = j
 · rw [if_pos e]; obtain ⟨rfl, rfl⟩ := e; exact h2
 · rw [if_neg e]; exact h1 _ (flat_ne hb hj e) _ (l.s a b ha hb)

theorem SC.mark {L : SB} {R : SR} {c : Q.Cch} (l : SC L R c) (s j : Nat) (hs : s < L.N) (hj : j < L.S) (b : Bool) : SC L { R with s := upd R.s ((s * L.S + j) * 5 + 3) (.bool b) } { c with sl := Q.put c.sl s j { c.sl s j with mark := b } } := by
 refine l.put s j hj _ _ (fun p hp y h => h.far hp 3 (by omega) _) ?_
 obtain ⟨a0, a1, a2, a3, a4⟩ := l.s s j hs hj
 refine ⟨?_, ?_, ?_, ?_, ?_⟩
 · rw [upd_ne _ _ (by omega)]; exact a0
 · rw [upd_ne _ _ (by omega)]; exact a1
 · rw [upd_ne _ _ (by omega)]; exact a2
 · rw [upd_at]
 · rw [upd_ne _ _ (by omega)]; exact a4

theorem SC.full {L : SB} {R : SR} {c : Q.Cch} (l : SC L R c) (s j : Nat) (hj : j < L.S) (k : Int × Int) (n : Nat) (st : Int) (hst : st = (n : Int)) :
 SC L { R with s := upd (upd (upd (upd (upd R.s ((s * L.S + j) * 5) (.bool true)) ((s * L.S + j) * 5 + 1) (.int .i64 k.1)) ((s * L.S + j) * 5 + 2) (.int .i64 k.2)) ((s * L.S + j) * 5 + 3) (.bool false)) ((s * L.S + j) * 5 + 4) (.int .i64 st) } { c with sl := Q.put c.sl s j ⟨some k, false, n⟩ } := by
 subst hst
 refine l.put s j hj _ _ (fun p hp y h => ((((h.far hp 0 (by omega) _).far hp 1 (by omega) _).far hp 2 (by omega) _).far hp 3 (by omega) _).far hp 4 (by omega) _) ?_
 refine ⟨?_, ?_, ?_, ?_, ?_⟩ <;> simp [upd, kOf]

theorem SC.hand' {L : SB} {R : SR} {c : Q.Cch} (l : SC L R c) (s n : Nat) : SC L { R with h := upd R.h s (.int .i64 n) } { c with hand := fun a => if a = s then n else c.hand a } := by
 refine { l with h := fun i hi => ?_ }
 by_cases e : i = s
 · subst e; simp [upd]
 · simp only [upd_ne _ _ e, if_neg e]; exact l.h i hi

theorem SC.other {L : SB} {R : SR} {c : Q.Cch} (l : SC L R c) (f : Nat → Value) : SC L { R with n := f } c := { l with }

structure SN (L : SB) (f : Nat → Value) (t : Nat) (k : Int × Int) (q : Q.Sea) : Prop where
 n2 : f (t * 6 + 2) = .int .i64 q.ph
 n3 : f (t * 6 + 3) = .int .i64 q.i
 n4 : q.ph = 3 → f (t * 6 + 4) = .int .i64 ((Q.shd L.N k * L.S + q.pl : Nat) : Int) ∧ f (t * 6 + 5) = .int .i64 q.seen

structure SD (L : SB) : Prop where
 N : 0 < L.N ∧ L.N ≤ 16
 S : 0 < L.S ∧ L.S ≤ 64

theorem ss_of {w : World} {L : SB} {R : SR} {c : Q.Cch} {t : Nat} {k : Int × Int} {q : Q.Sea} (d : SD L) (r : SI w L R) (l : SC L R c) (ht : t < L.T) (sn : SN L R.n t k q) (k0 : R.n (t * 6) = .int .i64 k.1) (k1 : R.n (t * 6 + 1) = .int .i64 k.2) (hi : q.i ≤ L.S) :
 Ss w L.qb L.sb L.hb L.nb (t * 6) L.N L.S k q.ph q.i := by
 have := d.S
 exact ⟨(r.q.cell 0 (by omega)).trans (congrArg some l.q0), (r.q.cell 1 (by omega)).trans (congrArg some l.q1), (r.q.cell 2 (by omega)).trans (congrArg some l.q2), (r.q.cell 3 (by omega)).trans (congrArg some l.q3),
  (r.n.cell _ (by omega)).trans (congrArg some k0), (r.n.cell _ (by omega)).trans (congrArg some k1), (r.n.cell _ (by omega)).trans (congrArg some sn.n2), (r.n.cell _ (by omega)).trans (congrArg some sn.n3), ⟨_, r.n.cell _ (by omega)⟩, ⟨_, r.n.cell _ (by omega)⟩,
  r.q.frozen, r.s.frozen, r.h.frozen, r.n.frozen, r.q.lt, r.s.lt, r.h.lt, r.n.lt, r.q.ne r.s (by decide), r.q.ne r.h (by decide), r.q.ne r.n (by decide), r.s.ne r.h (by decide), r.s.ne r.n (by decide), r.h.ne r.n (by decide), d.N, d.S, by omega⟩

end Go.Proofs.Ytdpbhbpcpnlbkaa
