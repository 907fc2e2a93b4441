import Derived.Test.YtdpbhbpcpnlbkaaaCs2
import Derived.Test.YtdpbhbpcpnlbkaaaCs1L
import Derived.Test.YtdpbhbpcpnlbkaaaCs1P
import Derived.Test.YtdpbhbpcpnlbkaaaCs1H
import Derived.Test.YtdpbhbpcpnlbkaaaCs1S
import Derived.Test.YtdpbhbpcpnlbkaaaGC
namespace Go.Proofs.Ytdpbhbpcpnlbkaa
open Go.RowKit Go.Maps
set_option linter.unusedVariables false
set_option maxRecDepth 100000
def pS (L : SB) : Nat → Prop := fun g => g = L.qb ∨ g = L.sb ∨ g = L.hb ∨ g = L.nb

def SO (w : World) (L : SB) (R : SR) (t : Nat) (k : Int × Int) (x : Q.Cch × Q.Sea × Nat) (w' : World) : Prop :=
 ∃ R', SI w' L R' ∧ SC L R' x.1 ∧ (x.2.2 = 0 → SN L R'.n t k x.2.1) ∧ (∀ a, (a < t * 6 ∨ t * 6 + 6 ≤ a) → R'.n a = R.n a) ∧ Tn (pS L) w w'

theorem isk (x : Option (Int × Int)) (k : Int × Int) : (x.isSome = true ∧ kOf x = k) ↔ x = some k := by
 cases x <;> simp [kOf]

theorem tQ {L : SB} {w v : World} (h : Tn (pS L) w v) (i : Nat) (x : Value) : Tn (pS L) w (v.setCell ⟨L.qb, i, none⟩ x) := h.trans (Tn.set _ _ _ _ (.inl rfl))

theorem tS {L : SB} {w v : World} (h : Tn (pS L) w v) (i : Nat) (x : Value) : Tn (pS L) w (v.setCell ⟨L.sb, i, none⟩ x) := h.trans (Tn.set _ _ _ _ (.inr (.inl rfl)))

theorem tH {L : SB} {w v : World} (h : Tn (pS L) w v) (i : Nat) (x : Value) : Tn (pS L) w (v.setCell ⟨L.hb, i, none⟩ x) := h.trans (Tn.set _ _ _ _ (.inr (.inr (.inl rfl))))

theorem tN {L : SB} {w v : World} (h : Tn (pS L) w v) (i : Nat) (x : Value) : Tn (pS L) w (v.setCell ⟨L.nb, i, none⟩ x) := h.trans (Tn.set _ _ _ _ (.inr (.inr (.inr rfl))))

theorem tE {L : SB} {w v u : World} (h : Tn (pS L) w v) (q : Qt v u) : Tn (pS L) w u := h.trans (Tn.qt _ q)

theorem sstep_any {w : World} {L : SB} {R : SR} {c : Q.Cch} {q : Q.Sea} {t n : Nat} {k : Int × Int} (d : SD L) (si : SI w L R) (sc : SC L R c) (sn : SN L R.n t k q) (ht : t < L.T) (k0 : R.n (t * 6) = .int .i64 k.1) (k1 : R.n (t * 6 + 1) = .int .i64 k.2) (hk : keyOk k.1 k.2) (ok : Q.CchOk L.S n c) (sok : Q.SeaOk L.S q) (hn : n < 100000) :
 Calls Try.prog 36 #[.pointer (some ⟨L.qb, 0, none⟩), .pointer (some ⟨L.nb, t * 6, none⟩)] w fun e w' => ∃ x : Int, e = .returned (.int .i64 x) ∧ x = ((Q.stp L.S k (Q.shd L.N k) (Q.hom L.S k) c q).2.2 : Int) ∧ SO w L R t k (Q.stp L.S k (Q.shd L.N k) (Q.hom L.S k) c q) w' := by
 obtain ⟨es, hs⟩ := shd_eq d.N.1 hk
 obtain ⟨eh, hh⟩ := hom_eq d.S.1 hk
 obtain ⟨p1, p2, p3, p4⟩ := sok
 obtain ⟨o1, o2, o3, o4, o5, o6, o7⟩ := ok
 have dS := d.S
 have S0 := ss_of d si sc ht sn k0 k1 p2
 have hj : (Q.hom L.S k + q.i) % L.S < L.S := Nat.mod_lt _ dS.1
 have T0 : ∀ v, Below w.heap.size w v → Tn (pS L) w v := fun v hb => Tn.below _ hb
 obtain ⟨s, hsd⟩ : ∃ s, s = Q.shd L.N k := ⟨_, rfl⟩
 obtain ⟨h, hhd⟩ : ∃ h, h = Q.hom L.S k := ⟨_, rfl⟩
 rw [← hsd] at es hs ⊢
 rw [← hhd] at eh hh hj ⊢
 have hph : q.ph = 0 ∨ q.ph = 1 ∨ q.ph = 2 ∨ q.ph = 3 := by omega
 rcases hph with hp | hp | hp | hp
 · -- look
   obtain ⟨j, hjj⟩ : ∃ j, (h + q.i) % L.S = j := ⟨_, rfl⟩
   rw [hjj] at hj
   have hfl := flat_lt (N := L.N) hs hj
   have sl := sc.s s j hs hj
   rw [hp] at S0
   refine sp_look L.qb L.sb L.hb L.nb (t * 6) L.N L.S q.i s h (s * L.S) (s * L.S + j) j k w S0 hk es eh hs hh rfl hjj rfl
    (c.sl s j).key.isSome (c.sl s j).mark (kOf (c.sl s j).key) (c.sl s j).stamp ((si.s.cell _ (by omega)).trans (congrArg some sl.a0)) ((si.s.cell _ (by omega)).trans (congrArg some sl.a1)) ((si.s.cell _ (by omega)).trans (congrArg some sl.a2)) ((si.s.cell _ (by omega)).trans (congrArg some sl.a3)) ((si.s.cell _ (by omega)).trans (congrArg some sl.a4))
    c.hits (by omega) ((si.q.cell 4 (by omega)).trans (congrArg some sc.q4)) _ ?_ ?_ ?_
   · intro e1 e2 v w' hb hq
     have e3 := (isk _ _).1 ⟨e1, e2⟩
     have ex : Q.stp L.S k s h c q = ({ c with sl := Q.put c.sl s j { c.sl s j with mark := true }, hits := c.hits + 1 }, q, 1) := by
      unfold Q.stp; rw [if_pos hp, hjj, if_pos e3]
     rw [ex]
     exact ⟨rfl, _, (((si.below hb).setS _ _).setQ _ _).qt hq, (sc.mark s j hs hj true).hits, fun h => by simp at h, fun a _ => rfl, tE (tQ (tS (T0 v hb) _ _) _ _) hq⟩
   · intro e1 e2 v w' hb hq
     have e3 : ¬ (c.sl s j).key = some k := fun h => e1 ((isk _ _).2 h)
     have ex : Q.stp L.S k s h c q = (c, { q with i := q.i + 1, ph := 1 }, 0) := by
      unfold Q.stp; rw [if_pos hp, hjj, if_neg e3, if_pos e2]
     rw [ex]
     refine ⟨rfl, _, (((si.below hb).setN _ _).setN _ _).qt hq, sc.other _, fun _ => ⟨by simp [upd], by simp [upd], fun h => by simp at h⟩, fun a ha => ?_, tE (tN (tN (T0 v hb) _ _) _ _) hq⟩
     simp only; rw [upd_ne _ _ (by omega), upd_ne _ _ (by omega)]
   · intro e1 e2 v w' hb hq
     have e3 : ¬ (c.sl s j).key = some k := fun h => e1 ((isk _ _).2 h)
     have ex : Q.stp L.S k s h c q = (c, { q with i := q.i + 1 }, 0) := by
      unfold Q.stp; rw [if_pos hp, hjj, if_neg e3, if_neg e2]
     rw [ex]
     refine ⟨rfl, _, ((si.below hb).setN _ _).qt hq, sc.other _, fun _ => ⟨?_, by simp [upd], fun h => by simp [hp] at h⟩, fun a ha => ?_, tE (tN (T0 v hb) _ _) hq⟩
     · simp only; rw [upd_ne _ _ (by omega), sn.n2]
     · simp only; rw [upd_ne _ _ (by omega)]
 · -- make
   rw [hp] at S0
   refine sp_make L.qb L.sb L.hb L.nb (t * 6) L.N L.S q.i s h (s * L.S) _ _ k w S0 hk es eh hs hh rfl rfl rfl c.made (by omega) ((si.q.cell 5 (by omega)).trans (congrArg some sc.q5)) _ ?_
   intro v w' hb hq
   have ex : Q.stp L.S k s h c q = ({ c with made := c.made + 1 }, { q with ph := 2, i := 0 }, 0) := by
    unfold Q.stp; rw [if_neg (by omega), if_pos hp]
   rw [ex]
   refine ⟨rfl, _, ((((si.below hb).setQ _ _).setN _ _).setN _ _).qt hq, sc.made.other _, fun _ => ⟨by simp [upd], by simp [upd], fun h => by simp at h⟩, fun a ha => ?_, tE (tN (tN (tQ (T0 v hb) _ _) _ _) _ _) hq⟩
   simp only; rw [upd_ne _ _ (by omega), upd_ne _ _ (by omega)]
 · -- pick
   rw [hp] at S0
   by_cases hi : q.i < L.S
   · obtain ⟨j, hjj⟩ : ∃ j, (h + q.i) % L.S = j := ⟨_, rfl⟩
     rw [hjj] at hj
     have hfl := flat_lt (N := L.N) hs hj
     have sl := sc.s s j hs hj
     refine sp_pick L.qb L.sb L.hb L.nb (t * 6) L.N L.S q.i s h (s * L.S) (s * L.S + j) j k w S0 hk es eh hs hh rfl hjj rfl
      (c.sl s j).key.isSome (c.sl s j).mark (kOf (c.sl s j).key) (c.sl s j).stamp ((si.s.cell _ (by omega)).trans (congrArg some sl.a0)) ((si.s.cell _ (by omega)).trans (congrArg some sl.a1)) ((si.s.cell _ (by omega)).trans (congrArg some sl.a2)) ((si.s.cell _ (by omega)).trans (congrArg some sl.a3)) ((si.s.cell _ (by omega)).trans (congrArg some sl.a4))
      hi _ ?_ ?_
     · intro e1 v w' hb hq
       have e3 : ¬ (c.sl s j).key = none := fun h => by rw [h] at e1; simp at e1
       have ex : Q.stp L.S k s h c q = (c, { q with i := q.i + 1 }, 0) := by
        unfold Q.stp; rw [if_neg (by omega), if_neg (by omega), if_pos hp, if_pos hi, hjj, if_neg e3]
       rw [ex]
       refine ⟨rfl, _, ((si.below hb).setN _ _).qt hq, sc.other _, fun _ => ⟨?_, by simp [upd], fun h => by simp [hp] at h⟩, fun a ha => ?_, tE (tN (T0 v hb) _ _) hq⟩
       · simp only; rw [upd_ne _ _ (by omega), sn.n2]
       · simp only; rw [upd_ne _ _ (by omega)]
     · intro e1 v w' hb hq
       have e3 : (c.sl s j).key = none := by simpa using e1
       have ex : Q.stp L.S k s h c q = (c, { q with ph := 3, pl := j, seen := (c.sl s j).stamp }, 0) := by
        unfold Q.stp; rw [if_neg (by omega), if_neg (by omega), if_pos hp, if_pos hi, hjj, if_pos e3]
       rw [ex]
       refine ⟨rfl, _, ((((si.below hb).setN _ _).setN _ _).setN _ _).qt hq, sc.other _, fun _ => ⟨by simp [upd], ?_, fun h => ⟨?_, ?_⟩⟩, fun a ha => ?_, tE (tN (tN (tN (T0 v hb) _ _) _ _) _ _) hq⟩
       · simp only; rw [upd_ne _ _ (by omega), upd_ne _ _ (by omega), upd_ne _ _ (by omega), sn.n3]
       · simp only; rw [upd_ne _ _ (by omega), upd_ne _ _ (by omega), upd_at, ← hsd]
       · simp only; rw [upd_ne _ _ (by omega), upd_at]
       · simp only; rw [upd_ne _ _ (by omega), upd_ne _ _ (by omega), upd_ne _ _ (by omega)]
   · have hd := o2 s
     have hfl := flat_lt (N := L.N) hs hd
     have sl := sc.s s (c.hand s) hs hd
     refine sp_hand L.qb L.sb L.hb L.nb (t * 6) L.N L.S q.i s h (s * L.S) _ _ (s * L.S + c.hand s) k w S0 hk es eh hs hh rfl rfl rfl
      (c.sl s (c.hand s)).key.isSome (c.sl s (c.hand s)).mark (kOf (c.sl s (c.hand s)).key) (c.sl s (c.hand s)).stamp ((si.s.cell _ (by omega)).trans (congrArg some sl.a0)) ((si.s.cell _ (by omega)).trans (congrArg some sl.a1)) ((si.s.cell _ (by omega)).trans (congrArg some sl.a2)) ((si.s.cell _ (by omega)).trans (congrArg some sl.a3)) ((si.s.cell _ (by omega)).trans (congrArg some sl.a4))
      hi (c.hand s) ((c.hand s + 1) % L.S) hd rfl rfl ((si.h.cell _ hs).trans (congrArg some (sc.h s hs))) _ ?_ ?_
     · intro e1 v w' hb hq
       have ex : Q.stp L.S k s h c q = ({ c with hand := fun a => if a = s then (c.hand s + 1) % L.S else c.hand a, sl := Q.put c.sl s (c.hand s) { c.sl s (c.hand s) with mark := false } }, q, 0) := by
        unfold Q.stp; rw [if_neg (by omega), if_neg (by omega), if_pos hp, if_neg hi, if_pos e1]
       rw [ex]
       have m1 := (sc.hand' s ((c.hand s + 1) % L.S)).mark s (c.hand s) hs hd false
       exact ⟨rfl, _, (((si.below hb).setH _ _).setS _ _).qt hq, m1, fun _ => ⟨sn.n2, sn.n3, sn.n4⟩, fun a ha => rfl, tE (tS (tH (T0 v hb) _ _) _ _) hq⟩
     · intro e1 v w' hb hq
       have ex : Q.stp L.S k s h c q = ({ c with hand := fun a => if a = s then (c.hand s + 1) % L.S else c.hand a }, { q with ph := 3, pl := c.hand s, seen := (c.sl s (c.hand s)).stamp }, 0) := by
        unfold Q.stp; rw [if_neg (by omega), if_neg (by omega), if_pos hp, if_neg hi, if_neg (by rw [e1]; simp)]
       rw [ex]
       refine ⟨rfl, _, (((((si.below hb).setH _ _).setN _ _).setN _ _).setN _ _).qt hq, (sc.hand' s _).other _, fun _ => ⟨by simp [upd], ?_, fun h => ⟨?_, ?_⟩⟩, fun a ha => ?_, tE (tN (tN (tN (tH (T0 v hb) _ _) _ _) _ _) _ _) hq⟩
       · simp only; rw [upd_ne _ _ (by omega), upd_ne _ _ (by omega), upd_ne _ _ (by omega), sn.n3]
       · simp only; rw [upd_ne _ _ (by omega), upd_ne _ _ (by omega), upd_at, ← hsd]
       · simp only; rw [upd_ne _ _ (by omega), upd_at]
       · simp only; rw [upd_ne _ _ (by omega), upd_ne _ _ (by omega), upd_ne _ _ (by omega)]
 · -- swap
   rw [hp] at S0
   have hpl := p4 hp
   have hfl := flat_lt (N := L.N) hs hpl
   have sl := sc.s s q.pl hs hpl
   obtain ⟨n4, n5⟩ := sn.n4 hp
   rw [← hsd] at n4
   have ost := o1 s q.pl
   refine sp_swap L.qb L.sb L.hb L.nb (t * 6) L.N L.S q.i s h (s * L.S) _ _ (s * L.S + q.pl) k w S0 hk es eh hs hh rfl rfl rfl
    (c.sl s q.pl).key.isSome (c.sl s q.pl).mark (kOf (c.sl s q.pl).key) (c.sl s q.pl).stamp ((si.s.cell _ (by omega)).trans (congrArg some sl.a0)) ((si.s.cell _ (by omega)).trans (congrArg some sl.a1)) ((si.s.cell _ (by omega)).trans (congrArg some sl.a2)) ((si.s.cell _ (by omega)).trans (congrArg some sl.a3)) ((si.s.cell _ (by omega)).trans (congrArg some sl.a4))
    hfl q.seen (by omega) ((si.n.cell _ (by omega)).trans (congrArg some n4)) ((si.n.cell _ (by omega)).trans (congrArg some n5)) c.pub c.ev c.lost ⟨by omega, by omega, by omega⟩ ((si.q.cell 6 (by omega)).trans (congrArg some sc.q6)) ((si.q.cell 7 (by omega)).trans (congrArg some sc.q7)) ((si.q.cell 8 (by omega)).trans (congrArg some sc.q8)) _ ?_ ?_ ?_
   · intro e1 v w' hb hq
     have ex : Q.stp L.S k s h c q = ({ c with lost := c.lost + 1 }, { q with ph := 0, i := 0 }, 0) := by
      unfold Q.stp; rw [if_neg (by omega), if_neg (by omega), if_neg (by omega), if_pos e1]
     rw [ex]
     refine ⟨rfl, _, ((((si.below hb).setQ _ _).setN _ _).setN _ _).qt hq, sc.lost.other _, fun _ => ⟨by simp [upd], by simp [upd], fun h => by simp at h⟩, fun a ha => ?_, tE (tN (tN (tQ (T0 v hb) _ _) _ _) _ _) hq⟩
     simp only; rw [upd_ne _ _ (by omega), upd_ne _ _ (by omega)]
   · intro e1 e2 v w' hb hq
     have e3 : ¬ (c.sl s q.pl).key = none := fun h => by rw [h] at e2; simp at e2
     have ex : Q.stp L.S k s h c q = ({ c with sl := Q.put c.sl s q.pl ⟨some k, false, (c.sl s q.pl).stamp + 1⟩, pub := c.pub + 1, ev := c.ev + 1 }, q, 2) := by
      unfold Q.stp; rw [if_neg (by omega), if_neg (by omega), if_neg (by omega), if_neg (by omega), if_neg e3]
     rw [ex]
     have m1 := (sc.ev.full s q.pl hpl k ((c.sl s q.pl).stamp + 1) ((q.seen : Int) + 1) (by rw [e1]; simp)).pub
     exact ⟨rfl, _, ((((((((si.below hb).setQ _ _).setS _ _).setS _ _).setS _ _).setS _ _).setS _ _).setQ _ _).qt hq, m1, fun h => by simp at h, fun a _ => rfl, tE (tQ (tS (tS (tS (tS (tS (tQ (T0 v hb) _ _) _ _) _ _) _ _) _ _) _ _) _ _) hq⟩
   · intro e1 e2 v w' hb hq
     have e3 : (c.sl s q.pl).key = none := by simpa using e2
     have ex : Q.stp L.S k s h c q = ({ c with sl := Q.put c.sl s q.pl ⟨some k, false, (c.sl s q.pl).stamp + 1⟩, pub := c.pub + 1 }, q, 2) := by
      unfold Q.stp; rw [if_neg (by omega), if_neg (by omega), if_neg (by omega), if_neg (by omega), if_pos e3]
     rw [ex]
     have m1 := (sc.full s q.pl hpl k ((c.sl s q.pl).stamp + 1) ((q.seen : Int) + 1) (by rw [e1]; simp)).pub
     exact ⟨rfl, _, (((((((si.below hb).setS _ _).setS _ _).setS _ _).setS _ _).setS _ _).setQ _ _).qt hq, m1, fun h => by simp at h, fun a _ => rfl, tE (tQ (tS (tS (tS (tS (tS (T0 v hb) _ _) _ _) _ _) _ _) _ _) _ _) hq⟩

end Go.Proofs.Ytdpbhbpcpnlbkaa
