import Derived.Test.YtdpbhbpcpnlbkaaaCa2
import Derived.Test.YtdpbhbpcpnlbkaaaCa8
namespace Go.Proofs.Ytdpbhbpcpnlbkaa
open Go.RowKit Go.Maps
set_option linter.unusedVariables false
set_option maxRecDepth 100000
def PO (w w' : World) (L : Lay) (R : Raw) (t : Nat) (k : Int × Int) (x : Q.Cch × Q.Sea × Nat) : Prop :=
 ∃ R', RI w' L R' ∧ LC L R' x.1 ∧ (x.2.2 = 0 → LQ L R' t k x.2.1) ∧ R'.k = R.k ∧ R'.o = R.o ∧ (∀ t', t' ≠ t → R'.q t' = R.q t') ∧ R'.ks = R.ks ∧ R'.kv = R.kv ∧ Fr L.base w w'

theorem num_pos {ks : List (Int × Int)} {k : Int × Int} (h : k ∈ ks) : num ks k ≠ 0 := fun e => num_zero.1 e h

theorem numO_ne {ks : List (Int × Int)} {k : Int × Int} (hk : k ∈ ks) (o : Option (Int × Int)) (ho : o ≠ some k) : ¬ numO ks o = num ks k := by
 cases o with
 | none => intro e; exact num_pos hk e.symm
 | some k' => intro e; exact ho (by rw [num_inj e (by rw [show num ks k' = num ks k from e]; exact num_pos hk)])

theorem numO_zero {ks : List (Int × Int)} {o : Option (Int × Int)} (h : ∀ k, o = some k → k ∈ ks) (hn : o ≠ none) : ¬ numO ks o = 0 := by
 cases o with
 | none => exact absurd rfl hn
 | some k => exact num_pos (h k rfl)

theorem phase_look {w : World} {L : Lay} {R : Raw} {c : Q.Cch} {t n : Nat} {k : Int × Int} {q : Q.Sea} (d : Dim L) (r : RI w L R) (l : LC L R c) (ht : t < L.T) (ha : L.act t = true) (lq : LQ L R t k q) (hs : Q.shd L.N k < L.N) (hh : Q.hom L.S k < L.S) (hc : Q.CchOk L.S n c) (hn : n < 100000) (hq : Q.SeaOk L.S q) (hp : q.ph = 0) :
 Calls Try.prog 92 #[.pointer (some ⟨L.qb t, 0, none⟩)] w fun e w' => ∃ oc : Nat, e = .returned (.int .i64 oc) ∧ oc = (Q.stp L.S k (Q.shd L.N k) (Q.hom L.S k) c q).2.2 ∧ PO w w' L R t k (Q.stp L.S k (Q.shd L.N k) (Q.hom L.S k) c q) := by
 have sr := sr_of d r l ht ha lq hs hh hq.i
 have dS := d.S
 have bq := r.bq t ht ha; have bs := r.bs _ hs; have bc := r.bc; have bh := r.bh
 have Sb := r.s _ hs
 have Qb := r.q t ht ha
 obtain ⟨j, hj⟩ : ∃ j, (Q.hom L.S k + q.i) % L.S = j := ⟨_, rfl⟩
 have jl : j < L.S := by rw [← hj]; exact Nat.mod_lt _ dS.1
 have k0 := (Sb.cell (j * 3) (by omega)).trans (congrArg some (l.s0 _ j hs jl))
 have k1 := (Sb.cell (j * 3 + 1) (by omega)).trans (congrArg some (l.s1 _ j hs jl))
 have k2 := (Sb.cell (j * 3 + 2) (by omega)).trans (congrArg some (l.s2 _ j hs jl))
 have kc := (r.c.cell 0 (by omega)).trans (congrArg some l.c0)
 have hcn := hc.hits
 by_cases hk : (c.sl (Q.shd L.N k) j).key = some k
 · have e0 : Q.stp L.S k (Q.shd L.N k) (Q.hom L.S k) c q = ({ c with sl := Q.put c.sl (Q.shd L.N k) j { c.sl (Q.shd L.N k) j with mark := true }, hits := c.hits + 1 }, q, 1) := by
    unfold Q.stp; rw [if_pos hp, hj, if_pos hk]
   rw [hk] at k0
   refine (look_hit _ _ _ _ _ _ _ _ _ w sr j hj c.hits _ (by omega) k0 k1 kc).mono ?_
   rintro e w' ⟨rfl, hq'⟩
   refine ⟨1, rfl, by rw [e0], ?_⟩
   rw [e0]
   refine ⟨_, (((r.setS _ hs (j * 3 + 1) (.bool true)).setC 0 (.int .i64 ((c.hits : Int) + 1)))).qt hq', (l.mark _ j hs jl true).hits, fun h => absurd h (by simp), rfl, rfl, fun t' ht' => rfl, rfl, rfl, (((Fr.refl _ _).set bs Sb (by decide) _ _).set bc r.c (by decide) _ _).trans (Fr.qt hq')⟩
 · have hne := numO_ne lq.km _ hk
   have hi0 := hq.i0 hp
   by_cases hi : q.i + 1 = L.S
   · have e0 : Q.stp L.S k (Q.shd L.N k) (Q.hom L.S k) c q = (c, { q with i := q.i + 1, ph := 1 }, 0) := by
      unfold Q.stp; rw [if_pos hp, hj, if_neg hk, if_pos hi]
     refine (look_end _ _ _ _ _ _ _ _ _ w sr j hj _ hne hi k0).mono ?_
     rintro e w' ⟨rfl, hq'⟩
     refine ⟨0, rfl, by rw [e0], ?_⟩
     rw [e0]
     refine ⟨_, (((r.setQ t ht ha 5 (.int .i64 ((q.i : Int) + 1))).setQ t ht ha 4 _)).qt hq', l.other rfl rfl rfl rfl rfl, fun _ => ⟨by simp [Q.updN, upd, lq.q0], by simp [Q.updN, upd, lq.q1], by simp [Q.updN, upd, lq.q2], by simp [Q.updN, upd, lq.q3], by simp [Q.updN, upd, phF], by simp [Q.updN, upd], fun h => absurd h (by simp), lq.km⟩, rfl, rfl, fun t' ht' => by simp [Q.updN, ht'], rfl, rfl, (((Fr.refl _ _).set bq Qb (by decide) _ _).set bq Qb (by decide) _ _).trans (Fr.qt hq')⟩
   · have e0 : Q.stp L.S k (Q.shd L.N k) (Q.hom L.S k) c q = (c, { q with i := q.i + 1 }, 0) := by
      unfold Q.stp; rw [if_pos hp, hj, if_neg hk, if_neg hi]
     refine (look_on _ _ _ _ _ _ _ _ _ w sr j hj _ hne (by omega) k0).mono ?_
     rintro e w' ⟨rfl, hq'⟩
     refine ⟨0, rfl, by rw [e0], ?_⟩
     rw [e0]
     refine ⟨_, (r.setQ t ht ha 5 (.int .i64 ((q.i : Int) + 1))).qt hq', l.other rfl rfl rfl rfl rfl, fun _ => ⟨by simp [Q.updN, upd, lq.q0], by simp [Q.updN, upd, lq.q1], by simp [Q.updN, upd, lq.q2], by simp [Q.updN, upd, lq.q3], by simp [Q.updN, upd, lq.q4], by simp [Q.updN, upd], fun h => by simp [Q.updN, upd, lq.q6 h], lq.km⟩, rfl, rfl, fun t' ht' => by simp [Q.updN, ht'], rfl, rfl, ((Fr.refl _ _).set bq Qb (by decide) _ _).trans (Fr.qt hq')⟩

theorem phase_make {w : World} {L : Lay} {R : Raw} {c : Q.Cch} {t n : Nat} {k : Int × Int} {q : Q.Sea} (d : Dim L) (r : RI w L R) (l : LC L R c) (ht : t < L.T) (ha : L.act t = true) (lq : LQ L R t k q) (hs : Q.shd L.N k < L.N) (hh : Q.hom L.S k < L.S) (hc : Q.CchOk L.S n c) (hn : n < 100000) (hq : Q.SeaOk L.S q) (hp : q.ph = 1) :
 Calls Try.prog 95 #[.pointer (some ⟨L.qb t, 0, none⟩)] w fun e w' => ∃ oc : Nat, e = .returned (.int .i64 oc) ∧ oc = (Q.stp L.S k (Q.shd L.N k) (Q.hom L.S k) c q).2.2 ∧ PO w w' L R t k (Q.stp L.S k (Q.shd L.N k) (Q.hom L.S k) c q) := by
 have sr := sr_of d r l ht ha lq hs hh hq.i
 have dS := d.S
 have bq := r.bq t ht ha; have bs := r.bs _ hs; have bc := r.bc; have bh := r.bh
 have Sb := r.s _ hs
 have Qb := r.q t ht ha
 have kc := (r.c.cell 1 (by omega)).trans (congrArg some l.c1)
 have hcn := hc.made
 have e0 : Q.stp L.S k (Q.shd L.N k) (Q.hom L.S k) c q = ({ c with made := c.made + 1 }, { q with ph := 2, i := 0 }, 0) := by
  unfold Q.stp; rw [if_neg (by omega), if_pos hp]
 refine (make_any _ _ _ _ _ _ _ _ _ w sr c.made (by omega) kc).mono ?_
 rintro e w' ⟨rfl, hq'⟩
 refine ⟨0, rfl, by rw [e0], ?_⟩
 rw [e0]
 refine ⟨_, ((((r.setC 1 (.int .i64 ((c.made : Int) + 1))).setQ t ht ha 5 (.int .i64 0)).setQ t ht ha 4 _)).qt hq', l.made.other rfl rfl rfl rfl rfl, fun _ => ⟨by simp [Q.updN, upd, lq.q0], by simp [Q.updN, upd, lq.q1], by simp [Q.updN, upd, lq.q2], by simp [Q.updN, upd, lq.q3], by simp [Q.updN, upd, phF], by simp [Q.updN, upd], fun h => absurd h (by simp), lq.km⟩, rfl, rfl, fun t' ht' => by simp [Q.updN, ht'], rfl, rfl, ((((Fr.refl _ _).set bc r.c (by decide) _ _).set bq Qb (by decide) _ _).set bq Qb (by decide) _ _).trans (Fr.qt hq')⟩

theorem phase_pick {w : World} {L : Lay} {R : Raw} {c : Q.Cch} {t n : Nat} {k : Int × Int} {q : Q.Sea} (d : Dim L) (r : RI w L R) (l : LC L R c) (ht : t < L.T) (ha : L.act t = true) (lq : LQ L R t k q) (hs : Q.shd L.N k < L.N) (hh : Q.hom L.S k < L.S) (hc : Q.CchOk L.S n c) (hn : n < 100000) (hq : Q.SeaOk L.S q) (hp : q.ph = 2) :
 Calls Try.prog 96 #[.pointer (some ⟨L.qb t, 0, none⟩)] w fun e w' => ∃ oc : Nat, e = .returned (.int .i64 oc) ∧ oc = (Q.stp L.S k (Q.shd L.N k) (Q.hom L.S k) c q).2.2 ∧ PO w w' L R t k (Q.stp L.S k (Q.shd L.N k) (Q.hom L.S k) c q) := by
 have sr := sr_of d r l ht ha lq hs hh hq.i
 have dS := d.S
 have bq := r.bq t ht ha; have bs := r.bs _ hs; have bc := r.bc; have bh := r.bh
 have Sb := r.s _ hs
 have Qb := r.q t ht ha
 by_cases hi : q.i < L.S
 · obtain ⟨j, hj⟩ : ∃ j, (Q.hom L.S k + q.i) % L.S = j := ⟨_, rfl⟩
   have jl : j < L.S := by rw [← hj]; exact Nat.mod_lt _ dS.1
   have k0 := (Sb.cell (j * 3) (by omega)).trans (congrArg some (l.s0 _ j hs jl))
   have k2 := (Sb.cell (j * 3 + 2) (by omega)).trans (congrArg some (l.s2 _ j hs jl))
   by_cases hk : (c.sl (Q.shd L.N k) j).key = none
   · have e0 : Q.stp L.S k (Q.shd L.N k) (Q.hom L.S k) c q = (c, { q with ph := 3, pl := j, seen := (c.sl (Q.shd L.N k) j).stamp }, 0) := by
      unfold Q.stp; rw [if_neg (by omega), if_neg (by omega), if_pos hp, if_pos hi, hj, if_pos hk]
     rw [hk] at k0
     refine (pick_free _ _ _ _ _ _ _ _ _ w sr j hj _ hi k0 k2 _ _ (Qb.cell 6 (by omega)) (Qb.cell 7 (by omega))).mono ?_
     rintro e w' ⟨rfl, hq'⟩
     refine ⟨0, rfl, by rw [e0], ?_⟩
     rw [e0]
     refine ⟨_, ((((r.setQ t ht ha 6 _).setQ t ht ha 7 _).setQ t ht ha 4 _)).qt hq', l.other rfl rfl rfl rfl rfl, fun _ => ⟨by simp [Q.updN, upd, lq.q0], by simp [Q.updN, upd, lq.q1], by simp [Q.updN, upd, lq.q2], by simp [Q.updN, upd, lq.q3], by simp [Q.updN, upd, phF], by simp [Q.updN, upd, lq.q5], fun _ => ⟨by simp [Q.updN, upd], by simp [Q.updN, upd]⟩, lq.km⟩, rfl, rfl, fun t' ht' => by simp [Q.updN, ht'], rfl, rfl, ((((Fr.refl _ _).set bq Qb (by decide) _ _).set bq Qb (by decide) _ _).set bq Qb (by decide) _ _).trans (Fr.qt hq')⟩
   · have e0 : Q.stp L.S k (Q.shd L.N k) (Q.hom L.S k) c q = (c, { q with i := q.i + 1 }, 0) := by
      unfold Q.stp; rw [if_neg (by omega), if_neg (by omega), if_pos hp, if_pos hi, hj, if_neg hk]
     refine (pick_on _ _ _ _ _ _ _ _ _ w sr j hj _ (numO_zero (fun k h => l.mem _ _ _ hs jl h) hk) hi k0).mono ?_
     rintro e w' ⟨rfl, hq'⟩
     refine ⟨0, rfl, by rw [e0], ?_⟩
     rw [e0]
     refine ⟨_, (r.setQ t ht ha 5 (.int .i64 ((q.i : Int) + 1))).qt hq', l.other rfl rfl rfl rfl rfl, fun _ => ⟨by simp [Q.updN, upd, lq.q0], by simp [Q.updN, upd, lq.q1], by simp [Q.updN, upd, lq.q2], by simp [Q.updN, upd, lq.q3], by simp [Q.updN, upd, lq.q4], by simp [Q.updN, upd], fun h => by simp [Q.updN, upd, lq.q6 h], lq.km⟩, rfl, rfl, fun t' ht' => by simp [Q.updN, ht'], rfl, rfl, ((Fr.refl _ _).set bq Qb (by decide) _ _).trans (Fr.qt hq')⟩
 · have nl := hc.hand (Q.shd L.N k)
   have hd := (r.h.cell (Q.shd L.N k * 2 + 1) (by omega)).trans (congrArg some (l.h1 _ hs))
   have m1 := (Sb.cell (c.hand (Q.shd L.N k) * 3 + 1) (by omega)).trans (congrArg some (l.s1 _ _ hs nl))
   have m2 := (Sb.cell (c.hand (Q.shd L.N k) * 3 + 2) (by omega)).trans (congrArg some (l.s2 _ _ hs nl))
   by_cases hm : (c.sl (Q.shd L.N k) (c.hand (Q.shd L.N k))).mark = true
   · have e0 : Q.stp L.S k (Q.shd L.N k) (Q.hom L.S k) c q = ({ c with hand := fun a => if a = Q.shd L.N k then (c.hand (Q.shd L.N k) + 1) % L.S else c.hand a, sl := Q.put c.sl (Q.shd L.N k) (c.hand (Q.shd L.N k)) { c.sl (Q.shd L.N k) (c.hand (Q.shd L.N k)) with mark := false } }, q, 0) := by
      unfold Q.stp; rw [if_neg (by omega), if_neg (by omega), if_pos hp, if_neg hi, if_pos hm]
     rw [hm] at m1
     refine (pick_hand_yes _ _ _ _ _ _ _ _ _ w sr _ _ _ nl rfl hd m2 _ _ (Qb.cell 6 (by omega)) (Qb.cell 7 (by omega)) m1 (by omega)).mono ?_
     rintro e w' ⟨rfl, hq'⟩
     refine ⟨0, rfl, by rw [e0], ?_⟩
     rw [e0]
     refine ⟨_, (((r.setH (Q.shd L.N k * 2 + 1) _).setS _ hs (c.hand (Q.shd L.N k) * 3 + 1) (.bool false))).qt hq', (l.hand' _ _ hs).mark _ _ hs nl false, fun _ => lq.other rfl rfl, rfl, rfl, fun t' ht' => rfl, rfl, rfl, (((Fr.refl _ _).set bh r.h (by decide) _ _).set bs Sb (by decide) _ _).trans (Fr.qt hq')⟩
   · have e0 : Q.stp L.S k (Q.shd L.N k) (Q.hom L.S k) c q = ({ c with hand := fun a => if a = Q.shd L.N k then (c.hand (Q.shd L.N k) + 1) % L.S else c.hand a }, { q with ph := 3, pl := c.hand (Q.shd L.N k), seen := (c.sl (Q.shd L.N k) (c.hand (Q.shd L.N k))).stamp }, 0) := by
      unfold Q.stp; rw [if_neg (by omega), if_neg (by omega), if_pos hp, if_neg hi, if_neg hm]
     rw [show (c.sl (Q.shd L.N k) (c.hand (Q.shd L.N k))).mark = false from Bool.eq_false_iff.2 hm] at m1
     refine (pick_hand_no _ _ _ _ _ _ _ _ _ w sr _ _ _ nl rfl hd m2 _ _ (Qb.cell 6 (by omega)) (Qb.cell 7 (by omega)) m1 (by omega)).mono ?_
     rintro e w' ⟨rfl, hq'⟩
     refine ⟨0, rfl, by rw [e0], ?_⟩
     rw [e0]
     refine ⟨_, (((((r.setH (Q.shd L.N k * 2 + 1) _).setQ t ht ha 6 _).setQ t ht ha 7 _).setQ t ht ha 4 _)).qt hq', (l.hand' _ _ hs).other rfl rfl rfl rfl rfl, fun _ => ⟨by simp [Q.updN, upd, lq.q0], by simp [Q.updN, upd, lq.q1], by simp [Q.updN, upd, lq.q2], by simp [Q.updN, upd, lq.q3], by simp [Q.updN, upd, phF], by simp [Q.updN, upd, lq.q5], fun _ => ⟨by simp [Q.updN, upd], by simp [Q.updN, upd]⟩, lq.km⟩, rfl, rfl, fun t' ht' => by simp [Q.updN, ht'], rfl, rfl, (((((Fr.refl _ _).set bh r.h (by decide) _ _).set bq Qb (by decide) _ _).set bq Qb (by decide) _ _).set bq Qb (by decide) _ _).trans (Fr.qt hq')⟩

theorem phase_swap {w : World} {L : Lay} {R : Raw} {c : Q.Cch} {t n : Nat} {k : Int × Int} {q : Q.Sea} (d : Dim L) (r : RI w L R) (l : LC L R c) (ht : t < L.T) (ha : L.act t = true) (lq : LQ L R t k q) (hs : Q.shd L.N k < L.N) (hh : Q.hom L.S k < L.S) (hc : Q.CchOk L.S n c) (hn : n < 100000) (hq : Q.SeaOk L.S q) (hp : q.ph = 3) :
 Calls Try.prog 100 #[.pointer (some ⟨L.qb t, 0, none⟩)] w fun e w' => ∃ oc : Nat, e = .returned (.int .i64 oc) ∧ oc = (Q.stp L.S k (Q.shd L.N k) (Q.hom L.S k) c q).2.2 ∧ PO w w' L R t k (Q.stp L.S k (Q.shd L.N k) (Q.hom L.S k) c q) := by
 have sr := sr_of d r l ht ha lq hs hh hq.i
 have dS := d.S
 have bq := r.bq t ht ha; have bs := r.bs _ hs; have bc := r.bc; have bh := r.bh
 have Sb := r.s _ hs
 have Qb := r.q t ht ha
 have pl := hq.pl hp
 obtain ⟨e6, e7⟩ := lq.q6 hp
 have c6 := (Qb.cell 6 (by omega)).trans (congrArg some e6)
 have c7 := (Qb.cell 7 (by omega)).trans (congrArg some e7)
 have k0 := (Sb.cell (q.pl * 3) (by omega)).trans (congrArg some (l.s0 _ _ hs pl))
 have k1 := (Sb.cell (q.pl * 3 + 1) (by omega)).trans (congrArg some (l.s1 _ _ hs pl))
 have k2 := (Sb.cell (q.pl * 3 + 2) (by omega)).trans (congrArg some (l.s2 _ _ hs pl))
 have n2 := (r.c.cell 2 (by omega)).trans (congrArg some l.c2)
 have n3 := (r.c.cell 3 (by omega)).trans (congrArg some l.c3)
 have n4 := (r.c.cell 4 (by omega)).trans (congrArg some l.c4)
 have o2 := hc.pub; have o3 := hc.ev; have o4 := hc.lost; have os := hc.st (Q.shd L.N k) q.pl
 by_cases hst : (c.sl (Q.shd L.N k) q.pl).stamp = q.seen
 · rw [← hst] at c7
   by_cases hk : (c.sl (Q.shd L.N k) q.pl).key = none
   · have e0 : Q.stp L.S k (Q.shd L.N k) (Q.hom L.S k) c q = ({ c with sl := Q.put c.sl (Q.shd L.N k) q.pl ⟨some k, false, (c.sl (Q.shd L.N k) q.pl).stamp + 1⟩, pub := c.pub + 1 }, q, 2) := by
      unfold Q.stp; rw [if_neg (by omega), if_neg (by omega), if_neg (by omega), if_neg (fun h => h hst), if_pos hk]
     rw [hk] at k0
     refine (swap_new _ _ _ _ _ _ _ _ _ w sr _ _ (by omega) c6 c7 k2 _ _ n2 (by omega) k0 k1).mono ?_
     rintro e w' ⟨rfl, hq'⟩
     refine ⟨2, rfl, by rw [e0], ?_⟩
     rw [e0]
     refine ⟨_, (((((r.setS _ hs (q.pl * 3) _).setS _ hs (q.pl * 3 + 1) _).setS _ hs (q.pl * 3 + 2) _).setC 2 _)).qt hq', (l.full _ _ hs pl k lq.km _ _ rfl).pub, fun h => absurd h (by simp), rfl, rfl, fun t' ht' => rfl, rfl, rfl, (((((Fr.refl _ _).set bs Sb (by decide) _ _).set bs Sb (by decide) _ _).set bs Sb (by decide) _ _).set bc r.c (by decide) _ _).trans (Fr.qt hq')⟩
   · have e0 : Q.stp L.S k (Q.shd L.N k) (Q.hom L.S k) c q = ({ c with sl := Q.put c.sl (Q.shd L.N k) q.pl ⟨some k, false, (c.sl (Q.shd L.N k) q.pl).stamp + 1⟩, pub := c.pub + 1, ev := c.ev + 1 }, q, 2) := by
      unfold Q.stp; rw [if_neg (by omega), if_neg (by omega), if_neg (by omega), if_neg (fun h => h hst), if_neg hk]
     refine (swap_old _ _ _ _ _ _ _ _ _ w sr _ _ (by omega) c6 c7 k2 _ _ _ (numO_zero (fun k h => l.mem _ _ _ hs pl h) hk) n2 (by omega) _ (by omega) n3 k0 k1).mono ?_
     rintro e w' ⟨rfl, hq'⟩
     refine ⟨2, rfl, by rw [e0], ?_⟩
     rw [e0]
     refine ⟨_, ((((((r.setC 3 _).setS _ hs (q.pl * 3) _).setS _ hs (q.pl * 3 + 1) _).setS _ hs (q.pl * 3 + 2) _).setC 2 _)).qt hq', (l.ev.full _ _ hs pl k lq.km _ _ rfl).pub, fun h => absurd h (by simp), rfl, rfl, fun t' ht' => rfl, rfl, rfl, ((((((Fr.refl _ _).set bc r.c (by decide) _ _).set bs Sb (by decide) _ _).set bs Sb (by decide) _ _).set bs Sb (by decide) _ _).set bc r.c (by decide) _ _).trans (Fr.qt hq')⟩
 · have e0 : Q.stp L.S k (Q.shd L.N k) (Q.hom L.S k) c q = ({ c with lost := c.lost + 1 }, { q with ph := 0, i := 0 }, 0) := by
    unfold Q.stp; rw [if_neg (by omega), if_neg (by omega), if_neg (by omega), if_pos hst]
   refine (swap_lost _ _ _ _ _ _ _ _ _ w sr _ _ _ c6 c7 k2 hst _ (by omega) n4).mono ?_
   rintro e w' ⟨rfl, hq'⟩
   refine ⟨0, rfl, by rw [e0], ?_⟩
   rw [e0]
   refine ⟨_, ((((r.setC 4 _).setQ t ht ha 5 (.int .i64 0)).setQ t ht ha 4 _)).qt hq', l.lost.other rfl rfl rfl rfl rfl, fun _ => ⟨by simp [Q.updN, upd, lq.q0], by simp [Q.updN, upd, lq.q1], by simp [Q.updN, upd, lq.q2], by simp [Q.updN, upd, lq.q3], by simp [Q.updN, upd, phF], by simp [Q.updN, upd], fun h => absurd h (by simp), lq.km⟩, rfl, rfl, fun t' ht' => by simp [Q.updN, ht'], rfl, rfl, ((((Fr.refl _ _).set bc r.c (by decide) _ _).set bq Qb (by decide) _ _).set bq Qb (by decide) _ _).trans (Fr.qt hq')⟩

end Go.Proofs.Ytdpbhbpcpnlbkaa
