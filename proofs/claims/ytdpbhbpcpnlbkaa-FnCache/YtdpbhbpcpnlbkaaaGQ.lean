import Derived.Deep.LoopGhost
import Derived.Test.YtdpbhbpcpnlbkaaaGC
import Derived.Test.YtdpbhbpcpnlbkaaaGP
set_option maxHeartbeats 2000000
namespace Go.Proofs.Ytdpbhbpcpnlbkaa
open Go.RowKit Go.Maps
set_option linter.unusedVariables false
set_option maxRecDepth 100000
theorem methT (a : Addr) (w : World) : (method 258 66 (.pointer (some a)) "loop.example/s01493/impl.step").run Try.prog w = .ok (87, .pointer (some a)) w := by kernel_rfl

theorem run_key (sg : Nat) (v0 : Value) (w : World) (J : Nat → World → Value → Prop) (ln : Nat → Nat)
 (h0 : Calls Try.prog 56 #[v0] w fun e w' => ∃ v, e = .returned v ∧ J 0 w' v)
 (hJ : ∀ n u v, J n u v → n ≤ 40000 ∧ (∃ ao c, v = .slice ao (ln n) c) ∧ u.cell? ⟨sg, 1, none⟩ = some (.int .i64 40000) ∧ u.cell? ⟨sg, 2, none⟩ = some (.int .i64 n) ∧ u.frozen? ⟨sg, 2, none⟩ = false ∧ ln n ≤ 1000)
 (hP : ∀ n u v, J n u v → 0 < ln n → n < 40000 → ∃ p g b c : Nat, p < ln n ∧ v = .slice (some ⟨b, 0, none⟩) (ln n) c ∧ b ≠ sg ∧ u.cell? ⟨b, p, none⟩ = some (.iface 66 (.pointer (some ⟨g, 0, none⟩))) ∧
   (∀ u1, Qt u u1 → Calls Try.prog 57 #[.pointer (some ⟨sg, 0, none⟩), .int .i64 (ln n)] u1 fun e u2 => e = .returned (.int .i64 p) ∧ Qt u1 u2) ∧
   (∀ u1, Qt (u.setCell ⟨sg, 2, none⟩ (.int .i64 ((n : Int) + 1))) u1 → Calls Try.prog 87 #[.pointer (some ⟨g, 0, none⟩)] u1 fun e u2 => ∃ bl, e = .returned (.bool bl) ∧ (bl = true → J (n + 1) u2 v) ∧ (bl = false → Calls Try.prog 58 #[v, .int .i64 p, .int .i64 ((p : Int) + 1)] u2 fun e u3 => ∃ v', e = .returned v' ∧ J (n + 1) u3 v'))) :
 Calls Try.prog 29 #[.pointer (some ⟨sg, 0, none⟩), v0] w fun e w' => ∃ n u v, J n u v ∧ Qt u w' ∧ ((ln n = 0 ∧ e = .returned (.bool true)) ∨ (ln n ≠ 0 ∧ n = 40000 ∧ e = .returned (.bool false))) := by
 go_enter Try.func29, Try.ntmps29
 go_wp2_with fail
 refine h0.mono ?_
 rintro e w1 ⟨v1, rfl, j0⟩
 go_wp2_with fail
 go_loopg [5] 40000 (fun gk av wr => ∃ n : Nat, n + gk = 40000 ∧ J n wr av)
 case atStart => exact ⟨0, by omega, j0⟩
 case round =>
  obtain ⟨n, hn, j⟩ := hrel
  obtain ⟨-, ⟨ao, c, hv⟩, c1, c2, z2, hl⟩ := hJ _ _ _ j
  by_cases hl0 : ln n = 0
  · rw [hl0] at hv
    subst hv
    clear hJ hP h0 j0
    go_wp2_with fail
    go_ret
    exact ⟨n, wr, _, j, Qt.refl _, .inl ⟨hl0, rfl⟩⟩
  · obtain ⟨m, hm⟩ : ∃ m, ln n = m := ⟨_, rfl⟩
    have hl1 : (0 : Int) < (m : Int) := by omega
    by_cases h4 : n = 40000
    · rw [hm] at hv
      subst hv
      have HM : Hid (ln n = m) := hm
      have HJ : Hid _ := j
      subst h4
      clear hJ hP h0 j0 hm hl0 j hl hn
      go_wp2_with fail
      go_quiet (fail)
      go_wp2_with fail
      go_ret
      exact ⟨40000, wr, _, HJ.out, Qt.drewN _ _, .inr ⟨by rw [HM.out]; omega, rfl, rfl⟩⟩
    · obtain ⟨p, g, b, cc, hp, hv2, hb, ct, kP, kS⟩ := hP n wr _ j (by omega) (by omega)
      subst hv2
      have hne : ¬ (n : Int) = 40000 := by omega
      have f1 : IntKind.i64.wrap ((n : Int) + 1) = (n : Int) + 1 := by simp only [IntKind.wrap_i64]; omega
      have f2 : IntKind.i64.wrap ((p : Int) + 1) = (p : Int) + 1 := by simp only [IntKind.wrap_i64]; omega
      rw [hm] at hp kP hl
      have hb' := Ne.symm hb
      have hmet := methT
      have HN : Hid (n + gk = 40000) := hn
      have HN4 : Hid (n ≠ 40000) := h4
      clear hJ hP h0 j0 hv hl0 j hn h4
      rw [hm] at kS ⊢
      clear hm
      go_wp2_with fail
      go_quiet (fail)
      go_wp2_with fail
      refine (kP _ (Qt.drewN _ _)).mono ?_
      rintro e u2 ⟨rfl, q2⟩
      have q2' := (Qt.drewN wr nq).trans q2
      have hc2 := q2'.cell; have hf2 := q2'.frozen
      go_wp2_with fail
      refine (kS _ (q2'.set _ _)).mono ?_
      rintro e u3 ⟨bl, rfl, hT, hF⟩
      obtain rfl | rfl : bl = true ∨ bl = false := by cases bl <;> simp
      · replace hT := hT rfl
        clear hF
        go_wp2_with fail
        go_roundg (gk - 1)
        case rel => exact ⟨n + 1, by have := HN.out; have := HN4.out; omega, hT⟩
        case measure => have := HN.out; have := HN4.out; omega
      · replace hF := hF rfl
        clear hT
        go_wp2_with fail
        refine hF.mono ?_
        rintro e u4 ⟨v', rfl, j4⟩
        go_wp2_with fail
        go_roundg (gk - 1)
        case rel => exact ⟨n + 1, by have := HN.out; have := HN4.out; omega, j4⟩
        case measure => have := HN.out; have := HN4.out; omega

theorem RI.far {w v : World} {L : Lay} {R : Raw} {g : Nat} {A : Array Value} {t : TypeId} {z : Nat × Nat} (r : RI w L R) (h : Tn (fun k => k = g) w v) (hg : w.heap[g]? = some (.cells A t z)) (ht : t = 69 ∨ t = 120) : RI v L R := by
 have far : ∀ {b n : Nat} {t' : TypeId} {f : Nat → Value}, Bf w b t' n f → t' ≠ 69 → t' ≠ 120 → Bf v b t' n f := fun {b n t' f} hb h1 h2 => hb.tn h (fun e => by
  obtain ⟨A', hb, _⟩ := hb
  rw [e, hg] at hb; injection hb with hb; injection hb with _ hb
  rcases ht with h | h
  · exact h1 (hb.symm.trans h)
  · exact h2 (hb.symm.trans h))
 refine { r with c := far r.c (by decide) (by decide), h := far r.h (by decide) (by decide), s := fun i hi => far (r.s i hi) (by decide) (by decide), k := fun i hi => far (r.k i hi) (by decide) (by decide), o := fun i hi => far (r.o i hi) (by decide) (by decide), q := fun i hi ha => far (r.q i hi ha) (by decide) (by decide), bk := ?_, ow := ?_ }
 · refine r.bk.of_block (h.block _ r.bk.lt (fun e => ?_))
   obtain ⟨n, D, ⟨es, cl, hb, _⟩, _⟩ := r.bk
   rw [e, hg] at hb; cases hb
 · refine own_tn r.ow h (fun g' e e2 => ?_)
   rcases r.ow.2 with ⟨h', _⟩ | ⟨g2, cap', cur, e', hb, hh, _⟩
   · rw [h'] at e; cases e
   · rw [e'] at e; simp [Value.ownBlock] at e; subst e
     rw [e2, hg] at hh; injection hh with hh; injection hh with _ hh
     rw [hh] at ht; revert ht; decide

theorem Mem.far {w v : World} {L : Lay} {tasks : List (List (Int × Int))} {kx : Nat → Option Addr} {kc : Nat → Nat} {r : Q.Rst} {n g : Nat} {A : Array Value} {t : TypeId} {z : Nat × Nat} (m : Mem w L tasks kx kc r n) (h : Tn (fun k => k = g) w v) (hg : w.heap[g]? = some (.cells A t z)) (ht : t = 69 ∨ t = 120) : Mem v L tasks kx kc r n := by
 obtain ⟨L', R, le, ri, lt, hm, hb⟩ := m
 exact ⟨L', R, le, ri.far h hg ht, lt, hm, Nat.le_trans hb h.size⟩

theorem Mem.below {w v : World} {L : Lay} {tasks : List (List (Int × Int))} {kx : Nat → Option Addr} {kc : Nat → Nat} {r : Q.Rst} {n : Nat} (m : Mem w L tasks kx kc r n) (h : Below w.heap.size w v) : Mem v L tasks kx kc r n := by
 obtain ⟨L', R, le, ri, lt, hm, hb⟩ := m
 exact ⟨L', R, le, ri.below h, lt, hm, Nat.le_trans hb h.size⟩

theorem Mem.qt {w v : World} {L : Lay} {tasks : List (List (Int × Int))} {kx : Nat → Option Addr} {kc : Nat → Nat} {r : Q.Rst} {n : Nat} (m : Mem w L tasks kx kc r n) (h : Qt w v) : Mem v L tasks kx kc r n := m.below (h.below _)

theorem map_erase {α β : Type} (f : α → β) : ∀ (l : List α) (k : Nat), (l.eraseIdx k).map f = (l.map f).eraseIdx k
 | [], _ => by simp
 | a :: l, 0 => by simp
 | a :: l, k + 1 => by simp [map_erase f l k]

theorem own_mono {w : World} {base base' n sz : Nat} {t : TypeId} {x : Value} {xs : List Value} (h : w.ownsRow base t sz x n xs) (hb : base' ≤ base) : w.ownsRow base' t sz x n xs := by
 refine ⟨h.1, ?_⟩
 rcases h.2 with h' | ⟨g, cap', cur, e, hg, r⟩
 · exact .inl h'
 · exact .inr ⟨g, cap', cur, e, by omega, r⟩

theorem Liv.fr {w v : World} {base B : Nat} {x : Value} {ts : List (Option Nat)} (h : Liv w base x ts) (k : Fr B w v) : Liv v base x ts := by
 refine ⟨h.1, ?_⟩
 rcases h.2 with h' | ⟨g, cap', cur, e, hg, hh, r⟩
 · exact .inl h'
 · exact .inr ⟨g, cap', cur, e, hg, (k.keep g _ _ _ hh (.inr (.inl rfl))).trans hh, r⟩

theorem Bf.fr {w v : World} {B g n : Nat} {f : Nat → Value} (h : Bf w g 69 n f) (k : Fr B w v) : Bf v g 69 n f := by
 obtain ⟨A, hA, r⟩ := h
 exact ⟨A, (k.keep g _ _ _ hA (.inl rfl)).trans hA, r⟩

def fsc (pa : Option Addr) (pn pc : Nat) (n : Int) : Nat → Value := fun i => if i = 0 then .slice pa pn pc else if i = 1 then .int .i64 40000 else .int .i64 n

def lvs (L : Lay) (tasks : List (List (Int × Int))) (r : Q.Rst) : List (Option Nat) := (Q.liv tasks r).map fun t => some (L.kb t)

structure Jn (w0 : World) (L : Lay) (tasks : List (List (Int × Int))) (picks : List Int) (kx : Nat → Option Addr) (kc : Nat → Nat) (sg : Nat) (pa : Option Addr) (pc : Nat) (n : Nat) (u : World) (v : Value) : Prop where
 le40 : n ≤ 40000
 live : ∀ m, m < n → Q.liv tasks (Q.run L.N L.S tasks picks m) ≠ []
 mem : Mem u L tasks kx kc (Q.run L.N L.S tasks picks n) n
 liv : Liv u L.base v (lvs L tasks (Q.run L.N L.S tasks picks n))
 sch : Bf u sg 69 3 (fsc pa picks.length pc n)
 below : Below L.base w0 u
 keep : ∀ (g : Nat) (A : Array Value) (z : Nat × Nat), w0.heap[g]? = some (.cells A 66 z) → u.heap[g]? = w0.heap[g]?

theorem run_mem {L : Lay} {tasks : List (List (Int × Int))} {picks : List Int} {kx : Nat → Option Addr} {kc : Nat → Nat} {sg : Nat} {pa : Option Addr} {pc : Nat} {w : World} {v0 : Value} (d : Dim L) (hT : L.T = tasks.length) (hT2 : tasks.length ≤ 1000) (hlen : ∀ t, t < L.T → L.len t = Q.lenAt tasks t ∧ L.len t ≤ 1000) (hk : KeysOk tasks) (hi : KeysIn w L.base tasks kx)
 (hpa : RdI w pa picks) (hpb : ∀ b off, pa = some ⟨b, off, none⟩ → b < L.base) (hbs : L.base ≤ sg) (hm : Mem w L tasks kx kc Q.Rst.init 0) (hsg : Bf w sg 69 3 (fsc pa picks.length pc 0)) (hv : Liv w L.base v0 (lvs L tasks Q.Rst.init)) :
 Calls Try.prog 29 #[.pointer (some ⟨sg, 0, none⟩), v0] w fun e w' => ∃ n, (Q.liv tasks (Q.run L.N L.S tasks picks n) = [] ∨ n = 40000) ∧ e = .returned (.bool (decide (Q.liv tasks (Q.run L.N L.S tasks picks n) = []))) ∧ ∃ v, Jn w L tasks picks kx kc sg pa pc n w' v := by
 have hbw : L.base ≤ w.heap.size := by obtain ⟨_, _, _, _, _, _, hb⟩ := hm; exact hb
 have lnl : ∀ r, (lvs L tasks r).length = (Q.liv tasks r).length := fun r => by simp [lvs]
 refine (run_key sg v0 w (fun n u v => Jn w L tasks picks kx kc sg pa pc n u v) (fun n => (Q.liv tasks (Q.run L.N L.S tasks picks n)).length) ?_ ?_ ?_).mono ?_
 · have fin : ∀ (v : Value) (w' : World), Liv w' w.heap.size v (lvs L tasks Q.Rst.init) → Below w.heap.size w w' → Jn w L tasks picks kx kc sg pa pc 0 w' v := fun v w' hl hb => ⟨by omega, fun m h => by omega, hm.below hb, own_mono hl hbw, hsg.below hb, hb.mono hbw, fun g A z e => hb.block g (Array.getElem?_eq_some_iff.1 e).1⟩
   rcases hv.2 with ⟨rfl, h0⟩ | ⟨g, cap, cur, rfl, hb, hg, _⟩
   · refine Calls.mono (AnyE.slices_Clone_nil Try.l56 0 0 w) ?_
     rintro e w' ⟨rfl, rfl⟩
     refine ⟨_, rfl, fin _ _ ?_ (Below.refl _ _)⟩
     have : lvs L tasks Q.Rst.init = [] := List.eq_nil_of_length_eq_zero h0
     rw [this]
     exact World.ownsRow_nil _ _ _ _
   · refine (clone_some g 0 _ cap (lvs L tasks Q.Rst.init) w rfl ?_ ?_).mono ?_
     · rw [lnl]
       have := List.length_filter_le (fun t => decide (Q.Rst.init.fin t < Q.lenAt tasks t)) (List.range tasks.length)
       simp at this
       unfold Q.liv
       omega
     · intro j u hj
       have := hv.cellAt j (by have := (List.getElem?_eq_some_iff.1 hj).1; simpa using this)
       rw [Nat.zero_add, this]; exact hj
     · rintro e w' ⟨v, rfl, hl, hb⟩
       exact ⟨v, rfl, fin v w' hl hb⟩
 · intro n u v j
   refine ⟨j.le40, ?_, (j.sch.cell 1 (by omega)).trans rfl, (j.sch.cell 2 (by omega)).trans rfl, j.sch.frozen 2, ?_⟩
   · have h := j.liv
     rw [← lnl]
     rcases h.2 with ⟨rfl, h0⟩ | ⟨g, cap, cur, rfl, _⟩
     · rw [h0]; exact ⟨_, _, rfl⟩
     · exact ⟨_, _, rfl⟩
   · have := List.length_filter_le (fun t => decide ((Q.run L.N L.S tasks picks n).fin t < Q.lenAt tasks t)) (List.range tasks.length)
     simp at this
     unfold Q.liv
     omega
 · intro n u v j hl0 hn4
   obtain ⟨r, hr⟩ : ∃ r, r = Q.run L.N L.S tasks picks n := ⟨_, rfl⟩
   have jm := j.mem; have jl := j.liv
   rw [← hr] at hl0 jm jl ⊢
   have hp := Q.plc_lt picks n _ hl0
   obtain ⟨p, hpp⟩ : ∃ p, p = Q.plc picks n (Q.liv tasks r).length := ⟨_, rfl⟩
   rw [← hpp] at hp
   obtain ⟨t, ht⟩ : ∃ t, (Q.liv tasks r)[p] = t := ⟨_, rfl⟩
   have htm := Q.liv_mem.1 (ht ▸ List.getElem_mem hp)
   have htT : t < L.T := by rw [hT]; exact htm.1
   have hrun : Q.run L.N L.S tasks picks (n + 1) = Q.stepR L.N L.S tasks t r := by
    show Q.stepR L.N L.S tasks ((Q.liv tasks (Q.run L.N L.S tasks picks n)).getD (Q.plc picks n (Q.liv tasks (Q.run L.N L.S tasks picks n)).length) 0) (Q.run L.N L.S tasks picks n) = _
    rw [← hr, ← hpp, List.getD_eq_getElem?_getD, List.getElem?_eq_getElem hp, ht]; rfl
   have hlv : (lvs L tasks r).length = (Q.liv tasks r).length := lnl r
   have hpl : p < (lvs L tasks r).length := by rw [hlv]; exact hp
   have hget : (lvs L tasks r)[p]? = some (some (L.kb t)) := by
    unfold lvs; rw [List.getElem?_map, List.getElem?_eq_getElem hp, ht]; rfl
   obtain ⟨b, c, rfl, hbb, hblt⟩ := jl.form (by omega)
   have hbb2 := jl.2
   obtain ⟨A, hA⟩ : ∃ A, u.heap[b]? = some (.cells A 120 (0, 0)) := by
    rcases jl.2 with ⟨h, _⟩ | ⟨g', cap', cur, e, _, hh, _⟩
    · cases h
    · simp at e; obtain ⟨rfl, -⟩ := e; exact ⟨_, hh⟩
   have hne : b ≠ sg := by
    obtain ⟨A', hs', _⟩ := j.sch
    intro e; rw [e, hs'] at hA; injection hA with hA; injection hA with _ hA; revert hA; decide
   have ok := Q.run_ok (N := L.N) d.S.1 tasks picks n j.live
   rw [← hr] at ok
   have hne2 : Q.liv tasks r ≠ [] := by intro e; rw [e] at hl0; simp at hl0
   refine ⟨p, L.kb t, b, c, hp, by rw [hlv], hne, ?_, ?_, ?_⟩
   · have := jl.cellAt p (by rw [Nat.mul_one]; exact hpl)
     rw [this, List.getElem?_map, hget]; rfl
   · intro u1 hq
     have S1 := j.sch.qt hq
     by_cases hnp : n < picks.length
     · have hpos : 0 < picks.length := by omega
       obtain ⟨pb, po, rfl, hcell⟩ := hpa hpos
       have hpb' := hpb pb po rfl
       refine (place_pick sg picks.length pc pb po p n (Q.liv tasks r).length (picks.getD n 0) u1 ((S1.cell 0 (by omega)).trans rfl) ((S1.cell 2 (by omega)).trans rfl) hnp ?_ hl0 ?_ ?_)
       · rw [hq.cell]; exact (j.below.cell (p := ⟨pb, po + n, none⟩) hpb').trans (hcell n hnp)
       · have := List.length_filter_le (fun t => decide (r.fin t < Q.lenAt tasks t)) (List.range tasks.length)
         simp at this
         unfold Q.liv
         omega
       · rw [hpp]; unfold Q.plc; rw [if_pos hnp]
         exact (Int.toNat_of_nonneg (Int.emod_nonneg _ (by omega))).symm
     · refine place_late sg picks.length pc p pa n (Q.liv tasks r).length u1 ((S1.cell 0 (by omega)).trans rfl) ((S1.cell 2 (by omega)).trans rfl) (by omega) (by omega) hl0 ?_
       rw [hpp]; unfold Q.plc; rw [if_neg hnp]
   · intro u1 hq
     obtain ⟨As, hAs, _⟩ := j.sch
     have tS : Tn (fun k => k = sg) u (u.setCell ⟨sg, 2, none⟩ (.int .i64 ((n : Int) + 1))) := Tn.set _ sg 2 _ rfl
     have m1 := (jm.far tS hAs (.inl rfl)).qt hq
     have b1 : Below L.base u u1 := ((Below.refl _ _).setCell (p := ⟨sg, 2, none⟩) hbs _).trans (hq.below _)
     have s1 : Bf u1 sg 69 3 (fsc pa picks.length pc ((n + 1 : Nat) : Int)) := by
      refine ((j.sch.set 2 _).qt hq).congr ?_
      intro i hi
      match i, hi with
      | 0, _ => rfl
      | 1, _ => rfl
      | 2, _ => rfl
     have l1 : Liv u1 L.base (.slice (some ⟨b, 0, none⟩) (lvs L tasks r).length c) (lvs L tasks r) := by
      have := own_tn jl tS (fun g e => by simp [Value.ownBlock] at e; subst e; exact hne)
      exact own_tn this (Tn.qt (fun _ => False) hq) (fun _ _ h => h)
     have lenT := hlen t htT
     refine (step_mem d hT hlen m1 ok (by omega) htT (by rw [lenT.1]; exact htm.2) hk (hi.below (j.below.trans b1))).mono ?_
     rintro e u2 ⟨rfl, m2, f2⟩
     have s2 := s1.fr f2
     have l2 := l1.fr f2
     have b2 := j.below.trans (b1.trans f2.below)
     have kp2 : ∀ (g : Nat) (A : Array Value) (z : Nat × Nat), w.heap[g]? = some (.cells A 66 z) → u2.heap[g]? = w.heap[g]? := by
      intro g A z e
      have e1 := (j.keep g A z e).trans e
      have hg : g ≠ sg := by
       intro h; rw [h, hAs] at e1; injection e1 with e1; injection e1 with _ e1; revert e1; decide
      have e2 : u1.heap[g]? = some (.cells A 66 z) := by rw [hq.heap]; exact (Below.heap_setCell _ _ _ _ hg).trans e1
      exact ((f2.keep g A _ z e2 (.inr (.inr rfl))).trans e2).trans e.symm
     have lv2 : ∀ m, m < n + 1 → Q.liv tasks (Q.run L.N L.S tasks picks m) ≠ [] := by
      intro m hm'
      rcases Nat.lt_or_ge m n with h | h
      · exact j.live m h
      · have : m = n := by omega
        rw [this, ← hr]; exact hne2
     refine ⟨_, rfl, fun hb => ?_, fun hb => ?_⟩
     · have hb' := of_decide_eq_true hb
       rw [lenT.1] at hb'
       have e3 := Q.liv_same (N := L.N) (S := L.S) htm.2 hb'
       refine ⟨by omega, lv2, by rw [hrun]; exact m2, ?_, s2, b2, kp2⟩
       rw [hrun]; unfold lvs; rw [e3]; exact l2
     · have hb' := of_decide_eq_false hb
       rw [lenT.1] at hb'
       have e3 := Q.liv_del (N := L.N) (S := L.S) hp ht hb'
       refine (delete_some L.base b c p (lvs L tasks r) u2 l2 hpl).mono ?_
       rintro e u3 ⟨rfl, l3, t3⟩
       obtain ⟨A2, hA2⟩ : ∃ A, u2.heap[b]? = some (.cells A 120 (0, 0)) := by
        rcases l2.2 with ⟨h, _⟩ | ⟨g', cap', cur, e, _, hh, _⟩
        · cases h
        · simp at e; obtain ⟨rfl, -⟩ := e; exact ⟨_, hh⟩
       refine ⟨_, rfl, by omega, lv2, by rw [hrun]; exact m2.far t3 hA2 (.inr rfl), ?_, s2.tn t3 (Ne.symm hne), b2.trans (t3.under L.base (Nat.le_trans hbw b2.size) (fun k e => by rw [e]; exact hbb)), fun g A z e => ?_⟩
       · rw [hrun]; unfold lvs; rw [e3, map_erase]; exact l3
       · have e4 := (kp2 g A z e).trans e
         refine ((t3.block g (Array.getElem?_eq_some_iff.1 e4).1 ?_).trans e4).trans e.symm
         intro h; rw [h, hA2] at e4; injection e4 with e4; injection e4 with _ e4; revert e4; decide
 · rintro e w' ⟨n, u, v, j, hq, h⟩
   have j' : Jn w L tasks picks kx kc sg pa pc n w' v := ⟨j.le40, j.live, j.mem.qt hq, own_tn j.liv (Tn.qt (fun _ => False) hq) (fun _ _ h => h), j.sch.qt hq, j.below.trans (hq.below _), fun g A z e => by rw [hq.heap]; exact j.keep g A z e⟩
   rcases h with ⟨h0, rfl⟩ | ⟨h0, h4, rfl⟩
   · have e0 := List.eq_nil_of_length_eq_zero h0
     exact ⟨n, .inl e0, by rw [decide_eq_true e0], v, j'⟩
   · exact ⟨n, .inr h4, by rw [decide_eq_false (fun e => h0 (by rw [e]; rfl))], v, j'⟩

end Go.Proofs.Ytdpbhbpcpnlbkaa
