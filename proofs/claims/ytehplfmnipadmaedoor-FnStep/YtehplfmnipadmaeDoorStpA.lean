import Derived.Test.YtehplfmnipadmaeDoorSSu
import Derived.Test.YtehplfmnipadmaeDoorISt
import Derived.Test.YtehplfmnipadmaeDoorAtS
import Derived.Test.YtehplfmnipadmaeDoorIU
import Derived.Test.YtehplfmnipadmaeDoorPkB
namespace Go.Proofs.YtehplfmnipadmaeDoor

open Go.RowKit

set_option linter.unusedVariables false
set_option maxRecDepth 100000

/-- What Step answers: the word and whether there is one. -/
def stN (F : M.Fm) (t : M.Pt) (up : Bool) : Nat :=
  if t.c = 0 ∨ t.c = 5 then 0 else if t.c = 1 then F.wat (!up) 1 else if (up == t.n) = true then F.wat t.n (F.rank t - 1) else if t.c = 4 then 0 else F.wat t.n (F.rank t + 1)

def stB (t : M.Pt) (up : Bool) : Bool :=
  if t.c = 0 ∨ t.c = 5 then false else if t.c = 1 then true else if (up == t.n) = true then true else if t.c = 4 then false else true

theorem pat_ans {F : M.Fm} (h : F.Ok) (n : Bool) (r : Nat) (hr : r ≤ F.top * F.lead) : ansN F (F.pat n r) = F.wat n r ∧ decide (F.Proper (F.pat n r)) = true := by
  obtain ⟨a, b⟩ := h.pat_ok n r hr
  exact ⟨by unfold ansN; rw [if_pos a, b], decide_eq_true a⟩

theorem D_ne {s : Nat} (h : 0 < s) : ¬ (D s).length = 0 := by
  intro hh
  have := D_lt s 0 (by omega)
  simp at this
  omega

theorem stp_bad {F : M.Fm} {t : M.Pt} {up : Bool} (hc : t.c = 0 ∨ t.c = 5) : stN F t up = 0 ∧ stB t up = false := by
  unfold stN stB; rw [if_pos hc, if_pos hc]; exact ⟨rfl, rfl⟩

theorem stp_zero {F : M.Fm} {t : M.Pt} {up : Bool} (hc : t.c = 1) : stN F t up = F.wat (!up) 1 ∧ stB t up = true := by
  unfold stN stB; rw [hc]; simp

theorem stp_in {F : M.Fm} {t : M.Pt} {up : Bool} (c0 : ¬ t.c = 0) (c5 : ¬ t.c = 5) (c1 : ¬ t.c = 1) (hn : (up == t.n) = true) : stN F t up = F.wat t.n (F.rank t - 1) ∧ stB t up = true := by
  unfold stN stB
  have : ¬ (t.c = 0 ∨ t.c = 5) := by omega
  rw [if_neg this, if_neg this, if_neg c1, if_neg c1, if_pos hn, if_pos hn]; exact ⟨rfl, rfl⟩

theorem stp_inf {F : M.Fm} {t : M.Pt} {up : Bool} (hc : t.c = 4) (hn : (up == t.n) = false) : stN F t up = 0 ∧ stB t up = false := by
  unfold stN stB; rw [hc, hn]; simp

theorem stp_out {F : M.Fm} {t : M.Pt} {up : Bool} (c0 : ¬ t.c = 0) (c5 : ¬ t.c = 5) (c1 : ¬ t.c = 1) (c4 : ¬ t.c = 4) (hn : (up == t.n) = false) : stN F t up = F.wat t.n (F.rank t + 1) ∧ stB t up = true := by
  unfold stN stB
  have : ¬ (t.c = 0 ∨ t.c = 5) := by omega
  rw [if_neg this, if_neg this, if_neg c1, if_neg c1, hn, if_neg c4, if_neg c4]; simp

theorem rank_room2 {F : M.Fm} (h : F.Ok) {k s : Nat} (hk : k + 2 ≤ F.top) (hs : s < 2 * F.lead) : s < 2 ^ 120 ∧ k ≤ 40000 ∧ k * F.lead + s < 2 ^ 128 := by
  have h1 := h.leadPow
  have h2 := h.p2
  have h3 := h.e2
  have ht : F.top + 1 = 2 ^ F.e := by unfold M.Fm.top; have := Nat.pow_pos (n := F.e) (show 0 < 2 by omega); omega
  have he : 2 ^ F.e ≤ 2 ^ 15 := Nat.pow_le_pow_right (by omega) h3
  have hl : F.lead ≤ 2 ^ 112 := by unfold M.Fm.lead; exact Nat.pow_le_pow_right (by omega) (by omega)
  have hm : (k + 2) * F.lead ≤ F.top * F.lead := Nat.mul_le_mul_right _ hk
  have hm2 : F.top * F.lead ≤ F.lead * 2 ^ F.e := by rw [← ht, Nat.mul_comm]; exact Nat.mul_le_mul_left _ (by omega)
  have hm3 : (k + 2) * F.lead = k * F.lead + 2 * F.lead := by rw [Nat.add_mul]
  refine ⟨by omega, by omega, by omega⟩

theorem drank_any (F : M.Fm) (h : F.Ok) (t : M.Pt) (hp : F.Proper t) (h5 : t.c ≠ 5) (v : World) :
    Calls Tryd.prog 41 #[.agg #[.int .i64 (F.p : Int), .int .i64 (1 - (F.emax : Int)), .int .i64 (F.emax : Int), .int .i64 (F.wd : Int), .int .i64 (F.e : Int), .bool F.x], .agg #[.int .i64 t.c, .bool t.n, .int .u64 (M.hiN t.s : Int), .int .u64 (M.loN t.s : Int), .int .i64 t.q]] v fun e w' => e = .returned (.agg #[.int .u64 (M.hiN (F.rank t) : Int), .int .u64 (M.loN (F.rank t) : Int)]) ∧ Below v.heap.size v w' := by
  by_cases h1 : t.c = 1
  · have e : F.rank t = 0 := by unfold M.Fm.rank; rw [if_pos h1]
    rw [e]
    exact drank1 F h t.c t.n t.s t.q v h1
  · by_cases h4 : t.c = 4
    · have e : F.rank t = F.top * F.lead := by unfold M.Fm.rank; rw [if_neg h1, if_pos h4]
      rw [e]
      exact drank4 F h t.c t.n t.s t.q v h4
    · have e : F.rank t = (t.q - F.qmin).toNat * F.lead + t.s := by unfold M.Fm.rank; rw [if_neg h1, if_neg h4]
      have ht := h.top2
      have hlp := h.leadPos
      have hq : 0 ≤ t.q - F.qmin ∧ (t.q - F.qmin).toNat + 2 ≤ F.top ∧ t.s < 2 * F.lead := by
        rcases hp with hp | hp | hp | hp | hp
        · exact absurd hp.1 h1
        · exact absurd hp.1 h4
        · exact absurd hp.1 h5
        · obtain ⟨_, _, b, c⟩ := hp
          rw [c]
          refine ⟨by omega, ?_, by omega⟩
          have : (F.qmin - F.qmin).toNat = 0 := by omega
          omega
        · obtain ⟨_, _, b, c, d⟩ := hp
          have hqm : F.qmin = 2 - (F.emax : Int) - (F.p : Int) := rfl
          exact ⟨by omega, by omega, b⟩
      obtain ⟨r1, r2, r3⟩ := rank_room2 h hq.2.1 hq.2.2
      rw [e]
      exact drankF F h t.c t.n t.s t.q v h1 h4 _ (by omega) r2 r1 r3

theorem rank_in {F : M.Fm} (h : F.Ok) {t : M.Pt} (hp : F.Proper t) (h5 : ¬ t.c = 5) : (¬ t.c = 1 → 1 ≤ F.rank t) ∧ F.rank t ≤ F.top * F.lead := by
  have lp := h.leadPos
  have tp := h.top2
  by_cases h1 : t.c = 1
  · have e : F.rank t = 0 := by unfold M.Fm.rank; rw [if_pos h1]
    rw [e]; exact ⟨fun q => absurd h1 q, Nat.zero_le _⟩
  · by_cases h4 : t.c = 4
    · have e : F.rank t = F.top * F.lead := by unfold M.Fm.rank; rw [if_neg h1, if_pos h4]
      rw [e]; exact ⟨fun _ => Nat.mul_le_mul (show 1 ≤ F.top by omega) lp, Nat.le_refl _⟩
    · have hc : t.c = 2 ∨ t.c = 3 := by have := hp; unfold M.Fm.Proper at this; omega
      exact ⟨fun _ => (h.shrink_eq t hp hc).2, Nat.le_of_lt (h.grow_eq t hp hc).2⟩

theorem istep_any (f : Nat) (hf : f < 4) (X : Nat) (hX : X < 2 ^ 128) (up : Bool) (w : World) (hm : Fmt w) :
    Calls Tryd.prog 9 #[.int .i64 (f : Int), .agg #[.int .u64 (M.hiN X : Int), .int .u64 (M.loN X : Int)], .bool up] w fun e w' => e = .returned (.tuple #[.agg #[.int .u64 (M.hiN (stN (M.fm f) ((M.fm f).upk X) up) : Int), .int .u64 (M.loN (stN (M.fm f) ((M.fm f).upk X) up) : Int)], .bool (stB ((M.fm f).upk X) up)]) ∧ Below w.heap.size w w' := by
  have kE := fun (v : World) (hv : Fmt v) => describe_ok f hf v hv
  have kU := fun (v : World) (hv : Fmt v) => iunpack_any f hf X hX v hv
  have h := M.fm_ok f
  generalize M.fm f = F at *
  have hp := h.upk_proper X
  obtain ⟨T, hT⟩ : ∃ T, T = F.upk X := ⟨_, rfl⟩
  rw [← hT] at kU hp ⊢
  simp only [dv, pv] at kE kU
  have lp := h.leadPos
  have tp := h.top2
  have rl := rank_lt h
  have o1 : M.hiN 1 = 0 := by decide
  have o2 : M.loN 1 = 1 := by decide
  by_cases hc : T.c = 0 ∨ T.c = 5
  · rw [(stp_bad (F := F) (up := up) hc).1, (stp_bad (F := F) (up := up) hc).2, hi0, lo0]
    exact istep0 (f : Int) X up T _ _ _ _ _ _ w hm kE kU (fun v => pValued _ _ _ _ _ v _ (by rcases hc with hc | hc <;> simp [hc]))
  · have c0 : ¬ T.c = 0 := fun q => hc (Or.inl q)
    have c5 : ¬ T.c = 5 := fun q => hc (Or.inr q)
    have hpr : F.Proper T := by
      rcases hp with hp | hp
      · rw [hp] at c0; simp at c0
      · exact hp
    have kV := fun v : World => pValued T.c T.n (M.hiN T.s : Int) (M.loN T.s : Int) T.q v true (by simp [c0, c5])
    by_cases c1 : T.c = 1
    · rw [(stp_zero (F := F) (up := up) c1).1, (stp_zero (F := F) (up := up) c1).2]
      refine istep1 (f : Int) X up T _ _ _ _ _ _ w hm kE kU kV c1 _ (fun v => ?_)
      have := datRank F h (!up) 1 (Nat.le_trans (by omega) (Nat.mul_le_mul (show 1 ≤ F.top by omega) lp)) v
      rw [o1, o2] at this
      exact this
    · -- the rank
      have kR : ∀ v : World, Calls Tryd.prog 41 #[.agg #[.int .i64 (F.p : Int), .int .i64 (1 - (F.emax : Int)), .int .i64 (F.emax : Int), .int .i64 (F.wd : Int), .int .i64 (F.e : Int), .bool F.x], .agg #[.int .i64 T.c, .bool T.n, .int .u64 (M.hiN T.s : Int), .int .u64 (M.loN T.s : Int), .int .i64 T.q]] v fun e w' => e = .returned (.agg #[.int .u64 (M.hiN (F.rank T) : Int), .int .u64 (M.loN (F.rank T) : Int)]) ∧ Below v.heap.size v w' := fun v => by
        have := drank_any F h T hpr c5 v
        exact this
      have rk := rank_in h hpr c5
      have l1 : 1 < 2 ^ 128 := by decide
      by_cases hn : (up == T.n) = true
      · rw [(stp_in (F := F) c0 c5 c1 hn).1, (stp_in (F := F) c0 c5 c1 hn).2]
        have kM := fun v : World => wminus (F.rank T) 1 v (Nat.lt_of_le_of_lt rk.2 rl) l1 (F.rank T - 1) (sub_word (by have := rk.1 c1; omega) (Nat.lt_of_le_of_lt rk.2 rl))
        rw [o1, o2] at kM
        have kA := fun v : World => datRank F h T.n (F.rank T - 1) (Nat.le_trans (Nat.sub_le _ _) rk.2) v
        exact istep2 (f : Int) X up T _ _ _ _ _ _ w hm kE kU kV c1 _ _ _ kR kM kA hn
      · have hn' : (up == T.n) = false := by simpa using hn
        by_cases c4 : T.c = 4
        · rw [(stp_inf (F := F) c4 hn').1, (stp_inf (F := F) c4 hn').2, hi0, lo0]
          exact istep3 (f : Int) X up T _ _ _ _ _ _ w hm kE kU kV c1 _ 0 0 kR hn' c4
        · rw [(stp_out (F := F) c0 c5 c1 c4 hn').1, (stp_out (F := F) c0 c5 c1 c4 hn').2]
          have gt := (h.grow_eq T hpr (by have := hpr; unfold M.Fm.Proper at this; omega)).2
          have kP := fun v : World => wplus (F.rank T) 1 v (Nat.lt_of_le_of_lt rk.2 rl) l1 (F.rank T + 1) (by rw [Nat.mod_eq_of_lt (by omega)])
          rw [o1, o2] at kP
          have kA := fun v : World => datRank F h T.n (F.rank T + 1) gt v
          exact istep4 (f : Int) X up T _ _ _ _ _ _ w hm kE kU kV c1 _ _ _ kR kP kA hn' c4

theorem sstep_any (f : Nat) (hf : f < 4) (X : Nat) (hX : X < 2 ^ 128) (up : Bool) (w : World) :
    Calls Tryd.prog 7 #[.int .i64 (f : Int), .agg #[.int .u64 (M.hiN X : Int), .int .u64 (M.loN X : Int)], .bool up] w fun e w' => e = .returned (.tuple #[.agg #[.int .u64 (M.hiN (stN (M.fm f) ((M.fm f).upk X) up) : Int), .int .u64 (M.loN (stN (M.fm f) ((M.fm f).upk X) up) : Int)], .bool (stB ((M.fm f).upk X) up)]) ∧ Below w.heap.size w w' := by
  have kE := fun (v : World) => sdescribe_ok f hf v
  have kU := fun (v : World) => sunpack_any f hf X hX v
  have kP := fun (c : Int) (n : Bool) (s : Nat) (hs : s < 2 ^ 128) (q : Int) (hq1 : -9223372036854775808 ≤ q) (hq2 : q < 9223372036854775808) (v : World) => spack_any f hf c n s hs q hq1 hq2 v
  have h := M.fm_ok f
  generalize M.fm f = F at *
  have hp := h.upk_proper X
  obtain ⟨T, hT⟩ : ∃ T, T = F.upk X := ⟨_, rfl⟩
  rw [← hT] at kU hp ⊢
  clear hT
  simp only [dv, pv] at kE kU
  have lp := h.leadPos
  have tp := h.top2
  have p1 := h.p1
  have p2 := h.p2
  have o1 : M.hiN 1 = 0 := by decide
  have o2 : M.loN 1 = 1 := by decide
  have o3 : M.hiN 0 = 0 := by decide
  have o4 : M.loN 0 = 0 := by decide
  have l2 : F.lead ≤ 2 ^ 112 := Nat.pow_le_pow_right (by omega) (by omega)
  have hqd : F.qmin = 2 - (F.emax : Int) - (F.p : Int) := rfl
  have hqm : wrap64 (wrap64 (1 - (F.emax : Int) - (F.p : Int)) + 1) = F.qmin := by simp only [wrap64]; omega
  have HQM := hid hqm
  clear hqm
  by_cases ca : T.c = 0
  · have hc : T.c = 0 ∨ T.c = 5 := Or.inl ca
    rw [(stp_bad (F := F) (up := up) hc).1, (stp_bad (F := F) (up := up) hc).2, hi0, lo0]
    exact sstepA (f : Int) X up T _ _ _ _ _ _ w kE kU ca
  · by_cases cb : T.c = 5
    · have hc : T.c = 0 ∨ T.c = 5 := Or.inr cb
      rw [(stp_bad (F := F) (up := up) hc).1, (stp_bad (F := F) (up := up) hc).2, hi0, lo0]
      exact sstepB (f : Int) X up T _ _ _ _ _ _ w kE kU cb
    · have hpr : F.Proper T := by
        rcases hp with hp | hp
        · rw [hp] at ca; simp at ca
        · exact hp
      clear hp
      by_cases c1 : T.c = 1
      · have pa := pat_ans h (!up) 1 (Nat.le_trans (by omega) (Nat.mul_le_mul (show 1 ≤ F.top by omega) lp))
        rw [h.zero_step] at pa
        rw [(stp_zero (F := F) (up := up) c1).1, (stp_zero (F := F) (up := up) c1).2, ← pa.1, ← pa.2]
        refine sstep1 (f : Int) X up T _ _ _ _ _ _ w kE kU c1 F.qmin HQM.out _ _ (fun v => ?_)
        have := kP 2 (!up) 1 (by decide) F.qmin (by omega) (by omega) v
        rw [o1, o2] at this
        exact this
      · by_cases c4 : T.c = 4
        · cases hn : (up == T.n)
          · rw [(stp_inf (F := F) c4 hn).1, (stp_inf (F := F) c4 hn).2, hi0, lo0]
            exact sstep4g (f : Int) X up T _ _ _ _ _ _ w kE kU c4 F.qmin HQM.out hn
          · have rk : F.rank T = F.top * F.lead := by unfold M.Fm.rank; rw [if_neg c1, if_pos c4]
            have pa := pat_ans h T.n (F.top * F.lead - 1) (Nat.sub_le _ _)
            rw [h.inf_step] at pa
            rw [(stp_in (F := F) ca cb c1 hn).1, (stp_in (F := F) ca cb c1 hn).2, rk, ← pa.1, ← pa.2]
            have e2 : 2 ^ F.p = 2 * F.lead := by
              unfold M.Fm.lead
              rw [Nat.mul_comm, ← Nat.pow_succ]; congr 1; omega
            have hA : 2 * F.lead - 1 < 2 ^ 128 := by omega
            refine sstep4i (f : Int) X up T _ _ _ _ _ _ w kE kU c4 F.qmin HQM.out hn ((F.emax : Int) - F.p + 1) (by simp only [wrap64]; omega) (2 ^ F.p) (2 * F.lead - 1) (fun v => l2Two_any F.p v (by omega)) (fun v => l1Of_any 1 v (by omega))
              (fun v ao bo c d hr hr2 => ?_) (fun v ao c hr => l2Word_any ao _ c _ v rfl hA hr) _ _ (fun v => kP 3 T.n (2 * F.lead - 1) hA ((F.emax : Int) - F.p + 1) (by omega) (by omega) v)
            have := l1Sub_any ao bo _ _ c d (2 ^ F.p) 1 v rfl rfl (by omega) (Nat.le_trans (D_word (by omega)) (by omega)) hr hr2
            rw [show 2 ^ F.p - 1 = 2 * F.lead - 1 by omega] at this
            exact this
        · have hc : T.c = 2 ∨ T.c = 3 := by have := hpr; unfold M.Fm.Proper at this; omega
          have hs : 0 < T.s ∧ T.s < 2 * F.lead ∧ F.qmin ≤ T.q ∧ T.q + F.p - 1 ≤ F.emax ∧ (T.s < F.lead → T.q = F.qmin) := by have := hpr; unfold M.Fm.Proper at this; omega
          obtain ⟨s1, s2, s3, s4, s5⟩ := hs
          have hT : T.s < 2 ^ 128 := by omega
          have kO2 := fun v : World => l2Of_any T.s hT v
          have kO : ∀ v : World, Calls Tryd.prog 31 #[.int .u64 1] v fun e w' => Ret v w' e (D 1) := fun v => l1Of_any 1 v (by omega)
          have kB := fun (S : Nat) (hS : S < 2 ^ 128) (v : World) (ao : Option Addr) (c : Nat) (hr : Rd v ao (D S)) => l1Bits_any ao _ c S v rfl (Nat.le_trans (D_word hS) (by omega)) hr _ rfl
          have kW := fun (S : Nat) (hS : S < 2 ^ 128) (v : World) (ao : Option Addr) (c : Nat) (hr : Rd v ao (D S)) => l2Word_any ao _ c S v rfl hS hr
          have kA := fun (x y : Nat) (hx : x < 2 ^ 128) (hy : y < 2 ^ 128) (v : World) (ao bo : Option Addr) (c d : Nat) (hr : Rd v ao (D x)) (hr2 : Rd v bo (D y)) => l1Add_any ao bo _ _ c d x y v rfl rfl (Nat.le_trans (D_word hx) (by omega)) (Nat.le_trans (D_word hy) (by omega)) hr hr2
          have kS := fun (x y : Nat) (hx : x < 2 ^ 128) (hxy : y ≤ x) (v : World) (ao bo : Option Addr) (c d : Nat) (hr : Rd v ao (D x)) (hr2 : Rd v bo (D y)) => l1Sub_any ao bo _ _ c d x y v rfl rfl hxy (Nat.le_trans (D_word hx) (by omega)) hr hr2
          have h1 : 1 < 2 ^ 128 := by decide
          cases hn : (up == T.n)
          · -- it grows
            obtain ⟨g1, g2⟩ := h.grow_eq T hpr hc
            have pa := pat_ans h T.n (F.rank T + 1) g2
            rw [(stp_out (F := F) ca cb c1 c4 hn).1, (stp_out (F := F) ca cb c1 c4 hn).2, ← pa.1, ← pa.2, ← g1]
            have bl := blen_iff h (T.s + 1)
            by_cases hcr : T.s + 1 = 2 * F.lead
            · have hk : ∀ (v : World) (ao : Option Addr) (c : Nat), Rd v ao (D (T.s + 1)) → Calls Tryd.prog 35 #[.slice ao (D (T.s + 1)).length c, .int .i64 1] v fun e w' => Ret v w' e (D F.lead) := fun v ao c hr => by
                have := l1Right_any ao _ c 1 (T.s + 1) v rfl (Nat.le_trans (D_word (by omega)) (by omega)) (by omega) hr
                rw [show (T.s + 1) / 2 ^ 1 = F.lead by omega] at this
                exact this
              have bL := blen_iff h F.lead
              by_cases hi : (F.emax : Int) < T.q + F.p
              · have e : F.grow T = ⟨4, T.n, 0, 0⟩ := by unfold M.Fm.grow; simp only [hcr, if_true]; rw [if_pos (by omega)]
                rw [e]
                refine sstep_gci (f : Int) X up T _ _ _ _ _ _ w kE kU F.lead (T.q + 1) (T.s + 1) _ hn ca cb c1 c4 F.qmin HQM.out kO2 kO (kA T.s 1 hT h1) (kB (T.s + 1) (by omega)) (by have := bl.2; omega) hk (by simp only [wrap64]; omega) (D_ne lp) (T.q + F.p) (by simp only [wrap64]; omega) hi (kW F.lead (by omega)) _ _ (fun v => ?_)
                have := kP 4 T.n 0 (by decide) 0 (by omega) (by omega) v
                rw [o3, o4] at this
                exact this
              · have e : F.grow T = ⟨3, T.n, F.lead, T.q + 1⟩ := by unfold M.Fm.grow; simp only [hcr, if_true]; rw [if_neg (by omega), if_neg (by omega)]
                rw [e]
                exact sstep_gcm (f : Int) X up T _ _ _ _ _ _ w kE kU F.lead (T.q + 1) (T.s + 1) _ hn ca cb c1 c4 F.qmin HQM.out kO2 kO (kA T.s 1 hT h1) (kB (T.s + 1) (by omega)) (by have := bl.2; omega) hk (by simp only [wrap64]; omega) (D_ne lp) (T.q + F.p) (by simp only [wrap64]; omega) hi _ (kB F.lead (by omega)) (by have := bL.1; omega) (kW F.lead (by omega)) _ _ (fun v => kP 3 T.n F.lead (by omega) (T.q + 1) (by omega) (by omega) v)
            · by_cases hlo : T.s + 1 < F.lead
              · have e : F.grow T = ⟨2, T.n, T.s + 1, T.q⟩ := by unfold M.Fm.grow; simp only [hcr, if_false]; rw [if_neg (by omega), if_pos hlo]
                rw [e]
                exact sstep_gns (f : Int) X up T _ _ _ _ _ _ w kE kU (T.s + 1) _ hn ca cb c1 c4 F.qmin HQM.out kO2 kO (kA T.s 1 hT h1) (kB (T.s + 1) (by omega)) (by have := bl.2; omega) (D_ne (by omega)) (T.q + F.p - 1) (by simp only [wrap64]; omega) (by omega) _ (kB (T.s + 1) (by omega)) (by have := bl.1; omega) (kW (T.s + 1) (by omega)) _ _ (fun v => kP 2 T.n (T.s + 1) (by omega) T.q (by omega) (by omega) v)
              · have e : F.grow T = ⟨3, T.n, T.s + 1, T.q⟩ := by unfold M.Fm.grow; simp only [hcr, if_false]; rw [if_neg (by omega), if_neg hlo]
                rw [e]
                exact sstep_gnm (f : Int) X up T _ _ _ _ _ _ w kE kU (T.s + 1) _ hn ca cb c1 c4 F.qmin HQM.out kO2 kO (kA T.s 1 hT h1) (kB (T.s + 1) (by omega)) (by have := bl.2; omega) (D_ne (by omega)) (T.q + F.p - 1) (by simp only [wrap64]; omega) (by omega) _ (kB (T.s + 1) (by omega)) (by have := bl.1; omega) (kW (T.s + 1) (by omega)) _ _ (fun v => kP 3 T.n (T.s + 1) (by omega) T.q (by omega) (by omega) v)
          · -- it shrinks
            obtain ⟨g1, g2⟩ := h.shrink_eq T hpr hc
            have rk := rank_in h hpr cb
            have pa := pat_ans h T.n (F.rank T - 1) (Nat.le_trans (Nat.sub_le _ _) rk.2)
            rw [(stp_in (F := F) ca cb c1 hn).1, (stp_in (F := F) ca cb c1 hn).2, ← pa.1, ← pa.2, ← g1]
            have bl := blen_iff h (T.s - 1)
            by_cases hlo : T.s - 1 < F.lead
            · by_cases hq : F.qmin < T.q
              · have hsl : T.s = F.lead := by
                  have := s5
                  omega
                have e : F.shrink T = ⟨3, T.n, 2 * (T.s - 1) + 1, T.q - 1⟩ := by
                  unfold M.Fm.shrink
                  have hb : T.s - 1 < F.lead ∧ T.q > F.qmin := ⟨hlo, hq⟩
                  simp only [hb, and_self, if_true]
                  rw [if_neg (by omega), if_neg (by omega), if_neg (by have := h.half; have : 0 < 2 ^ (F.p - 2) := Nat.pow_pos (by omega); omega)]
                rw [e]
                have bL := blen_iff h (2 * (T.s - 1) + 1)
                have hl2 : 2 ≤ F.lead := by have := h.half; have : 0 < 2 ^ (F.p - 2) := Nat.pow_pos (by omega); omega
                have hk : ∀ (v : World) (ao : Option Addr) (c : Nat), Rd v ao (D (T.s - 1)) → Calls Tryd.prog 36 #[.slice ao (D (T.s - 1)).length c, .int .i64 1] v fun e w' => Ret v w' e (D (2 * (T.s - 1))) := fun v ao c hr => by
                  have := l1Left_any ao _ c 1 (T.s - 1) v rfl (Nat.le_trans (D_word (by omega)) (by omega)) (by omega) hr
                  rw [show (T.s - 1) * 2 ^ 1 = 2 * (T.s - 1) by omega] at this
                  exact this
                exact sstep_sbm (f : Int) X up T _ _ _ _ _ _ w kE kU (2 * (T.s - 1) + 1) (T.q - 1) (T.s - 1) (2 * (T.s - 1)) _ hn ca cb c1 c4 F.qmin HQM.out kO2 kO (kS T.s 1 hT s1) (kB (T.s - 1) (by omega)) (by have := bl.1; omega) hq hk (kA (2 * (T.s - 1)) 1 (by omega) h1) (by simp only [wrap64]; omega) (D_ne (by omega)) (T.q + F.p - 2) (by simp only [wrap64]; omega) (by omega) _ (kB (2 * (T.s - 1) + 1) (by omega)) (by have := bL.1; omega) (kW (2 * (T.s - 1) + 1) (by omega)) _ _ (fun v => kP 3 T.n (2 * (T.s - 1) + 1) (by omega) (T.q - 1) (by omega) (by omega) v)
              · have hnb : ¬ (T.s - 1 < F.lead ∧ T.q > F.qmin) := fun q => hq q.2
                by_cases hz : T.s - 1 = 0
                · have e : F.shrink T = ⟨1, T.n, 0, 0⟩ := by unfold M.Fm.shrink; simp only [hnb, if_false]; rw [if_pos hz]
                  rw [e]
                  refine sstep_sn2z (f : Int) X up T _ _ _ _ _ _ w kE kU (T.s - 1) _ hn ca cb c1 c4 F.qmin HQM.out kO2 kO (kS T.s 1 hT s1) (kB (T.s - 1) (by omega)) (by have := bl.1; omega) hq (by rw [hz]; simp [Hid, D, M.dig_zero]) (kW (T.s - 1) (by omega)) _ _ (fun v => ?_)
                  have := kP 1 T.n 0 (by decide) 0 (by omega) (by omega) v
                  rw [o3, o4] at this
                  exact this
                · have e : F.shrink T = ⟨2, T.n, T.s - 1, T.q⟩ := by unfold M.Fm.shrink; simp only [hnb, if_false]; rw [if_neg hz, if_neg (by omega), if_pos hlo]
                  rw [e]
                  exact sstep_sn2s (f : Int) X up T _ _ _ _ _ _ w kE kU (T.s - 1) _ hn ca cb c1 c4 F.qmin HQM.out kO2 kO (kS T.s 1 hT s1) (kB (T.s - 1) (by omega)) (by have := bl.1; omega) hq (D_ne (by omega)) (T.q + F.p - 1) (by simp only [wrap64]; omega) (by omega) _ (kB (T.s - 1) (by omega)) (by have := bl.1; omega) (kW (T.s - 1) (by omega)) _ _ (fun v => kP 2 T.n (T.s - 1) (by omega) T.q (by omega) (by omega) v)
            · have hnb : ¬ (T.s - 1 < F.lead ∧ T.q > F.qmin) := fun q => hlo q.1
              have e : F.shrink T = ⟨3, T.n, T.s - 1, T.q⟩ := by unfold M.Fm.shrink; simp only [hnb, if_false]; rw [if_neg (by omega), if_neg (by omega), if_neg hlo]
              rw [e]
              exact sstep_sn1m (f : Int) X up T _ _ _ _ _ _ w kE kU (T.s - 1) _ hn ca cb c1 c4 F.qmin HQM.out kO2 kO (kS T.s 1 hT s1) (kB (T.s - 1) (by omega)) (by have := bl.1; omega) (D_ne (by omega)) (T.q + F.p - 1) (by simp only [wrap64]; omega) (by omega) _ (kB (T.s - 1) (by omega)) (by have := bl.1; omega) (kW (T.s - 1) (by omega)) _ _ (fun v => kP 3 T.n (T.s - 1) (by omega) T.q (by omega) (by omega) v)

end Go.Proofs.YtehplfmnipadmaeDoor

