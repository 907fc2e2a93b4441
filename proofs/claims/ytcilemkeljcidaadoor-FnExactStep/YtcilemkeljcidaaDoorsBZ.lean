import Derived.OpenShut
import Derived.Test.YtcilemkeljcidaaDoorCards
import Derived.Test.YtcilemkeljcidaaDoorTie
import Derived.ProofKit
import Derived.Deep.DeepHandedRow
import Derived.Lib.LaidTab
import Derived.Lib.LaidU8
import Derived.ChangeOld
import Derived.Below
import Derived.ChangeSame
import Derived.Test.YtcilemkeljcidaaDoorsEqW
import Derived.Test.YtcilemkeljcidaaDoorsIU
import Derived.Test.YtcilemkeljcidaaDoorsSSu
import Derived.Test.YtcilemkeljcidaaDoorsISt
import Derived.Test.YtcilemkeljcidaaDoorsAtS
import Derived.Test.YtcilemkeljcidaaDoorsMkA
import Derived.Test.YtcilemkeljcidaaDoorsSp2
import Derived.Test.YtcilemkeljcidaaDoorsPkG
set_option maxHeartbeats 4000000
set_option maxRecDepth 10000
namespace Go.Proofs.YtcilemkeljcidaaDoor
open Go.RowKit
set_option linter.unusedVariables false
set_option maxRecDepth 100000
theorem pk_ans {F : M.Fm} (h : F.Ok) (t : M.Pt) (X : Nat) (hc : t.c ≠ 0) (hX : F.Proper t → F.pk t = X) :
 (F.upk X = t → (if F.Proper t then F.pk t else 0) = X ∧ decide (F.Proper t) = true) ∧ (¬ F.upk X = t → (if F.Proper t then F.pk t else 0) = 0 ∧ decide (F.Proper t) = false) := by
 constructor
 · intro e
   have hp : F.Proper t := by
    rcases h.upk_proper X with hb | hb
    · rw [e] at hb; rw [hb] at hc; simp at hc
    · rw [e] at hb; exact hb
   exact ⟨by rw [if_pos hp]; exact hX hp, decide_eq_true hp⟩
 · intro e
   have hp : ¬ F.Proper t := fun hp => e (by rw [← hX hp]; exact (h.upk_pk t hp).1)
   exact ⟨if_neg hp, decide_eq_false hp⟩

theorem pt_eq {a : M.Pt} {c : Int} {n : Bool} {s : Nat} {q : Int} : (a.c = c ∧ a.n = n ∧ (M.hiN a.s : Int) = (M.hiN s : Int) ∧ (M.loN a.s : Int) = (M.loN s : Int) ∧ a.q = q) ↔ a = ⟨c, n, s, q⟩ := by
 constructor
 · rintro ⟨h1, h2, h3, h4, h5⟩
   refine M.Pt.ext' h1 h2 ?_ h5
   have e1 := M.hl a.s
   have e2 := M.hl s
   simp only
   omega
 · rintro rfl
   exact ⟨rfl, rfl, rfl, rfl, rfl⟩

def ansN (F : M.Fm) (t : M.Pt) : Nat := if F.Proper t then F.pk t else 0

theorem notProper0 {F : M.Fm} {c : Int} {n : Bool} {s : Nat} {q : Int} (h1 : c ≠ 1) (h2 : c ≠ 2) (h3 : c ≠ 3) (h4 : c ≠ 4) (h5 : c ≠ 5) : ¬ F.Proper ⟨c, n, s, q⟩ := by
 unfold M.Fm.Proper
 simp only
 omega

theorem blen_iff {F : M.Fm} (h : F.Ok) (s : Nat) : (F.lead ≤ s ↔ F.p ≤ blen s) ∧ (s < 2 * F.lead ↔ blen s ≤ F.p) := by
 have p1 := h.p1
 have e : 2 * F.lead = 2 ^ F.p := by
  unfold M.Fm.lead
  rw [Nat.mul_comm, ← Nat.pow_succ]; congr 1; omega
 rw [e]
 have a := lt_blen s
 refine ⟨⟨fun hh => ?_, fun hh => ?_⟩, ⟨fun hh => blen_le_of s _ hh, fun hh => Nat.lt_of_lt_of_le a (Nat.pow_le_pow_right (by omega) hh)⟩⟩
 · refine Classical.byContradiction fun hn => ?_
   have : 2 ^ blen s ≤ 2 ^ (F.p - 1) := Nat.pow_le_pow_right (by omega) (by omega)
   unfold M.Fm.lead at hh
   omega
 · have hp : 0 < s := by
    rcases Nat.eq_zero_or_pos s with rfl | hs
    · rw [blen_zero] at hh; omega
    · exact hs
   have b := blen_le s hp
   have : 2 ^ (F.p - 1) ≤ 2 ^ (blen s - 1) := Nat.pow_le_pow_right (by omega) (by omega)
   unfold M.Fm.lead
   omega

theorem D_nil : D 0 = [] := by rw [← List.length_eq_zero_iff]; have := M.len_of_lt (B := 4294967296) (by omega) 0 0 (by simp); exact Nat.le_zero.1 this

theorem make_wo (P : Nat → Prop) (F : M.Fm) (h : F.Ok) (n ld : Bool) (ex sg R : Nat) (h2 : ex ≤ F.top) (h3 : sg < 2 * F.lead) (h4 : F.lead ≤ sg ↔ 0 < ex) (hld : ld = decide (0 < ex)) (hR : R = if 0 < ex then sg - F.lead else sg) (hP : P (F.word n ex sg)) (ao : Option Addr) (c : Nat) (w : World) (hr : Rd w ao (D R)) :
 Calls Tryd.prog 38 #[.agg #[.int .i64 (F.p : Int), .int .i64 (1 - (F.emax : Int)), .int .i64 (F.emax : Int), .int .i64 (F.wd : Int), .int .i64 (F.e : Int), .bool F.x], .bool n, .int .i64 (ex : Int), .bool ld, .slice ao (D R).length c] w fun e w' => Wo P w w' e := by
 refine (make_word F h n ld ex sg R h2 h3 h4 hld hR ao c w hr).mono ?_
 rintro e w' ⟨rfl, hb⟩
 exact ⟨_, Nat.lt_of_lt_of_le (h.fields n ex sg h2 h3 h4).2.2.2 h.width.2.2, hP, rfl, hb⟩

theorem spack_any (f : Nat) (hf : f < 4) (c : Int) (n : Bool) (s : Nat) (hs : s < 2 ^ 128) (q : Int) (hq1 : -9223372036854775808 ≤ q) (hq2 : q < 9223372036854775808) (w : World) :
 Calls Tryd.prog 17 #[.int .i64 (f : Int), .agg #[.int .i64 c, .bool n, .int .u64 (M.hiN s : Int), .int .u64 (M.loN s : Int), .int .i64 q]] w fun e w' => e = .returned (.tuple #[.agg #[.int .u64 (M.hiN (ansN (M.fm f) ⟨c, n, s, q⟩) : Int), .int .u64 (M.loN (ansN (M.fm f) ⟨c, n, s, q⟩) : Int)], .bool (decide ((M.fm f).Proper ⟨c, n, s, q⟩))]) ∧ Below w.heap.size w w' := by
 have kE := fun v : World => sdescribe_ok f hf v
 have kU := fun (X : Nat) (hX : X < 2 ^ 128) (v : World) => sunpack_any f hf X hX v
 have h := M.fm_ok f
 have kT := fun v : World => stop_any (M.fm f) h v
 generalize M.fm f = F at *
 simp only [dv, pv] at kE kU
 have p1 := h.p1
 have p2 := h.p2
 have lp := h.leadPos
 have ht := h.top2
 obtain ⟨b1, b2⟩ := blen_iff h s
 have hl : F.lead = 2 ^ (F.p - 1) := rfl
 obtain ⟨E, hE⟩ : ∃ E, wrap64 (wrap64 (wrap64 (q + (F.emax : Int)) + (F.p : Int)) - 1) = E := ⟨_, rfl⟩
 have hE' := hE
 simp only [wrap64] at hE'
 have rN : ¬ F.Proper ⟨c, n, s, q⟩ → (0 = ansN F ⟨c, n, s, q⟩ ∧ false = decide (F.Proper ⟨c, n, s, q⟩)) := fun hn => ⟨(if_neg hn).symm, (decide_eq_false hn).symm⟩
 refine (packG (f : Int) c n s q hs _ _ _ _ _ _ (by omega) (F.top : Int) (blen s : Int) E (2 ^ (F.p - 2)) (s % 2 ^ (F.p - 1)) w (fun X => c ≠ 0 ∧ (F.Proper ⟨c, n, s, q⟩ → F.pk ⟨c, n, s, q⟩ = X)) (fun Y ok => Y = ansN F ⟨c, n, s, q⟩ ∧ ok = decide (F.Proper ⟨c, n, s, q⟩))
  (fun c1 c2 c3 c4 c5 => rN (notProper0 c1 c2 c3 c4 c5))
  (fun e hb => rN (by
    subst e
    have := b1.2 (by omega)
    unfold M.Fm.Proper; simp only; omega))
  (fun e hb => rN (by
    subst e
    clear kE kU kT rN
    unfold M.Fm.Proper; simp only; omega))
  hE (by rw [IntKind.wrap_i64]; omega) (by rw [IntKind.wrap_i64]; omega) kE kT
  (fun v ao cc hr => l1Bits_any ao _ cc s v rfl (by have := D_word hs; omega) hr _ rfl)
  (fun v => by have := l2Two_any (F.p - 2) v (by omega); rwa [show ((F.p - 2 : Nat) : Int) = (F.p : Int) - 2 by omega] at this)
  (fun v ao cc hr => by have := l2Low_any ao _ cc (F.p - 1) s v rfl (by have := D_word hs; omega) (by omega) hr; rwa [show ((F.p - 1 : Nat) : Int) = (F.p : Int) - 1 by omega] at this)
  (fun e v => by
    have := make_wo (fun X => c ≠ 0 ∧ (F.Proper ⟨c, n, s, q⟩ → F.pk ⟨c, n, s, q⟩ = X)) F h n false 0 0 0 (by omega) (by omega) (by omega) rfl rfl ⟨by omega, fun _ => by subst e; simp [M.Fm.pk]⟩ none 0 v (by rw [D_nil]; exact Rd.nil _ _)
    rw [D_nil] at this
    exact this)
  (fun e v => by
    have := make_wo (fun X => c ≠ 0 ∧ (F.Proper ⟨c, n, s, q⟩ → F.pk ⟨c, n, s, q⟩ = X)) F h n true F.top F.lead 0 (Nat.le_refl _) (by omega) (by omega) (by simp; omega) (by rw [if_pos (by omega)]; omega) ⟨by omega, fun _ => by subst e; simp [M.Fm.pk]⟩ none 0 v (by rw [D_nil]; exact Rd.nil _ _)
    rw [D_nil] at this
    exact this)
  (fun e v ao cc hr => by
    have e1 : 2 ^ (F.p - 2) < F.lead := by rw [hl]; exact Nat.pow_lt_pow_right (by omega) (by omega)
    have e2 : F.pk ⟨c, n, s, q⟩ = F.word false F.top (F.lead + 2 ^ (F.p - 2)) := by subst e; simp [M.Fm.pk]
    clear hl b1 b2
    generalize 2 ^ (F.p - 2) = xx at *
    exact make_wo _ F h false true F.top (F.lead + xx) xx (Nat.le_refl _) (by omega) (by omega) (by simp; omega) (by rw [if_pos (by omega)]; omega) ⟨by omega, fun _ => e2⟩ ao cc v hr)
  (fun e hb v ao cc hr => make_wo _ F h n false 0 s s (by omega) (by have := b1.1; omega) (by omega) rfl rfl ⟨by omega, fun _ => by subst e; simp [M.Fm.pk]⟩ ao cc v hr)
  (fun e hb hE1 hE2 v ao cc hr => by
    have c1 : F.lead ≤ s := b1.2 (by omega)
    have c2 : s < 2 * F.lead := b2.2 (by omega)
    have e1 : s % 2 ^ (F.p - 1) = s - F.lead := by rw [← hl, Nat.mod_eq_sub_mod c1]; exact Nat.mod_eq_of_lt (by omega)
    obtain ⟨x, rfl⟩ : ∃ x : Nat, E = (x : Int) := ⟨E.toNat, by omega⟩
    refine make_wo _ F h n true x s _ (by omega) c2 (by omega) (by simp; omega) (by rw [if_pos (by omega)]; exact e1) ⟨by omega, fun hp => ?_⟩ ao cc v hr
    subst e
    unfold M.Fm.Proper at hp
    simp only at hp
    simp [M.Fm.pk, show (q + (F.emax : Int) + (F.p : Int) - 1).toNat = x by omega])
  (fun X hX hP => by
    have an := pk_ans h ⟨c, n, s, q⟩ X hP.1 hP.2
    exact ⟨_, _, _, _, _, fun e => by have := an.1 (pt_eq.1 e); exact ⟨this.1.symm, this.2.symm⟩, fun e => by have := an.2 (fun e' => e (pt_eq.2 e')); exact ⟨this.1.symm, this.2.symm⟩, fun v => kU X hX v⟩)).mono ?_
 rintro e w' ⟨Y, ok, ⟨rfl, rfl⟩, rfl, hb⟩
 exact ⟨rfl, hb⟩

def stN (F : M.Fm) (t : M.Pt) (up : Bool) : Nat :=
 if t.c = 0 ∨ t.c = 5 then 0 else if t.c = 1 then F.wat (!up) 1 else if (up == t.n) = true then F.wat t.n (F.rank t - 1) else if t.c = 4 then 0 else F.wat t.n (F.rank t + 1)

def stB (t : M.Pt) (up : Bool) : Bool :=
 if t.c = 0 ∨ t.c = 5 then false else if t.c = 1 then true else if (up == t.n) = true then true else if t.c = 4 then false else true

theorem pat_ans {F : M.Fm} (h : F.Ok) (n : Bool) (r : Nat) (hr : r ≤ F.top * F.lead) : ansN F (F.pat n r) = F.wat n r ∧ decide (F.Proper (F.pat n r)) = true := by
 obtain ⟨a, b⟩ := h.pat_ok n r hr
 exact ⟨by unfold ansN; rw [if_pos a, b], decide_eq_true a⟩

theorem D_ne {s : Nat} (h : 0 < s) : ¬ (D s).length = 0 := by
 intro hh
 have := D_lt s 0 (by omega)
 simp at this
 omega

theorem stp_bad {F : M.Fm} {t : M.Pt} {up : Bool} (hc : t.c = 0 ∨ t.c = 5) : stN F t up = 0 ∧ stB t up = false := by
 unfold stN stB; rw [if_pos hc, if_pos hc]; exact ⟨rfl, rfl⟩

theorem stp_zero {F : M.Fm} {t : M.Pt} {up : Bool} (hc : t.c = 1) : stN F t up = F.wat (!up) 1 ∧ stB t up = true := by
 unfold stN stB; rw [hc]; simp

theorem stp_in {F : M.Fm} {t : M.Pt} {up : Bool} (c0 : ¬ t.c = 0) (c5 : ¬ t.c = 5) (c1 : ¬ t.c = 1) (hn : (up == t.n) = true) : stN F t up = F.wat t.n (F.rank t - 1) ∧ stB t up = true := by
 unfold stN stB
 have : ¬ (t.c = 0 ∨ t.c = 5) := by omega
 rw [if_neg this, if_neg this, if_neg c1, if_neg c1, if_pos hn, if_pos hn]; exact ⟨rfl, rfl⟩

theorem stp_inf {F : M.Fm} {t : M.Pt} {up : Bool} (hc : t.c = 4) (hn : (up == t.n) = false) : stN F t up = 0 ∧ stB t up = false := by
 unfold stN stB; rw [hc, hn]; simp

theorem stp_out {F : M.Fm} {t : M.Pt} {up : Bool} (c0 : ¬ t.c = 0) (c5 : ¬ t.c = 5) (c1 : ¬ t.c = 1) (c4 : ¬ t.c = 4) (hn : (up == t.n) = false) : stN F t up = F.wat t.n (F.rank t + 1) ∧ stB t up = true := by
 unfold stN stB
 have : ¬ (t.c = 0 ∨ t.c = 5) := by omega
 rw [if_neg this, if_neg this, if_neg c1, if_neg c1, hn, if_neg c4, if_neg c4]; simp

theorem rank_room2 {F : M.Fm} (h : F.Ok) {k s : Nat} (hk : k + 2 ≤ F.top) (hs : s < 2 * F.lead) : s < 2 ^ 120 ∧ k ≤ 40000 ∧ k * F.lead + s < 2 ^ 128 := by
 have h1 := h.leadPow
 have h2 := h.p2
 have h3 := h.e2
 have ht : F.top + 1 = 2 ^ F.e := by unfold M.Fm.top; have := Nat.pow_pos (n := F.e) (show 0 < 2 by omega); omega
 have he : 2 ^ F.e ≤ 2 ^ 15 := Nat.pow_le_pow_right (by omega) h3
 have hl : F.lead ≤ 2 ^ 112 := by unfold M.Fm.lead; exact Nat.pow_le_pow_right (by omega) (by omega)
 have hm : (k + 2) * F.lead ≤ F.top * F.lead := Nat.mul_le_mul_right _ hk
 have hm2 : F.top * F.lead ≤ F.lead * 2 ^ F.e := by rw [← ht, Nat.mul_comm]; exact Nat.mul_le_mul_left _ (by omega)
 have hm3 : (k + 2) * F.lead = k * F.lead + 2 * F.lead := by rw [Nat.add_mul]
 refine ⟨by omega, by omega, by omega⟩

theorem drank_any (F : M.Fm) (h : F.Ok) (t : M.Pt) (hp : F.Proper t) (h5 : t.c ≠ 5) (v : World) :
 Calls Tryd.prog 36 #[.agg #[.int .i64 (F.p : Int), .int .i64 (1 - (F.emax : Int)), .int .i64 (F.emax : Int), .int .i64 (F.wd : Int), .int .i64 (F.e : Int), .bool F.x], .agg #[.int .i64 t.c, .bool t.n, .int .u64 (M.hiN t.s : Int), .int .u64 (M.loN t.s : Int), .int .i64 t.q]] v fun e w' => e = .returned (.agg #[.int .u64 (M.hiN (F.rank t) : Int), .int .u64 (M.loN (F.rank t) : Int)]) ∧ Below v.heap.size v w' := by
 by_cases h1 : t.c = 1
 · have e : F.rank t = 0 := by unfold M.Fm.rank; rw [if_pos h1]
   rw [e]
   exact drank1 F h t.c t.n t.s t.q v h1
 · by_cases h4 : t.c = 4
   · have e : F.rank t = F.top * F.lead := by unfold M.Fm.rank; rw [if_neg h1, if_pos h4]
     rw [e]
     exact drank4 F h t.c t.n t.s t.q v h4
   · have e : F.rank t = (t.q - F.qmin).toNat * F.lead + t.s := by unfold M.Fm.rank; rw [if_neg h1, if_neg h4]
     have ht := h.top2
     have hlp := h.leadPos
     have hq : 0 ≤ t.q - F.qmin ∧ (t.q - F.qmin).toNat + 2 ≤ F.top ∧ t.s < 2 * F.lead := by
      rcases hp with hp | hp | hp | hp | hp
      · exact absurd hp.1 h1
      · exact absurd hp.1 h4
      · exact absurd hp.1 h5
      · obtain ⟨_, _, b, c⟩ := hp
        rw [c]
        refine ⟨by omega, ?_, by omega⟩
        have : (F.qmin - F.qmin).toNat = 0 := by omega
        omega
      · obtain ⟨_, _, b, c, d⟩ := hp
        have hqm : F.qmin = 2 - (F.emax : Int) - (F.p : Int) := rfl
        exact ⟨by omega, by omega, b⟩
     obtain ⟨r1, r2, r3⟩ := rank_room2 h hq.2.1 hq.2.2
     rw [e]
     exact drankF F h t.c t.n t.s t.q v h1 h4 _ (by omega) r2 r1 r3

theorem rank_in {F : M.Fm} (h : F.Ok) {t : M.Pt} (hp : F.Proper t) (h5 : ¬ t.c = 5) : (¬ t.c = 1 → 1 ≤ F.rank t) ∧ F.rank t ≤ F.top * F.lead := by
 have lp := h.leadPos
 have tp := h.top2
 by_cases h1 : t.c = 1
 · have e : F.rank t = 0 := by unfold M.Fm.rank; rw [if_pos h1]
   rw [e]; exact ⟨fun q => absurd h1 q, Nat.zero_le _⟩
 · by_cases h4 : t.c = 4
   · have e : F.rank t = F.top * F.lead := by unfold M.Fm.rank; rw [if_neg h1, if_pos h4]
     rw [e]; exact ⟨fun _ => Nat.mul_le_mul (show 1 ≤ F.top by omega) lp, Nat.le_refl _⟩
   · have hc : t.c = 2 ∨ t.c = 3 := by have := hp; unfold M.Fm.Proper at this; omega
     exact ⟨fun _ => (h.shrink_eq t hp hc).2, Nat.le_of_lt (h.grow_eq t hp hc).2⟩

theorem istep_any (f : Nat) (hf : f < 4) (X : Nat) (hX : X < 2 ^ 128) (up : Bool) (w : World) (hm : Fmt w) :
 Calls Tryd.prog 22 #[.int .i64 (f : Int), .agg #[.int .u64 (M.hiN X : Int), .int .u64 (M.loN X : Int)], .bool up] w fun e w' => e = .returned (.tuple #[.agg #[.int .u64 (M.hiN (stN (M.fm f) ((M.fm f).upk X) up) : Int), .int .u64 (M.loN (stN (M.fm f) ((M.fm f).upk X) up) : Int)], .bool (stB ((M.fm f).upk X) up)]) ∧ Below w.heap.size w w' := by
 have kE := fun (v : World) (hv : Fmt v) => describe_ok f hf v hv
 have kU := fun (v : World) (hv : Fmt v) => iunpack_any f hf X hX v hv
 have h := M.fm_ok f
 generalize M.fm f = F at *
 have hp := h.upk_proper X
 obtain ⟨T, hT⟩ : ∃ T, T = F.upk X := ⟨_, rfl⟩
 rw [← hT] at kU hp ⊢
 simp only [dv, pv] at kE kU
 have lp := h.leadPos
 have tp := h.top2
 have rl := rank_lt h
 have o1 : M.hiN 1 = 0 := by decide
 have o2 : M.loN 1 = 1 := by decide
 by_cases hc : T.c = 0 ∨ T.c = 5
 · rw [(stp_bad (F := F) (up := up) hc).1, (stp_bad (F := F) (up := up) hc).2, hi0, lo0]
   exact istep0 (f : Int) X up T _ _ _ _ _ _ w hm kE kU (fun v => pValued _ _ _ _ _ v _ (by rcases hc with hc | hc <;> simp [hc]))
 · have c0 : ¬ T.c = 0 := fun q => hc (Or.inl q)
   have c5 : ¬ T.c = 5 := fun q => hc (Or.inr q)
   have hpr : F.Proper T := by
    rcases hp with hp | hp
    · rw [hp] at c0; simp at c0
    · exact hp
   have kV := fun v : World => pValued T.c T.n (M.hiN T.s : Int) (M.loN T.s : Int) T.q v true (by simp [c0, c5])
   by_cases c1 : T.c = 1
   · rw [(stp_zero (F := F) (up := up) c1).1, (stp_zero (F := F) (up := up) c1).2]
     refine istep1 (f : Int) X up T _ _ _ _ _ _ w hm kE kU kV c1 _ (fun v => ?_)
     have := datRank F h (!up) 1 (Nat.le_trans (by omega) (Nat.mul_le_mul (show 1 ≤ F.top by omega) lp)) v
     rw [o1, o2] at this
     exact this
   · -- the rank
     have kR : ∀ v : World, Calls Tryd.prog 36 #[.agg #[.int .i64 (F.p : Int), .int .i64 (1 - (F.emax : Int)), .int .i64 (F.emax : Int), .int .i64 (F.wd : Int), .int .i64 (F.e : Int), .bool F.x], .agg #[.int .i64 T.c, .bool T.n, .int .u64 (M.hiN T.s : Int), .int .u64 (M.loN T.s : Int), .int .i64 T.q]] v fun e w' => e = .returned (.agg #[.int .u64 (M.hiN (F.rank T) : Int), .int .u64 (M.loN (F.rank T) : Int)]) ∧ Below v.heap.size v w' := fun v => by
      have := drank_any F h T hpr c5 v
      exact this
     have rk := rank_in h hpr c5
     have l1 : 1 < 2 ^ 128 := by decide
     by_cases hn : (up == T.n) = true
     · rw [(stp_in (F := F) c0 c5 c1 hn).1, (stp_in (F := F) c0 c5 c1 hn).2]
       have kM := fun v : World => wminus (F.rank T) 1 v (Nat.lt_of_le_of_lt rk.2 rl) l1 (F.rank T - 1) (sub_word (by have := rk.1 c1; omega) (Nat.lt_of_le_of_lt rk.2 rl))
       rw [o1, o2] at kM
       have kA := fun v : World => datRank F h T.n (F.rank T - 1) (Nat.le_trans (Nat.sub_le _ _) rk.2) v
       exact istep2 (f : Int) X up T _ _ _ _ _ _ w hm kE kU kV c1 _ _ _ kR kM kA hn
     · have hn' : (up == T.n) = false := by simpa using hn
       by_cases c4 : T.c = 4
       · rw [(stp_inf (F := F) c4 hn').1, (stp_inf (F := F) c4 hn').2, hi0, lo0]
         exact istep3 (f : Int) X up T _ _ _ _ _ _ w hm kE kU kV c1 _ 0 0 kR hn' c4
       · rw [(stp_out (F := F) c0 c5 c1 c4 hn').1, (stp_out (F := F) c0 c5 c1 c4 hn').2]
         have gt := (h.grow_eq T hpr (by have := hpr; unfold M.Fm.Proper at this; omega)).2
         have kP := fun v : World => wplus (F.rank T) 1 v (Nat.lt_of_le_of_lt rk.2 rl) l1 (F.rank T + 1) (by rw [Nat.mod_eq_of_lt (by omega)])
         rw [o1, o2] at kP
         have kA := fun v : World => datRank F h T.n (F.rank T + 1) gt v
         exact istep4 (f : Int) X up T _ _ _ _ _ _ w hm kE kU kV c1 _ _ _ kR kP kA hn' c4

theorem sstep_any (f : Nat) (hf : f < 4) (X : Nat) (hX : X < 2 ^ 128) (up : Bool) (w : World) :
 Calls Tryd.prog 21 #[.int .i64 (f : Int), .agg #[.int .u64 (M.hiN X : Int), .int .u64 (M.loN X : Int)], .bool up] w fun e w' => e = .returned (.tuple #[.agg #[.int .u64 (M.hiN (stN (M.fm f) ((M.fm f).upk X) up) : Int), .int .u64 (M.loN (stN (M.fm f) ((M.fm f).upk X) up) : Int)], .bool (stB ((M.fm f).upk X) up)]) ∧ Below w.heap.size w w' := by
 have kE := fun (v : World) => sdescribe_ok f hf v
 have kU := fun (v : World) => sunpack_any f hf X hX v
 have kP := fun (c : Int) (n : Bool) (s : Nat) (hs : s < 2 ^ 128) (q : Int) (hq1 : -9223372036854775808 ≤ q) (hq2 : q < 9223372036854775808) (v : World) => spack_any f hf c n s hs q hq1 hq2 v
 have h := M.fm_ok f
 generalize M.fm f = F at *
 have hp := h.upk_proper X
 obtain ⟨T, hT⟩ : ∃ T, T = F.upk X := ⟨_, rfl⟩
 rw [← hT] at kU hp ⊢
 clear hT
 simp only [dv, pv] at kE kU
 have lp := h.leadPos
 have tp := h.top2
 have p1 := h.p1
 have p2 := h.p2
 have o1 : M.hiN 1 = 0 := by decide
 have o2 : M.loN 1 = 1 := by decide
 have o3 : M.hiN 0 = 0 := by decide
 have o4 : M.loN 0 = 0 := by decide
 have l2 : F.lead ≤ 2 ^ 112 := Nat.pow_le_pow_right (by omega) (by omega)
 have hqd : F.qmin = 2 - (F.emax : Int) - (F.p : Int) := rfl
 have hqm : wrap64 (wrap64 (1 - (F.emax : Int) - (F.p : Int)) + 1) = F.qmin := by simp only [wrap64]; omega
 have HQM := hid hqm
 clear hqm
 by_cases ca : T.c = 0
 · have hc : T.c = 0 ∨ T.c = 5 := Or.inl ca
   rw [(stp_bad (F := F) (up := up) hc).1, (stp_bad (F := F) (up := up) hc).2, hi0, lo0]
   exact sstepA (f : Int) X up T _ _ _ _ _ _ w kE kU ca
 · by_cases cb : T.c = 5
   · have hc : T.c = 0 ∨ T.c = 5 := Or.inr cb
     rw [(stp_bad (F := F) (up := up) hc).1, (stp_bad (F := F) (up := up) hc).2, hi0, lo0]
     exact sstepB (f : Int) X up T _ _ _ _ _ _ w kE kU cb
   · have hpr : F.Proper T := by
      rcases hp with hp | hp
      · rw [hp] at ca; simp at ca
      · exact hp
     clear hp
     by_cases c1 : T.c = 1
     · have pa := pat_ans h (!up) 1 (Nat.le_trans (by omega) (Nat.mul_le_mul (show 1 ≤ F.top by omega) lp))
       rw [h.zero_step] at pa
       rw [(stp_zero (F := F) (up := up) c1).1, (stp_zero (F := F) (up := up) c1).2, ← pa.1, ← pa.2]
       refine sstep1 (f : Int) X up T _ _ _ _ _ _ w kE kU c1 F.qmin HQM.out _ _ (fun v => ?_)
       have := kP 2 (!up) 1 (by decide) F.qmin (by omega) (by omega) v
       rw [o1, o2] at this
       exact this
     · by_cases c4 : T.c = 4
       · cases hn : (up == T.n)
         · rw [(stp_inf (F := F) c4 hn).1, (stp_inf (F := F) c4 hn).2, hi0, lo0]
           exact sstep4g (f : Int) X up T _ _ _ _ _ _ w kE kU c4 F.qmin HQM.out hn
         · have rk : F.rank T = F.top * F.lead := by unfold M.Fm.rank; rw [if_neg c1, if_pos c4]
           have pa := pat_ans h T.n (F.top * F.lead - 1) (Nat.sub_le _ _)
           rw [h.inf_step] at pa
           rw [(stp_in (F := F) ca cb c1 hn).1, (stp_in (F := F) ca cb c1 hn).2, rk, ← pa.1, ← pa.2]
           have e2 : 2 ^ F.p = 2 * F.lead := by
            unfold M.Fm.lead
            rw [Nat.mul_comm, ← Nat.pow_succ]; congr 1; omega
           have hA : 2 * F.lead - 1 < 2 ^ 128 := by omega
           refine sstep4i (f : Int) X up T _ _ _ _ _ _ w kE kU c4 F.qmin HQM.out hn ((F.emax : Int) - F.p + 1) (by simp only [wrap64]; omega) (2 ^ F.p) (2 * F.lead - 1) (fun v => l2Two_any F.p v (by omega)) (fun v => l1Of_any 1 v (by omega))
            (fun v ao bo c d hr hr2 => ?_) (fun v ao c hr => l2Word_any ao _ c _ v rfl hA hr) _ _ (fun v => kP 3 T.n (2 * F.lead - 1) hA ((F.emax : Int) - F.p + 1) (by omega) (by omega) v)
           have := l1Sub_any ao bo _ _ c d (2 ^ F.p) 1 v rfl rfl (by omega) (Nat.le_trans (D_word (by omega)) (by omega)) hr hr2
           rw [show 2 ^ F.p - 1 = 2 * F.lead - 1 by omega] at this
           exact this
       · have hc : T.c = 2 ∨ T.c = 3 := by have := hpr; unfold M.Fm.Proper at this; omega
         have hs : 0 < T.s ∧ T.s < 2 * F.lead ∧ F.qmin ≤ T.q ∧ T.q + F.p - 1 ≤ F.emax ∧ (T.s < F.lead → T.q = F.qmin) := by have := hpr; unfold M.Fm.Proper at this; omega
         obtain ⟨s1, s2, s3, s4, s5⟩ := hs
         have hT : T.s < 2 ^ 128 := by omega
         have kO2 := fun v : World => l2Of_any T.s hT v
         have kO : ∀ v : World, Calls Tryd.prog 42 #[.int .u64 1] v fun e w' => Ret v w' e (D 1) := fun v => l1Of_any 1 v (by omega)
         have kB := fun (S : Nat) (hS : S < 2 ^ 128) (v : World) (ao : Option Addr) (c : Nat) (hr : Rd v ao (D S)) => l1Bits_any ao _ c S v rfl (Nat.le_trans (D_word hS) (by omega)) hr _ rfl
         have kW := fun (S : Nat) (hS : S < 2 ^ 128) (v : World) (ao : Option Addr) (c : Nat) (hr : Rd v ao (D S)) => l2Word_any ao _ c S v rfl hS hr
         have kA := fun (x y : Nat) (hx : x < 2 ^ 128) (hy : y < 2 ^ 128) (v : World) (ao bo : Option Addr) (c d : Nat) (hr : Rd v ao (D x)) (hr2 : Rd v bo (D y)) => l1Add_any ao bo _ _ c d x y v rfl rfl (Nat.le_trans (D_word hx) (by omega)) (Nat.le_trans (D_word hy) (by omega)) hr hr2
         have kS := fun (x y : Nat) (hx : x < 2 ^ 128) (hxy : y ≤ x) (v : World) (ao bo : Option Addr) (c d : Nat) (hr : Rd v ao (D x)) (hr2 : Rd v bo (D y)) => l1Sub_any ao bo _ _ c d x y v rfl rfl hxy (Nat.le_trans (D_word hx) (by omega)) hr hr2
         have h1 : 1 < 2 ^ 128 := by decide
         cases hn : (up == T.n)
         · -- it grows
           obtain ⟨g1, g2⟩ := h.grow_eq T hpr hc
           have pa := pat_ans h T.n (F.rank T + 1) g2
           rw [(stp_out (F := F) ca cb c1 c4 hn).1, (stp_out (F := F) ca cb c1 c4 hn).2, ← pa.1, ← pa.2, ← g1]
           have bl := blen_iff h (T.s + 1)
           by_cases hcr : T.s + 1 = 2 * F.lead
           · have hk : ∀ (v : World) (ao : Option Addr) (c : Nat), Rd v ao (D (T.s + 1)) → Calls Tryd.prog 43 #[.slice ao (D (T.s + 1)).length c, .int .i64 1] v fun e w' => Ret v w' e (D F.lead) := fun v ao c hr => by
              have := l1Right_any ao _ c 1 (T.s + 1) v rfl (Nat.le_trans (D_word (by omega)) (by omega)) (by omega) hr
              rw [show (T.s + 1) / 2 ^ 1 = F.lead by omega] at this
              exact this
             have bL := blen_iff h F.lead
             by_cases hi : (F.emax : Int) < T.q + F.p
             · have e : F.grow T = ⟨4, T.n, 0, 0⟩ := by unfold M.Fm.grow; simp only [hcr, if_true]; rw [if_pos (by omega)]
               rw [e]
               refine sstep_gci (f : Int) X up T _ _ _ _ _ _ w kE kU F.lead (T.q + 1) (T.s + 1) _ hn ca cb c1 c4 F.qmin HQM.out kO2 kO (kA T.s 1 hT h1) (kB (T.s + 1) (by omega)) (by have := bl.2; omega) hk (by simp only [wrap64]; omega) (D_ne lp) (T.q + F.p) (by simp only [wrap64]; omega) hi (kW F.lead (by omega)) _ _ (fun v => ?_)
               have := kP 4 T.n 0 (by decide) 0 (by omega) (by omega) v
               rw [o3, o4] at this
               exact this
             · have e : F.grow T = ⟨3, T.n, F.lead, T.q + 1⟩ := by unfold M.Fm.grow; simp only [hcr, if_true]; rw [if_neg (by omega), if_neg (by omega)]
               rw [e]
               exact sstep_gcm (f : Int) X up T _ _ _ _ _ _ w kE kU F.lead (T.q + 1) (T.s + 1) _ hn ca cb c1 c4 F.qmin HQM.out kO2 kO (kA T.s 1 hT h1) (kB (T.s + 1) (by omega)) (by have := bl.2; omega) hk (by simp only [wrap64]; omega) (D_ne lp) (T.q + F.p) (by simp only [wrap64]; omega) hi _ (kB F.lead (by omega)) (by have := bL.1; omega) (kW F.lead (by omega)) _ _ (fun v => kP 3 T.n F.lead (by omega) (T.q + 1) (by omega) (by omega) v)
           · by_cases hlo : T.s + 1 < F.lead
             · have e : F.grow T = ⟨2, T.n, T.s + 1, T.q⟩ := by unfold M.Fm.grow; simp only [hcr, if_false]; rw [if_neg (by omega), if_pos hlo]
               rw [e]
               exact sstep_gns (f : Int) X up T _ _ _ _ _ _ w kE kU (T.s + 1) _ hn ca cb c1 c4 F.qmin HQM.out kO2 kO (kA T.s 1 hT h1) (kB (T.s + 1) (by omega)) (by have := bl.2; omega) (D_ne (by omega)) (T.q + F.p - 1) (by simp only [wrap64]; omega) (by omega) _ (kB (T.s + 1) (by omega)) (by have := bl.1; omega) (kW (T.s + 1) (by omega)) _ _ (fun v => kP 2 T.n (T.s + 1) (by omega) T.q (by omega) (by omega) v)
             · have e : F.grow T = ⟨3, T.n, T.s + 1, T.q⟩ := by unfold M.Fm.grow; simp only [hcr, if_false]; rw [if_neg (by omega), if_neg hlo]
               rw [e]
               exact sstep_gnm (f : Int) X up T _ _ _ _ _ _ w kE kU (T.s + 1) _ hn ca cb c1 c4 F.qmin HQM.out kO2 kO (kA T.s 1 hT h1) (kB (T.s + 1) (by omega)) (by have := bl.2; omega) (D_ne (by omega)) (T.q + F.p - 1) (by simp only [wrap64]; omega) (by omega) _ (kB (T.s + 1) (by omega)) (by have := bl.1; omega) (kW (T.s + 1) (by omega)) _ _ (fun v => kP 3 T.n (T.s + 1) (by omega) T.q (by omega) (by omega) v)
         · -- it shrinks
           obtain ⟨g1, g2⟩ := h.shrink_eq T hpr hc
           have rk := rank_in h hpr cb
           have pa := pat_ans h T.n (F.rank T - 1) (Nat.le_trans (Nat.sub_le _ _) rk.2)
           rw [(stp_in (F := F) ca cb c1 hn).1, (stp_in (F := F) ca cb c1 hn).2, ← pa.1, ← pa.2, ← g1]
           have bl := blen_iff h (T.s - 1)
           by_cases hlo : T.s - 1 < F.lead
           · by_cases hq : F.qmin < T.q
             · have hsl : T.s = F.lead := by
                have := s5
                omega
               have e : F.shrink T = ⟨3, T.n, 2 * (T.s - 1) + 1, T.q - 1⟩ := by
                unfold M.Fm.shrink
                have hb : T.s - 1 < F.lead ∧ T.q > F.qmin := ⟨hlo, hq⟩
                simp only [hb, and_self, if_true]
                rw [if_neg (by omega), if_neg (by omega), if_neg (by have := h.half; have : 0 < 2 ^ (F.p - 2) := Nat.pow_pos (by omega); omega)]
               rw [e]
               have bL := blen_iff h (2 * (T.s - 1) + 1)
               have hl2 : 2 ≤ F.lead := by have := h.half; have : 0 < 2 ^ (F.p - 2) := Nat.pow_pos (by omega); omega
               have hk : ∀ (v : World) (ao : Option Addr) (c : Nat), Rd v ao (D (T.s - 1)) → Calls Tryd.prog 44 #[.slice ao (D (T.s - 1)).length c, .int .i64 1] v fun e w' => Ret v w' e (D (2 * (T.s - 1))) := fun v ao c hr => by
                have := l1Left_any ao _ c 1 (T.s - 1) v rfl (Nat.le_trans (D_word (by omega)) (by omega)) (by omega) hr
                rw [show (T.s - 1) * 2 ^ 1 = 2 * (T.s - 1) by omega] at this
                exact this
               exact sstep_sbm (f : Int) X up T _ _ _ _ _ _ w kE kU (2 * (T.s - 1) + 1) (T.q - 1) (T.s - 1) (2 * (T.s - 1)) _ hn ca cb c1 c4 F.qmin HQM.out kO2 kO (kS T.s 1 hT s1) (kB (T.s - 1) (by omega)) (by have := bl.1; omega) hq hk (kA (2 * (T.s - 1)) 1 (by omega) h1) (by simp only [wrap64]; omega) (D_ne (by omega)) (T.q + F.p - 2) (by simp only [wrap64]; omega) (by omega) _ (kB (2 * (T.s - 1) + 1) (by omega)) (by have := bL.1; omega) (kW (2 * (T.s - 1) + 1) (by omega)) _ _ (fun v => kP 3 T.n (2 * (T.s - 1) + 1) (by omega) (T.q - 1) (by omega) (by omega) v)
             · have hnb : ¬ (T.s - 1 < F.lead ∧ T.q > F.qmin) := fun q => hq q.2
               by_cases hz : T.s - 1 = 0
               · have e : F.shrink T = ⟨1, T.n, 0, 0⟩ := by unfold M.Fm.shrink; simp only [hnb, if_false]; rw [if_pos hz]
                 rw [e]
                 refine sstep_sn2z (f : Int) X up T _ _ _ _ _ _ w kE kU (T.s - 1) _ hn ca cb c1 c4 F.qmin HQM.out kO2 kO (kS T.s 1 hT s1) (kB (T.s - 1) (by omega)) (by have := bl.1; omega) hq (by rw [hz]; simp [Hid, D, M.dig_zero]) (kW (T.s - 1) (by omega)) _ _ (fun v => ?_)
                 have := kP 1 T.n 0 (by decide) 0 (by omega) (by omega) v
                 rw [o3, o4] at this
                 exact this
               · have e : F.shrink T = ⟨2, T.n, T.s - 1, T.q⟩ := by unfold M.Fm.shrink; simp only [hnb, if_false]; rw [if_neg hz, if_neg (by omega), if_pos hlo]
                 rw [e]
                 exact sstep_sn2s (f : Int) X up T _ _ _ _ _ _ w kE kU (T.s - 1) _ hn ca cb c1 c4 F.qmin HQM.out kO2 kO (kS T.s 1 hT s1) (kB (T.s - 1) (by omega)) (by have := bl.1; omega) hq (D_ne (by omega)) (T.q + F.p - 1) (by simp only [wrap64]; omega) (by omega) _ (kB (T.s - 1) (by omega)) (by have := bl.1; omega) (kW (T.s - 1) (by omega)) _ _ (fun v => kP 2 T.n (T.s - 1) (by omega) T.q (by omega) (by omega) v)
           · have hnb : ¬ (T.s - 1 < F.lead ∧ T.q > F.qmin) := fun q => hlo q.1
             have e : F.shrink T = ⟨3, T.n, T.s - 1, T.q⟩ := by unfold M.Fm.shrink; simp only [hnb, if_false]; rw [if_neg (by omega), if_neg (by omega), if_neg hlo]
             rw [e]
             exact sstep_sn1m (f : Int) X up T _ _ _ _ _ _ w kE kU (T.s - 1) _ hn ca cb c1 c4 F.qmin HQM.out kO2 kO (kS T.s 1 hT s1) (kB (T.s - 1) (by omega)) (by have := bl.1; omega) (D_ne (by omega)) (T.q + F.p - 1) (by simp only [wrap64]; omega) (by omega) _ (kB (T.s - 1) (by omega)) (by have := bl.1; omega) (kW (T.s - 1) (by omega)) _ _ (fun v => kP 3 T.n (T.s - 1) (by omega) T.q (by omega) (by omega) v)

theorem lawStepKey (f a b : Int) (up : Bool) (x y : Int) (ok : Bool) (w : World) (h : Fmt w)
 (hS : ∀ v : World, Calls Tryd.prog 21 #[.int .i64 f, .agg #[.int .u64 a, .int .u64 b], .bool up] v fun e w' => e = .returned (.tuple #[.agg #[.int .u64 x, .int .u64 y], .bool ok]) ∧ Below v.heap.size v w')
 (hI : ∀ v : World, Fmt v → Calls Tryd.prog 22 #[.int .i64 f, .agg #[.int .u64 a, .int .u64 b], .bool up] v fun e w' => e = .returned (.tuple #[.agg #[.int .u64 x, .int .u64 y], .bool ok]) ∧ Below v.heap.size v w') :
 Calls Tryd.prog 7 #[.int .i64 f, .agg #[.int .u64 a, .int .u64 b], .bool up] w fun e w' => e = .returned (.bool true) ∧ Below w.heap.size w w' := by
 have b0 := (Below.refl w.heap.size w).alloc (Nat.le_refl _) (.cells #[.int .u64 a, .int .u64 b] 29)
 go_enter Tryd.func7, Tryd.ntmps7
 go_wp2_with fail
 refine (toWord_any a b _).mono ?_
 rintro e v1 ⟨rfl, hb⟩
 have x0 : v1.cell? ⟨w.heap.size, 0, none⟩ = some (.int .u64 a) := (hb.cell (by simp)).trans (by simp [go_sem])
 have x1 : v1.cell? ⟨w.heap.size, 1, none⟩ = some (.int .u64 b) := (hb.cell (by simp)).trans (by simp [go_sem])
 have l0 : w.heap.size < v1.heap.size := by have := hb.size; simp at this; omega
 replace b0 := b0.trans (hb.mono b0.size)
 clear hb
 go_wp2_with fail
 refine (hS _).mono ?_
 rintro e v2 ⟨rfl, hb⟩
 replace x0 := (hb.cell (p := ⟨w.heap.size, 0, none⟩) l0).trans x0
 replace x1 := (hb.cell (p := ⟨w.heap.size, 1, none⟩) l0).trans x1
 replace l0 := Nat.lt_of_lt_of_le l0 hb.size
 replace b0 := b0.trans (hb.mono b0.size)
 clear hb hS
 go_wp2_with fail
 refine (toWord_any a b _).mono ?_
 rintro e v3 ⟨rfl, hb⟩
 have w0 : v3.cell? ⟨v2.heap.size, 0, none⟩ = some (.int .u64 x) := (hb.cell (by simp)).trans (by simp [go_sem])
 have w1 : v3.cell? ⟨v2.heap.size, 1, none⟩ = some (.int .u64 y) := (hb.cell (by simp)).trans (by simp [go_sem])
 have l1 : v2.heap.size < v3.heap.size := by have := hb.size; simp at this; omega
 replace b0 := (b0.alloc b0.size (.cells #[.int .u64 x, .int .u64 y] 30)).trans (hb.mono (Nat.le_trans b0.size (by simp)))
 clear hb x0 x1 l0
 generalize v2.heap.size = g at *
 go_wp2_with fail
 refine (hI _ (h.below b0)).mono ?_
 rintro e v4 ⟨rfl, hb⟩
 replace w0 := (hb.cell (p := ⟨g, 0, none⟩) l1).trans w0
 replace w1 := (hb.cell (p := ⟨g, 1, none⟩) l1).trans w1
 replace l1 := Nat.lt_of_lt_of_le l1 hb.size
 replace b0 := b0.trans (hb.mono b0.size)
 clear hb hI
 have hne : (ok != ok) = false := by simp
 go_wp2_with fail
 refine (eqWord_same x y _).mono ?_
 rintro e v5 ⟨rfl, hb⟩
 replace b0 := (b0.alloc b0.size (.cells #[.int .u64 x, .int .u64 y] 30)).trans (hb.mono (Nat.le_trans b0.size (by simp)))
 clear hb
 go_wp2_with fail
 go_ret
 exact ⟨rfl, b0⟩

theorem istep_no (f : Int) (hf : f < 0 ∨ 4 ≤ f) (X : Nat) (up : Bool) (w : World) (hm : Fmt w) :
 Calls Tryd.prog 22 #[.int .i64 f, .agg #[.int .u64 (M.hiN X : Int), .int .u64 (M.loN X : Int)], .bool up] w fun e w' => e = .returned (.tuple #[.agg #[.int .u64 0, .int .u64 0], .bool false]) ∧ Below w.heap.size w w' := by
 refine istep0 f X up ⟨0, false, 0, 0⟩ _ _ _ _ _ _ w hm (fun v hv => describeNo f v hf) (fun v hv => ?_) (fun v => pValued _ _ _ _ _ v _ (by simp))
 have := iunpack_no f hf (M.hiN X : Int) (M.loN X : Int) v
 simpa [hi0, lo0] using this

theorem sstep_no (f : Int) (hf : f < 0 ∨ 4 ≤ f) (X : Nat) (up : Bool) (w : World) :
 Calls Tryd.prog 21 #[.int .i64 f, .agg #[.int .u64 (M.hiN X : Int), .int .u64 (M.loN X : Int)], .bool up] w fun e w' => e = .returned (.tuple #[.agg #[.int .u64 0, .int .u64 0], .bool false]) ∧ Below w.heap.size w w' := by
 refine sstepA f X up ⟨0, false, 0, 0⟩ _ _ _ _ _ _ w (fun v => sdescribeNo f v hf) (fun v => ?_) rfl
 have := sunpack_no f hf (M.hiN X : Int) (M.loN X : Int) v
 simpa [hi0, lo0] using this

theorem lawStep (f a b : Int) (up : Bool) (w : World) (wf0 : (Lit.int .i64 f).wf = true) (wa : (Lit.int .u64 a).wf = true) (wb : (Lit.int .u64 b).wf = true) (h : Fmt w) :
 Calls Tryd.prog 7 #[.int .i64 f, .agg #[.int .u64 a, .int .u64 b], .bool up] w fun e w' => e = .returned (.bool true) ∧ Below w.heap.size w w' := by
 have ha := bounds_u64 wa
 have hb := bounds_u64 wb
 obtain ⟨x, rfl⟩ : ∃ x : Nat, a = (x : Int) := ⟨a.toNat, by omega⟩
 obtain ⟨y, rfl⟩ : ∃ y : Nat, b = (y : Int) := ⟨b.toNat, by omega⟩
 obtain ⟨X, hX, e1, e2⟩ : ∃ X : Nat, X < 2 ^ 128 ∧ (x : Int) = (M.hiN X : Int) ∧ (y : Int) = (M.loN X : Int) := ⟨x * 18446744073709551616 + y, by omega, by rw [M.hiOf x y (by omega)], by rw [M.loOf x y (by omega)]⟩
 rw [e1, e2]
 by_cases hf : 0 ≤ f ∧ f < 4
 · obtain ⟨k, rfl⟩ : ∃ k : Nat, f = (k : Int) := ⟨f.toNat, by omega⟩
   exact lawStepKey _ _ _ _ _ _ _ w h (fun v => sstep_any k (by omega) X hX up v) (fun v hv => istep_any k (by omega) X hX up v hv)
 · have hn : f < 0 ∨ 4 ≤ f := by omega
   exact lawStepKey _ _ _ _ _ _ _ w h (fun v => sstep_no f hn X up v) (fun v hv => istep_no f hn X up v hv)

open Go.ChangeShapes Go.WideShapes Go.ChangeAt
theorem Tryd.own : ownKnob Tryd.prog.godebug = none := by kernel_rfl

theorem Tryd.gFmt : Tryd.prog.globalNamed "loop.example/s01493/impl.formats" = some 0 := by kernel_rfl

theorem Tryd.gFmtType : (Tryd.prog.globals[0]?).map (·.type) = some 48 := by kernel_rfl

theorem Tryd.cellsInt : Tryd.prog.cellsOf 3 = 1 := by kernel_rfl

theorem Tryd.cellsBool : Tryd.prog.cellsOf 4 = 1 := by kernel_rfl

theorem Tryd.cellsDesc : Tryd.prog.cellsOf 23 = 6 := by kernel_rfl

theorem Tryd.cellsFmts : Tryd.prog.cellsOf 48 = 24 := by kernel_rfl

theorem desc6 {H : Type} {enc : TypeId × Value → H} {w : World} {base : Nat} {sp : Nat → Bool} {held : Bool} {fuel : Nat} {l : List Value} {a b c d e : Int} {x : Bool} {p : List MemPlace}
 (h : DataW.trod enc Tryd.prog w base sp held fuel 23 l = some (.agg [.lit (.int .i64 a), .lit (.int .i64 b), .lit (.int .i64 c), .lit (.int .i64 d), .lit (.int .i64 e), .lit (.bool x)], p)) :
 l = [.int .i64 a, .int .i64 b, .int .i64 c, .int .i64 d, .int .i64 e, .bool x] := by
 obtain ⟨xs, n, rfl, hx, hl, hxl, hall⟩ := DataW.trod_struct Tryd.underlying23 h
 rw [Tryd.cellsDesc] at hl
 have f0 : DataW.trod enc Tryd.prog w base sp held n 3 ((l.drop 0).take (Tryd.prog.cellsOf 3)) = xs[0]? := hall 0 _ rfl
 have f1 : DataW.trod enc Tryd.prog w base sp held n 3 ((l.drop 1).take (Tryd.prog.cellsOf 3)) = xs[1]? := hall 1 _ rfl
 have f2 : DataW.trod enc Tryd.prog w base sp held n 3 ((l.drop 2).take (Tryd.prog.cellsOf 3)) = xs[2]? := hall 2 _ rfl
 have f3 : DataW.trod enc Tryd.prog w base sp held n 3 ((l.drop 3).take (Tryd.prog.cellsOf 3)) = xs[3]? := hall 3 _ rfl
 have f4 : DataW.trod enc Tryd.prog w base sp held n 3 ((l.drop 4).take (Tryd.prog.cellsOf 3)) = xs[4]? := hall 4 _ rfl
 have f5 : DataW.trod enc Tryd.prog w base sp held n 4 ((l.drop 5).take (Tryd.prog.cellsOf 4)) = xs[5]? := hall 5 _ rfl
 match xs, hxl, hx, f0, f1, f2, f3, f4, f5 with
 | [x0, x1, x2, x3, x4, x5], _, hx, f0, f1, f2, f3, f4, f5 =>
   simp only [List.map_cons, List.map_nil, Prod.mk.injEq, DataW.agg.injEq, List.cons.injEq, and_true] at hx
   obtain ⟨⟨g0, g1, g2, g3, g4, g5⟩, _⟩ := hx
   rw [Tryd.cellsInt] at f0 f1 f2 f3 f4
   rw [Tryd.cellsBool] at f5
   obtain ⟨z0, e0, y0, _⟩ := DataW.trod_int Tryd.underlying3 f0
   obtain ⟨z1, e1, y1, _⟩ := DataW.trod_int Tryd.underlying3 f1
   obtain ⟨z2, e2, y2, _⟩ := DataW.trod_int Tryd.underlying3 f2
   obtain ⟨z3, e3, y3, _⟩ := DataW.trod_int Tryd.underlying3 f3
   obtain ⟨z4, e4, y4, _⟩ := DataW.trod_int Tryd.underlying3 f4
   obtain ⟨z5, e5, y5⟩ := DataW.trod_bool Tryd.underlying4 f5
   subst y0; subst y1; subst y2; subst y3; subst y4; subst y5
   simp only [DataW.lit.injEq, Lit.int.injEq, Lit.bool.injEq, true_and] at g0 g1 g2 g3 g4 g5
   subst g0; subst g1; subst g2; subst g3; subst g4; subst g5
   match l, hl with
   | [l0, l1, l2, l3, l4, l5], _ =>
     simp at e0 e1 e2 e3 e4 e5
     rw [e0, e1, e2, e3, e4, e5]

theorem var_of_laid {W : World} (h : laidMetH Tryd.prog [("loop.example/s01493/impl.formats", Rows.laid_loop_example_s01493_impl_formats)] W) :
 W.var? Tryd.prog "loop.example/s01493/impl.formats" = some fmtC := by
 rw [MakeChecks.laidMetH_plain _ _ _ (by kernel_rfl)] at h
 obtain ⟨g, t, cs, fuel, p, h1, h2, h3, h4⟩ := Lib.laidMet.reads h (List.mem_singleton.2 rfl)
 obtain rfl := Option.some.inj (Tryd.gFmt.symm.trans h1)
 obtain rfl := Option.some.inj (Tryd.gFmtType.symm.trans h2)
 rw [h3]
 have hlen : cs.toList.length = 24 := by
  obtain ⟨xs, m, rfl, hx, hl, hn, hel⟩ := DataW.trod_array Tryd.underlying48 h4
  rw [hl, Tryd.cellsFmts]
 obtain ⟨f0, d0, q0, e0, t0⟩ := Lib.array_elem Tryd.underlying48 h4 0 (by decide)
 obtain ⟨f1, d1, q1, e1, t1⟩ := Lib.array_elem Tryd.underlying48 h4 1 (by decide)
 obtain ⟨f2, d2, q2, e2, t2⟩ := Lib.array_elem Tryd.underlying48 h4 2 (by decide)
 obtain ⟨f3, d3, q3, e3, t3⟩ := Lib.array_elem Tryd.underlying48 h4 3 (by decide)
 rw [Tryd.cellsDesc] at t0 t1 t2 t3
 obtain rfl := Option.some.inj e0
 obtain rfl := Option.some.inj e1
 obtain rfl := Option.some.inj e2
 obtain rfl := Option.some.inj e3
 have k0 := desc6 t0
 have k1 := desc6 t1
 have k2 := desc6 t2
 have k3 := desc6 t3
 clear t0 t1 t2 t3 h4 h1 h2 h3 h e0 e1 e2 e3
 obtain ⟨l⟩ := cs
 simp only at hlen k0 k1 k2 k3
 have e : l = l.take 6 ++ ((l.drop 6).take 6 ++ ((l.drop 12).take 6 ++ (l.drop 18).take 6)) := by
  have a1 : (l.drop 18).take 6 = l.drop 18 := List.take_of_length_le (by simp; omega)
  have a2 : l.drop 18 = (l.drop 12).drop 6 := by simp
  have a3 : l.drop 12 = (l.drop 6).drop 6 := by simp
  rw [a1, a2, List.take_append_drop, a3, List.take_append_drop, List.take_append_drop]
 simp at k0 k1 k2 k3
 rw [k0, k1, k2, k3] at e
 rw [e]
 rfl

theorem fmt_of_var {W : World} (h : W.var? Tryd.prog "loop.example/s01493/impl.formats" = some fmtC) : Fmt W := by
 have hc := fun i => World.var?_cell Tryd.gFmt h i
 refine ⟨?_, fun j hj => hc j⟩
 exact World.block_lt_of_cell? W ⟨0, 0, none⟩ (hc 0)

theorem fmt_reads {H : Type} (enc : TypeId × Value → H) (W : World) (sp : Nat → Bool) (held : Bool) :
 DataW.trod enc Tryd.prog W 0 sp held 8 48 fmtC.toList = some (Rows.laid_loop_example_s01493_impl_formats, []) := by kernel_rfl

theorem fmt_vars {H : Type} (enc : TypeId × Value → H) {W : World} (h : W.var? Tryd.prog "loop.example/s01493/impl.formats" = some fmtC) (sp : Nat → Bool) :
 DataW.TrodVars enc Tryd.prog W sp ["loop.example/s01493/impl.formats"] [Rows.laid_loop_example_s01493_impl_formats] (MemPlace.row ⟨0, 0, none⟩ 24 ++ [] ++ []) :=
 ⟨0, 48, fmtC, 8, [], [], Tryd.gFmt, Tryd.gFmtType, h, fmt_reads enc W sp true, rfl, rfl⟩

theorem var_below {W W' : World} (h : W.var? Tryd.prog "loop.example/s01493/impl.formats" = some fmtC) (hb : Below W.heap.size W W') : W'.var? Tryd.prog "loop.example/s01493/impl.formats" = some fmtC := by
 have hlt := (fmt_of_var h).1
 unfold World.var? at h ⊢
 simp only [Tryd.gFmt, Option.bind_some] at h ⊢
 rw [hb.block 0 hlt]
 exact h

noncomputable def laidWorld (os : Os) : World :=
 { World.holding Tryd.prog os ⟨#[], #[], []⟩ with heap := (World.holding Tryd.prog os ⟨#[], #[], []⟩).heap.modify 0 fun
  | .cells _ t frozen => .cells fmtC t frozen
  | o => o }

theorem Tryd.cellsU64 : Tryd.prog.cellsOf 27 = 1 := by kernel_rfl

theorem Tryd.cellsLWord : Tryd.prog.cellsOf 29 = 2 := by kernel_rfl

theorem agg_of_cells {v : Value} {l : List Value} (h : v.cells.toList = l) (hl : 2 ≤ l.length) : v = .agg l.toArray := by
 subst h
 cases v <;> first | (simp [Value.cells] at hl; done) | simp [Value.cells]

theorem open_word {H : Type} {enc : TypeId × Value → H} {w : World} {base : Nat} {sp : Nat → Bool} {held : Bool} {v : Value} {d : DataW H} {ps : List MemPlace} (h : DataW.Trod enc Tryd.prog w base sp held 29 v d ps) :
 ∃ a b : Int, v = .agg #[.int .u64 a, .int .u64 b] ∧ d = .agg [.lit (.int .u64 a), .lit (.int .u64 b)] ∧ ps = [] ∧ (Lit.int .u64 a).wf = true ∧ (Lit.int .u64 b).wf = true := by
 obtain ⟨fuel, hf⟩ := h
 obtain ⟨xs, n, rfl, hx, hl, hxl, hall⟩ := DataW.trod_struct Tryd.underlying29 hf
 rw [Tryd.cellsLWord] at hl
 have f0 : DataW.trod enc Tryd.prog w base sp held n 27 ((v.cells.toList.drop 0).take (Tryd.prog.cellsOf 27)) = xs[0]? := hall 0 _ rfl
 have f1 : DataW.trod enc Tryd.prog w base sp held n 27 ((v.cells.toList.drop 1).take (Tryd.prog.cellsOf 27)) = xs[1]? := hall 1 _ rfl
 rw [Tryd.cellsU64] at f0 f1
 match xs, hxl, hx, f0, f1 with
 | [x0, x1], _, hx, f0, f1 =>
   obtain ⟨z0, e0, y0, k0⟩ := DataW.trod_int Tryd.underlying27 f0
   obtain ⟨z1, e1, y1, k1⟩ := DataW.trod_int Tryd.underlying27 f1
   subst y0; subst y1
   have hv : v.cells.toList = [.int .u64 z0, .int .u64 z1] := by
    generalize v.cells.toList = l at *
    match l, hl with
    | [l0, l1], _ =>
      simp at e0 e1
      rw [e0, e1]
   have := agg_of_cells hv (by simp)
   simp at hx
   exact ⟨z0, z1, this, hx.1, hx.2, k0, k1⟩

theorem shut_word {H : Type} {enc : TypeId × Value → H} {w : World} {base : Nat} {sp : Nat → Bool} {held : Bool} {a b : Int} (ha : (Lit.int .u64 a).wf = true) (hb : (Lit.int .u64 b).wf = true) :
 DataW.Trod enc Tryd.prog w base sp held 29 (.agg #[.int .u64 a, .int .u64 b]) (.agg [.lit (.int .u64 a), .lit (.int .u64 b)]) [] := by
 refine ⟨2, ?_⟩
 refine trod_struct_mk (xs := [(.lit (.int .u64 a), []), (.lit (.int .u64 b), [])]) Tryd.underlying29 (by rw [Tryd.cellsLWord]; rfl) ?_
 simp [DataW.trod, Tryd.underlying27, Tryd.cellsU64, Value.cells, ha, hb]

end Go.Proofs.YtcilemkeljcidaaDoor
