/-
  spec.Pack: what it answers.
-/
import Derived.Test.YtcilemkeljcidaaDoorPkG
namespace Go.Proofs.YtcilemkeljcidaaDoor
open Go.RowKit
set_option linter.unusedVariables false
set_option maxRecDepth 100000

/-- What Pack answers of parts that were put together to a word of class c and came apart as T. -/
theorem pk_ans {F : M.Fm} (h : F.Ok) (t : M.Pt) (X : Nat) (hc : t.c ≠ 0) (hX : F.Proper t → F.pk t = X) :
    (F.upk X = t → (if F.Proper t then F.pk t else 0) = X ∧ decide (F.Proper t) = true) ∧ (¬ F.upk X = t → (if F.Proper t then F.pk t else 0) = 0 ∧ decide (F.Proper t) = false) := by
  constructor
  · intro e
    have hp : F.Proper t := by
      rcases h.upk_proper X with hb | hb
      · rw [e] at hb; rw [hb] at hc; simp at hc
      · rw [e] at hb; exact hb
    exact ⟨by rw [if_pos hp]; exact hX hp, decide_eq_true hp⟩
  · intro e
    have hp : ¬ F.Proper t := fun hp => e (by rw [← hX hp]; exact (h.upk_pk t hp).1)
    exact ⟨if_neg hp, decide_eq_false hp⟩

theorem pt_eq {a : M.Pt} {c : Int} {n : Bool} {s : Nat} {q : Int} : (a.c = c ∧ a.n = n ∧ (M.hiN a.s : Int) = (M.hiN s : Int) ∧ (M.loN a.s : Int) = (M.loN s : Int) ∧ a.q = q) ↔ a = ⟨c, n, s, q⟩ := by
  constructor
  · rintro ⟨h1, h2, h3, h4, h5⟩
    refine M.Pt.ext' h1 h2 ?_ h5
    have e1 := M.hl a.s
    have e2 := M.hl s
    simp only
    omega
  · rintro rfl
    exact ⟨rfl, rfl, rfl, rfl, rfl⟩

/-- What Pack answers. -/
def ansN (F : M.Fm) (t : M.Pt) : Nat := if F.Proper t then F.pk t else 0

theorem notProper0 {F : M.Fm} {c : Int} {n : Bool} {s : Nat} {q : Int} (h1 : c ≠ 1) (h2 : c ≠ 2) (h3 : c ≠ 3) (h4 : c ≠ 4) (h5 : c ≠ 5) : ¬ F.Proper ⟨c, n, s, q⟩ := by
  unfold M.Fm.Proper
  simp only
  omega

theorem blen_iff {F : M.Fm} (h : F.Ok) (s : Nat) : (F.lead ≤ s ↔ F.p ≤ blen s) ∧ (s < 2 * F.lead ↔ blen s ≤ F.p) := by
  have p1 := h.p1
  have e : 2 * F.lead = 2 ^ F.p := by
    unfold M.Fm.lead
    rw [Nat.mul_comm, ← Nat.pow_succ]; congr 1; omega
  rw [e]
  have a := lt_blen s
  refine ⟨⟨fun hh => ?_, fun hh => ?_⟩, ⟨fun hh => blen_le_of s _ hh, fun hh => Nat.lt_of_lt_of_le a (Nat.pow_le_pow_right (by omega) hh)⟩⟩
  · refine Classical.byContradiction fun hn => ?_
    have : 2 ^ blen s ≤ 2 ^ (F.p - 1) := Nat.pow_le_pow_right (by omega) (by omega)
    unfold M.Fm.lead at hh
    omega
  · have hp : 0 < s := by
      rcases Nat.eq_zero_or_pos s with rfl | hs
      · rw [blen_zero] at hh; omega
      · exact hs
    have b := blen_le s hp
    have : 2 ^ (F.p - 1) ≤ 2 ^ (blen s - 1) := Nat.pow_le_pow_right (by omega) (by omega)
    unfold M.Fm.lead
    omega

theorem D_nil : D 0 = [] := by rw [← List.length_eq_zero_iff]; have := M.len_of_lt (B := 4294967296) (by omega) 0 0 (by simp); exact Nat.le_zero.1 this

theorem make_wo (P : Nat → Prop) (F : M.Fm) (h : F.Ok) (n ld : Bool) (ex sg R : Nat) (h2 : ex ≤ F.top) (h3 : sg < 2 * F.lead) (h4 : F.lead ≤ sg ↔ 0 < ex) (hld : ld = decide (0 < ex)) (hR : R = if 0 < ex then sg - F.lead else sg) (hP : P (F.word n ex sg)) (ao : Option Addr) (c : Nat) (w : World) (hr : Rd w ao (D R)) :
    Calls Tryd.prog 38 #[.agg #[.int .i64 (F.p : Int), .int .i64 (1 - (F.emax : Int)), .int .i64 (F.emax : Int), .int .i64 (F.wd : Int), .int .i64 (F.e : Int), .bool F.x], .bool n, .int .i64 (ex : Int), .bool ld, .slice ao (D R).length c] w fun e w' => Wo P w w' e := by
  refine (make_word F h n ld ex sg R h2 h3 h4 hld hR ao c w hr).mono ?_
  rintro e w' ⟨rfl, hb⟩
  exact ⟨_, Nat.lt_of_lt_of_le (h.fields n ex sg h2 h3 h4).2.2.2 h.width.2.2, hP, rfl, hb⟩

theorem spack_any (f : Nat) (hf : f < 4) (c : Int) (n : Bool) (s : Nat) (hs : s < 2 ^ 128) (q : Int) (hq1 : -9223372036854775808 ≤ q) (hq2 : q < 9223372036854775808) (w : World) :
    Calls Tryd.prog 17 #[.int .i64 (f : Int), .agg #[.int .i64 c, .bool n, .int .u64 (M.hiN s : Int), .int .u64 (M.loN s : Int), .int .i64 q]] w fun e w' => e = .returned (.tuple #[.agg #[.int .u64 (M.hiN (ansN (M.fm f) ⟨c, n, s, q⟩) : Int), .int .u64 (M.loN (ansN (M.fm f) ⟨c, n, s, q⟩) : Int)], .bool (decide ((M.fm f).Proper ⟨c, n, s, q⟩))]) ∧ Below w.heap.size w w' := by
  have kE := fun v : World => sdescribe_ok f hf v
  have kU := fun (X : Nat) (hX : X < 2 ^ 128) (v : World) => sunpack_any f hf X hX v
  have h := M.fm_ok f
  have kT := fun v : World => stop_any (M.fm f) h v
  generalize M.fm f = F at *
  simp only [dv, pv] at kE kU
  have p1 := h.p1
  have p2 := h.p2
  have lp := h.leadPos
  have ht := h.top2
  obtain ⟨b1, b2⟩ := blen_iff h s
  have hl : F.lead = 2 ^ (F.p - 1) := rfl
  obtain ⟨E, hE⟩ : ∃ E, wrap64 (wrap64 (wrap64 (q + (F.emax : Int)) + (F.p : Int)) - 1) = E := ⟨_, rfl⟩
  have hE' := hE
  simp only [wrap64] at hE'
  have rN : ¬ F.Proper ⟨c, n, s, q⟩ → (0 = ansN F ⟨c, n, s, q⟩ ∧ false = decide (F.Proper ⟨c, n, s, q⟩)) := fun hn => ⟨(if_neg hn).symm, (decide_eq_false hn).symm⟩
  refine (packG (f : Int) c n s q hs _ _ _ _ _ _ (by omega) (F.top : Int) (blen s : Int) E (2 ^ (F.p - 2)) (s % 2 ^ (F.p - 1)) w (fun X => c ≠ 0 ∧ (F.Proper ⟨c, n, s, q⟩ → F.pk ⟨c, n, s, q⟩ = X)) (fun Y ok => Y = ansN F ⟨c, n, s, q⟩ ∧ ok = decide (F.Proper ⟨c, n, s, q⟩))
    (fun c1 c2 c3 c4 c5 => rN (notProper0 c1 c2 c3 c4 c5))
    (fun e hb => rN (by
      subst e
      have := b1.2 (by omega)
      unfold M.Fm.Proper; simp only; omega))
    (fun e hb => rN (by
      subst e
      clear kE kU kT rN
      unfold M.Fm.Proper; simp only; omega))
    hE (by rw [IntKind.wrap_i64]; omega) (by rw [IntKind.wrap_i64]; omega) kE kT
    (fun v ao cc hr => l1Bits_any ao _ cc s v rfl (by have := D_word hs; omega) hr _ rfl)
    (fun v => by have := l2Two_any (F.p - 2) v (by omega); rwa [show ((F.p - 2 : Nat) : Int) = (F.p : Int) - 2 by omega] at this)
    (fun v ao cc hr => by have := l2Low_any ao _ cc (F.p - 1) s v rfl (by have := D_word hs; omega) (by omega) hr; rwa [show ((F.p - 1 : Nat) : Int) = (F.p : Int) - 1 by omega] at this)
    (fun e v => by
      have := make_wo (fun X => c ≠ 0 ∧ (F.Proper ⟨c, n, s, q⟩ → F.pk ⟨c, n, s, q⟩ = X)) F h n false 0 0 0 (by omega) (by omega) (by omega) rfl rfl ⟨by omega, fun _ => by subst e; simp [M.Fm.pk]⟩ none 0 v (by rw [D_nil]; exact Rd.nil _ _)
      rw [D_nil] at this
      exact this)
    (fun e v => by
      have := make_wo (fun X => c ≠ 0 ∧ (F.Proper ⟨c, n, s, q⟩ → F.pk ⟨c, n, s, q⟩ = X)) F h n true F.top F.lead 0 (Nat.le_refl _) (by omega) (by omega) (by simp; omega) (by rw [if_pos (by omega)]; omega) ⟨by omega, fun _ => by subst e; simp [M.Fm.pk]⟩ none 0 v (by rw [D_nil]; exact Rd.nil _ _)
      rw [D_nil] at this
      exact this)
    (fun e v ao cc hr => by
      have e1 : 2 ^ (F.p - 2) < F.lead := by rw [hl]; exact Nat.pow_lt_pow_right (by omega) (by omega)
      have e2 : F.pk ⟨c, n, s, q⟩ = F.word false F.top (F.lead + 2 ^ (F.p - 2)) := by subst e; simp [M.Fm.pk]
      clear hl b1 b2
      generalize 2 ^ (F.p - 2) = xx at *
      exact make_wo _ F h false true F.top (F.lead + xx) xx (Nat.le_refl _) (by omega) (by omega) (by simp; omega) (by rw [if_pos (by omega)]; omega) ⟨by omega, fun _ => e2⟩ ao cc v hr)
    (fun e hb v ao cc hr => make_wo _ F h n false 0 s s (by omega) (by have := b1.1; omega) (by omega) rfl rfl ⟨by omega, fun _ => by subst e; simp [M.Fm.pk]⟩ ao cc v hr)
    (fun e hb hE1 hE2 v ao cc hr => by
      have c1 : F.lead ≤ s := b1.2 (by omega)
      have c2 : s < 2 * F.lead := b2.2 (by omega)
      have e1 : s % 2 ^ (F.p - 1) = s - F.lead := by rw [← hl, Nat.mod_eq_sub_mod c1]; exact Nat.mod_eq_of_lt (by omega)
      obtain ⟨x, rfl⟩ : ∃ x : Nat, E = (x : Int) := ⟨E.toNat, by omega⟩
      refine make_wo _ F h n true x s _ (by omega) c2 (by omega) (by simp; omega) (by rw [if_pos (by omega)]; exact e1) ⟨by omega, fun hp => ?_⟩ ao cc v hr
      subst e
      unfold M.Fm.Proper at hp
      simp only at hp
      simp [M.Fm.pk, show (q + (F.emax : Int) + (F.p : Int) - 1).toNat = x by omega])
    (fun X hX hP => by
      have an := pk_ans h ⟨c, n, s, q⟩ X hP.1 hP.2
      exact ⟨_, _, _, _, _, fun e => by have := an.1 (pt_eq.1 e); exact ⟨this.1.symm, this.2.symm⟩, fun e => by have := an.2 (fun e' => e (pt_eq.2 e')); exact ⟨this.1.symm, this.2.symm⟩, fun v => kU X hX v⟩)).mono ?_
  rintro e w' ⟨Y, ok, ⟨rfl, rfl⟩, rfl, hb⟩
  exact ⟨rfl, hb⟩

end Go.Proofs.YtcilemkeljcidaaDoor
