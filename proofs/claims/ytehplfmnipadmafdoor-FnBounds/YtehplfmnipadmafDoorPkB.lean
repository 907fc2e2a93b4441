import Derived.Test.YtehplfmnipadmafDoorPk5
import Derived.Test.YtehplfmnipadmafDoorSp2
import Derived.Test.YtehplfmnipadmafDoorPk8
import Derived.Test.YtehplfmnipadmafDoorPk9
namespace Go.Proofs.YtehplfmnipadmafDoor

open Go.RowKit

set_option linter.unusedVariables false
set_option maxRecDepth 100000

/-- l2Make, whatever the fields. -/
theorem make_any (F : M.Fm) (h : F.Ok) (n ld : Bool) (ex R V : Nat) (hex : ex < 40000)
    (hV : V = ex * 2 ^ F.fb + (if F.x = true ∧ ld = true then F.lead else 0) + R + (if n then 2 ^ (F.wd - 1) else 0)) (hVl : V < 2 ^ 128) (ao : Option Addr) (c : Nat) (w : World) (hr : Rd w ao (D R)) :
    Calls Tryd.prog 35 #[.agg #[.int .i64 (F.p : Int), .int .i64 (1 - (F.emax : Int)), .int .i64 (F.emax : Int), .int .i64 (F.wd : Int), .int .i64 (F.e : Int), .bool F.x], .bool n, .int .i64 (ex : Int), .bool ld, .slice ao (D R).length c] w fun e w' => e = .returned (.agg #[.int .u64 (M.hiN V : Int), .int .u64 (M.loN V : Int)]) ∧ Below w.heap.size w w' := by
  have p1 := h.p1
  have p2 := h.p2
  have w1 := wd_pos h
  have w2 := h.w
  have hf : F.fb = if F.x then F.p else F.p - 1 := rfl
  have hle : F.lead = 2 ^ (F.p - 1) := rfl
  rw [hle] at hV
  rw [hf] at hV
  generalize F.emax = em at *
  generalize F.wd = W at *
  rcases F with ⟨p, e, x⟩
  simp only at *
  clear hf hle h
  have q1 : 0 < 2 ^ (W - 1) := Nat.pow_pos (by omega)
  have q2 : 0 < 2 ^ (p - 1) := Nat.pow_pos (by omega)
  cases x
  · simp only [Bool.false_eq_true, if_false, false_and, Nat.add_zero] at hV ⊢
    cases n
    · simp only [Bool.false_eq_true, if_false, Nat.add_zero] at hV
      exact make_inp p W ex R _ _ _ ld ao _ c w (by omega) p2 w1 w2 hex (by omega) rfl hr _ rfl (by omega) V (by omega) hVl
    · simp only [if_true] at hV
      exact make_inm p W ex R _ _ _ ld ao _ c w (by omega) p2 w1 w2 hex (by omega) rfl hr _ rfl (by omega) _ rfl (by omega) V (by omega) hVl
  · cases ld
    · simp only [if_true, Bool.false_eq_true, and_false, if_false, Nat.add_zero] at hV
      cases n
      · simp only [Bool.false_eq_true, if_false, Nat.add_zero] at hV
        exact make_enp p W ex R _ _ _ ao _ c w (by omega) p2 w1 w2 hex (by omega) rfl hr _ rfl (by omega) V (by omega) hVl
      · simp only [if_true] at hV
        exact make_enm p W ex R _ _ _ ao _ c w (by omega) p2 w1 w2 hex (by omega) rfl hr _ rfl (by omega) _ rfl (by omega) V (by omega) hVl
    · simp only [if_true, and_self] at hV
      cases n
      · simp only [Bool.false_eq_true, if_false, Nat.add_zero] at hV
        exact make_elp p W ex R _ _ _ ao _ c w (by omega) p2 w1 w2 hex (by omega) rfl hr _ rfl (by omega) _ rfl (by omega) V (by omega) hVl
      · simp only [if_true] at hV
        exact make_elm p W ex R _ _ _ ao _ c w (by omega) p2 w1 w2 hex (by omega) rfl hr _ rfl (by omega) _ rfl (by omega) _ rfl (by omega) V (by omega) hVl

/-- l2Make of a Sig with its leading bit (an exponent above zero), or of one below it (exponent zero). -/
theorem make_word (F : M.Fm) (h : F.Ok) (n ld : Bool) (ex sg R : Nat) (h2 : ex ≤ F.top) (h3 : sg < 2 * F.lead) (h4 : F.lead ≤ sg ↔ 0 < ex) (hld : ld = decide (0 < ex)) (hR : R = if 0 < ex then sg - F.lead else sg) (ao : Option Addr) (c : Nat) (w : World) (hr : Rd w ao (D R)) :
    Calls Tryd.prog 35 #[.agg #[.int .i64 (F.p : Int), .int .i64 (1 - (F.emax : Int)), .int .i64 (F.emax : Int), .int .i64 (F.wd : Int), .int .i64 (F.e : Int), .bool F.x], .bool n, .int .i64 (ex : Int), .bool ld, .slice ao (D R).length c] w fun e w' => e = .returned (.agg #[.int .u64 (M.hiN (F.word n ex sg) : Int), .int .u64 (M.loN (F.word n ex sg) : Int)]) ∧ Below w.heap.size w w' := by
  have ht := h.top2
  have hl := (h.fields n ex sg h2 h3 h4).2.2.2
  have hw := h.width.2.2
  refine make_any F h n ld ex R _ (by omega) ?_ (Nat.lt_of_lt_of_le hl hw) ao c w hr
  subst hld
  subst hR
  unfold M.Fm.word
  by_cases hx : 0 < ex
  · have := h4.2 hx
    cases F.x <;> simp [hx] <;> omega
  · cases F.x <;> simp [hx]

theorem stop_any (F : M.Fm) (h : F.Ok) (w : World) :
    Calls Tryd.prog 36 #[.agg #[.int .i64 (F.p : Int), .int .i64 (1 - (F.emax : Int)), .int .i64 (F.emax : Int), .int .i64 (F.wd : Int), .int .i64 (F.e : Int), .bool F.x]] w fun e w' => e = .returned (.int .i64 (F.top : Int)) ∧ Below w.heap.size w w' := by
  have ht := h.top2
  have e1 : (F.top : Int) = 2 * (F.emax : Int) + 1 := by omega
  have f1 : wrap64 (2 * (F.emax : Int)) = 2 * (F.emax : Int) := by simp only [wrap64]; omega
  have f2 : wrap64 (2 * (F.emax : Int) + 1) = 2 * (F.emax : Int) + 1 := by simp only [wrap64]; omega
  rw [e1]
  clear ht e1
  generalize (F.emax : Int) = E at *
  go_enter Tryd.func36, Tryd.ntmps36
  go_wp2_with fail
  go_ret
  exact ⟨congrArg (fun x => Ending.returned (Value.int .i64 x)) f2, (Below.refl _ _).alloc (Nat.le_refl _) _⟩

/-- What Pack answers of parts that were put together to a word of class c and came apart as T. -/
theorem pk_ans {F : M.Fm} (h : F.Ok) (t : M.Pt) (X : Nat) (hc : t.c ≠ 0) (hX : F.Proper t → F.pk t = X) :
    (F.upk X = t → (if F.Proper t then F.pk t else 0) = X ∧ decide (F.Proper t) = true) ∧ (¬ F.upk X = t → (if F.Proper t then F.pk t else 0) = 0 ∧ decide (F.Proper t) = false) := by
  constructor
  · intro e
    have hp : F.Proper t := by
      rcases h.upk_proper X with hb | hb
      · rw [e] at hb; rw [hb] at hc; simp at hc
      · rw [e] at hb; exact hb
    exact ⟨by rw [if_pos hp]; exact hX hp, decide_eq_true hp⟩
  · intro e
    have hp : ¬ F.Proper t := fun hp => e (by rw [← hX hp]; exact (h.upk_pk t hp).1)
    exact ⟨if_neg hp, decide_eq_false hp⟩

theorem pt_eq {a : M.Pt} {c : Int} {n : Bool} {s : Nat} {q : Int} : (a.c = c ∧ a.n = n ∧ (M.hiN a.s : Int) = (M.hiN s : Int) ∧ (M.loN a.s : Int) = (M.loN s : Int) ∧ a.q = q) ↔ a = ⟨c, n, s, q⟩ := by
  constructor
  · rintro ⟨h1, h2, h3, h4, h5⟩
    refine M.Pt.ext' h1 h2 ?_ h5
    have e1 := M.hl a.s
    have e2 := M.hl s
    simp only
    omega
  · rintro rfl
    exact ⟨rfl, rfl, rfl, rfl, rfl⟩

end Go.Proofs.YtehplfmnipadmafDoor

namespace Go.Proofs.YtehplfmnipadmafDoor

open Go.RowKit

set_option linter.unusedVariables false
set_option maxRecDepth 100000

/-- What Pack answers. -/
def ansN (F : M.Fm) (t : M.Pt) : Nat := if F.Proper t then F.pk t else 0

theorem notProper0 {F : M.Fm} {c : Int} {n : Bool} {s : Nat} {q : Int} (h1 : c ≠ 1) (h2 : c ≠ 2) (h3 : c ≠ 3) (h4 : c ≠ 4) (h5 : c ≠ 5) : ¬ F.Proper ⟨c, n, s, q⟩ := by
  unfold M.Fm.Proper
  simp only
  omega

theorem blen_iff {F : M.Fm} (h : F.Ok) (s : Nat) : (F.lead ≤ s ↔ F.p ≤ blen s) ∧ (s < 2 * F.lead ↔ blen s ≤ F.p) := by
  have p1 := h.p1
  have e : 2 * F.lead = 2 ^ F.p := by
    unfold M.Fm.lead
    rw [Nat.mul_comm, ← Nat.pow_succ]; congr 1; omega
  rw [e]
  have a := lt_blen s
  refine ⟨⟨fun hh => ?_, fun hh => ?_⟩, ⟨fun hh => blen_le_of s _ hh, fun hh => Nat.lt_of_lt_of_le a (Nat.pow_le_pow_right (by omega) hh)⟩⟩
  · refine Classical.byContradiction fun hn => ?_
    have : 2 ^ blen s ≤ 2 ^ (F.p - 1) := Nat.pow_le_pow_right (by omega) (by omega)
    unfold M.Fm.lead at hh
    omega
  · have hp : 0 < s := by
      rcases Nat.eq_zero_or_pos s with rfl | hs
      · rw [blen_zero] at hh; omega
      · exact hs
    have b := blen_le s hp
    have : 2 ^ (F.p - 1) ≤ 2 ^ (blen s - 1) := Nat.pow_le_pow_right (by omega) (by omega)
    unfold M.Fm.lead
    omega

theorem spack_any (f : Nat) (hf : f < 4) (c : Int) (n : Bool) (s : Nat) (hs : s < 2 ^ 128) (q : Int) (hq1 : -9223372036854775808 ≤ q) (hq2 : q < 9223372036854775808) (w : World) :
    Calls Tryd.prog 9 #[.int .i64 (f : Int), .agg #[.int .i64 c, .bool n, .int .u64 (M.hiN s : Int), .int .u64 (M.loN s : Int), .int .i64 q]] w fun e w' => e = .returned (.tuple #[.agg #[.int .u64 (M.hiN (ansN (M.fm f) ⟨c, n, s, q⟩) : Int), .int .u64 (M.loN (ansN (M.fm f) ⟨c, n, s, q⟩) : Int)], .bool (decide ((M.fm f).Proper ⟨c, n, s, q⟩))]) ∧ Below w.heap.size w w' := by
  have kE := fun v : World => sdescribe_ok f hf v
  have kU := fun (X : Nat) (hX : X < 2 ^ 128) (v : World) => sunpack_any f hf X hX v
  have h := M.fm_ok f
  generalize M.fm f = F at *
  simp only [dv, pv] at kE kU
  have p1 := h.p1
  have p2 := h.p2
  have he0 : (F.p : Int) ≠ 0 := by omega
  have lp := h.leadPos
  have tp := h.top2
  have hw := h.width.2.2
  have hh := h.half
  have kBt : ∀ (v : World) (ao : Option Addr) (cc : Nat), Rd v ao (D s) → Calls Tryd.prog 29 #[.slice ao (D s).length cc] v fun e w' => e = .returned (.int .i64 ((blen s : Nat) : Int)) ∧ w' = v := fun v ao cc hr => l1Bits_any ao _ cc s v rfl (Nat.le_trans (D_word hs) (by omega)) hr _ rfl
  have bl := blen_iff h s
  have z0 : (D 0).length = 0 := by simp [D, M.dig_zero]
  by_cases c1 : c = 1
  · subst c1
    have a2 : F.lead ≤ 0 ↔ 0 < 0 := by omega
    have hX := Nat.lt_of_lt_of_le (h.fields n 0 0 (by omega) (by omega) a2).2.2.2 hw
    have an := pk_ans h ⟨1, n, s, q⟩ (F.word n 0 0) (by simp) (fun hp => by simp [M.Fm.pk])
    have kM := fun v : World => make_word F h n false 0 0 0 (by omega) (by omega) a2 rfl (by simp) none 0 v (Rd.nil _ _)
    rw [z0] at kM
    exact spack1 (f : Int) n s q hs (F.upk (F.word n 0 0)) (F.word n 0 0) _ _ _ _ _ _ he0 w kM kE (kU _ hX) _ _ (fun e => an.1 (pt_eq.1 e)) (fun e => an.2 (fun e' => e (pt_eq.2 e')))
  · by_cases c2 : c = 2
    · subst c2
      by_cases hb : (F.p : Int) ≤ ((blen s : Nat) : Int)
      · have hn : ¬ F.Proper ⟨2, n, s, q⟩ := by
          unfold M.Fm.Proper
          simp only
          have := bl.1.2 (by omega)
          omega
        rw [show ansN F ⟨2, n, s, q⟩ = 0 from if_neg hn, show decide (F.Proper ⟨2, n, s, q⟩) = false from decide_eq_false hn, hi0, lo0]
        exact spack2no (f : Int) n s q hs _ _ _ _ _ _ he0 w (blen s) kBt hb kE
      · have hlt : s < F.lead := by
          refine Classical.byContradiction fun hn => hb ?_
          have := bl.1.1 (by omega)
          omega
        have a2 : F.lead ≤ s ↔ 0 < 0 := by omega
        have hX := Nat.lt_of_lt_of_le (h.fields n 0 s (by omega) (by omega) a2).2.2.2 hw
        have an := pk_ans h ⟨2, n, s, q⟩ (F.word n 0 s) (by simp) (fun hp => by simp [M.Fm.pk])
        exact spack2 (f : Int) n s q hs (F.upk (F.word n 0 s)) (F.word n 0 s) _ _ _ _ _ _ he0 w (blen s) kBt hb (fun v ao cc hr => make_word F h n false 0 s s (by omega) (by omega) a2 rfl (by simp) ao cc v hr) kE (kU _ hX) _ _ (fun e => an.1 (pt_eq.1 e)) (fun e => an.2 (fun e' => e (pt_eq.2 e')))
    · by_cases c4 : c = 4
      · subst c4
        have a2 : F.lead ≤ F.lead ↔ 0 < F.top := by omega
        have hX := Nat.lt_of_lt_of_le (h.fields n F.top F.lead (by omega) (by omega) a2).2.2.2 hw
        have an := pk_ans h ⟨4, n, s, q⟩ (F.word n F.top F.lead) (by simp) (fun hp => by simp [M.Fm.pk])
        have kM := fun v : World => make_word F h n true F.top F.lead 0 (by omega) (by omega) a2 (decide_eq_true (by omega)).symm (by rw [if_pos (by omega)]; omega) none 0 v (Rd.nil _ _)
        rw [z0] at kM
        exact spack4 (f : Int) n s q hs (F.upk (F.word n F.top F.lead)) (F.word n F.top F.lead) _ _ _ _ _ _ he0 w (F.top : Int) (fun v => stop_any F h v) kM kE (kU _ hX) _ _ (fun e => an.1 (pt_eq.1 e)) (fun e => an.2 (fun e' => e (pt_eq.2 e')))
      · by_cases c5 : c = 5
        · subst c5
          have hp2 : 0 < 2 ^ (F.p - 2) := Nat.pow_pos (by omega)
          have a2 : F.lead ≤ F.lead + 2 ^ (F.p - 2) ↔ 0 < F.top := by omega
          have hX := Nat.lt_of_lt_of_le (h.fields false F.top (F.lead + 2 ^ (F.p - 2)) (by omega) (by omega) a2).2.2.2 hw
          have an := pk_ans h ⟨5, n, s, q⟩ (F.word false F.top (F.lead + 2 ^ (F.p - 2))) (by simp) (fun hp => by simp [M.Fm.pk])
          exact spack5 (f : Int) n s q hs (F.upk (F.word false F.top (F.lead + 2 ^ (F.p - 2)))) (F.word false F.top (F.lead + 2 ^ (F.p - 2))) _ _ _ _ _ _ he0 w (F.top : Int) (2 ^ (F.p - 2)) ((F.p : Int) - 2) rfl (by simp only [IntKind.wrap_i64]; omega) (fun v => stop_any F h v)
            (fun v z hz => by
              have := l2Two_any (F.p - 2) v (by omega)
              rw [show ((F.p - 2 : Nat) : Int) = z by omega] at this
              exact this)
            (fun v ao cc hr => make_word F h false true F.top (F.lead + 2 ^ (F.p - 2)) (2 ^ (F.p - 2)) (by omega) (by omega) a2 (decide_eq_true (by omega)).symm (by rw [if_pos (by omega)]; omega) ao cc v hr) kE (kU _ hX) _ _ (fun e => an.1 (pt_eq.1 e)) (fun e => an.2 (fun e' => e (pt_eq.2 e')))
        · by_cases c3 : c = 3
          · subst c3
            obtain ⟨E, hE⟩ : ∃ E, wrap64 (wrap64 (wrap64 (q + (F.emax : Int)) + (F.p : Int)) - 1) = E := ⟨_, rfl⟩
            have hE' := hE
            simp only [wrap64] at hE'
            by_cases hb : blen s = F.p
            · have kBe : ∀ (v : World) (ao : Option Addr) (cc : Nat), Rd v ao (D s) → Calls Tryd.prog 29 #[.slice ao (D s).length cc] v fun e w' => e = .returned (.int .i64 (F.p : Int)) ∧ w' = v := by rw [← hb]; exact kBt
              by_cases hlo : E < 1
              · have hn : ¬ F.Proper ⟨3, n, s, q⟩ := by
                  unfold M.Fm.Proper
                  simp only
                  omega
                rw [show ansN F ⟨3, n, s, q⟩ = 0 from if_neg hn, show decide (F.Proper ⟨3, n, s, q⟩) = false from decide_eq_false hn, hi0, lo0]
                exact spack3b (f : Int) n s q hs _ _ _ _ _ _ he0 w E hE kBe hlo kE
              · by_cases hhi : (F.top : Int) ≤ E
                · have hn : ¬ F.Proper ⟨3, n, s, q⟩ := by
                    unfold M.Fm.Proper
                    simp only
                    omega
                  rw [show ansN F ⟨3, n, s, q⟩ = 0 from if_neg hn, show decide (F.Proper ⟨3, n, s, q⟩) = false from decide_eq_false hn, hi0, lo0]
                  exact spack3c (f : Int) n s q hs _ _ _ _ _ _ he0 w E hE kBe hlo (F.top : Int) (fun v => stop_any F h v) hhi kE
                · obtain ⟨x, hx⟩ : ∃ x : Nat, (x : Int) = E := ⟨E.toNat, by omega⟩
                  subst hx
                  have hxe : (x : Int) = q + F.emax + F.p - 1 := by omega
                  have l1 := bl.1.2 (by omega)
                  have l2 := bl.2.2 (by omega)
                  have a2 : F.lead ≤ s ↔ 0 < x := by omega
                  have hX := Nat.lt_of_lt_of_le (h.fields n x s (by omega) l2 a2).2.2.2 hw
                  have an := pk_ans h ⟨3, n, s, q⟩ (F.word n x s) (by simp) (fun hp => by simp [M.Fm.pk, show (q + (F.emax : Int) + (F.p : Int) - 1).toNat = x by omega])
                  have hlow : s % 2 ^ (F.p - 1) = s - F.lead := by
                    have : F.lead = 2 ^ (F.p - 1) := rfl
                    rw [← this, Nat.mod_eq_sub_mod l1, Nat.mod_eq_of_lt (by omega)]
                  exact spack3 (f : Int) n s q hs (F.upk (F.word n x s)) (F.word n x s) _ _ _ _ _ _ he0 w (x : Int) hE kBe hlo (F.top : Int) (fun v => stop_any F h v) hhi (s - F.lead) (by simp only [IntKind.wrap_i64]; omega)
                    (fun v ao cc z hz hr => by
                      have := l2Low_any ao _ cc (F.p - 1) s v rfl (Nat.le_trans (D_word hs) (by omega)) (by omega) hr
                      rw [hlow, show ((F.p - 1 : Nat) : Int) = z by omega] at this
                      exact this)
                    (fun v ao cc hr => make_word F h n true x s (s - F.lead) (by omega) l2 a2 (decide_eq_true (by omega)).symm (by rw [if_pos (by omega)]) ao cc v hr) kE (kU _ hX) _ _ (fun e => an.1 (pt_eq.1 e)) (fun e => an.2 (fun e' => e (pt_eq.2 e')))
            · have hn : ¬ F.Proper ⟨3, n, s, q⟩ := by
                unfold M.Fm.Proper
                simp only
                omega
              rw [show ansN F ⟨3, n, s, q⟩ = 0 from if_neg hn, show decide (F.Proper ⟨3, n, s, q⟩) = false from decide_eq_false hn, hi0, lo0]
              exact spack3a (f : Int) n s q hs _ _ _ _ _ _ he0 w E hE (blen s) kBt (by omega) kE
          · have hn := notProper0 (F := F) (n := n) (s := s) (q := q) c1 c2 c3 c4 c5
            rw [show ansN F ⟨c, n, s, q⟩ = 0 from if_neg hn, show decide (F.Proper ⟨c, n, s, q⟩) = false from decide_eq_false hn, hi0, lo0]
            exact spack0 (f : Int) n s q hs c _ _ _ _ _ _ he0 w c1 c2 c3 c4 c5 kE

end Go.Proofs.YtehplfmnipadmafDoor

