import Derived.Test.YtdpbhbpcpnlbkaaaGF
namespace Go.Proofs.Ytdpbhbpcpnlbkaa
open Go.RowKit Go.Maps
set_option linter.unusedVariables false
set_option maxRecDepth 100000
structure FcOk (a b : Int) (tasks : List (List (Int × Int))) (D : RD) : Prop where
 cfg : cfgOk a b
 T : D.T = tasks.length
 len : ∀ t, D.len t = Q.lenAt tasks t
 n : D.n ≤ 40000
 ts : Q.sm D.ts D.T = D.n
 out : D.dn = true → ∀ t i, t < D.T → i < D.len t → D.out t i ≠ 0
 cnt : D.dn = true → D.h + D.pb = Q.sm D.len D.T
 md : D.dn = true → D.md = D.pb + D.ls
 slots : D.vs.length + D.ev = D.pb
 told : ∀ x, x ∈ D.vs → x.1 < 16 ∧ x.2.1 < b.toNat ∧ ((x.2.2.1.1 + 5200) * 7 + x.2.2.1.2).tmod a = (x.1 : Int) ∧ keyOk x.2.2.1.1 x.2.2.1.2 ∧ ∃ t i, t < tasks.length ∧ i < Q.lenAt tasks t ∧ Q.keyAt tasks t i = x.2.2.1
 inc : D.vs.Pairwise (fun x y => x.1 * b.toNat + x.2.1 < y.1 * b.toNat + y.2.1)
 t8 : D.T ≤ 8
 len60 : ∀ t, D.len t ≤ 60
 ok : D.ok = true
 bd : D.h ≤ 40000 ∧ D.md ≤ 40000 ∧ D.pb ≤ 40000 ∧ D.ev ≤ 40000 ∧ D.ls ≤ 40000

theorem end_ex (N S : Nat) (tasks : List (List (Int × Int))) (picks : List Int) : ∃ m, End N S tasks picks m := by
 have key : ∀ n, n ≤ 40000 → (∃ m, End N S tasks picks m) ∨ ∀ m', m' < n → Q.liv tasks (Q.run N S tasks picks m') ≠ [] := by
  intro n
  induction n with
  | zero => intro _; exact .inr (fun m' h => by omega)
  | succ n ih =>
    intro hn
    rcases ih (by omega) with h | h
    · exact .inl h
    · by_cases e : Q.liv tasks (Q.run N S tasks picks n) = []
      · exact .inl ⟨n, .inl e, by omega, h⟩
      · refine .inr (fun m' hm => ?_)
        rcases Nat.lt_or_ge m' n with h1 | h1
        · exact h m' h1
        · have : m' = n := by omega
          rw [this]; exact e
 rcases key 40000 (Nat.le_refl _) with h | h
 · exact h
 · exact ⟨40000, .inr rfl, Nat.le_refl _, h⟩

theorem fcOk_of {a b : Int} {tasks : List (List (Int × Int))} {picks : List Int} (h : rcOk a b tasks picks.length) : FcOk a b tasks (rcD a b tasks picks) := by
 have hd : rcD a b tasks picks = rdGood a.toNat b.toNat tasks picks := by unfold rcD; rw [if_pos h]
 rw [hd]
 obtain ⟨⟨c1, c2, c3, c4⟩, ht, hp⟩ := h
 rw [Bool.and_eq_true] at ht
 have h8 := of_decide_eq_true ht.1
 obtain ⟨kok, klen⟩ := keysOk_of ht.2
 have he : End a.toNat b.toNat tasks picks (Classical.epsilon (End a.toNat b.toNat tasks picks)) := Classical.epsilon_spec (end_ex _ _ _ _)
 unfold rdGood
 generalize Classical.epsilon (End a.toNat b.toNat tasks picks) = m at *
 obtain ⟨e1, e2, e3⟩ := he
 have hS : 0 < b.toNat := by omega
 have hN : 0 < a.toNat := by omega
 have ea : ((a.toNat : Nat) : Int) = a := by omega
 have iv := Q.inv_run hS picks (N := a.toNat) (tasks := tasks) (fun t i ht hi => (shd_eq hN (kok t i ht hi)).2) m e3
 have ok := Q.run_ok hS (N := a.toNat) tasks picks m e3
 refine ⟨⟨c1, c2, c3, c4⟩, rfl, fun t => rfl, e2, iv.ts, fun hdn => ?_, fun hdn => ?_, fun hdn => ?_, Q.inv_slots iv, fun x hx => ?_, Q.vws_inc _ _ _, h8, klen, rfl, ?_⟩
 · exact (Q.inv_done iv ok (of_decide_eq_true hdn)).2.2.2
 · exact (Q.inv_done iv ok (of_decide_eq_true hdn)).2.1
 · exact (Q.inv_done iv ok (of_decide_eq_true hdn)).2.2.1
 · obtain ⟨x1, x2, x3, t, i, ht, hi, hk⟩ := Q.inv_told hS iv hx
   have ky : keyOk x.2.2.1.1 x.2.2.1.2 := by rw [← hk]; exact kok t i ht hi
   have := (shd_eq hN ky).1
   rw [ea] at this
   exact ⟨by omega, x2, by rw [this, x3], ky, t, i, ht, hi, hk⟩
 · have := ok.c.hits; have := ok.c.made; have := ok.c.pub; have := ok.c.ev; have := ok.c.lost
   exact ⟨by simp only; omega, by simp only; omega, by simp only; omega, by simp only; omega, by simp only; omega⟩

theorem sm_le {f : Nat → Nat} {n m : Nat} (h : n ≤ m) : Q.sm f n ≤ Q.sm f m := by
 induction m with
 | zero => have : n = 0 := by omega
           subst this; exact Nat.le_refl _
 | succ m ih =>
   rcases Nat.lt_or_ge m n with h1 | h1
   · have : n = m + 1 := by omega
     subst this; exact Nat.le_refl _
   · have := ih h1
     have e : Q.sm f (m + 1) = Q.sm f m + f m := rfl
     omega

theorem sm_bound {f : Nat → Nat} {n c : Nat} (h : ∀ i, f i ≤ c) : Q.sm f n ≤ n * c := by
 induction n with
 | zero => exact Nat.zero_le _
 | succ n ih =>
   have := h n
   have e : (n + 1) * c = n * c + c := by rw [Nat.add_mul, Nat.one_mul]
   rw [e]
   unfold Q.sm
   omega

def laF (S : Nat) (vs : List (Nat × Nat × (Int × Int) × Bool)) : Nat → Int
 | 0 => -1
 | i + 1 => (((vs.getD i (0, 0, (0, 0), false)).1 * S + (vs.getD i (0, 0, (0, 0), false)).2.1 : Nat) : Int)

theorem laF_lt {S : Nat} {vs : List (Nat × Nat × (Int × Int) × Bool)} (h : vs.Pairwise (fun x y => x.1 * S + x.2.1 < y.1 * S + y.2.1)) {i : Nat} (hi : i < vs.length) : laF S vs i < laF S vs (i + 1) := by
 cases i with
 | zero => simp only [laF]; omega
 | succ i =>
   simp only [laF]
   have := (List.pairwise_iff_getElem.1 h) i (i + 1) (by omega) hi (by omega)
   simp only [List.getD_eq_getElem?_getD]
   rw [List.getElem?_eq_getElem hi, List.getElem?_eq_getElem (show i < vs.length by omega)]
   simp only [Option.getD_some]
   omega

theorem vs_mem {vs : List (Nat × Nat × (Int × Int) × Bool)} {i : Nat} (hi : i < vs.length) : vs.getD i (0, 0, (0, 0), false) ∈ vs := by
 rw [List.getD_eq_getElem?_getD, List.getElem?_eq_getElem hi]; exact List.getElem_mem hi

theorem end_alone {ks : List (Int × Int)} {picks picks' : List Int} {m : Nat} (h : End 1 64 [ks] picks m) : End 1 64 [ks] picks' m := by
 obtain ⟨e1, e2, e3⟩ := h
 have h1 := Q.run_alone 1 64 ks picks picks' m e3
 refine ⟨by rw [← h1]; exact e1, e2, fun m' hm => ?_⟩
 rw [← Q.run_alone 1 64 ks picks picks' m' (fun q hq => e3 q (by omega))]
 exact e3 m' hm

structure FaOk (ks : List (Int × Int)) (D E : RD) : Prop where
 n : E.n = D.n
 h : E.h = D.h
 l60 : ks.length ≤ 60
 dn : D.dn = true → D.md = unl ks ks.length ∧ D.pb = unl ks ks.length ∧ D.h + unl ks ks.length = ks.length ∧ D.ev = 0 ∧ D.ls = 0 ∧ D.vs.length = unl ks ks.length

theorem faOk_of {ks : List (Int × Int)} {picks : List Int} (h : (rcD 1 64 [ks] picks).ok = true) : FaOk ks (rcD 1 64 [ks] picks) (rcD 1 64 [ks] []) := by
 by_cases g : rcOk 1 64 [ks] picks.length
 · have g2 : rcOk 1 64 [ks] ([] : List Int).length := ⟨g.1, g.2.1, by simp⟩
   have e1 : rcD 1 64 [ks] picks = rdGood 1 64 [ks] picks := by unfold rcD; rw [if_pos g]; rfl
   have e2 : rcD 1 64 [ks] [] = rdGood 1 64 [ks] [] := by unfold rcD; rw [if_pos g2]; rfl
   rw [e1, e2]
   have h60 : ks.length ≤ 60 := by
    have := g.2.1
    rw [Bool.and_eq_true] at this
    exact (keysOk_of this.2).2 0
   have he : End 1 64 [ks] picks (Classical.epsilon (End 1 64 [ks] picks)) := Classical.epsilon_spec (end_ex _ _ _ _)
   have he2 : End 1 64 [ks] [] (Classical.epsilon (End 1 64 [ks] [])) := Classical.epsilon_spec (end_ex _ _ _ _)
   have hm := he2.uniq (end_alone he)
   unfold rdGood
   rw [hm]
   generalize Classical.epsilon (End 1 64 [ks] picks) = m at *
   have hr := Q.run_alone 1 64 ks picks [] m he.2.2
   refine ⟨rfl, by simp only; rw [← hr], h60, fun hd => ?_⟩
   obtain ⟨a1, a2, a3, a4, a5, a6⟩ := Q.al_done ks picks h60 m he.2.2 (of_decide_eq_true hd)
   exact ⟨a1, a2, a3, a4, a5, a6⟩
 · unfold rcD at h; rw [if_neg g] at h; simp [rdZero] at h

end Go.Proofs.Ytdpbhbpcpnlbkaa
