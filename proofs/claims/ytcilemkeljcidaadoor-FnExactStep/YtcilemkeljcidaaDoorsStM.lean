import Derived.Test.YtcilemkeljcidaaDoorsOrM
namespace Go.Proofs.YtcilemkeljcidaaDoor.M
set_option linter.unusedVariables false
set_option maxRecDepth 100000
def Fm.wat (F : Fm) (n : Bool) (r : Nat) : Nat := F.word n (r / F.lead) (r % F.lead + if 0 < r / F.lead then F.lead else 0)

def Fm.pat (F : Fm) (n : Bool) (r : Nat) : Pt :=
 if r = 0 then ⟨1, n, 0, 0⟩ else if r < F.lead then ⟨2, n, r, F.qmin⟩ else if r = F.top * F.lead then ⟨4, n, 0, 0⟩
 else ⟨3, n, r % F.lead + F.lead, ((r / F.lead : Nat) : Int) - F.emax - F.p + 1⟩

theorem Fm.pk3 (F : Fm) (n : Bool) (s : Nat) (q : Int) : F.pk ⟨3, n, s, q⟩ = F.word n (q + F.emax + F.p - 1).toNat s := by simp [Fm.pk]

theorem Fm.Ok.pat_ok {F : Fm} (h : F.Ok) (n : Bool) (r : Nat) (hr : r ≤ F.top * F.lead) : F.Proper (F.pat n r) ∧ F.pk (F.pat n r) = F.wat n r := by
 have hl := h.leadPos
 have ht := h.top2
 have hm := Nat.mod_lt r hl
 have hd := Nat.div_add_mod r F.lead
 unfold Fm.pat Fm.wat
 by_cases h1 : r = 0
 · subst h1; simp [Fm.Proper, Fm.pk]
 · simp only [h1, if_false]
   by_cases h2 : r < F.lead
   · simp only [h2, if_true]
     rw [Nat.div_eq_of_lt h2, Nat.mod_eq_of_lt h2]
     refine ⟨.inr (.inr (.inr (.inl ⟨rfl, by simp only; omega, h2, rfl⟩))), ?_⟩
     simp [Fm.pk]
   · simp only [h2, if_false]
     by_cases h3 : r = F.top * F.lead
     · simp only [h3, if_true]
       rw [Nat.mul_div_cancel _ hl, Nat.mul_mod_left, if_pos (by omega)]
       simp [Fm.Proper, Fm.pk]
     · simp only [h3, if_false]
       have d1 : 0 < r / F.lead := Nat.div_pos (by omega) hl
       have d2 : r / F.lead < F.top := by
        rcases Nat.lt_or_ge (r / F.lead) F.top with hh | hh
        · exact hh
        · have := Nat.mul_le_mul_left F.lead hh
          rw [Nat.mul_comm F.lead F.top] at this
          omega
       rw [if_pos d1]
       refine ⟨.inr (.inr (.inr (.inr ⟨rfl, by simp only; omega, by simp only; omega, by simp only; omega, by simp only; omega⟩))), ?_⟩
       have e : (((r / F.lead : Nat) : Int) - F.emax - F.p + 1 + F.emax + F.p - 1).toNat = r / F.lead := by omega
       rw [Fm.pk3, e]

def Fm.grow (F : Fm) (t : Pt) : Pt :=
 let s := if t.s + 1 = 2 * F.lead then F.lead else t.s + 1
 let q := if t.s + 1 = 2 * F.lead then t.q + 1 else t.q
 if q + F.p - 1 > F.emax then ⟨4, t.n, 0, 0⟩ else if s < F.lead then ⟨2, t.n, s, q⟩ else ⟨3, t.n, s, q⟩

def Fm.shrink (F : Fm) (t : Pt) : Pt :=
 let b := t.s - 1 < F.lead ∧ t.q > F.qmin
 let s := if b then 2 * (t.s - 1) + 1 else t.s - 1
 let q := if b then t.q - 1 else t.q
 if s = 0 then ⟨1, t.n, 0, 0⟩ else if q + F.p - 1 > F.emax then ⟨4, t.n, 0, 0⟩ else if s < F.lead then ⟨2, t.n, s, q⟩ else ⟨3, t.n, s, q⟩

theorem Fm.Ok.grow_eq {F : Fm} (h : F.Ok) (t : Pt) (hp : F.Proper t) (hc : t.c = 2 ∨ t.c = 3) : F.grow t = F.pat t.n (F.rank t + 1) ∧ F.rank t < F.top * F.lead := by
 have hl := h.leadPos
 have ht := h.top2
 rcases t with ⟨c, n, s, q⟩
 simp only [Fm.Proper] at hp hc
 rcases hp with hp | hp | hp | ⟨rfl, h1, h2, rfl⟩ | ⟨rfl, h1, h2, h3, h4⟩
 · omega
 · omega
 · omega
 · have e : F.rank ⟨2, n, s, F.qmin⟩ = s := by simp [Fm.rank]
   have e1 : ¬ s + 1 = 2 * F.lead := by
    have := h.half
    have : 0 < 2 ^ (F.p - 2) := Nat.pow_pos (by omega)
    omega
   have e2 : ¬ F.qmin + F.p - 1 > F.emax := by unfold Fm.qmin; omega
   have e4 : 1 * F.lead ≤ F.top * F.lead := Nat.mul_le_mul_right _ (by omega)
   rw [e]
   refine ⟨?_, by omega⟩
   simp only [Fm.grow, e1, if_false, e2, Fm.pat]
   have e3 : ¬ s + 1 = 0 := by omega
   simp only [e3, if_false]
   by_cases hh : s + 1 < F.lead
   · simp only [hh, if_true]
   · have es : s + 1 = F.lead := by omega
     have e5 : 2 * F.lead ≤ F.top * F.lead := Nat.mul_le_mul_right _ (by omega)
     have e6 : ¬ F.lead = F.top * F.lead := by omega
     simp only [es, Nat.lt_irrefl, if_false, e6, Nat.mod_self, Nat.zero_add, Nat.div_self hl]
     congr 1
     unfold Fm.qmin; omega
 · obtain ⟨k, hk⟩ : ∃ k : Nat, (k : Int) = q - F.qmin := ⟨(q - F.qmin).toNat, by unfold Fm.qmin; omega⟩
   have hkt : k + 1 < F.top := by unfold Fm.qmin at hk; omega
   have e : F.rank ⟨3, n, s, q⟩ = k * F.lead + s := by
    have : (q - F.qmin).toNat = k := by omega
    simp [Fm.rank, this]
   have m1 : (k + 2) * F.lead ≤ F.top * F.lead := Nat.mul_le_mul_right _ (by omega)
   rw [Nat.add_mul] at m1
   rw [e]
   refine ⟨?_, by omega⟩
   have z1 : ¬ k * F.lead + s + 1 = 0 := by omega
   have z2 : ¬ k * F.lead + s + 1 < F.lead := by omega
   by_cases hh : s + 1 = 2 * F.lead
   · have em : k * F.lead + s + 1 = (k + 2) * F.lead := by rw [Nat.add_mul]; omega
     have y1 : ¬ (k + 2) * F.lead = 0 := by omega
     have y2 : ¬ (k + 2) * F.lead < F.lead := by omega
     simp only [Fm.grow, hh, if_true, Fm.pat, em, y1, y2, if_false, Nat.lt_irrefl]
     by_cases ho : q + 1 + F.p - 1 > F.emax
     · have : k + 2 = F.top := by unfold Fm.qmin at hk; omega
       simp only [ho, if_true, this]
     · have : ¬ (k + 2) * F.lead = F.top * F.lead := by
        intro hE
        have := Nat.eq_of_mul_eq_mul_right hl hE
        unfold Fm.qmin at hk; omega
       simp only [ho, if_false, this, Nat.mul_mod_left, Nat.zero_add, Nat.mul_div_cancel _ hl]
       congr 1
       unfold Fm.qmin at hk; omega
   · have em : k * F.lead + s + 1 = (s + 1 - F.lead) + (k + 1) * F.lead := by rw [Nat.add_mul]; omega
     have m2 : (s + 1 - F.lead) % F.lead = s + 1 - F.lead := Nat.mod_eq_of_lt (by omega)
     have m3 : (s + 1 - F.lead) / F.lead = 0 := Nat.div_eq_of_lt (by omega)
     have ho : ¬ q + F.p - 1 > F.emax := by omega
     have y1 : ¬ s + 1 < F.lead := by omega
     have y2 : ¬ k * F.lead + s + 1 = F.top * F.lead := by omega
     simp only [Fm.grow, hh, if_false, Fm.pat, z1, z2, ho, y1, y2]
     rw [em, Nat.add_mul_mod_self_right, Nat.add_mul_div_right _ _ hl, m2, m3]
     congr 1
     · omega
     · unfold Fm.qmin at hk; omega

theorem Fm.Ok.shrink_eq {F : Fm} (h : F.Ok) (t : Pt) (hp : F.Proper t) (hc : t.c = 2 ∨ t.c = 3) : F.shrink t = F.pat t.n (F.rank t - 1) ∧ 0 < F.rank t := by
 have hl := h.leadPos
 have ht := h.top2
 rcases t with ⟨c, n, s, q⟩
 simp only [Fm.Proper] at hp hc
 rcases hp with hp | hp | hp | ⟨rfl, h1, h2, rfl⟩ | ⟨rfl, h1, h2, h3, h4⟩
 · omega
 · omega
 · omega
 · have e : F.rank ⟨2, n, s, F.qmin⟩ = s := by simp [Fm.rank]
   have e1 : ¬ (s - 1 < F.lead ∧ F.qmin > F.qmin) := by omega
   have e2 : ¬ F.qmin + F.p - 1 > F.emax := by unfold Fm.qmin; omega
   have e3 : s - 1 < F.lead := by omega
   rw [e]
   refine ⟨?_, h1⟩
   simp only [Fm.shrink, e1, if_false, e2]
   simp only [Fm.pat, e3, if_true]
 · obtain ⟨k, hk⟩ : ∃ k : Nat, (k : Int) = q - F.qmin := ⟨(q - F.qmin).toNat, by unfold Fm.qmin; omega⟩
   have hkt : k + 1 < F.top := by unfold Fm.qmin at hk; omega
   have e : F.rank ⟨3, n, s, q⟩ = k * F.lead + s := by
    have : (q - F.qmin).toNat = k := by omega
    simp [Fm.rank, this]
   have m1 : (k + 2) * F.lead ≤ F.top * F.lead := Nat.mul_le_mul_right _ (by omega)
   rw [Nat.add_mul] at m1
   rw [e]
   refine ⟨?_, by omega⟩
   have hh1 := h.half
   have hh2 : 0 < 2 ^ (F.p - 2) := Nat.pow_pos (by omega)
   have ho : ¬ q + F.p - 1 > F.emax := by omega
   have y2 : ¬ k * F.lead + s - 1 = F.top * F.lead := by omega
   by_cases hb : s - 1 < F.lead ∧ q > F.qmin
   · have es : s = F.lead := by omega
     have ho' : ¬ q - 1 + F.p - 1 > F.emax := by omega
     have hk1 : 0 < k := by omega
     have m5 : 1 * F.lead ≤ k * F.lead := Nat.mul_le_mul_right _ hk1
     have z1 : ¬ k * F.lead + F.lead - 1 = 0 := by omega
     have z2 : ¬ k * F.lead + F.lead - 1 < F.lead := by omega
     have z3 : ¬ 2 * (F.lead - 1) + 1 = 0 := by omega
     have z4 : ¬ 2 * (F.lead - 1) + 1 < F.lead := by omega
     subst es
     simp only [Fm.shrink, hb, and_self, if_true, Fm.pat, z1, z2, z3, z4, if_false, ho', y2]
     have em : k * F.lead + F.lead - 1 = (F.lead - 1) + k * F.lead := by omega
     have m2 : (F.lead - 1) % F.lead = F.lead - 1 := Nat.mod_eq_of_lt (by omega)
     have m3 : (F.lead - 1) / F.lead = 0 := Nat.div_eq_of_lt (by omega)
     rw [em, Nat.add_mul_mod_self_right, Nat.add_mul_div_right _ _ hl, m2, m3]
     congr 1
     · omega
     · unfold Fm.qmin at hk; omega
   · by_cases hs : s = F.lead
     · have hk0 : k = 0 := by omega
       subst hs
       subst hk0
       have z1 : ¬ F.lead - 1 = 0 := by omega
       have z2 : F.lead - 1 < F.lead := by omega
       simp only [Fm.shrink, hb, if_false]
       simp only [Fm.pat, z1, ho, z2, if_true, if_false, Nat.zero_mul, Nat.zero_add]
       congr 1
       omega
     · have z1 : ¬ s - 1 = 0 := by omega
       have z2 : ¬ s - 1 < F.lead := by omega
       have z3 : ¬ k * F.lead + s - 1 = 0 := by omega
       have z4 : ¬ k * F.lead + s - 1 < F.lead := by omega
       simp only [Fm.shrink, hb, if_false]
       simp only [Fm.pat, z1, ho, z2, z3, z4, y2, if_false]
       have em : k * F.lead + s - 1 = (s - 1 - F.lead) + (k + 1) * F.lead := by rw [Nat.add_mul]; omega
       have m2 : (s - 1 - F.lead) % F.lead = s - 1 - F.lead := Nat.mod_eq_of_lt (by omega)
       have m3 : (s - 1 - F.lead) / F.lead = 0 := Nat.div_eq_of_lt (by omega)
       rw [em, Nat.add_mul_mod_self_right, Nat.add_mul_div_right _ _ hl, m2, m3]
       congr 1
       · omega
       · unfold Fm.qmin at hk; omega

theorem Fm.Ok.inf_step {F : Fm} (h : F.Ok) (n : Bool) : F.pat n (F.top * F.lead - 1) = ⟨3, n, 2 * F.lead - 1, (F.emax : Int) - F.p + 1⟩ := by
 have hl := h.leadPos
 have ht := h.top2
 have m1 : 2 * F.lead ≤ F.top * F.lead := Nat.mul_le_mul_right _ (by omega)
 have z1 : ¬ F.top * F.lead - 1 = 0 := by omega
 have z2 : ¬ F.top * F.lead - 1 < F.lead := by omega
 have z3 : ¬ F.top * F.lead - 1 = F.top * F.lead := by omega
 simp only [Fm.pat, z1, z2, z3, if_false]
 have em : F.top * F.lead - 1 = (F.lead - 1) + (F.top - 1) * F.lead := by rw [Nat.sub_mul]; omega
 have m2 : (F.lead - 1) % F.lead = F.lead - 1 := Nat.mod_eq_of_lt (by omega)
 have m3 : (F.lead - 1) / F.lead = 0 := Nat.div_eq_of_lt (by omega)
 rw [em, Nat.add_mul_mod_self_right, Nat.add_mul_div_right _ _ hl, m2, m3]
 congr 1
 · omega
 · omega

theorem Fm.Ok.zero_step {F : Fm} (h : F.Ok) (n : Bool) : F.pat n 1 = ⟨2, n, 1, F.qmin⟩ := by
 have hh1 := h.half
 have hh2 : 0 < 2 ^ (F.p - 2) := Nat.pow_pos (by omega)
 have z2 : 1 < F.lead := by omega
 simp [Fm.pat, z2]

end Go.Proofs.YtcilemkeljcidaaDoor.M
