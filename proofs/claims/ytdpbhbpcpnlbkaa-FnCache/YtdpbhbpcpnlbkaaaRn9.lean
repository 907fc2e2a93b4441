import Derived.Test.YtdpbhbpcpnlbkaaaRn8
namespace Go.Proofs.Ytdpbhbpcpnlbkaa
open Go.RowKit Go.Maps
set_option linter.unusedVariables false
set_option maxRecDepth 100000
structure TkR (w : World) (ta : Option Addr) (tasks : List (List (Int × Int))) (kx : Nat → Option Addr) (kc : Nat → Nat) : Prop where
 s : Sl w ta tasks.length (fun t => .slice (kx t) (Q.lenAt tasks t) (kc t))
 k : ∀ t, t < tasks.length → Sl w (kx t) (Q.lenAt tasks t * 2) (kf (Q.keyAt tasks t))
 c : ∀ t, t < tasks.length → Q.lenAt tasks t ≤ kc t

theorem TkR.below {w v : World} {ta : Option Addr} {tasks : List (List (Int × Int))} {kx : Nat → Option Addr} {kc : Nat → Nat} (h : TkR w ta tasks kx kc) (b : Below w.heap.size w v) : TkR v ta tasks kx kc := ⟨h.s.below b, fun t ht => (h.k t ht).below b, h.c⟩

theorem TkR.tkIn {w : World} {ta : Option Addr} {tasks : List (List (Int × Int))} {kx : Nat → Option Addr} {kc : Nat → Nat} (h : TkR w ta tasks kx kc) : TkIn w ta tasks kx kc := by
 intro h0
 obtain ⟨b, off, e, hl, hc⟩ := h.s h0
 refine ⟨b, off, e, fun t ht => ⟨hc t ht, ?_, hl⟩⟩
 intro h1
 have h1' : 0 < Q.lenAt tasks t := h1
 obtain ⟨g, o, e2, hl2, hc2⟩ := h.k t ht (by omega)
 refine ⟨g, o, e2, hl2, fun j hj => ?_⟩
 have hj' : j < Q.lenAt tasks t := hj
 have hk : (tasks.getD t [])[j]! = Q.keyAt tasks t j := by
  unfold Q.keyAt
  generalize tasks.getD t [] = l at hj
  rw [getElem!_pos l j hj, List.getD_eq_getElem?_getD, List.getElem?_eq_getElem hj]; rfl
 rw [hk]
 have a0 := hc2 (j * 2) (by omega)
 have a1 := hc2 (j * 2 + 1) (by omega)
 rw [kf0] at a0
 rw [kf1] at a1
 exact ⟨a0, by rw [Nat.add_assoc]; exact a1⟩

theorem KyL_kf (ks : List (Int × Int)) (i : Nat) (hi : i < ks.length * 2) : (KyL ks)[i]? = some (kf (fun j => ks.getD j (0, 0)) i) := by
 induction ks generalizing i with
 | nil => simp at hi
 | cons a r ih =>
   by_cases h2 : i < 2
   · have : i = 0 ∨ i = 1 := by omega
     rcases this with rfl | rfl <;> simp [KyL, encKy, kf]
   · obtain ⟨j, rfl⟩ : ∃ j, i = j + 2 := ⟨i - 2, by omega⟩
     have hj : j < r.length * 2 := by simp at hi; omega
     have e1 : (j + 2) % 2 = j % 2 := by omega
     have e2 : (j + 2) / 2 = j / 2 + 1 := by omega
     have := ih j hj
     have hv : kf (fun j => (a :: r).getD j (0, 0)) (j + 2) = kf (fun j => r.getD j (0, 0)) j := by
      simp only [kf, e1, e2]; simp
     rw [hv, ← this]
     simp [KyL, encKy]

theorem own_cap' {w : World} {B sz n c : Nat} {t : TypeId} {ao : Option Addr} {xs : List Value} (h : w.ownsRow B t sz (.slice ao n c) n xs) : n ≤ c := by
 rcases h.2 with ⟨e, h'⟩ | ⟨g', cap', cur, e, hb, hh, hnc, r⟩
 · omega
 · injection e with e1 e2 e3
   omega

theorem KR.read {w : World} {B : Nat} {tv : Value} {tasks : List (List (Int × Int))} {rv : Nat → Value} (h : KR w B tv tasks rv) : ∃ ta tc kx kc, tv = .slice ta tasks.length tc ∧ TkR w ta tasks kx kc := by
 obtain ⟨ta, tc, rfl⟩ := own_any h.own
 have hk : ∀ t, ∃ x : Option Addr × Nat, t < tasks.length → rv t = .slice x.1 (Q.lenAt tasks t) x.2 := fun t => by
  by_cases ht : t < tasks.length
  · obtain ⟨ra, rc, e⟩ := own_any (h.keys t ht)
    exact ⟨(ra, rc), fun _ => e⟩
  · exact ⟨(none, 0), fun e => absurd e ht⟩
 obtain ⟨fx, hfx⟩ := Classical.axiomOfChoice hk
 refine ⟨ta, tc, fun t => (fx t).1, fun t => (fx t).2, rfl, ?_, fun t ht => ?_, fun t ht => ?_⟩
 · have := own_sl (f := fun t => .slice (fx t).1 (Q.lenAt tasks t) (fx t).2) h.own (fun i hi => by rw [List.getElem?_map, List.getElem?_range (by omega)]; exact congrArg some (hfx i (by omega)))
   rw [Nat.mul_one] at this; exact this
 · have hh := h.keys t ht
   rw [hfx t ht] at hh
   exact own_sl hh (fun i hi => KyL_kf _ i hi)
 · have hh := h.keys t ht
   rw [hfx t ht] at hh
   exact own_cap' hh

theorem own_rdI {w : World} {B n c : Nat} {ao : Option Addr} {xs : List Int} (h : w.ownsRow B 3 1 (.slice ao n c) n (xs.map fun z => .int .i64 z)) (hl : xs.length = n) : RdI w ao xs ∧ ∀ b off, ao = some ⟨b, off, none⟩ → b < w.heap.size := by
 refine ⟨fun h0 => ?_, fun b off e => ?_⟩
 · obtain ⟨b, off, e, hl2, hc⟩ := own_sl (f := fun i => .int .i64 (xs.getD i 0)) h (fun i hi => by
    have : i < xs.length := by omega
    rw [List.getElem?_map, List.getD_eq_getElem?_getD, List.getElem?_eq_getElem this]; rfl) (by omega)
   exact ⟨b, off, e, fun i hi => hc i (by omega)⟩
 · subst e
   rcases h.2 with ⟨e, h'⟩ | ⟨g, cap', cur, e, hb, hh, r⟩
   · simp at e
   · injection e with e1 e2 e3
     injection e1 with e1
     injection e1 with e1 e4
     subst e1
     exact (Array.getElem?_eq_some_iff.1 hh).1

theorem RdI.far {w v : World} {ao : Option Addr} {xs : List Int} (h : RdI w ao xs) (hl : ∀ b off, ao = some ⟨b, off, none⟩ → b < w.heap.size) (b : Below w.heap.size w v) : RdI v ao xs := by
 intro h0
 obtain ⟨g, off, e, hc⟩ := h h0
 exact ⟨g, off, e, fun i hi => (b.cell (p := ⟨g, off + i, none⟩) (hl g off e)).trans (hc i hi)⟩

theorem tkL_lens (n : Nat) (f : Nat → Nat) (k i m t : Nat) : ((tkL n f k i m).1.getD t []).length ≤ 61 := by
 induction m with
 | zero => simp [tkL]
 | succ m ih =>
   rw [tkL]
   simp only
   rcases Nat.lt_trichotomy t (tkL n f k i m).1.length with h | h | h
   · rw [List.getD_eq_getElem?_getD, List.getElem?_append_left h, ← List.getD_eq_getElem?_getD]; exact ih
   · subst h
     simp
     unfold tkF
     split
     · rw [kyL_len]; omega
     · rw [kyL_len]; omega
   · rw [List.getD_eq_getElem?_getD, List.getElem?_eq_none (by simp; omega)]; simp

theorem exL_lens (ts : List (List (Int × Int))) (h : ∀ t, (ts.getD t []).length ≤ 61) (m t : Nat) : ((exL ts m).getD t []).length ≤ 61 := by
 induction m with
 | zero => exact h t
 | succ m ih =>
   rw [exL]
   rcases Nat.lt_trichotomy t (exL ts m).length with h | h | h
   · rw [List.getD_eq_getElem?_getD, List.getElem?_append_left h, ← List.getD_eq_getElem?_getD]; exact ih
   · subst h
     simp
   · rw [List.getD_eq_getElem?_getD, List.getElem?_eq_none (by simp; omega)]; simp

theorem drF_small {n : Nat} {f : Nat → Nat} (hf : ∀ j, f j < 256) : (drF n f).2.1.length ≤ 9 ∧ ∀ t, Q.lenAt (drF n f).2.1 t ≤ 61 := by
 have hk := nx_lt hf (n := n) (ad n 0)
 unfold drF tsF Q.lenAt
 simp only
 split
 · refine ⟨by rw [exL_len, tkL_len]; omega, fun t => exL_lens _ (fun t => tkL_lens _ _ _ _ _ _) _ _⟩
 · exact ⟨by rw [tkL_len]; omega, fun t => tkL_lens _ _ _ _ _ _⟩

theorem drc_use {w : World} {ao : Option Addr} {n c : Nat} {f : Nat → Nat} (hs : Sl w ao n (fun j => .int .u8 (f j : Int))) (hn : n ≤ 1048576) (hf : ∀ j, f j < 256) :
 Calls Try.prog 6 #[.slice ao n c] w fun e w' => ∃ ta tc pa pc kx kc, e = .returned (.tuple #[.agg #[.int .i64 (drF n f).1.1, .int .i64 (drF n f).1.2], .slice ta (drF n f).2.1.length tc, .slice pa (drF n f).2.2.length pc]) ∧ TkR w' ta (drF n f).2.1 kx kc ∧ RdI w' pa (drF n f).2.2 ∧ (∀ b off, pa = some ⟨b, off, none⟩ → b < w'.heap.size) ∧ Below w.heap.size w w' := by
 refine (drc_any hs hn hf).mono ?_
 rintro e w' ⟨tv, pv, rv, rfl, hk, hp, hb⟩
 obtain ⟨ta, tc, kx, kc, rfl, h1⟩ := hk.read
 obtain ⟨pa, pc, rfl⟩ := own_any hp
 obtain ⟨h2, h3⟩ := own_rdI hp rfl
 exact ⟨ta, tc, pa, pc, kx, kc, rfl, h1, h2, h3, hb⟩

end Go.Proofs.Ytdpbhbpcpnlbkaa
