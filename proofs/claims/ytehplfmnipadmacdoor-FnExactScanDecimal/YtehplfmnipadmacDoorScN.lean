/-
  Plain mathematics of a number's text: the walk through states says what the document says. It names no program.
-/
import Derived.Test.YtehplfmnipadmacDoorScM
namespace Go.Proofs.YtehplfmnipadmacDoor.M
set_option linter.unusedVariables false

def okOf : Dec ⊕ Nat → Option Dec
  | .inl d => some d
  | .inr _ => none

abbrev s0 (n : Bool) : Sn := ⟨n, [], 0, false, 0⟩

theorem next4 (st : Nat) : next st 4 = 0 ∨ next st 4 = 7 := by unfold next; split <;> first | omega | exact .inl rfl | exact .inr rfl
theorem next5 (st : Nat) : next st 5 = 0 ∨ next st 5 = 10 := by unfold next; split <;> first | omega | exact .inl rfl | exact .inr rfl
theorem next0 (st : Nat) : next st 0 = 0 := by unfold next; split <;> first | omega | rfl
theorem next_ge (st so : Nat) (h : 3 ≤ st) : next st so = 0 ∨ (3 ≤ next st so ∧ next st so ≠ 10) := by unfold next; split <;> omega
theorem next_le (st so : Nat) : next st so ≤ 10 := by unfold next; split <;> omega

theorem sort_up {c : Nat} (h : low c ≠ c) : sortOf c = 0 ∨ sortOf c = 4 ∨ sortOf c = 5 := by
  have hl : 65 ≤ c ∧ c ≤ 90 := by
    unfold low at h
    by_cases k : 65 ≤ c ∧ c ≤ 90
    · exact k
    · rw [if_neg k] at h; exact absurd rfl h
  have e : low c = c + 32 := by unfold low; rw [if_pos hl]
  unfold sortOf
  rw [e, if_neg (by omega), if_neg (by omega), if_neg (by omega)]
  split
  · exact .inr (.inl rfl)
  · split
    · exact .inr (.inr rfl)
    · exact .inl rfl

theorem take_low (st c : Nat) (s : Sn) : take (next st (sortOf c)) (low c) s = take (next st (sortOf c)) c s := by
  by_cases h : low c = c
  · rw [h]
  · rcases sort_up h with k | k | k
    · rw [k, next0]; rfl
    · rw [k]
      rcases next4 st with e | e <;> rw [e] <;> rfl
    · rw [k]
      rcases next5 st with e | e <;> rw [e] <;> rfl

theorem walk_low (t : List Nat) : ∀ (o st : Nat) (s : Sn), walk (t.map low) o st s = walk t o st s := by
  induction t with
  | nil => intro o st s; rfl
  | cons c r ih => intro o st s; rw [List.map_cons, walk, walk, sort_low, take_low, ih]

theorem Low_map (t : List Nat) : Low (t.map low) := by
  intro c hc
  obtain ⟨x, _, rfl⟩ := List.mem_map.1 hc
  exact low_low x

theorem map_of_Low {v : List Nat} (h : Low v) : v.map low = v := by
  induction v with
  | nil => rfl
  | cons c r ih => rw [List.map_cons, h.head, ih h.tail]

theorem noword (v : List Nat) : ∀ (o st : Nat) (s : Sn), 3 ≤ st → ∀ b n, walk v o st s ≠ .word b n := by
  induction v with
  | nil => intro o st s _ b n h; cases h
  | cons c r ih =>
    intro o st s hst b n h
    rw [walk] at h
    rcases next_ge st (sortOf c) hst with k | k
    · rw [if_pos k] at h; cases h
    · rw [if_neg (by omega), if_neg k.2] at h
      exact ih _ _ _ k.1 b n h

theorem ok_acc {out : Out} (T : List Nat) (h : ∀ b n, out ≠ .word b n) : okOf (out.scan T) = out.acc.map Sn.dec := by
  cases out with
  | stuck o => rfl
  | word b n => exact absurd rfl (h b n)
  | fin st s => simp only [Out.scan, Out.acc]; split <;> rfl

theorem numb_word (n : Bool) (c : Nat) (r : List Nat) (h : c = 105 ∨ c = 110) : numb n (c :: r) = none := by
  unfold numb
  rw [cut_by r (show c ≠ 101 by omega)]
  simp only
  rw [cut_by _ (show c ≠ 46 by omega), if_pos (.inl (by rw [List.all_cons, dgt_no c (by omega), Bool.false_and]))]

theorem sort5 {c : Nat} (h : low c = 105 ∨ low c = 110) : sortOf c = 5 := by
  rw [← sort_low]
  have := sort_cases (low c) (low_low c)
  omega
theorem sort5' {c : Nat} (h : sortOf c = 5) : low c = 105 ∨ low c = 110 := by
  rw [← sort_low] at h
  have := sort_cases (low c) (low_low c)
  omega
theorem sort2' {c : Nat} (h : sortOf c = 2) : low c = 43 ∨ low c = 45 := by
  rw [← sort_low] at h
  have := sort_cases (low c) (low_low c)
  omega

/-- The body behind the sign. -/
theorem ok_body (v : List Nat) (hv : Low v) (o st : Nat) (n : Bool) (hst : st = 1 ∨ st = 2) (hs : st = 1 → ∀ c r, v = c :: r → ¬ (c = 43 ∨ c = 45)) (T : List Nat) (hT : (T.drop o).map low = v) :
    okOf ((walk v o st (s0 n)).scan T) = body n v := by
  by_cases hw : ∃ c r, v = c :: r ∧ (c = 105 ∨ c = 110)
  · obtain ⟨c, r, rfl, hc⟩ := hw
    have h5 : sortOf c = 5 := sort5 (by rw [hv.head]; exact hc)
    rw [walk, h5, show next st 5 = 10 by rcases hst with rfl | rfl <;> rfl, if_neg (by decide), if_pos rfl]
    show okOf (scanWord (T.drop o) o n) = _
    unfold scanWord body
    rw [hT]
    by_cases k1 : c :: r = wInf
    · rw [if_pos k1, if_pos (.inl k1)]; rfl
    · rw [if_neg k1]
      by_cases k2 : c :: r = wInfinity
      · rw [if_pos k2, if_pos (.inr k2)]; rfl
      · rw [if_neg k2, if_neg (not_or.2 ⟨k1, k2⟩)]
        by_cases k3 : c :: r = wNan
        · rw [if_pos k3, if_pos k3]; rfl
        · rw [if_neg k3, if_neg k3, numb_word n c r hc]; rfl
  · have hw' : ∀ c r, v = c :: r → ¬ (c = 105 ∨ c = 110) := fun c r e k => hw ⟨c, r, e, k⟩
    have nw : ∀ b m, walk v o st (s0 n) ≠ .word b m := by
      cases v with
      | nil => intro b m h; cases h
      | cons c r =>
        intro b m h
        rw [walk] at h
        have hn5 : sortOf c ≠ 5 := fun h5 => by have := sort5' h5; rw [hv.head] at this; exact hw' c r rfl this
        by_cases k : next st (sortOf c) = 0
        · rw [if_pos k] at h; cases h
        · rw [if_neg k] at h
          have h10 : next st (sortOf c) ≠ 10 := by
            have := sort_cases c hv.head
            rcases hst with rfl | rfl <;> rcases this with e | e | e | e | e | e <;> first | (rw [e.1]; decide) | exact absurd e.1 hn5
          rw [if_neg h10] at h
          by_cases k2 : sortOf c = 2
          · rcases hst with rfl | rfl
            · have := sort2' k2
              rw [hv.head] at this
              exact hs rfl c r rfl this
            · rw [k2] at k; exact k rfl
          · refine noword r _ _ _ ?_ b m h
            have := sort_cases c hv.head
            rcases hst with rfl | rfl <;> rcases this with e | e | e | e | e | e <;> first | (rw [e.1]; decide) | exact absurd e.1 hn5 | exact absurd e.1 k2 | (rw [e.1] at k; exact absurd rfl k)
    rw [ok_acc T nw, acc2 v hv o st hst (s0 n) rfl rfl hs hw']
    have w1 : v ≠ wInf := fun e => hw' _ _ e (by decide)
    have w2 : v ≠ wInfinity := fun e => hw' _ _ e (by decide)
    have w3 : v ≠ wNan := fun e => hw' _ _ e (by decide)
    unfold body numb
    rw [if_neg (not_or.2 ⟨w1, w2⟩), if_neg w3]
    by_cases k : (cut 46 (cut 101 v).1).1.length + (cut 46 (cut 101 v).1).2.1.length = 0
    · rw [if_pos k, if_pos (.inr (.inr k))]; rfl
    · rw [if_neg k]
      unfold wholeS
      by_cases k2 : (cut 46 (cut 101 v).1).1.all dgt = false ∨ (cut 46 (cut 101 v).1).2.1.all dgt = false
      · rw [if_pos k2, if_pos (by rcases k2 with a | a; exact .inl a; exact .inr (.inl a))]; rfl
      · rw [if_neg k2, if_neg (by intro x; rcases x with a | a | a; exact k2 (.inl a); exact k2 (.inr a); exact k a), Option.map_map]
        refine congrArg (fun f => Option.map f (powr (cut 101 v))) (funext fun x => ?_)
        simp [Sn.dec]

theorem scan_ok (t : List Nat) : okOf (scanI t) = whole t := by
  unfold scanI whole
  rw [← walk_low]
  have hl := Low_map t
  cases t with
  | nil => rfl
  | cons y r =>
    rw [List.map_cons] at hl ⊢
    by_cases h : low y = 43 ∨ low y = 45
    · have h2 : sortOf (low y) = 2 := by have := sort_cases (low y) (low_low y); omega
      rw [signed_yes _ h, step (st' := 2) _ _ _ (by rw [h2]; rfl) (by decide) (by decide)]
      exact ok_body (r.map low) hl.tail 1 2 (decide (low y = 45)) (.inr rfl) (fun e => by cases e) (y :: r) rfl
    · rw [signed_no _ h]
      exact ok_body (low y :: r.map low) hl 0 1 false (.inl rfl) (fun _ c r' e => by cases e; exact h) (y :: r) rfl

/-! Where it gives up. -/
theorem along_is (t : List Nat) (k : Nat) (h0 : k = 0 ∨ begins (t.take k) = true) : ∀ N, k ≤ N → (∀ n, k < n → n ≤ N → begins (t.take n) = false) → along t N = k := by
  intro N
  induction N with
  | zero => intro h1 _; rw [along]; omega
  | succ N ih =>
    intro h1 h2
    rw [along]
    by_cases e : k = N + 1
    · subst e
      rcases h0 with h0 | h0
      · omega
      · rw [if_pos h0]
    · rw [if_neg (by rw [h2 (N + 1) (by omega) (Nat.le_refl _)]; decide)]
      exact ih (by omega) fun n a b => h2 n a (by omega)

theorem begins_iff (t : List Nat) : begins t = true ↔ ∃ e ∈ ends, ∃ d, whole (t ++ e) = some d := by
  unfold begins
  rw [List.any_eq_true]
  constructor
  · rintro ⟨e, he, h⟩; exact ⟨e, he, Option.isSome_iff_exists.1 h⟩
  · rintro ⟨e, he, h⟩; exact ⟨e, he, Option.isSome_iff_exists.2 h⟩

theorem walk_append (u : List Nat) : ∀ (v : List Nat) (o st : Nat) (s : Sn) (st' : Nat) (s' : Sn), walk u o st s = .fin st' s' → walk (u ++ v) o st s = walk v (o + u.length) st' s' := by
  induction u with
  | nil => intro v o st s st' s' h; cases h; rfl
  | cons c r ih =>
    intro v o st s st' s' h
    rw [walk] at h
    rw [List.cons_append, walk]
    by_cases k : next st (sortOf c) = 0
    · rw [if_pos k] at h; cases h
    · rw [if_neg k] at h ⊢
      by_cases k2 : next st (sortOf c) = 10
      · rw [if_pos k2] at h; cases h
      · rw [if_neg k2] at h ⊢
        rw [ih v _ _ _ _ _ h, List.length_cons]
        congr 1; omega

theorem fin_state (u : List Nat) : ∀ (o st : Nat) (s : Sn) (st' : Nat) (s' : Sn), walk u o st s = .fin st' s' → 1 ≤ st ∧ st ≤ 9 → 1 ≤ st' ∧ st' ≤ 9 := by
  induction u with
  | nil => intro o st s st' s' h hs; cases h; exact hs
  | cons c r ih =>
    intro o st s st' s' h hs
    rw [walk] at h
    by_cases k : next st (sortOf c) = 0
    · rw [if_pos k] at h; cases h
    · rw [if_neg k] at h
      by_cases k2 : next st (sortOf c) = 10
      · rw [if_pos k2] at h; cases h
      · rw [if_neg k2] at h
        have := next_le st (sortOf c)
        exact ih _ _ _ _ _ h ⟨by omega, by omega⟩

theorem stuck_at (t : List Nat) : ∀ (o st : Nat) (s : Sn) (k : Nat), walk t o st s = .stuck k → o ≤ k ∧ k < o + t.length ∧ (∃ st' s', walk (t.take (k - o)) o st s = .fin st' s') ∧ ∀ t', t'.take (k - o + 1) = t.take (k - o + 1) → walk t' o st s = .stuck k := by
  induction t with
  | nil => intro o st s k h; cases h
  | cons c r ih =>
    intro o st s k h
    rw [walk] at h
    by_cases e : next st (sortOf c) = 0
    · rw [if_pos e] at h
      cases h
      refine ⟨Nat.le_refl _, by simp, ?_, fun t' ht => ?_⟩
      · rw [Nat.sub_self]; exact ⟨st, s, rfl⟩
      · rw [Nat.sub_self] at ht
        cases t' with
        | nil => simp at ht
        | cons x y =>
          simp at ht
          rw [ht, walk, if_pos e]
    · rw [if_neg e] at h
      by_cases e2 : next st (sortOf c) = 10
      · rw [if_pos e2] at h; cases h
      · rw [if_neg e2] at h
        obtain ⟨a1, a2, ⟨st', s', a3⟩, a4⟩ := ih _ _ _ _ h
        have ek : k - o = (k - (o + 1)) + 1 := by omega
        refine ⟨by omega, by rw [List.length_cons]; omega, ⟨st', s', ?_⟩, fun t' ht => ?_⟩
        · rw [ek, List.take_succ_cons, walk, if_neg e, if_neg e2]; exact a3
        · cases t' with
          | nil => simp at ht
          | cons x y =>
            rw [ek] at ht
            simp only [List.take_succ_cons, List.cons.injEq] at ht
            obtain ⟨rfl, ht⟩ := ht
            rw [walk, if_neg e, if_neg e2]
            exact a4 y (by simpa using ht)

theorem finish (st : Nat) (h : 1 ≤ st ∧ st ≤ 9) (o : Nat) (s : Sn) : ∃ e ∈ ends, ∃ st' s', walk e o st s = .fin st' s' ∧ good st' = true := by
  rcases (show st = 1 ∨ st = 2 ∨ st = 3 ∨ st = 4 ∨ st = 5 ∨ st = 6 ∨ st = 7 ∨ st = 8 ∨ st = 9 by omega) with rfl | rfl | rfl | rfl | rfl | rfl | rfl | rfl | rfl
  · exact ⟨[48], by decide, 3, _, rfl, rfl⟩
  · exact ⟨[48], by decide, 3, _, rfl, rfl⟩
  · exact ⟨[], by decide, 3, _, rfl, rfl⟩
  · exact ⟨[48], by decide, 6, _, rfl, rfl⟩
  · exact ⟨[], by decide, 5, _, rfl, rfl⟩
  · exact ⟨[], by decide, 6, _, rfl, rfl⟩
  · exact ⟨[48], by decide, 9, _, rfl, rfl⟩
  · exact ⟨[48], by decide, 9, _, rfl, rfl⟩
  · exact ⟨[], by decide, 9, _, rfl, rfl⟩

theorem begins_of_fin (u : List Nat) (st' : Nat) (s' : Sn) (h : walk u 0 1 (s0 false) = .fin st' s') : begins u = true := by
  have hst := fin_state u _ _ _ _ _ h ⟨by omega, by omega⟩
  obtain ⟨e, he, st2, s2, hw, hg⟩ := finish st' hst (0 + u.length) s'
  rw [begins_iff]
  refine ⟨e, he, s2.dec, ?_⟩
  rw [← scan_ok]
  unfold scanI
  rw [walk_append u e _ _ _ _ _ h, hw]
  simp [Out.scan, hg, okOf]

theorem common_take (v : List Nat) : ∀ w, (v.take (common v w)).map low = w.take (common v w) ∧ common v w ≤ v.length ∧ common v w ≤ w.length := by
  induction v with
  | nil => intro w; simp [common]
  | cons c r ih =>
    intro w
    cases w with
    | nil => simp [common]
    | cons x y =>
      rw [common]
      split
      next h =>
        obtain ⟨a, b, c'⟩ := ih y
        rw [List.take_succ_cons, List.take_succ_cons, List.map_cons, a, h]
        exact ⟨rfl, by simpa using b, by simpa using c'⟩
      next h => simp

theorem common_ge (v : List Nat) : ∀ (w : List Nat) (k : Nat), (v.take k).map low = w.take k → k ≤ v.length → k ≤ w.length → k ≤ common v w := by
  induction v with
  | nil => intro w k _ h _; simp at h; omega
  | cons c r ih =>
    intro w k h h1 h2
    cases k with
    | zero => omega
    | succ k =>
      cases w with
      | nil => simp at h2
      | cons x y =>
        simp only [List.take_succ_cons, List.map_cons, List.cons.injEq] at h
        rw [common, if_pos h.1]
        have := ih y k h.2 (by simpa using h1) (by simpa using h2)
        omega

/-- The words. -/
theorem body_word (n : Bool) (w : List Nat) (h : w = wInf ∨ w = wInfinity ∨ w = wNan) : ∃ d, body n w = some d := by
  rcases h with rfl | rfl | rfl
  · exact ⟨_, rfl⟩
  · exact ⟨_, rfl⟩
  · exact ⟨_, rfl⟩

theorem word_end (w : List Nat) (m : Nat) (hm : m ≤ w.length) (h : w = wInf ∨ (w = wInfinity ∧ 3 < m) ∨ w = wNan) : w.drop m ∈ ends := by
  have h8 : m < 9 := by rcases h with rfl | ⟨rfl, _⟩ | rfl <;> simp [wInf, wInfinity, wNan] at hm <;> omega
  have key : ∀ m, m < 9 → wInf.drop m ∈ ends ∧ (3 < m → wInfinity.drop m ∈ ends) ∧ wNan.drop m ∈ ends := by decide
  rcases h with rfl | ⟨rfl, h3⟩ | rfl
  · exact (key m h8).1
  · exact (key m h8).2.1 h3
  · exact (key m h8).2.2

theorem common_inf (v : List Nat) (h : common v wInfinity ≤ 3) : common v wInfinity ≤ common v wInf := by
  have c := common_take v wInfinity
  refine common_ge v wInf _ ?_ c.2.1 h
  rw [c.1]
  generalize common v wInfinity = k at h
  revert k
  decide

theorem body_is_word {n : Bool} {c : Nat} {r : List Nat} {d : Dec} (hc : c = 105 ∨ c = 110) (h : body n (c :: r) = some d) : c :: r = wInf ∨ c :: r = wInfinity ∨ c :: r = wNan := by
  unfold body at h
  by_cases k1 : c :: r = wInf ∨ c :: r = wInfinity
  · rcases k1 with k | k
    · exact .inl k
    · exact .inr (.inl k)
  · rw [if_neg k1] at h
    by_cases k2 : c :: r = wNan
    · exact .inr (.inr k2)
    · rw [if_neg k2, numb_word n c r hc] at h; cases h

/-- Where a word is met: at once, or behind a sign. -/
theorem word_at (t : List Nat) (b : Nat) (n : Bool) (h : walk t 0 1 (s0 false) = .word b n) :
    ∃ sg c r, t = sg ++ c :: r ∧ sg.length = b ∧ sortOf c = 5 ∧ (sg = [] ∨ ∃ x, sg = [x] ∧ (low x = 43 ∨ low x = 45)) := by
  cases t with
  | nil => cases h
  | cons x r =>
    rw [walk] at h
    by_cases k : next 1 (sortOf x) = 0
    · rw [if_pos k] at h; cases h
    · rw [if_neg k] at h
      have hc := sort_cases (low x) (low_low x)
      rw [sort_low] at hc
      by_cases k2 : next 1 (sortOf x) = 10
      · rw [if_pos k2] at h
        cases h
        refine ⟨[], x, r, rfl, rfl, ?_, .inl rfl⟩
        rcases hc with e | e | e | e | e | e <;> first | exact e.1 | (rw [e.1] at k2; exact absurd k2 (by decide))
      · rw [if_neg k2] at h
        by_cases k3 : sortOf x = 2
        · rw [k3, show next 1 2 = 2 from rfl] at h
          cases r with
          | nil => cases h
          | cons y r =>
            rw [walk] at h
            have hy := sort_cases (low y) (low_low y)
            rw [sort_low] at hy
            by_cases j : next 2 (sortOf y) = 0
            · rw [if_pos j] at h; cases h
            · rw [if_neg j] at h
              by_cases j2 : next 2 (sortOf y) = 10
              · rw [if_pos j2] at h
                cases h
                refine ⟨[x], y, r, rfl, rfl, ?_, .inr ⟨x, rfl, sort2' k3⟩⟩
                rcases hy with e | e | e | e | e | e <;> first | exact e.1 | (rw [e.1] at j2; exact absurd j2 (by decide))
              · rw [if_neg j2] at h
                refine absurd h (noword r _ _ _ ?_ b n)
                rcases hy with e | e | e | e | e | e <;> first | (rw [e.1]; decide) | (rw [e.1] at j; exact absurd rfl j) | (rw [e.1] at j2; exact absurd rfl j2)
        · refine absurd h (noword r _ _ _ ?_ b n)
          rcases hc with e | e | e | e | e | e <;> first | (rw [e.1]; decide) | (rw [e.1] at k; exact absurd rfl k) | (rw [e.1] at k2; exact absurd rfl k2) | exact absurd e.1 k3

/-- A text with a sign, or none, and a body that begins with a letter of a word. -/
theorem whole_sg (sg v : List Nat) (c : Nat) (r : List Nat) (hv : v.map low = c :: r) (hc : c = 105 ∨ c = 110) (hs : sg = [] ∨ ∃ x, sg = [x] ∧ (low x = 43 ∨ low x = 45)) : ∃ n, whole (sg ++ v) = body n (v.map low) := by
  rcases hs with rfl | ⟨x, rfl, hx⟩
  · refine ⟨false, ?_⟩
    unfold whole
    rw [List.nil_append, hv, signed_no r (by omega)]
  · refine ⟨decide (low x = 45), ?_⟩
    unfold whole
    rw [List.singleton_append, List.map_cons, signed_yes _ hx]

theorem word_split {w : List Nat} (h : w = wInf ∨ w = wInfinity ∨ w = wNan) : ∃ c r, w = c :: r ∧ (c = 105 ∨ c = 110) := by
  rcases h with rfl | rfl | rfl
  · exact ⟨_, _, rfl, .inl rfl⟩
  · exact ⟨_, _, rfl, .inl rfl⟩
  · exact ⟨_, _, rfl, .inr rfl⟩

theorem scanWord_off (v : List Nat) (b : Nat) (n : Bool) (k : Nat) (h : scanWord v b n = .inr k) : k = b + max (max (max 0 (common v wInf)) (common v wInfinity)) (common v wNan) := by
  unfold scanWord at h
  split at h
  · cases h
  · split at h
    · cases h
    · split at h
      · cases h
      · exact (Sum.inr.inj h).symm

theorem word_off (t : List Nat) (b : Nat) (n : Bool) (h : walk t 0 1 (s0 false) = .word b n) (k : Nat) (hk : scanWord (t.drop b) b n = .inr k) :
    k ≤ t.length ∧ begins (t.take k) = true ∧ ∀ m, k < m → m ≤ t.length → begins (t.take m) = false := by
  obtain ⟨sg, c, r, rfl, rfl, h5, hs⟩ := word_at t b n h
  rw [List.drop_left] at hk
  have ek := scanWord_off _ _ _ _ hk
  have c1 := common_take (c :: r) wInf
  have c2 := common_take (c :: r) wInfinity
  have c3 := common_take (c :: r) wNan
  have c4 := common_inf (c :: r)
  obtain ⟨w, hw', hm⟩ : ∃ w, (w = wInf ∨ (w = wInfinity ∧ 3 < common (c :: r) w) ∨ w = wNan) ∧ k = sg.length + common (c :: r) w := by
    by_cases a1 : common (c :: r) wInfinity ≤ common (c :: r) wInf ∧ common (c :: r) wNan ≤ common (c :: r) wInf
    · exact ⟨wInf, .inl rfl, by omega⟩
    · by_cases a2 : common (c :: r) wNan ≤ common (c :: r) wInfinity
      · exact ⟨wInfinity, .inr (.inl ⟨rfl, by omega⟩), by omega⟩
      · exact ⟨wNan, .inr (.inr rfl), by omega⟩
  have hw : w = wInf ∨ w = wInfinity ∨ w = wNan := by
    rcases hw' with a | a | a
    · exact .inl a
    · exact .inr (.inl a.1)
    · exact .inr (.inr a)
  have cw := common_take (c :: r) w
  refine ⟨by rw [List.length_append]; omega, ?_, fun m h1 h2 => ?_⟩
  · rw [begins_iff]
    refine ⟨w.drop (common (c :: r) w), word_end w _ cw.2.2 hw', ?_⟩
    have e1 : (sg ++ c :: r).take k = sg ++ (c :: r).take (common (c :: r) w) := by
      rw [hm, List.take_append]
      rw [List.take_of_length_le (by omega), Nat.add_sub_cancel_left]
    have e2 : ((c :: r).take (common (c :: r) w) ++ w.drop (common (c :: r) w)).map low = w := by
      have hl : Low w := by rcases hw with rfl | rfl | rfl <;> (intro x hx; revert x; decide)
      have hd : (w.drop (common (c :: r) w)).map low = w.drop (common (c :: r) w) := map_of_Low fun x hx => hl x (List.mem_of_mem_drop hx)
      rw [List.map_append, cw.1, hd, List.take_append_drop]
    obtain ⟨c', r', ew, hc'⟩ := word_split hw
    obtain ⟨n', hn⟩ := whole_sg sg ((c :: r).take (common (c :: r) w) ++ w.drop (common (c :: r) w)) c' r' (by rw [e2, ew]) hc' hs
    rw [e1, List.append_assoc, hn, e2]
    exact body_word n' w hw
  · cases hb : begins ((sg ++ c :: r).take m) with
    | false => rfl
    | true =>
      exfalso
      rw [begins_iff] at hb
      obtain ⟨e, he, d, hd⟩ := hb
      rw [List.length_append, List.length_cons] at h2
      obtain ⟨j, rfl⟩ : ∃ j, m = sg.length + (j + 1) := ⟨m - sg.length - 1, by omega⟩
      have e1 : (sg ++ c :: r).take (sg.length + (j + 1)) = sg ++ c :: r.take j := by
        rw [List.take_append, List.take_of_length_le (by omega), Nat.add_sub_cancel_left, List.take_succ_cons]
      rw [e1, List.append_assoc, List.cons_append] at hd
      obtain ⟨n', hn⟩ := whole_sg sg (c :: (r.take j ++ e)) (low c) ((r.take j ++ e).map low) rfl (sort5' h5) hs
      rw [hn, List.map_cons] at hd
      have hq := body_is_word (sort5' h5) hd
      have key : ∀ w', low c :: (r.take j ++ e).map low = w' → j + 1 ≤ common (c :: r) w' := by
        intro w' hw'
        refine common_ge (c :: r) w' (j + 1) ?_ (by rw [List.length_cons]; omega) ?_
        · rw [← hw']
          simp only [List.take_succ_cons, List.map_cons, List.map_append]
          rw [List.take_left' (by rw [List.length_map, List.length_take]; omega)]
        · rw [← hw', List.length_cons, List.length_map, List.length_append, List.length_take]; omega
      rcases hq with hq | hq | hq
      · have := key _ hq; omega
      · have := key _ hq; omega
      · have := key _ hq; omega

/-- The walk through states says what the document says. -/
theorem scan_eq (t : List Nat) : scanI t = scanD t := by
  have hok := scan_ok t
  unfold scanD
  cases hI : scanI t with
  | inl d => rw [hI] at hok; rw [← hok]; rfl
  | inr k =>
    rw [hI] at hok
    rw [← hok]
    show Sum.inr k = Sum.inr (along t t.length)
    congr 1
    unfold scanI at hI
    cases hw : walk t 0 1 (s0 false) with
    | stuck o =>
      rw [hw] at hI
      obtain rfl := Sum.inr.inj hI
      obtain ⟨_, a2, ⟨st', s', a3⟩, a4⟩ := stuck_at t _ _ _ _ hw
      rw [Nat.sub_zero] at a3 a4
      refine (along_is t o (.inr (begins_of_fin _ _ _ a3)) t.length (by omega) fun n h1 h2 => ?_).symm
      cases hb : begins (t.take n) with
      | false => rfl
      | true =>
        exfalso
        rw [begins_iff] at hb
        obtain ⟨e, he, d, hd⟩ := hb
        rw [← scan_ok] at hd
        unfold scanI at hd
        rw [a4 (t.take n ++ e) (by rw [List.take_append_of_le_length (by rw [List.length_take]; omega), List.take_take, Nat.min_eq_left (by omega)])] at hd
        cases hd
    | word b n =>
      rw [hw] at hI
      obtain ⟨a1, a2, a3⟩ := word_off t b n hw k hI
      exact (along_is t k (.inr a2) t.length a1 a3).symm
    | fin st s =>
      rw [hw] at hI
      simp only [Out.scan] at hI
      split at hI
      · cases hI
      · obtain rfl := Sum.inr.inj hI
        refine (along_is t t.length (.inr ?_) t.length (Nat.le_refl _) fun n h1 h2 => by omega).symm
        rw [List.take_length]
        exact begins_of_fin t st s hw
end Go.Proofs.YtehplfmnipadmacDoor.M
