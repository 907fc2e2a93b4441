/-
  Plain mathematics of a number's text: the grammar as the document reads it, and as a walk through states. It names no program.
-/
import Derived.Test.YtehplfmnipadmacDoorMath
namespace Go.Proofs.YtehplfmnipadmacDoor.M
set_option linter.unusedVariables false

def low (c : Nat) : Nat := if 65 ≤ c ∧ c ≤ 90 then c + 32 else c
def dgt (c : Nat) : Bool := decide (48 ≤ c ∧ c ≤ 57)
def cut (k : Nat) : List Nat → List Nat × List Nat × Bool
  | [] => ([], [], false)
  | x :: r => if x = k then ([], r, true) else (x :: (cut k r).1, (cut k r).2.1, (cut k r).2.2)
def signed : List Nat → List Nat × Bool
  | [] => ([], false)
  | x :: r => if x = 43 ∨ x = 45 then (r, decide (x = 45)) else (x :: r, false)
def expF (x : Nat) (l : List Nat) : Nat := l.foldl (fun e c => min (e * 10 + (c - 48)) 1000000) x
def trimL (l : List Nat) : List Nat := l.dropWhile (fun c => decide (c = 48))
def trimR (l : List Nat) : List Nat := (l.reverse.dropWhile (fun c => decide (c = 48))).reverse
def bareD (l : List Nat) : List Nat := trimR (trimL l)
def bareE (l : List Nat) (e : Int) : Int := if bareD l = [] then 0 else e + (trimL l).length - (bareD l).length

structure Dec where
  kind : Int
  neg : Bool
  digits : List Nat
  exp : Int

def wInf : List Nat := [105, 110, 102]
def wInfinity : List Nat := [105, 110, 102, 105, 110, 105, 116, 121]
def wNan : List Nat := [110, 97, 110]

/-- The power behind the mark: its sign and its number. -/
def powr (c : List Nat × List Nat × Bool) : Option (Bool × Nat) :=
  if c.2.2 then (if (signed c.2.1).1 = [] ∨ (signed c.2.1).1.all dgt = false then none else some ((signed c.2.1).2, expF 0 (signed c.2.1).1)) else some (false, 0)

def decOf (n : Bool) (l : List Nat) (b : Nat) (x : Bool × Nat) : Dec := ⟨1, n, bareD l, bareE l ((if x.1 then -(x.2 : Int) else x.2) - b)⟩

/-- A body that is no word. -/
def numb (n : Bool) (v : List Nat) : Option Dec :=
  if (cut 46 (cut 101 v).1).1.all dgt = false ∨ (cut 46 (cut 101 v).1).2.1.all dgt = false ∨ (cut 46 (cut 101 v).1).1.length + (cut 46 (cut 101 v).1).2.1.length = 0 then none
  else (powr (cut 101 v)).map (decOf n ((cut 46 (cut 101 v).1).1 ++ (cut 46 (cut 101 v).1).2.1) (cut 46 (cut 101 v).1).2.1.length)

def body (n : Bool) (v : List Nat) : Option Dec :=
  if v = wInf ∨ v = wInfinity then some ⟨2, n, [], 0⟩ else if v = wNan then some ⟨3, false, [], 0⟩ else numb n v

/-- A whole text, as the document reads it. -/
def whole (t : List Nat) : Option Dec := body (signed (t.map low)).2 (signed (t.map low)).1

def ends : List (List Nat) := [[], [48], [105, 110, 102], [110, 102], [102], [110, 97, 110], [97, 110], [110], [105, 110, 105, 116, 121], [110, 105, 116, 121], [105, 116, 121], [116, 121], [121]]
def begins (t : List Nat) : Bool := ends.any fun s => (whole (t ++ s)).isSome

/-- How far a text goes along with the grammar, at most n. -/
def along (t : List Nat) : Nat → Nat
  | 0 => 0
  | n + 1 => if begins (t.take (n + 1)) then n + 1 else along t n

/-- What a scan says: a number, or where it gave up. -/
def scanD (t : List Nat) : Dec ⊕ Nat := match whole t with
  | some d => .inl d
  | none => .inr (along t t.length)

/-! The walk through states. -/
def sortOf (c : Nat) : Nat :=
  if 48 ≤ low c ∧ low c ≤ 57 then 1 else if low c = 43 ∨ low c = 45 then 2 else if low c = 46 then 3 else if low c = 101 then 4 else if low c = 105 ∨ low c = 110 then 5 else 0

def next (st so : Nat) : Nat := match st, so with
  | 1, 1 => 3 | 1, 2 => 2 | 1, 3 => 4 | 1, 5 => 10
  | 2, 1 => 3 | 2, 3 => 4 | 2, 5 => 10
  | 3, 1 => 3 | 3, 3 => 5 | 3, 4 => 7
  | 4, 1 => 6
  | 5, 1 => 6 | 5, 4 => 7
  | 6, 1 => 6 | 6, 4 => 7
  | 7, 1 => 9 | 7, 2 => 8
  | 8, 1 => 9
  | 9, 1 => 9
  | _, _ => 0

structure Sn where
  neg : Bool
  digits : List Nat
  behind : Nat
  expNeg : Bool
  exponent : Nat

def take (st c : Nat) (s : Sn) : Sn :=
  if st = 2 then { s with neg := decide (c = 45) } else if st = 6 then { s with behind := s.behind + 1, digits := s.digits ++ [c] }
  else if st = 3 then { s with digits := s.digits ++ [c] } else if st = 8 then { s with expNeg := decide (c = 45) }
  else if st = 9 then { s with exponent := min (s.exponent * 10 + (c - 48)) 1000000 } else s

inductive Out where
  | stuck (o : Nat)
  | word (b : Nat) (n : Bool)
  | fin (st : Nat) (s : Sn)

def walk : List Nat → Nat → Nat → Sn → Out
  | [], _, st, s => .fin st s
  | c :: r, o, st, s => if next st (sortOf c) = 0 then .stuck o else if next st (sortOf c) = 10 then .word o s.neg else walk r (o + 1) (next st (sortOf c)) (take (next st (sortOf c)) c s)

def common : List Nat → List Nat → Nat
  | c :: r, x :: y => if low c = x then common r y + 1 else 0
  | _, _ => 0

def good (st : Nat) : Bool := decide (st = 3 ∨ st = 5 ∨ st = 6 ∨ st = 9)

def Sn.dec (s : Sn) : Dec := decOf s.neg s.digits s.behind (s.expNeg, s.exponent)

def scanWord (v : List Nat) (b : Nat) (n : Bool) : Dec ⊕ Nat :=
  if v.map low = wInf then .inl ⟨2, n, [], 0⟩ else if v.map low = wInfinity then .inl ⟨2, n, [], 0⟩ else if v.map low = wNan then .inl ⟨3, false, [], 0⟩
  else .inr (b + max (max (max 0 (common v wInf)) (common v wInfinity)) (common v wNan))

def Out.scan (t : List Nat) : Out → Dec ⊕ Nat
  | .stuck o => .inr o
  | .word b n => scanWord (t.drop b) b n
  | .fin st s => if good st then .inl s.dec else .inr t.length

def scanI (t : List Nat) : Dec ⊕ Nat := (walk t 0 1 ⟨false, [], 0, false, 0⟩).scan t

/-! What the walk ends with, from each state. -/
def Out.acc : Out → Option Sn
  | .fin st s => if good st then some s else none
  | _ => none

theorem low_low (c : Nat) : low (low c) = low c := by
  unfold low
  by_cases h : 65 ≤ c ∧ c ≤ 90
  · rw [if_pos h, if_neg (by omega)]
  · rw [if_neg h, if_neg h]
theorem sort_low (c : Nat) : sortOf (low c) = sortOf c := by unfold sortOf; rw [low_low]

theorem dgt_iff (c : Nat) : dgt c = true ↔ (48 ≤ c ∧ c ≤ 57) := by simp [dgt]
theorem dgt_no (c : Nat) (h : c < 48 ∨ 57 < c) : dgt c = false := by
  cases e : dgt c with
  | false => rfl
  | true => rw [dgt_iff] at e; omega

theorem sort_cases (c : Nat) (hl : low c = c) : (sortOf c = 1 ∧ dgt c = true ∧ 48 ≤ c ∧ c ≤ 57) ∨ (sortOf c = 2 ∧ dgt c = false ∧ (c = 43 ∨ c = 45)) ∨ (sortOf c = 3 ∧ dgt c = false ∧ c = 46) ∨ (sortOf c = 4 ∧ dgt c = false ∧ c = 101) ∨
    (sortOf c = 5 ∧ dgt c = false ∧ (c = 105 ∨ c = 110)) ∨ (sortOf c = 0 ∧ dgt c = false ∧ c ≠ 43 ∧ c ≠ 45 ∧ c ≠ 46 ∧ c ≠ 101 ∧ c ≠ 105 ∧ c ≠ 110) := by
  unfold sortOf
  rw [hl]
  by_cases h1 : 48 ≤ c ∧ c ≤ 57
  · exact .inl ⟨if_pos h1, (dgt_iff c).2 h1, h1⟩
  · have hd := dgt_no c (by omega)
    rw [if_neg h1]
    by_cases h2 : c = 43 ∨ c = 45
    · exact .inr (.inl ⟨if_pos h2, hd, h2⟩)
    · rw [if_neg h2]
      by_cases h3 : c = 46
      · exact .inr (.inr (.inl ⟨if_pos h3, hd, h3⟩))
      · rw [if_neg h3]
        by_cases h4 : c = 101
        · exact .inr (.inr (.inr (.inl ⟨if_pos h4, hd, h4⟩)))
        · rw [if_neg h4]
          by_cases h5 : c = 105 ∨ c = 110
          · exact .inr (.inr (.inr (.inr (.inl ⟨if_pos h5, hd, h5⟩))))
          · exact .inr (.inr (.inr (.inr (.inr ⟨if_neg h5, hd, by omega, by omega, by omega, by omega, by omega, by omega⟩))))

theorem dead (c : Nat) (r : List Nat) (o st : Nat) (s : Sn) (h : next st (sortOf c) = 0) : (walk (c :: r) o st s).acc = none := by rw [walk, if_pos h]; rfl
theorem step {c st st' : Nat} (r : List Nat) (o : Nat) (s : Sn) (h : next st (sortOf c) = st') (h0 : st' ≠ 0) (h1 : st' ≠ 10) : walk (c :: r) o st s = walk r (o + 1) st' (take st' c s) := by
  rw [walk, h, if_neg h0, if_neg h1]

def Low (v : List Nat) : Prop := ∀ c ∈ v, low c = c
theorem Low.tail {c : Nat} {r : List Nat} (h : Low (c :: r)) : Low r := fun x hx => h x (List.mem_cons_of_mem _ hx)
theorem Low.head {c : Nat} {r : List Nat} (h : Low (c :: r)) : low c = c := h c List.mem_cons_self

theorem acc9 (v : List Nat) : ∀ (hv : Low v) (o : Nat) (s : Sn), (walk v o 9 s).acc = if v.all dgt = false then none else some { s with exponent := expF s.exponent v } := by
  induction v with
  | nil => intro _ o s; rfl
  | cons c r ih =>
    intro hv o s
    rcases sort_cases c hv.head with h | h | h | h | h | h
    · rw [step r o s (st' := 9) (by rw [h.1]; rfl) (by decide) (by decide), ih hv.tail, List.all_cons, h.2.1, Bool.true_and]
      rfl
    all_goals
      rw [dead c r o 9 s (by rw [h.1]; rfl), List.all_cons, h.2.1, Bool.false_and, if_pos rfl]

theorem acc8 (v : List Nat) (hv : Low v) (o : Nat) (s : Sn) : (walk v o 8 s).acc = if v = [] ∨ v.all dgt = false then none else some { s with exponent := expF s.exponent v } := by
  cases v with
  | nil => rfl
  | cons c r =>
    rcases sort_cases c hv.head with h | h | h | h | h | h
    · rw [step r o s (st' := 9) (by rw [h.1]; rfl) (by decide) (by decide), acc9 r hv.tail, List.all_cons, h.2.1, Bool.true_and]
      by_cases k : r.all dgt = false
      · rw [if_pos k, if_pos (.inr k)]
      · rw [if_neg k, if_neg (fun x => x.elim (fun y => by simp at y) k)]; rfl
    all_goals
      rw [dead c r o 8 s (by rw [h.1]; rfl), List.all_cons, h.2.1, Bool.false_and, if_pos (.inr rfl)]

theorem signed_yes {c : Nat} (r : List Nat) (h : c = 43 ∨ c = 45) : signed (c :: r) = (r, decide (c = 45)) := by rw [signed, if_pos h]
theorem signed_no {c : Nat} (r : List Nat) (h : ¬ (c = 43 ∨ c = 45)) : signed (c :: r) = (c :: r, false) := by rw [signed, if_neg h]

theorem powr_yes (a v : List Nat) : powr (a, v, true) = if (signed v).1 = [] ∨ (signed v).1.all dgt = false then none else some ((signed v).2, expF 0 (signed v).1) := by
  unfold powr; rw [if_pos rfl]

/-- From the mark on. -/
theorem acc7 (v : List Nat) (hv : Low v) (o : Nat) (s : Sn) (h1 : s.expNeg = false) (h2 : s.exponent = 0) (a : List Nat) :
    (walk v o 7 s).acc = (powr (a, v, true)).map fun x => { s with expNeg := x.1, exponent := x.2 } := by
  rw [powr_yes]
  cases v with
  | nil => rfl
  | cons c r =>
    rcases sort_cases c hv.head with h | h | h | h | h | h
    · rw [step r o s (st' := 9) (by rw [h.1]; rfl) (by decide) (by decide), acc9 r hv.tail, signed_no r (by omega), List.all_cons, h.2.1, Bool.true_and]
      by_cases k : r.all dgt = false
      · rw [if_pos k, if_pos (.inr k)]; rfl
      · rw [if_neg k, if_neg (fun x => x.elim (fun y => by simp at y) k)]
        obtain ⟨s1, s2, s3, s4, s5⟩ := s
        simp only at h1 h2
        subst h1 h2
        rfl
    · rw [step r o s (st' := 8) (by rw [h.1]; rfl) (by decide) (by decide), acc8 r hv.tail, signed_yes r h.2.2]
      by_cases k : r = [] ∨ r.all dgt = false
      · rw [if_pos k, if_pos k]; rfl
      · rw [if_neg k, if_neg k]
        obtain ⟨s1, s2, s3, s4, s5⟩ := s
        simp only at h1 h2
        subst h1 h2
        rfl
    all_goals
      rw [dead c r o 7 s (by rw [h.1]; rfl), signed_no r (by omega), List.all_cons, h.2.1, Bool.false_and, if_pos (.inr rfl)]
      rfl

theorem cut_at (k : Nat) (r : List Nat) : cut k (k :: r) = ([], r, true) := by rw [cut, if_pos rfl]
theorem cut_by {k c : Nat} (r : List Nat) (h : c ≠ k) : cut k (c :: r) = (c :: (cut k r).1, (cut k r).2.1, (cut k r).2.2) := by rw [cut, if_neg h]

theorem powr_cons (a : List Nat) (b : List Nat) (k : Bool) (c : List Nat) : powr (a, b, k) = powr (c, b, k) := rfl

def fracS (s : Sn) (v : List Nat) : Option Sn :=
  if (cut 101 v).1.all dgt = false then none else (powr (cut 101 v)).map fun x => ⟨s.neg, s.digits ++ (cut 101 v).1, s.behind + (cut 101 v).1.length, x.1, x.2⟩

theorem acc6 (v : List Nat) : ∀ (hv : Low v) (o : Nat) (s : Sn) (h1 : s.expNeg = false) (h2 : s.exponent = 0), (walk v o 6 s).acc = fracS s v := by
  induction v with
  | nil =>
    intro _ o s h1 h2
    obtain ⟨s1, s2, s3, s4, s5⟩ := s
    simp only at h1 h2
    subst h1 h2
    simp [walk, Out.acc, good, fracS, cut, powr]
  | cons c r ih =>
    intro hv o s h1 h2
    rcases sort_cases c hv.head with h | h | h | h | h | h
    · rw [step r o s (st' := 6) (by rw [h.1]; rfl) (by decide) (by decide), ih hv.tail _ (take 6 c s) h1 h2]
      unfold fracS
      rw [cut_by r (by omega)]
      simp only [List.all_cons, h.2.1, Bool.true_and]
      by_cases k : (cut 101 r).1.all dgt = false
      · rw [if_pos k, if_pos k]
      · rw [if_neg k, if_neg k]
        refine congrArg (fun f => Option.map f (powr (cut 101 r))) (funext fun x => ?_)
        simp [take, Nat.add_comm 1, Nat.add_assoc]
    · rw [dead c r o 6 s (by rw [h.1]; rfl)]
      unfold fracS
      rw [cut_by r (by omega)]
      simp only [List.all_cons, h.2.1, Bool.false_and, if_true]
    · rw [dead c r o 6 s (by rw [h.1]; rfl)]
      unfold fracS
      rw [cut_by r (by omega)]
      simp only [List.all_cons, h.2.1, Bool.false_and, if_true]
    · rw [step r o s (st' := 7) (by rw [h.1]; rfl) (by decide) (by decide), acc7 r hv.tail _ (take 7 c s) h1 h2 []]
      obtain ⟨_, _, rfl⟩ := h
      unfold fracS
      rw [cut_at]
      simp [take]
    all_goals
      rw [dead c r o 6 s (by rw [h.1]; rfl)]
      unfold fracS
      rw [cut_by r (by omega)]
      simp only [List.all_cons, h.2.1, Bool.false_and, if_true]

theorem acc5 (v : List Nat) (hv : Low v) (o : Nat) (s : Sn) (h1 : s.expNeg = false) (h2 : s.exponent = 0) : (walk v o 5 s).acc = fracS s v := by
  rw [← acc6 v hv o s h1 h2]
  cases v with
  | nil => rfl
  | cons c r =>
    rw [walk, walk]
    rcases sort_cases c hv.head with h | h | h | h | h | h <;> rw [h.1] <;> rfl

theorem acc4 (v : List Nat) (hv : Low v) (o : Nat) (s : Sn) (h1 : s.expNeg = false) (h2 : s.exponent = 0) : (walk v o 4 s).acc = if (cut 101 v).1 = [] then none else fracS s v := by
  cases v with
  | nil => rfl
  | cons c r =>
    rw [← acc6 _ hv o s h1 h2]
    rcases sort_cases c hv.head with h | h | h | h | h | h
    · rw [cut_by r (by omega), if_neg (by simp), walk, walk, h.1]; rfl
    · rw [cut_by r (by omega), if_neg (by simp), walk, walk, h.1]; rfl
    · rw [cut_by r (by omega), if_neg (by simp), walk, walk, h.1]; rfl
    · rw [h.2.2, cut_at, if_pos rfl]; exact dead _ r o 4 s (by rfl)
    all_goals rw [cut_by r (by omega), if_neg (by simp), walk, walk, h.1]; rfl

def wholeS (s : Sn) (v : List Nat) : Option Sn :=
  if (cut 46 (cut 101 v).1).1.all dgt = false ∨ (cut 46 (cut 101 v).1).2.1.all dgt = false then none
  else (powr (cut 101 v)).map fun x => ⟨s.neg, s.digits ++ ((cut 46 (cut 101 v).1).1 ++ (cut 46 (cut 101 v).1).2.1), s.behind + (cut 46 (cut 101 v).1).2.1.length, x.1, x.2⟩

theorem acc3 (v : List Nat) : ∀ (hv : Low v) (o : Nat) (s : Sn) (h1 : s.expNeg = false) (h2 : s.exponent = 0), (walk v o 3 s).acc = wholeS s v := by
  induction v with
  | nil =>
    intro _ o s h1 h2
    obtain ⟨s1, s2, s3, s4, s5⟩ := s
    simp only at h1 h2
    subst h1 h2
    simp [walk, Out.acc, good, wholeS, cut, powr]
  | cons c r ih =>
    intro hv o s h1 h2
    rcases sort_cases c hv.head with h | h | h | h | h | h
    · rw [step r o s (st' := 3) (by rw [h.1]; rfl) (by decide) (by decide), ih hv.tail _ (take 3 c s) h1 h2]
      unfold wholeS
      rw [cut_by r (show c ≠ 101 by omega)]
      simp only
      rw [cut_by _ (show c ≠ 46 by omega)]
      simp only [List.all_cons, h.2.1, Bool.true_and]
      by_cases k : (cut 46 (cut 101 r).1).1.all dgt = false ∨ (cut 46 (cut 101 r).1).2.1.all dgt = false
      · rw [if_pos k, if_pos k]
      · rw [if_neg k, if_neg k]
        refine congrArg (fun f => Option.map f (powr (cut 101 r))) (funext fun x => ?_)
        simp [take]
    · rw [dead c r o 3 s (by rw [h.1]; rfl)]
      unfold wholeS
      rw [cut_by r (show c ≠ 101 by omega)]
      simp only
      rw [cut_by _ (show c ≠ 46 by omega)]
      simp only [List.all_cons, h.2.1, Bool.false_and, true_or, if_true]
    · rw [step r o s (st' := 5) (by rw [h.1]; rfl) (by decide) (by decide), acc5 r hv.tail _ (take 5 c s) h1 h2]
      obtain ⟨_, _, rfl⟩ := h
      unfold wholeS fracS
      rw [cut_by r (show 46 ≠ 101 by omega)]
      simp only
      rw [cut_at]
      simp only [List.all_nil, List.nil_append]
      cases k : (cut 101 r).1.all dgt
      · simp
      · simp only [Bool.true_eq_false, or_self, if_false]; rfl
    · rw [step r o s (st' := 7) (by rw [h.1]; rfl) (by decide) (by decide), acc7 r hv.tail _ (take 7 c s) h1 h2 []]
      obtain ⟨_, _, rfl⟩ := h
      unfold wholeS
      rw [cut_at]
      simp [take, cut]
    all_goals
      rw [dead c r o 3 s (by rw [h.1]; rfl)]
      unfold wholeS
      rw [cut_by r (show c ≠ 101 by omega)]
      simp only
      rw [cut_by _ (show c ≠ 46 by omega)]
      simp only [List.all_cons, h.2.1, Bool.false_and, true_or, if_true]

/-- A body that begins with no letter of a word, and with no sign. -/
theorem acc2 (v : List Nat) (hv : Low v) (o st : Nat) (hst : st = 1 ∨ st = 2) (s : Sn) (h1 : s.expNeg = false) (h2 : s.exponent = 0) (hs : st = 1 → ∀ c r, v = c :: r → ¬ (c = 43 ∨ c = 45)) (hw : ∀ c r, v = c :: r → ¬ (c = 105 ∨ c = 110)) :
    (walk v o st s).acc = if (cut 46 (cut 101 v).1).1.length + (cut 46 (cut 101 v).1).2.1.length = 0 then none else wholeS s v := by
  cases v with
  | nil => rcases hst with rfl | rfl <;> rfl
  | cons c r =>
    rcases sort_cases c hv.head with h | h | h | h | h | h
    · rw [← acc3 _ hv o s h1 h2, cut_by r (show c ≠ 101 by omega)]
      simp only
      rw [cut_by _ (show c ≠ 46 by omega), if_neg (by simp), step r o s (st := st) (st' := 3) (by rw [h.1]; rcases hst with rfl | rfl <;> rfl) (by decide) (by decide), step r o s (st := 3) (st' := 3) (by rw [h.1]; rfl) (by decide) (by decide)]
    · rcases hst with rfl | rfl
      · exact absurd h.2.2 (hs rfl c r rfl)
      · rw [dead c r o 2 s (by rw [h.1]; rfl)]
        unfold wholeS
        rw [cut_by r (show c ≠ 101 by omega)]
        simp only
        rw [cut_by _ (show c ≠ 46 by omega)]
        simp only [List.all_cons, h.2.1, Bool.false_and, true_or, if_true, ite_self]
    · rw [step r o s (st' := 4) (by rw [h.1]; rcases hst with rfl | rfl <;> rfl) (by decide) (by decide), acc4 r hv.tail _ (take 4 c s) h1 h2]
      obtain ⟨_, _, rfl⟩ := h
      unfold wholeS fracS
      rw [cut_by r (show 46 ≠ 101 by omega)]
      simp only
      rw [cut_at]
      simp only [List.all_nil, List.nil_append, List.length_nil, Nat.zero_add, List.length_eq_zero_iff]
      by_cases k0 : (cut 101 r).1 = []
      · rw [if_pos k0, if_pos k0]
      · rw [if_neg k0, if_neg k0]
        cases k : (cut 101 r).1.all dgt
        · simp
        · simp only [Bool.true_eq_false, or_self, if_false]; rfl
    · rw [dead c r o st s (by rw [h.1]; rcases hst with rfl | rfl <;> rfl)]
      obtain ⟨_, _, rfl⟩ := h
      rw [cut_at]
      simp [cut]
    · exact absurd h.2.2 (hw c r rfl)
    · rw [dead c r o st s (by rw [h.1]; rcases hst with rfl | rfl <;> rfl)]
      unfold wholeS
      rw [cut_by r (show c ≠ 101 by omega)]
      simp only
      rw [cut_by _ (show c ≠ 46 by omega)]
      simp only [List.all_cons, h.2.1, Bool.false_and, true_or, if_true, ite_self]
end Go.Proofs.YtehplfmnipadmacDoor.M
