import Derived.Test.YtjffpclidcloeaaGreatDoorrBC
namespace Go.Proofs.YtjffpclidcloeaaGreatDoor.M
set_option linter.unusedVariables false
set_option maxRecDepth 100000
def dec (bs : List Nat) : Nat := bs.foldl (fun v c => v * 10 + (c - 48)) 0

theorem dec_snoc (bs : List Nat) (c : Nat) : dec (bs ++ [c]) = dec bs * 10 + (c - 48) := by simp [dec]

theorem dec_from (bs : List Nat) : ∀ v : Nat, bs.foldl (fun v c => v * 10 + (c - 48)) v = v * 10 ^ bs.length + dec bs := by
 induction bs with
 | nil => intro v; simp [dec]
 | cons c bs ih =>
   intro v
   have e : dec (c :: bs) = (c - 48) * 10 ^ bs.length + dec bs := by
    have h := ih (0 * 10 + (c - 48))
    rw [Nat.zero_mul, Nat.zero_add] at h
    unfold dec at h ⊢
    rw [List.foldl_cons, Nat.zero_mul, Nat.zero_add]
    exact h
   rw [List.foldl_cons, ih, e, List.length_cons, Nat.pow_succ, Nat.add_mul, Nat.mul_assoc, Nat.mul_comm 10]
   omega

theorem dec_cons (c : Nat) (bs : List Nat) : dec (c :: bs) = (c - 48) * 10 ^ bs.length + dec bs := by
 have := dec_from bs (0 * 10 + (c - 48))
 rw [Nat.zero_mul, Nat.zero_add] at this
 unfold dec at this ⊢
 rw [List.foldl_cons, Nat.zero_mul, Nat.zero_add]
 exact this

theorem dec_append (xs ys : List Nat) : dec (xs ++ ys) = dec xs * 10 ^ ys.length + dec ys := by
 have := dec_from ys (dec xs)
 rw [← this]
 unfold dec
 rw [List.foldl_append]

def Dig (bs : List Nat) : Prop := ∀ c ∈ bs, 48 ≤ c ∧ c ≤ 57

theorem Dig.get {bs : List Nat} (h : Dig bs) (i : Nat) (hi : i < bs.length) : 48 ≤ bs.getD i 0 ∧ bs.getD i 0 ≤ 57 := by
 rw [List.getD_eq_getElem?_getD, List.getElem?_eq_getElem hi]
 exact h _ (List.getElem_mem hi)

theorem dec_lt (bs : List Nat) (h : Dig bs) : dec bs < 10 ^ bs.length := by
 induction bs with
 | nil => simp [dec]
 | cons c bs ih =>
   have h1 := ih (fun x hx => h x (List.mem_cons_of_mem _ hx))
   have h2 := h c (by simp)
   rw [dec_cons, List.length_cons, Nat.pow_succ]
   have h3 : (c - 48) * 10 ^ bs.length ≤ 9 * 10 ^ bs.length := Nat.mul_le_mul_right _ (by omega)
   omega

theorem dec_seg_succ (bs : List Nat) (i t : Nat) (h : i + t < bs.length) : dec (seg bs i (t + 1)) = dec (seg bs i t) * 10 + (bs.getD (i + t) 0 - 48) := by
 have e : seg bs i (t + 1) = seg bs i t ++ [bs.getD (i + t) 0] := by
  unfold seg
  rw [take_succ _ _ (by simp; omega)]
  congr 2
  simp [List.getD_eq_getElem?_getD]
 rw [e, dec_snoc]

theorem dec_take_add (bs : List Nat) (i t : Nat) (h : i + t ≤ bs.length) : dec (bs.take (i + t)) = dec (bs.take i) * 10 ^ t + dec (seg bs i t) := by
 have e : bs.take (i + t) = bs.take i ++ seg bs i t := by unfold seg; rw [List.take_add]
 rw [e, dec_append, seg_length _ _ _ h]

theorem Dig.seg {bs : List Nat} (h : Dig bs) (i t : Nat) : Dig (seg bs i t) := fun c hc => h c (List.mem_of_mem_drop (List.mem_of_mem_take hc))

def low (c : Nat) : Nat := if 65 ≤ c ∧ c ≤ 90 then c + 32 else c

def dgt (c : Nat) : Bool := decide (48 ≤ c ∧ c ≤ 57)

def cut (k : Nat) : List Nat → List Nat × List Nat × Bool
 | [] => ([], [], false)
 | x :: r => if x = k then ([], r, true) else (x :: (cut k r).1, (cut k r).2.1, (cut k r).2.2)

def signed : List Nat → List Nat × Bool
 | [] => ([], false)
 | x :: r => if x = 43 ∨ x = 45 then (r, decide (x = 45)) else (x :: r, false)

def expF (x : Nat) (l : List Nat) : Nat := l.foldl (fun e c => min (e * 10 + (c - 48)) 1000000) x

def trimL (l : List Nat) : List Nat := l.dropWhile (fun c => decide (c = 48))

def trimR (l : List Nat) : List Nat := (l.reverse.dropWhile (fun c => decide (c = 48))).reverse

def bareD (l : List Nat) : List Nat := trimR (trimL l)

def bareE (l : List Nat) (e : Int) : Int := if bareD l = [] then 0 else e + (trimL l).length - (bareD l).length

structure Dec where
 kind : Int
 neg : Bool
 digits : List Nat
 exp : Int

def wInf : List Nat := [105, 110, 102]

def wInfinity : List Nat := [105, 110, 102, 105, 110, 105, 116, 121]

def wNan : List Nat := [110, 97, 110]

def powr (c : List Nat × List Nat × Bool) : Option (Bool × Nat) :=
 if c.2.2 then (if (signed c.2.1).1 = [] ∨ (signed c.2.1).1.all dgt = false then none else some ((signed c.2.1).2, expF 0 (signed c.2.1).1)) else some (false, 0)

def decOf (n : Bool) (l : List Nat) (b : Nat) (x : Bool × Nat) : Dec := ⟨1, n, bareD l, bareE l ((if x.1 then -(x.2 : Int) else x.2) - b)⟩

def numb (n : Bool) (v : List Nat) : Option Dec :=
 if (cut 46 (cut 101 v).1).1.all dgt = false ∨ (cut 46 (cut 101 v).1).2.1.all dgt = false ∨ (cut 46 (cut 101 v).1).1.length + (cut 46 (cut 101 v).1).2.1.length = 0 then none
 else (powr (cut 101 v)).map (decOf n ((cut 46 (cut 101 v).1).1 ++ (cut 46 (cut 101 v).1).2.1) (cut 46 (cut 101 v).1).2.1.length)

def body (n : Bool) (v : List Nat) : Option Dec :=
 if v = wInf ∨ v = wInfinity then some ⟨2, n, [], 0⟩ else if v = wNan then some ⟨3, false, [], 0⟩ else numb n v

def whole (t : List Nat) : Option Dec := body (signed (t.map low)).2 (signed (t.map low)).1

def ends : List (List Nat) := [[], [48], [105, 110, 102], [110, 102], [102], [110, 97, 110], [97, 110], [110], [105, 110, 105, 116, 121], [110, 105, 116, 121], [105, 116, 121], [116, 121], [121]]

def begins (t : List Nat) : Bool := ends.any fun s => (whole (t ++ s)).isSome

def along (t : List Nat) : Nat → Nat
 | 0 => 0
 | n + 1 => if begins (t.take (n + 1)) then n + 1 else along t n

def scanD (t : List Nat) : Dec ⊕ Nat := match whole t with
 | some d => .inl d
 | none => .inr (along t t.length)

def sortOf (c : Nat) : Nat :=
 if 48 ≤ low c ∧ low c ≤ 57 then 1 else if low c = 43 ∨ low c = 45 then 2 else if low c = 46 then 3 else if low c = 101 then 4 else if low c = 105 ∨ low c = 110 then 5 else 0

def next (st so : Nat) : Nat := match st, so with
 | 1, 1 => 3 | 1, 2 => 2 | 1, 3 => 4 | 1, 5 => 10
 | 2, 1 => 3 | 2, 3 => 4 | 2, 5 => 10
 | 3, 1 => 3 | 3, 3 => 5 | 3, 4 => 7
 | 4, 1 => 6
 | 5, 1 => 6 | 5, 4 => 7
 | 6, 1 => 6 | 6, 4 => 7
 | 7, 1 => 9 | 7, 2 => 8
 | 8, 1 => 9
 | 9, 1 => 9
 | _, _ => 0

structure Sn where
 neg : Bool
 digits : List Nat
 behind : Nat
 expNeg : Bool
 exponent : Nat

def take (st c : Nat) (s : Sn) : Sn :=
 if st = 2 then { s with neg := decide (c = 45) } else if st = 6 then { s with behind := s.behind + 1, digits := s.digits ++ [c] }
 else if st = 3 then { s with digits := s.digits ++ [c] } else if st = 8 then { s with expNeg := decide (c = 45) }
 else if st = 9 then { s with exponent := min (s.exponent * 10 + (c - 48)) 1000000 } else s

inductive Out where
 | stuck (o : Nat)
 | word (b : Nat) (n : Bool)
 | fin (st : Nat) (s : Sn)

def walk : List Nat → Nat → Nat → Sn → Out
 | [], _, st, s => .fin st s
 | c :: r, o, st, s => if next st (sortOf c) = 0 then .stuck o else if next st (sortOf c) = 10 then .word o s.neg else walk r (o + 1) (next st (sortOf c)) (take (next st (sortOf c)) c s)

def common : List Nat → List Nat → Nat
 | c :: r, x :: y => if low c = x then common r y + 1 else 0
 | _, _ => 0

def good (st : Nat) : Bool := decide (st = 3 ∨ st = 5 ∨ st = 6 ∨ st = 9)

def Sn.dec (s : Sn) : Dec := decOf s.neg s.digits s.behind (s.expNeg, s.exponent)

def scanWord (v : List Nat) (b : Nat) (n : Bool) : Dec ⊕ Nat :=
 if v.map low = wInf then .inl ⟨2, n, [], 0⟩ else if v.map low = wInfinity then .inl ⟨2, n, [], 0⟩ else if v.map low = wNan then .inl ⟨3, false, [], 0⟩
 else .inr (b + max (max (max 0 (common v wInf)) (common v wInfinity)) (common v wNan))

def Out.scan (t : List Nat) : Out → Dec ⊕ Nat
 | .stuck o => .inr o
 | .word b n => scanWord (t.drop b) b n
 | .fin st s => if good st then .inl s.dec else .inr t.length

def scanI (t : List Nat) : Dec ⊕ Nat := (walk t 0 1 ⟨false, [], 0, false, 0⟩).scan t

def Out.acc : Out → Option Sn
 | .fin st s => if good st then some s else none
 | _ => none

theorem low_low (c : Nat) : low (low c) = low c := by
 unfold low
 by_cases h : 65 ≤ c ∧ c ≤ 90
 · rw [if_pos h, if_neg (by omega)]
 · rw [if_neg h, if_neg h]

theorem sort_low (c : Nat) : sortOf (low c) = sortOf c := by unfold sortOf; rw [low_low]

theorem dgt_iff (c : Nat) : dgt c = true ↔ (48 ≤ c ∧ c ≤ 57) := by simp [dgt]

theorem dgt_no (c : Nat) (h : c < 48 ∨ 57 < c) : dgt c = false := by
 cases e : dgt c with
 | false => rfl
 | true => rw [dgt_iff] at e; omega

theorem sort_cases (c : Nat) (hl : low c = c) : (sortOf c = 1 ∧ dgt c = true ∧ 48 ≤ c ∧ c ≤ 57) ∨ (sortOf c = 2 ∧ dgt c = false ∧ (c = 43 ∨ c = 45)) ∨ (sortOf c = 3 ∧ dgt c = false ∧ c = 46) ∨ (sortOf c = 4 ∧ dgt c = false ∧ c = 101) ∨
 (sortOf c = 5 ∧ dgt c = false ∧ (c = 105 ∨ c = 110)) ∨ (sortOf c = 0 ∧ dgt c = false ∧ c ≠ 43 ∧ c ≠ 45 ∧ c ≠ 46 ∧ c ≠ 101 ∧ c ≠ 105 ∧ c ≠ 110) := by
 unfold sortOf
 rw [hl]
 by_cases h1 : 48 ≤ c ∧ c ≤ 57
 · exact .inl ⟨if_pos h1, (dgt_iff c).2 h1, h1⟩
 · have hd := dgt_no c (by omega)
   rw [if_neg h1]
   by_cases h2 : c = 43 ∨ c = 45
   · exact .inr (.inl ⟨if_pos h2, hd, h2⟩)
   · rw [if_neg h2]
     by_cases h3 : c = 46
     · exact .inr (.inr (.inl ⟨if_pos h3, hd, h3⟩))
     · rw [if_neg h3]
       by_cases h4 : c = 101
       · exact .inr (.inr (.inr (.inl ⟨if_pos h4, hd, h4⟩)))
       · rw [if_neg h4]
         by_cases h5 : c = 105 ∨ c = 110
         · exact .inr (.inr (.inr (.inr (.inl ⟨if_pos h5, hd, h5⟩))))
         · exact .inr (.inr (.inr (.inr (.inr ⟨if_neg h5, hd, by omega, by omega, by omega, by omega, by omega, by omega⟩))))

theorem dead (c : Nat) (r : List Nat) (o st : Nat) (s : Sn) (h : next st (sortOf c) = 0) : (walk (c :: r) o st s).acc = none := by rw [walk, if_pos h]; rfl

theorem step {c st st' : Nat} (r : List Nat) (o : Nat) (s : Sn) (h : next st (sortOf c) = st') (h0 : st' ≠ 0) (h1 : st' ≠ 10) : walk (c :: r) o st s = walk r (o + 1) st' (take st' c s) := by
 rw [walk, h, if_neg h0, if_neg h1]

def Low (v : List Nat) : Prop := ∀ c ∈ v, low c = c

theorem Low.tail {c : Nat} {r : List Nat} (h : Low (c :: r)) : Low r := fun x hx => h x (List.mem_cons_of_mem _ hx)

theorem Low.head {c : Nat} {r : List Nat} (h : Low (c :: r)) : low c = c := h c List.mem_cons_self

theorem acc9 (v : List Nat) : ∀ (hv : Low v) (o : Nat) (s : Sn), (walk v o 9 s).acc = if v.all dgt = false then none else some { s with exponent := expF s.exponent v } := by
 induction v with
 | nil => intro _ o s; rfl
 | cons c r ih =>
   intro hv o s
   rcases sort_cases c hv.head with h | h | h | h | h | h
   · rw [step r o s (st' := 9) (by rw [h.1]; rfl) (by decide) (by decide), ih hv.tail, List.all_cons, h.2.1, Bool.true_and]
     rfl
   all_goals
    rw [dead c r o 9 s (by rw [h.1]; rfl), List.all_cons, h.2.1, Bool.false_and, if_pos rfl]

theorem acc8 (v : List Nat) (hv : Low v) (o : Nat) (s : Sn) : (walk v o 8 s).acc = if v = [] ∨ v.all dgt = false then none else some { s with exponent := expF s.exponent v } := by
 cases v with
 | nil => rfl
 | cons c r =>
   rcases sort_cases c hv.head with h | h | h | h | h | h
   · rw [step r o s (st' := 9) (by rw [h.1]; rfl) (by decide) (by decide), acc9 r hv.tail, List.all_cons, h.2.1, Bool.true_and]
     by_cases k : r.all dgt = false
     · rw [if_pos k, if_pos (.inr k)]
     · rw [if_neg k, if_neg (fun x => x.elim (fun y => by simp at y) k)]; rfl
   all_goals
    rw [dead c r o 8 s (by rw [h.1]; rfl), List.all_cons, h.2.1, Bool.false_and, if_pos (.inr rfl)]

theorem signed_yes {c : Nat} (r : List Nat) (h : c = 43 ∨ c = 45) : signed (c :: r) = (r, decide (c = 45)) := by rw [signed, if_pos h]

theorem signed_no {c : Nat} (r : List Nat) (h : ¬ (c = 43 ∨ c = 45)) : signed (c :: r) = (c :: r, false) := by rw [signed, if_neg h]

theorem powr_yes (a v : List Nat) : powr (a, v, true) = if (signed v).1 = [] ∨ (signed v).1.all dgt = false then none else some ((signed v).2, expF 0 (signed v).1) := by
 unfold powr; rw [if_pos rfl]

theorem acc7 (v : List Nat) (hv : Low v) (o : Nat) (s : Sn) (h1 : s.expNeg = false) (h2 : s.exponent = 0) (a : List Nat) :
 (walk v o 7 s).acc = (powr (a, v, true)).map fun x => { s with expNeg := x.1, exponent := x.2 } := by
 rw [powr_yes]
 cases v with
 | nil => rfl
 | cons c r =>
   rcases sort_cases c hv.head with h | h | h | h | h | h
   · rw [step r o s (st' := 9) (by rw [h.1]; rfl) (by decide) (by decide), acc9 r hv.tail, signed_no r (by omega), List.all_cons, h.2.1, Bool.true_and]
     by_cases k : r.all dgt = false
     · rw [if_pos k, if_pos (.inr k)]; rfl
     · rw [if_neg k, if_neg (fun x => x.elim (fun y => by simp at y) k)]
       obtain ⟨s1, s2, s3, s4, s5⟩ := s
       simp only at h1 h2
       subst h1 h2
       rfl
   · rw [step r o s (st' := 8) (by rw [h.1]; rfl) (by decide) (by decide), acc8 r hv.tail, signed_yes r h.2.2]
     by_cases k : r = [] ∨ r.all dgt = false
     · rw [if_pos k, if_pos k]; rfl
     · rw [if_neg k, if_neg k]
       obtain ⟨s1, s2, s3, s4, s5⟩ := s
       simp only at h1 h2
       subst h1 h2
       rfl
   all_goals
    rw [dead c r o 7 s (by rw [h.1]; rfl), signed_no r (by omega), List.all_cons, h.2.1, Bool.false_and, if_pos (.inr rfl)]
    rfl

theorem cut_at (k : Nat) (r : List Nat) : cut k (k :: r) = ([], r, true) := by rw [cut, if_pos rfl]

theorem cut_by {k c : Nat} (r : List Nat) (h : c ≠ k) : cut k (c :: r) = (c :: (cut k r).1, (cut k r).2.1, (cut k r).2.2) := by rw [cut, if_neg h]

def fracS (s : Sn) (v : List Nat) : Option Sn :=
 if (cut 101 v).1.all dgt = false then none else (powr (cut 101 v)).map fun x => ⟨s.neg, s.digits ++ (cut 101 v).1, s.behind + (cut 101 v).1.length, x.1, x.2⟩

theorem acc6 (v : List Nat) : ∀ (hv : Low v) (o : Nat) (s : Sn) (h1 : s.expNeg = false) (h2 : s.exponent = 0), (walk v o 6 s).acc = fracS s v := by
 induction v with
 | nil =>
   intro _ o s h1 h2
   obtain ⟨s1, s2, s3, s4, s5⟩ := s
   simp only at h1 h2
   subst h1 h2
   simp [walk, Out.acc, good, fracS, cut, powr]
 | cons c r ih =>
   intro hv o s h1 h2
   rcases sort_cases c hv.head with h | h | h | h | h | h
   · rw [step r o s (st' := 6) (by rw [h.1]; rfl) (by decide) (by decide), ih hv.tail _ (take 6 c s) h1 h2]
     unfold fracS
     rw [cut_by r (by omega)]
     simp only [List.all_cons, h.2.1, Bool.true_and]
     by_cases k : (cut 101 r).1.all dgt = false
     · rw [if_pos k, if_pos k]
     · rw [if_neg k, if_neg k]
       refine congrArg (fun f => Option.map f (powr (cut 101 r))) (funext fun x => ?_)
       simp [take, Nat.add_comm 1, Nat.add_assoc]
   · rw [dead c r o 6 s (by rw [h.1]; rfl)]
     unfold fracS
     rw [cut_by r (by omega)]
     simp only [List.all_cons, h.2.1, Bool.false_and, if_true]
   · rw [dead c r o 6 s (by rw [h.1]; rfl)]
     unfold fracS
     rw [cut_by r (by omega)]
     simp only [List.all_cons, h.2.1, Bool.false_and, if_true]
   · rw [step r o s (st' := 7) (by rw [h.1]; rfl) (by decide) (by decide), acc7 r hv.tail _ (take 7 c s) h1 h2 []]
     obtain ⟨_, _, rfl⟩ := h
     unfold fracS
     rw [cut_at]
     simp [take]
   all_goals
    rw [dead c r o 6 s (by rw [h.1]; rfl)]
    unfold fracS
    rw [cut_by r (by omega)]
    simp only [List.all_cons, h.2.1, Bool.false_and, if_true]

theorem acc5 (v : List Nat) (hv : Low v) (o : Nat) (s : Sn) (h1 : s.expNeg = false) (h2 : s.exponent = 0) : (walk v o 5 s).acc = fracS s v := by
 rw [← acc6 v hv o s h1 h2]
 cases v with
 | nil => rfl
 | cons c r =>
   rw [walk, walk]
   rcases sort_cases c hv.head with h | h | h | h | h | h <;> rw [h.1] <;> rfl

theorem acc4 (v : List Nat) (hv : Low v) (o : Nat) (s : Sn) (h1 : s.expNeg = false) (h2 : s.exponent = 0) : (walk v o 4 s).acc = if (cut 101 v).1 = [] then none else fracS s v := by
 cases v with
 | nil => rfl
 | cons c r =>
   rw [← acc6 _ hv o s h1 h2]
   rcases sort_cases c hv.head with h | h | h | h | h | h
   · rw [cut_by r (by omega), if_neg (by simp), walk, walk, h.1]; rfl
   · rw [cut_by r (by omega), if_neg (by simp), walk, walk, h.1]; rfl
   · rw [cut_by r (by omega), if_neg (by simp), walk, walk, h.1]; rfl
   · rw [h.2.2, cut_at, if_pos rfl]; exact dead _ r o 4 s (by rfl)
   all_goals rw [cut_by r (by omega), if_neg (by simp), walk, walk, h.1]; rfl

def wholeS (s : Sn) (v : List Nat) : Option Sn :=
 if (cut 46 (cut 101 v).1).1.all dgt = false ∨ (cut 46 (cut 101 v).1).2.1.all dgt = false then none
 else (powr (cut 101 v)).map fun x => ⟨s.neg, s.digits ++ ((cut 46 (cut 101 v).1).1 ++ (cut 46 (cut 101 v).1).2.1), s.behind + (cut 46 (cut 101 v).1).2.1.length, x.1, x.2⟩

theorem acc3 (v : List Nat) : ∀ (hv : Low v) (o : Nat) (s : Sn) (h1 : s.expNeg = false) (h2 : s.exponent = 0), (walk v o 3 s).acc = wholeS s v := by
 induction v with
 | nil =>
   intro _ o s h1 h2
   obtain ⟨s1, s2, s3, s4, s5⟩ := s
   simp only at h1 h2
   subst h1 h2
   simp [walk, Out.acc, good, wholeS, cut, powr]
 | cons c r ih =>
   intro hv o s h1 h2
   rcases sort_cases c hv.head with h | h | h | h | h | h
   · rw [step r o s (st' := 3) (by rw [h.1]; rfl) (by decide) (by decide), ih hv.tail _ (take 3 c s) h1 h2]
     unfold wholeS
     rw [cut_by r (show c ≠ 101 by omega)]
     simp only
     rw [cut_by _ (show c ≠ 46 by omega)]
     simp only [List.all_cons, h.2.1, Bool.true_and]
     by_cases k : (cut 46 (cut 101 r).1).1.all dgt = false ∨ (cut 46 (cut 101 r).1).2.1.all dgt = false
     · rw [if_pos k, if_pos k]
     · rw [if_neg k, if_neg k]
       refine congrArg (fun f => Option.map f (powr (cut 101 r))) (funext fun x => ?_)
       simp [take]
   · rw [dead c r o 3 s (by rw [h.1]; rfl)]
     unfold wholeS
     rw [cut_by r (show c ≠ 101 by omega)]
     simp only
     rw [cut_by _ (show c ≠ 46 by omega)]
     simp only [List.all_cons, h.2.1, Bool.false_and, true_or, if_true]
   · rw [step r o s (st' := 5) (by rw [h.1]; rfl) (by decide) (by decide), acc5 r hv.tail _ (take 5 c s) h1 h2]
     obtain ⟨_, _, rfl⟩ := h
     unfold wholeS fracS
     rw [cut_by r (show 46 ≠ 101 by omega)]
     simp only
     rw [cut_at]
     simp only [List.all_nil, List.nil_append]
     cases k : (cut 101 r).1.all dgt
     · simp
     · simp only [Bool.true_eq_false, or_self, if_false]; rfl
   · rw [step r o s (st' := 7) (by rw [h.1]; rfl) (by decide) (by decide), acc7 r hv.tail _ (take 7 c s) h1 h2 []]
     obtain ⟨_, _, rfl⟩ := h
     unfold wholeS
     rw [cut_at]
     simp [take, cut]
   all_goals
    rw [dead c r o 3 s (by rw [h.1]; rfl)]
    unfold wholeS
    rw [cut_by r (show c ≠ 101 by omega)]
    simp only
    rw [cut_by _ (show c ≠ 46 by omega)]
    simp only [List.all_cons, h.2.1, Bool.false_and, true_or, if_true]

theorem acc2 (v : List Nat) (hv : Low v) (o st : Nat) (hst : st = 1 ∨ st = 2) (s : Sn) (h1 : s.expNeg = false) (h2 : s.exponent = 0) (hs : st = 1 → ∀ c r, v = c :: r → ¬ (c = 43 ∨ c = 45)) (hw : ∀ c r, v = c :: r → ¬ (c = 105 ∨ c = 110)) :
 (walk v o st s).acc = if (cut 46 (cut 101 v).1).1.length + (cut 46 (cut 101 v).1).2.1.length = 0 then none else wholeS s v := by
 cases v with
 | nil => rcases hst with rfl | rfl <;> rfl
 | cons c r =>
   rcases sort_cases c hv.head with h | h | h | h | h | h
   · rw [← acc3 _ hv o s h1 h2, cut_by r (show c ≠ 101 by omega)]
     simp only
     rw [cut_by _ (show c ≠ 46 by omega), if_neg (by simp), step r o s (st := st) (st' := 3) (by rw [h.1]; rcases hst with rfl | rfl <;> rfl) (by decide) (by decide), step r o s (st := 3) (st' := 3) (by rw [h.1]; rfl) (by decide) (by decide)]
   · rcases hst with rfl | rfl
     · exact absurd h.2.2 (hs rfl c r rfl)
     · rw [dead c r o 2 s (by rw [h.1]; rfl)]
       unfold wholeS
       rw [cut_by r (show c ≠ 101 by omega)]
       simp only
       rw [cut_by _ (show c ≠ 46 by omega)]
       simp only [List.all_cons, h.2.1, Bool.false_and, true_or, if_true, ite_self]
   · rw [step r o s (st' := 4) (by rw [h.1]; rcases hst with rfl | rfl <;> rfl) (by decide) (by decide), acc4 r hv.tail _ (take 4 c s) h1 h2]
     obtain ⟨_, _, rfl⟩ := h
     unfold wholeS fracS
     rw [cut_by r (show 46 ≠ 101 by omega)]
     simp only
     rw [cut_at]
     simp only [List.all_nil, List.nil_append, List.length_nil, Nat.zero_add, List.length_eq_zero_iff]
     by_cases k0 : (cut 101 r).1 = []
     · rw [if_pos k0, if_pos k0]
     · rw [if_neg k0, if_neg k0]
       cases k : (cut 101 r).1.all dgt
       · simp
       · simp only [Bool.true_eq_false, or_self, if_false]; rfl
   · rw [dead c r o st s (by rw [h.1]; rcases hst with rfl | rfl <;> rfl)]
     obtain ⟨_, _, rfl⟩ := h
     rw [cut_at]
     simp [cut]
   · exact absurd h.2.2 (hw c r rfl)
   · rw [dead c r o st s (by rw [h.1]; rcases hst with rfl | rfl <;> rfl)]
     unfold wholeS
     rw [cut_by r (show c ≠ 101 by omega)]
     simp only
     rw [cut_by _ (show c ≠ 46 by omega)]
     simp only [List.all_cons, h.2.1, Bool.false_and, true_or, if_true, ite_self]

def okOf : Dec ⊕ Nat → Option Dec
 | .inl d => some d
 | .inr _ => none

abbrev s0 (n : Bool) : Sn := ⟨n, [], 0, false, 0⟩

theorem next4 (st : Nat) : next st 4 = 0 ∨ next st 4 = 7 := by unfold next; split <;> first | omega | exact .inl rfl | exact .inr rfl

theorem next5 (st : Nat) : next st 5 = 0 ∨ next st 5 = 10 := by unfold next; split <;> first | omega | exact .inl rfl | exact .inr rfl

theorem next0 (st : Nat) : next st 0 = 0 := by unfold next; split <;> first | omega | rfl

theorem next_ge (st so : Nat) (h : 3 ≤ st) : next st so = 0 ∨ (3 ≤ next st so ∧ next st so ≠ 10) := by unfold next; split <;> omega

theorem next_le (st so : Nat) : next st so ≤ 10 := by unfold next; split <;> omega

theorem sort_up {c : Nat} (h : low c ≠ c) : sortOf c = 0 ∨ sortOf c = 4 ∨ sortOf c = 5 := by
 have hl : 65 ≤ c ∧ c ≤ 90 := by
  unfold low at h
  by_cases k : 65 ≤ c ∧ c ≤ 90
  · exact k
  · rw [if_neg k] at h; exact absurd rfl h
 have e : low c = c + 32 := by unfold low; rw [if_pos hl]
 unfold sortOf
 rw [e, if_neg (by omega), if_neg (by omega), if_neg (by omega)]
 split
 · exact .inr (.inl rfl)
 · split
   · exact .inr (.inr rfl)
   · exact .inl rfl

theorem take_low (st c : Nat) (s : Sn) : take (next st (sortOf c)) (low c) s = take (next st (sortOf c)) c s := by
 by_cases h : low c = c
 · rw [h]
 · rcases sort_up h with k | k | k
   · rw [k, next0]; rfl
   · rw [k]
     rcases next4 st with e | e <;> rw [e] <;> rfl
   · rw [k]
     rcases next5 st with e | e <;> rw [e] <;> rfl

theorem walk_low (t : List Nat) : ∀ (o st : Nat) (s : Sn), walk (t.map low) o st s = walk t o st s := by
 induction t with
 | nil => intro o st s; rfl
 | cons c r ih => intro o st s; rw [List.map_cons, walk, walk, sort_low, take_low, ih]

theorem Low_map (t : List Nat) : Low (t.map low) := by
 intro c hc
 obtain ⟨x, _, rfl⟩ := List.mem_map.1 hc
 exact low_low x

theorem map_of_Low {v : List Nat} (h : Low v) : v.map low = v := by
 induction v with
 | nil => rfl
 | cons c r ih => rw [List.map_cons, h.head, ih h.tail]

theorem noword (v : List Nat) : ∀ (o st : Nat) (s : Sn), 3 ≤ st → ∀ b n, walk v o st s ≠ .word b n := by
 induction v with
 | nil => intro o st s _ b n h; cases h
 | cons c r ih =>
   intro o st s hst b n h
   rw [walk] at h
   rcases next_ge st (sortOf c) hst with k | k
   · rw [if_pos k] at h; cases h
   · rw [if_neg (by omega), if_neg k.2] at h
     exact ih _ _ _ k.1 b n h

theorem ok_acc {out : Out} (T : List Nat) (h : ∀ b n, out ≠ .word b n) : okOf (out.scan T) = out.acc.map Sn.dec := by
 cases out with
 | stuck o => rfl
 | word b n => exact absurd rfl (h b n)
 | fin st s => simp only [Out.scan, Out.acc]; split <;> rfl

theorem numb_word (n : Bool) (c : Nat) (r : List Nat) (h : c = 105 ∨ c = 110) : numb n (c :: r) = none := by
 unfold numb
 rw [cut_by r (show c ≠ 101 by omega)]
 simp only
 rw [cut_by _ (show c ≠ 46 by omega), if_pos (.inl (by rw [List.all_cons, dgt_no c (by omega), Bool.false_and]))]

theorem sort5 {c : Nat} (h : low c = 105 ∨ low c = 110) : sortOf c = 5 := by
 rw [← sort_low]
 have := sort_cases (low c) (low_low c)
 omega

theorem sort5' {c : Nat} (h : sortOf c = 5) : low c = 105 ∨ low c = 110 := by
 rw [← sort_low] at h
 have := sort_cases (low c) (low_low c)
 omega

theorem sort2' {c : Nat} (h : sortOf c = 2) : low c = 43 ∨ low c = 45 := by
 rw [← sort_low] at h
 have := sort_cases (low c) (low_low c)
 omega

theorem ok_body (v : List Nat) (hv : Low v) (o st : Nat) (n : Bool) (hst : st = 1 ∨ st = 2) (hs : st = 1 → ∀ c r, v = c :: r → ¬ (c = 43 ∨ c = 45)) (T : List Nat) (hT : (T.drop o).map low = v) :
 okOf ((walk v o st (s0 n)).scan T) = body n v := by
 by_cases hw : ∃ c r, v = c :: r ∧ (c = 105 ∨ c = 110)
 · obtain ⟨c, r, rfl, hc⟩ := hw
   have h5 : sortOf c = 5 := sort5 (by rw [hv.head]; exact hc)
   rw [walk, h5, show next st 5 = 10 by rcases hst with rfl | rfl <;> rfl, if_neg (by decide), if_pos rfl]
   show okOf (scanWord (T.drop o) o n) = _
   unfold scanWord body
   rw [hT]
   by_cases k1 : c :: r = wInf
   · rw [if_pos k1, if_pos (.inl k1)]; rfl
   · rw [if_neg k1]
     by_cases k2 : c :: r = wInfinity
     · rw [if_pos k2, if_pos (.inr k2)]; rfl
     · rw [if_neg k2, if_neg (not_or.2 ⟨k1, k2⟩)]
       by_cases k3 : c :: r = wNan
       · rw [if_pos k3, if_pos k3]; rfl
       · rw [if_neg k3, if_neg k3, numb_word n c r hc]; rfl
 · have hw' : ∀ c r, v = c :: r → ¬ (c = 105 ∨ c = 110) := fun c r e k => hw ⟨c, r, e, k⟩
   have nw : ∀ b m, walk v o st (s0 n) ≠ .word b m := by
    cases v with
    | nil => intro b m h; cases h
    | cons c r =>
      intro b m h
      rw [walk] at h
      have hn5 : sortOf c ≠ 5 := fun h5 => by have := sort5' h5; rw [hv.head] at this; exact hw' c r rfl this
      by_cases k : next st (sortOf c) = 0
      · rw [if_pos k] at h; cases h
      · rw [if_neg k] at h
        have h10 : next st (sortOf c) ≠ 10 := by
         have := sort_cases c hv.head
         rcases hst with rfl | rfl <;> rcases this with e | e | e | e | e | e <;> first | (rw [e.1]; decide) | exact absurd e.1 hn5
        rw [if_neg h10] at h
        by_cases k2 : sortOf c = 2
        · rcases hst with rfl | rfl
          · have := sort2' k2
            rw [hv.head] at this
            exact hs rfl c r rfl this
          · rw [k2] at k; exact k rfl
        · refine noword r _ _ _ ?_ b m h
          have := sort_cases c hv.head
          rcases hst with rfl | rfl <;> rcases this with e | e | e | e | e | e <;> first | (rw [e.1]; decide) | exact absurd e.1 hn5 | exact absurd e.1 k2 | (rw [e.1] at k; exact absurd rfl k)
   rw [ok_acc T nw, acc2 v hv o st hst (s0 n) rfl rfl hs hw']
   have w1 : v ≠ wInf := fun e => hw' _ _ e (by decide)
   have w2 : v ≠ wInfinity := fun e => hw' _ _ e (by decide)
   have w3 : v ≠ wNan := fun e => hw' _ _ e (by decide)
   unfold body numb
   rw [if_neg (not_or.2 ⟨w1, w2⟩), if_neg w3]
   by_cases k : (cut 46 (cut 101 v).1).1.length + (cut 46 (cut 101 v).1).2.1.length = 0
   · rw [if_pos k, if_pos (.inr (.inr k))]; rfl
   · rw [if_neg k]
     unfold wholeS
     by_cases k2 : (cut 46 (cut 101 v).1).1.all dgt = false ∨ (cut 46 (cut 101 v).1).2.1.all dgt = false
     · rw [if_pos k2, if_pos (by rcases k2 with a | a; exact .inl a; exact .inr (.inl a))]; rfl
     · rw [if_neg k2, if_neg (by intro x; rcases x with a | a | a; exact k2 (.inl a); exact k2 (.inr a); exact k a), Option.map_map]
       refine congrArg (fun f => Option.map f (powr (cut 101 v))) (funext fun x => ?_)
       simp [Sn.dec]

theorem scan_ok (t : List Nat) : okOf (scanI t) = whole t := by
 unfold scanI whole
 rw [← walk_low]
 have hl := Low_map t
 cases t with
 | nil => rfl
 | cons y r =>
   rw [List.map_cons] at hl ⊢
   by_cases h : low y = 43 ∨ low y = 45
   · have h2 : sortOf (low y) = 2 := by have := sort_cases (low y) (low_low y); omega
     rw [signed_yes _ h, step (st' := 2) _ _ _ (by rw [h2]; rfl) (by decide) (by decide)]
     exact ok_body (r.map low) hl.tail 1 2 (decide (low y = 45)) (.inr rfl) (fun e => by cases e) (y :: r) rfl
   · rw [signed_no _ h]
     exact ok_body (low y :: r.map low) hl 0 1 false (.inl rfl) (fun _ c r' e => by cases e; exact h) (y :: r) rfl

theorem along_is (t : List Nat) (k : Nat) (h0 : k = 0 ∨ begins (t.take k) = true) : ∀ N, k ≤ N → (∀ n, k < n → n ≤ N → begins (t.take n) = false) → along t N = k := by
 intro N
 induction N with
 | zero => intro h1 _; rw [along]; omega
 | succ N ih =>
   intro h1 h2
   rw [along]
   by_cases e : k = N + 1
   · subst e
     rcases h0 with h0 | h0
     · omega
     · rw [if_pos h0]
   · rw [if_neg (by rw [h2 (N + 1) (by omega) (Nat.le_refl _)]; decide)]
     exact ih (by omega) fun n a b => h2 n a (by omega)

theorem begins_iff (t : List Nat) : begins t = true ↔ ∃ e ∈ ends, ∃ d, whole (t ++ e) = some d := by
 unfold begins
 rw [List.any_eq_true]
 constructor
 · rintro ⟨e, he, h⟩; exact ⟨e, he, Option.isSome_iff_exists.1 h⟩
 · rintro ⟨e, he, h⟩; exact ⟨e, he, Option.isSome_iff_exists.2 h⟩

theorem walk_append (u : List Nat) : ∀ (v : List Nat) (o st : Nat) (s : Sn) (st' : Nat) (s' : Sn), walk u o st s = .fin st' s' → walk (u ++ v) o st s = walk v (o + u.length) st' s' := by
 induction u with
 | nil => intro v o st s st' s' h; cases h; rfl
 | cons c r ih =>
   intro v o st s st' s' h
   rw [walk] at h
   rw [List.cons_append, walk]
   by_cases k : next st (sortOf c) = 0
   · rw [if_pos k] at h; cases h
   · rw [if_neg k] at h ⊢
     by_cases k2 : next st (sortOf c) = 10
     · rw [if_pos k2] at h; cases h
     · rw [if_neg k2] at h ⊢
       rw [ih v _ _ _ _ _ h, List.length_cons]
       congr 1; omega

theorem fin_state (u : List Nat) : ∀ (o st : Nat) (s : Sn) (st' : Nat) (s' : Sn), walk u o st s = .fin st' s' → 1 ≤ st ∧ st ≤ 9 → 1 ≤ st' ∧ st' ≤ 9 := by
 induction u with
 | nil => intro o st s st' s' h hs; cases h; exact hs
 | cons c r ih =>
   intro o st s st' s' h hs
   rw [walk] at h
   by_cases k : next st (sortOf c) = 0
   · rw [if_pos k] at h; cases h
   · rw [if_neg k] at h
     by_cases k2 : next st (sortOf c) = 10
     · rw [if_pos k2] at h; cases h
     · rw [if_neg k2] at h
       have := next_le st (sortOf c)
       exact ih _ _ _ _ _ h ⟨by omega, by omega⟩

theorem stuck_at (t : List Nat) : ∀ (o st : Nat) (s : Sn) (k : Nat), walk t o st s = .stuck k → o ≤ k ∧ k < o + t.length ∧ (∃ st' s', walk (t.take (k - o)) o st s = .fin st' s') ∧ ∀ t', t'.take (k - o + 1) = t.take (k - o + 1) → walk t' o st s = .stuck k := by
 induction t with
 | nil => intro o st s k h; cases h
 | cons c r ih =>
   intro o st s k h
   rw [walk] at h
   by_cases e : next st (sortOf c) = 0
   · rw [if_pos e] at h
     cases h
     refine ⟨Nat.le_refl _, by simp, ?_, fun t' ht => ?_⟩
     · rw [Nat.sub_self]; exact ⟨st, s, rfl⟩
     · rw [Nat.sub_self] at ht
       cases t' with
       | nil => simp at ht
       | cons x y =>
         simp at ht
         rw [ht, walk, if_pos e]
   · rw [if_neg e] at h
     by_cases e2 : next st (sortOf c) = 10
     · rw [if_pos e2] at h; cases h
     · rw [if_neg e2] at h
       obtain ⟨a1, a2, ⟨st', s', a3⟩, a4⟩ := ih _ _ _ _ h
       have ek : k - o = (k - (o + 1)) + 1 := by omega
       refine ⟨by omega, by rw [List.length_cons]; omega, ⟨st', s', ?_⟩, fun t' ht => ?_⟩
       · rw [ek, List.take_succ_cons, walk, if_neg e, if_neg e2]; exact a3
       · cases t' with
         | nil => simp at ht
         | cons x y =>
           rw [ek] at ht
           simp only [List.take_succ_cons, List.cons.injEq] at ht
           obtain ⟨rfl, ht⟩ := ht
           rw [walk, if_neg e, if_neg e2]
           exact a4 y (by simpa using ht)

theorem finish (st : Nat) (h : 1 ≤ st ∧ st ≤ 9) (o : Nat) (s : Sn) : ∃ e ∈ ends, ∃ st' s', walk e o st s = .fin st' s' ∧ good st' = true := by
 rcases (show st = 1 ∨ st = 2 ∨ st = 3 ∨ st = 4 ∨ st = 5 ∨ st = 6 ∨ st = 7 ∨ st = 8 ∨ st = 9 by omega) with rfl | rfl | rfl | rfl | rfl | rfl | rfl | rfl | rfl
 · exact ⟨[48], by decide, 3, _, rfl, rfl⟩
 · exact ⟨[48], by decide, 3, _, rfl, rfl⟩
 · exact ⟨[], by decide, 3, _, rfl, rfl⟩
 · exact ⟨[48], by decide, 6, _, rfl, rfl⟩
 · exact ⟨[], by decide, 5, _, rfl, rfl⟩
 · exact ⟨[], by decide, 6, _, rfl, rfl⟩
 · exact ⟨[48], by decide, 9, _, rfl, rfl⟩
 · exact ⟨[48], by decide, 9, _, rfl, rfl⟩
 · exact ⟨[], by decide, 9, _, rfl, rfl⟩

theorem begins_of_fin (u : List Nat) (st' : Nat) (s' : Sn) (h : walk u 0 1 (s0 false) = .fin st' s') : begins u = true := by
 have hst := fin_state u _ _ _ _ _ h ⟨by omega, by omega⟩
 obtain ⟨e, he, st2, s2, hw, hg⟩ := finish st' hst (0 + u.length) s'
 rw [begins_iff]
 refine ⟨e, he, s2.dec, ?_⟩
 rw [← scan_ok]
 unfold scanI
 rw [walk_append u e _ _ _ _ _ h, hw]
 simp [Out.scan, hg, okOf]

theorem common_take (v : List Nat) : ∀ w, (v.take (common v w)).map low = w.take (common v w) ∧ common v w ≤ v.length ∧ common v w ≤ w.length := by
 induction v with
 | nil => intro w; simp [common]
 | cons c r ih =>
   intro w
   cases w with
   | nil => simp [common]
   | cons x y =>
     rw [common]
     split
     next h =>
      obtain ⟨a, b, c'⟩ := ih y
      rw [List.take_succ_cons, List.take_succ_cons, List.map_cons, a, h]
      exact ⟨rfl, by simpa using b, by simpa using c'⟩
     next h => simp

theorem common_ge (v : List Nat) : ∀ (w : List Nat) (k : Nat), (v.take k).map low = w.take k → k ≤ v.length → k ≤ w.length → k ≤ common v w := by
 induction v with
 | nil => intro w k _ h _; simp at h; omega
 | cons c r ih =>
   intro w k h h1 h2
   cases k with
   | zero => omega
   | succ k =>
     cases w with
     | nil => simp at h2
     | cons x y =>
       simp only [List.take_succ_cons, List.map_cons, List.cons.injEq] at h
       rw [common, if_pos h.1]
       have := ih y k h.2 (by simpa using h1) (by simpa using h2)
       omega

theorem body_word (n : Bool) (w : List Nat) (h : w = wInf ∨ w = wInfinity ∨ w = wNan) : ∃ d, body n w = some d := by
 rcases h with rfl | rfl | rfl
 · exact ⟨_, rfl⟩
 · exact ⟨_, rfl⟩
 · exact ⟨_, rfl⟩

theorem word_end (w : List Nat) (m : Nat) (hm : m ≤ w.length) (h : w = wInf ∨ (w = wInfinity ∧ 3 < m) ∨ w = wNan) : w.drop m ∈ ends := by
 have h8 : m < 9 := by rcases h with rfl | ⟨rfl, _⟩ | rfl <;> simp [wInf, wInfinity, wNan] at hm <;> omega
 have key : ∀ m, m < 9 → wInf.drop m ∈ ends ∧ (3 < m → wInfinity.drop m ∈ ends) ∧ wNan.drop m ∈ ends := by decide
 rcases h with rfl | ⟨rfl, h3⟩ | rfl
 · exact (key m h8).1
 · exact (key m h8).2.1 h3
 · exact (key m h8).2.2

theorem common_inf (v : List Nat) (h : common v wInfinity ≤ 3) : common v wInfinity ≤ common v wInf := by
 have c := common_take v wInfinity
 refine common_ge v wInf _ ?_ c.2.1 h
 rw [c.1]
 generalize common v wInfinity = k at h
 revert k
 decide

theorem body_is_word {n : Bool} {c : Nat} {r : List Nat} {d : Dec} (hc : c = 105 ∨ c = 110) (h : body n (c :: r) = some d) : c :: r = wInf ∨ c :: r = wInfinity ∨ c :: r = wNan := by
 unfold body at h
 by_cases k1 : c :: r = wInf ∨ c :: r = wInfinity
 · rcases k1 with k | k
   · exact .inl k
   · exact .inr (.inl k)
 · rw [if_neg k1] at h
   by_cases k2 : c :: r = wNan
   · exact .inr (.inr k2)
   · rw [if_neg k2, numb_word n c r hc] at h; cases h

theorem word_at (t : List Nat) (b : Nat) (n : Bool) (h : walk t 0 1 (s0 false) = .word b n) :
 ∃ sg c r, t = sg ++ c :: r ∧ sg.length = b ∧ sortOf c = 5 ∧ (sg = [] ∨ ∃ x, sg = [x] ∧ (low x = 43 ∨ low x = 45)) := by
 cases t with
 | nil => cases h
 | cons x r =>
   rw [walk] at h
   by_cases k : next 1 (sortOf x) = 0
   · rw [if_pos k] at h; cases h
   · rw [if_neg k] at h
     have hc := sort_cases (low x) (low_low x)
     rw [sort_low] at hc
     by_cases k2 : next 1 (sortOf x) = 10
     · rw [if_pos k2] at h
       cases h
       refine ⟨[], x, r, rfl, rfl, ?_, .inl rfl⟩
       rcases hc with e | e | e | e | e | e <;> first | exact e.1 | (rw [e.1] at k2; exact absurd k2 (by decide))
     · rw [if_neg k2] at h
       by_cases k3 : sortOf x = 2
       · rw [k3, show next 1 2 = 2 from rfl] at h
         cases r with
         | nil => cases h
         | cons y r =>
           rw [walk] at h
           have hy := sort_cases (low y) (low_low y)
           rw [sort_low] at hy
           by_cases j : next 2 (sortOf y) = 0
           · rw [if_pos j] at h; cases h
           · rw [if_neg j] at h
             by_cases j2 : next 2 (sortOf y) = 10
             · rw [if_pos j2] at h
               cases h
               refine ⟨[x], y, r, rfl, rfl, ?_, .inr ⟨x, rfl, sort2' k3⟩⟩
               rcases hy with e | e | e | e | e | e <;> first | exact e.1 | (rw [e.1] at j2; exact absurd j2 (by decide))
             · rw [if_neg j2] at h
               refine absurd h (noword r _ _ _ ?_ b n)
               rcases hy with e | e | e | e | e | e <;> first | (rw [e.1]; decide) | (rw [e.1] at j; exact absurd rfl j) | (rw [e.1] at j2; exact absurd rfl j2)
       · refine absurd h (noword r _ _ _ ?_ b n)
         rcases hc with e | e | e | e | e | e <;> first | (rw [e.1]; decide) | (rw [e.1] at k; exact absurd rfl k) | (rw [e.1] at k2; exact absurd rfl k2) | exact absurd e.1 k3

theorem whole_sg (sg v : List Nat) (c : Nat) (r : List Nat) (hv : v.map low = c :: r) (hc : c = 105 ∨ c = 110) (hs : sg = [] ∨ ∃ x, sg = [x] ∧ (low x = 43 ∨ low x = 45)) : ∃ n, whole (sg ++ v) = body n (v.map low) := by
 rcases hs with rfl | ⟨x, rfl, hx⟩
 · refine ⟨false, ?_⟩
   unfold whole
   rw [List.nil_append, hv, signed_no r (by omega)]
 · refine ⟨decide (low x = 45), ?_⟩
   unfold whole
   rw [List.singleton_append, List.map_cons, signed_yes _ hx]

theorem word_split {w : List Nat} (h : w = wInf ∨ w = wInfinity ∨ w = wNan) : ∃ c r, w = c :: r ∧ (c = 105 ∨ c = 110) := by
 rcases h with rfl | rfl | rfl
 · exact ⟨_, _, rfl, .inl rfl⟩
 · exact ⟨_, _, rfl, .inl rfl⟩
 · exact ⟨_, _, rfl, .inr rfl⟩

theorem scanWord_off (v : List Nat) (b : Nat) (n : Bool) (k : Nat) (h : scanWord v b n = .inr k) : k = b + max (max (max 0 (common v wInf)) (common v wInfinity)) (common v wNan) := by
 unfold scanWord at h
 split at h
 · cases h
 · split at h
   · cases h
   · split at h
     · cases h
     · exact (Sum.inr.inj h).symm

theorem word_off (t : List Nat) (b : Nat) (n : Bool) (h : walk t 0 1 (s0 false) = .word b n) (k : Nat) (hk : scanWord (t.drop b) b n = .inr k) :
 k ≤ t.length ∧ begins (t.take k) = true ∧ ∀ m, k < m → m ≤ t.length → begins (t.take m) = false := by
 obtain ⟨sg, c, r, rfl, rfl, h5, hs⟩ := word_at t b n h
 rw [List.drop_left] at hk
 have ek := scanWord_off _ _ _ _ hk
 have c1 := common_take (c :: r) wInf
 have c2 := common_take (c :: r) wInfinity
 have c3 := common_take (c :: r) wNan
 have c4 := common_inf (c :: r)
 obtain ⟨w, hw', hm⟩ : ∃ w, (w = wInf ∨ (w = wInfinity ∧ 3 < common (c :: r) w) ∨ w = wNan) ∧ k = sg.length + common (c :: r) w := by
  by_cases a1 : common (c :: r) wInfinity ≤ common (c :: r) wInf ∧ common (c :: r) wNan ≤ common (c :: r) wInf
  · exact ⟨wInf, .inl rfl, by omega⟩
  · by_cases a2 : common (c :: r) wNan ≤ common (c :: r) wInfinity
    · exact ⟨wInfinity, .inr (.inl ⟨rfl, by omega⟩), by omega⟩
    · exact ⟨wNan, .inr (.inr rfl), by omega⟩
 have hw : w = wInf ∨ w = wInfinity ∨ w = wNan := by
  rcases hw' with a | a | a
  · exact .inl a
  · exact .inr (.inl a.1)
  · exact .inr (.inr a)
 have cw := common_take (c :: r) w
 refine ⟨by rw [List.length_append]; omega, ?_, fun m h1 h2 => ?_⟩
 · rw [begins_iff]
   refine ⟨w.drop (common (c :: r) w), word_end w _ cw.2.2 hw', ?_⟩
   have e1 : (sg ++ c :: r).take k = sg ++ (c :: r).take (common (c :: r) w) := by
    rw [hm, List.take_append]
    rw [List.take_of_length_le (by omega), Nat.add_sub_cancel_left]
   have e2 : ((c :: r).take (common (c :: r) w) ++ w.drop (common (c :: r) w)).map low = w := by
    have hl : Low w := by rcases hw with rfl | rfl | rfl <;> (intro x hx; revert x; decide)
    have hd : (w.drop (common (c :: r) w)).map low = w.drop (common (c :: r) w) := map_of_Low fun x hx => hl x (List.mem_of_mem_drop hx)
    rw [List.map_append, cw.1, hd, List.take_append_drop]
   obtain ⟨c', r', ew, hc'⟩ := word_split hw
   obtain ⟨n', hn⟩ := whole_sg sg ((c :: r).take (common (c :: r) w) ++ w.drop (common (c :: r) w)) c' r' (by rw [e2, ew]) hc' hs
   rw [e1, List.append_assoc, hn, e2]
   exact body_word n' w hw
 · cases hb : begins ((sg ++ c :: r).take m) with
   | false => rfl
   | true =>
     exfalso
     rw [begins_iff] at hb
     obtain ⟨e, he, d, hd⟩ := hb
     rw [List.length_append, List.length_cons] at h2
     obtain ⟨j, rfl⟩ : ∃ j, m = sg.length + (j + 1) := ⟨m - sg.length - 1, by omega⟩
     have e1 : (sg ++ c :: r).take (sg.length + (j + 1)) = sg ++ c :: r.take j := by
      rw [List.take_append, List.take_of_length_le (by omega), Nat.add_sub_cancel_left, List.take_succ_cons]
     rw [e1, List.append_assoc, List.cons_append] at hd
     obtain ⟨n', hn⟩ := whole_sg sg (c :: (r.take j ++ e)) (low c) ((r.take j ++ e).map low) rfl (sort5' h5) hs
     rw [hn, List.map_cons] at hd
     have hq := body_is_word (sort5' h5) hd
     have key : ∀ w', low c :: (r.take j ++ e).map low = w' → j + 1 ≤ common (c :: r) w' := by
      intro w' hw'
      refine common_ge (c :: r) w' (j + 1) ?_ (by rw [List.length_cons]; omega) ?_
      · rw [← hw']
        simp only [List.take_succ_cons, List.map_cons, List.map_append]
        rw [List.take_left' (by rw [List.length_map, List.length_take]; omega)]
      · rw [← hw', List.length_cons, List.length_map, List.length_append, List.length_take]; omega
     rcases hq with hq | hq | hq
     · have := key _ hq; omega
     · have := key _ hq; omega
     · have := key _ hq; omega

theorem scan_eq (t : List Nat) : scanI t = scanD t := by
 have hok := scan_ok t
 unfold scanD
 cases hI : scanI t with
 | inl d => rw [hI] at hok; rw [← hok]; rfl
 | inr k =>
   rw [hI] at hok
   rw [← hok]
   show Sum.inr k = Sum.inr (along t t.length)
   congr 1
   unfold scanI at hI
   cases hw : walk t 0 1 (s0 false) with
   | stuck o =>
     rw [hw] at hI
     obtain rfl := Sum.inr.inj hI
     obtain ⟨_, a2, ⟨st', s', a3⟩, a4⟩ := stuck_at t _ _ _ _ hw
     rw [Nat.sub_zero] at a3 a4
     refine (along_is t o (.inr (begins_of_fin _ _ _ a3)) t.length (by omega) fun n h1 h2 => ?_).symm
     cases hb : begins (t.take n) with
     | false => rfl
     | true =>
       exfalso
       rw [begins_iff] at hb
       obtain ⟨e, he, d, hd⟩ := hb
       rw [← scan_ok] at hd
       unfold scanI at hd
       rw [a4 (t.take n ++ e) (by rw [List.take_append_of_le_length (by rw [List.length_take]; omega), List.take_take, Nat.min_eq_left (by omega)])] at hd
       cases hd
   | word b n =>
     rw [hw] at hI
     obtain ⟨a1, a2, a3⟩ := word_off t b n hw k hI
     exact (along_is t k (.inr a2) t.length a1 a3).symm
   | fin st s =>
     rw [hw] at hI
     simp only [Out.scan] at hI
     split at hI
     · cases hI
     · obtain rfl := Sum.inr.inj hI
       refine (along_is t t.length (.inr ?_) t.length (Nat.le_refl _) fun n h1 h2 => by omega).symm
       rw [List.take_length]
       exact begins_of_fin t st s hw

theorem dropW_head {p : Nat → Bool} : ∀ {l : List Nat} {c : Nat} {r : List Nat}, l.dropWhile p = c :: r → p c = false
 | [], c, r, h => by simp at h
 | x :: l, c, r, h => by
   rw [List.dropWhile_cons] at h
   by_cases hx : p x = true
   · rw [if_pos hx] at h; exact dropW_head h
   · rw [if_neg hx] at h
     injection h with h1 h2
     rw [← h1]; simpa using hx

theorem bare_pre (l : List Nat) : bareD l <+: trimL l := by
 unfold bareD trimR
 have := List.dropWhile_suffix (l := (trimL l).reverse) (fun c => decide (c = 48))
 rw [← List.reverse_prefix, List.reverse_reverse] at this
 exact this

theorem bare_head {l : List Nat} {c : Nat} {r : List Nat} (h : bareD l = c :: r) : c ≠ 48 := by
 obtain ⟨t, ht⟩ := bare_pre l
 rw [h] at ht
 have := dropW_head (l := l) (c := c) (r := r ++ t) (p := fun c => decide (c = 48)) ht.symm
 simpa using this

theorem bare_dig {l : List Nat} (h : ∀ c ∈ l, 48 ≤ c ∧ c ≤ 57) : Dig (bareD l) := fun c hc =>
 h c ((List.dropWhile_suffix (l := l) (fun c => decide (c = 48))).subset ((bare_pre l).subset hc))

theorem dec_ge {c : Nat} {r : List Nat} (h : Dig (c :: r)) (hc : c ≠ 48) : 10 ^ r.length ≤ dec (c :: r) := by
 have h2 := h c (by simp)
 rw [dec_cons]
 have h3 : 1 * 10 ^ r.length ≤ (c - 48) * 10 ^ r.length := Nat.mul_le_mul_right _ (by omega)
 omega

theorem expF_le : ∀ (l : List Nat) (x : Nat), x ≤ 1000000 → expF x l ≤ 1000000
 | [], x, h => h
 | c :: l, x, h => by
   have : expF x (c :: l) = expF (min (x * 10 + (c - 48)) 1000000) l := rfl
   rw [this]
   exact expF_le l _ (Nat.min_le_right _ _)

theorem powr_le {c : List Nat × List Nat × Bool} {b : Bool} {x : Nat} (h : powr c = some (b, x)) : x ≤ 1000000 := by
 unfold powr at h
 split at h
 · split at h
   · cases h
   · have h2 : expF 0 (signed c.2.1).1 = x := by injection h with h; injection h
     rw [← h2]; exact expF_le _ _ (by omega)
 · have h2 : 0 = x := by injection h with h; injection h
   omega

structure Sound (t : List Nat) (d : Dec) : Prop where
 dig : Dig d.digits
 head : ∀ c r, d.digits = c :: r → c ≠ 48
 exp1 : -1000000 - (t.length : Int) ≤ d.exp
 exp2 : d.exp ≤ 1000000 + (t.length : Int)

theorem cutL (k : Nat) : ∀ l : List Nat, (cut k l).1.length + (cut k l).2.1.length ≤ l.length
 | [] => by simp [cut]
 | x :: l => by
   have := cutL k l
   unfold cut
   split
   · simp
   · simp only [List.length_cons]; omega

theorem signL (l : List Nat) : (signed l).1.length ≤ l.length := by
 cases l with
 | nil => simp [signed]
 | cons x r =>
   show (if x = 43 ∨ x = 45 then (r, decide (x = 45)) else (x :: r, false)).1.length ≤ (x :: r).length
   split <;> simp

theorem whole_sound {t : List Nat} {d : Dec} (h : whole t = some d) : Sound t d := by
 unfold whole body at h
 have hs := signL (t.map low)
 rw [List.length_map] at hs
 generalize (signed (t.map low)).1 = v at h hs
 split at h
 · cases h
   exact ⟨fun c hc => by simp at hc, fun c r e => by simp at e, by simp only; omega, by simp only; omega⟩
 · split at h
   · cases h
     exact ⟨fun c hc => by simp at hc, fun c r e => by simp at e, by simp only; omega, by simp only; omega⟩
   · unfold numb at h
     split at h
     · cases h
     · rename_i hn
       rw [Option.map_eq_some_iff] at h
       obtain ⟨⟨b, x⟩, hx, rfl⟩ := h
       have hx' := powr_le hx
       have c1 := cutL 101 v
       have c2 := cutL 46 (cut 101 v).1
       generalize hA : (cut 46 (cut 101 v).1).1 = A at *
       generalize hB : (cut 46 (cut 101 v).1).2.1 = B at *
       have hd : ∀ c ∈ A ++ B, 48 ≤ c ∧ c ≤ 57 := by
        intro c hc
        have k1 : A.all dgt = true := by
         rcases Bool.eq_false_or_eq_true (A.all dgt) with q | q
         · exact q
         · exact absurd (.inl q) hn
        have k2 : B.all dgt = true := by
         rcases Bool.eq_false_or_eq_true (B.all dgt) with q | q
         · exact q
         · exact absurd (.inr (.inl q)) hn
        rw [List.all_eq_true] at k1 k2
        rcases List.mem_append.1 hc with q | q
        · have := k1 c q; unfold dgt at this; simpa using this
        · have := k2 c q; unfold dgt at this; simpa using this
       have l1 := (List.dropWhile_suffix (l := A ++ B) (fun c => decide (c = 48))).length_le
       have l2 := (bare_pre (A ++ B)).length_le
       have l3 : (A ++ B).length = A.length + B.length := List.length_append
       have l4 : (trimL (A ++ B)).length ≤ (A ++ B).length := l1
       refine ⟨bare_dig hd, fun c r e => bare_head e, ?_, ?_⟩
       · show -1000000 - (t.length : Int) ≤ bareE (A ++ B) ((if b then -(x : Int) else x) - B.length)
         unfold bareE
         split <;> cases b <;> (try simp only [Bool.false_eq_true, if_false, if_true]) <;> omega
       · show bareE (A ++ B) ((if b then -(x : Int) else x) - B.length) ≤ 1000000 + (t.length : Int)
         unfold bareE
         split <;> cases b <;> (try simp only [Bool.false_eq_true, if_false, if_true]) <;> omega

theorem Sound.size {t : List Nat} {d : Dec} (h : Sound t d) (hk : 0 < d.digits.length) : 10 ^ (d.digits.length - 1) ≤ dec d.digits ∧ dec d.digits < 10 ^ d.digits.length := by
 refine ⟨?_, dec_lt _ h.dig⟩
 cases e : d.digits with
 | nil => rw [e] at hk; simp at hk
 | cons c r =>
   have := h.dig
   rw [e] at this
   rw [List.length_cons, Nat.add_sub_cancel]
   exact dec_ge this (h.head c r e)

theorem whole_kind {t : List Nat} {d : Dec} (h : whole t = some d) : (d.kind = 1 ∧ d.digits.length ≤ t.length) ∨ (d.kind = 2 ∧ d.digits = []) ∨ (d.kind = 3 ∧ d.neg = false ∧ d.digits = []) := by
 unfold whole body at h
 have hs := signL (t.map low)
 rw [List.length_map] at hs
 generalize (signed (t.map low)).1 = v at h hs
 split at h
 · cases h
   exact .inr (.inl ⟨rfl, rfl⟩)
 · split at h
   · cases h
     exact .inr (.inr ⟨rfl, rfl, rfl⟩)
   · unfold numb at h
     split at h
     · cases h
     · rw [Option.map_eq_some_iff] at h
       obtain ⟨⟨b, x⟩, hx, rfl⟩ := h
       have c1 := cutL 101 v
       have c2 := cutL 46 (cut 101 v).1
       generalize (cut 46 (cut 101 v).1).1 = A at *
       generalize (cut 46 (cut 101 v).1).2.1 = B at *
       have l1 := (List.dropWhile_suffix (l := A ++ B) (fun c => decide (c = 48))).length_le
       have l2 := (bare_pre (A ++ B)).length_le
       have l3 : (A ++ B).length = A.length + B.length := List.length_append
       have l4 : (trimL (A ++ B)).length ≤ (A ++ B).length := l1
       refine .inl ⟨rfl, ?_⟩
       show (bareD (A ++ B)).length ≤ t.length
       omega

end Go.Proofs.YtjffpclidcloeaaGreatDoor.M
