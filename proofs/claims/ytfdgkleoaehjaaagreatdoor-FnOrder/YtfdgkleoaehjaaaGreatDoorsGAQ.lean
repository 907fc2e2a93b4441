import Derived.WalkKit
namespace Go.Proofs.YtfdgkleoaehjaaaGreatDoor.M
set_option linter.unusedVariables false
set_option maxRecDepth 100000
def low (c : Nat) : Nat := if 65 <= c /\ c <= 90 then c + 32 else c

def dgt (c : Nat) : Bool := decide (48 <= c /\ c <= 57)

def cut (k : Nat) : List Nat -> List Nat × List Nat × Bool
 | [] => ([], [], false)
 | x :: r => if x = k then ([], r, true) else (x :: (cut k r).1, (cut k r).2.1, (cut k r).2.2)

def signed : List Nat -> List Nat × Bool
 | [] => ([], false)
 | x :: r => if x = 43 \/ x = 45 then (r, decide (x = 45)) else (x :: r, false)

def iH (x : Nat) (l : List Nat) : Nat := l.foldl (fun e c => min (e * 10 + (c - 48)) 1000000) x

def aQ (l : List Nat) : List Nat := l.dropWhile (fun c => decide (c = 48))

def cL (l : List Nat) : List Nat := (l.reverse.dropWhile (fun c => decide (c = 48))).reverse

def bH (l : List Nat) : List Nat := cL (aQ l)

def hH (l : List Nat) (e : Int) : Int := if bH l = [] then 0 else e + (aQ l).length - (bH l).length

structure Dec where
 kind : Int
 neg : Bool
 digits : List Nat
 exp : Int

def fE : List Nat := [105, 110, 102]

def aH : List Nat := [105, 110, 102, 105, 110, 105, 116, 121]

def fS : List Nat := [110, 97, 110]

def mK (c : List Nat × List Nat × Bool) : Option (Bool × Nat) :=
 if c.2.2 then (if (signed c.2.1).1 = [] \/ (signed c.2.1).1.all dgt = false then none else some ((signed c.2.1).2, iH 0 (signed c.2.1).1)) else some (false, 0)

def gZ (n : Bool) (l : List Nat) (b : Nat) (x : Bool × Nat) : Dec := ⟨1, n, bH l, hH l ((if x.1 then -(x.2 : Int) else x.2) - b)⟩

def uQ (n : Bool) (v : List Nat) : Option Dec :=
 if (cut 46 (cut 101 v).1).1.all dgt = false \/ (cut 46 (cut 101 v).1).2.1.all dgt = false \/ (cut 46 (cut 101 v).1).1.length + (cut 46 (cut 101 v).1).2.1.length = 0 then none
 else (mK (cut 101 v)).map (gZ n ((cut 46 (cut 101 v).1).1 ++ (cut 46 (cut 101 v).1).2.1) (cut 46 (cut 101 v).1).2.1.length)

def lK (n : Bool) (v : List Nat) : Option Dec :=
 if v = fE \/ v = aH then some ⟨2, n, [], 0⟩ else if v = fS then some ⟨3, false, [], 0⟩ else uQ n v

def whole (t : List Nat) : Option Dec := lK (signed (t.map low)).2 (signed (t.map low)).1

def lX : List (List Nat) := [[], [48], [105, 110, 102], [110, 102], [102], [110, 97, 110], [97, 110], [110], [105, 110, 105, 116, 121], [110, 105, 116, 121], [105, 116, 121], [116, 121], [121]]

def eE (t : List Nat) : Bool := lX.any fun s => (whole (t ++ s)).isSome

def iM (t : List Nat) : Nat -> Nat
 | 0 => 0
 | n + 1 => if eE (t.take (n + 1)) then n + 1 else iM t n

def uR (t : List Nat) : Dec ⊕ Nat := match whole t with
 | some d => .inl d
 | none => .inr (iM t t.length)

def aF (c : Nat) : Nat :=
 if 48 <= low c /\ low c <= 57 then 1 else if low c = 43 \/ low c = 45 then 2 else if low c = 46 then 3 else if low c = 101 then 4 else if low c = 105 \/ low c = 110 then 5 else 0

def next (st so : Nat) : Nat := match st, so with
 | 1, 1 => 3 | 1, 2 => 2 | 1, 3 => 4 | 1, 5 => 10
 | 2, 1 => 3 | 2, 3 => 4 | 2, 5 => 10
 | 3, 1 => 3 | 3, 3 => 5 | 3, 4 => 7
 | 4, 1 => 6
 | 5, 1 => 6 | 5, 4 => 7
 | 6, 1 => 6 | 6, 4 => 7
 | 7, 1 => 9 | 7, 2 => 8
 | 8, 1 => 9
 | 9, 1 => 9
 | _, _ => 0

structure Sn where
 neg : Bool
 digits : List Nat
 behind : Nat
 expNeg : Bool
 exponent : Nat

def take (st c : Nat) (s : Sn) : Sn :=
 if st = 2 then { s with neg := decide (c = 45) } else if st = 6 then { s with behind := s.behind + 1, digits := s.digits ++ [c] }
 else if st = 3 then { s with digits := s.digits ++ [c] } else if st = 8 then { s with expNeg := decide (c = 45) }
 else if st = 9 then { s with exponent := min (s.exponent * 10 + (c - 48)) 1000000 } else s

inductive Out where
 | stuck (o : Nat)
 | word (b : Nat) (n : Bool)
 | fin (st : Nat) (s : Sn)

def aO : List Nat -> Nat -> Nat -> Sn -> Out
 | [], _, st, s => .fin st s
 | c :: r, o, st, s => if next st (aF c) = 0 then .stuck o else if next st (aF c) = 10 then .word o s.neg else aO r (o + 1) (next st (aF c)) (take (next st (aF c)) c s)

def aI : List Nat -> List Nat -> Nat
 | c :: r, x :: y => if low c = x then aI r y + 1 else 0
 | _, _ => 0

def xJ (st : Nat) : Bool := decide (st = 3 \/ st = 5 \/ st = 6 \/ st = 9)

def Sn.dec (s : Sn) : Dec := gZ s.neg s.digits s.behind (s.expNeg, s.exponent)

def dJ (v : List Nat) (b : Nat) (n : Bool) : Dec ⊕ Nat :=
 if v.map low = fE then .inl ⟨2, n, [], 0⟩ else if v.map low = aH then .inl ⟨2, n, [], 0⟩ else if v.map low = fS then .inl ⟨3, false, [], 0⟩
 else .inr (b + max (max (max 0 (aI v fE)) (aI v aH)) (aI v fS))

def Out.scan (t : List Nat) : Out -> Dec ⊕ Nat
 | .stuck o => .inr o
 | .word b n => dJ (t.drop b) b n
 | .fin st s => if xJ st then .inl s.dec else .inr t.length

def gV (t : List Nat) : Dec ⊕ Nat := (aO t 0 1 ⟨false, [], 0, false, 0⟩).scan t

def Out.acc : Out -> Option Sn
 | .fin st s => if xJ st then some s else none
 | _ => none

theorem fK (c : Nat) : low (low c) = low c := by
 unfold low
 by_cases h : 65 <= c /\ c <= 90
 . rw [if_pos h, if_neg (by omega)]
 . rw [if_neg h, if_neg h]

theorem fQ (c : Nat) : aF (low c) = aF c := by unfold aF; rw [fK]

theorem sK (c : Nat) : dgt c = true ↔ (48 <= c /\ c <= 57) := by simp [dgt]

theorem xW (c : Nat) (h : c < 48 \/ 57 < c) : dgt c = false := by
 cases e : dgt c with
 | false => rfl
 | true => rw [sK] at e; omega

theorem aM (c : Nat) (hl : low c = c) : (aF c = 1 /\ dgt c = true /\ 48 <= c /\ c <= 57) \/ (aF c = 2 /\ dgt c = false /\ (c = 43 \/ c = 45)) \/ (aF c = 3 /\ dgt c = false /\ c = 46) \/ (aF c = 4 /\ dgt c = false /\ c = 101) \/
 (aF c = 5 /\ dgt c = false /\ (c = 105 \/ c = 110)) \/ (aF c = 0 /\ dgt c = false /\ c ≠ 43 /\ c ≠ 45 /\ c ≠ 46 /\ c ≠ 101 /\ c ≠ 105 /\ c ≠ 110) := by
 unfold aF;rw [hl]
 by_cases h1 : 48 <= c /\ c <= 57
 . exact .inl ⟨if_pos h1, (sK c).2 h1, h1⟩
 . have hd := xW c (by omega);rw [if_neg h1]
   by_cases h2 : c = 43 \/ c = 45
   . exact .inr (.inl ⟨if_pos h2, hd, h2⟩)
   . rw [if_neg h2]
     by_cases h3 : c = 46
     . exact .inr (.inr (.inl ⟨if_pos h3, hd, h3⟩))
     . rw [if_neg h3]
       by_cases h4 : c = 101
       . exact .inr (.inr (.inr (.inl ⟨if_pos h4, hd, h4⟩)))
       . rw [if_neg h4]
         by_cases h5 : c = 105 \/ c = 110
         . exact .inr (.inr (.inr (.inr (.inl ⟨if_pos h5, hd, h5⟩))))
         . exact .inr (.inr (.inr (.inr (.inr ⟨if_neg h5, hd, by omega, by omega, by omega, by omega, by omega, by omega⟩))))

theorem oA (c : Nat) (r : List Nat) (o st : Nat) (s : Sn) (h : next st (aF c) = 0) : (aO (c :: r) o st s).acc = none := by rw [aO, if_pos h]; rfl

theorem step {c st st' : Nat} (r : List Nat) (o : Nat) (s : Sn) (h : next st (aF c) = st') (h0 : st' ≠ 0) (h1 : st' ≠ 10) : aO (c :: r) o st s = aO r (o + 1) st' (take st' c s) := by
 rw [aO, h, if_neg h0, if_neg h1]

def Low (v : List Nat) : Prop := ∀ c ∈ v, low c = c

theorem Low.tail {c : Nat} {r : List Nat} (h : Low (c :: r)) : Low r := fun x hx => h x (List.mem_cons_of_mem _ hx)

theorem Low.head {c : Nat} {r : List Nat} (h : Low (c :: r)) : low c = c := h c List.mem_cons_self

theorem MA (v : List Nat) : ∀ (hv : Low v) (o : Nat) (s : Sn), (aO v o 9 s).acc = if v.all dgt = false then none else some { s with exponent := iH s.exponent v } := by
 induction v with
 | nil => intro _ o s; rfl
 | cons c r ih =>
   intro hv o s;rcases aM c hv.head with h | h | h | h | h | h
   . rw [step r o s (st' := 9) (by rw [h.1]; rfl) (by decide) (by decide), ih hv.tail, List.all_cons, h.2.1, Bool.true_and]
     rfl
   all_goals
    rw [oA c r o 9 s (by rw [h.1]; rfl), List.all_cons, h.2.1, Bool.false_and, if_pos rfl]

theorem MN (v : List Nat) (hv : Low v) (o : Nat) (s : Sn) : (aO v o 8 s).acc = if v = [] \/ v.all dgt = false then none else some { s with exponent := iH s.exponent v } := by
 cases v with
 | nil => rfl
 | cons c r =>
   rcases aM c hv.head with h | h | h | h | h | h
   . rw [step r o s (st' := 9) (by rw [h.1]; rfl) (by decide) (by decide), MA r hv.tail, List.all_cons, h.2.1, Bool.true_and]
     by_cases k : r.all dgt = false
     . rw [if_pos k, if_pos (.inr k)]
     . rw [if_neg k, if_neg (fun x => x.elim (fun y => by simp at y) k)]; rfl
   all_goals
    rw [oA c r o 8 s (by rw [h.1]; rfl), List.all_cons, h.2.1, Bool.false_and, if_pos (.inr rfl)]

theorem i6 {c : Nat} (r : List Nat) (h : c = 43 \/ c = 45) : signed (c :: r) = (r, decide (c = 45)) := by rw [signed, if_pos h]

theorem gF {c : Nat} (r : List Nat) (h : ¬ (c = 43 \/ c = 45)) : signed (c :: r) = (c :: r, false) := by rw [signed, if_neg h]

theorem vN (a v : List Nat) : mK (a, v, true) = if (signed v).1 = [] \/ (signed v).1.all dgt = false then none else some ((signed v).2, iH 0 (signed v).1) := by
 unfold mK; rw [if_pos rfl]

theorem LX (v : List Nat) (hv : Low v) (o : Nat) (s : Sn) (h1 : s.expNeg = false) (h2 : s.exponent = 0) (a : List Nat) :
 (aO v o 7 s).acc = (mK (a, v, true)).map fun x => { s with expNeg := x.1, exponent := x.2 } := by
 rw [vN]
 cases v with
 | nil => rfl
 | cons c r =>
   rcases aM c hv.head with h | h | h | h | h | h
   . rw [step r o s (st' := 9) (by rw [h.1]; rfl) (by decide) (by decide), MA r hv.tail, gF r (by omega), List.all_cons, h.2.1, Bool.true_and]
     by_cases k : r.all dgt = false
     . rw [if_pos k, if_pos (.inr k)]; rfl
     . rw [if_neg k, if_neg (fun x => x.elim (fun y => by simp at y) k)]
       obtain ⟨s1, s2, s3, s4, s5⟩ := s;simp only at h1 h2;subst h1 h2
       rfl
   . rw [step r o s (st' := 8) (by rw [h.1]; rfl) (by decide) (by decide), MN r hv.tail, i6 r h.2.2]
     by_cases k : r = [] \/ r.all dgt = false
     . rw [if_pos k, if_pos k]; rfl
     . rw [if_neg k, if_neg k];obtain ⟨s1, s2, s3, s4, s5⟩ := s;simp only at h1 h2;subst h1 h2
       rfl
   all_goals
    rw [oA c r o 7 s (by rw [h.1]; rfl), gF r (by omega), List.all_cons, h.2.1, Bool.false_and, if_pos (.inr rfl)]
    rfl

theorem lV (k : Nat) (r : List Nat) : cut k (k :: r) = ([], r, true) := by rw [cut, if_pos rfl]

theorem bL {k c : Nat} (r : List Nat) (h : c ≠ k) : cut k (c :: r) = (c :: (cut k r).1, (cut k r).2.1, (cut k r).2.2) := by rw [cut, if_neg h]

def jF (s : Sn) (v : List Nat) : Option Sn :=
 if (cut 101 v).1.all dgt = false then none else (mK (cut 101 v)).map fun x => ⟨s.neg, s.digits ++ (cut 101 v).1, s.behind + (cut 101 v).1.length, x.1, x.2⟩

theorem MF (v : List Nat) : ∀ (hv : Low v) (o : Nat) (s : Sn) (h1 : s.expNeg = false) (h2 : s.exponent = 0), (aO v o 6 s).acc = jF s v := by
 induction v with
 | nil =>
   intro _ o s h1 h2;obtain ⟨s1, s2, s3, s4, s5⟩ := s;simp only at h1 h2;subst h1 h2
   simp [aO, Out.acc, xJ, jF, cut, mK]
 | cons c r ih =>
   intro hv o s h1 h2;rcases aM c hv.head with h | h | h | h | h | h
   . rw [step r o s (st' := 6) (by rw [h.1]; rfl) (by decide) (by decide), ih hv.tail _ (take 6 c s) h1 h2];unfold jF;rw [bL r (by omega)];simp only [List.all_cons, h.2.1, Bool.true_and]
     by_cases k : (cut 101 r).1.all dgt = false
     . rw [if_pos k, if_pos k]
     . rw [if_neg k, if_neg k]
       refine congrArg (fun f => Option.map f (mK (cut 101 r))) (funext fun x => ?_)
       simp [take, Nat.add_comm 1, Nat.add_assoc]
   . rw [oA c r o 6 s (by rw [h.1]; rfl)];unfold jF;rw [bL r (by omega)];simp only [List.all_cons, h.2.1, Bool.false_and, if_true]
   . rw [oA c r o 6 s (by rw [h.1]; rfl)];unfold jF;rw [bL r (by omega)];simp only [List.all_cons, h.2.1, Bool.false_and, if_true]
   . rw [step r o s (st' := 7) (by rw [h.1]; rfl) (by decide) (by decide), LX r hv.tail _ (take 7 c s) h1 h2 []];obtain ⟨_, _, rfl⟩ := h;unfold jF;rw [lV]
     simp [take]
   all_goals
    rw [oA c r o 6 s (by rw [h.1]; rfl)];unfold jF;rw [bL r (by omega)];simp only [List.all_cons, h.2.1, Bool.false_and, if_true]

theorem M4 (v : List Nat) (hv : Low v) (o : Nat) (s : Sn) (h1 : s.expNeg = false) (h2 : s.exponent = 0) : (aO v o 5 s).acc = jF s v := by
 rw [<- MF v hv o s h1 h2]
 cases v with
 | nil => rfl
 | cons c r =>
   rw [aO, aO]
   rcases aM c hv.head with h | h | h | h | h | h <;> rw [h.1] <;> rfl

theorem MX (v : List Nat) (hv : Low v) (o : Nat) (s : Sn) (h1 : s.expNeg = false) (h2 : s.exponent = 0) : (aO v o 4 s).acc = if (cut 101 v).1 = [] then none else jF s v := by
 cases v with
 | nil => rfl
 | cons c r =>
   rw [<- MF _ hv o s h1 h2];rcases aM c hv.head with h | h | h | h | h | h
   . rw [bL r (by omega), if_neg (by simp), aO, aO, h.1]; rfl
   . rw [bL r (by omega), if_neg (by simp), aO, aO, h.1]; rfl
   . rw [bL r (by omega), if_neg (by simp), aO, aO, h.1]; rfl
   . rw [h.2.2, lV, if_pos rfl]; exact oA _ r o 4 s (by rfl)
   all_goals rw [bL r (by omega), if_neg (by simp), aO, aO, h.1]; rfl

def fT (s : Sn) (v : List Nat) : Option Sn :=
 if (cut 46 (cut 101 v).1).1.all dgt = false \/ (cut 46 (cut 101 v).1).2.1.all dgt = false then none
 else (mK (cut 101 v)).map fun x => ⟨s.neg, s.digits ++ ((cut 46 (cut 101 v).1).1 ++ (cut 46 (cut 101 v).1).2.1), s.behind + (cut 46 (cut 101 v).1).2.1.length, x.1, x.2⟩

theorem MW (v : List Nat) : ∀ (hv : Low v) (o : Nat) (s : Sn) (h1 : s.expNeg = false) (h2 : s.exponent = 0), (aO v o 3 s).acc = fT s v := by
 induction v with
 | nil =>
   intro _ o s h1 h2;obtain ⟨s1, s2, s3, s4, s5⟩ := s;simp only at h1 h2;subst h1 h2
   simp [aO, Out.acc, xJ, fT, cut, mK]
 | cons c r ih =>
   intro hv o s h1 h2;rcases aM c hv.head with h | h | h | h | h | h
   . rw [step r o s (st' := 3) (by rw [h.1]; rfl) (by decide) (by decide), ih hv.tail _ (take 3 c s) h1 h2];unfold fT;rw [bL r (show c ≠ 101 by omega)];simp only;rw [bL _ (show c ≠ 46 by omega)];simp only [List.all_cons, h.2.1, Bool.true_and]
     by_cases k : (cut 46 (cut 101 r).1).1.all dgt = false \/ (cut 46 (cut 101 r).1).2.1.all dgt = false
     . rw [if_pos k, if_pos k]
     . rw [if_neg k, if_neg k]
       refine congrArg (fun f => Option.map f (mK (cut 101 r))) (funext fun x => ?_)
       simp [take]
   . rw [oA c r o 3 s (by rw [h.1]; rfl)];unfold fT;rw [bL r (show c ≠ 101 by omega)];simp only;rw [bL _ (show c ≠ 46 by omega)];simp only [List.all_cons, h.2.1, Bool.false_and, true_or, if_true]
   . rw [step r o s (st' := 5) (by rw [h.1]; rfl) (by decide) (by decide), M4 r hv.tail _ (take 5 c s) h1 h2];obtain ⟨_, _, rfl⟩ := h;unfold fT jF;rw [bL r (show 46 ≠ 101 by omega)];simp only;rw [lV];simp only [List.all_nil, List.nil_append];cases k : (cut 101 r).1.all dgt
     . simp
     . simp only [Bool.true_eq_false, or_self, if_false]; rfl
   . rw [step r o s (st' := 7) (by rw [h.1]; rfl) (by decide) (by decide), LX r hv.tail _ (take 7 c s) h1 h2 []];obtain ⟨_, _, rfl⟩ := h;unfold fT;rw [lV]
     simp [take, cut]
   all_goals
    rw [oA c r o 3 s (by rw [h.1]; rfl)];unfold fT;rw [bL r (show c ≠ 101 by omega)];simp only;rw [bL _ (show c ≠ 46 by omega)];simp only [List.all_cons, h.2.1, Bool.false_and, true_or, if_true]

theorem M3 (v : List Nat) (hv : Low v) (o st : Nat) (hst : st = 1 \/ st = 2) (s : Sn) (h1 : s.expNeg = false) (h2 : s.exponent = 0) (hs : st = 1 -> ∀ c r, v = c :: r -> ¬ (c = 43 \/ c = 45)) (hw : ∀ c r, v = c :: r -> ¬ (c = 105 \/ c = 110)) :
 (aO v o st s).acc = if (cut 46 (cut 101 v).1).1.length + (cut 46 (cut 101 v).1).2.1.length = 0 then none else fT s v := by
 cases v with
 | nil => rcases hst with rfl | rfl <;> rfl
 | cons c r =>
   rcases aM c hv.head with h | h | h | h | h | h
   . rw [<- MW _ hv o s h1 h2, bL r (show c ≠ 101 by omega)];simp only
     rw [bL _ (show c ≠ 46 by omega), if_neg (by simp), step r o s (st := st) (st' := 3) (by rw [h.1]; rcases hst with rfl | rfl <;> rfl) (by decide) (by decide), step r o s (st := 3) (st' := 3) (by rw [h.1]; rfl) (by decide) (by decide)]
   . rcases hst with rfl | rfl
     . exact absurd h.2.2 (hs rfl c r rfl)
     . rw [oA c r o 2 s (by rw [h.1]; rfl)];unfold fT;rw [bL r (show c ≠ 101 by omega)];simp only;rw [bL _ (show c ≠ 46 by omega)];simp only [List.all_cons, h.2.1, Bool.false_and, true_or, if_true, ite_self]
   . rw [step r o s (st' := 4) (by rw [h.1]; rcases hst with rfl | rfl <;> rfl) (by decide) (by decide), MX r hv.tail _ (take 4 c s) h1 h2]
     obtain ⟨_, _, rfl⟩ := h;unfold fT jF;rw [bL r (show 46 ≠ 101 by omega)];simp only;rw [lV];simp only [List.all_nil, List.nil_append, List.length_nil, Nat.zero_add, List.length_eq_zero_iff]
     by_cases k0 : (cut 101 r).1 = []
     . rw [if_pos k0, if_pos k0]
     . rw [if_neg k0, if_neg k0];cases k : (cut 101 r).1.all dgt
       . simp
       . simp only [Bool.true_eq_false, or_self, if_false]; rfl
   . rw [oA c r o st s (by rw [h.1]; rcases hst with rfl | rfl <;> rfl)]
     obtain ⟨_, _, rfl⟩ := h;rw [lV]
     simp [cut]
   . exact absurd h.2.2 (hw c r rfl)
   . rw [oA c r o st s (by rw [h.1]; rcases hst with rfl | rfl <;> rfl)]
     unfold fT;rw [bL r (show c ≠ 101 by omega)];simp only;rw [bL _ (show c ≠ 46 by omega)];simp only [List.all_cons, h.2.1, Bool.false_and, true_or, if_true, ite_self]

def EO : Dec ⊕ Nat -> Option Dec
 | .inl d => some d
 | .inr _ => none

abbrev s0 (n : Bool) : Sn := ⟨n, [], 0, false, 0⟩

theorem LQ (st : Nat) : next st 4 = 0 \/ next st 4 = 7 := by unfold next; split <;> first | omega | exact .inl rfl | exact .inr rfl

theorem MB (st : Nat) : next st 5 = 0 \/ next st 5 = 10 := by unfold next; split <;> first | omega | exact .inl rfl | exact .inr rfl

theorem JQ (st : Nat) : next st 0 = 0 := by unfold next; split <;> first | omega | rfl

theorem IK (st so : Nat) (h : 3 <= st) : next st so = 0 \/ (3 <= next st so /\ next st so ≠ 10) := by unfold next; split <;> omega

theorem zP (st so : Nat) : next st so <= 10 := by unfold next; split <;> omega

theorem JD {c : Nat} (h : low c ≠ c) : aF c = 0 \/ aF c = 4 \/ aF c = 5 := by
 have hl : 65 <= c /\ c <= 90 := by
  unfold low at h
  by_cases k : 65 <= c /\ c <= 90
  . exact k
  . rw [if_neg k] at h; exact absurd rfl h
 have e : low c = c + 32 := by unfold low; rw [if_pos hl]
 unfold aF;rw [e, if_neg (by omega), if_neg (by omega), if_neg (by omega)];split
 . exact .inr (.inl rfl)
 . split
   . exact .inr (.inr rfl)
   . exact .inl rfl

theorem DP (st c : Nat) (s : Sn) : take (next st (aF c)) (low c) s = take (next st (aF c)) c s := by
 by_cases h : low c = c
 . rw [h]
 . rcases JD h with k | k | k
   . rw [k, JQ]; rfl
   . rw [k]
     rcases LQ st with e | e <;> rw [e] <;> rfl
   . rw [k]
     rcases MB st with e | e <;> rw [e] <;> rfl

theorem DZ (t : List Nat) : ∀ (o st : Nat) (s : Sn), aO (t.map low) o st s = aO t o st s := by
 induction t with
 | nil => intro o st s; rfl
 | cons c r ih => intro o st s; rw [List.map_cons, aO, aO, fQ, DP, ih]

theorem I6 (t : List Nat) : Low (t.map low) := by
 intro c hc;obtain ⟨x, _, rfl⟩ := List.mem_map.1 hc;exact fK x

theorem wW {v : List Nat} (h : Low v) : v.map low = v := by
 induction v with
 | nil => rfl
 | cons c r ih => rw [List.map_cons, h.head, ih h.tail]

theorem xV (v : List Nat) : ∀ (o st : Nat) (s : Sn), 3 <= st -> ∀ b n, aO v o st s ≠ .word b n := by
 induction v with
 | nil => intro o st s _ b n h; cases h
 | cons c r ih =>
   intro o st s hst b n h;rw [aO] at h;rcases IK st (aF c) hst with k | k
   . rw [if_pos k] at h; cases h
   . rw [if_neg (by omega), if_neg k.2] at h;exact ih _ _ _ k.1 b n h

theorem LB {out : Out} (T : List Nat) (h : ∀ b n, out ≠ .word b n) : EO (out.scan T) = out.acc.map Sn.dec := by
 cases out with
 | stuck o => rfl
 | word b n => exact absurd rfl (h b n)
 | fin st s => simp only [Out.scan, Out.acc]; split <;> rfl

theorem qU (n : Bool) (c : Nat) (r : List Nat) (h : c = 105 \/ c = 110) : uQ n (c :: r) = none := by
 unfold uQ;rw [bL r (show c ≠ 101 by omega)];simp only;rw [bL _ (show c ≠ 46 by omega), if_pos (.inl (by rw [List.all_cons, xW c (by omega), Bool.false_and]))]

theorem MJ {c : Nat} (h : low c = 105 \/ low c = 110) : aF c = 5 := by
 rw [<- fQ];have := aM (low c) (fK c);omega

theorem yR {c : Nat} (h : aF c = 5) : low c = 105 \/ low c = 110 := by
 rw [<- fQ] at h;have := aM (low c) (fK c);omega

theorem DU {c : Nat} (h : aF c = 2) : low c = 43 \/ low c = 45 := by
 rw [<- fQ] at h;have := aM (low c) (fK c);omega

theorem AC (v : List Nat) (hv : Low v) (o st : Nat) (n : Bool) (hst : st = 1 \/ st = 2) (hs : st = 1 -> ∀ c r, v = c :: r -> ¬ (c = 43 \/ c = 45)) (T : List Nat) (hT : (T.drop o).map low = v) :
 EO ((aO v o st (s0 n)).scan T) = lK n v := by
 by_cases hw : ∃ c r, v = c :: r /\ (c = 105 \/ c = 110)
 . obtain ⟨c, r, rfl, hc⟩ := hw;have h5 : aF c = 5 := MJ (by rw [hv.head]; exact hc)
   rw [aO, h5, show next st 5 = 10 by rcases hst with rfl | rfl <;> rfl, if_neg (by decide), if_pos rfl]
   show EO (dJ (T.drop o) o n) = _
   unfold dJ lK;rw [hT]
   by_cases k1 : c :: r = fE
   . rw [if_pos k1, if_pos (.inl k1)]; rfl
   . rw [if_neg k1]
     by_cases k2 : c :: r = aH
     . rw [if_pos k2, if_pos (.inr k2)]; rfl
     . rw [if_neg k2, if_neg (not_or.2 ⟨k1, k2⟩)]
       by_cases k3 : c :: r = fS
       . rw [if_pos k3, if_pos k3]; rfl
       . rw [if_neg k3, if_neg k3, qU n c r hc]; rfl
 . have hw' : ∀ c r, v = c :: r -> ¬ (c = 105 \/ c = 110) := fun c r e k => hw ⟨c, r, e, k⟩
   have nw : ∀ b m, aO v o st (s0 n) ≠ .word b m := by
    cases v with
    | nil => intro b m h; cases h
    | cons c r =>
      intro b m h;rw [aO] at h
      have hn5 : aF c ≠ 5 := fun h5 => by have := yR h5; rw [hv.head] at this; exact hw' c r rfl this
      by_cases k : next st (aF c) = 0
      . rw [if_pos k] at h; cases h
      . rw [if_neg k] at h
        have h10 : next st (aF c) ≠ 10 := by
         have := aM c hv.head
         rcases hst with rfl | rfl <;> rcases this with e | e | e | e | e | e <;> first | (rw [e.1]; decide) | exact absurd e.1 hn5
        rw [if_neg h10] at h
        by_cases k2 : aF c = 2
        . rcases hst with rfl | rfl
          . have := DU k2;rw [hv.head] at this;exact hs rfl c r rfl this
          . rw [k2] at k; exact k rfl
        . refine xV r _ _ _ ?_ b m h;have := aM c hv.head
          rcases hst with rfl | rfl <;> rcases this with e | e | e | e | e | e <;> first | (rw [e.1]; decide) | exact absurd e.1 hn5 | exact absurd e.1 k2 | (rw [e.1] at k; exact absurd rfl k)
   rw [LB T nw, M3 v hv o st hst (s0 n) rfl rfl hs hw']
   have w1 : v ≠ fE := fun e => hw' _ _ e (by decide)
   have w2 : v ≠ aH := fun e => hw' _ _ e (by decide)
   have w3 : v ≠ fS := fun e => hw' _ _ e (by decide)
   unfold lK uQ;rw [if_neg (not_or.2 ⟨w1, w2⟩), if_neg w3]
   by_cases k : (cut 46 (cut 101 v).1).1.length + (cut 46 (cut 101 v).1).2.1.length = 0
   . rw [if_pos k, if_pos (.inr (.inr k))]; rfl
   . rw [if_neg k];unfold fT
     by_cases k2 : (cut 46 (cut 101 v).1).1.all dgt = false \/ (cut 46 (cut 101 v).1).2.1.all dgt = false
     . rw [if_pos k2, if_pos (by rcases k2 with a | a; exact .inl a; exact .inr (.inl a))]; rfl
     . rw [if_neg k2, if_neg (by intro x; rcases x with a | a | a; exact k2 (.inl a); exact k2 (.inr a); exact k a), Option.map_map]
       refine congrArg (fun f => Option.map f (mK (cut 101 v))) (funext fun x => ?_)
       simp [Sn.dec]

theorem tI (t : List Nat) : EO (gV t) = whole t := by
 unfold gV whole;rw [<- DZ];have hl := I6 t
 cases t with
 | nil => rfl
 | cons y r =>
   rw [List.map_cons] at hl |-
   by_cases h : low y = 43 \/ low y = 45
   . have h2 : aF (low y) = 2 := by have := aM (low y) (fK y); omega
     rw [i6 _ h, step (st' := 2) _ _ _ (by rw [h2]; rfl) (by decide) (by decide)]
     exact AC (r.map low) hl.tail 1 2 (decide (low y = 45)) (.inr rfl) (fun e => by cases e) (y :: r) rfl
   . rw [gF _ h]
     exact AC (low y :: r.map low) hl 0 1 false (.inl rfl) (fun _ c r' e => by cases e; exact h) (y :: r) rfl

theorem oJ (t : List Nat) (k : Nat) (h0 : k = 0 \/ eE (t.take k) = true) : ∀ N, k <= N -> (∀ n, k < n -> n <= N -> eE (t.take n) = false) -> iM t N = k := by
 intro N
 induction N with
 | zero => intro h1 _; rw [iM]; omega
 | succ N ih =>
   intro h1 h2;rw [iM]
   by_cases e : k = N + 1
   . subst e;rcases h0 with h0 | h0
     . omega
     . rw [if_pos h0]
   . rw [if_neg (by rw [h2 (N + 1) (by omega) (Nat.le_refl _)]; decide)]
     exact ih (by omega) fun n a b => h2 n a (by omega)

theorem gK (t : List Nat) : eE t = true ↔ ∃ e ∈ lX, ∃ d, whole (t ++ e) = some d := by
 unfold eE;rw [List.any_eq_true]
 constructor
 . rintro ⟨e, he, h⟩; exact ⟨e, he, Option.isSome_iff_exists.1 h⟩
 . rintro ⟨e, he, h⟩; exact ⟨e, he, Option.isSome_iff_exists.2 h⟩

theorem vH (u : List Nat) : ∀ (v : List Nat) (o st : Nat) (s : Sn) (st' : Nat) (s' : Sn), aO u o st s = .fin st' s' -> aO (u ++ v) o st s = aO v (o + u.length) st' s' := by
 induction u with
 | nil => intro v o st s st' s' h; cases h; rfl
 | cons c r ih =>
   intro v o st s st' s' h;rw [aO] at h;rw [List.cons_append, aO]
   by_cases k : next st (aF c) = 0
   . rw [if_pos k] at h; cases h
   . rw [if_neg k] at h |-
     by_cases k2 : next st (aF c) = 10
     . rw [if_pos k2] at h; cases h
     . rw [if_neg k2] at h |-;rw [ih v _ _ _ _ _ h, List.length_cons]
       congr 1; omega

theorem BI (u : List Nat) : ∀ (o st : Nat) (s : Sn) (st' : Nat) (s' : Sn), aO u o st s = .fin st' s' -> 1 <= st /\ st <= 9 -> 1 <= st' /\ st' <= 9 := by
 induction u with
 | nil => intro o st s st' s' h hs; cases h; exact hs
 | cons c r ih =>
   intro o st s st' s' h hs;rw [aO] at h
   by_cases k : next st (aF c) = 0
   . rw [if_pos k] at h; cases h
   . rw [if_neg k] at h
     by_cases k2 : next st (aF c) = 10
     . rw [if_pos k2] at h; cases h
     . rw [if_neg k2] at h;have := zP st (aF c);exact ih _ _ _ _ _ h ⟨by omega, by omega⟩

theorem FH (t : List Nat) : ∀ (o st : Nat) (s : Sn) (k : Nat), aO t o st s = .stuck k -> o <= k /\ k < o + t.length /\ (∃ st' s', aO (t.take (k - o)) o st s = .fin st' s') /\ ∀ t', t'.take (k - o + 1) = t.take (k - o + 1) -> aO t' o st s = .stuck k := by
 induction t with
 | nil => intro o st s k h; cases h
 | cons c r ih =>
   intro o st s k h;rw [aO] at h
   by_cases e : next st (aF c) = 0
   . rw [if_pos e] at h;cases h
     refine ⟨Nat.le_refl _, by simp, ?_, fun t' ht => ?_⟩
     . rw [Nat.sub_self]; exact ⟨st, s, rfl⟩
     . rw [Nat.sub_self] at ht
       cases t' with
       | nil => simp at ht
       | cons x y =>
         simp at ht
         rw [ht, aO, if_pos e]
   . rw [if_neg e] at h
     by_cases e2 : next st (aF c) = 10
     . rw [if_pos e2] at h; cases h
     . rw [if_neg e2] at h;obtain ⟨a1, a2, ⟨st', s', a3⟩, a4⟩ := ih _ _ _ _ h;have ek : k - o = (k - (o + 1)) + 1 := by omega
       refine ⟨by omega, by rw [List.length_cons]; omega, ⟨st', s', ?_⟩, fun t' ht => ?_⟩
       . rw [ek, List.take_succ_cons, aO, if_neg e, if_neg e2]; exact a3
       . cases t' with
         | nil => simp at ht
         | cons x y =>
           rw [ek] at ht;simp only [List.take_succ_cons, List.cons.injEq] at ht;obtain ⟨rfl, ht⟩ := ht;rw [aO, if_neg e, if_neg e2];exact a4 y (by simpa using ht)

theorem KW (st : Nat) (h : 1 <= st /\ st <= 9) (o : Nat) (s : Sn) : ∃ e ∈ lX, ∃ st' s', aO e o st s = .fin st' s' /\ xJ st' = true := by
 rcases (show st = 1 \/ st = 2 \/ st = 3 \/ st = 4 \/ st = 5 \/ st = 6 \/ st = 7 \/ st = 8 \/ st = 9 by omega) with rfl | rfl | rfl | rfl | rfl | rfl | rfl | rfl | rfl
 . exact ⟨[48], by decide, 3, _, rfl, rfl⟩
 . exact ⟨[48], by decide, 3, _, rfl, rfl⟩
 . exact ⟨[], by decide, 3, _, rfl, rfl⟩
 . exact ⟨[48], by decide, 6, _, rfl, rfl⟩
 . exact ⟨[], by decide, 5, _, rfl, rfl⟩
 . exact ⟨[], by decide, 6, _, rfl, rfl⟩
 . exact ⟨[48], by decide, 9, _, rfl, rfl⟩
 . exact ⟨[48], by decide, 9, _, rfl, rfl⟩
 . exact ⟨[], by decide, 9, _, rfl, rfl⟩

theorem kZ (u : List Nat) (st' : Nat) (s' : Sn) (h : aO u 0 1 (s0 false) = .fin st' s') : eE u = true := by
 have hst := BI u _ _ _ _ _ h ⟨by omega, by omega⟩;obtain ⟨e, he, st2, s2, hw, hg⟩ := KW st' hst (0 + u.length) s';rw [gK];refine ⟨e, he, s2.dec, ?_⟩;rw [<- tI];unfold gV;rw [vH u e _ _ _ _ _ h, hw]
 simp [Out.scan, hg, EO]

theorem cK (v : List Nat) : ∀ w, (v.take (aI v w)).map low = w.take (aI v w) /\ aI v w <= v.length /\ aI v w <= w.length := by
 induction v with
 | nil => intro w; simp [aI]
 | cons c r ih =>
   intro w
   cases w with
   | nil => simp [aI]
   | cons x y =>
     rw [aI];split
     next h =>
      obtain ⟨a, b, c'⟩ := ih y;rw [List.take_succ_cons, List.take_succ_cons, List.map_cons, a, h];exact ⟨rfl, by simpa using b, by simpa using c'⟩
     next h => simp

theorem nE (v : List Nat) : ∀ (w : List Nat) (k : Nat), (v.take k).map low = w.take k -> k <= v.length -> k <= w.length -> k <= aI v w := by
 induction v with
 | nil => intro w k _ h _; simp at h; omega
 | cons c r ih =>
   intro w k h h1 h2
   cases k with
   | zero => omega
   | succ k =>
     cases w with
     | nil => simp at h2
     | cons x y =>
       simp only [List.take_succ_cons, List.map_cons, List.cons.injEq] at h;rw [aI, if_pos h.1];have := ih y k h.2 (by simpa using h1) (by simpa using h2);omega

theorem C6 (n : Bool) (w : List Nat) (h : w = fE \/ w = aH \/ w = fS) : ∃ d, lK n w = some d := by
 rcases h with rfl | rfl | rfl
 . exact ⟨_, rfl⟩
 . exact ⟨_, rfl⟩
 . exact ⟨_, rfl⟩

theorem FP (w : List Nat) (m : Nat) (hm : m <= w.length) (h : w = fE \/ (w = aH /\ 3 < m) \/ w = fS) : w.drop m ∈ lX := by
 have h8 : m < 9 := by rcases h with rfl | ⟨rfl, _⟩ | rfl <;> simp [fE, aH, fS] at hm <;> omega
 have key : ∀ m, m < 9 -> fE.drop m ∈ lX /\ (3 < m -> aH.drop m ∈ lX) /\ fS.drop m ∈ lX := by decide
 rcases h with rfl | ⟨rfl, h3⟩ | rfl
 . exact (key m h8).1
 . exact (key m h8).2.1 h3
 . exact (key m h8).2.2

theorem xZ (v : List Nat) (h : aI v aH <= 3) : aI v aH <= aI v fE := by
 have c := cK v aH;refine nE v fE _ ?_ c.2.1 h;rw [c.1];generalize aI v aH = k at h
 revert k
 decide

theorem sZ {n : Bool} {c : Nat} {r : List Nat} {d : Dec} (hc : c = 105 \/ c = 110) (h : lK n (c :: r) = some d) : c :: r = fE \/ c :: r = aH \/ c :: r = fS := by
 unfold lK at h
 by_cases k1 : c :: r = fE \/ c :: r = aH
 . rcases k1 with k | k
   . exact .inl k
   . exact .inr (.inl k)
 . rw [if_neg k1] at h
   by_cases k2 : c :: r = fS
   . exact .inr (.inr k2)
   . rw [if_neg k2, qU n c r hc] at h; cases h

theorem JA (t : List Nat) (b : Nat) (n : Bool) (h : aO t 0 1 (s0 false) = .word b n) :
 ∃ sg c r, t = sg ++ c :: r /\ sg.length = b /\ aF c = 5 /\ (sg = [] \/ ∃ x, sg = [x] /\ (low x = 43 \/ low x = 45)) := by
 cases t with
 | nil => cases h
 | cons x r =>
   rw [aO] at h
   by_cases k : next 1 (aF x) = 0
   . rw [if_pos k] at h; cases h
   . rw [if_neg k] at h;have hc := aM (low x) (fK x);rw [fQ] at hc
     by_cases k2 : next 1 (aF x) = 10
     . rw [if_pos k2] at h;cases h;refine ⟨[], x, r, rfl, rfl, ?_, .inl rfl⟩
       rcases hc with e | e | e | e | e | e <;> first | exact e.1 | (rw [e.1] at k2; exact absurd k2 (by decide))
     . rw [if_neg k2] at h
       by_cases k3 : aF x = 2
       . rw [k3, show next 1 2 = 2 from rfl] at h
         cases r with
         | nil => cases h
         | cons y r =>
           rw [aO] at h;have hy := aM (low y) (fK y);rw [fQ] at hy
           by_cases j : next 2 (aF y) = 0
           . rw [if_pos j] at h; cases h
           . rw [if_neg j] at h
             by_cases j2 : next 2 (aF y) = 10
             . rw [if_pos j2] at h;cases h;refine ⟨[x], y, r, rfl, rfl, ?_, .inr ⟨x, rfl, DU k3⟩⟩
               rcases hy with e | e | e | e | e | e <;> first | exact e.1 | (rw [e.1] at j2; exact absurd j2 (by decide))
             . rw [if_neg j2] at h;refine absurd h (xV r _ _ _ ?_ b n)
               rcases hy with e | e | e | e | e | e <;> first | (rw [e.1]; decide) | (rw [e.1] at j; exact absurd rfl j) | (rw [e.1] at j2; exact absurd rfl j2)
       . refine absurd h (xV r _ _ _ ?_ b n)
         rcases hc with e | e | e | e | e | e <;> first | (rw [e.1]; decide) | (rw [e.1] at k; exact absurd rfl k) | (rw [e.1] at k2; exact absurd rfl k2) | exact absurd e.1 k3

theorem uW (sg v : List Nat) (c : Nat) (r : List Nat) (hv : v.map low = c :: r) (hc : c = 105 \/ c = 110) (hs : sg = [] \/ ∃ x, sg = [x] /\ (low x = 43 \/ low x = 45)) : ∃ n, whole (sg ++ v) = lK n (v.map low) := by
 rcases hs with rfl | ⟨x, rfl, hx⟩
 . refine ⟨false, ?_⟩;unfold whole;rw [List.nil_append, hv, gF r (by omega)]
 . refine ⟨decide (low x = 45), ?_⟩;unfold whole;rw [List.singleton_append, List.map_cons, i6 _ hx]

theorem zK {w : List Nat} (h : w = fE \/ w = aH \/ w = fS) : ∃ c r, w = c :: r /\ (c = 105 \/ c = 110) := by
 rcases h with rfl | rfl | rfl
 . exact ⟨_, _, rfl, .inl rfl⟩
 . exact ⟨_, _, rfl, .inl rfl⟩
 . exact ⟨_, _, rfl, .inr rfl⟩

theorem tB (v : List Nat) (b : Nat) (n : Bool) (k : Nat) (h : dJ v b n = .inr k) : k = b + max (max (max 0 (aI v fE)) (aI v aH)) (aI v fS) := by
 unfold dJ at h;split at h
 . cases h
 . split at h
   . cases h
   . split at h
     . cases h
     . exact (Sum.inr.inj h).symm

theorem GT (t : List Nat) (b : Nat) (n : Bool) (h : aO t 0 1 (s0 false) = .word b n) (k : Nat) (hk : dJ (t.drop b) b n = .inr k) :
 k <= t.length /\ eE (t.take k) = true /\ ∀ m, k < m -> m <= t.length -> eE (t.take m) = false := by
 obtain ⟨sg, c, r, rfl, rfl, h5, hs⟩ := JA t b n h;rw [List.drop_left] at hk;have ek := tB _ _ _ _ hk;have c1 := cK (c :: r) fE;have c2 := cK (c :: r) aH;have c3 := cK (c :: r) fS;have c4 := xZ (c :: r)
 obtain ⟨w, hw', hm⟩ : ∃ w, (w = fE \/ (w = aH /\ 3 < aI (c :: r) w) \/ w = fS) /\ k = sg.length + aI (c :: r) w := by
  by_cases a1 : aI (c :: r) aH <= aI (c :: r) fE /\ aI (c :: r) fS <= aI (c :: r) fE
  . exact ⟨fE, .inl rfl, by omega⟩
  . by_cases a2 : aI (c :: r) fS <= aI (c :: r) aH
    . exact ⟨aH, .inr (.inl ⟨rfl, by omega⟩), by omega⟩
    . exact ⟨fS, .inr (.inr rfl), by omega⟩
 have hw : w = fE \/ w = aH \/ w = fS := by
  rcases hw' with a | a | a
  . exact .inl a
  . exact .inr (.inl a.1)
  . exact .inr (.inr a)
 have cw := cK (c :: r) w
 refine ⟨by rw [List.length_append]; omega, ?_, fun m h1 h2 => ?_⟩
 . rw [gK];refine ⟨w.drop (aI (c :: r) w), FP w _ cw.2.2 hw', ?_⟩
   have e1 : (sg ++ c :: r).take k = sg ++ (c :: r).take (aI (c :: r) w) := by
    rw [hm, List.take_append];rw [List.take_of_length_le (by omega), Nat.add_sub_cancel_left]
   have e2 : ((c :: r).take (aI (c :: r) w) ++ w.drop (aI (c :: r) w)).map low = w := by
    have hl : Low w := by rcases hw with rfl | rfl | rfl <;> (intro x hx; revert x; decide)
    have hd : (w.drop (aI (c :: r) w)).map low = w.drop (aI (c :: r) w) := wW fun x hx => hl x (List.mem_of_mem_drop hx)
    rw [List.map_append, cw.1, hd, List.take_append_drop]
   obtain ⟨c', r', ew, hc'⟩ := zK hw;obtain ⟨n', hn⟩ := uW sg ((c :: r).take (aI (c :: r) w) ++ w.drop (aI (c :: r) w)) c' r' (by rw [e2, ew]) hc' hs;rw [e1, List.append_assoc, hn, e2];exact C6 n' w hw
 . cases hb : eE ((sg ++ c :: r).take m) with
   | false => rfl
   | true =>
     exfalso
     rw [gK] at hb;obtain ⟨e, he, d, hd⟩ := hb;rw [List.length_append, List.length_cons] at h2;obtain ⟨j, rfl⟩ : ∃ j, m = sg.length + (j + 1) := ⟨m - sg.length - 1, by omega⟩
     have e1 : (sg ++ c :: r).take (sg.length + (j + 1)) = sg ++ c :: r.take j := by
      rw [List.take_append, List.take_of_length_le (by omega), Nat.add_sub_cancel_left, List.take_succ_cons]
     rw [e1, List.append_assoc, List.cons_append] at hd;obtain ⟨n', hn⟩ := uW sg (c :: (r.take j ++ e)) (low c) ((r.take j ++ e).map low) rfl (yR h5) hs;rw [hn, List.map_cons] at hd;have hq := sZ (yR h5) hd
     have key : ∀ w', low c :: (r.take j ++ e).map low = w' -> j + 1 <= aI (c :: r) w' := by
      intro w' hw';refine nE (c :: r) w' (j + 1) ?_ (by rw [List.length_cons]; omega) ?_
      . rw [<- hw'];simp only [List.take_succ_cons, List.map_cons, List.map_append];rw [List.take_left' (by rw [List.length_map, List.length_take]; omega)]
      . rw [<- hw', List.length_cons, List.length_map, List.length_append, List.length_take]; omega
     rcases hq with hq | hq | hq
     . have := key _ hq; omega
     . have := key _ hq; omega
     . have := key _ hq; omega

theorem I0 (t : List Nat) : gV t = uR t := by
 have hok := tI t;unfold uR
 cases hI : gV t with
 | inl d => rw [hI] at hok; rw [<- hok]; rfl
 | inr k =>
   rw [hI] at hok;rw [<- hok]
   show Sum.inr k = Sum.inr (iM t t.length)
   congr 1
   unfold gV at hI
   cases hw : aO t 0 1 (s0 false) with
   | stuck o =>
     rw [hw] at hI;obtain rfl := Sum.inr.inj hI;obtain ⟨_, a2, ⟨st', s', a3⟩, a4⟩ := FH t _ _ _ _ hw;rw [Nat.sub_zero] at a3 a4
     refine (oJ t o (.inr (kZ _ _ _ a3)) t.length (by omega) fun n h1 h2 => ?_).symm
     cases hb : eE (t.take n) with
     | false => rfl
     | true =>
       exfalso
       rw [gK] at hb;obtain ⟨e, he, d, hd⟩ := hb;rw [<- tI] at hd;unfold gV at hd;rw [a4 (t.take n ++ e) (by rw [List.take_append_of_le_length (by rw [List.length_take]; omega), List.take_take, Nat.min_eq_left (by omega)])] at hd;cases hd
   | word b n =>
     rw [hw] at hI;obtain ⟨a1, a2, a3⟩ := GT t b n hw k hI;exact (oJ t k (.inr a2) t.length a1 a3).symm
   | fin st s =>
     rw [hw] at hI;simp only [Out.scan] at hI;split at hI
     . cases hI
     . obtain rfl := Sum.inr.inj hI
       refine (oJ t t.length (.inr ?_) t.length (Nat.le_refl _) fun n h1 h2 => by omega).symm
       rw [List.take_length];exact kZ t st s hw

end Go.Proofs.YtfdgkleoaehjaaaGreatDoor.M
