import Derived.Laws.BytesArg
import Derived.Laws.AppendOwnNone
import Derived.Lib.AppendStr
import Derived.Test.YtdfljbpcjkbflaaGreatDoorrHAE
import Derived.Test.YtdfljbpcjkbflaaGreatDoorrHAF
namespace Go.Proofs.YtdfljbpcjkbflaaGreatDoor
open Go.RowKit
set_option linter.unusedVariables false
set_option maxRecDepth 100000
theorem Tryz.infoY : (Tryz.prog.info? 5).map (fun i => (i.zero, i.size, i.bytes)) = some (some (.int .u8 0), 1, 1) := by kernel_rfl

def UB (xs : List Nat) : List Value := xs.map fun x : Nat => Value.int .u8 (x : Int)

theorem aU (xs : List Nat) : (UB xs).length = xs.length := by simp [UB]

theorem bZ (xs ys : List Nat) : UB (xs ++ ys) = UB xs ++ UB ys := by simp [UB]

theorem gV (xs : List Nat) (i : Nat) (h : i < xs.length) : (UB xs)[i]? = some (.int .u8 ((xs.getD i 0 : Nat) : Int)) := by
 simp [UB, List.getD_eq_getElem?_getD, List.getElem?_eq_getElem h]

theorem jT (xs : List Nat) : ∀ u ∈ UB xs, u.oneCell' = true := by
 intro u hu; obtain ⟨_, _, rfl⟩ := List.mem_map.1 hu; rfl

def RdY (w : World) (ao : Option Addr) (xs : List Nat) : Prop :=
 0 < xs.length → ∃ b off, ao = some ⟨b, off, none⟩ ∧ ∀ i, i < xs.length → w.cell? ⟨b, off + i, none⟩ = some (.int .u8 ((xs.getD i 0 : Nat) : Int))

theorem RdY.own {w : World} {base n cap : Nat} {ao : Option Addr} {xs : List Nat} (h : w.ownsRow base 5 1 (.slice ao n cap) n (UB xs)) : RdY w ao xs := by
 intro hp
 have hl := h.1
 rw [aU] at hl
 rcases h.2 with ⟨he, h0⟩ | ⟨g, cap', cur, he, _, hg, _, _, _, ht⟩
 · omega
 · simp only [Value.slice.injEq] at he
   obtain ⟨rfl, _, rfl⟩ := he
   refine ⟨g, 0, rfl, fun i hi => ?_⟩
   have := h.cellAt i (by omega)
   rw [Nat.zero_add, this, gV xs i hi]

theorem j6 {w : World} {base n cap : Nat} {ao : Option Addr} {xs : List Value} (h : w.ownsRow base 5 1 (.slice ao n cap) n xs) : n ≤ cap := by
 rcases h.2 with ⟨he, h0⟩ | ⟨g, cap', cur, he, _, hg, hc, _⟩
 · simp at he; omega
 · simp only [Value.slice.injEq] at he
   obtain ⟨_, _, rfl⟩ := he
   exact hc

theorem dW {w : World} {base n cap : Nat} {ao : Option Addr} {xs : List Nat} (h : w.ownsRow base 5 1 (.slice ao n cap) n (UB xs)) : xs.length = n := by
 have := h.1; rw [aU] at this; omega

theorem dF {w : World} {base n : Nat} {v : Value} {xs : List Value} (h : w.ownsRow base 5 1 v n xs) : ∃ ao cap, v = .slice ao n cap := by
 rcases h.2 with ⟨rfl, rfl⟩ | ⟨g, cap', cur, rfl, _⟩
 · exact ⟨none, 0, rfl⟩
 · exact ⟨_, _, rfl⟩

theorem zM {w : World} {base base' n : Nat} {v : Value} {xs : List Value} (h : w.ownsRow base 5 1 v n xs) (hb : base' ≤ base) : w.ownsRow base' 5 1 v n xs := by
 refine ⟨h.1, ?_⟩
 rcases h.2 with h' | ⟨g, cap', cur, e, hg, r⟩
 · exact .inl h'
 · exact .inr ⟨g, cap', cur, e, by omega, r⟩

theorem nW {w w' : World} {base n : Nat} {v : Value} {xs : List Value} (h : w.ownsRow base 5 1 v n xs) (hb : Below w.heap.size w w') : w'.ownsRow base 5 1 v n xs := by
 refine ⟨h.1, ?_⟩
 rcases h.2 with h' | ⟨g, cap', cur, e, hg, hh, r⟩
 · exact .inl h'
 · exact .inr ⟨g, cap', cur, e, hg, by rw [hb.block g (Array.getElem?_eq_some_iff.1 hh).1]; exact hh, r⟩

theorem pJ {w : World} {base g n : Nat} {xs : List Value} (h : w.heap[g]? = some (.cells xs.toArray 5 (0, 0))) (hb : base ≤ g) (hn : xs.length = n) (hm : n ≤ maxLen) : w.ownsRow base 5 1 (.slice (some ⟨g, 0, none⟩) n n) n xs :=
 ⟨by omega, .inr ⟨g, n, xs.toArray, rfl, hb, h, Nat.le_refl _, hm, by simp [hn], by simp [← hn]⟩⟩

def BlkY (w : World) (g : Nat) (zs : List Nat) : Prop := w.heap[g]? = some (.cells (UB zs).toArray 5 (0, 0))

theorem IZ (zs : List Nat) (i x : Nat) : UB (zs.set i x) = (UB zs).set i (.int .u8 (x : Int)) := by simp [UB, List.map_set]

theorem BlkY.own {w : World} {base g n : Nat} {zs : List Nat} (h : BlkY w g zs) (hb : base ≤ g) (hn : zs.length = n) (hm : n ≤ maxLen) : w.ownsRow base 5 1 (.slice (some ⟨g, 0, none⟩) n n) n (UB zs) :=
 pJ h hb (by rw [aU, hn]) hm

theorem qN {w : World} {base n cap : Nat} {ao : Option Addr} {xs : List Value} (h : w.ownsRow base 5 1 (.slice ao n cap) n xs) (hn : 0 < n) : ∃ g, ao = some ⟨g, 0, none⟩ ∧ base ≤ g := by
 rcases h.2 with ⟨he, h0⟩ | ⟨g, cap', cur, he, hb, _⟩
 · omega
 · simp only [Value.slice.injEq] at he
   exact ⟨g, he.1, hb⟩

theorem yI (zs : List Nat) (i x : Nat) (v : Int) (hv : v = (x : Int)) : (UB zs).set i (.int .u8 v) = UB (zs.set i x) := by subst hv; exact (IZ zs i x).symm

theorem RdB.y {w : World} {ao : Option Addr} {bs : List Nat} (h : RdB w ao bs) : RdY w ao bs := h.2

def RetY (w w' : World) (e : Ending) (r : List Nat) : Prop :=
 ∃ ra rc, e = .returned (.slice ra r.length rc) ∧ w'.ownsRow w.heap.size 5 1 (.slice ra r.length rc) r.length (UB r) ∧ Below w.heap.size w w'

def RetR (w w' : World) (e : Ending) (r : List Nat) : Prop :=
 ∃ ra rc, e = .returned (.slice ra r.length rc) ∧ RdY w' ra r ∧ r.length ≤ rc ∧ Below w.heap.size w w'

theorem RetY.toR {w w' : World} {e : Ending} {r : List Nat} (h : RetY w w' e r) : RetR w w' e r := by
 obtain ⟨ra, rc, h1, h2, h3⟩ := h
 exact ⟨ra, rc, h1, RdY.own h2, j6 h2, h3⟩

theorem RetR.later {w0 w w' : World} {e : Ending} {r : List Nat} (h : RetR w w' e r) (hb : Below w0.heap.size w0 w) : RetR w0 w' e r := by
 obtain ⟨ra, rc, h1, h2, h4, h3⟩ := h
 exact ⟨ra, rc, h1, h2, h4, hb.trans (h3.mono hb.size)⟩

theorem dN {W : World} {base e k j : Nat} {v : Value} {xs : List Value} (h : W.ownsRow base e 1 v k xs) (hj : v.ownBlock = some j) : base ≤ j := by
 rcases h.2 with ⟨rfl, _⟩ | ⟨g, cap, cur, rfl, hb, _⟩
 · simp [Value.ownBlock] at hj
 · simp only [Value.ownBlock, Option.some.injEq] at hj
   omega

end Go.Proofs.YtdfljbpcjkbflaaGreatDoor
namespace Go.Proofs.YtdfljbpcjkbflaaGreatDoor.M
set_option linter.unusedVariables false
set_option maxRecDepth 100000
def low (c : Nat) : Nat := if 65 ≤ c ∧ c ≤ 90 then c + 32 else c

def dgt (c : Nat) : Bool := decide (48 ≤ c ∧ c ≤ 57)

def cut (k : Nat) : List Nat → List Nat × List Nat × Bool
 | [] => ([], [], false)
 | x :: r => if x = k then ([], r, true) else (x :: (cut k r).1, (cut k r).2.1, (cut k r).2.2)

def signed : List Nat → List Nat × Bool
 | [] => ([], false)
 | x :: r => if x = 43 ∨ x = 45 then (r, decide (x = 45)) else (x :: r, false)

def nG (x : Nat) (l : List Nat) : Nat := l.foldl (fun e c => min (e * 10 + (c - 48)) 1000000) x

def aP (l : List Nat) : List Nat := l.dropWhile (fun c => decide (c = 48))

def bY (l : List Nat) : List Nat := (l.reverse.dropWhile (fun c => decide (c = 48))).reverse

def aT (l : List Nat) : List Nat := bY (aP l)

def fF (l : List Nat) (e : Int) : Int := if aT l = [] then 0 else e + (aP l).length - (aT l).length

structure Dec where
 kind : Int
 neg : Bool
 digits : List Nat
 exp : Int

def eR : List Nat := [105, 110, 102]

def aG : List Nat := [105, 110, 102, 105, 110, 105, 116, 121]

def fK : List Nat := [110, 97, 110]

def iK (c : List Nat × List Nat × Bool) : Option (Bool × Nat) :=
 if c.2.2 then (if (signed c.2.1).1 = [] ∨ (signed c.2.1).1.all dgt = false then none else some ((signed c.2.1).2, nG 0 (signed c.2.1).1)) else some (false, 0)

def decOf (n : Bool) (l : List Nat) (b : Nat) (x : Bool × Nat) : Dec := ⟨1, n, aT l, fF l ((if x.1 then -(x.2 : Int) else x.2) - b)⟩

def rU (n : Bool) (v : List Nat) : Option Dec :=
 if (cut 46 (cut 101 v).1).1.all dgt = false ∨ (cut 46 (cut 101 v).1).2.1.all dgt = false ∨ (cut 46 (cut 101 v).1).1.length + (cut 46 (cut 101 v).1).2.1.length = 0 then none
 else (iK (cut 101 v)).map (decOf n ((cut 46 (cut 101 v).1).1 ++ (cut 46 (cut 101 v).1).2.1) (cut 46 (cut 101 v).1).2.1.length)

def body (n : Bool) (v : List Nat) : Option Dec :=
 if v = eR ∨ v = aG then some ⟨2, n, [], 0⟩ else if v = fK then some ⟨3, false, [], 0⟩ else rU n v

def whole (t : List Nat) : Option Dec := body (signed (t.map low)).2 (signed (t.map low)).1

def vH : List (List Nat) := [[], [48], [105, 110, 102], [110, 102], [102], [110, 97, 110], [97, 110], [110], [105, 110, 105, 116, 121], [110, 105, 116, 121], [105, 116, 121], [116, 121], [121]]

def gI (t : List Nat) : Bool := vH.any fun s => (whole (t ++ s)).isSome

def qS (t : List Nat) : Nat → Nat
 | 0 => 0
 | n + 1 => if gI (t.take (n + 1)) then n + 1 else qS t n

def qE (t : List Nat) : Dec ⊕ Nat := match whole t with
 | some d => .inl d
 | none => .inr (qS t t.length)

def aF (c : Nat) : Nat :=
 if 48 ≤ low c ∧ low c ≤ 57 then 1 else if low c = 43 ∨ low c = 45 then 2 else if low c = 46 then 3 else if low c = 101 then 4 else if low c = 105 ∨ low c = 110 then 5 else 0

def next (st so : Nat) : Nat := match st, so with
 | 1, 1 => 3 | 1, 2 => 2 | 1, 3 => 4 | 1, 5 => 10
 | 2, 1 => 3 | 2, 3 => 4 | 2, 5 => 10
 | 3, 1 => 3 | 3, 3 => 5 | 3, 4 => 7
 | 4, 1 => 6
 | 5, 1 => 6 | 5, 4 => 7
 | 6, 1 => 6 | 6, 4 => 7
 | 7, 1 => 9 | 7, 2 => 8
 | 8, 1 => 9
 | 9, 1 => 9
 | _, _ => 0

structure Sn where
 neg : Bool
 digits : List Nat
 behind : Nat
 expNeg : Bool
 exponent : Nat

def take (st c : Nat) (s : Sn) : Sn :=
 if st = 2 then { s with neg := decide (c = 45) } else if st = 6 then { s with behind := s.behind + 1, digits := s.digits ++ [c] }
 else if st = 3 then { s with digits := s.digits ++ [c] } else if st = 8 then { s with expNeg := decide (c = 45) }
 else if st = 9 then { s with exponent := min (s.exponent * 10 + (c - 48)) 1000000 } else s

inductive Out where
 | stuck (o : Nat)
 | word (b : Nat) (n : Bool)
 | fin (st : Nat) (s : Sn)

def aQ : List Nat → Nat → Nat → Sn → Out
 | [], _, st, s => .fin st s
 | c :: r, o, st, s => if next st (aF c) = 0 then .stuck o else if next st (aF c) = 10 then .word o s.neg else aQ r (o + 1) (next st (aF c)) (take (next st (aF c)) c s)

def aI : List Nat → List Nat → Nat
 | c :: r, x :: y => if low c = x then aI r y + 1 else 0
 | _, _ => 0

def xW (st : Nat) : Bool := decide (st = 3 ∨ st = 5 ∨ st = 6 ∨ st = 9)

def Sn.dec (s : Sn) : Dec := decOf s.neg s.digits s.behind (s.expNeg, s.exponent)

def cL (v : List Nat) (b : Nat) (n : Bool) : Dec ⊕ Nat :=
 if v.map low = eR then .inl ⟨2, n, [], 0⟩ else if v.map low = aG then .inl ⟨2, n, [], 0⟩ else if v.map low = fK then .inl ⟨3, false, [], 0⟩
 else .inr (b + max (max (max 0 (aI v eR)) (aI v aG)) (aI v fK))

def Out.scan (t : List Nat) : Out → Dec ⊕ Nat
 | .stuck o => .inr o
 | .word b n => cL (t.drop b) b n
 | .fin st s => if xW st then .inl s.dec else .inr t.length

def gC (t : List Nat) : Dec ⊕ Nat := (aQ t 0 1 ⟨false, [], 0, false, 0⟩).scan t

def Out.acc : Out → Option Sn
 | .fin st s => if xW st then some s else none
 | _ => none

theorem fE (c : Nat) : low (low c) = low c := by
 unfold low
 by_cases h : 65 ≤ c ∧ c ≤ 90
 · rw [if_pos h, if_neg (by omega)]
 · rw [if_neg h, if_neg h]

theorem fI (c : Nat) : aF (low c) = aF c := by unfold aF; rw [fE]

theorem rD (c : Nat) : dgt c = true ↔ (48 ≤ c ∧ c ≤ 57) := by simp [dgt]

theorem EI (c : Nat) (h : c < 48 ∨ 57 < c) : dgt c = false := by
 cases e : dgt c with
 | false => rfl
 | true => rw [rD] at e; omega

theorem aN (c : Nat) (hl : low c = c) : (aF c = 1 ∧ dgt c = true ∧ 48 ≤ c ∧ c ≤ 57) ∨ (aF c = 2 ∧ dgt c = false ∧ (c = 43 ∨ c = 45)) ∨ (aF c = 3 ∧ dgt c = false ∧ c = 46) ∨ (aF c = 4 ∧ dgt c = false ∧ c = 101) ∨
 (aF c = 5 ∧ dgt c = false ∧ (c = 105 ∨ c = 110)) ∨ (aF c = 0 ∧ dgt c = false ∧ c ≠ 43 ∧ c ≠ 45 ∧ c ≠ 46 ∧ c ≠ 101 ∧ c ≠ 105 ∧ c ≠ 110) := by
 unfold aF
 rw [hl]
 by_cases h1 : 48 ≤ c ∧ c ≤ 57
 · exact .inl ⟨if_pos h1, (rD c).2 h1, h1⟩
 · have hd := EI c (by omega)
   rw [if_neg h1]
   by_cases h2 : c = 43 ∨ c = 45
   · exact .inr (.inl ⟨if_pos h2, hd, h2⟩)
   · rw [if_neg h2]
     by_cases h3 : c = 46
     · exact .inr (.inr (.inl ⟨if_pos h3, hd, h3⟩))
     · rw [if_neg h3]
       by_cases h4 : c = 101
       · exact .inr (.inr (.inr (.inl ⟨if_pos h4, hd, h4⟩)))
       · rw [if_neg h4]
         by_cases h5 : c = 105 ∨ c = 110
         · exact .inr (.inr (.inr (.inr (.inl ⟨if_pos h5, hd, h5⟩))))
         · exact .inr (.inr (.inr (.inr (.inr ⟨if_neg h5, hd, by omega, by omega, by omega, by omega, by omega, by omega⟩))))

theorem nH (c : Nat) (r : List Nat) (o st : Nat) (s : Sn) (h : next st (aF c) = 0) : (aQ (c :: r) o st s).acc = none := by rw [aQ, if_pos h]; rfl

theorem step {c st st' : Nat} (r : List Nat) (o : Nat) (s : Sn) (h : next st (aF c) = st') (h0 : st' ≠ 0) (h1 : st' ≠ 10) : aQ (c :: r) o st s = aQ r (o + 1) st' (take st' c s) := by
 rw [aQ, h, if_neg h0, if_neg h1]

def Low (v : List Nat) : Prop := ∀ c ∈ v, low c = c

theorem Low.tail {c : Nat} {r : List Nat} (h : Low (c :: r)) : Low r := fun x hx => h x (List.mem_cons_of_mem _ hx)

theorem Low.head {c : Nat} {r : List Nat} (h : Low (c :: r)) : low c = c := h c List.mem_cons_self

theorem KX (v : List Nat) : ∀ (hv : Low v) (o : Nat) (s : Sn), (aQ v o 9 s).acc = if v.all dgt = false then none else some { s with exponent := nG s.exponent v } := by
 induction v with
 | nil => intro _ o s; rfl
 | cons c r ih =>
   intro hv o s
   rcases aN c hv.head with h | h | h | h | h | h
   · rw [step r o s (st' := 9) (by rw [h.1]; rfl) (by decide) (by decide), ih hv.tail, List.all_cons, h.2.1, Bool.true_and]
     rfl
   all_goals
    rw [nH c r o 9 s (by rw [h.1]; rfl), List.all_cons, h.2.1, Bool.false_and, if_pos rfl]

theorem LG (v : List Nat) (hv : Low v) (o : Nat) (s : Sn) : (aQ v o 8 s).acc = if v = [] ∨ v.all dgt = false then none else some { s with exponent := nG s.exponent v } := by
 cases v with
 | nil => rfl
 | cons c r =>
   rcases aN c hv.head with h | h | h | h | h | h
   · rw [step r o s (st' := 9) (by rw [h.1]; rfl) (by decide) (by decide), KX r hv.tail, List.all_cons, h.2.1, Bool.true_and]
     by_cases k : r.all dgt = false
     · rw [if_pos k, if_pos (.inr k)]
     · rw [if_neg k, if_neg (fun x => x.elim (fun y => by simp at y) k)]; rfl
   all_goals
    rw [nH c r o 8 s (by rw [h.1]; rfl), List.all_cons, h.2.1, Bool.false_and, if_pos (.inr rfl)]

theorem iE {c : Nat} (r : List Nat) (h : c = 43 ∨ c = 45) : signed (c :: r) = (r, decide (c = 45)) := by rw [signed, if_pos h]

theorem fP {c : Nat} (r : List Nat) (h : ¬ (c = 43 ∨ c = 45)) : signed (c :: r) = (c :: r, false) := by rw [signed, if_neg h]

theorem BH (a v : List Nat) : iK (a, v, true) = if (signed v).1 = [] ∨ (signed v).1.all dgt = false then none else some ((signed v).2, nG 0 (signed v).1) := by
 unfold iK; rw [if_pos rfl]

theorem JZ (v : List Nat) (hv : Low v) (o : Nat) (s : Sn) (h1 : s.expNeg = false) (h2 : s.exponent = 0) (a : List Nat) :
 (aQ v o 7 s).acc = (iK (a, v, true)).map fun x => { s with expNeg := x.1, exponent := x.2 } := by
 rw [BH]
 cases v with
 | nil => rfl
 | cons c r =>
   rcases aN c hv.head with h | h | h | h | h | h
   · rw [step r o s (st' := 9) (by rw [h.1]; rfl) (by decide) (by decide), KX r hv.tail, fP r (by omega), List.all_cons, h.2.1, Bool.true_and]
     by_cases k : r.all dgt = false
     · rw [if_pos k, if_pos (.inr k)]; rfl
     · rw [if_neg k, if_neg (fun x => x.elim (fun y => by simp at y) k)]
       obtain ⟨s1, s2, s3, s4, s5⟩ := s
       simp only at h1 h2
       subst h1 h2
       rfl
   · rw [step r o s (st' := 8) (by rw [h.1]; rfl) (by decide) (by decide), LG r hv.tail, iE r h.2.2]
     by_cases k : r = [] ∨ r.all dgt = false
     · rw [if_pos k, if_pos k]; rfl
     · rw [if_neg k, if_neg k]
       obtain ⟨s1, s2, s3, s4, s5⟩ := s
       simp only at h1 h2
       subst h1 h2
       rfl
   all_goals
    rw [nH c r o 7 s (by rw [h.1]; rfl), fP r (by omega), List.all_cons, h.2.1, Bool.false_and, if_pos (.inr rfl)]
    rfl

theorem mQ (k : Nat) (r : List Nat) : cut k (k :: r) = ([], r, true) := by rw [cut, if_pos rfl]

theorem bE {k c : Nat} (r : List Nat) (h : c ≠ k) : cut k (c :: r) = (c :: (cut k r).1, (cut k r).2.1, (cut k r).2.2) := by rw [cut, if_neg h]

def iY (s : Sn) (v : List Nat) : Option Sn :=
 if (cut 101 v).1.all dgt = false then none else (iK (cut 101 v)).map fun x => ⟨s.neg, s.digits ++ (cut 101 v).1, s.behind + (cut 101 v).1.length, x.1, x.2⟩

theorem KT (v : List Nat) : ∀ (hv : Low v) (o : Nat) (s : Sn) (h1 : s.expNeg = false) (h2 : s.exponent = 0), (aQ v o 6 s).acc = iY s v := by
 induction v with
 | nil =>
   intro _ o s h1 h2
   obtain ⟨s1, s2, s3, s4, s5⟩ := s
   simp only at h1 h2
   subst h1 h2
   simp [aQ, Out.acc, xW, iY, cut, iK]
 | cons c r ih =>
   intro hv o s h1 h2
   rcases aN c hv.head with h | h | h | h | h | h
   · rw [step r o s (st' := 6) (by rw [h.1]; rfl) (by decide) (by decide), ih hv.tail _ (take 6 c s) h1 h2]
     unfold iY
     rw [bE r (by omega)]
     simp only [List.all_cons, h.2.1, Bool.true_and]
     by_cases k : (cut 101 r).1.all dgt = false
     · rw [if_pos k, if_pos k]
     · rw [if_neg k, if_neg k]
       refine congrArg (fun f => Option.map f (iK (cut 101 r))) (funext fun x => ?_)
       simp [take, Nat.add_comm 1, Nat.add_assoc]
   · rw [nH c r o 6 s (by rw [h.1]; rfl)]
     unfold iY
     rw [bE r (by omega)]
     simp only [List.all_cons, h.2.1, Bool.false_and, if_true]
   · rw [nH c r o 6 s (by rw [h.1]; rfl)]
     unfold iY
     rw [bE r (by omega)]
     simp only [List.all_cons, h.2.1, Bool.false_and, if_true]
   · rw [step r o s (st' := 7) (by rw [h.1]; rfl) (by decide) (by decide), JZ r hv.tail _ (take 7 c s) h1 h2 []]
     obtain ⟨_, _, rfl⟩ := h
     unfold iY
     rw [mQ]
     simp [take]
   all_goals
    rw [nH c r o 6 s (by rw [h.1]; rfl)]
    unfold iY
    rw [bE r (by omega)]
    simp only [List.all_cons, h.2.1, Bool.false_and, if_true]

theorem LA (v : List Nat) (hv : Low v) (o : Nat) (s : Sn) (h1 : s.expNeg = false) (h2 : s.exponent = 0) : (aQ v o 5 s).acc = iY s v := by
 rw [← KT v hv o s h1 h2]
 cases v with
 | nil => rfl
 | cons c r =>
   rw [aQ, aQ]
   rcases aN c hv.head with h | h | h | h | h | h <;> rw [h.1] <;> rfl

theorem LI (v : List Nat) (hv : Low v) (o : Nat) (s : Sn) (h1 : s.expNeg = false) (h2 : s.exponent = 0) : (aQ v o 4 s).acc = if (cut 101 v).1 = [] then none else iY s v := by
 cases v with
 | nil => rfl
 | cons c r =>
   rw [← KT _ hv o s h1 h2]
   rcases aN c hv.head with h | h | h | h | h | h
   · rw [bE r (by omega), if_neg (by simp), aQ, aQ, h.1]; rfl
   · rw [bE r (by omega), if_neg (by simp), aQ, aQ, h.1]; rfl
   · rw [bE r (by omega), if_neg (by simp), aQ, aQ, h.1]; rfl
   · rw [h.2.2, mQ, if_pos rfl]; exact nH _ r o 4 s (by rfl)
   all_goals rw [bE r (by omega), if_neg (by simp), aQ, aQ, h.1]; rfl

def fJ (s : Sn) (v : List Nat) : Option Sn :=
 if (cut 46 (cut 101 v).1).1.all dgt = false ∨ (cut 46 (cut 101 v).1).2.1.all dgt = false then none
 else (iK (cut 101 v)).map fun x => ⟨s.neg, s.digits ++ ((cut 46 (cut 101 v).1).1 ++ (cut 46 (cut 101 v).1).2.1), s.behind + (cut 46 (cut 101 v).1).2.1.length, x.1, x.2⟩

theorem K8 (v : List Nat) : ∀ (hv : Low v) (o : Nat) (s : Sn) (h1 : s.expNeg = false) (h2 : s.exponent = 0), (aQ v o 3 s).acc = fJ s v := by
 induction v with
 | nil =>
   intro _ o s h1 h2
   obtain ⟨s1, s2, s3, s4, s5⟩ := s
   simp only at h1 h2
   subst h1 h2
   simp [aQ, Out.acc, xW, fJ, cut, iK]
 | cons c r ih =>
   intro hv o s h1 h2
   rcases aN c hv.head with h | h | h | h | h | h
   · rw [step r o s (st' := 3) (by rw [h.1]; rfl) (by decide) (by decide), ih hv.tail _ (take 3 c s) h1 h2]
     unfold fJ
     rw [bE r (show c ≠ 101 by omega)]
     simp only
     rw [bE _ (show c ≠ 46 by omega)]
     simp only [List.all_cons, h.2.1, Bool.true_and]
     by_cases k : (cut 46 (cut 101 r).1).1.all dgt = false ∨ (cut 46 (cut 101 r).1).2.1.all dgt = false
     · rw [if_pos k, if_pos k]
     · rw [if_neg k, if_neg k]
       refine congrArg (fun f => Option.map f (iK (cut 101 r))) (funext fun x => ?_)
       simp [take]
   · rw [nH c r o 3 s (by rw [h.1]; rfl)]
     unfold fJ
     rw [bE r (show c ≠ 101 by omega)]
     simp only
     rw [bE _ (show c ≠ 46 by omega)]
     simp only [List.all_cons, h.2.1, Bool.false_and, true_or, if_true]
   · rw [step r o s (st' := 5) (by rw [h.1]; rfl) (by decide) (by decide), LA r hv.tail _ (take 5 c s) h1 h2]
     obtain ⟨_, _, rfl⟩ := h
     unfold fJ iY
     rw [bE r (show 46 ≠ 101 by omega)]
     simp only
     rw [mQ]
     simp only [List.all_nil, List.nil_append]
     cases k : (cut 101 r).1.all dgt
     · simp
     · simp only [Bool.true_eq_false, or_self, if_false]; rfl
   · rw [step r o s (st' := 7) (by rw [h.1]; rfl) (by decide) (by decide), JZ r hv.tail _ (take 7 c s) h1 h2 []]
     obtain ⟨_, _, rfl⟩ := h
     unfold fJ
     rw [mQ]
     simp [take, cut]
   all_goals
    rw [nH c r o 3 s (by rw [h.1]; rfl)]
    unfold fJ
    rw [bE r (show c ≠ 101 by omega)]
    simp only
    rw [bE _ (show c ≠ 46 by omega)]
    simp only [List.all_cons, h.2.1, Bool.false_and, true_or, if_true]

theorem K0 (v : List Nat) (hv : Low v) (o st : Nat) (hst : st = 1 ∨ st = 2) (s : Sn) (h1 : s.expNeg = false) (h2 : s.exponent = 0) (hs : st = 1 → ∀ c r, v = c :: r → ¬ (c = 43 ∨ c = 45)) (hw : ∀ c r, v = c :: r → ¬ (c = 105 ∨ c = 110)) :
 (aQ v o st s).acc = if (cut 46 (cut 101 v).1).1.length + (cut 46 (cut 101 v).1).2.1.length = 0 then none else fJ s v := by
 cases v with
 | nil => rcases hst with rfl | rfl <;> rfl
 | cons c r =>
   rcases aN c hv.head with h | h | h | h | h | h
   · rw [← K8 _ hv o s h1 h2, bE r (show c ≠ 101 by omega)]
     simp only
     rw [bE _ (show c ≠ 46 by omega), if_neg (by simp), step r o s (st := st) (st' := 3) (by rw [h.1]; rcases hst with rfl | rfl <;> rfl) (by decide) (by decide), step r o s (st := 3) (st' := 3) (by rw [h.1]; rfl) (by decide) (by decide)]
   · rcases hst with rfl | rfl
     · exact absurd h.2.2 (hs rfl c r rfl)
     · rw [nH c r o 2 s (by rw [h.1]; rfl)]
       unfold fJ
       rw [bE r (show c ≠ 101 by omega)]
       simp only
       rw [bE _ (show c ≠ 46 by omega)]
       simp only [List.all_cons, h.2.1, Bool.false_and, true_or, if_true, ite_self]
   · rw [step r o s (st' := 4) (by rw [h.1]; rcases hst with rfl | rfl <;> rfl) (by decide) (by decide), LI r hv.tail _ (take 4 c s) h1 h2]
     obtain ⟨_, _, rfl⟩ := h
     unfold fJ iY
     rw [bE r (show 46 ≠ 101 by omega)]
     simp only
     rw [mQ]
     simp only [List.all_nil, List.nil_append, List.length_nil, Nat.zero_add, List.length_eq_zero_iff]
     by_cases k0 : (cut 101 r).1 = []
     · rw [if_pos k0, if_pos k0]
     · rw [if_neg k0, if_neg k0]
       cases k : (cut 101 r).1.all dgt
       · simp
       · simp only [Bool.true_eq_false, or_self, if_false]; rfl
   · rw [nH c r o st s (by rw [h.1]; rcases hst with rfl | rfl <;> rfl)]
     obtain ⟨_, _, rfl⟩ := h
     rw [mQ]
     simp [cut]
   · exact absurd h.2.2 (hw c r rfl)
   · rw [nH c r o st s (by rw [h.1]; rcases hst with rfl | rfl <;> rfl)]
     unfold fJ
     rw [bE r (show c ≠ 101 by omega)]
     simp only
     rw [bE _ (show c ≠ 46 by omega)]
     simp only [List.all_cons, h.2.1, Bool.false_and, true_or, if_true, ite_self]

def DY : Dec ⊕ Nat → Option Dec
 | .inl d => some d
 | .inr _ => none

abbrev s0 (n : Bool) : Sn := ⟨n, [], 0, false, 0⟩

theorem KG (st : Nat) : next st 4 = 0 ∨ next st 4 = 7 := by unfold next; split <;> first | omega | exact .inl rfl | exact .inr rfl

theorem JV (st : Nat) : next st 5 = 0 ∨ next st 5 = 10 := by unfold next; split <;> first | omega | exact .inl rfl | exact .inr rfl

theorem IE (st : Nat) : next st 0 = 0 := by unfold next; split <;> first | omega | rfl

theorem GU (st so : Nat) (h : 3 ≤ st) : next st so = 0 ∨ (3 ≤ next st so ∧ next st so ≠ 10) := by unfold next; split <;> omega

theorem yW (st so : Nat) : next st so ≤ 10 := by unfold next; split <;> omega

theorem FM {c : Nat} (h : low c ≠ c) : aF c = 0 ∨ aF c = 4 ∨ aF c = 5 := by
 have hl : 65 ≤ c ∧ c ≤ 90 := by
  unfold low at h
  by_cases k : 65 ≤ c ∧ c ≤ 90
  · exact k
  · rw [if_neg k] at h; exact absurd rfl h
 have e : low c = c + 32 := by unfold low; rw [if_pos hl]
 unfold aF
 rw [e, if_neg (by omega), if_neg (by omega), if_neg (by omega)]
 split
 · exact .inr (.inl rfl)
 · split
   · exact .inr (.inr rfl)
   · exact .inl rfl

theorem BI (st c : Nat) (s : Sn) : take (next st (aF c)) (low c) s = take (next st (aF c)) c s := by
 by_cases h : low c = c
 · rw [h]
 · rcases FM h with k | k | k
   · rw [k, IE]; rfl
   · rw [k]
     rcases KG st with e | e <;> rw [e] <;> rfl
   · rw [k]
     rcases JV st with e | e <;> rw [e] <;> rfl

theorem DC (t : List Nat) : ∀ (o st : Nat) (s : Sn), aQ (t.map low) o st s = aQ t o st s := by
 induction t with
 | nil => intro o st s; rfl
 | cons c r ih => intro o st s; rw [List.map_cons, aQ, aQ, fI, BI, ih]

theorem GT (t : List Nat) : Low (t.map low) := by
 intro c hc
 obtain ⟨x, _, rfl⟩ := List.mem_map.1 hc
 exact fE x

theorem vT {v : List Nat} (h : Low v) : v.map low = v := by
 induction v with
 | nil => rfl
 | cons c r ih => rw [List.map_cons, h.head, ih h.tail]

theorem wG (v : List Nat) : ∀ (o st : Nat) (s : Sn), 3 ≤ st → ∀ b n, aQ v o st s ≠ .word b n := by
 induction v with
 | nil => intro o st s _ b n h; cases h
 | cons c r ih =>
   intro o st s hst b n h
   rw [aQ] at h
   rcases GU st (aF c) hst with k | k
   · rw [if_pos k] at h; cases h
   · rw [if_neg (by omega), if_neg k.2] at h
     exact ih _ _ _ k.1 b n h

theorem JQ {out : Out} (T : List Nat) (h : ∀ b n, out ≠ .word b n) : DY (out.scan T) = out.acc.map Sn.dec := by
 cases out with
 | stuck o => rfl
 | word b n => exact absurd rfl (h b n)
 | fin st s => simp only [Out.scan, Out.acc]; split <;> rfl

theorem qC (n : Bool) (c : Nat) (r : List Nat) (h : c = 105 ∨ c = 110) : rU n (c :: r) = none := by
 unfold rU
 rw [bE r (show c ≠ 101 by omega)]
 simp only
 rw [bE _ (show c ≠ 46 by omega), if_pos (.inl (by rw [List.all_cons, EI c (by omega), Bool.false_and]))]

theorem KC {c : Nat} (h : low c = 105 ∨ low c = 110) : aF c = 5 := by
 rw [← fI]
 have := aN (low c) (fE c)
 omega

theorem wD {c : Nat} (h : aF c = 5) : low c = 105 ∨ low c = 110 := by
 rw [← fI] at h
 have := aN (low c) (fE c)
 omega

theorem CI {c : Nat} (h : aF c = 2) : low c = 43 ∨ low c = 45 := by
 rw [← fI] at h
 have := aN (low c) (fE c)
 omega

theorem yK (v : List Nat) (hv : Low v) (o st : Nat) (n : Bool) (hst : st = 1 ∨ st = 2) (hs : st = 1 → ∀ c r, v = c :: r → ¬ (c = 43 ∨ c = 45)) (T : List Nat) (hT : (T.drop o).map low = v) :
 DY ((aQ v o st (s0 n)).scan T) = body n v := by
 by_cases hw : ∃ c r, v = c :: r ∧ (c = 105 ∨ c = 110)
 · obtain ⟨c, r, rfl, hc⟩ := hw
   have h5 : aF c = 5 := KC (by rw [hv.head]; exact hc)
   rw [aQ, h5, show next st 5 = 10 by rcases hst with rfl | rfl <;> rfl, if_neg (by decide), if_pos rfl]
   show DY (cL (T.drop o) o n) = _
   unfold cL body
   rw [hT]
   by_cases k1 : c :: r = eR
   · rw [if_pos k1, if_pos (.inl k1)]; rfl
   · rw [if_neg k1]
     by_cases k2 : c :: r = aG
     · rw [if_pos k2, if_pos (.inr k2)]; rfl
     · rw [if_neg k2, if_neg (not_or.2 ⟨k1, k2⟩)]
       by_cases k3 : c :: r = fK
       · rw [if_pos k3, if_pos k3]; rfl
       · rw [if_neg k3, if_neg k3, qC n c r hc]; rfl
 · have hw' : ∀ c r, v = c :: r → ¬ (c = 105 ∨ c = 110) := fun c r e k => hw ⟨c, r, e, k⟩
   have nw : ∀ b m, aQ v o st (s0 n) ≠ .word b m := by
    cases v with
    | nil => intro b m h; cases h
    | cons c r =>
      intro b m h
      rw [aQ] at h
      have hn5 : aF c ≠ 5 := fun h5 => by have := wD h5; rw [hv.head] at this; exact hw' c r rfl this
      by_cases k : next st (aF c) = 0
      · rw [if_pos k] at h; cases h
      · rw [if_neg k] at h
        have h10 : next st (aF c) ≠ 10 := by
         have := aN c hv.head
         rcases hst with rfl | rfl <;> rcases this with e | e | e | e | e | e <;> first | (rw [e.1]; decide) | exact absurd e.1 hn5
        rw [if_neg h10] at h
        by_cases k2 : aF c = 2
        · rcases hst with rfl | rfl
          · have := CI k2
            rw [hv.head] at this
            exact hs rfl c r rfl this
          · rw [k2] at k; exact k rfl
        · refine wG r _ _ _ ?_ b m h
          have := aN c hv.head
          rcases hst with rfl | rfl <;> rcases this with e | e | e | e | e | e <;> first | (rw [e.1]; decide) | exact absurd e.1 hn5 | exact absurd e.1 k2 | (rw [e.1] at k; exact absurd rfl k)
   rw [JQ T nw, K0 v hv o st hst (s0 n) rfl rfl hs hw']
   have w1 : v ≠ eR := fun e => hw' _ _ e (by decide)
   have w2 : v ≠ aG := fun e => hw' _ _ e (by decide)
   have w3 : v ≠ fK := fun e => hw' _ _ e (by decide)
   unfold body rU
   rw [if_neg (not_or.2 ⟨w1, w2⟩), if_neg w3]
   by_cases k : (cut 46 (cut 101 v).1).1.length + (cut 46 (cut 101 v).1).2.1.length = 0
   · rw [if_pos k, if_pos (.inr (.inr k))]; rfl
   · rw [if_neg k]
     unfold fJ
     by_cases k2 : (cut 46 (cut 101 v).1).1.all dgt = false ∨ (cut 46 (cut 101 v).1).2.1.all dgt = false
     · rw [if_pos k2, if_pos (by rcases k2 with a | a; exact .inl a; exact .inr (.inl a))]; rfl
     · rw [if_neg k2, if_neg (by intro x; rcases x with a | a | a; exact k2 (.inl a); exact k2 (.inr a); exact k a), Option.map_map]
       refine congrArg (fun f => Option.map f (iK (cut 101 v))) (funext fun x => ?_)
       simp [Sn.dec]

theorem sA (t : List Nat) : DY (gC t) = whole t := by
 unfold gC whole
 rw [← DC]
 have hl := GT t
 cases t with
 | nil => rfl
 | cons y r =>
   rw [List.map_cons] at hl ⊢
   by_cases h : low y = 43 ∨ low y = 45
   · have h2 : aF (low y) = 2 := by have := aN (low y) (fE y); omega
     rw [iE _ h, step (st' := 2) _ _ _ (by rw [h2]; rfl) (by decide) (by decide)]
     exact yK (r.map low) hl.tail 1 2 (decide (low y = 45)) (.inr rfl) (fun e => by cases e) (y :: r) rfl
   · rw [fP _ h]
     exact yK (low y :: r.map low) hl 0 1 false (.inl rfl) (fun _ c r' e => by cases e; exact h) (y :: r) rfl

theorem o6 (t : List Nat) (k : Nat) (h0 : k = 0 ∨ gI (t.take k) = true) : ∀ N, k ≤ N → (∀ n, k < n → n ≤ N → gI (t.take n) = false) → qS t N = k := by
 intro N
 induction N with
 | zero => intro h1 _; rw [qS]; omega
 | succ N ih =>
   intro h1 h2
   rw [qS]
   by_cases e : k = N + 1
   · subst e
     rcases h0 with h0 | h0
     · omega
     · rw [if_pos h0]
   · rw [if_neg (by rw [h2 (N + 1) (by omega) (Nat.le_refl _)]; decide)]
     exact ih (by omega) fun n a b => h2 n a (by omega)

theorem gY (t : List Nat) : gI t = true ↔ ∃ e ∈ vH, ∃ d, whole (t ++ e) = some d := by
 unfold gI
 rw [List.any_eq_true]
 constructor
 · rintro ⟨e, he, h⟩; exact ⟨e, he, Option.isSome_iff_exists.1 h⟩
 · rintro ⟨e, he, h⟩; exact ⟨e, he, Option.isSome_iff_exists.2 h⟩

theorem s8 (u : List Nat) : ∀ (v : List Nat) (o st : Nat) (s : Sn) (st' : Nat) (s' : Sn), aQ u o st s = .fin st' s' → aQ (u ++ v) o st s = aQ v (o + u.length) st' s' := by
 induction u with
 | nil => intro v o st s st' s' h; cases h; rfl
 | cons c r ih =>
   intro v o st s st' s' h
   rw [aQ] at h
   rw [List.cons_append, aQ]
   by_cases k : next st (aF c) = 0
   · rw [if_pos k] at h; cases h
   · rw [if_neg k] at h ⊢
     by_cases k2 : next st (aF c) = 10
     · rw [if_pos k2] at h; cases h
     · rw [if_neg k2] at h ⊢
       rw [ih v _ _ _ _ _ h, List.length_cons]
       congr 1; omega

theorem A3 (u : List Nat) : ∀ (o st : Nat) (s : Sn) (st' : Nat) (s' : Sn), aQ u o st s = .fin st' s' → 1 ≤ st ∧ st ≤ 9 → 1 ≤ st' ∧ st' ≤ 9 := by
 induction u with
 | nil => intro o st s st' s' h hs; cases h; exact hs
 | cons c r ih =>
   intro o st s st' s' h hs
   rw [aQ] at h
   by_cases k : next st (aF c) = 0
   · rw [if_pos k] at h; cases h
   · rw [if_neg k] at h
     by_cases k2 : next st (aF c) = 10
     · rw [if_pos k2] at h; cases h
     · rw [if_neg k2] at h
       have := yW st (aF c)
       exact ih _ _ _ _ _ h ⟨by omega, by omega⟩

theorem CX (t : List Nat) : ∀ (o st : Nat) (s : Sn) (k : Nat), aQ t o st s = .stuck k → o ≤ k ∧ k < o + t.length ∧ (∃ st' s', aQ (t.take (k - o)) o st s = .fin st' s') ∧ ∀ t', t'.take (k - o + 1) = t.take (k - o + 1) → aQ t' o st s = .stuck k := by
 induction t with
 | nil => intro o st s k h; cases h
 | cons c r ih =>
   intro o st s k h
   rw [aQ] at h
   by_cases e : next st (aF c) = 0
   · rw [if_pos e] at h
     cases h
     refine ⟨Nat.le_refl _, by simp, ?_, fun t' ht => ?_⟩
     · rw [Nat.sub_self]; exact ⟨st, s, rfl⟩
     · rw [Nat.sub_self] at ht
       cases t' with
       | nil => simp at ht
       | cons x y =>
         simp at ht
         rw [ht, aQ, if_pos e]
   · rw [if_neg e] at h
     by_cases e2 : next st (aF c) = 10
     · rw [if_pos e2] at h; cases h
     · rw [if_neg e2] at h
       obtain ⟨a1, a2, ⟨st', s', a3⟩, a4⟩ := ih _ _ _ _ h
       have ek : k - o = (k - (o + 1)) + 1 := by omega
       refine ⟨by omega, by rw [List.length_cons]; omega, ⟨st', s', ?_⟩, fun t' ht => ?_⟩
       · rw [ek, List.take_succ_cons, aQ, if_neg e, if_neg e2]; exact a3
       · cases t' with
         | nil => simp at ht
         | cons x y =>
           rw [ek] at ht
           simp only [List.take_succ_cons, List.cons.injEq] at ht
           obtain ⟨rfl, ht⟩ := ht
           rw [aQ, if_neg e, if_neg e2]
           exact a4 y (by simpa using ht)

theorem I7 (st : Nat) (h : 1 ≤ st ∧ st ≤ 9) (o : Nat) (s : Sn) : ∃ e ∈ vH, ∃ st' s', aQ e o st s = .fin st' s' ∧ xW st' = true := by
 rcases (show st = 1 ∨ st = 2 ∨ st = 3 ∨ st = 4 ∨ st = 5 ∨ st = 6 ∨ st = 7 ∨ st = 8 ∨ st = 9 by omega) with rfl | rfl | rfl | rfl | rfl | rfl | rfl | rfl | rfl
 · exact ⟨[48], by decide, 3, _, rfl, rfl⟩
 · exact ⟨[48], by decide, 3, _, rfl, rfl⟩
 · exact ⟨[], by decide, 3, _, rfl, rfl⟩
 · exact ⟨[48], by decide, 6, _, rfl, rfl⟩
 · exact ⟨[], by decide, 5, _, rfl, rfl⟩
 · exact ⟨[], by decide, 6, _, rfl, rfl⟩
 · exact ⟨[48], by decide, 9, _, rfl, rfl⟩
 · exact ⟨[48], by decide, 9, _, rfl, rfl⟩
 · exact ⟨[], by decide, 9, _, rfl, rfl⟩

theorem jN (u : List Nat) (st' : Nat) (s' : Sn) (h : aQ u 0 1 (s0 false) = .fin st' s') : gI u = true := by
 have hst := A3 u _ _ _ _ _ h ⟨by omega, by omega⟩
 obtain ⟨e, he, st2, s2, hw, hg⟩ := I7 st' hst (0 + u.length) s'
 rw [gY]
 refine ⟨e, he, s2.dec, ?_⟩
 rw [← sA]
 unfold gC
 rw [s8 u e _ _ _ _ _ h, hw]
 simp [Out.scan, hg, DY]

theorem bO (v : List Nat) : ∀ w, (v.take (aI v w)).map low = w.take (aI v w) ∧ aI v w ≤ v.length ∧ aI v w ≤ w.length := by
 induction v with
 | nil => intro w; simp [aI]
 | cons c r ih =>
   intro w
   cases w with
   | nil => simp [aI]
   | cons x y =>
     rw [aI]
     split
     next h =>
      obtain ⟨a, b, c'⟩ := ih y
      rw [List.take_succ_cons, List.take_succ_cons, List.map_cons, a, h]
      exact ⟨rfl, by simpa using b, by simpa using c'⟩
     next h => simp

theorem mT (v : List Nat) : ∀ (w : List Nat) (k : Nat), (v.take k).map low = w.take k → k ≤ v.length → k ≤ w.length → k ≤ aI v w := by
 induction v with
 | nil => intro w k _ h _; simp at h; omega
 | cons c r ih =>
   intro w k h h1 h2
   cases k with
   | zero => omega
   | succ k =>
     cases w with
     | nil => simp at h2
     | cons x y =>
       simp only [List.take_succ_cons, List.map_cons, List.cons.injEq] at h
       rw [aI, if_pos h.1]
       have := ih y k h.2 (by simpa using h1) (by simpa using h2)
       omega

theorem zU (n : Bool) (w : List Nat) (h : w = eR ∨ w = aG ∨ w = fK) : ∃ d, body n w = some d := by
 rcases h with rfl | rfl | rfl
 · exact ⟨_, rfl⟩
 · exact ⟨_, rfl⟩
 · exact ⟨_, rfl⟩

theorem CM (w : List Nat) (m : Nat) (hm : m ≤ w.length) (h : w = eR ∨ (w = aG ∧ 3 < m) ∨ w = fK) : w.drop m ∈ vH := by
 have h8 : m < 9 := by rcases h with rfl | ⟨rfl, _⟩ | rfl <;> simp [eR, aG, fK] at hm <;> omega
 have key : ∀ m, m < 9 → eR.drop m ∈ vH ∧ (3 < m → aG.drop m ∈ vH) ∧ fK.drop m ∈ vH := by decide
 rcases h with rfl | ⟨rfl, h3⟩ | rfl
 · exact (key m h8).1
 · exact (key m h8).2.1 h3
 · exact (key m h8).2.2

theorem xI (v : List Nat) (h : aI v aG ≤ 3) : aI v aG ≤ aI v eR := by
 have c := bO v aG
 refine mT v eR _ ?_ c.2.1 h
 rw [c.1]
 generalize aI v aG = k at h
 revert k
 decide

theorem rZ {n : Bool} {c : Nat} {r : List Nat} {d : Dec} (hc : c = 105 ∨ c = 110) (h : body n (c :: r) = some d) : c :: r = eR ∨ c :: r = aG ∨ c :: r = fK := by
 unfold body at h
 by_cases k1 : c :: r = eR ∨ c :: r = aG
 · rcases k1 with k | k
   · exact .inl k
   · exact .inr (.inl k)
 · rw [if_neg k1] at h
   by_cases k2 : c :: r = fK
   · exact .inr (.inr k2)
   · rw [if_neg k2, qC n c r hc] at h; cases h

theorem FK (t : List Nat) (b : Nat) (n : Bool) (h : aQ t 0 1 (s0 false) = .word b n) :
 ∃ sg c r, t = sg ++ c :: r ∧ sg.length = b ∧ aF c = 5 ∧ (sg = [] ∨ ∃ x, sg = [x] ∧ (low x = 43 ∨ low x = 45)) := by
 cases t with
 | nil => cases h
 | cons x r =>
   rw [aQ] at h
   by_cases k : next 1 (aF x) = 0
   · rw [if_pos k] at h; cases h
   · rw [if_neg k] at h
     have hc := aN (low x) (fE x)
     rw [fI] at hc
     by_cases k2 : next 1 (aF x) = 10
     · rw [if_pos k2] at h
       cases h
       refine ⟨[], x, r, rfl, rfl, ?_, .inl rfl⟩
       rcases hc with e | e | e | e | e | e <;> first | exact e.1 | (rw [e.1] at k2; exact absurd k2 (by decide))
     · rw [if_neg k2] at h
       by_cases k3 : aF x = 2
       · rw [k3, show next 1 2 = 2 from rfl] at h
         cases r with
         | nil => cases h
         | cons y r =>
           rw [aQ] at h
           have hy := aN (low y) (fE y)
           rw [fI] at hy
           by_cases j : next 2 (aF y) = 0
           · rw [if_pos j] at h; cases h
           · rw [if_neg j] at h
             by_cases j2 : next 2 (aF y) = 10
             · rw [if_pos j2] at h
               cases h
               refine ⟨[x], y, r, rfl, rfl, ?_, .inr ⟨x, rfl, CI k3⟩⟩
               rcases hy with e | e | e | e | e | e <;> first | exact e.1 | (rw [e.1] at j2; exact absurd j2 (by decide))
             · rw [if_neg j2] at h
               refine absurd h (wG r _ _ _ ?_ b n)
               rcases hy with e | e | e | e | e | e <;> first | (rw [e.1]; decide) | (rw [e.1] at j; exact absurd rfl j) | (rw [e.1] at j2; exact absurd rfl j2)
       · refine absurd h (wG r _ _ _ ?_ b n)
         rcases hc with e | e | e | e | e | e <;> first | (rw [e.1]; decide) | (rw [e.1] at k; exact absurd rfl k) | (rw [e.1] at k2; exact absurd rfl k2) | exact absurd e.1 k3

theorem tN (sg v : List Nat) (c : Nat) (r : List Nat) (hv : v.map low = c :: r) (hc : c = 105 ∨ c = 110) (hs : sg = [] ∨ ∃ x, sg = [x] ∧ (low x = 43 ∨ low x = 45)) : ∃ n, whole (sg ++ v) = body n (v.map low) := by
 rcases hs with rfl | ⟨x, rfl, hx⟩
 · refine ⟨false, ?_⟩
   unfold whole
   rw [List.nil_append, hv, fP r (by omega)]
 · refine ⟨decide (low x = 45), ?_⟩
   unfold whole
   rw [List.singleton_append, List.map_cons, iE _ hx]

theorem xY {w : List Nat} (h : w = eR ∨ w = aG ∨ w = fK) : ∃ c r, w = c :: r ∧ (c = 105 ∨ c = 110) := by
 rcases h with rfl | rfl | rfl
 · exact ⟨_, _, rfl, .inl rfl⟩
 · exact ⟨_, _, rfl, .inl rfl⟩
 · exact ⟨_, _, rfl, .inr rfl⟩

theorem sV (v : List Nat) (b : Nat) (n : Bool) (k : Nat) (h : cL v b n = .inr k) : k = b + max (max (max 0 (aI v eR)) (aI v aG)) (aI v fK) := by
 unfold cL at h
 split at h
 · cases h
 · split at h
   · cases h
   · split at h
     · cases h
     · exact (Sum.inr.inj h).symm

theorem CB (t : List Nat) (b : Nat) (n : Bool) (h : aQ t 0 1 (s0 false) = .word b n) (k : Nat) (hk : cL (t.drop b) b n = .inr k) :
 k ≤ t.length ∧ gI (t.take k) = true ∧ ∀ m, k < m → m ≤ t.length → gI (t.take m) = false := by
 obtain ⟨sg, c, r, rfl, rfl, h5, hs⟩ := FK t b n h
 rw [List.drop_left] at hk
 have ek := sV _ _ _ _ hk
 have c1 := bO (c :: r) eR
 have c2 := bO (c :: r) aG
 have c3 := bO (c :: r) fK
 have c4 := xI (c :: r)
 obtain ⟨w, hw', hm⟩ : ∃ w, (w = eR ∨ (w = aG ∧ 3 < aI (c :: r) w) ∨ w = fK) ∧ k = sg.length + aI (c :: r) w := by
  by_cases a1 : aI (c :: r) aG ≤ aI (c :: r) eR ∧ aI (c :: r) fK ≤ aI (c :: r) eR
  · exact ⟨eR, .inl rfl, by omega⟩
  · by_cases a2 : aI (c :: r) fK ≤ aI (c :: r) aG
    · exact ⟨aG, .inr (.inl ⟨rfl, by omega⟩), by omega⟩
    · exact ⟨fK, .inr (.inr rfl), by omega⟩
 have hw : w = eR ∨ w = aG ∨ w = fK := by
  rcases hw' with a | a | a
  · exact .inl a
  · exact .inr (.inl a.1)
  · exact .inr (.inr a)
 have cw := bO (c :: r) w
 refine ⟨by rw [List.length_append]; omega, ?_, fun m h1 h2 => ?_⟩
 · rw [gY]
   refine ⟨w.drop (aI (c :: r) w), CM w _ cw.2.2 hw', ?_⟩
   have e1 : (sg ++ c :: r).take k = sg ++ (c :: r).take (aI (c :: r) w) := by
    rw [hm, List.take_append]
    rw [List.take_of_length_le (by omega), Nat.add_sub_cancel_left]
   have e2 : ((c :: r).take (aI (c :: r) w) ++ w.drop (aI (c :: r) w)).map low = w := by
    have hl : Low w := by rcases hw with rfl | rfl | rfl <;> (intro x hx; revert x; decide)
    have hd : (w.drop (aI (c :: r) w)).map low = w.drop (aI (c :: r) w) := vT fun x hx => hl x (List.mem_of_mem_drop hx)
    rw [List.map_append, cw.1, hd, List.take_append_drop]
   obtain ⟨c', r', ew, hc'⟩ := xY hw
   obtain ⟨n', hn⟩ := tN sg ((c :: r).take (aI (c :: r) w) ++ w.drop (aI (c :: r) w)) c' r' (by rw [e2, ew]) hc' hs
   rw [e1, List.append_assoc, hn, e2]
   exact zU n' w hw
 · cases hb : gI ((sg ++ c :: r).take m) with
   | false => rfl
   | true =>
     exfalso
     rw [gY] at hb
     obtain ⟨e, he, d, hd⟩ := hb
     rw [List.length_append, List.length_cons] at h2
     obtain ⟨j, rfl⟩ : ∃ j, m = sg.length + (j + 1) := ⟨m - sg.length - 1, by omega⟩
     have e1 : (sg ++ c :: r).take (sg.length + (j + 1)) = sg ++ c :: r.take j := by
      rw [List.take_append, List.take_of_length_le (by omega), Nat.add_sub_cancel_left, List.take_succ_cons]
     rw [e1, List.append_assoc, List.cons_append] at hd
     obtain ⟨n', hn⟩ := tN sg (c :: (r.take j ++ e)) (low c) ((r.take j ++ e).map low) rfl (wD h5) hs
     rw [hn, List.map_cons] at hd
     have hq := rZ (wD h5) hd
     have key : ∀ w', low c :: (r.take j ++ e).map low = w' → j + 1 ≤ aI (c :: r) w' := by
      intro w' hw'
      refine mT (c :: r) w' (j + 1) ?_ (by rw [List.length_cons]; omega) ?_
      · rw [← hw']
        simp only [List.take_succ_cons, List.map_cons, List.map_append]
        rw [List.take_left' (by rw [List.length_map, List.length_take]; omega)]
      · rw [← hw', List.length_cons, List.length_map, List.length_append, List.length_take]; omega
     rcases hq with hq | hq | hq
     · have := key _ hq; omega
     · have := key _ hq; omega
     · have := key _ hq; omega

theorem GI (t : List Nat) : gC t = qE t := by
 have hok := sA t
 unfold qE
 cases hI : gC t with
 | inl d => rw [hI] at hok; rw [← hok]; rfl
 | inr k =>
   rw [hI] at hok
   rw [← hok]
   show Sum.inr k = Sum.inr (qS t t.length)
   congr 1
   unfold gC at hI
   cases hw : aQ t 0 1 (s0 false) with
   | stuck o =>
     rw [hw] at hI
     obtain rfl := Sum.inr.inj hI
     obtain ⟨_, a2, ⟨st', s', a3⟩, a4⟩ := CX t _ _ _ _ hw
     rw [Nat.sub_zero] at a3 a4
     refine (o6 t o (.inr (jN _ _ _ a3)) t.length (by omega) fun n h1 h2 => ?_).symm
     cases hb : gI (t.take n) with
     | false => rfl
     | true =>
       exfalso
       rw [gY] at hb
       obtain ⟨e, he, d, hd⟩ := hb
       rw [← sA] at hd
       unfold gC at hd
       rw [a4 (t.take n ++ e) (by rw [List.take_append_of_le_length (by rw [List.length_take]; omega), List.take_take, Nat.min_eq_left (by omega)])] at hd
       cases hd
   | word b n =>
     rw [hw] at hI
     obtain ⟨a1, a2, a3⟩ := CB t b n hw k hI
     exact (o6 t k (.inr a2) t.length a1 a3).symm
   | fin st s =>
     rw [hw] at hI
     simp only [Out.scan] at hI
     split at hI
     · cases hI
     · obtain rfl := Sum.inr.inj hI
       refine (o6 t t.length (.inr ?_) t.length (Nat.le_refl _) fun n h1 h2 => by omega).symm
       rw [List.take_length]
       exact jN t st s hw

end Go.Proofs.YtdfljbpcjkbflaaGreatDoor.M
namespace Go.Proofs.YtdfljbpcjkbflaaGreatDoor
open Go.RowKit
set_option linter.unusedVariables false
set_option maxRecDepth 100000
theorem RdB.tail {w : World} {b off : Nat} {bs : List Nat} (h : RdB w (some ⟨b, off, none⟩) bs) (k : Nat) : RdB w (some ⟨b, off + k, none⟩) (bs.drop k) := by
 refine ⟨fun x hx => h.1 x (List.mem_of_mem_drop hx), fun hp => ⟨b, off + k, rfl, fun i hi => ?_⟩⟩
 rw [List.length_drop] at hi
 obtain ⟨b', o', e, hc⟩ := h.2 (by omega)
 simp only [Option.some.injEq, Addr.mk.injEq, and_true] at e
 obtain ⟨rfl, rfl⟩ := e
 have := hc (k + i) (by omega)
 rw [Nat.add_assoc, this]
 simp [List.getD_eq_getElem?_getD, List.getElem?_drop]

theorem RdB.front {w : World} {a : Option Addr} {bs : List Nat} (h : RdB w a bs) (k : Nat) : RdB w a (bs.take k) := by
 refine ⟨fun x hx => h.1 x (List.mem_of_mem_take hx), fun hp => ?_⟩
 rw [List.length_take] at hp
 obtain ⟨b, off, e, hc⟩ := h.2 (by omega)
 refine ⟨b, off, e, fun i hi => ?_⟩
 rw [List.length_take] at hi
 rw [hc i (by omega)]
 simp [List.getD_eq_getElem?_getD, show i < k by omega]

def bG (s : ByteArray) : List Nat := s.data.toList.map (·.toNat)

def DN (bs : List Nat) : ByteArray := strOfNums (bs.map fun x : Nat => (x : Int))

theorem tD (bs : List Nat) (h : ∀ x ∈ bs, x < 256) : bG (DN bs) = bs := by
 unfold bG DN
 rw [strOfNums_data, List.map_map, List.map_map]
 refine (List.map_congr_left fun x hx => ?_).trans (List.map_id bs)
 have := h x hx
 simp [UInt8.toNat_ofNat']
 omega

theorem DU (ao : Option Addr) (n c : Nat) (bs : List Nat) (w : World) (hl : bs.length = n) (hr : RdB w ao bs) :
 ∀ dst, Tryz.prog.underlying dst = some .string → (convert 22 dst (.slice ao n c)).run Tryz.prog w = .ok (.string (DN bs)) w := by
 cases bs with
 | nil =>
   obtain rfl : n = 0 := by simpa using hl.symm
   cases ao with
   | none => exact run_convert_bytes_nil w 22 5 Tryz.underlying22 Tryz.underlying5 0 c
   | some a =>
     intro dst hd
     rw [run_convert_bytes_string w 22 dst 5 _ 0 c Tryz.underlying22 Tryz.underlying5 hd, run_bytesToString w a 0 c [] (run_loadCells_list w a [] (fun j v h => by simp at h))]
     rfl
 | cons x r =>
   obtain ⟨b2, o2, rfl, hc⟩ := hr.2 (by simp)
   exact run_convert_bytes_arg w 22 5 Tryz.underlying22 Tryz.underlying5 b2 o2 n c _ (by simpa using hl) fun i hi => by
    rw [hc i (by omega)]
    simp only [List.getD_eq_getElem?_getD, List.getElem?_map]
    rw [List.getElem?_eq_getElem (by omega)]; rfl

theorem vK (w : World) (row : Option Nat) : w.grownBy w row := ⟨rfl, rfl, rfl, Nat.le_refl _, fun _ _ _ => rfl⟩

theorem jW {ops : Array Oper} {rest : List Oper} {o : Oper} {a : Act} {Q : Exit → Act → World → Prop} (hgd : o.guard = none) (s x : Operand)
 (ho : o.op = .call { callee := .builtin .append, args := #[s, x], argTypes := #[22, 22] }) (w : World) (base : Nat)
 (v : Value) (n : Nat) (xs : List Nat) (hs : a.eval s = v) (hown : w.ownsRow base 5 1 v n (UB xs)) (ao : Option Addr) (m c : Nat) (ys : List Nat) (hx : a.eval x = .slice ao m c) (hl : ys.length = m)
 (hno : ao = none → c = 0) (hr : RdB w ao ys) (hn : n + m ≤ 1000000) (hbase : base ≤ w.heap.size)
 (h : ∀ ra rc w', w'.ownsRow base 5 1 (.slice ra (n + m) rc) (n + m) (UB (xs ++ ys)) → w.grownBy w' v.ownBlock → wpList Tryz.prog ops Q rest (a.put o.dst (.slice ra (n + m) rc)) w') : wpList Tryz.prog ops Q (o :: rest) a w := by
 obtain ⟨i0, hi, hz0, hz1, hz2⟩ := info_parts Tryz.infoY
 cases ao with
 | none =>
   obtain rfl := hno rfl
   have hm : m = 0 := by
    rcases Nat.eq_zero_or_pos m with e | e
    · exact e
    · obtain ⟨b, off, e2, _⟩ := hr.2 (by omega)
      cases e2
   subst hm
   have hys : ys = [] := List.length_eq_zero_iff.1 hl
   subst hys
   obtain ⟨ra, rc, rfl⟩ := dF hown
   refine wpList_append_own_none hgd s x 22 ho base 5 i0 1 Tryz.underlying22 hi _ n (UB xs) hs hown hx ?_
   exact h ra rc w (by rw [List.append_nil]; exact hown) (vK _ _)
 | some ad =>
   refine wpList_append_own w hgd s x 22 ho base 5 i0 (.int .u8 0) 1 1 Tryz.underlying22 hi hz0 hz1 hz2 rfl (by decide) v n (UB xs) hs hown ad m c (UB ys) hx (by rw [aU, hl, Nat.mul_one]) ?_ (jT _) (by unfold maxLen; omega) (by omega) hbase ?_
   · intro j u hj
     have hjl : j < ys.length := by
      rcases Nat.lt_or_ge j ys.length with k | k
      · exact k
      · rw [List.getElem?_eq_none (by rw [aU]; exact k)] at hj; cases hj
     obtain ⟨b, off, e2, hc⟩ := hr.2 (by omega)
     cases e2
     rw [gV ys j hjl] at hj
     cases hj
     rw [Addr.add_lit]
     exact hc j hjl
   · intro v' w' hown' hg _
     obtain ⟨ra, rc, rfl⟩ := dF hown'
     exact h ra rc w' (by rw [bZ]; exact hown') hg

theorem pL (s : ByteArray) : Lib.strCells s = UB (bG s) := by
 unfold Lib.strCells UB bG
 rw [List.map_map]; rfl

theorem xQ {ops : Array Oper} {rest : List Oper} {o : Oper} {a : Act} {Q : Exit → Act → World → Prop} (hgd : o.guard = none) (sl x : Operand)
 (ho : o.op = .call { callee := .builtin .append, args := #[sl, x], argTypes := #[22, 9] }) (w : World) (base : Nat)
 (v : Value) (n : Nat) (xs : List Nat) (hs : a.eval sl = v) (hown : w.ownsRow base 5 1 v n (UB xs)) (s : ByteArray) (hx : a.eval x = .string s) (hn : n + s.size ≤ 1000000) (hbase : base ≤ w.heap.size)
 (h : ∀ ra rc w', w'.ownsRow base 5 1 (.slice ra (n + s.size) rc) (n + s.size) (UB (xs ++ bG s)) → w.grownBy w' v.ownBlock → wpList Tryz.prog ops Q rest (a.put o.dst (.slice ra (n + s.size) rc)) w') : wpList Tryz.prog ops Q (o :: rest) a w := by
 obtain ⟨i0, hi, hz0, hz1, hz2⟩ := info_parts Tryz.infoY
 refine Lib.wpList_append_own_string w hgd sl x 22 9 ho base 5 i0 Tryz.underlying22 Tryz.underlying9 hi hz0 hz1 hz2 v n (UB xs) hs hown s hx (by unfold maxLen; omega) (by omega) hbase ?_
 intro v' w' hown' hg _
 obtain ⟨ra, rc, rfl⟩ := dF hown'
 exact h ra rc w' (by rw [bZ, ← pL]; exact hown') hg

end Go.Proofs.YtdfljbpcjkbflaaGreatDoor
