import Derived.Test.YtdpbhbpcpnlbkaaRows
namespace Go.Proofs.Ytdpbhbpcpnlbkaa
set_option linter.unusedVariables false
set_option maxRecDepth 100000
namespace Q

structure Slo where
 key : Option (Int × Int)
 mark : Bool
 stamp : Nat

structure Sea where
 ph : Nat
 i : Nat
 pl : Nat
 seen : Nat

structure Cch where
 sl : Nat → Nat → Slo
 hand : Nat → Nat
 hits : Nat
 made : Nat
 pub : Nat
 ev : Nat
 lost : Nat

def new : Sea := ⟨0, 0, 0, 0⟩

def put (f : Nat → Nat → Slo) (s j : Nat) (x : Slo) : Nat → Nat → Slo := fun a b => if a = s ∧ b = j then x else f a b

def stp (S : Nat) (k : Int × Int) (s h : Nat) (c : Cch) (q : Sea) : Cch × Sea × Nat :=
 if q.ph = 0 then
  if (c.sl s ((h + q.i) % S)).key = some k then ({ c with sl := put c.sl s ((h + q.i) % S) { c.sl s ((h + q.i) % S) with mark := true }, hits := c.hits + 1 }, q, 1)
  else if q.i + 1 = S then (c, { q with i := q.i + 1, ph := 1 }, 0) else (c, { q with i := q.i + 1 }, 0)
 else if q.ph = 1 then ({ c with made := c.made + 1 }, { q with ph := 2, i := 0 }, 0)
 else if q.ph = 2 then
  if q.i < S then
   if (c.sl s ((h + q.i) % S)).key = none then (c, { q with ph := 3, pl := (h + q.i) % S, seen := (c.sl s ((h + q.i) % S)).stamp }, 0)
   else (c, { q with i := q.i + 1 }, 0)
  else if (c.sl s (c.hand s)).mark = true then ({ c with hand := fun a => if a = s then (c.hand s + 1) % S else c.hand a, sl := put c.sl s (c.hand s) { c.sl s (c.hand s) with mark := false } }, q, 0)
  else ({ c with hand := fun a => if a = s then (c.hand s + 1) % S else c.hand a }, { q with ph := 3, pl := c.hand s, seen := (c.sl s (c.hand s)).stamp }, 0)
 else if (c.sl s q.pl).stamp ≠ q.seen then ({ c with lost := c.lost + 1 }, { q with ph := 0, i := 0 }, 0)
 else ({ c with sl := put c.sl s q.pl ⟨some k, false, (c.sl s q.pl).stamp + 1⟩, pub := c.pub + 1, ev := if (c.sl s q.pl).key = none then c.ev else c.ev + 1 }, q, 2)

structure SeaOk (S : Nat) (q : Sea) : Prop where
 ph : q.ph ≤ 3
 i : q.i ≤ S
 i0 : q.ph = 0 → q.i < S
 pl : q.ph = 3 → q.pl < S

structure CchOk (S n : Nat) (c : Cch) : Prop where
 st : ∀ s j, (c.sl s j).stamp ≤ n
 hand : ∀ s, c.hand s < S
 hits : c.hits ≤ n
 made : c.made ≤ n
 pub : c.pub ≤ n
 ev : c.ev ≤ n
 lost : c.lost ≤ n

theorem put_stamp {f : Nat → Nat → Slo} {s j n : Nat} {x : Slo} (h : ∀ s j, (f s j).stamp ≤ n) (hx : x.stamp ≤ n + 1) : ∀ a b, (put f s j x a b).stamp ≤ n + 1 := by
 intro a b; unfold put; split
 · exact hx
 · have := h a b; omega

theorem stp_ok {S n : Nat} (hS : 0 < S) {k : Int × Int} {s h : Nat} {c : Cch} {q : Sea} (hc : CchOk S n c) (hq : SeaOk S q) :
 CchOk S (n + 1) (stp S k s h c q).1 ∧ SeaOk S (stp S k s h c q).2.1 ∧ (stp S k s h c q).2.2 ≤ 2 := by
 obtain ⟨q1, q2, q3, q4⟩ := hq
 obtain ⟨c1, c2, c3, c4, c5, c6, c7⟩ := hc
 have c1' : ∀ s j, (c.sl s j).stamp ≤ n + 1 := fun s j => Nat.le_succ_of_le (c1 s j)
 have hm := Nat.mod_lt (h + q.i) hS
 have hh : ∀ a, (if a = s then (c.hand s + 1) % S else c.hand a) < S := by
  intro a; split
  · exact Nat.mod_lt _ hS
  · exact c2 a
 unfold stp
 repeat' split
 all_goals refine ⟨⟨?_, ?_, ?_, ?_, ?_, ?_, ?_⟩, ⟨?_, ?_, ?_, ?_⟩, ?_⟩
 all_goals first
  | exact c1'
  | exact c2
  | exact hh
  | exact put_stamp c1 (by have := c1 s ((h + q.i) % S); simp only; omega)
  | exact put_stamp c1 (by have := c1 s (c.hand s); simp only; omega)
  | exact put_stamp c1 (by have := c1 s q.pl; simp only; omega)
  | exact fun _ => c2 s
  | (simp only; omega)
  | (simp only; split <;> omega)

structure Rst where
 c : Cch
 fin : Nat → Nat
 cur : Nat → Sea
 ts : Nat → Nat
 out : Nat → Nat → Nat

def updN {α : Type} (f : Nat → α) (t : Nat) (x : α) : Nat → α := fun a => if a = t then x else f a

def shd (N : Nat) (k : Int × Int) : Nat := (((k.1 + 5200) * 7 + k.2).tmod N).toNat

def hom (S : Nat) (k : Int × Int) : Nat := ((k.1 + 5200 + 3 * k.2).tmod S).toNat

def keyAt (tasks : List (List (Int × Int))) (t i : Nat) : Int × Int := ((tasks.getD t []).getD i (0, 0))

def lenAt (tasks : List (List (Int × Int))) (t : Nat) : Nat := (tasks.getD t []).length

def stepR (N S : Nat) (tasks : List (List (Int × Int))) (t : Nat) (r : Rst) : Rst :=
 let k := keyAt tasks t (r.fin t)
 let x := stp S k (shd N k) (hom S k) r.c (r.cur t)
 { c := x.1
   ts := updN r.ts t (r.ts t + 1)
   cur := updN r.cur t (if x.2.2 = 0 then x.2.1 else new)
   fin := updN r.fin t (if x.2.2 = 0 then r.fin t else r.fin t + 1)
   out := if x.2.2 = 0 then r.out else updN r.out t (updN (r.out t) (r.fin t) x.2.2) }

def liv (tasks : List (List (Int × Int))) (r : Rst) : List Nat := (List.range tasks.length).filter (fun t => decide (r.fin t < lenAt tasks t))

def plc (picks : List Int) (n L : Nat) : Nat := if n < picks.length then ((picks.getD n 0) % (L : Int)).toNat else (n - picks.length) % L

def Rst.init : Rst := { c := ⟨fun _ _ => ⟨none, false, 0⟩, fun _ => 0, 0, 0, 0, 0, 0⟩, fin := fun _ => 0, cur := fun _ => new, ts := fun _ => 0, out := fun _ _ => 0 }

def run (N S : Nat) (tasks : List (List (Int × Int))) (picks : List Int) : Nat → Rst
 | 0 => Rst.init
 | n + 1 => let r := run N S tasks picks n
            stepR N S tasks ((liv tasks r).getD (plc picks n (liv tasks r).length) 0) r

structure RstOk (S n : Nat) (tasks : List (List (Int × Int))) (r : Rst) : Prop where
 c : CchOk S n r.c
 q : ∀ t, SeaOk S (r.cur t)
 ts : ∀ t, r.ts t ≤ n
 fin : ∀ t, r.fin t ≤ lenAt tasks t
 out : ∀ t i, r.out t i ≤ 2

theorem plc_lt (picks : List Int) (n L : Nat) (h : 0 < L) : plc picks n L < L := by
 unfold plc; split
 · have h1 := Int.emod_nonneg (picks.getD n 0) (b := (L : Int)) (by omega)
   have h2 := Int.emod_lt_of_pos (picks.getD n 0) (b := (L : Int)) (by omega)
   omega
 · exact Nat.mod_lt _ h

theorem liv_mem {tasks : List (List (Int × Int))} {r : Rst} {t : Nat} : t ∈ liv tasks r ↔ t < tasks.length ∧ r.fin t < lenAt tasks t := by
 unfold liv; simp

theorem stepR_ok {N S n : Nat} (hS : 0 < S) {tasks : List (List (Int × Int))} {t : Nat} {r : Rst} (h : RstOk S n tasks r) (hl : r.fin t < lenAt tasks t) : RstOk S (n + 1) tasks (stepR N S tasks t r) := by
 obtain ⟨h1, h2, h3, h4, h5⟩ := h
 obtain ⟨a, b, c⟩ := stp_ok (k := keyAt tasks t (r.fin t)) (s := shd N (keyAt tasks t (r.fin t))) (h := hom S (keyAt tasks t (r.fin t))) hS h1 (h2 t)
 unfold stepR
 refine ⟨a, fun t' => ?_, fun t' => ?_, fun t' => ?_, fun t' i => ?_⟩
 · simp only [updN]; split
   · split
     · exact b
     · exact ⟨by simp [new], by simp [new], fun _ => hS, by simp [new]⟩
   · exact h2 t'
 · simp only [updN]; split
   · have := h3 t; omega
   · have := h3 t'; omega
 · simp only [updN]; split
   · rename_i e; subst e
     split <;> omega
   · exact h4 t'
 · simp only; split
   · exact h5 t' i
   · unfold updN; split
     · simp only
       split
       · exact c
       · exact h5 t i
     · exact h5 t' i

theorem run_ok {N S : Nat} (hS : 0 < S) (tasks : List (List (Int × Int))) (picks : List Int) : ∀ n, (∀ m, m < n → liv tasks (run N S tasks picks m) ≠ []) → RstOk S n tasks (run N S tasks picks n)
 | 0, _ => by
   refine ⟨⟨?_, ?_, ?_, ?_, ?_, ?_, ?_⟩, fun t => ⟨?_, ?_, fun _ => hS, ?_⟩, ?_, ?_, ?_⟩ <;> simp [run, Rst.init, new, hS]
 | n + 1, h => by
   have ih := run_ok hS tasks picks n (fun m hm => h m (by omega))
   have hne := h n (by omega)
   have hlen : 0 < (liv tasks (run N S tasks picks n)).length := List.length_pos_iff.2 hne
   have hp := plc_lt picks n _ hlen
   refine stepR_ok hS ih ?_
   have hm : (liv tasks (run N S tasks picks n)).getD (plc picks n (liv tasks (run N S tasks picks n)).length) 0 ∈ liv tasks (run N S tasks picks n) := by
    rw [List.getD_eq_getElem?_getD, List.getElem?_eq_getElem hp]; exact List.getElem_mem hp
   exact (liv_mem.1 hm).2

end Q

namespace Q

theorem stepR_fin_other {N S : Nat} {tasks : List (List (Int × Int))} {t a : Nat} {r : Rst} (h : a ≠ t) : (stepR N S tasks t r).fin a = r.fin a := by
 show updN r.fin t _ a = _
 unfold updN; rw [if_neg h]

theorem liv_nodup (tasks : List (List (Int × Int))) (r : Rst) : (liv tasks r).Nodup := List.Pairwise.filter _ List.nodup_range

theorem liv_same {N S : Nat} {tasks : List (List (Int × Int))} {t : Nat} {r : Rst} (h : r.fin t < lenAt tasks t) (h' : (stepR N S tasks t r).fin t < lenAt tasks t) : liv tasks (stepR N S tasks t r) = liv tasks r := by
 unfold liv
 apply List.filter_congr
 intro a _
 by_cases e : a = t
 · subst e; simp [h, h']
 · rw [stepR_fin_other e]

theorem filter_erase {l : List Nat} (nd : l.Nodup) : ∀ {p t : Nat} (hp : p < l.length), l[p] = t → l.filter (fun a => decide (a ≠ t)) = l.eraseIdx p := by
 induction l with
 | nil => intro p t hp; simp at hp
 | cons x xs ih =>
   intro p t hp ht
   subst ht
   obtain ⟨n1, n2⟩ := List.nodup_cons.1 nd
   cases p with
   | zero =>
     simp only [List.getElem_cons_zero, List.eraseIdx_cons_zero]
     rw [List.filter_cons_of_neg (by simp), List.filter_eq_self.2 (fun a ha => by simp; intro e; exact n1 (e ▸ ha))]
   | succ p =>
     simp only [List.getElem_cons_succ, List.eraseIdx_cons_succ]
     have hp' : p < xs.length := by simpa using hp
     rw [List.filter_cons_of_pos (by simp; intro e; exact n1 (e ▸ List.getElem_mem hp')), ih n2 hp' rfl]

theorem liv_del {N S : Nat} {tasks : List (List (Int × Int))} {t p : Nat} {r : Rst} (hp : p < (liv tasks r).length) (ht : (liv tasks r)[p] = t) (h' : ¬ (stepR N S tasks t r).fin t < lenAt tasks t) : liv tasks (stepR N S tasks t r) = (liv tasks r).eraseIdx p := by
 have e1 : liv tasks (stepR N S tasks t r) = (liv tasks r).filter (fun a => decide (a ≠ t)) := by
  unfold liv
  rw [List.filter_filter]
  apply List.filter_congr
  intro a _
  by_cases e : a = t
  · subst e; simp [h']
  · rw [stepR_fin_other e]; simp [e]
 rw [e1]
 exact filter_erase (liv_nodup tasks r) hp ht

end Q

namespace Q

def vw (S : Nat) (c : Cch) (p : Nat) : List (Nat × Nat × (Int × Int) × Bool) :=
 match (c.sl (p / S) (p % S)).key with
 | none => []
 | some k => [(p / S, p % S, k, (c.sl (p / S) (p % S)).mark)]

def vws (S : Nat) (c : Cch) (n : Nat) : List (Nat × Nat × (Int × Int) × Bool) := (List.range n).flatMap (vw S c)

theorem vws_succ (S : Nat) (c : Cch) (n : Nat) : vws S c (n + 1) = vws S c n ++ vw S c n := by
 unfold vws; rw [List.range_succ, List.flatMap_append]; simp

theorem vw_len (S : Nat) (c : Cch) (n : Nat) : (vw S c n).length ≤ 1 := by
 unfold vw; split <;> simp

theorem vws_len (S : Nat) (c : Cch) (n : Nat) : (vws S c n).length ≤ n := by
 induction n with
 | zero => simp [vws]
 | succ n ih =>
   rw [vws_succ, List.length_append]
   have := vw_len S c n
   omega

theorem fdiv {S i j : Nat} (hj : j < S) : (i * S + j) / S = i ∧ (i * S + j) % S = j := by
 have hS : 0 < S := by omega
 constructor
 · rw [Nat.mul_comm, Nat.mul_add_div hS, Nat.div_eq_of_lt hj]; omega
 · rw [Nat.mul_comm, Nat.mul_add_mod, Nat.mod_eq_of_lt hj]

theorem vw_none {S i j : Nat} {c : Cch} (hj : j < S) (h : (c.sl i j).key = none) : vw S c (i * S + j) = [] := by
 unfold vw; rw [(fdiv hj).1, (fdiv hj).2, h]

theorem vw_some {S i j : Nat} {c : Cch} {k : Int × Int} (hj : j < S) (h : (c.sl i j).key = some k) : vw S c (i * S + j) = [(i, j, k, (c.sl i j).mark)] := by
 unfold vw; rw [(fdiv hj).1, (fdiv hj).2, h]

theorem vws_no {S i j : Nat} {c : Cch} (hj : j < S) (h : (c.sl i j).key = none) : vws S c (i * S + j + 1) = vws S c (i * S + j) := by
 rw [vws_succ, vw_none hj h, List.append_nil]

theorem vws_yes {S i j : Nat} {c : Cch} {k : Int × Int} (hj : j < S) (h : (c.sl i j).key = some k) : vws S c (i * S + j + 1) = vws S c (i * S + j) ++ [(i, j, k, (c.sl i j).mark)] := by
 rw [vws_succ, vw_some hj h]

end Q

end Go.Proofs.Ytdpbhbpcpnlbkaa
