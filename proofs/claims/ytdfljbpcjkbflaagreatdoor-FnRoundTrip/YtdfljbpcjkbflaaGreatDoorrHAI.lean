import Derived.Test.YtdfljbpcjkbflaaGreatDoorrHAH
namespace Go.Proofs.YtdfljbpcjkbflaaGreatDoor
set_option linter.unusedVariables false
set_option maxRecDepth 100000
namespace M

def cZ (z : Int) : List Nat := (if z < 0 then [45] else []) ++ txt z.natAbs

def pt (ds : List Nat) (p : Int) : List Nat :=
 if p < -5 ∨ 21 < p then ds.take 1 ++ ((if 1 < ds.length then 46 :: ds.drop 1 else []) ++ (101 :: cZ (p - 1)))
 else if p ≤ 0 then 48 :: 46 :: (List.replicate (-p).toNat 48 ++ ds)
 else if (ds.length : Int) ≤ p then ds ++ List.replicate (p - ds.length).toNat 48
 else ds.take p.toNat ++ (46 :: ds.drop p.toNat)

def sgl (ng : Bool) : List Nat := if ng then [45] else []

theorem qQ9 (ng : Bool) : (sgl ng).length ≤ 1 := by cases ng <;> simp [sgl]

theorem sG (ng : Bool) : ∀ x ∈ sgl ng, x < 256 := by cases ng <;> simp [sgl]

theorem yM (v : Nat) : ∀ x ∈ txt v, x < 256 := fun x hx => by
 have := gG v x hx
 omega

theorem oT (z : Int) : ∀ x ∈ cZ z, x < 256 := by
 intro x hx
 unfold cZ at hx
 rcases List.mem_append.1 hx with h | h
 · split at h
   · simp at h; omega
   · simp at h
 · exact yM _ x h

theorem vD (z : Int) (h : z.natAbs < 10000) : (cZ z).length ≤ 5 := by
 unfold cZ
 rw [List.length_append]
 have := iC 3 z.natAbs (by omega)
 split <;> simp <;> omega

theorem DL (z : Int) : 0 < (cZ z).length := by
 unfold cZ
 rw [List.length_append]
 have := iA z.natAbs
 omega

theorem xT (ds : List Nat) (p : Int) (h : ∀ x ∈ ds, x < 256) : ∀ x ∈ pt ds p, x < 256 := by
 intro x hx
 unfold pt at hx
 split at hx
 · rcases List.mem_append.1 hx with g | g
   · exact h x (List.mem_of_mem_take g)
   · rcases List.mem_append.1 g with g | g
     · split at g
       · rcases List.mem_cons.1 g with g | g
         · omega
         · exact h x (List.mem_of_mem_drop g)
       · simp at g
     · rcases List.mem_cons.1 g with g | g
       · omega
       · exact oT _ x g
 · split at hx
   · rcases List.mem_cons.1 hx with g | g
     · omega
     · rcases List.mem_cons.1 g with g | g
       · omega
       · rcases List.mem_append.1 g with g | g
         · have := (List.mem_replicate.1 g).2; omega
         · exact h x g
   · split at hx
     · rcases List.mem_append.1 hx with g | g
       · exact h x g
       · have := (List.mem_replicate.1 g).2; omega
     · rcases List.mem_append.1 hx with g | g
       · exact h x (List.mem_of_mem_take g)
       · rcases List.mem_cons.1 g with g | g
         · omega
         · exact h x (List.mem_of_mem_drop g)

theorem IV (ds : List Nat) (p : Int) (h : (p - 1).natAbs < 10000) : (pt ds p).length ≤ ds.length + 40 := by
 have e := vD (p - 1) h
 unfold pt
 split
 · rw [List.length_append, List.length_append, List.length_cons, List.length_take]
   split
   · rw [List.length_cons, List.length_drop]; omega
   · simp; omega
 · split
   · simp; omega
   · split
     · simp; omega
     · simp; omega

end M

end Go.Proofs.YtdfljbpcjkbflaaGreatDoor
namespace Go.Proofs.YtdfljbpcjkbflaaGreatDoor.M
set_option linter.unusedVariables false
set_option maxRecDepth 100000
theorem mI {k : Nat} : ∀ {a : List Nat}, (∀ x ∈ a, x ≠ k) → cut k a = (a, [], false)
 | [], _ => rfl
 | x :: r, h => by
   rw [cut, if_neg (h x (by simp)), mI (fun y hy => h y (by simp [hy]))]

theorem mK {k : Nat} (b : List Nat) : ∀ {a : List Nat}, (∀ x ∈ a, x ≠ k) → cut k (a ++ k :: b) = (a, b, true)
 | [], _ => by simp [cut]
 | x :: r, h => by
   rw [List.cons_append, cut, if_neg (h x (by simp)), mK b (fun y hy => h y (by simp [hy]))]

theorem gF {l : List Nat} (h : ∀ x ∈ l, 48 ≤ x ∧ x ≤ 57) : l.all dgt = true := by
 rw [List.all_eq_true]
 intro x hx
 exact (rD x).2 (h x hx)

theorem BO {l : List Nat} (h : ∀ x ∈ l, x < 65 ∨ 90 < x) : l.map low = l := by
 induction l with
 | nil => rfl
 | cons x r ih =>
   rw [List.map_cons, ih (fun y hy => h y (by simp [hy]))]
   have := h x (by simp)
   unfold low
   rw [if_neg (by omega)]

theorem oM {x : Nat} {l : List Nat} (h : x ≠ 48) : aP (x :: l) = x :: l := by
 unfold aP; rw [List.dropWhile_cons, if_neg (by simpa using h)]

theorem iQ (l : List Nat) : ∀ n, aP (List.replicate n 48 ++ l) = aP l
 | 0 => rfl
 | n + 1 => by
   rw [List.replicate_succ, List.cons_append]
   unfold aP at *
   rw [List.dropWhile_cons, if_pos (by simp)]
   exact iQ l n

theorem zH (l : List Nat) (n : Nat) : bY (l ++ List.replicate n 48) = bY l := by
 unfold bY
 rw [List.reverse_append, List.reverse_replicate]
 have := iQ l.reverse n
 unfold aP at this
 rw [this]

theorem wU {l : List Nat} (h : ∀ x, l.getLast? = some x → x ≠ 48) : bY l = l := by
 unfold bY
 cases hr : l.reverse with
 | nil => simp at hr; rw [hr]; rfl
 | cons x r =>
   have : l.getLast? = some x := by rw [List.getLast?_eq_head?_reverse, hr]; rfl
   rw [List.dropWhile_cons, if_neg (by simpa using h x this), ← hr, List.reverse_reverse]

structure Dg (ds : List Nat) : Prop where
 d : ∀ x ∈ ds, 48 ≤ x ∧ x ≤ 57
 h : ∃ x r, ds = x :: r ∧ x ≠ 48
 l : ∀ x, ds.getLast? = some x → x ≠ 48

theorem Dg.trim {ds : List Nat} (h : Dg ds) : aP ds = ds ∧ bY ds = ds := by
 obtain ⟨x, r, e, hx⟩ := h.h
 refine ⟨by rw [e]; exact oM hx, wU h.l⟩

theorem Dg.bare {ds : List Nat} (h : Dg ds) (z1 z2 : Nat) : aT (List.replicate z1 48 ++ (ds ++ List.replicate z2 48)) = ds ∧ (aP (List.replicate z1 48 ++ (ds ++ List.replicate z2 48))).length = ds.length + z2 := by
 obtain ⟨x, r, e, hx⟩ := h.h
 have e1 : aP (List.replicate z1 48 ++ (ds ++ List.replicate z2 48)) = ds ++ List.replicate z2 48 := by
  rw [iQ, e, List.cons_append, oM hx]
 unfold aT
 rw [e1]
 refine ⟨by rw [zH]; exact h.trim.2, by simp⟩

theorem Dg.decOf {ds : List Nat} (h : Dg ds) (ng : Bool) (z1 z2 b : Nat) (x : Bool × Nat) (p : Int) (hp : (if x.1 then -(x.2 : Int) else x.2) - b + z2 = p - ds.length) : decOf ng (List.replicate z1 48 ++ (ds ++ List.replicate z2 48)) b x = ⟨1, ng, ds, p - ds.length⟩ := by
 obtain ⟨b1, b2⟩ := h.bare z1 z2
 obtain ⟨y, r, e, hy⟩ := h.h
 unfold M.decOf fF
 rw [b1, b2, if_neg (by rw [e]; simp)]
 congr 1
 have : ((ds.length + z2 : Nat) : Int) = (ds.length : Int) + z2 := by simp
 omega

theorem tH : ∀ (l : List Nat) (x : Nat), x * 10 ^ l.length + dec l ≤ 1000000 → nG x l = x * 10 ^ l.length + dec l
 | [], x, _ => by simp [nG, dec]
 | c :: l, x, h => by
   have e : x * 10 ^ (c :: l).length + dec (c :: l) = (x * 10 + (c - 48)) * 10 ^ l.length + dec l := by
    rw [oD, List.length_cons, Nat.pow_succ, Nat.add_mul, Nat.mul_assoc, Nat.mul_comm (10 ^ l.length) 10]; omega
   rw [e] at h ⊢
   have h1 : x * 10 + (c - 48) ≤ (x * 10 + (c - 48)) * 10 ^ l.length := Nat.le_mul_of_pos_right _ (Nat.pow_pos (by omega))
   have h2 : nG x (c :: l) = nG (min (x * 10 + (c - 48)) 1000000) l := rfl
   rw [h2, Nat.min_eq_left (by omega)]
   exact tH l _ h

theorem tR (z : Int) (hz : z.natAbs ≤ 1000000) : (signed (cZ z)).1 = txt z.natAbs ∧ (signed (cZ z)).2 = decide (z < 0) := by
 unfold cZ
 by_cases h : z < 0
 · rw [if_pos h]; simp [signed, h]
 · rw [if_neg h, List.nil_append]
   have hp := iA z.natAbs
   cases ht : txt z.natAbs with
   | nil => rw [ht] at hp; simp at hp
   | cons x r =>
     have := gG z.natAbs x (by rw [ht]; simp)
     rw [fP _ (show ¬ (x = 43 ∨ x = 45) by omega)]
     exact ⟨rfl, by simp [h]⟩

theorem GH {ds : List Nat} (h : Dg ds) (ng : Bool) (p : Int) (hp : (p - 1).natAbs ≤ 1000000) : rU ng (pt ds p) = some ⟨1, ng, ds, p - ds.length⟩ := by
 obtain ⟨x, r, e, hx⟩ := h.h
 have hd := h.d
 have ne101 : ∀ y ∈ ds, y ≠ 101 := fun y hy => by have := hd y hy; omega
 have ne46 : ∀ y ∈ ds, y ≠ 46 := fun y hy => by have := hd y hy; omega
 have rep : ∀ n, ∀ y ∈ List.replicate n 48, y = 48 := fun n y hy => (List.mem_replicate.1 hy).2
 have fin : ∀ (v a b l : List Nat) (z1 z2 : Nat) (c : List Nat × List Nat × Bool) (xx : Bool × Nat), cut 101 v = c → (cut 46 c.1).1 = a → (cut 46 c.1).2.1 = b → iK c = some xx → a.all dgt = true → b.all dgt = true → a ++ b = List.replicate z1 48 ++ (ds ++ List.replicate z2 48) → (if xx.1 then -(xx.2 : Int) else xx.2) - b.length + z2 = p - ds.length → rU ng v = some ⟨1, ng, ds, p - ds.length⟩ := by
  intro v a b l z1 z2 c xx hc ha hb hpw hda hdb hab hxx
  unfold rU
  rw [hc, ha, hb]
  have hl : a.length + b.length ≠ 0 := by
   have := congrArg List.length hab
   rw [e] at this
   simp at this
   omega
  rw [if_neg (by rw [hda, hdb]; rintro (g | g | g); exact absurd g (by decide); exact absurd g (by decide); exact hl g), hpw, Option.map_some, hab, h.decOf ng z1 z2 _ xx p hxx]
 unfold pt
 by_cases c1 : p < -5 ∨ 21 < p
 · rw [if_pos c1]
   obtain ⟨s1, s2⟩ := tR (p - 1) hp
   have hpw : ∀ a, iK (a, cZ (p - 1), true) = some (decide (p - 1 < 0), (p - 1).natAbs) := fun a => by
    unfold iK
    simp only [if_true]
    rw [s1, s2]
    have ht := iA (p - 1).natAbs
    have hne : txt (p - 1).natAbs ≠ [] := fun h0 => by rw [h0] at ht; simp at ht
    have hall : (txt (p - 1).natAbs).all dgt = true := gF (fun y hy => by have := gG _ y hy; omega)
    rw [if_neg (by rw [hall]; simpa using hne), tH _ 0 (by rw [sQ]; omega), sQ]
    simp
   have hxx : (if decide (p - 1 < 0) = true then -((p - 1).natAbs : Int) else ((p - 1).natAbs : Int)) = p - 1 := by
    split
    · rename_i g; simp at g; omega
    · rename_i g; simp at g; omega
   by_cases c2 : 1 < ds.length
   · rw [if_pos c2]
     have et : ds.take 1 = [x] := by rw [e]; rfl
     have ed : ds.drop 1 = r := by rw [e]; rfl
     rw [et, ed]
     have hr : ∀ y ∈ r, y ∈ ds := fun y hy => by rw [e]; simp [hy]
     have hc : cut 101 ([x] ++ (46 :: r ++ 101 :: cZ (p - 1))) = ([x] ++ 46 :: r, cZ (p - 1), true) := by
      rw [← List.append_assoc]
      refine mK _ (fun y hy => ?_)
      simp at hy
      rcases hy with rfl | rfl | hy
      · exact ne101 _ (by rw [e]; simp)
      · decide
      · exact ne101 y (hr y hy)
     have h46 : cut 46 ([x] ++ 46 :: r) = ([x], r, true) := mK r (fun y hy => by simp at hy; subst hy; exact ne46 _ (by rw [e]; simp))
     refine fin _ [x] r [] 0 0 _ _ hc (by rw [h46]) (by rw [h46]) (hpw _) (gF (fun y hy => by simp at hy; subst hy; exact hd _ (by rw [e]; simp))) (gF (fun y hy => hd y (hr y hy))) (by rw [e]; simp) ?_
     simp only [hxx]
     have : ds.length = r.length + 1 := by rw [e]; simp
     omega
   · rw [if_neg c2, List.nil_append]
     have er : r = [] := by
      have h1 : ds.length = r.length + 1 := by rw [e]; rfl
      exact List.length_eq_zero_iff.1 (by omega)
     subst er
     rw [e]
     have hc : cut 101 (List.take 1 [x] ++ 101 :: cZ (p - 1)) = ([x], cZ (p - 1), true) := mK _ (fun y hy => by simp at hy; subst hy; exact ne101 _ (by rw [e]; simp))
     have h46 : cut 46 [x] = ([x], [], false) := mI (fun y hy => by simp at hy; subst hy; exact ne46 _ (by rw [e]; simp))
     have := fin _ [x] [] [] 0 0 _ _ hc (by rw [h46]) (by rw [h46]) (hpw _) (gF (fun y hy => by simp at hy; subst hy; exact hd _ (by rw [e]; simp))) (by simp) (by rw [e]; simp) (by
      simp only [hxx]
      have : ds.length = 1 := by rw [e]; simp
      simp; omega)
     rw [e] at this
     exact this
 · rw [if_neg c1]
   have p0 : ∀ a, iK (a, [], false) = some (false, 0) := fun a => by unfold iK; simp
   by_cases c2 : p ≤ 0
   · rw [if_pos c2]
     have hc : cut 101 (48 :: 46 :: (List.replicate (-p).toNat 48 ++ ds)) = (48 :: 46 :: (List.replicate (-p).toNat 48 ++ ds), [], false) := mI (fun y hy => by
      simp at hy
      rcases hy with rfl | rfl | ⟨-, rfl⟩ | hy
      · decide
      · decide
      · decide
      · exact ne101 y hy)
     have h46 : cut 46 (48 :: 46 :: (List.replicate (-p).toNat 48 ++ ds)) = ([48], List.replicate (-p).toNat 48 ++ ds, true) := mK (a := [48]) _ (fun y hy => by simp at hy; omega)
     refine fin _ [48] _ [] ((-p).toNat + 1) 0 _ _ hc (by rw [h46]) (by rw [h46]) (p0 _) (by decide) (gF (fun y hy => ?_)) (by simp [List.replicate_succ]) ?_
     · rcases List.mem_append.1 hy with g | g
       · have := rep _ y g; omega
       · exact hd y g
     · simp; omega
   · rw [if_neg c2]
     by_cases c3 : (ds.length : Int) ≤ p
     · rw [if_pos c3]
       have hn : ∀ k, k ≠ 48 → (∀ y ∈ ds, y ≠ k) → ∀ y ∈ ds ++ List.replicate (p - ds.length).toNat 48, y ≠ k := fun k hk hks y hy => by
        rcases List.mem_append.1 hy with g | g
        · exact hks y g
        · rw [rep _ y g]; exact fun h => hk h.symm
       have hc : cut 101 (ds ++ List.replicate (p - ds.length).toNat 48) = (ds ++ List.replicate (p - ds.length).toNat 48, [], false) := mI (hn 101 (by decide) ne101)
       have h46 : cut 46 (ds ++ List.replicate (p - ds.length).toNat 48) = (ds ++ List.replicate (p - ds.length).toNat 48, [], false) := mI (hn 46 (by decide) ne46)
       refine fin _ _ [] [] 0 (p - ds.length).toNat _ _ hc (by rw [h46]) (by rw [h46]) (p0 _) (gF (fun y hy => ?_)) (by simp) (by simp) ?_
       · rcases List.mem_append.1 hy with g | g
         · exact hd y g
         · have := rep _ y g; omega
       · simp; omega
     · rw [if_neg c3]
       have hc : cut 101 (ds.take p.toNat ++ 46 :: ds.drop p.toNat) = (ds.take p.toNat ++ 46 :: ds.drop p.toNat, [], false) := mI (fun y hy => by
        rcases List.mem_append.1 hy with g | g
        · exact ne101 y (List.mem_of_mem_take g)
        · rcases List.mem_cons.1 g with g | g
          · omega
          · exact ne101 y (List.mem_of_mem_drop g))
       have h46 : cut 46 (ds.take p.toNat ++ 46 :: ds.drop p.toNat) = (ds.take p.toNat, ds.drop p.toNat, true) := mK _ (fun y hy => ne46 y (List.mem_of_mem_take hy))
       refine fin _ _ _ [] 0 0 _ _ hc (by rw [h46]) (by rw [h46]) (p0 _) (gF (fun y hy => hd y (List.mem_of_mem_take hy))) (gF (fun y hy => hd y (List.mem_of_mem_drop hy))) (by simp) ?_
       rw [List.length_drop]
       simp; omega

theorem GG {ds : List Nat} (h : Dg ds) (p : Int) : ∃ x r, pt ds p = x :: r ∧ 48 ≤ x ∧ x ≤ 57 := by
 obtain ⟨x, r, e, hx⟩ := h.h
 have hd := h.d x (by rw [e]; simp)
 unfold pt
 split
 · exact ⟨x, _, by rw [e]; rfl, hd⟩
 · split
   · exact ⟨48, _, rfl, by omega⟩
   · split
     · exact ⟨x, _, by rw [e]; rfl, hd⟩
     · rename_i h1 h2 h3
       obtain ⟨m, hm⟩ : ∃ m, p.toNat = m + 1 := ⟨p.toNat - 1, by omega⟩
       exact ⟨x, _, by rw [e, hm]; rfl, hd⟩

theorem IY {ds : List Nat} (h : Dg ds) (p : Int) : ∀ x ∈ pt ds p, x < 65 ∨ 90 < x := by
 have hd := h.d
 have ht : ∀ y ∈ cZ (p - 1), y < 65 ∨ 90 < y := fun y hy => by
  unfold cZ at hy
  rcases List.mem_append.1 hy with g | g
  · split at g
    · simp at g; omega
    · simp at g
  · have := gG _ y g; omega
 intro x hx
 unfold pt at hx
 have hds : ∀ y ∈ ds, y < 65 ∨ 90 < y := fun y hy => by have := hd y hy; omega
 split at hx
 · rcases List.mem_append.1 hx with g | g
   · exact hds x (List.mem_of_mem_take g)
   · rcases List.mem_append.1 g with g | g
     · split at g
       · rcases List.mem_cons.1 g with g | g
         · omega
         · exact hds x (List.mem_of_mem_drop g)
       · simp at g
     · rcases List.mem_cons.1 g with g | g
       · omega
       · exact ht x g
 · split at hx
   · rcases List.mem_cons.1 hx with g | g
     · omega
     · rcases List.mem_cons.1 g with g | g
       · omega
       · rcases List.mem_append.1 g with g | g
         · have := (List.mem_replicate.1 g).2; omega
         · exact hds x g
   · split at hx
     · rcases List.mem_append.1 hx with g | g
       · exact hds x g
       · have := (List.mem_replicate.1 g).2; omega
     · rcases List.mem_append.1 hx with g | g
       · exact hds x (List.mem_of_mem_take g)
       · rcases List.mem_cons.1 g with g | g
         · omega
         · exact hds x (List.mem_of_mem_drop g)

theorem FB {ds : List Nat} (h : Dg ds) (ng : Bool) (p : Int) (hp : (p - 1).natAbs ≤ 1000000) : whole (sgl ng ++ pt ds p) = some ⟨1, ng, ds, p - ds.length⟩ := by
 obtain ⟨x, r, e, x1, x2⟩ := GG h p
 have hl : (sgl ng ++ pt ds p).map low = sgl ng ++ pt ds p := BO (fun y hy => by
  rcases List.mem_append.1 hy with g | g
  · unfold sgl at g
    split at g
    · simp at g; omega
    · simp at g
  · exact IY h p y g)
 have hs : signed (sgl ng ++ pt ds p) = (pt ds p, ng) := by
  cases ng with
  | true => rw [show sgl true ++ pt ds p = 45 :: pt ds p from rfl, iE _ (.inr rfl)]; rfl
  | false => rw [show sgl false ++ pt ds p = pt ds p from rfl, e, fP _ (by omega)]
 unfold whole
 rw [hl, hs]
 unfold body
 have w1 : pt ds p ≠ eR := fun k => by rw [e] at k; injection k; omega
 have w2 : pt ds p ≠ aG := fun k => by rw [e] at k; injection k; omega
 have w3 : pt ds p ≠ fK := fun k => by rw [e] at k; injection k; omega
 rw [if_neg (not_or.2 ⟨w1, w2⟩), if_neg w3]
 exact GH h ng p hp

theorem KZ : 10 ^ 643 ≤ 2 ^ 2136 := by decide +kernel

theorem p59 : 10 ^ 59 ≤ 2 ^ 196 := by decide +kernel

theorem p3 : 10 ^ 3 ≤ 2 ^ 10 := by decide +kernel

theorem K5 : 2 ^ 485 ≤ 10 ^ 146 := by decide +kernel

theorem p28 : 2 ^ 93 ≤ 10 ^ 28 := by decide +kernel

theorem p4 : 2 ^ 13 ≤ 10 ^ 4 := by decide +kernel

theorem AU {a b x y : Nat} (h : a ^ x ≤ b ^ y) (k : Nat) : a ^ (x * k) ≤ b ^ (y * k) := by
 rw [Nat.pow_mul, Nat.pow_mul]
 exact Nat.pow_le_pow_left h k

theorem BW (m : Nat) (h : m ≤ 16600) : 10 ^ (m * 30103 / 100000 - 2) ≤ 2 ^ m := by
 obtain ⟨a, b, hm, hb⟩ : ∃ a b, m = 2136 * a + b ∧ b < 2136 := ⟨m / 2136, m % 2136, by omega, by omega⟩
 obtain ⟨c, r, hb2, hr⟩ : ∃ c r, b = 196 * c + r ∧ r < 196 := ⟨b / 196, b % 196, by omega, by omega⟩
 obtain ⟨d, t, hr2, ht⟩ : ∃ d t, r = 10 * d + t ∧ t < 10 := ⟨r / 10, r % 10, by omega, by omega⟩
 have e : m * 30103 / 100000 - 2 ≤ 643 * a + 59 * c + 3 * d := by omega
 have h1 : 10 ^ (643 * a + 59 * c + 3 * d) ≤ 2 ^ (2136 * a + 196 * c + 10 * d) := by
  rw [Nat.pow_add, Nat.pow_add, Nat.pow_add, Nat.pow_add]
  exact Nat.mul_le_mul (Nat.mul_le_mul (AU KZ a) (AU p59 c)) (AU p3 d)
 exact Nat.le_trans (Nat.pow_le_pow_right (by omega) e) (Nat.le_trans h1 (Nat.pow_le_pow_right (by omega) (by omega)))

theorem C9 (m : Nat) (h : m ≤ 16600) : 2 ^ m ≤ 10 ^ (m * 30103 / 100000 + 2) := by
 obtain ⟨a, b, hm, hb⟩ : ∃ a b, m = 485 * a + b ∧ b < 485 := ⟨m / 485, m % 485, by omega, by omega⟩
 obtain ⟨c, r, hb2, hr⟩ : ∃ c r, b = 93 * c + r ∧ r < 93 := ⟨b / 93, b % 93, by omega, by omega⟩
 obtain ⟨d, t, hr2, ht⟩ : ∃ d t, r = 13 * d + t ∧ t < 13 := ⟨r / 13, r % 13, by omega, by omega⟩
 obtain ⟨u, hu, hut⟩ : ∃ u, 2 ^ t ≤ 10 ^ u ∧ u * 3 ≤ t + 2 := by
  refine ⟨(t + 2) / 3, ?_, by omega⟩
  have : t = 0 ∨ t = 1 ∨ t = 2 ∨ t = 3 ∨ t = 4 ∨ t = 5 ∨ t = 6 ∨ t = 7 ∨ t = 8 ∨ t = 9 ∨ t = 10 ∨ t = 11 ∨ t = 12 := by omega
  rcases this with rfl | rfl | rfl | rfl | rfl | rfl | rfl | rfl | rfl | rfl | rfl | rfl | rfl <;> decide
 have e : 146 * a + 28 * c + 4 * d + u ≤ m * 30103 / 100000 + 2 := by omega
 have h1 : 2 ^ (485 * a + 93 * c + 13 * d + t) ≤ 10 ^ (146 * a + 28 * c + 4 * d + u) := by
  rw [Nat.pow_add, Nat.pow_add, Nat.pow_add, Nat.pow_add, Nat.pow_add, Nat.pow_add]
  exact Nat.mul_le_mul (Nat.mul_le_mul (Nat.mul_le_mul (AU K5 a) (AU p28 c)) (AU p4 d)) hu
 have e2 : m = 485 * a + 93 * c + 13 * d + t := by omega
 rw [e2] at e ⊢
 exact Nat.le_trans h1 (Nat.pow_le_pow_right (by omega) e)

def un (m : Nat) (x : Int) : Nat := m * 10 ^ (-x).toNat

def ud (den : Nat) (x : Int) : Nat := den * 10 ^ x.toNat

theorem eJ {den : Nat} (h : 0 < den) (x : Int) : 0 < ud den x := Nat.mul_pos h (Nat.pow_pos (by omega))

theorem tG (m den : Nat) (x : Int) (k : Nat) : un m x * ud den (x + k) = un m (x + k) * ud den x * 10 ^ k := by
  unfold un ud
  have e : 10 ^ (-x).toNat * 10 ^ (x + k).toNat = 10 ^ (-(x + k)).toNat * 10 ^ x.toNat * 10 ^ k := by
    rw [← Nat.pow_add, ← Nat.pow_add, ← Nat.pow_add]
    congr 1
    omega
  calc m * 10 ^ (-x).toNat * (den * 10 ^ (x + k).toNat) = m * den * (10 ^ (-x).toNat * 10 ^ (x + k).toNat) := by
        rw [Nat.mul_assoc, Nat.mul_left_comm (10 ^ (-x).toNat), ← Nat.mul_assoc]
    _ = m * den * (10 ^ (-(x + k)).toNat * 10 ^ x.toNat * 10 ^ k) := by rw [e]
    _ = m * 10 ^ (-(x + k)).toNat * (den * 10 ^ x.toNat) * 10 ^ k := by
        rw [← Nat.mul_assoc, ← Nat.mul_assoc, Nat.mul_assoc m, Nat.mul_comm den, ← Nat.mul_assoc, Nat.mul_assoc _ den]

theorem CW (m den c : Nat) (hd : 0 < den) (x : Int) (k : Nat) : un m (x + k) ≤ c * ud den (x + k) ↔ un m x ≤ c * 10 ^ k * ud den x := by
  have s := tG m den x k
  have p1 := eJ hd x
  have p2 := eJ hd (x + k)
  have p3 : 0 < 10 ^ k := Nat.pow_pos (by omega)
  constructor
  · intro h
    refine Nat.le_of_mul_le_mul_right (c := ud den (x + k)) ?_ p2
    rw [s]
    calc un m (x + k) * ud den x * 10 ^ k ≤ c * ud den (x + k) * ud den x * 10 ^ k := Nat.mul_le_mul_right _ (Nat.mul_le_mul_right _ h)
      _ = c * 10 ^ k * ud den x * ud den (x + k) := by
          rw [Nat.mul_assoc c, Nat.mul_comm (ud den (x + k)), ← Nat.mul_assoc, Nat.mul_right_comm, Nat.mul_right_comm c]
  · intro h
    refine Nat.le_of_mul_le_mul_right (c := ud den x * 10 ^ k) ?_ (Nat.mul_pos p1 p3)
    rw [← Nat.mul_assoc, ← s]
    calc un m x * ud den (x + k) ≤ c * 10 ^ k * ud den x * ud den (x + k) := Nat.mul_le_mul_right _ h
      _ = c * ud den (x + k) * (ud den x * 10 ^ k) := by
          rw [Nat.mul_right_comm _ (ud den x), Nat.mul_right_comm c, Nat.mul_assoc (c * ud den (x + k)), Nat.mul_comm (10 ^ k)]

theorem tB (m den c : Nat) (hd : 0 < den) (x : Int) (k : Nat) : c * ud den (x + k) ≤ un m (x + k) ↔ c * 10 ^ k * ud den x ≤ un m x := by
 have s := tG m den x k
 have p1 := eJ hd x
 have p2 := eJ hd (x + k)
 have p3 : 0 < 10 ^ k := Nat.pow_pos (by omega)
 have e : c * ud den (x + k) * (ud den x * 10 ^ k) = c * 10 ^ k * ud den x * ud den (x + k) := by ac_rfl
 constructor
 · intro h
   refine Nat.le_of_mul_le_mul_right (c := ud den (x + k)) ?_ p2
   rw [s, ← e, Nat.mul_assoc (un m (x + k))]
   exact Nat.mul_le_mul_right _ h
 · intro h
   refine Nat.le_of_mul_le_mul_right (c := ud den x * 10 ^ k) ?_ (Nat.mul_pos p1 p3)
   rw [e, ← Nat.mul_assoc, ← s]
   exact Nat.mul_le_mul_right _ h

def uT (m den : Nat) (x : Int) : Nat := un m x / ud den x

theorem dP (m den : Nat) (hd : 0 < den) (x : Int) (k : Nat) : uT m den (x + k) = uT m den x / 10 ^ k := by
 have p1 := eJ hd x
 have p2 := eJ hd (x + k)
 have p3 : 0 < 10 ^ k := Nat.pow_pos (by omega)
 unfold uT
 apply Nat.le_antisymm
 · rw [Nat.le_div_iff_mul_le p3, Nat.le_div_iff_mul_le p1, ← tB m den _ hd x k]
   exact Nat.div_mul_le_self _ _
 · rw [Nat.le_div_iff_mul_le p2, tB m den _ hd x k, ← Nat.le_div_iff_mul_le p1, ← Nat.le_div_iff_mul_le p3]
   exact Nat.le_refl _

def fY (lo m den : Nat) (cl : Bool) (x : Int) : Prop := if cl then un lo x ≤ uT m den x * ud den x else un lo x < uT m den x * ud den x

def eO (hi m den : Nat) (cl : Bool) (x : Int) : Prop := if cl then (uT m den x + 1) * ud den x ≤ un hi x else (uT m den x + 1) * ud den x < un hi x

instance (lo m den : Nat) (cl : Bool) (x : Int) : Decidable (fY lo m den cl x) := by unfold fY; infer_instance

instance (hi m den : Nat) (cl : Bool) (x : Int) : Decidable (eO hi m den cl x) := by unfold eO; infer_instance

theorem tJ (lo m den : Nat) (hd : 0 < den) (cl : Bool) (x : Int) (k : Nat) :
 fY lo m den cl (x + k) ↔ if cl then un lo x ≤ uT m den (x + k) * 10 ^ k * ud den x else un lo x < uT m den (x + k) * 10 ^ k * ud den x := by
 unfold fY
 cases cl
 · simp only [Bool.false_eq_true, if_false]
   have := tB lo den (uT m den (x + k)) hd x k
   omega
 · simp only [if_true]
   exact CW lo den (uT m den (x + k)) hd x k

theorem qQ (hi m den : Nat) (hd : 0 < den) (cl : Bool) (x : Int) (k : Nat) :
 eO hi m den cl (x + k) ↔ if cl then (uT m den (x + k) + 1) * 10 ^ k * ud den x ≤ un hi x else (uT m den (x + k) + 1) * 10 ^ k * ud den x < un hi x := by
 unfold eO
 cases cl
 · simp only [Bool.false_eq_true, if_false]
   have := CW hi den (uT m den (x + k) + 1) hd x k
   omega
 · simp only [if_true]
   exact tB hi den (uT m den (x + k) + 1) hd x k

theorem ok_mono (lo hi m den : Nat) (hd : 0 < den) (cl : Bool) (x : Int) (k : Nat) :
 (fY lo m den cl (x + k) → fY lo m den cl x) ∧ (eO hi m den cl (x + k) → eO hi m den cl x) := by
 have h1 : uT m den (x + k) * 10 ^ k ≤ uT m den x := by rw [dP m den hd]; exact Nat.div_mul_le_self _ _
 have h2 : uT m den x + 1 ≤ (uT m den (x + k) + 1) * 10 ^ k := by
  rw [dP m den hd, Nat.add_mul, Nat.one_mul]
  have := Nat.lt_div_mul_add (a := uT m den x) (b := 10 ^ k) (Nat.pow_pos (by omega))
  omega
 have h3 := Nat.mul_le_mul_right (ud den x) h1
 have h4 := Nat.mul_le_mul_right (ud den x) h2
 rw [tJ lo m den hd, qQ hi m den hd]
 unfold fY eO
 cases cl
 · simp only [Bool.false_eq_true, if_false]
   exact ⟨fun h => by omega, fun h => by omega⟩
 · simp only [if_true]
   exact ⟨fun h => by omega, fun h => by omega⟩

def uB (m : Int) : Int := (m * 30103).tdiv 100000 - 2

theorem DD (m : Nat) : uB (m : Int) = ((m * 30103 / 100000 : Nat) : Int) - 2 := by
 unfold uB
 rw [Int.tdiv_eq_ediv_of_nonneg (by omega)]
 omega

theorem D8 (m : Nat) : uB (-(m : Int)) = -((m * 30103 / 100000 : Nat) : Int) - 2 := by
 unfold uB
 rw [show -(m : Int) * 30103 = -((m * 30103 : Nat) : Int) by omega, Int.neg_tdiv, Int.tdiv_eq_ediv_of_nonneg (by omega)]
 omega

theorem GA (m : Int) (h1 : -16600 ≤ m) (h2 : m ≤ 16600) :
 ud (2 ^ (-m).toNat) (uB m) ≤ un (2 ^ m.toNat) (uB m) ∧ un (2 ^ m.toNat) (uB m) ≤ 10000 * ud (2 ^ (-m).toNat) (uB m) := by
 unfold un ud
 rcases Int.le_total 0 m with h | h
 · obtain ⟨k, rfl⟩ := Int.eq_ofNat_of_zero_le h
   have e0 : (-(k : Int)).toNat = 0 := by omega
   have e1 : ((k : Int)).toNat = k := by omega
   rw [e0, e1, DD, Nat.pow_zero, Nat.one_mul]
   have lo := BW k (by omega)
   have up := C9 k (by omega)
   generalize k * 30103 / 100000 = f at *
   rcases Nat.lt_or_ge f 2 with hf | hf
   · have a1 : ((f : Int) - 2).toNat = 0 := by omega
     have a2 : (-((f : Int) - 2)).toNat = 2 - f := by omega
     rw [a1, a2, Nat.pow_zero]
     have p : 0 < 2 ^ k * 10 ^ (2 - f) := Nat.mul_pos (Nat.pow_pos (by omega)) (Nat.pow_pos (by omega))
     refine ⟨p, ?_⟩
     have := Nat.mul_le_mul_right (10 ^ (2 - f)) up
     rw [← Nat.pow_add, show f + 2 + (2 - f) = 4 by omega] at this
     exact this
   · have a1 : ((f : Int) - 2).toNat = f - 2 := by omega
     have a2 : (-((f : Int) - 2)).toNat = 0 := by omega
     rw [a1, a2, Nat.pow_zero, Nat.mul_one]
     refine ⟨lo, ?_⟩
     rw [show f + 2 = 4 + (f - 2) by omega, Nat.pow_add] at up
     exact up
 · obtain ⟨k, hk⟩ := Int.eq_ofNat_of_zero_le (show 0 ≤ -m by omega)
   have em : m = -(k : Int) := by omega
   subst em
   have e0 : (-(-(k : Int))).toNat = k := by omega
   have e1 : (-(k : Int)).toNat = 0 := by omega
   rw [e0, e1, D8, Nat.pow_zero, Nat.one_mul]
   have lo := BW k (by omega)
   have up := C9 k (by omega)
   generalize k * 30103 / 100000 = f at *
   have a1 : (-(f : Int) - 2).toNat = 0 := by omega
   have a2 : (-(-(f : Int) - 2)).toNat = f + 2 := by omega
   rw [a1, a2, Nat.pow_zero, Nat.mul_one]
   refine ⟨up, ?_⟩
   rcases Nat.lt_or_ge f 2 with hf | hf
   · have p : 1 ≤ 2 ^ k := Nat.pow_pos (by omega)
     have : 10 ^ (f + 2) ≤ 10 ^ 4 := Nat.pow_le_pow_right (by omega) (by omega)
     omega
   · rw [show f + 2 = 4 + (f - 2) by omega, Nat.pow_add]
     exact Nat.mul_le_mul_left _ lo

structure Wd where
 s : Nat
 l : Nat
 q : Int

def Wd.mid (t : Wd) : Nat := 4 * t.s * 2 ^ (t.q - 2).toNat

def Wd.lo (t : Wd) : Nat := t.l * 2 ^ (t.q - 2).toNat

def Wd.hi (t : Wd) : Nat := (4 * t.s + 2) * 2 ^ (t.q - 2).toNat

def Wd.den (t : Wd) : Nat := 2 ^ (2 - t.q).toNat

def Wd.cl (t : Wd) : Bool := decide (t.s % 2 = 0)

structure Wd.Ok (t : Wd) : Prop where
 s1 : 1 ≤ t.s
 s2 : t.s < 2 ^ 113
 l1 : t.l < 4 * t.s
 q1 : -16598 ≤ t.q
 q2 : t.q ≤ 16600

theorem Wd.Ok.den_pos {t : Wd} (h : t.Ok) : 0 < t.den := Nat.pow_pos (by omega)

abbrev Wd.X (t : Wd) : Int := uB (t.q - 2)

abbrev Wd.T (t : Wd) (x : Int) : Nat := uT t.mid t.den x

def Wd.ok (t : Wd) (x : Int) : Prop := fY t.lo t.mid t.den t.cl x ∨ eO t.hi t.mid t.den t.cl x

instance (t : Wd) (x : Int) : Decidable (t.ok x) := by unfold Wd.ok; infer_instance

theorem nR (c m : Nat) (x : Int) : un (c * m) x = c * un m x := by unfold un; rw [Nat.mul_assoc]

theorem Wd.Ok.unit {t : Wd} (h : t.Ok) : ud t.den t.X ≤ un (2 ^ (t.q - 2).toNat) t.X ∧ un (2 ^ (t.q - 2).toNat) t.X ≤ 10000 * ud t.den t.X := by
 have := GA (t.q - 2) (by have := h.q1; omega) (by have := h.q2; omega)
 unfold Wd.den
 rwa [show (-(t.q - 2)).toNat = (2 - t.q).toNat by omega] at this

theorem Wd.Ok.first {t : Wd} (h : t.Ok) : 1 ≤ t.T t.X ∧ t.T t.X < 10 ^ 39 ∧ t.ok t.X := by
 obtain ⟨u1, u2⟩ := h.unit
 have p := eJ h.den_pos t.X
 have s1 := h.s1
 have s2 := h.s2
 have l1 := h.l1
 have em : un t.mid t.X = 4 * t.s * un (2 ^ (t.q - 2).toNat) t.X := nR _ _ _
 have el : un t.lo t.X = t.l * un (2 ^ (t.q - 2).toNat) t.X := nR _ _ _
 generalize hg : un (2 ^ (t.q - 2).toNat) t.X = g at *
 generalize hb : ud t.den t.X = b at *
 have m1 : 1 * b ≤ un t.mid t.X := by
  rw [em]
  exact Nat.le_trans (by omega) (Nat.mul_le_mul (show 1 ≤ 4 * t.s by omega) u1)
 refine ⟨?_, ?_, .inl ?_⟩
 · show 1 ≤ un t.mid t.X / ud t.den t.X
   rw [hb, Nat.le_div_iff_mul_le p]
   exact m1
 · show un t.mid t.X / ud t.den t.X < 10 ^ 39
   rw [hb, Nat.div_lt_iff_lt_mul p, em]
   have : 4 * t.s * g ≤ 4 * t.s * (10000 * b) := Nat.mul_le_mul_left _ u2
   have h2 : 4 * t.s * (10000 * b) = (40000 * t.s) * b := by
    rw [← Nat.mul_assoc, show 4 * t.s * 10000 = 40000 * t.s by omega]
   have h3 : (40000 * t.s) * b < 10 ^ 39 * b := Nat.mul_lt_mul_of_pos_right (by omega) p
   omega
 · have k : un t.mid t.X < (t.T t.X + 1) * b := by
    have := Nat.lt_div_mul_add (a := un t.mid t.X) (b := b) p
    show un t.mid t.X < (un t.mid t.X / ud t.den t.X + 1) * b
    rw [hb, Nat.add_mul, Nat.one_mul]
    exact this
   have k2 : un t.lo t.X < t.T t.X * b := by
    rw [Nat.add_mul, Nat.one_mul, em] at k
    rw [el]
    have : t.l * g + g ≤ 4 * t.s * g := by
     have := Nat.mul_le_mul_right g (show t.l + 1 ≤ 4 * t.s by omega)
     rwa [Nat.add_mul, Nat.one_mul] at this
    omega
   show fY t.lo t.mid t.den t.cl t.X
   unfold fY
   rw [hb]
   split
   · exact Nat.le_of_lt k2
   · exact k2

theorem yL : ∀ (n v : Nat), v < n → v ≠ 0 → 10 ^ ((tl v).length - 1) ≤ v ∧ v < 10 ^ (tl v).length ∧ 0 < (tl v).length
 | 0, v, h, _ => by omega
 | n + 1, v, h, h0 => by
   rw [eD h0]
   by_cases h1 : v / 10 = 0
   · rw [h1, fL]
     simp
     omega
   · obtain ⟨a, b, c⟩ := yL n (v / 10) (by omega) h1
     simp only [List.length_cons, Nat.add_sub_cancel]
     obtain ⟨k, hk⟩ : ∃ k, (tl (v / 10)).length = k + 1 := ⟨(tl (v / 10)).length - 1, by omega⟩
     rw [hk] at a b ⊢
     simp only [Nat.add_sub_cancel] at a
     refine ⟨?_, ?_, by omega⟩
     · rw [Nat.pow_succ]; omega
     · rw [Nat.pow_succ]; omega

theorem uH (v : Nat) (h : 1 ≤ v) : 10 ^ ((txt v).length - 1) ≤ v ∧ v < 10 ^ (txt v).length ∧ 1 ≤ (txt v).length := by
 have e : (txt v).length = (tl v).length := by unfold txt; rw [if_neg (by omega), List.length_reverse]
 rw [e]
 exact yL (v + 1) v (by omega) (by omega)

abbrev Wd.N (t : Wd) : Nat := (txt (t.T t.X)).length

abbrev Wd.e (t : Wd) : Int := t.X + t.N - 1

theorem Wd.Ok.N_le {t : Wd} (h : t.Ok) : 1 ≤ t.N ∧ t.N ≤ 39 := by
 obtain ⟨f1, f2, _⟩ := h.first
 exact ⟨iA _, iC 38 _ f2⟩

theorem Wd.Ok.ten {t : Wd} (h : t.Ok) (y : Int) : un t.mid y < ud t.den y ↔ t.e < y := by
 obtain ⟨f1, f2, _⟩ := h.first
 obtain ⟨a, b, c⟩ := uH _ f1
 have hd := h.den_pos
 have hN : 1 ≤ t.N := c
 have pT : ∀ y, un t.mid y < ud t.den y ↔ t.T y = 0 := fun y => by
  show _ ↔ un t.mid y / ud t.den y = 0
  rw [Nat.div_eq_zero_iff]
  have := eJ hd y
  omega
 rw [pT]
 have e1 : t.T t.e = t.T t.X / 10 ^ (t.N - 1) := by
  have : t.e = t.X + ((t.N - 1 : Nat) : Int) := by show t.X + (t.N : Int) - 1 = _; omega
  rw [this]
  exact dP _ _ hd _ _
 have e2 : t.T (t.e + 1) = 0 := by
  have : t.e + 1 = t.X + (t.N : Int) := by show t.X + (t.N : Int) - 1 + 1 = _; omega
  rw [this]
  have := dP t.mid t.den hd t.X t.N
  show uT t.mid t.den (t.X + (t.N : Int)) = 0
  rw [this]
  exact Nat.div_eq_of_lt b
 have e3 : 1 ≤ t.T t.e := by
  rw [e1, Nat.le_div_iff_mul_le (Nat.pow_pos (by omega)), Nat.one_mul]
  exact a
 constructor
 · intro hy
   refine Classical.byContradiction fun hn => ?_
   obtain ⟨k, hk⟩ := Int.eq_ofNat_of_zero_le (show 0 ≤ t.e - y by omega)
   have q := dP t.mid t.den hd y k
   rw [show y + (k : Int) = t.e by omega] at q
   have hy' : uT t.mid t.den y = 0 := hy
   rw [hy', Nat.zero_div] at q
   have : t.T t.e = 0 := q
   omega
 · intro hy
   obtain ⟨k, hk⟩ := Int.eq_ofNat_of_zero_le (show 0 ≤ y - (t.e + 1) by omega)
   have q := dP t.mid t.den hd (t.e + 1) k
   rw [show t.e + 1 + (k : Int) = y by omega] at q
   show uT t.mid t.den y = 0
   rw [q, show uT t.mid t.den (t.e + 1) = 0 from e2, Nat.zero_div]

structure Wd.Best (t : Wd) (r : Nat) : Prop where
 lt : r < t.N
 ok : t.ok (t.X + r)
 no : ∀ z : Nat, r < z → z < t.N → ¬ t.ok (t.X + z)

theorem Wd.Ok.ok_mono {t : Wd} (h : t.Ok) (x : Int) (k : Nat) : t.ok (x + k) → t.ok x := by
 intro hk
 obtain ⟨a, b⟩ := M.ok_mono t.lo t.hi t.mid t.den h.den_pos t.cl x k
 rcases hk with hk | hk
 · exact .inl (a hk)
 · exact .inr (b hk)

theorem Wd.Ok.best {t : Wd} (h : t.Ok) (r : Nat) (h1 : r < t.N) (h2 : 0 < r → t.ok (t.X + r)) (h3 : r + 1 < t.N → ¬ t.ok (t.X + (r + 1 : Nat))) : t.Best r := by
 refine ⟨h1, ?_, ?_⟩
 · rcases Nat.eq_zero_or_pos r with e | e
   · subst e
     have := h.first.2.2
     simpa using this
   · exact h2 e
 · intro z hz hzN hk
   obtain ⟨k, rfl⟩ : ∃ k, z = r + 1 + k := ⟨z - (r + 1), by omega⟩
   refine h3 (by omega) (h.ok_mono (t.X + (r + 1 : Nat)) k ?_)
   rwa [show t.X + ((r + 1 : Nat) : Int) + (k : Int) = t.X + ((r + 1 + k : Nat) : Int) by omega]

def Wd.pick (t : Wd) (x : Int) : Nat :=
 if ¬ fY t.lo t.mid t.den t.cl x then t.T x + 1
 else if ¬ eO t.hi t.mid t.den t.cl x then t.T x
 else if 2 * un t.mid x < (2 * t.T x + 1) * ud t.den x ∨ (2 * un t.mid x = (2 * t.T x + 1) * ud t.den x ∧ t.T x % 2 = 0) then t.T x
 else t.T x + 1

theorem Wd.Best.T_pos {t : Wd} (h : t.Ok) {r : Nat} (b : t.Best r) : 1 ≤ t.T (t.X + r) := by
 obtain ⟨f1, f2, _⟩ := h.first
 obtain ⟨a, _, c⟩ := uH _ f1
 have hr : r < (txt (t.T t.X)).length := b.lt
 have := dP t.mid t.den h.den_pos t.X r
 show 1 ≤ uT t.mid t.den (t.X + r)
 rw [this, Nat.le_div_iff_mul_le (Nat.pow_pos (by omega)), Nat.one_mul]
 exact Nat.le_trans (Nat.pow_le_pow_right (by omega) (by omega)) a

theorem Wd.Best.pick_pos {t : Wd} (h : t.Ok) {r : Nat} (b : t.Best r) : 1 ≤ t.pick (t.X + r) := by
 have := b.T_pos h
 unfold Wd.pick
 split
 · omega
 · split
   · exact this
   · split
     · exact this
     · omega

def Wd.vn (t : Wd) : Nat := t.s * 2 ^ t.q.toNat * 10 ^ (-t.X).toNat

def Wd.vd (t : Wd) : Nat := 2 ^ (-t.q).toNat * 10 ^ t.X.toNat

theorem Wd.vd_pos (t : Wd) : 0 < t.vd := Nat.mul_pos (Nat.pow_pos (by omega)) (Nat.pow_pos (by omega))

theorem Wd.cross (t : Wd) : t.vn * ud t.den t.X = un t.mid t.X * t.vd := by
  unfold Wd.vn Wd.vd un ud Wd.mid Wd.den
  have e : 2 ^ t.q.toNat * 2 ^ (2 - t.q).toNat = 4 * (2 ^ (t.q - 2).toNat * 2 ^ (-t.q).toNat) := by
    rw [show (4 : Nat) = 2 ^ 2 by rfl, ← Nat.pow_add, ← Nat.pow_add, ← Nat.pow_add]
    congr 1
    omega
  calc t.s * 2 ^ t.q.toNat * 10 ^ (-t.X).toNat * (2 ^ (2 - t.q).toNat * 10 ^ t.X.toNat) = t.s * (2 ^ t.q.toNat * 2 ^ (2 - t.q).toNat) * (10 ^ (-t.X).toNat * 10 ^ t.X.toNat) := by ac_rfl
    _ = t.s * (4 * (2 ^ (t.q - 2).toNat * 2 ^ (-t.q).toNat)) * (10 ^ (-t.X).toNat * 10 ^ t.X.toNat) := by rw [e]
    _ = 4 * t.s * 2 ^ (t.q - 2).toNat * 10 ^ (-t.X).toNat * (2 ^ (-t.q).toNat * 10 ^ t.X.toNat) := by ac_rfl

theorem oE {a b c d k : Nat} (hb : 0 < b) (hd : 0 < d) (h : a * d = c * b) : (k * b ≤ a ↔ k * d ≤ c) := by
  constructor
  · intro hk
    refine Nat.le_of_mul_le_mul_right (c := b) ?_ hb
    calc k * d * b = k * b * d := by ac_rfl
      _ ≤ a * d := Nat.mul_le_mul_right _ hk
      _ = c * b := h
  · intro hk
    refine Nat.le_of_mul_le_mul_right (c := d) ?_ hd
    calc k * b * d = k * d * b := by ac_rfl
      _ ≤ c * b := Nat.mul_le_mul_right _ hk
      _ = a * d := h.symm

theorem DJ {a b c d k : Nat} (hb : 0 < b) (hd : 0 < d) (h : a * d = c * b) : (a ≤ k * b ↔ c ≤ k * d) := by
  constructor
  · intro hk
    refine Nat.le_of_mul_le_mul_right (c := b) ?_ hb
    calc c * b = a * d := h.symm
      _ ≤ k * b * d := Nat.mul_le_mul_right _ hk
      _ = k * d * b := by ac_rfl
  · intro hk
    refine Nat.le_of_mul_le_mul_right (c := d) ?_ hd
    calc a * d = c * b := h
      _ ≤ k * d * b := Nat.mul_le_mul_right _ hk
      _ = k * b * d := by ac_rfl

theorem Wd.Ok.whole {t : Wd} (h : t.Ok) : t.vn / t.vd = t.T t.X := by
 have p := eJ h.den_pos t.X
 have v := t.vd_pos
 show _ = un t.mid t.X / ud t.den t.X
 apply Nat.le_antisymm
 · rw [Nat.le_div_iff_mul_le p, ← oE v p t.cross]
   exact Nat.div_mul_le_self _ _
 · rw [Nat.le_div_iff_mul_le v, oE v p t.cross]
   exact Nat.div_mul_le_self _ _

def Wd.least (t : Wd) : Nat := if un t.lo t.X % ud t.den t.X ≠ 0 ∨ t.cl = false then un t.lo t.X / ud t.den t.X + 1 else un t.lo t.X / ud t.den t.X

def Wd.most (t : Wd) : Nat := if un t.hi t.X % ud t.den t.X = 0 ∧ t.cl = false then un t.hi t.X / ud t.den t.X - 1 else un t.hi t.X / ud t.den t.X

theorem Wd.Ok.least_le {t : Wd} (h : t.Ok) (c : Nat) : t.least ≤ c ↔ if t.cl then un t.lo t.X ≤ c * ud t.den t.X else un t.lo t.X < c * ud t.den t.X := by
 have p := eJ h.den_pos t.X
 unfold Wd.least
 generalize un t.lo t.X = a
 generalize ud t.den t.X = b at *
 have dm := Nat.div_add_mod a b
 have ml := Nat.mod_lt a p
 have k1 : ∀ c, a / b < c ↔ a < c * b := fun c => Nat.div_lt_iff_lt_mul p
 cases hc : t.cl
 · simp only [or_true, if_true, Bool.false_eq_true, if_false]
   exact k1 c
 · simp only [if_true]
   by_cases hm : a % b = 0
   · simp only [hm]
     simp
     constructor
     · intro hk
       have := Nat.mul_le_mul_right b hk
       rw [Nat.mul_comm (a / b)] at this
       omega
     · intro hk
       have := Nat.div_le_div_right (c := b) hk
       rwa [Nat.mul_div_cancel _ p] at this
   · simp only [hm, ne_eq, not_false_eq_true, true_or, if_true]
     have := k1 c
     constructor
     · intro hk
       have := this.1 hk
       omega
     · intro hk
       refine this.2 ?_
       refine Nat.lt_of_le_of_ne hk fun e => hm ?_
       rw [e]
       exact Nat.mul_mod_left _ _

theorem Wd.Ok.le_most {t : Wd} (h : t.Ok) (c : Nat) (hc1 : 1 ≤ c) : c ≤ t.most ↔ if t.cl then c * ud t.den t.X ≤ un t.hi t.X else c * ud t.den t.X < un t.hi t.X := by
 have p := eJ h.den_pos t.X
 unfold Wd.most
 generalize un t.hi t.X = a
 generalize ud t.den t.X = b at *
 have dm := Nat.div_add_mod a b
 have ml := Nat.mod_lt a p
 have k1 : ∀ c, c ≤ a / b ↔ c * b ≤ a := fun c => Nat.le_div_iff_mul_le p
 cases hc : t.cl
 · simp only [and_true, Bool.false_eq_true, if_false]
   by_cases hm : a % b = 0
   · simp only [hm, if_true]
     have e : a = a / b * b := by rw [Nat.mul_comm]; omega
     constructor
     · intro hk
       have : c < a / b := by omega
       have := Nat.mul_lt_mul_of_pos_right this p
       omega
     · intro hk
       have : c < a / b := by
        refine Classical.byContradiction fun hn => ?_
        have := Nat.mul_le_mul_right b (show a / b ≤ c by omega)
        omega
       omega
   · simp only [hm, if_false]
     rw [k1]
     constructor
     · intro hk
       refine Nat.lt_of_le_of_ne hk fun e => hm ?_
       rw [← e]
       exact Nat.mul_mod_left _ _
     · intro hk
       omega
 · simp only [Bool.true_eq_false, and_false, if_false, if_true]
   exact k1 c

theorem Wd.Ok.low_at {t : Wd} (h : t.Ok) (z : Nat) : t.least ≤ t.T t.X / 10 ^ z * 10 ^ z ↔ fY t.lo t.mid t.den t.cl (t.X + z) := by
 rw [h.least_le, tJ _ _ _ h.den_pos, dP _ _ h.den_pos]

theorem Wd.Ok.high_at {t : Wd} (h : t.Ok) (z : Nat) : t.T t.X / 10 ^ z * 10 ^ z + 10 ^ z ≤ t.most ↔ eO t.hi t.mid t.den t.cl (t.X + z) := by
 have e : t.T t.X / 10 ^ z * 10 ^ z + 10 ^ z = (t.T t.X / 10 ^ z + 1) * 10 ^ z := by rw [Nat.add_mul, Nat.one_mul]
 rw [e, h.le_most _ (Nat.mul_pos (Nat.succ_pos _) (Nat.pow_pos (by omega))), qQ _ _ _ h.den_pos, dP _ _ h.den_pos]

theorem Wd.Ok.side {t : Wd} (h : t.Ok) (z : Nat) :
 (2 * t.vn < (2 * (t.T t.X / 10 ^ z) + 1) * 10 ^ z * t.vd ↔ 2 * un t.mid (t.X + z) < (2 * t.T (t.X + z) + 1) * ud t.den (t.X + z)) ∧
 (2 * t.vn = (2 * (t.T t.X / 10 ^ z) + 1) * 10 ^ z * t.vd ↔ 2 * un t.mid (t.X + z) = (2 * t.T (t.X + z) + 1) * ud t.den (t.X + z)) := by
 have p := eJ h.den_pos t.X
 have v := t.vd_pos
 have e0 : t.T (t.X + z) = t.T t.X / 10 ^ z := dP _ _ h.den_pos _ _
 rw [e0]
 generalize t.T t.X / 10 ^ z = d
 have c2 : 2 * t.vn * ud t.den t.X = un (2 * t.mid) t.X * t.vd := by
  rw [nR, Nat.mul_assoc, Nat.mul_assoc, t.cross]
 have a1 := oE (k := (2 * d + 1) * 10 ^ z) v p c2
 have a2 := DJ (k := (2 * d + 1) * 10 ^ z) v p c2
 have b1 := tB (2 * t.mid) t.den (2 * d + 1) h.den_pos t.X z
 have b2 := CW (2 * t.mid) t.den (2 * d + 1) h.den_pos t.X z
 rw [nR] at b1 b2
 rw [nR] at a1 a2 b1 b2
 constructor <;> omega

theorem IK (v : Nat) (h : v ≠ 0) : tl (v * 10) = 48 :: tl v := by
 rw [eD (by omega), Nat.mul_mod_left, Nat.mul_div_cancel _ (by omega)]

theorem yH (v : Nat) (h : v ≠ 0) : ∀ z : Nat, tl (v * 10 ^ z) = List.replicate z 48 ++ tl v
 | 0 => by simp
 | z + 1 => by
   rw [Nat.pow_succ, ← Nat.mul_assoc, IK _ (by have := Nat.mul_pos (Nat.pos_of_ne_zero h) (Nat.pow_pos (n := z) (show 0 < 10 by omega)); omega), yH v h z, List.replicate_succ, List.cons_append]

theorem nL : ∀ (n v : Nat), v < n → v ≠ 0 → ∃ l c, tl v = l ++ [c] ∧ c ≠ 48
 | 0, v, h, _ => by omega
 | n + 1, v, h, h0 => by
   rw [eD h0]
   by_cases h1 : v / 10 = 0
   · rw [h1, fL]
     exact ⟨[], 48 + v % 10, rfl, by omega⟩
   · obtain ⟨l, c, e, hc⟩ := nL n (v / 10) (by omega) h1
     exact ⟨(48 + v % 10) :: l, c, by rw [e]; rfl, hc⟩

theorem iS (v : Nat) (h : 1 ≤ v) (z : Nat) : txt (v * 10 ^ z) = (tl v).reverse ++ List.replicate z 48 := by
 have p : v * 10 ^ z ≠ 0 := by have := Nat.mul_pos h (Nat.pow_pos (n := z) (show 0 < 10 by omega)); omega
 unfold txt
 rw [if_neg p, yH v (by omega) z, List.reverse_append, List.reverse_replicate]

theorem sM (v : Nat) (h : 1 ≤ v) : txt v = (tl v).reverse := by
 have := iS v h 0
 simpa using this

theorem j9 (v : Nat) (h : 1 ≤ v) (z : Nat) : (txt (v * 10 ^ z)).length = (txt v).length + z := by
 rw [iS v h z, sM v h, List.length_append, List.length_replicate]

def sd (v : Nat) : List Nat := ((tl v).dropWhile (fun c => decide (c = 48))).reverse

theorem uE (l : List Nat) : ∀ z : Nat, (List.replicate z 48 ++ l).dropWhile (fun c => decide (c = 48)) = l.dropWhile (fun c => decide (c = 48))
 | 0 => by simp
 | z + 1 => by
   rw [List.replicate_succ, List.cons_append, List.dropWhile_cons]
   simp only [decide_true, if_true]
   exact uE l z

theorem yF : ∀ (l : List Nat) (c : Nat), c ∈ l → c ≠ 48 → l.dropWhile (fun c => decide (c = 48)) ≠ []
 | [], c, h, _ => by simp at h
 | a :: r, c, h, hc => by
   rw [List.dropWhile_cons]
   by_cases ha : a = 48
   · simp only [ha, decide_true, if_true]
     refine yF r c ?_ hc
     rcases List.mem_cons.1 h with e | e
     · omega
     · exact e
   · simp [ha]

theorem yB (v : Nat) (h : 1 ≤ v) : sd v ≠ [] := by
 obtain ⟨l, c, e, hc⟩ := nL (v + 1) v (by omega) (by omega)
 unfold sd
 rw [e]
 intro hn
 rw [List.reverse_eq_nil_iff] at hn
 exact yF (l ++ [c]) c (by simp) hc hn

theorem EA (v : Nat) : (sd v).length ≤ (tl v).length := by
 unfold sd
 rw [List.length_reverse]
 exact (List.dropWhile_suffix _).length_le

theorem A6 (v : Nat) (h : 1 ≤ v) (z : Nat) (x : Int) : aT (txt (v * 10 ^ z)) = sd v ∧ fF (txt (v * 10 ^ z)) x = x + z + ((txt v).length : Int) - ((sd v).length : Int) := by
 obtain ⟨l, c, e, hc⟩ := nL (v + 1) v (by omega) (by omega)
 have tL : aP (txt (v * 10 ^ z)) = txt (v * 10 ^ z) := by
  unfold aP
  rw [iS v h z, e, List.reverse_append, List.reverse_singleton, List.singleton_append, List.cons_append, List.dropWhile_cons]
  simp [hc]
 have bd : aT (txt (v * 10 ^ z)) = sd v := by
  unfold aT bY
  rw [tL, iS v h z, List.reverse_append, List.reverse_replicate, List.reverse_reverse, uE]
  rfl
 refine ⟨bd, ?_⟩
 unfold fF
 rw [bd, if_neg (yB v h), tL, j9 v h z]
 omega

end Go.Proofs.YtdfljbpcjkbflaaGreatDoor.M
