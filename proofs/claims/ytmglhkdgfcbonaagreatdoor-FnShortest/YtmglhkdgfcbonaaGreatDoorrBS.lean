import Derived.Test.YtmglhkdgfcbonaaGreatDoorrBC
namespace Go.Proofs.YtmglhkdgfcbonaaGreatDoor.M
set_option linter.unusedVariables false
set_option maxRecDepth 100000
def dec (bs : List Nat) : Nat := bs.foldl (fun v c => v * 10 + (c - 48)) 0

theorem dec_snoc (bs : List Nat) (c : Nat) : dec (bs ++ [c]) = dec bs * 10 + (c - 48) := by simp [dec]

theorem dec_from (bs : List Nat) : ∀ v : Nat, bs.foldl (fun v c => v * 10 + (c - 48)) v = v * 10 ^ bs.length + dec bs := by
 induction bs with
 | nil => intro v; simp [dec]
 | cons c bs ih =>
   intro v
   have e : dec (c :: bs) = (c - 48) * 10 ^ bs.length + dec bs := by
    have h := ih (0 * 10 + (c - 48))
    rw [Nat.zero_mul, Nat.zero_add] at h
    unfold dec at h ⊢
    rw [List.foldl_cons, Nat.zero_mul, Nat.zero_add]
    exact h
   rw [List.foldl_cons, ih, e, List.length_cons, Nat.pow_succ, Nat.add_mul, Nat.mul_assoc, Nat.mul_comm 10]
   omega

theorem dec_cons (c : Nat) (bs : List Nat) : dec (c :: bs) = (c - 48) * 10 ^ bs.length + dec bs := by
 have := dec_from bs (0 * 10 + (c - 48))
 rw [Nat.zero_mul, Nat.zero_add] at this
 unfold dec at this ⊢
 rw [List.foldl_cons, Nat.zero_mul, Nat.zero_add]
 exact this

theorem dec_append (xs ys : List Nat) : dec (xs ++ ys) = dec xs * 10 ^ ys.length + dec ys := by
 have := dec_from ys (dec xs)
 rw [← this]
 unfold dec
 rw [List.foldl_append]

def Dig (bs : List Nat) : Prop := ∀ c ∈ bs, 48 ≤ c ∧ c ≤ 57

theorem Dig.get {bs : List Nat} (h : Dig bs) (i : Nat) (hi : i < bs.length) : 48 ≤ bs.getD i 0 ∧ bs.getD i 0 ≤ 57 := by
 rw [List.getD_eq_getElem?_getD, List.getElem?_eq_getElem hi]
 exact h _ (List.getElem_mem hi)

theorem dec_lt (bs : List Nat) (h : Dig bs) : dec bs < 10 ^ bs.length := by
 induction bs with
 | nil => simp [dec]
 | cons c bs ih =>
   have h1 := ih (fun x hx => h x (List.mem_cons_of_mem _ hx))
   have h2 := h c (by simp)
   rw [dec_cons, List.length_cons, Nat.pow_succ]
   have h3 : (c - 48) * 10 ^ bs.length ≤ 9 * 10 ^ bs.length := Nat.mul_le_mul_right _ (by omega)
   omega

theorem dec_seg_succ (bs : List Nat) (i t : Nat) (h : i + t < bs.length) : dec (seg bs i (t + 1)) = dec (seg bs i t) * 10 + (bs.getD (i + t) 0 - 48) := by
 have e : seg bs i (t + 1) = seg bs i t ++ [bs.getD (i + t) 0] := by
  unfold seg
  rw [take_succ _ _ (by simp; omega)]
  congr 2
  simp [List.getD_eq_getElem?_getD]
 rw [e, dec_snoc]

theorem dec_take_add (bs : List Nat) (i t : Nat) (h : i + t ≤ bs.length) : dec (bs.take (i + t)) = dec (bs.take i) * 10 ^ t + dec (seg bs i t) := by
 have e : bs.take (i + t) = bs.take i ++ seg bs i t := by unfold seg; rw [List.take_add]
 rw [e, dec_append, seg_length _ _ _ h]

theorem Dig.seg {bs : List Nat} (h : Dig bs) (i t : Nat) : Dig (seg bs i t) := fun c hc => h c (List.mem_of_mem_drop (List.mem_of_mem_take hc))

def tl (v : Nat) : List Nat := if h : v = 0 then [] else (48 + v % 10) :: tl (v / 10)

termination_by v

decreasing_by omega

theorem tl_zero : tl 0 = [] := by rw [tl]; simp

theorem tl_pos {v : Nat} (h : v ≠ 0) : tl v = (48 + v % 10) :: tl (v / 10) := by rw [tl]; simp [h]

def txt (v : Nat) : List Nat := if v = 0 then [48] else (tl v).reverse

def pd (v n : Nat) : List Nat := (List.range n).map fun i => 48 + v / 10 ^ i % 10

theorem pd_length (v n : Nat) : (pd v n).length = n := by simp [pd]

theorem pd_snoc (v n : Nat) : pd v (n + 1) = pd v n ++ [48 + v / 10 ^ n % 10] := by simp [pd, List.range_succ]

theorem pd_cons (v n : Nat) : pd v (n + 1) = (48 + v % 10) :: pd (v / 10) n := by
 unfold pd
 rw [List.range_succ_eq_map, List.map_cons, List.map_map]
 congr 1
 · simp
 · refine List.map_congr_left fun i _ => ?_
   simp only [Function.comp]
   rw [Nat.pow_succ', Nat.div_div_eq_div_mul]

theorem pd_get (v n i : Nat) (h : i < n) : (pd v n).getD i 0 = 48 + v / 10 ^ i % 10 := by
 simp [pd, List.getD_eq_getElem?_getD, List.getElem?_map, List.getElem?_range h]

theorem pd_take (v n m : Nat) (h : m ≤ n) : (pd v n).take m = pd v m := by
 unfold pd
 rw [← List.map_take, List.take_range, Nat.min_eq_left h]

theorem pd_tl : ∀ (n v : Nat), v < 10 ^ n → (0 < n → v / 10 ^ (n - 1) % 10 ≠ 0) → pd v n = tl v
 | 0, v, h, _ => by
   have : v = 0 := by simpa using h
   subst this
   rw [tl_zero]; rfl
 | n + 1, v, h, hn => by
   have h0 : v / 10 ^ n % 10 ≠ 0 := hn (by omega)
   have hv : v ≠ 0 := by rintro rfl; simp at h0
   rw [pd_cons, tl_pos hv]
   congr 1
   refine pd_tl n (v / 10) ?_ ?_
   · rw [Nat.pow_succ] at h; omega
   · intro hp
     rw [Nat.div_div_eq_div_mul, ← Nat.pow_succ', show (n - 1).succ = n by omega]
     exact h0

theorem tl_dig (v : Nat) : Dig (tl v) := by
 induction v using Nat.strongRecOn with
 | ind v ih =>
   by_cases h : v = 0
   · subst h; rw [tl_zero]; intro c hc; simp at hc
   · rw [tl_pos h]
     intro c hc
     rcases List.mem_cons.1 hc with rfl | hc
     · omega
     · exact ih (v / 10) (by omega) c hc

theorem txt_dig (v : Nat) : Dig (txt v) := by
 unfold txt
 by_cases h : v = 0
 · rw [if_pos h]; intro c hc; simp at hc; omega
 · rw [if_neg h]; intro c hc; exact tl_dig v c (List.mem_reverse.1 hc)

theorem dec_tl (v : Nat) : dec (tl v).reverse = v := by
 induction v using Nat.strongRecOn with
 | ind v ih =>
   by_cases h : v = 0
   · subst h; rw [tl_zero]; rfl
   · rw [tl_pos h, List.reverse_cons, dec_snoc, ih (v / 10) (by omega)]
     omega

theorem dec_txt (v : Nat) : dec (txt v) = v := by
 unfold txt
 by_cases h : v = 0
 · rw [if_pos h, h]; rfl
 · rw [if_neg h]; exact dec_tl v

theorem tl_len : ∀ (n v : Nat), v < 10 ^ n → (tl v).length ≤ n
 | 0, v, h => by
   have : v = 0 := by simpa using h
   subst this
   rw [tl_zero]; simp
 | n + 1, v, h => by
   by_cases h0 : v = 0
   · subst h0; rw [tl_zero]; simp
   · rw [tl_pos h0, List.length_cons]
     have := tl_len n (v / 10) (by rw [Nat.pow_succ] at h; omega)
     omega

theorem txt_len (n v : Nat) (h : v < 10 ^ (n + 1)) : (txt v).length ≤ n + 1 := by
 unfold txt
 by_cases h0 : v = 0
 · rw [if_pos h0]; simp
 · rw [if_neg h0, List.length_reverse]; exact tl_len _ _ h

theorem txt_pos (v : Nat) : 0 < (txt v).length := by
 unfold txt
 by_cases h : v = 0
 · rw [if_pos h]; simp
 · rw [if_neg h, tl_pos h]; simp

def low (c : Nat) : Nat := if 65 ≤ c ∧ c ≤ 90 then c + 32 else c

def dgt (c : Nat) : Bool := decide (48 ≤ c ∧ c ≤ 57)

def cut (k : Nat) : List Nat → List Nat × List Nat × Bool
 | [] => ([], [], false)
 | x :: r => if x = k then ([], r, true) else (x :: (cut k r).1, (cut k r).2.1, (cut k r).2.2)

def signed : List Nat → List Nat × Bool
 | [] => ([], false)
 | x :: r => if x = 43 ∨ x = 45 then (r, decide (x = 45)) else (x :: r, false)

def expF (x : Nat) (l : List Nat) : Nat := l.foldl (fun e c => min (e * 10 + (c - 48)) 1000000) x

def trimL (l : List Nat) : List Nat := l.dropWhile (fun c => decide (c = 48))

def trimR (l : List Nat) : List Nat := (l.reverse.dropWhile (fun c => decide (c = 48))).reverse

def bareD (l : List Nat) : List Nat := trimR (trimL l)

def bareE (l : List Nat) (e : Int) : Int := if bareD l = [] then 0 else e + (trimL l).length - (bareD l).length

structure Dec where
 kind : Int
 neg : Bool
 digits : List Nat
 exp : Int

def wInf : List Nat := [105, 110, 102]

def wInfinity : List Nat := [105, 110, 102, 105, 110, 105, 116, 121]

def wNan : List Nat := [110, 97, 110]

def powr (c : List Nat × List Nat × Bool) : Option (Bool × Nat) :=
 if c.2.2 then (if (signed c.2.1).1 = [] ∨ (signed c.2.1).1.all dgt = false then none else some ((signed c.2.1).2, expF 0 (signed c.2.1).1)) else some (false, 0)

def decOf (n : Bool) (l : List Nat) (b : Nat) (x : Bool × Nat) : Dec := ⟨1, n, bareD l, bareE l ((if x.1 then -(x.2 : Int) else x.2) - b)⟩

def numb (n : Bool) (v : List Nat) : Option Dec :=
 if (cut 46 (cut 101 v).1).1.all dgt = false ∨ (cut 46 (cut 101 v).1).2.1.all dgt = false ∨ (cut 46 (cut 101 v).1).1.length + (cut 46 (cut 101 v).1).2.1.length = 0 then none
 else (powr (cut 101 v)).map (decOf n ((cut 46 (cut 101 v).1).1 ++ (cut 46 (cut 101 v).1).2.1) (cut 46 (cut 101 v).1).2.1.length)

def body (n : Bool) (v : List Nat) : Option Dec :=
 if v = wInf ∨ v = wInfinity then some ⟨2, n, [], 0⟩ else if v = wNan then some ⟨3, false, [], 0⟩ else numb n v

def whole (t : List Nat) : Option Dec := body (signed (t.map low)).2 (signed (t.map low)).1

def ends : List (List Nat) := [[], [48], [105, 110, 102], [110, 102], [102], [110, 97, 110], [97, 110], [110], [105, 110, 105, 116, 121], [110, 105, 116, 121], [105, 116, 121], [116, 121], [121]]

def begins (t : List Nat) : Bool := ends.any fun s => (whole (t ++ s)).isSome

def sortOf (c : Nat) : Nat :=
 if 48 ≤ low c ∧ low c ≤ 57 then 1 else if low c = 43 ∨ low c = 45 then 2 else if low c = 46 then 3 else if low c = 101 then 4 else if low c = 105 ∨ low c = 110 then 5 else 0

def next (st so : Nat) : Nat := match st, so with
 | 1, 1 => 3 | 1, 2 => 2 | 1, 3 => 4 | 1, 5 => 10
 | 2, 1 => 3 | 2, 3 => 4 | 2, 5 => 10
 | 3, 1 => 3 | 3, 3 => 5 | 3, 4 => 7
 | 4, 1 => 6
 | 5, 1 => 6 | 5, 4 => 7
 | 6, 1 => 6 | 6, 4 => 7
 | 7, 1 => 9 | 7, 2 => 8
 | 8, 1 => 9
 | 9, 1 => 9
 | _, _ => 0

structure Sn where
 neg : Bool
 digits : List Nat
 behind : Nat
 expNeg : Bool
 exponent : Nat

def take (st c : Nat) (s : Sn) : Sn :=
 if st = 2 then { s with neg := decide (c = 45) } else if st = 6 then { s with behind := s.behind + 1, digits := s.digits ++ [c] }
 else if st = 3 then { s with digits := s.digits ++ [c] } else if st = 8 then { s with expNeg := decide (c = 45) }
 else if st = 9 then { s with exponent := min (s.exponent * 10 + (c - 48)) 1000000 } else s

inductive Out where
 | stuck (o : Nat)
 | word (b : Nat) (n : Bool)
 | fin (st : Nat) (s : Sn)

def walk : List Nat → Nat → Nat → Sn → Out
 | [], _, st, s => .fin st s
 | c :: r, o, st, s => if next st (sortOf c) = 0 then .stuck o else if next st (sortOf c) = 10 then .word o s.neg else walk r (o + 1) (next st (sortOf c)) (take (next st (sortOf c)) c s)

def Sn.dec (s : Sn) : Dec := decOf s.neg s.digits s.behind (s.expNeg, s.exponent)

theorem step {c st st' : Nat} (r : List Nat) (o : Nat) (s : Sn) (h : next st (sortOf c) = st') (h0 : st' ≠ 0) (h1 : st' ≠ 10) : walk (c :: r) o st s = walk r (o + 1) st' (take st' c s) := by
 rw [walk, h, if_neg h0, if_neg h1]

def Low (v : List Nat) : Prop := ∀ c ∈ v, low c = c

theorem Low.tail {c : Nat} {r : List Nat} (h : Low (c :: r)) : Low r := fun x hx => h x (List.mem_cons_of_mem _ hx)

theorem Low.head {c : Nat} {r : List Nat} (h : Low (c :: r)) : low c = c := h c List.mem_cons_self

abbrev s0 (n : Bool) : Sn := ⟨n, [], 0, false, 0⟩

end Go.Proofs.YtmglhkdgfcbonaaGreatDoor.M
