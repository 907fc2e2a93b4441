import Derived.WalkKit
namespace Go.Proofs.YtogkkecnmlnajaaDoor.M
set_option linter.unusedVariables false
set_option maxRecDepth 100000
def val (B : Nat) : List Nat → Nat
 | [] => 0
 | x :: r => x + B * val B r

def digF (B : Nat) : Nat → Nat → List Nat
 | 0, _ => []
 | f + 1, n => if 0 < n then n % B :: digF B f (n / B) else []

def dig (B : Nat) (n : Nat) : List Nat := digF B n n

theorem digF_eq {B : Nat} (hB : 1 < B) (f : Nat) : ∀ n g, n ≤ f → n ≤ g → digF B f n = digF B g n := by
 induction f with
 | zero =>
   intro n g h1 h2
   have : n = 0 := by omega
   subst this
   cases g <;> simp [digF]
 | succ f ih =>
   intro n g h1 h2
   by_cases hn : 0 < n
   · cases g with
     | zero => omega
     | succ g =>
       have hd := Nat.div_lt_self hn hB
       simp only [digF, hn, if_true]
       rw [ih (n / B) g (by omega) (by omega)]
   · have : n = 0 := by omega
     subst this
     cases g <;> simp [digF]

theorem dig_zero (B : Nat) : dig B 0 = [] := by simp [dig, digF]

theorem dig_pos {B n : Nat} (hB : 1 < B) (hn : 0 < n) : dig B n = n % B :: dig B (n / B) := by
 have hd := Nat.div_lt_self hn hB
 unfold dig
 obtain ⟨m, rfl⟩ : ∃ m, n = m + 1 := ⟨n - 1, by omega⟩
 simp only [digF, hn, if_true]
 rw [digF_eq hB m ((m + 1) / B) ((m + 1) / B) (by omega) (by omega)]

theorem val_dig {B : Nat} (hB : 1 < B) (n : Nat) : val B (dig B n) = n := by
 induction n using Nat.strongRecOn with
 | _ n ih =>
   by_cases hn : 0 < n
   · rw [dig_pos hB hn, val, ih _ (Nat.div_lt_self hn hB)]
     exact Nat.mod_add_div n B
   · have : n = 0 := by omega
     subst this; simp [dig_zero, val]

theorem dig_lt {B : Nat} (hB : 1 < B) (n : Nat) : ∀ x ∈ dig B n, x < B := by
 induction n using Nat.strongRecOn with
 | _ n ih =>
   intro x hx
   by_cases hn : 0 < n
   · rw [dig_pos hB hn] at hx
     rcases List.mem_cons.1 hx with rfl | hx
     · exact Nat.mod_lt _ (by omega)
     · exact ih _ (Nat.div_lt_self hn hB) x hx
   · have : n = 0 := by omega
     subst this; simp [dig_zero] at hx

theorem val_append (B : Nat) (xs ys : List Nat) : val B (xs ++ ys) = val B xs + B ^ xs.length * val B ys := by
 induction xs with
 | nil => simp [val]
 | cons x r ih => simp only [List.cons_append, val, ih, List.length_cons, Nat.pow_succ]; rw [Nat.mul_add, ← Nat.mul_assoc, Nat.mul_comm (B ^ r.length) B]; omega

theorem val_lt {B : Nat} (hB : 1 < B) (xs : List Nat) (h : ∀ x ∈ xs, x < B) : val B xs < B ^ xs.length := by
 induction xs with
 | nil => simp [val]
 | cons x r ih =>
   have h1 := h x (by simp)
   have h2 := ih (fun y hy => h y (by simp [hy]))
   simp only [val, List.length_cons, Nat.pow_succ]
   have : B * val B r + B ≤ B * B ^ r.length := by
    rw [← Nat.mul_succ]; exact Nat.mul_le_mul_left _ h2
   rw [Nat.mul_comm (B ^ r.length) B]; omega

theorem dig_val {B : Nat} (hB : 1 < B) (xs : List Nat) (h : ∀ x ∈ xs, x < B) (hl : ∀ (hne : xs ≠ []), xs.getLast hne ≠ 0) : dig B (val B xs) = xs := by
 induction xs with
 | nil => simp [val, dig_zero]
 | cons x r ih =>
   have h1 := h x (by simp)
   have hr : dig B (val B r) = r := ih (fun y hy => h y (by simp [hy])) (fun hne => by have := hl (by simp); rwa [List.getLast_cons hne] at this)
   have hpos : 0 < val B (x :: r) := by
    by_cases hx : x = 0
    · have hne : r ≠ [] := by
       intro e; subst e; have := hl (by simp); simp [hx] at this
      have : val B r ≠ 0 := by
       intro e; rw [e, dig_zero] at hr; exact hne hr.symm
      simp only [val]
      have : 0 < B * val B r := Nat.mul_pos (by omega) (by omega)
      omega
    · simp only [val]; omega
   rw [dig_pos hB hpos]
   have e1 : (x + B * val B r) % B = x := by rw [Nat.add_mul_mod_self_left]; exact Nat.mod_eq_of_lt h1
   have e2 : (x + B * val B r) / B = val B r := by
    rw [Nat.add_mul_div_left _ _ (by omega), Nat.div_eq_of_lt h1]; omega
   simp only [val, e1, e2, hr]

theorem val_replicate (B n : Nat) : val B (List.replicate n 0) = 0 := by
 induction n with
 | zero => rfl
 | succ n ih => simp [List.replicate_succ, val, ih]

theorem val_zeros {B : Nat} (xs : List Nat) (h : ∀ x ∈ xs, x = 0) : val B xs = 0 := by
 induction xs with
 | nil => rfl
 | cons x r ih => simp [val, h x (by simp), ih (fun y hy => h y (by simp [hy]))]

theorem take_dig {B : Nat} (hB : 1 < B) (xs : List Nat) (h : ∀ x ∈ xs, x < B) (n : Nat) (hn : n ≤ xs.length)
 (hz : ∀ j, n ≤ j → j < xs.length → xs.getD j 0 = 0) (hl : n = 0 ∨ xs.getD (n - 1) 0 ≠ 0) : xs.take n = dig B (val B xs) := by
 have e : val B xs = val B (xs.take n) := by
  conv => lhs; rw [← List.take_append_drop n xs]
  rw [val_append, val_zeros (xs.drop n)]
  · simp
  · intro x hx
    obtain ⟨j, hj, rfl⟩ := List.getElem_of_mem hx
    rw [List.getElem_drop]
    have := hz (n + j) (by omega) (by simp at hj; omega)
    rw [List.getD_eq_getElem?_getD, List.getElem?_eq_getElem (by simp at hj; omega)] at this
    simpa using this
 rw [e]
 refine (dig_val hB _ (fun x hx => h x (List.mem_of_mem_take hx)) ?_).symm
 intro hne
 rcases hl with rfl | hl
 · simp at hne
 · have hn0 : n ≠ 0 := by intro e; subst e; simp at hne
   rw [List.getLast_eq_getElem]
   simp only [List.getElem_take, List.length_take]
   rw [List.getD_eq_getElem?_getD, List.getElem?_eq_getElem (by omega)] at hl
   have e1 : min n xs.length - 1 = n - 1 := by omega
   simp only [e1]
   simpa using hl

theorem length_dig_le {B : Nat} (hB : 1 < B) (xs : List Nat) (h : ∀ x ∈ xs, x < B) : (dig B (val B xs)).length ≤ xs.length := by
 induction xs with
 | nil => simp [val, dig_zero]
 | cons x r ih =>
   by_cases hp : 0 < val B (x :: r)
   · have e2 : (x + B * val B r) / B = val B r := by
      rw [Nat.add_mul_div_left _ _ (by omega), Nat.div_eq_of_lt (h x (by simp))]; omega
     rw [dig_pos hB hp]
     simp only [val, e2, List.length_cons]
     have := ih (fun y hy => h y (by simp [hy]))
     omega
   · have : val B (x :: r) = 0 := by omega
     rw [this, dig_zero]; simp

theorem getD_lt {B : Nat} (hB : 1 < B) {xs : List Nat} (h : ∀ x ∈ xs, x < B) (i : Nat) : xs.getD i 0 < B := by
 rw [List.getD_eq_getElem?_getD]
 by_cases hi : i < xs.length
 · rw [List.getElem?_eq_getElem hi]; exact h _ (List.getElem_mem hi)
 · rw [List.getElem?_eq_none (by omega)]; simp; omega

theorem take_succ (xs : List Nat) (k : Nat) (h : k < xs.length) : xs.take (k + 1) = xs.take k ++ [xs.getD k 0] := by
 rw [List.take_succ_eq_append_getElem h, List.getD_eq_getElem?_getD, List.getElem?_eq_getElem h]; rfl

theorem val_head (B : Nat) (xs : List Nat) : val B xs = xs.getD 0 0 + B * val B xs.tail := by
 cases xs <;> simp [val]

theorem getD_tail (xs : List Nat) (j : Nat) : xs.tail.getD j 0 = xs.getD (j + 1) 0 := by
 cases xs <;> simp

theorem val_ext (B : Nat) (xs : List Nat) : ∀ ys : List Nat, (∀ j, xs.getD j 0 = ys.getD j 0) → val B xs = val B ys := by
 induction xs with
 | nil =>
   intro ys h
   refine (val_zeros ys (fun y hy => ?_)).symm
   obtain ⟨j, hj, rfl⟩ := List.getElem_of_mem hy
   have := h j
   simp [List.getD_eq_getElem?_getD, hj] at this
   omega
 | cons x r ih =>
   intro ys h
   rw [val_head B ys, val, ih ys.tail (fun j => by rw [getD_tail, ← h (j + 1)]; simp)]
   have := h 0
   simp only [List.getD_cons_zero] at this
   rw [this]

theorem val_lt_top {B : Nat} (hB : 1 < B) (k : Nat) : ∀ xs ys : List Nat, (∀ x ∈ xs, x < B) → xs.getD k 0 < ys.getD k 0 → (∀ j, k < j → xs.getD j 0 = ys.getD j 0) → val B xs < val B ys := by
 induction k with
 | zero =>
   intro xs ys hx h he
   rw [val_head B xs, val_head B ys, val_ext B xs.tail ys.tail (fun j => by rw [getD_tail, getD_tail]; exact he (j + 1) (by omega))]
   omega
 | succ k ih =>
   intro xs ys hx h he
   have h1 := ih xs.tail ys.tail (fun x hx' => hx x (List.mem_of_mem_tail hx')) (by rw [getD_tail, getD_tail]; exact h) (fun j hj => by rw [getD_tail, getD_tail]; exact he (j + 1) (by omega))
   have h0 := getD_lt hB hx 0
   rw [val_head B xs, val_head B ys]
   have : B * val B xs.tail + B ≤ B * val B ys.tail := by rw [← Nat.mul_succ]; exact Nat.mul_le_mul_left _ h1
   omega

theorem lt_dig {B : Nat} (hB : 1 < B) (n : Nat) : n < B ^ (dig B n).length := by
 have := val_lt hB (dig B n) (dig_lt hB n)
 rwa [val_dig hB] at this

theorem dig_le {B : Nat} (hB : 1 < B) (n : Nat) : 0 < n → B ^ ((dig B n).length - 1) ≤ n := by
 induction n using Nat.strongRecOn with
 | _ n ih =>
   intro hn
   rw [dig_pos hB hn]
   simp only [List.length_cons, Nat.add_sub_cancel]
   by_cases h : 0 < n / B
   · have h1 := ih (n / B) (Nat.div_lt_self hn hB) h
     have h2 : (dig B (n / B)).length ≠ 0 := by rw [dig_pos hB h]; simp
     have e : (dig B (n / B)).length = (dig B (n / B)).length - 1 + 1 := by omega
     rw [e, Nat.pow_succ]
     exact Nat.le_trans (Nat.mul_le_mul_right _ h1) (Nat.div_mul_le_self n B)
   · have : n / B = 0 := Nat.eq_zero_of_not_pos h
     rw [this, dig_zero]
     show B ^ 0 ≤ n
     rw [Nat.pow_zero]; exact hn

theorem lt_of_length {B : Nat} (hB : 1 < B) {a b : Nat} (h : (dig B a).length < (dig B b).length) : a < b := by
 have h1 := lt_dig hB a
 have hb : 0 < b := by
  rcases Nat.eq_zero_or_pos b with rfl | hb
  · simp [dig_zero] at h
  · exact hb
 have h2 := dig_le hB b hb
 have h3 : B ^ (dig B a).length ≤ B ^ ((dig B b).length - 1) := Nat.pow_le_pow_right (by omega) (by omega)
 omega

def halves : List Nat → List Nat
 | [] => []
 | x :: r => x % 4294967296 :: x / 4294967296 :: halves r

theorem halves_append (xs ys : List Nat) : halves (xs ++ ys) = halves xs ++ halves ys := by
 induction xs with
 | nil => rfl
 | cons x r ih => simp [halves, ih]

theorem halves_length (xs : List Nat) : (halves xs).length = 2 * xs.length := by
 induction xs with
 | nil => rfl
 | cons x r ih => simp [halves, ih]; omega

theorem halves_lt (xs : List Nat) (h : ∀ x ∈ xs, x < 18446744073709551616) : ∀ x ∈ halves xs, x < 4294967296 := by
 induction xs with
 | nil => simp [halves]
 | cons x r ih =>
   intro y hy
   have hx := h x (by simp)
   simp only [halves, List.mem_cons] at hy
   rcases hy with rfl | rfl | hy
   · omega
   · omega
   · exact ih (fun z hz => h z (by simp [hz])) y hy

theorem val_halves (xs : List Nat) : val 4294967296 (halves xs) = val 18446744073709551616 xs := by
 induction xs with
 | nil => rfl
 | cons x r ih => simp only [halves, val, ih]; omega

theorem dig_last {B : Nat} (hB : 1 < B) (n : Nat) : 0 < n → (dig B n).getD ((dig B n).length - 1) 0 ≠ 0 := by
 induction n using Nat.strongRecOn with
 | _ n ih =>
   intro hn
   by_cases h : 0 < n / B
   · have h1 := ih (n / B) (Nat.div_lt_self hn hB) h
     rw [dig_pos hB hn]
     have h2 : (dig B (n / B)).length ≠ 0 := by rw [dig_pos hB h]; simp
     simp only [List.length_cons, Nat.add_sub_cancel]
     obtain ⟨m, hm⟩ : ∃ m, (dig B (n / B)).length = m + 1 := ⟨(dig B (n / B)).length - 1, by omega⟩
     rw [hm] at h1 ⊢
     simpa using h1
   · have h0 : n / B = 0 := Nat.eq_zero_of_not_pos h
     rw [dig_pos hB hn, h0, dig_zero]
     have := Nat.mod_add_div n B
     rw [h0] at this
     simp; omega

theorem dig_of {B : Nat} (hB : 1 < B) (xs : List Nat) (h : ∀ x ∈ xs, x < B) (hl : xs = [] ∨ xs.getD (xs.length - 1) 0 ≠ 0) : xs = dig B (val B xs) := by
 refine (dig_val hB xs h (fun hne => ?_)).symm
 rcases hl with rfl | hl
 · exact absurd rfl hne
 · rw [List.getLast_eq_getElem]
   have : xs.length ≠ 0 := fun e => hne (List.eq_nil_of_length_eq_zero e)
   rw [List.getD_eq_getElem?_getD, List.getElem?_eq_getElem (by omega)] at hl
   simpa using hl

def pk (C : Nat) (xs : List Nat) (k : Nat) : List Nat := (List.range k).map fun i => xs.getD (2 * i) 0 + xs.getD (2 * i + 1) 0 * C

theorem pk_length (C : Nat) (xs : List Nat) (k : Nat) : (pk C xs k).length = k := by simp [pk]

theorem pk_succ (C : Nat) (xs : List Nat) (k : Nat) : pk C xs (k + 1) = pk C xs k ++ [xs.getD (2 * k) 0 + xs.getD (2 * k + 1) 0 * C] := by
 simp [pk, List.range_succ]

theorem pk_cons (C : Nat) (xs : List Nat) (k : Nat) : pk C xs (k + 1) = (xs.getD 0 0 + xs.getD 1 0 * C) :: pk C xs.tail.tail k := by
 unfold pk
 rw [List.range_succ_eq_map, List.map_cons, List.map_map]
 refine congrArg (List.cons _) (List.map_congr_left ?_)
 intro i _
 simp only [Function.comp, getD_tail]
 rw [show 2 * Nat.succ i = 2 * i + 1 + 1 by omega]

theorem val_pk (C k : Nat) : ∀ xs : List Nat, xs.length ≤ 2 * k → val (C * C) (pk C xs k) = val C xs := by
 induction k with
 | zero => intro xs h; have : xs = [] := List.eq_nil_of_length_eq_zero (by omega); subst this; simp [pk, val]
 | succ k ih =>
   intro xs h
   have e1 := val_head C xs
   have e2 := val_head C xs.tail
   rw [getD_tail, Nat.zero_add] at e2
   rw [pk_cons, val, ih xs.tail.tail (by simp; omega), e1, e2, Nat.mul_add, Nat.mul_comm (xs.getD 1 0) C, Nat.mul_assoc]
   omega

theorem pk_lt {C : Nat} (hC : 1 < C) (xs : List Nat) (h : ∀ x ∈ xs, x < C) (k : Nat) : ∀ x ∈ pk C xs k, x < C * C := by
 intro x hx
 obtain ⟨i, _, rfl⟩ := List.mem_map.1 hx
 have h1 := getD_lt hC h (2 * i)
 have h2 := getD_lt hC h (2 * i + 1)
 have h3 : (xs.getD (2 * i + 1) 0 + 1) * C ≤ C * C := Nat.mul_le_mul_right _ h2
 rw [Nat.add_mul] at h3
 omega

theorem pk_dig {C : Nat} (hC : 1 < C) (n : Nat) : pk C (dig C n) (((dig C n).length + 1) / 2) = dig (C * C) n := by
 have hCC : 1 < C * C := Nat.lt_of_lt_of_le hC (Nat.le_mul_of_pos_left _ (by omega))
 have e := dig_of hCC (pk C (dig C n) (((dig C n).length + 1) / 2)) (pk_lt hC _ (dig_lt hC n) _) ?_
 · rw [val_pk _ _ _ (by omega), val_dig hC] at e; exact e
 · by_cases hn : 0 < n
   · right
     rw [pk_length]
     have h1 := dig_last hC n hn
     have h2 : (dig C n).length ≠ 0 := by rw [dig_pos hC hn]; simp
     obtain ⟨k, hk⟩ : ∃ k, ((dig C n).length + 1) / 2 = k + 1 := ⟨((dig C n).length + 1) / 2 - 1, by omega⟩
     rw [hk, Nat.add_sub_cancel]
     have e : (pk C (dig C n) (k + 1)).getD k 0 = (dig C n).getD (2 * k) 0 + (dig C n).getD (2 * k + 1) 0 * C := by
      simp [pk, List.getD_eq_getElem?_getD]
     rw [e]
     rcases Nat.lt_or_ge (2 * k + 1) (dig C n).length with h | h
     · rw [show (dig C n).length - 1 = 2 * k + 1 by omega] at h1
       have : 0 < (dig C n).getD (2 * k + 1) 0 * C := Nat.mul_pos (by omega) (by omega)
       omega
     · rw [show (dig C n).length - 1 = 2 * k by omega] at h1; omega
   · have : n = 0 := by omega
     subst this; left; simp [dig_zero, pk]

theorem val_take_succ (B : Nat) (xs : List Nat) (k : Nat) : val B (xs.take (k + 1)) = val B (xs.take k) + B ^ k * xs.getD k 0 := by
 by_cases h : k < xs.length
 · rw [take_succ xs k h, val_append]
   have : (xs.take k).length = k := by simp; omega
   rw [this]; simp [val]
 · rw [List.take_of_length_le (by omega), List.take_of_length_le (by omega), List.getD_eq_getElem?_getD, List.getElem?_eq_none (by omega)]
   simp

theorem val_snoc (B : Nat) (xs : List Nat) (x : Nat) : val B (xs ++ [x]) = val B xs + B ^ xs.length * x := by
 rw [val_append]; simp [val]

theorem no_carry {S c P t : Nat} (h : S + c * P = t) (ht : t < P) : c = 0 ∧ S = t := by
 rcases Nat.eq_zero_or_pos c with rfl | hc
 · simp at h; exact ⟨rfl, h⟩
 · have := Nat.le_mul_of_pos_left P hc; omega

theorem add_place {S c P B A A' x y o c' : Nat} (h : S + c * P = A + A') (hs : o + B * c' = x + y + c) : S + P * o + c' * (P * B) = (A + P * x) + (A' + P * y) := by
 have e : P * (o + B * c') = P * (x + y + c) := by rw [hs]
 simp only [Nat.mul_add] at e
 rw [Nat.mul_comm c' (P * B), Nat.mul_assoc]
 rw [Nat.mul_comm c P] at h
 omega

structure Fm where
 p : Nat
 e : Nat
 x : Bool

def Fm.fb (F : Fm) : Nat := if F.x then F.p else F.p - 1

def Fm.wd (F : Fm) : Nat := F.fb + F.e + 1

def Fm.emax (F : Fm) : Nat := 2 ^ (F.e - 1) - 1

def Fm.qmin (F : Fm) : Int := 2 - (F.emax : Int) - (F.p : Int)

def Fm.lead (F : Fm) : Nat := 2 ^ (F.p - 1)

def Fm.top (F : Fm) : Nat := 2 ^ F.e - 1

structure Fm.Ok (F : Fm) : Prop where
 p1 : 24 ≤ F.p
 p2 : F.p ≤ 113
 e1 : 8 ≤ F.e
 e2 : F.e ≤ 15
 w : F.wd ≤ 128

structure Pt where
 c : Int
 n : Bool
 s : Nat
 q : Int

theorem Pt.ext' {a b : Pt} (h1 : a.c = b.c) (h2 : a.n = b.n) (h3 : a.s = b.s) (h4 : a.q = b.q) : a = b := by
 cases a; cases b; simp at *; exact ⟨h1, h2, h3, h4⟩

def Fm.fld (F : Fm) (X : Nat) : Nat := X / 2 ^ F.fb % 2 ^ F.e

def Fm.sgn (F : Fm) (X : Nat) : Nat := X / 2 ^ F.fb / 2 ^ F.e

def Fm.sig (F : Fm) (X : Nat) : Nat := if F.x = false ∧ 0 < F.fld X then X % 2 ^ F.fb + F.lead else X % 2 ^ F.fb

def Fm.bad (F : Fm) (X : Nat) : Prop := 1 < F.sgn X ∨ ¬ (F.lead ≤ F.sig X ↔ 0 < F.fld X)

instance (F : Fm) (X : Nat) : Decidable (F.bad X) := by unfold Fm.bad; infer_instance

def Fm.upk (F : Fm) (X : Nat) : Pt :=
 if F.bad X then ⟨0, false, 0, 0⟩
 else if F.fld X = F.top then (if F.sig X = F.lead then ⟨4, decide (F.sgn X = 1), 0, 0⟩ else ⟨5, false, 0, 0⟩)
 else if 0 < F.fld X then ⟨3, decide (F.sgn X = 1), F.sig X, (F.fld X : Int) - F.emax - F.p + 1⟩
 else if F.sig X = 0 then ⟨1, decide (F.sgn X = 1), 0, 0⟩
 else ⟨2, decide (F.sgn X = 1), F.sig X, F.qmin⟩

def Fm.word (F : Fm) (n : Bool) (fld sig : Nat) : Nat :=
 fld * 2 ^ F.fb + (if F.x = false ∧ 0 < fld then sig - F.lead else sig) + (if n then 2 ^ (F.wd - 1) else 0)

theorem Fm.Ok.leadPos {F : Fm} (h : F.Ok) : 0 < F.lead := Nat.pow_pos (by omega)

theorem Fm.Ok.ad {F : Fm} (h : F.Ok) : 2 ^ F.fb = if F.x then 2 * F.lead else F.lead := by
 unfold Fm.fb Fm.lead
 have := h.p1
 cases F.x
 · rfl
 · simp only [if_true]
   rw [show F.p = (F.p - 1) + 1 by omega, Nat.pow_succ, Nat.add_sub_cancel, Nat.mul_comm]

theorem Fm.Ok.top2 {F : Fm} (h : F.Ok) : F.top = 2 * F.emax + 1 ∧ 2 ^ F.e = F.top + 1 ∧ 127 ≤ F.emax ∧ F.emax ≤ 16383 := by
 have h1 := h.e1
 have h2 := h.e2
 have e : 2 ^ F.e = 2 * 2 ^ (F.e - 1) := by
  rw [Nat.mul_comm, ← Nat.pow_succ]; congr 1; omega
 have a : 2 ^ 7 ≤ 2 ^ (F.e - 1) := Nat.pow_le_pow_right (by omega) (by omega)
 have b : 2 ^ (F.e - 1) ≤ 2 ^ 14 := Nat.pow_le_pow_right (by omega) (by omega)
 unfold Fm.top Fm.emax
 omega

theorem Fm.Ok.width {F : Fm} (h : F.Ok) : 2 ^ F.wd = 2 ^ F.fb * 2 ^ F.e * 2 ∧ 2 ^ (F.wd - 1) = 2 ^ F.fb * 2 ^ F.e ∧ 2 ^ F.wd ≤ 2 ^ 128 := by
 refine ⟨?_, ?_, Nat.pow_le_pow_right (by omega) h.w⟩
 · unfold Fm.wd; rw [Nat.pow_succ, Nat.pow_add]
 · unfold Fm.wd; rw [Nat.add_sub_cancel, Nat.pow_add]

theorem Fm.Ok.frac {F : Fm} (h : F.Ok) (fld sig : Nat) (h3 : sig < 2 * F.lead) (h4 : F.lead ≤ sig ↔ 0 < fld) :
 (if F.x = false ∧ 0 < fld then sig - F.lead else sig) < 2 ^ F.fb := by
 rw [h.ad]
 have := h.leadPos
 rcases F with ⟨p, e, x⟩
 cases x
 · by_cases h5 : 0 < fld
   · simp [h5] at *; omega
   · simp [h5] at *; omega
 · simp; exact h3

theorem Fm.Ok.fields {F : Fm} (h : F.Ok) (n : Bool) (fld sig : Nat) (h2 : fld ≤ F.top) (h3 : sig < 2 * F.lead) (h4 : F.lead ≤ sig ↔ 0 < fld) :
 F.fld (F.word n fld sig) = fld ∧ F.sgn (F.word n fld sig) = n.toNat ∧ F.sig (F.word n fld sig) = sig ∧ F.word n fld sig < 2 ^ F.wd := by
 have hf := h.frac fld sig h3 h4
 have ht := h.top2
 have hA : 0 < 2 ^ F.fb := Nat.pow_pos (by omega)
 have hw := h.width
 obtain ⟨fr, hfr⟩ : ∃ fr, fr = (if F.x = false ∧ 0 < fld then sig - F.lead else sig) := ⟨_, rfl⟩
 rw [← hfr] at hf
 have e : F.word n fld sig = (n.toNat * 2 ^ F.e + fld) * 2 ^ F.fb + fr := by
  unfold Fm.word
  rw [← hfr, hw.2.1, Nat.add_mul]
  cases n
  · simp
  · simp [Nat.mul_comm]; omega
 have e1 : F.word n fld sig / 2 ^ F.fb = n.toNat * 2 ^ F.e + fld := by
  rw [e, Nat.mul_comm, Nat.mul_add_div hA, Nat.div_eq_of_lt hf, Nat.add_zero]
 have e2 : F.word n fld sig % 2 ^ F.fb = fr := by
  rw [e, Nat.mul_comm, Nat.mul_add_mod, Nat.mod_eq_of_lt hf]
 have e3 : F.fld (F.word n fld sig) = fld := by
  unfold Fm.fld
  rw [e1, Nat.mul_comm, Nat.mul_add_mod, Nat.mod_eq_of_lt (by omega)]
 refine ⟨e3, ?_, ?_, ?_⟩
 · unfold Fm.sgn
   rw [e1, Nat.mul_comm, Nat.mul_add_div (by omega), Nat.div_eq_of_lt (by omega), Nat.add_zero]
 · unfold Fm.sig
   rw [e3, e2, hfr]
   by_cases h5 : F.x = false ∧ 0 < fld
   · simp only [h5, and_self, if_true]; have := h4.2 h5.2; omega
   · simp only [h5, if_false]
 · rw [e, hw.1]
   have hn : n.toNat ≤ 1 := by cases n <;> simp
   have h7 : n.toNat * 2 ^ F.e ≤ 1 * 2 ^ F.e := Nat.mul_le_mul_right _ hn
   have h6 : (n.toNat * 2 ^ F.e + fld + 1) * 2 ^ F.fb ≤ (2 ^ F.e * 2) * 2 ^ F.fb := Nat.mul_le_mul_right _ (by omega)
   rw [Nat.add_mul _ 1] at h6
   have h8 : 2 ^ F.e * 2 * 2 ^ F.fb = 2 ^ F.fb * 2 ^ F.e * 2 := by rw [Nat.mul_comm (2 ^ F.e * 2), Nat.mul_assoc]
   omega

def Fm.Proper (F : Fm) (t : Pt) : Prop :=
 (t.c = 1 ∧ t.s = 0 ∧ t.q = 0) ∨ (t.c = 4 ∧ t.s = 0 ∧ t.q = 0) ∨ (t.c = 5 ∧ t.n = false ∧ t.s = 0 ∧ t.q = 0) ∨
 (t.c = 2 ∧ 0 < t.s ∧ t.s < F.lead ∧ t.q = F.qmin) ∨
 (t.c = 3 ∧ F.lead ≤ t.s ∧ t.s < 2 * F.lead ∧ 1 ≤ t.q + F.emax + F.p - 1 ∧ t.q + F.emax + F.p - 1 < F.top)

instance (F : Fm) (t : Pt) : Decidable (F.Proper t) := by unfold Fm.Proper; infer_instance

def Fm.pk (F : Fm) (t : Pt) : Nat :=
 if t.c = 2 then F.word t.n 0 t.s
 else if t.c = 3 then F.word t.n (t.q + F.emax + F.p - 1).toNat t.s
 else if t.c = 4 then F.word t.n F.top F.lead
 else if t.c = 5 then F.word false F.top (F.lead + 2 ^ (F.p - 2))
 else F.word t.n 0 0

theorem Fm.Ok.half {F : Fm} (h : F.Ok) : F.lead = 2 * 2 ^ (F.p - 2) := by
 unfold Fm.lead
 have := h.p1
 rw [Nat.mul_comm, ← Nat.pow_succ]; congr 1; omega

theorem Fm.Ok.sigLt {F : Fm} (h : F.Ok) (X : Nat) : F.sig X < 2 * F.lead := by
 have hA : X % 2 ^ F.fb < 2 ^ F.fb := Nat.mod_lt _ (Nat.pow_pos (by omega))
 rw [h.ad] at hA
 unfold Fm.sig
 rw [h.ad]
 rcases F with ⟨p, e, x⟩
 cases x
 · simp only [Bool.false_eq_true, if_false, true_and] at *
   by_cases h5 : 0 < Fm.fld ⟨p, e, false⟩ X
   · simp only [h5, if_true]; omega
   · simp only [h5, if_false]; omega
 · simpa using hA

theorem Fm.fldLe {F : Fm} (h : F.Ok) (X : Nat) : F.fld X ≤ F.top := by
 have := h.top2
 have : F.fld X < 2 ^ F.e := Nat.mod_lt _ (Nat.pow_pos (by omega))
 omega

theorem Fm.Ok.upk_proper {F : Fm} (h : F.Ok) (X : Nat) : F.upk X = ⟨0, false, 0, 0⟩ ∨ F.Proper (F.upk X) := by
 unfold Fm.upk
 by_cases hb : F.bad X
 · simp [hb]
 · right
   simp only [hb, if_false]
   have hs := h.sigLt X
   have hl := fldLe h X
   have ht := h.top2
   have hb' : ¬ 1 < F.sgn X ∧ (F.lead ≤ F.sig X ↔ 0 < F.fld X) := by
    unfold Fm.bad at hb
    exact ⟨fun h1 => hb (.inl h1), Classical.byContradiction fun h2 => hb (.inr h2)⟩
   by_cases h1 : F.fld X = F.top
   · simp only [h1, if_true]
     by_cases h2 : F.sig X = F.lead
     · simp [h2, Fm.Proper]
     · simp [h2, Fm.Proper]
   · simp only [h1, if_false]
     by_cases h2 : 0 < F.fld X
     · simp only [h2, if_true]
       right; right; right; right
       refine ⟨rfl, hb'.2.2 h2, hs, ?_, ?_⟩ <;> simp only <;> omega
     · simp only [h2, if_false]
       by_cases h3 : F.sig X = 0
       · simp [h3, Fm.Proper]
       · simp only [h3, if_false]
         right; right; right; left
         refine ⟨rfl, by simp only; omega, ?_, rfl⟩
         simp only
         have := mt hb'.2.1 h2
         omega

theorem Fm.Ok.upk_word {F : Fm} (h : F.Ok) (n : Bool) (fld sig : Nat) (h2 : fld ≤ F.top) (h3 : sig < 2 * F.lead) (h4 : F.lead ≤ sig ↔ 0 < fld) :
 F.upk (F.word n fld sig) = if fld = F.top then (if sig = F.lead then ⟨4, n, 0, 0⟩ else ⟨5, false, 0, 0⟩)
  else if 0 < fld then ⟨3, n, sig, (fld : Int) - F.emax - F.p + 1⟩ else if sig = 0 then ⟨1, n, 0, 0⟩ else ⟨2, n, sig, F.qmin⟩ := by
 obtain ⟨e1, e2, e3, _⟩ := h.fields n fld sig h2 h3 h4
 have hb : ¬ F.bad (F.word n fld sig) := by
  unfold Fm.bad
  rw [e1, e2, e3]
  have : n.toNat ≤ 1 := by cases n <;> simp
  intro hh
  rcases hh with hh | hh
  · omega
  · exact hh h4
 have hn : decide (n.toNat = 1) = n := by cases n <;> rfl
 unfold Fm.upk
 simp only [hb, if_false, e1, e2, e3, hn]

theorem Fm.Ok.upk_pk {F : Fm} (h : F.Ok) (t : Pt) (hp : F.Proper t) : F.upk (F.pk t) = t ∧ F.pk t < 2 ^ F.wd := by
 have hl := h.leadPos
 have ht := h.top2
 have hh := h.half
 have hq : 0 < 2 ^ (F.p - 2) := Nat.pow_pos (by omega)
 rcases t with ⟨c, n, s, q⟩
 simp only [Fm.Proper] at hp
 rcases hp with ⟨rfl, rfl, rfl⟩ | ⟨rfl, rfl, rfl⟩ | ⟨rfl, rfl, rfl, rfl⟩ | ⟨rfl, h1, h2, rfl⟩ | ⟨rfl, h1, h2, h3, h4⟩
 · have a1 : (0 : Nat) ≤ F.top := by omega
   have a2 : F.lead ≤ 0 ↔ 0 < 0 := by omega
   have e : F.pk ⟨1, n, 0, 0⟩ = F.word n 0 0 := by simp [Fm.pk]
   rw [e, h.upk_word n 0 0 a1 (by omega) a2]
   refine ⟨?_, (h.fields n 0 0 a1 (by omega) a2).2.2.2⟩
   have : ¬ 0 = F.top := by omega
   simp [this]
 · have a2 : F.lead ≤ F.lead ↔ 0 < F.top := by omega
   have e : F.pk ⟨4, n, 0, 0⟩ = F.word n F.top F.lead := by simp [Fm.pk]
   rw [e, h.upk_word n _ _ (by omega) (by omega) a2]
   refine ⟨?_, (h.fields n _ _ (by omega) (by omega) a2).2.2.2⟩
   simp
 · have a2 : F.lead ≤ F.lead + 2 ^ (F.p - 2) ↔ 0 < F.top := by omega
   have e : F.pk ⟨5, false, 0, 0⟩ = F.word false F.top (F.lead + 2 ^ (F.p - 2)) := by simp [Fm.pk]
   rw [e, h.upk_word false _ _ (by omega) (by omega) a2]
   refine ⟨?_, (h.fields false _ _ (by omega) (by omega) a2).2.2.2⟩
   have : ¬ F.lead + 2 ^ (F.p - 2) = F.lead := by omega
   simp only [this, if_true, if_false]
 · have a1 : (0 : Nat) ≤ F.top := by omega
   have a2 : F.lead ≤ s ↔ 0 < 0 := by omega
   have e : F.pk ⟨2, n, s, F.qmin⟩ = F.word n 0 s := by simp [Fm.pk]
   rw [e, h.upk_word n 0 s a1 (by omega) a2]
   refine ⟨?_, (h.fields n 0 s a1 (by omega) a2).2.2.2⟩
   have b1 : ¬ 0 = F.top := by omega
   have b2 : ¬ s = 0 := by omega
   simp [b1, b2]
 · obtain ⟨f, hf⟩ : ∃ f : Nat, (f : Int) = q + F.emax + F.p - 1 := ⟨(q + F.emax + F.p - 1).toNat, by omega⟩
   have e : F.pk ⟨3, n, s, q⟩ = F.word n f s := by
    have : (q + F.emax + F.p - 1).toNat = f := by omega
    simp [Fm.pk, this]
   have a2 : F.lead ≤ s ↔ 0 < f := by omega
   rw [e, h.upk_word n f s (by omega) (by omega) a2]
   refine ⟨?_, (h.fields n f s (by omega) (by omega) a2).2.2.2⟩
   have b1 : ¬ f = F.top := by omega
   have b2 : 0 < f := by omega
   have b3 : (f : Int) - F.emax - F.p + 1 = q := by omega
   simp [b1, b2, b3]

def fm : Nat → Fm
 | 0 => ⟨24, 8, false⟩
 | 1 => ⟨53, 11, false⟩
 | 2 => ⟨64, 15, true⟩
 | _ => ⟨113, 15, false⟩

theorem fm_ok (f : Nat) : (fm f).Ok := by
 match f with
 | 0 => constructor <;> simp [fm, Fm.wd, Fm.fb]
 | 1 => constructor <;> simp [fm, Fm.wd, Fm.fb]
 | 2 => constructor <;> simp [fm, Fm.wd, Fm.fb]
 | n + 3 => constructor <;> simp [fm, Fm.wd, Fm.fb]

def hiN (X : Nat) : Nat := X / 18446744073709551616

def loN (X : Nat) : Nat := X % 18446744073709551616

theorem hl (X : Nat) : X = hiN X * 18446744073709551616 + loN X := by unfold hiN loN; omega

theorem loLt (X : Nat) : loN X < 18446744073709551616 := by unfold loN; omega

theorem hiLt {X : Nat} (h : X < 2 ^ 128) : hiN X < 18446744073709551616 := by unfold hiN; omega

theorem hl_eq {X Y : Nat} (h1 : hiN X = hiN Y) (h2 : loN X = loN Y) : X = Y := by rw [hl X, hl Y, h1, h2]

theorem hi_small {X : Nat} (h : X < 18446744073709551616) : hiN X = 0 := by unfold hiN; omega

theorem lo_small {X : Nat} (h : X < 18446744073709551616) : loN X = X := by unfold loN; omega

theorem shl_small (X n : Nat) (h : X < 2 ^ 128) (hn : n < 64) :
 hiN (X * 2 ^ n % 2 ^ 128) = (hiN X * 2 ^ n) % 18446744073709551616 + loN X / 2 ^ (64 - n) ∧ loN (X * 2 ^ n % 2 ^ 128) = loN X * 2 ^ n % 18446744073709551616 ∧
 loN X / 2 ^ (64 - n) < 2 ^ n ∧ ∃ k, (hiN X * 2 ^ n) % 18446744073709551616 = k * 2 ^ n := by
 have hp : 0 < 2 ^ n := Nat.pow_pos (by omega)
 have hq : 0 < 2 ^ (64 - n) := Nat.pow_pos (by omega)
 have hB : 2 ^ (64 - n) * 2 ^ n = 18446744073709551616 := by rw [← Nat.pow_add, show 64 - n + n = 64 by omega]
 have hX := hl X
 have h1 := loLt X
 have h2 := hiLt h
 generalize hiN X = a at *
 generalize loN X = b at *
 generalize 2 ^ n = P at *
 generalize 2 ^ (64 - n) = Q at *
 have e1 : b * P / 18446744073709551616 = b / Q := by rw [← hB, Nat.mul_div_mul_right _ _ hp]
 have c3 : b / Q < P := by apply Nat.div_lt_of_lt_mul; rw [hB]; exact h1
 have e2 : X * P = a * P * 18446744073709551616 + b * P := by
  rw [hX, Nat.add_mul, Nat.mul_right_comm]
 have e3 : X * P / 18446744073709551616 = a * P + b / Q := by
  rw [e2, Nat.add_comm, Nat.add_mul_div_right _ _ (by omega), e1, Nat.add_comm]
 have e4 : a * P % 18446744073709551616 = (a % Q) * P := by rw [← hB, Nat.mul_mod_mul_right]
 have c4 : (a % Q) * P + P ≤ 18446744073709551616 := by
  rw [← hB]
  have : a % Q + 1 ≤ Q := Nat.mod_lt _ hq
  have := Nat.mul_le_mul_right P this
  rw [Nat.add_mul] at this
  omega
 refine ⟨?_, ?_, c3, a % Q, e4⟩
 · unfold hiN
   rw [show (2 : Nat) ^ 128 = 18446744073709551616 * 18446744073709551616 from rfl, Nat.mod_mul_right_div_self, e3, Nat.add_mod, e4]
   have h5 : b / Q % 18446744073709551616 = b / Q := Nat.mod_eq_of_lt (by have := Nat.div_le_self b Q; omega)
   rw [h5, Nat.mod_eq_of_lt (by omega)]
 · unfold loN
   rw [show (2 : Nat) ^ 128 = 18446744073709551616 * 18446744073709551616 from rfl, Nat.mod_mul_right_mod, e2, Nat.mul_add_mod_self_right]

theorem shl_great (X n : Nat) (h : X < 2 ^ 128) (hn : 64 ≤ n) (hm : n < 128) :
 hiN (X * 2 ^ n % 2 ^ 128) = loN X * 2 ^ (n - 64) % 18446744073709551616 ∧ loN (X * 2 ^ n % 2 ^ 128) = 0 := by
 have hX := hl X
 have hB : 2 ^ n = 2 ^ (n - 64) * 18446744073709551616 := by
  rw [show (18446744073709551616 : Nat) = 2 ^ 64 from rfl, ← Nat.pow_add]; congr 1; omega
 rw [hB]
 generalize hiN X = a at *
 generalize loN X = b at *
 generalize 2 ^ (n - 64) = P at *
 have e : X * (P * 18446744073709551616) % 2 ^ 128 = (b * P % 18446744073709551616) * 18446744073709551616 := by
  rw [← Nat.mul_assoc, show (2 : Nat) ^ 128 = 18446744073709551616 * 18446744073709551616 from rfl, Nat.mul_mod_mul_right, hX, Nat.add_mul, Nat.mul_right_comm, Nat.mul_add_mod_self_right]
 rw [e]
 unfold hiN loN
 omega

theorem shr_small (X n : Nat) (h : X < 2 ^ 128) (hn : n < 64) :
 hiN (X / 2 ^ n) = hiN X / 2 ^ n ∧ loN (X / 2 ^ n) = loN X / 2 ^ n + hiN X * 2 ^ (64 - n) % 18446744073709551616 ∧
 loN X / 2 ^ n < 2 ^ (64 - n) ∧ ∃ k, hiN X * 2 ^ (64 - n) % 18446744073709551616 = k * 2 ^ (64 - n) := by
 have hp : 0 < 2 ^ n := Nat.pow_pos (by omega)
 have hq : 0 < 2 ^ (64 - n) := Nat.pow_pos (by omega)
 have hB : 2 ^ (64 - n) * 2 ^ n = 18446744073709551616 := by rw [← Nat.pow_add, show 64 - n + n = 64 by omega]
 have hX := hl X
 have h1 := loLt X
 have h2 := hiLt h
 have e0 : hiN (X / 2 ^ n) = hiN X / 2 ^ n := by
  unfold hiN; rw [Nat.div_div_eq_div_mul, Nat.div_div_eq_div_mul, Nat.mul_comm]
 refine ⟨e0, ?_⟩
 unfold loN at h1 ⊢
 generalize hiN X = a at *
 change _ = a * 18446744073709551616 + X % 18446744073709551616 at hX
 generalize X % 18446744073709551616 = b at *
 generalize 2 ^ n = P at *
 generalize 2 ^ (64 - n) = Q at *
 have e1 : X / P = a * Q + b / P := by
  rw [hX, ← hB, ← Nat.mul_assoc, Nat.add_comm, Nat.add_mul_div_right _ _ hp, Nat.add_comm]
 have c3 : b / P < Q := by apply Nat.div_lt_of_lt_mul; rw [Nat.mul_comm, hB]; exact h1
 have e4 : a * Q % 18446744073709551616 = (a % P) * Q := by rw [← hB, Nat.mul_comm Q P, Nat.mul_mod_mul_right]
 have c4 : (a % P) * Q + Q ≤ 18446744073709551616 := by
  rw [← hB, Nat.mul_comm Q P]
  have : a % P + 1 ≤ P := Nat.mod_lt _ hp
  have := Nat.mul_le_mul_right Q this
  rw [Nat.add_mul] at this
  omega
 refine ⟨?_, c3, a % P, e4⟩
 rw [e1, Nat.add_mod, e4]
 have h5 : b / P % 18446744073709551616 = b / P := Nat.mod_eq_of_lt (by have := Nat.div_le_self b P; omega)
 rw [h5, Nat.mod_eq_of_lt (by omega), Nat.add_comm]

theorem shr_great (X n : Nat) (h : X < 2 ^ 128) (hn : 64 ≤ n) (hm : n < 128) :
 hiN (X / 2 ^ n) = 0 ∧ loN (X / 2 ^ n) = hiN X / 2 ^ (n - 64) := by
 have h2 := hiLt h
 have hB : 2 ^ n = 18446744073709551616 * 2 ^ (n - 64) := by
  rw [show (18446744073709551616 : Nat) = 2 ^ 64 from rfl, ← Nat.pow_add]; congr 1; omega
 have e : X / 2 ^ n = hiN X / 2 ^ (n - 64) := by unfold hiN; rw [hB, Nat.div_div_eq_div_mul]
 have h3 : hiN X / 2 ^ (n - 64) ≤ hiN X := Nat.div_le_self _ _
 rw [e, hi_small (by omega), lo_small (by omega)]
 exact ⟨rfl, rfl⟩

theorem plus_hl (X Y : Nat) (hX : X < 2 ^ 128) (hY : Y < 2 ^ 128) :
 loN ((X + Y) % 2 ^ 128) = (loN X + loN Y) % 18446744073709551616 ∧
 hiN ((X + Y) % 2 ^ 128) = (hiN X + hiN Y + (if (loN X + loN Y) % 18446744073709551616 < loN Y then 1 else 0)) % 18446744073709551616 := by
 have a := hl X
 have b := hl Y
 have a1 := loLt X
 have b1 := loLt Y
 have a2 := hiLt hX
 have b2 := hiLt hY
 generalize hiN X = xh at *
 generalize loN X = xl at *
 generalize hiN Y = yh at *
 generalize loN Y = yl at *
 unfold hiN loN
 by_cases h : (xl + yl) % 18446744073709551616 < yl
 · simp only [h, if_true]; omega
 · simp only [h, if_false]; omega

theorem minus_hl (X Y : Nat) (hX : X < 2 ^ 128) (hY : Y < 2 ^ 128) :
 loN ((X + (2 ^ 128 - Y)) % 2 ^ 128) = (loN X + 18446744073709551616 - loN Y) % 18446744073709551616 ∧
 hiN ((X + (2 ^ 128 - Y)) % 2 ^ 128) = (hiN X + 36893488147419103232 - hiN Y - (if loN X < loN Y then 1 else 0)) % 18446744073709551616 := by
 have a := hl X
 have b := hl Y
 have a1 := loLt X
 have b1 := loLt Y
 have a2 := hiLt hX
 have b2 := hiLt hY
 generalize hiN X = xh at *
 generalize loN X = xl at *
 generalize hiN Y = yh at *
 generalize loN Y = yl at *
 unfold hiN loN
 by_cases h : xl < yl
 · simp only [h, if_true]; omega
 · simp only [h, if_false]; omega

def cmpN (a b : Nat) : Int := if a < b then -1 else if b < a then 1 else 0

theorem cmpN_congr {a b c d : Nat} (h1 : a < b ↔ c < d) (h2 : b < a ↔ d < c) : cmpN a b = cmpN c d := by
 unfold cmpN; simp [h1, h2]

def Fm.rank (F : Fm) (t : Pt) : Nat :=
 if t.c = 1 then 0 else if t.c = 4 then F.top * F.lead else (t.q - F.qmin).toNat * F.lead + t.s

def Fm.frc (F : Fm) (X : Nat) : Nat := F.sig X - (if 0 < F.fld X then F.lead else 0)

theorem Fm.Ok.notBad {F : Fm} (h : F.Ok) (X : Nat) (hb : ¬ F.bad X) : F.sgn X ≤ 1 ∧ (F.lead ≤ F.sig X ↔ 0 < F.fld X) := by
 unfold Fm.bad at hb
 exact ⟨by have : ¬ 1 < F.sgn X := fun h1 => hb (.inl h1); omega, Classical.byContradiction fun h2 => hb (.inr h2)⟩

theorem Fm.Ok.low {F : Fm} (h : F.Ok) (X : Nat) (hb : ¬ F.bad X) :
 F.frc X < F.lead ∧ F.sig X = F.frc X + (if 0 < F.fld X then F.lead else 0) ∧
 X % 2 ^ (F.wd - 1) = F.fld X * 2 ^ F.fb + F.frc X + (if F.x = true ∧ 0 < F.fld X then F.lead else 0) := by
 have hs := h.sigLt X
 obtain ⟨_, hi⟩ := h.notBad X hb
 have hl := h.leadPos
 have e : X % 2 ^ (F.wd - 1) = F.fld X * 2 ^ F.fb + X % 2 ^ F.fb := by
  rw [h.width.2.1, Nat.mod_mul]; unfold Fm.fld; rw [Nat.mul_comm, Nat.add_comm]
 have e2 : F.sig X = if F.x = false ∧ 0 < F.fld X then X % 2 ^ F.fb + F.lead else X % 2 ^ F.fb := rfl
 rw [e]
 unfold Fm.frc
 generalize F.sig X = s at *
 generalize F.fld X = f at *
 generalize X % 2 ^ F.fb = r at *
 by_cases h1 : 0 < f
 · have := hi.2 h1
   simp only [h1, if_true, and_true] at *
   refine ⟨by omega, by omega, ?_⟩
   cases hx : F.x
   · simp [hx] at *; omega
   · simp [hx] at *; omega
 · have h2 : ¬ F.lead ≤ s := mt hi.1 h1
   simp only [h1, if_false, and_false] at *
   omega

theorem lex {L K f g a b : Nat} (h1 : a < L) (h2 : b < L) (hK : L ≤ K) (hf hg : Nat) (e1 : a + hf < K) (e2 : b + hg < K) (e3 : f = g → hf = hg) :
 f * K + a + hf < g * K + b + hg ↔ f * L + a < g * L + b := by
 rcases Nat.lt_trichotomy f g with h | h | h
 · have p1 : (f + 1) * K ≤ g * K := Nat.mul_le_mul_right _ h
   have p2 : (f + 1) * L ≤ g * L := Nat.mul_le_mul_right _ h
   rw [Nat.add_mul] at p1 p2
   omega
 · subst h; have := e3 rfl; omega
 · have p1 : (g + 1) * K ≤ f * K := Nat.mul_le_mul_right _ h
   have p2 : (g + 1) * L ≤ f * L := Nat.mul_le_mul_right _ h
   rw [Nat.add_mul] at p1 p2
   omega

theorem Fm.Ok.low_lt {F : Fm} (h : F.Ok) (X Y : Nat) (hX : ¬ F.bad X) (hY : ¬ F.bad Y) :
 X % 2 ^ (F.wd - 1) < Y % 2 ^ (F.wd - 1) ↔ F.fld X * F.lead + F.frc X < F.fld Y * F.lead + F.frc Y := by
 obtain ⟨a1, _, a3⟩ := h.low X hX
 obtain ⟨b1, _, b3⟩ := h.low Y hY
 rw [a3, b3]
 have had := h.ad
 cases hx : F.x
 · simp [hx] at had ⊢
   rw [had]
 · simp [hx] at had ⊢
   rw [had]
   refine lex a1 b1 (by omega) _ _ ?_ ?_ ?_
   · split <;> omega
   · split <;> omega
   · intro e; rw [e]

theorem Fm.Ok.rank_upk {F : Fm} (h : F.Ok) (X : Nat) (hb : ¬ F.bad X) (hc : (F.upk X).c ≠ 5) :
 F.rank (F.upk X) = F.fld X * F.lead + F.frc X ∧ F.rank (F.upk X) ≤ F.top * F.lead ∧ ((F.upk X).c = 1 ↔ F.rank (F.upk X) = 0) ∧ ((F.upk X).c = 4 ↔ F.rank (F.upk X) = F.top * F.lead) ∧ (F.upk X).n = decide (F.sgn X = 1) := by
 have hl := h.leadPos
 have ht := h.top2
 have hf := fldLe h X
 obtain ⟨a1, a2, _⟩ := h.low X hb
 obtain ⟨_, hi⟩ := h.notBad X hb
 unfold Fm.upk at hc ⊢
 simp only [hb, if_false] at hc ⊢
 have htl : 0 < F.top * F.lead := Nat.mul_pos (by omega) hl
 by_cases h1 : F.fld X = F.top
 · simp only [h1, if_true] at hc ⊢
   have hp : 0 < F.top := by omega
   by_cases h2 : F.sig X = F.lead
   · simp only [h2, if_true] at hc ⊢
     rw [h1, if_pos hp] at a2
     refine ⟨?_, ?_, ?_, ?_, by simp⟩
     · simp [Fm.rank]; omega
     · simp [Fm.rank]
     · simp [Fm.rank]; omega
     · simp [Fm.rank]
   · simp only [h2, if_false] at hc
     exact absurd rfl hc
 · simp only [h1, if_false] at hc ⊢
   have hlt : (F.fld X + 1) * F.lead ≤ F.top * F.lead := Nat.mul_le_mul_right _ (by omega)
   rw [Nat.add_mul] at hlt
   by_cases h2 : 0 < F.fld X
   · simp only [h2, if_true] at hc ⊢ a2
     have e : F.rank ⟨3, decide (F.sgn X = 1), F.sig X, (F.fld X : Int) - F.emax - F.p + 1⟩ = F.fld X * F.lead + F.frc X := by
      have e1 : ((F.fld X : Int) - F.emax - F.p + 1 - F.qmin).toNat = F.fld X - 1 := by unfold Fm.qmin; omega
      simp only [Fm.rank, e1]
      simp
      have : F.fld X * F.lead = (F.fld X - 1) * F.lead + F.lead := by
       rw [Nat.sub_mul]
       have : 1 * F.lead ≤ F.fld X * F.lead := Nat.mul_le_mul_right _ h2
       omega
      omega
     have hpos : 1 * F.lead ≤ F.fld X * F.lead := Nat.mul_le_mul_right _ h2
     rw [e]
     refine ⟨rfl, by omega, ?_, ?_, by simp⟩ <;> simp <;> omega
   · have h0 : F.fld X = 0 := by omega
     simp only [h2, if_false] at hc ⊢ a2
     by_cases h3 : F.sig X = 0
     · simp only [h3, if_true] at hc ⊢
       refine ⟨?_, ?_, ?_, ?_, by simp⟩
       · simp [Fm.rank, h0]; omega
       · simp [Fm.rank]
       · simp [Fm.rank]
       · simp [Fm.rank]; omega
     · simp only [h3, if_false] at hc ⊢
       have e : F.rank ⟨2, decide (F.sgn X = 1), F.sig X, F.qmin⟩ = F.sig X := by simp [Fm.rank]
       rw [e]
       refine ⟨by rw [h0]; omega, by omega, ?_, ?_, by simp⟩ <;> simp <;> omega

def Fm.orderP (F : Fm) (s t : Pt) : Int :=
 if s.c = 0 ∨ s.c = 5 ∨ t.c = 0 ∨ t.c = 5 then 2
 else if s.n = true ∧ s.c ≠ 1 then (if t.n = true ∧ t.c ≠ 1 then cmpN (F.rank t) (F.rank s) else -1)
 else if t.n = true ∧ t.c ≠ 1 then 1 else cmpN (F.rank s) (F.rank t)

def Fm.orderS (F : Fm) (X Y : Nat) : Int :=
 if (F.upk X).c = 0 ∨ (F.upk X).c = 5 ∨ (F.upk Y).c = 0 ∨ (F.upk Y).c = 5 then 2
 else if X % 2 ^ (F.wd - 1) = 0 ∧ Y % 2 ^ (F.wd - 1) = 0 then 0
 else if (F.upk X).n = true ∧ (F.upk Y).n = false then -1
 else if (F.upk X).n = false ∧ (F.upk Y).n = true then 1
 else if (F.upk X).n = true then cmpN (Y % 2 ^ (F.wd - 1)) (X % 2 ^ (F.wd - 1)) else cmpN (X % 2 ^ (F.wd - 1)) (Y % 2 ^ (F.wd - 1))

theorem Fm.upk_bad (F : Fm) (X : Nat) (h : (F.upk X).c ≠ 0) : ¬ F.bad X := by
 intro hb; apply h; unfold Fm.upk; simp [hb]

theorem Fm.Ok.order {F : Fm} (h : F.Ok) (X Y : Nat) : F.orderP (F.upk X) (F.upk Y) = F.orderS X Y := by
 unfold Fm.orderP Fm.orderS
 by_cases hv : (F.upk X).c = 0 ∨ (F.upk X).c = 5 ∨ (F.upk Y).c = 0 ∨ (F.upk Y).c = 5
 · simp only [hv, if_true]
 · simp only [hv, if_false]
   have hx0 : (F.upk X).c ≠ 0 := fun e => hv (.inl e)
   have hx5 : (F.upk X).c ≠ 5 := fun e => hv (.inr (.inl e))
   have hy0 : (F.upk Y).c ≠ 0 := fun e => hv (.inr (.inr (.inl e)))
   have hy5 : (F.upk Y).c ≠ 5 := fun e => hv (.inr (.inr (.inr e)))
   have bx := F.upk_bad X hx0
   have bY := F.upk_bad Y hy0
   obtain ⟨rx, _, zx, _, _⟩ := h.rank_upk X bx hx5
   obtain ⟨ry, _, zy, _, _⟩ := h.rank_upk Y bY hy5
   have h1 := h.low_lt X Y bx bY
   have h2 := h.low_lt Y X bY bx
   rw [← rx, ← ry] at h1 h2
   have z0 : (0 : Nat) % 2 ^ (F.wd - 1) = 0 := Nat.zero_mod _
   have b0 : ¬ F.bad 0 := by
    unfold Fm.bad
    have hl := h.leadPos
    have f0 : F.fld 0 = 0 := by simp [Fm.fld]
    have s0 : F.sig 0 = 0 := by simp [Fm.sig, f0]
    have g0 : F.sgn 0 = 0 := by simp [Fm.sgn]
    rw [f0, s0, g0]; omega
   have hz : ∀ Z, ¬ F.bad Z → (F.upk Z).c ≠ 5 → (Z % 2 ^ (F.wd - 1) = 0 ↔ F.rank (F.upk Z) = 0) := by
    intro Z bz hz5
    obtain ⟨rz, _, _, _, _⟩ := h.rank_upk Z bz hz5
    have h3 := h.low_lt 0 Z b0 bz
    have f0 : F.fld 0 = 0 := by simp [Fm.fld]
    have s0 : F.frc 0 = 0 := by simp [Fm.frc, f0, Fm.sig]
    rw [z0, f0, s0, ← rz] at h3
    omega
   have hzx := hz X bx hx5
   have hzy := hz Y bY hy5
   have c1 : cmpN (X % 2 ^ (F.wd - 1)) (Y % 2 ^ (F.wd - 1)) = cmpN (F.rank (F.upk X)) (F.rank (F.upk Y)) := cmpN_congr h1 h2
   have c2 : cmpN (Y % 2 ^ (F.wd - 1)) (X % 2 ^ (F.wd - 1)) = cmpN (F.rank (F.upk Y)) (F.rank (F.upk X)) := cmpN_congr h2 h1
   simp only [c1, c2, hzx, hzy]
   generalize F.rank (F.upk X) = a at *
   generalize F.rank (F.upk Y) = b at *
   generalize (F.upk X).c = cx at *
   generalize (F.upk Y).c = cy at *
   clear h1 h2 c1 c2 hzx hzy rx ry
   cases (F.upk X).n <;> cases (F.upk Y).n <;> simp only [Bool.false_eq_true, true_and, false_and, and_false, and_true, if_false, if_true, ne_eq, reduceCtorEq]
   · by_cases ha : a = 0 ∧ b = 0
     · simp [ha, cmpN]
     · simp [ha]
   · by_cases hb : b = 0
     · have : cy = 1 := zy.2 hb
       simp only [this, not_true, if_false]
       by_cases ha : a = 0
       · simp [ha, hb, cmpN]
       · simp [ha, hb, cmpN]
     · have : ¬ cy = 1 := mt zy.1 hb
       simp [this, hb]
   · by_cases ha : a = 0
     · have : cx = 1 := zx.2 ha
       simp only [this, not_true, if_false]
       by_cases hb : b = 0
       · simp [ha, hb, cmpN]
       · simp [ha, hb, cmpN]
     · have : ¬ cx = 1 := mt zx.1 ha
       simp [this, ha]
   · by_cases ha : a = 0
     · have : cx = 1 := zx.2 ha
       simp only [this, not_true, if_false]
       by_cases hb : b = 0
       · have : cy = 1 := zy.2 hb
         simp [this, ha, hb, cmpN]
       · have : ¬ cy = 1 := mt zy.1 hb
         simp [this, ha, hb, cmpN]
     · have : ¬ cx = 1 := mt zx.1 ha
       by_cases hb : b = 0
       · have h9 : cy = 1 := zy.2 hb
         simp [this, h9, ha, hb, cmpN]
       · have h9 : ¬ cy = 1 := mt zy.1 hb
         simp [this, h9, ha, hb]

def Fm.wat (F : Fm) (n : Bool) (r : Nat) : Nat := F.word n (r / F.lead) (r % F.lead + if 0 < r / F.lead then F.lead else 0)

def Fm.pat (F : Fm) (n : Bool) (r : Nat) : Pt :=
 if r = 0 then ⟨1, n, 0, 0⟩ else if r < F.lead then ⟨2, n, r, F.qmin⟩ else if r = F.top * F.lead then ⟨4, n, 0, 0⟩
 else ⟨3, n, r % F.lead + F.lead, ((r / F.lead : Nat) : Int) - F.emax - F.p + 1⟩

theorem Fm.pk3 (F : Fm) (n : Bool) (s : Nat) (q : Int) : F.pk ⟨3, n, s, q⟩ = F.word n (q + F.emax + F.p - 1).toNat s := by simp [Fm.pk]

theorem Fm.Ok.pat_ok {F : Fm} (h : F.Ok) (n : Bool) (r : Nat) (hr : r ≤ F.top * F.lead) : F.Proper (F.pat n r) ∧ F.pk (F.pat n r) = F.wat n r := by
 have hl := h.leadPos
 have ht := h.top2
 have hm := Nat.mod_lt r hl
 have hd := Nat.div_add_mod r F.lead
 unfold Fm.pat Fm.wat
 by_cases h1 : r = 0
 · subst h1; simp [Fm.Proper, Fm.pk]
 · simp only [h1, if_false]
   by_cases h2 : r < F.lead
   · simp only [h2, if_true]
     rw [Nat.div_eq_of_lt h2, Nat.mod_eq_of_lt h2]
     refine ⟨.inr (.inr (.inr (.inl ⟨rfl, by simp only; omega, h2, rfl⟩))), ?_⟩
     simp [Fm.pk]
   · simp only [h2, if_false]
     by_cases h3 : r = F.top * F.lead
     · simp only [h3, if_true]
       rw [Nat.mul_div_cancel _ hl, Nat.mul_mod_left, if_pos (by omega)]
       simp [Fm.Proper, Fm.pk]
     · simp only [h3, if_false]
       have d1 : 0 < r / F.lead := Nat.div_pos (by omega) hl
       have d2 : r / F.lead < F.top := by
        rcases Nat.lt_or_ge (r / F.lead) F.top with hh | hh
        · exact hh
        · have := Nat.mul_le_mul_left F.lead hh
          rw [Nat.mul_comm F.lead F.top] at this
          omega
       rw [if_pos d1]
       refine ⟨.inr (.inr (.inr (.inr ⟨rfl, by simp only; omega, by simp only; omega, by simp only; omega, by simp only; omega⟩))), ?_⟩
       have e : (((r / F.lead : Nat) : Int) - F.emax - F.p + 1 + F.emax + F.p - 1).toNat = r / F.lead := by omega
       rw [Fm.pk3, e]

def Fm.grow (F : Fm) (t : Pt) : Pt :=
 let s := if t.s + 1 = 2 * F.lead then F.lead else t.s + 1
 let q := if t.s + 1 = 2 * F.lead then t.q + 1 else t.q
 if q + F.p - 1 > F.emax then ⟨4, t.n, 0, 0⟩ else if s < F.lead then ⟨2, t.n, s, q⟩ else ⟨3, t.n, s, q⟩

def Fm.shrink (F : Fm) (t : Pt) : Pt :=
 let b := t.s - 1 < F.lead ∧ t.q > F.qmin
 let s := if b then 2 * (t.s - 1) + 1 else t.s - 1
 let q := if b then t.q - 1 else t.q
 if s = 0 then ⟨1, t.n, 0, 0⟩ else if q + F.p - 1 > F.emax then ⟨4, t.n, 0, 0⟩ else if s < F.lead then ⟨2, t.n, s, q⟩ else ⟨3, t.n, s, q⟩

theorem Fm.Ok.grow_eq {F : Fm} (h : F.Ok) (t : Pt) (hp : F.Proper t) (hc : t.c = 2 ∨ t.c = 3) : F.grow t = F.pat t.n (F.rank t + 1) ∧ F.rank t < F.top * F.lead := by
 have hl := h.leadPos
 have ht := h.top2
 rcases t with ⟨c, n, s, q⟩
 simp only [Fm.Proper] at hp hc
 rcases hp with hp | hp | hp | ⟨rfl, h1, h2, rfl⟩ | ⟨rfl, h1, h2, h3, h4⟩
 · omega
 · omega
 · omega
 · have e : F.rank ⟨2, n, s, F.qmin⟩ = s := by simp [Fm.rank]
   have e1 : ¬ s + 1 = 2 * F.lead := by
    have := h.half
    have : 0 < 2 ^ (F.p - 2) := Nat.pow_pos (by omega)
    omega
   have e2 : ¬ F.qmin + F.p - 1 > F.emax := by unfold Fm.qmin; omega
   have e4 : 1 * F.lead ≤ F.top * F.lead := Nat.mul_le_mul_right _ (by omega)
   rw [e]
   refine ⟨?_, by omega⟩
   simp only [Fm.grow, e1, if_false, e2, Fm.pat]
   have e3 : ¬ s + 1 = 0 := by omega
   simp only [e3, if_false]
   by_cases hh : s + 1 < F.lead
   · simp only [hh, if_true]
   · have es : s + 1 = F.lead := by omega
     have e5 : 2 * F.lead ≤ F.top * F.lead := Nat.mul_le_mul_right _ (by omega)
     have e6 : ¬ F.lead = F.top * F.lead := by omega
     simp only [es, Nat.lt_irrefl, if_false, e6, Nat.mod_self, Nat.zero_add, Nat.div_self hl]
     congr 1
     unfold Fm.qmin; omega
 · obtain ⟨k, hk⟩ : ∃ k : Nat, (k : Int) = q - F.qmin := ⟨(q - F.qmin).toNat, by unfold Fm.qmin; omega⟩
   have hkt : k + 1 < F.top := by unfold Fm.qmin at hk; omega
   have e : F.rank ⟨3, n, s, q⟩ = k * F.lead + s := by
    have : (q - F.qmin).toNat = k := by omega
    simp [Fm.rank, this]
   have m1 : (k + 2) * F.lead ≤ F.top * F.lead := Nat.mul_le_mul_right _ (by omega)
   rw [Nat.add_mul] at m1
   rw [e]
   refine ⟨?_, by omega⟩
   have z1 : ¬ k * F.lead + s + 1 = 0 := by omega
   have z2 : ¬ k * F.lead + s + 1 < F.lead := by omega
   by_cases hh : s + 1 = 2 * F.lead
   · have em : k * F.lead + s + 1 = (k + 2) * F.lead := by rw [Nat.add_mul]; omega
     have y1 : ¬ (k + 2) * F.lead = 0 := by omega
     have y2 : ¬ (k + 2) * F.lead < F.lead := by omega
     simp only [Fm.grow, hh, if_true, Fm.pat, em, y1, y2, if_false, Nat.lt_irrefl]
     by_cases ho : q + 1 + F.p - 1 > F.emax
     · have : k + 2 = F.top := by unfold Fm.qmin at hk; omega
       simp only [ho, if_true, this]
     · have : ¬ (k + 2) * F.lead = F.top * F.lead := by
        intro hE
        have := Nat.eq_of_mul_eq_mul_right hl hE
        unfold Fm.qmin at hk; omega
       simp only [ho, if_false, this, Nat.mul_mod_left, Nat.zero_add, Nat.mul_div_cancel _ hl]
       congr 1
       unfold Fm.qmin at hk; omega
   · have em : k * F.lead + s + 1 = (s + 1 - F.lead) + (k + 1) * F.lead := by rw [Nat.add_mul]; omega
     have m2 : (s + 1 - F.lead) % F.lead = s + 1 - F.lead := Nat.mod_eq_of_lt (by omega)
     have m3 : (s + 1 - F.lead) / F.lead = 0 := Nat.div_eq_of_lt (by omega)
     have ho : ¬ q + F.p - 1 > F.emax := by omega
     have y1 : ¬ s + 1 < F.lead := by omega
     have y2 : ¬ k * F.lead + s + 1 = F.top * F.lead := by omega
     simp only [Fm.grow, hh, if_false, Fm.pat, z1, z2, ho, y1, y2]
     rw [em, Nat.add_mul_mod_self_right, Nat.add_mul_div_right _ _ hl, m2, m3]
     congr 1
     · omega
     · unfold Fm.qmin at hk; omega

theorem Fm.Ok.shrink_eq {F : Fm} (h : F.Ok) (t : Pt) (hp : F.Proper t) (hc : t.c = 2 ∨ t.c = 3) : F.shrink t = F.pat t.n (F.rank t - 1) ∧ 0 < F.rank t := by
 have hl := h.leadPos
 have ht := h.top2
 rcases t with ⟨c, n, s, q⟩
 simp only [Fm.Proper] at hp hc
 rcases hp with hp | hp | hp | ⟨rfl, h1, h2, rfl⟩ | ⟨rfl, h1, h2, h3, h4⟩
 · omega
 · omega
 · omega
 · have e : F.rank ⟨2, n, s, F.qmin⟩ = s := by simp [Fm.rank]
   have e1 : ¬ (s - 1 < F.lead ∧ F.qmin > F.qmin) := by omega
   have e2 : ¬ F.qmin + F.p - 1 > F.emax := by unfold Fm.qmin; omega
   have e3 : s - 1 < F.lead := by omega
   rw [e]
   refine ⟨?_, h1⟩
   simp only [Fm.shrink, e1, if_false, e2]
   simp only [Fm.pat, e3, if_true]
 · obtain ⟨k, hk⟩ : ∃ k : Nat, (k : Int) = q - F.qmin := ⟨(q - F.qmin).toNat, by unfold Fm.qmin; omega⟩
   have hkt : k + 1 < F.top := by unfold Fm.qmin at hk; omega
   have e : F.rank ⟨3, n, s, q⟩ = k * F.lead + s := by
    have : (q - F.qmin).toNat = k := by omega
    simp [Fm.rank, this]
   have m1 : (k + 2) * F.lead ≤ F.top * F.lead := Nat.mul_le_mul_right _ (by omega)
   rw [Nat.add_mul] at m1
   rw [e]
   refine ⟨?_, by omega⟩
   have hh1 := h.half
   have hh2 : 0 < 2 ^ (F.p - 2) := Nat.pow_pos (by omega)
   have ho : ¬ q + F.p - 1 > F.emax := by omega
   have y2 : ¬ k * F.lead + s - 1 = F.top * F.lead := by omega
   by_cases hb : s - 1 < F.lead ∧ q > F.qmin
   · have es : s = F.lead := by omega
     have ho' : ¬ q - 1 + F.p - 1 > F.emax := by omega
     have hk1 : 0 < k := by omega
     have m5 : 1 * F.lead ≤ k * F.lead := Nat.mul_le_mul_right _ hk1
     have z1 : ¬ k * F.lead + F.lead - 1 = 0 := by omega
     have z2 : ¬ k * F.lead + F.lead - 1 < F.lead := by omega
     have z3 : ¬ 2 * (F.lead - 1) + 1 = 0 := by omega
     have z4 : ¬ 2 * (F.lead - 1) + 1 < F.lead := by omega
     subst es
     simp only [Fm.shrink, hb, and_self, if_true, Fm.pat, z1, z2, z3, z4, if_false, ho', y2]
     have em : k * F.lead + F.lead - 1 = (F.lead - 1) + k * F.lead := by omega
     have m2 : (F.lead - 1) % F.lead = F.lead - 1 := Nat.mod_eq_of_lt (by omega)
     have m3 : (F.lead - 1) / F.lead = 0 := Nat.div_eq_of_lt (by omega)
     rw [em, Nat.add_mul_mod_self_right, Nat.add_mul_div_right _ _ hl, m2, m3]
     congr 1
     · omega
     · unfold Fm.qmin at hk; omega
   · by_cases hs : s = F.lead
     · have hk0 : k = 0 := by omega
       subst hs
       subst hk0
       have z1 : ¬ F.lead - 1 = 0 := by omega
       have z2 : F.lead - 1 < F.lead := by omega
       simp only [Fm.shrink, hb, if_false]
       simp only [Fm.pat, z1, ho, z2, if_true, if_false, Nat.zero_mul, Nat.zero_add]
       congr 1
       omega
     · have z1 : ¬ s - 1 = 0 := by omega
       have z2 : ¬ s - 1 < F.lead := by omega
       have z3 : ¬ k * F.lead + s - 1 = 0 := by omega
       have z4 : ¬ k * F.lead + s - 1 < F.lead := by omega
       simp only [Fm.shrink, hb, if_false]
       simp only [Fm.pat, z1, ho, z2, z3, z4, y2, if_false]
       have em : k * F.lead + s - 1 = (s - 1 - F.lead) + (k + 1) * F.lead := by rw [Nat.add_mul]; omega
       have m2 : (s - 1 - F.lead) % F.lead = s - 1 - F.lead := Nat.mod_eq_of_lt (by omega)
       have m3 : (s - 1 - F.lead) / F.lead = 0 := Nat.div_eq_of_lt (by omega)
       rw [em, Nat.add_mul_mod_self_right, Nat.add_mul_div_right _ _ hl, m2, m3]
       congr 1
       · omega
       · unfold Fm.qmin at hk; omega

theorem Fm.Ok.inf_step {F : Fm} (h : F.Ok) (n : Bool) : F.pat n (F.top * F.lead - 1) = ⟨3, n, 2 * F.lead - 1, (F.emax : Int) - F.p + 1⟩ := by
 have hl := h.leadPos
 have ht := h.top2
 have m1 : 2 * F.lead ≤ F.top * F.lead := Nat.mul_le_mul_right _ (by omega)
 have z1 : ¬ F.top * F.lead - 1 = 0 := by omega
 have z2 : ¬ F.top * F.lead - 1 < F.lead := by omega
 have z3 : ¬ F.top * F.lead - 1 = F.top * F.lead := by omega
 simp only [Fm.pat, z1, z2, z3, if_false]
 have em : F.top * F.lead - 1 = (F.lead - 1) + (F.top - 1) * F.lead := by rw [Nat.sub_mul]; omega
 have m2 : (F.lead - 1) % F.lead = F.lead - 1 := Nat.mod_eq_of_lt (by omega)
 have m3 : (F.lead - 1) / F.lead = 0 := Nat.div_eq_of_lt (by omega)
 rw [em, Nat.add_mul_mod_self_right, Nat.add_mul_div_right _ _ hl, m2, m3]
 congr 1
 · omega
 · omega

theorem Fm.Ok.zero_step {F : Fm} (h : F.Ok) (n : Bool) : F.pat n 1 = ⟨2, n, 1, F.qmin⟩ := by
 have hh1 := h.half
 have hh2 : 0 < 2 ^ (F.p - 2) := Nat.pow_pos (by omega)
 have z2 : 1 < F.lead := by omega
 simp [Fm.pat, z2]

def Fm.rst (F : Fm) (X : Nat) : Nat := if F.x then X % 2 ^ F.fb % F.lead else X % 2 ^ F.fb

theorem Fm.Ok.fracLt {F : Fm} (h : F.Ok) (X : Nat) : X % 2 ^ F.fb < if F.x then 2 * F.lead else F.lead := by
 rw [← h.ad]; exact Nat.mod_lt _ (Nat.pow_pos (by omega))

theorem Fm.Ok.rstLt {F : Fm} (h : F.Ok) (X : Nat) : F.rst X < F.lead := by
 have := h.fracLt X
 have hl := h.leadPos
 unfold Fm.rst
 cases hx : F.x
 · simpa [hx] using this
 · simp only [if_true]; exact Nat.mod_lt _ hl

theorem Fm.Ok.sgnW {F : Fm} (h : F.Ok) (X : Nat) : (1 < F.sgn X ↔ 2 ^ F.wd ≤ X) ∧ (X < 2 ^ F.wd → F.sgn X = X / 2 ^ (F.wd - 1) % 2) := by
 have e : F.sgn X = X / 2 ^ (F.wd - 1) := by unfold Fm.sgn; rw [Nat.div_div_eq_div_mul, h.width.2.1]
 have e2 : 2 ^ F.wd = 2 * 2 ^ (F.wd - 1) := by rw [h.width.1, h.width.2.1, Nat.mul_comm]
 have hp : 0 < 2 ^ (F.wd - 1) := Nat.pow_pos (by omega)
 rw [e, e2]
 refine ⟨?_, ?_⟩
 · rw [show (1 < X / 2 ^ (F.wd - 1)) = (2 ≤ X / 2 ^ (F.wd - 1)) from rfl, Nat.le_div_iff_mul_le hp]
 · intro hx
   have : X / 2 ^ (F.wd - 1) < 2 := Nat.div_lt_of_lt_mul (by rw [Nat.mul_comm]; exact hx)
   omega

theorem Fm.Ok.upk_rst {F : Fm} (h : F.Ok) (X : Nat) (hw : X < 2 ^ F.wd) (hx : F.x = true → (F.lead ≤ X % 2 ^ F.fb ↔ 0 < F.fld X)) :
 F.upk X = if F.fld X = F.top then (if F.rst X = 0 then ⟨4, decide (X / 2 ^ (F.wd - 1) % 2 = 1), 0, 0⟩ else ⟨5, false, 0, 0⟩)
  else if F.fld X = 0 then (if F.rst X = 0 then ⟨1, decide (X / 2 ^ (F.wd - 1) % 2 = 1), 0, 0⟩ else ⟨2, decide (X / 2 ^ (F.wd - 1) % 2 = 1), F.rst X, F.qmin⟩)
  else ⟨3, decide (X / 2 ^ (F.wd - 1) % 2 = 1), F.rst X + F.lead, (F.fld X : Int) - F.emax - F.p + 1⟩ := by
 have hl := h.leadPos
 have ht := h.top2
 obtain ⟨s1, s2⟩ := h.sgnW X
 have s3 := s2 hw
 have hfr := h.fracLt X
 have hsig : F.sig X = F.rst X + (if 0 < F.fld X then F.lead else 0) ∧ (F.lead ≤ F.sig X ↔ 0 < F.fld X) := by
  unfold Fm.sig Fm.rst
  clear s1 s2 s3 hw ht
  generalize X % 2 ^ F.fb = G at *
  generalize F.fld X = f at *
  generalize F.lead = L at *
  cases hxx : F.x
  · simp only [hxx, Bool.false_eq_true, if_false, true_and] at hfr ⊢
    by_cases h0 : 0 < f
    · simp only [h0, if_true]; exact ⟨trivial, by simp⟩
    · simp only [h0, if_false]; exact ⟨rfl, by simpa using hfr⟩
  · have hx' := hx hxx
    simp only [hxx, if_true, Bool.true_eq_false, false_and, if_false] at hfr ⊢
    refine ⟨?_, hx'⟩
    by_cases h0 : 0 < f
    · have := hx'.2 h0
      simp only [h0, if_true]
      rw [Nat.mod_eq_sub_mod this, Nat.mod_eq_of_lt (by omega)]; omega
    · have := mt hx'.1 h0
      simp only [h0, if_false]
      rw [Nat.mod_eq_of_lt (by omega), Nat.add_zero]
 have hb : ¬ F.bad X := by
  unfold Fm.bad
  rintro (hh | hh)
  · have := s1.1 hh; omega
  · exact hh hsig.2
 rw [← s3]
 unfold Fm.upk
 simp only [hb, if_false]
 by_cases h1 : F.fld X = F.top
 · simp only [h1, if_true]
   have e : F.sig X = F.rst X + F.lead := by rw [hsig.1, if_pos (by omega)]
   have e2 : (F.sig X = F.lead) = (F.rst X = 0) := by rw [e]; apply propext; omega
   simp only [e2]
 · simp only [h1, if_false]
   by_cases h2 : F.fld X = 0
   · have h3 : ¬ 0 < F.fld X := by omega
     have e : F.sig X = F.rst X := by rw [hsig.1, if_neg h3, Nat.add_zero]
     simp only [h2, if_true, e, Nat.lt_irrefl, if_false]
   · have h3 : 0 < F.fld X := by omega
     have e : F.sig X = F.rst X + F.lead := by rw [hsig.1, if_pos h3]
     simp only [h3, if_true, h2, if_false, e]

theorem Fm.Ok.upk_lead {F : Fm} (h : F.Ok) (X : Nat) (hx : F.x = true) (hb : ¬ (F.lead ≤ X % 2 ^ F.fb ↔ 0 < F.fld X)) : F.upk X = ⟨0, false, 0, 0⟩ := by
 have : F.bad X := by
  unfold Fm.bad Fm.sig
  right
  simpa [hx] using hb
 unfold Fm.upk
 simp only [this, if_true]

theorem Fm.Ok.upk_wide {F : Fm} (h : F.Ok) (X : Nat) (hb : 2 ^ F.wd ≤ X) : F.upk X = ⟨0, false, 0, 0⟩ := by
 have : F.bad X := .inl ((h.sgnW X).1.2 hb)
 unfold Fm.upk
 simp only [this, if_true]

theorem fld_step (X fb k e : Nat) (hk : k + 1 ≤ e) : (X / 2 ^ (fb + (k + 1)) % 2 ^ (e - (k + 1))) * 2 + X / 2 ^ (fb + k) % 2 = X / 2 ^ (fb + k) % 2 ^ (e - k) := by
 have e1 : X / 2 ^ (fb + (k + 1)) = X / 2 ^ (fb + k) / 2 := by rw [← Nat.add_assoc, Nat.pow_succ, Nat.div_div_eq_div_mul]
 have e2 : 2 ^ (e - k) = 2 * 2 ^ (e - (k + 1)) := by rw [← Nat.pow_succ']; congr 1; omega
 rw [e1, e2]
 generalize X / 2 ^ (fb + k) = Y
 rw [Nat.mod_mul]
 omega

end Go.Proofs.YtogkkecnmlnajaaDoor.M
