import Derived.WalkKit
namespace Go.Proofs.YtcilemkeljcidaaDoor.M
set_option linter.unusedVariables false
set_option maxRecDepth 100000
def val (B : Nat) : List Nat → Nat
 | [] => 0
 | x :: r => x + B * val B r

def digF (B : Nat) : Nat → Nat → List Nat
 | 0, _ => []
 | f + 1, n => if 0 < n then n % B :: digF B f (n / B) else []

def dig (B : Nat) (n : Nat) : List Nat := digF B n n

theorem digF_eq {B : Nat} (hB : 1 < B) (f : Nat) : ∀ n g, n ≤ f → n ≤ g → digF B f n = digF B g n := by
 induction f with
 | zero =>
   intro n g h1 h2
   have : n = 0 := by omega
   subst this
   cases g <;> simp [digF]
 | succ f ih =>
   intro n g h1 h2
   by_cases hn : 0 < n
   · cases g with
     | zero => omega
     | succ g =>
       have hd := Nat.div_lt_self hn hB
       simp only [digF, hn, if_true]
       rw [ih (n / B) g (by omega) (by omega)]
   · have : n = 0 := by omega
     subst this
     cases g <;> simp [digF]

theorem dig_zero (B : Nat) : dig B 0 = [] := by simp [dig, digF]

theorem dig_pos {B n : Nat} (hB : 1 < B) (hn : 0 < n) : dig B n = n % B :: dig B (n / B) := by
 have hd := Nat.div_lt_self hn hB
 unfold dig
 obtain ⟨m, rfl⟩ : ∃ m, n = m + 1 := ⟨n - 1, by omega⟩
 simp only [digF, hn, if_true]
 rw [digF_eq hB m ((m + 1) / B) ((m + 1) / B) (by omega) (by omega)]

theorem val_dig {B : Nat} (hB : 1 < B) (n : Nat) : val B (dig B n) = n := by
 induction n using Nat.strongRecOn with
 | _ n ih =>
   by_cases hn : 0 < n
   · rw [dig_pos hB hn, val, ih _ (Nat.div_lt_self hn hB)]
     exact Nat.mod_add_div n B
   · have : n = 0 := by omega
     subst this; simp [dig_zero, val]

theorem dig_lt {B : Nat} (hB : 1 < B) (n : Nat) : ∀ x ∈ dig B n, x < B := by
 induction n using Nat.strongRecOn with
 | _ n ih =>
   intro x hx
   by_cases hn : 0 < n
   · rw [dig_pos hB hn] at hx
     rcases List.mem_cons.1 hx with rfl | hx
     · exact Nat.mod_lt _ (by omega)
     · exact ih _ (Nat.div_lt_self hn hB) x hx
   · have : n = 0 := by omega
     subst this; simp [dig_zero] at hx

theorem val_append (B : Nat) (xs ys : List Nat) : val B (xs ++ ys) = val B xs + B ^ xs.length * val B ys := by
 induction xs with
 | nil => simp [val]
 | cons x r ih => simp only [List.cons_append, val, ih, List.length_cons, Nat.pow_succ]; rw [Nat.mul_add, ← Nat.mul_assoc, Nat.mul_comm (B ^ r.length) B]; omega

theorem val_lt {B : Nat} (hB : 1 < B) (xs : List Nat) (h : ∀ x ∈ xs, x < B) : val B xs < B ^ xs.length := by
 induction xs with
 | nil => simp [val]
 | cons x r ih =>
   have h1 := h x (by simp)
   have h2 := ih (fun y hy => h y (by simp [hy]))
   simp only [val, List.length_cons, Nat.pow_succ]
   have : B * val B r + B ≤ B * B ^ r.length := by
    rw [← Nat.mul_succ]; exact Nat.mul_le_mul_left _ h2
   rw [Nat.mul_comm (B ^ r.length) B]; omega

theorem dig_val {B : Nat} (hB : 1 < B) (xs : List Nat) (h : ∀ x ∈ xs, x < B) (hl : ∀ (hne : xs ≠ []), xs.getLast hne ≠ 0) : dig B (val B xs) = xs := by
 induction xs with
 | nil => simp [val, dig_zero]
 | cons x r ih =>
   have h1 := h x (by simp)
   have hr : dig B (val B r) = r := ih (fun y hy => h y (by simp [hy])) (fun hne => by have := hl (by simp); rwa [List.getLast_cons hne] at this)
   have hpos : 0 < val B (x :: r) := by
    by_cases hx : x = 0
    · have hne : r ≠ [] := by
       intro e; subst e; have := hl (by simp); simp [hx] at this
      have : val B r ≠ 0 := by
       intro e; rw [e, dig_zero] at hr; exact hne hr.symm
      simp only [val]
      have : 0 < B * val B r := Nat.mul_pos (by omega) (by omega)
      omega
    · simp only [val]; omega
   rw [dig_pos hB hpos]
   have e1 : (x + B * val B r) % B = x := by rw [Nat.add_mul_mod_self_left]; exact Nat.mod_eq_of_lt h1
   have e2 : (x + B * val B r) / B = val B r := by
    rw [Nat.add_mul_div_left _ _ (by omega), Nat.div_eq_of_lt h1]; omega
   simp only [val, e1, e2, hr]

theorem val_replicate (B n : Nat) : val B (List.replicate n 0) = 0 := by
 induction n with
 | zero => rfl
 | succ n ih => simp [List.replicate_succ, val, ih]

theorem val_zeros {B : Nat} (xs : List Nat) (h : ∀ x ∈ xs, x = 0) : val B xs = 0 := by
 induction xs with
 | nil => rfl
 | cons x r ih => simp [val, h x (by simp), ih (fun y hy => h y (by simp [hy]))]

theorem take_dig {B : Nat} (hB : 1 < B) (xs : List Nat) (h : ∀ x ∈ xs, x < B) (n : Nat) (hn : n ≤ xs.length)
 (hz : ∀ j, n ≤ j → j < xs.length → xs.getD j 0 = 0) (hl : n = 0 ∨ xs.getD (n - 1) 0 ≠ 0) : xs.take n = dig B (val B xs) := by
 have e : val B xs = val B (xs.take n) := by
  conv => lhs; rw [← List.take_append_drop n xs]
  rw [val_append, val_zeros (xs.drop n)]
  · simp
  · intro x hx
    obtain ⟨j, hj, rfl⟩ := List.getElem_of_mem hx
    rw [List.getElem_drop]
    have := hz (n + j) (by omega) (by simp at hj; omega)
    rw [List.getD_eq_getElem?_getD, List.getElem?_eq_getElem (by simp at hj; omega)] at this
    simpa using this
 rw [e]
 refine (dig_val hB _ (fun x hx => h x (List.mem_of_mem_take hx)) ?_).symm
 intro hne
 rcases hl with rfl | hl
 · simp at hne
 · have hn0 : n ≠ 0 := by intro e; subst e; simp at hne
   rw [List.getLast_eq_getElem]
   simp only [List.getElem_take, List.length_take]
   rw [List.getD_eq_getElem?_getD, List.getElem?_eq_getElem (by omega)] at hl
   have e1 : min n xs.length - 1 = n - 1 := by omega
   simp only [e1]
   simpa using hl

theorem getD_lt {B : Nat} (hB : 1 < B) {xs : List Nat} (h : ∀ x ∈ xs, x < B) (i : Nat) : xs.getD i 0 < B := by
 rw [List.getD_eq_getElem?_getD]
 by_cases hi : i < xs.length
 · rw [List.getElem?_eq_getElem hi]; exact h _ (List.getElem_mem hi)
 · rw [List.getElem?_eq_none (by omega)]; simp; omega

theorem take_succ (xs : List Nat) (k : Nat) (h : k < xs.length) : xs.take (k + 1) = xs.take k ++ [xs.getD k 0] := by
 rw [List.take_succ_eq_append_getElem h, List.getD_eq_getElem?_getD, List.getElem?_eq_getElem h]; rfl

theorem val_head (B : Nat) (xs : List Nat) : val B xs = xs.getD 0 0 + B * val B xs.tail := by
 cases xs <;> simp [val]

theorem getD_tail (xs : List Nat) (j : Nat) : xs.tail.getD j 0 = xs.getD (j + 1) 0 := by
 cases xs <;> simp

theorem lt_dig {B : Nat} (hB : 1 < B) (n : Nat) : n < B ^ (dig B n).length := by
 have := val_lt hB (dig B n) (dig_lt hB n)
 rwa [val_dig hB] at this

theorem dig_le {B : Nat} (hB : 1 < B) (n : Nat) : 0 < n → B ^ ((dig B n).length - 1) ≤ n := by
 induction n using Nat.strongRecOn with
 | _ n ih =>
   intro hn
   rw [dig_pos hB hn]
   simp only [List.length_cons, Nat.add_sub_cancel]
   by_cases h : 0 < n / B
   · have h1 := ih (n / B) (Nat.div_lt_self hn hB) h
     have h2 : (dig B (n / B)).length ≠ 0 := by rw [dig_pos hB h]; simp
     have e : (dig B (n / B)).length = (dig B (n / B)).length - 1 + 1 := by omega
     rw [e, Nat.pow_succ]
     exact Nat.le_trans (Nat.mul_le_mul_right _ h1) (Nat.div_mul_le_self n B)
   · have : n / B = 0 := Nat.eq_zero_of_not_pos h
     rw [this, dig_zero]
     show B ^ 0 ≤ n
     rw [Nat.pow_zero]; exact hn

theorem lt_of_length {B : Nat} (hB : 1 < B) {a b : Nat} (h : (dig B a).length < (dig B b).length) : a < b := by
 have h1 := lt_dig hB a
 have hb : 0 < b := by
  rcases Nat.eq_zero_or_pos b with rfl | hb
  · simp [dig_zero] at h
  · exact hb
 have h2 := dig_le hB b hb
 have h3 : B ^ (dig B a).length ≤ B ^ ((dig B b).length - 1) := Nat.pow_le_pow_right (by omega) (by omega)
 omega

def halves : List Nat → List Nat
 | [] => []
 | x :: r => x % 4294967296 :: x / 4294967296 :: halves r

theorem halves_append (xs ys : List Nat) : halves (xs ++ ys) = halves xs ++ halves ys := by
 induction xs with
 | nil => rfl
 | cons x r ih => simp [halves, ih]

theorem halves_length (xs : List Nat) : (halves xs).length = 2 * xs.length := by
 induction xs with
 | nil => rfl
 | cons x r ih => simp [halves, ih]; omega

theorem halves_lt (xs : List Nat) (h : ∀ x ∈ xs, x < 18446744073709551616) : ∀ x ∈ halves xs, x < 4294967296 := by
 induction xs with
 | nil => simp [halves]
 | cons x r ih =>
   intro y hy
   have hx := h x (by simp)
   simp only [halves, List.mem_cons] at hy
   rcases hy with rfl | rfl | hy
   · omega
   · omega
   · exact ih (fun z hz => h z (by simp [hz])) y hy

theorem val_halves (xs : List Nat) : val 4294967296 (halves xs) = val 18446744073709551616 xs := by
 induction xs with
 | nil => rfl
 | cons x r ih => simp only [halves, val, ih]; omega

theorem dig_last {B : Nat} (hB : 1 < B) (n : Nat) : 0 < n → (dig B n).getD ((dig B n).length - 1) 0 ≠ 0 := by
 induction n using Nat.strongRecOn with
 | _ n ih =>
   intro hn
   by_cases h : 0 < n / B
   · have h1 := ih (n / B) (Nat.div_lt_self hn hB) h
     rw [dig_pos hB hn]
     have h2 : (dig B (n / B)).length ≠ 0 := by rw [dig_pos hB h]; simp
     simp only [List.length_cons, Nat.add_sub_cancel]
     obtain ⟨m, hm⟩ : ∃ m, (dig B (n / B)).length = m + 1 := ⟨(dig B (n / B)).length - 1, by omega⟩
     rw [hm] at h1 ⊢
     simpa using h1
   · have h0 : n / B = 0 := Nat.eq_zero_of_not_pos h
     rw [dig_pos hB hn, h0, dig_zero]
     have := Nat.mod_add_div n B
     rw [h0] at this
     simp; omega

theorem dig_of {B : Nat} (hB : 1 < B) (xs : List Nat) (h : ∀ x ∈ xs, x < B) (hl : xs = [] ∨ xs.getD (xs.length - 1) 0 ≠ 0) : xs = dig B (val B xs) := by
 refine (dig_val hB xs h (fun hne => ?_)).symm
 rcases hl with rfl | hl
 · exact absurd rfl hne
 · rw [List.getLast_eq_getElem]
   have : xs.length ≠ 0 := fun e => hne (List.eq_nil_of_length_eq_zero e)
   rw [List.getD_eq_getElem?_getD, List.getElem?_eq_getElem (by omega)] at hl
   simpa using hl

def pk (C : Nat) (xs : List Nat) (k : Nat) : List Nat := (List.range k).map fun i => xs.getD (2 * i) 0 + xs.getD (2 * i + 1) 0 * C

theorem pk_length (C : Nat) (xs : List Nat) (k : Nat) : (pk C xs k).length = k := by simp [pk]

theorem pk_succ (C : Nat) (xs : List Nat) (k : Nat) : pk C xs (k + 1) = pk C xs k ++ [xs.getD (2 * k) 0 + xs.getD (2 * k + 1) 0 * C] := by
 simp [pk, List.range_succ]

theorem pk_cons (C : Nat) (xs : List Nat) (k : Nat) : pk C xs (k + 1) = (xs.getD 0 0 + xs.getD 1 0 * C) :: pk C xs.tail.tail k := by
 unfold pk
 rw [List.range_succ_eq_map, List.map_cons, List.map_map]
 refine congrArg (List.cons _) (List.map_congr_left ?_)
 intro i _
 simp only [Function.comp, getD_tail]
 rw [show 2 * Nat.succ i = 2 * i + 1 + 1 by omega]

theorem val_pk (C k : Nat) : ∀ xs : List Nat, xs.length ≤ 2 * k → val (C * C) (pk C xs k) = val C xs := by
 induction k with
 | zero => intro xs h; have : xs = [] := List.eq_nil_of_length_eq_zero (by omega); subst this; simp [pk, val]
 | succ k ih =>
   intro xs h
   have e1 := val_head C xs
   have e2 := val_head C xs.tail
   rw [getD_tail, Nat.zero_add] at e2
   rw [pk_cons, val, ih xs.tail.tail (by simp; omega), e1, e2, Nat.mul_add, Nat.mul_comm (xs.getD 1 0) C, Nat.mul_assoc]
   omega

theorem pk_lt {C : Nat} (hC : 1 < C) (xs : List Nat) (h : ∀ x ∈ xs, x < C) (k : Nat) : ∀ x ∈ pk C xs k, x < C * C := by
 intro x hx
 obtain ⟨i, _, rfl⟩ := List.mem_map.1 hx
 have h1 := getD_lt hC h (2 * i)
 have h2 := getD_lt hC h (2 * i + 1)
 have h3 : (xs.getD (2 * i + 1) 0 + 1) * C ≤ C * C := Nat.mul_le_mul_right _ h2
 rw [Nat.add_mul] at h3
 omega

theorem pk_dig {C : Nat} (hC : 1 < C) (n : Nat) : pk C (dig C n) (((dig C n).length + 1) / 2) = dig (C * C) n := by
 have hCC : 1 < C * C := Nat.lt_of_lt_of_le hC (Nat.le_mul_of_pos_left _ (by omega))
 have e := dig_of hCC (pk C (dig C n) (((dig C n).length + 1) / 2)) (pk_lt hC _ (dig_lt hC n) _) ?_
 · rw [val_pk _ _ _ (by omega), val_dig hC] at e; exact e
 · by_cases hn : 0 < n
   · right
     rw [pk_length]
     have h1 := dig_last hC n hn
     have h2 : (dig C n).length ≠ 0 := by rw [dig_pos hC hn]; simp
     obtain ⟨k, hk⟩ : ∃ k, ((dig C n).length + 1) / 2 = k + 1 := ⟨((dig C n).length + 1) / 2 - 1, by omega⟩
     rw [hk, Nat.add_sub_cancel]
     have e : (pk C (dig C n) (k + 1)).getD k 0 = (dig C n).getD (2 * k) 0 + (dig C n).getD (2 * k + 1) 0 * C := by
      simp [pk, List.getD_eq_getElem?_getD]
     rw [e]
     rcases Nat.lt_or_ge (2 * k + 1) (dig C n).length with h | h
     · rw [show (dig C n).length - 1 = 2 * k + 1 by omega] at h1
       have : 0 < (dig C n).getD (2 * k + 1) 0 * C := Nat.mul_pos (by omega) (by omega)
       omega
     · rw [show (dig C n).length - 1 = 2 * k by omega] at h1; omega
   · have : n = 0 := by omega
     subst this; left; simp [dig_zero, pk]

theorem val_take_succ (B : Nat) (xs : List Nat) (k : Nat) : val B (xs.take (k + 1)) = val B (xs.take k) + B ^ k * xs.getD k 0 := by
 by_cases h : k < xs.length
 · rw [take_succ xs k h, val_append]
   have : (xs.take k).length = k := by simp; omega
   rw [this]; simp [val]
 · rw [List.take_of_length_le (by omega), List.take_of_length_le (by omega), List.getD_eq_getElem?_getD, List.getElem?_eq_none (by omega)]
   simp

theorem val_snoc (B : Nat) (xs : List Nat) (x : Nat) : val B (xs ++ [x]) = val B xs + B ^ xs.length * x := by
 rw [val_append]; simp [val]

theorem no_carry {S c P t : Nat} (h : S + c * P = t) (ht : t < P) : c = 0 ∧ S = t := by
 rcases Nat.eq_zero_or_pos c with rfl | hc
 · simp at h; exact ⟨rfl, h⟩
 · have := Nat.le_mul_of_pos_left P hc; omega

theorem add_place {S c P B A A' x y o c' : Nat} (h : S + c * P = A + A') (hs : o + B * c' = x + y + c) : S + P * o + c' * (P * B) = (A + P * x) + (A' + P * y) := by
 have e : P * (o + B * c') = P * (x + y + c) := by rw [hs]
 simp only [Nat.mul_add] at e
 rw [Nat.mul_comm c' (P * B), Nat.mul_assoc]
 rw [Nat.mul_comm c P] at h
 omega

end Go.Proofs.YtcilemkeljcidaaDoor.M
