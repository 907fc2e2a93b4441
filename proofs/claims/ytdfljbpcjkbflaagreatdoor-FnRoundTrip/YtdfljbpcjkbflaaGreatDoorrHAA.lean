import Derived.WalkKit
import Derived.Test.YtdfljbpcjkbflaaGreatDoorRows
import Derived.WalkSpells
import Derived.WalkLawsBesides
import Derived.Laws.CopyOwn
import Derived.Deep.QuietTactic
import Derived.BigQuiet
set_option maxHeartbeats 400000
namespace Go.Proofs.YtdfljbpcjkbflaaGreatDoor.M
set_option linter.unusedVariables false
set_option maxRecDepth 100000
def val (B : Nat) : List Nat → Nat
 | [] => 0
 | x :: r => x + B * val B r

def sK (B : Nat) : Nat → Nat → List Nat
 | 0, _ => []
 | f + 1, n => if 0 < n then n % B :: sK B f (n / B) else []

def dig (B : Nat) (n : Nat) : List Nat := sK B n n

theorem F9 {B : Nat} (hB : 1 < B) (f : Nat) : ∀ n g, n ≤ f → n ≤ g → sK B f n = sK B g n := by
 induction f with
 | zero =>
   intro n g h1 h2
   have : n = 0 := by omega
   subst this
   cases g <;> simp [sK]
 | succ f ih =>
   intro n g h1 h2
   by_cases hn : 0 < n
   · cases g with
     | zero => omega
     | succ g =>
       have hd := Nat.div_lt_self hn hB
       simp only [sK, hn, if_true]
       rw [ih (n / B) g (by omega) (by omega)]
   · have : n = 0 := by omega
     subst this
     cases g <;> simp [sK]

theorem aJ (B : Nat) : dig B 0 = [] := by simp [dig, sK]

theorem aS {B n : Nat} (hB : 1 < B) (hn : 0 < n) : dig B n = n % B :: dig B (n / B) := by
 have hd := Nat.div_lt_self hn hB
 unfold dig
 obtain ⟨m, rfl⟩ : ∃ m, n = m + 1 := ⟨n - 1, by omega⟩
 simp only [sK, hn, if_true]
 rw [F9 hB m ((m + 1) / B) ((m + 1) / B) (by omega) (by omega)]

theorem dY {B : Nat} (hB : 1 < B) (n : Nat) : val B (dig B n) = n := by
 induction n using Nat.strongRecOn with
 | _ n ih =>
   by_cases hn : 0 < n
   · rw [aS hB hn, val, ih _ (Nat.div_lt_self hn hB)]
     exact Nat.mod_add_div n B
   · have : n = 0 := by omega
     subst this; simp [aJ, val]

theorem mM {B : Nat} (hB : 1 < B) (n : Nat) : ∀ x ∈ dig B n, x < B := by
 induction n using Nat.strongRecOn with
 | _ n ih =>
   intro x hx
   by_cases hn : 0 < n
   · rw [aS hB hn] at hx
     rcases List.mem_cons.1 hx with rfl | hx
     · exact Nat.mod_lt _ (by omega)
     · exact ih _ (Nat.div_lt_self hn hB) x hx
   · have : n = 0 := by omega
     subst this; simp [aJ] at hx

theorem cQ (B : Nat) (xs ys : List Nat) : val B (xs ++ ys) = val B xs + B ^ xs.length * val B ys := by
 induction xs with
 | nil => simp [val]
 | cons x r ih => simp only [List.cons_append, val, ih, List.length_cons, Nat.pow_succ]; rw [Nat.mul_add, ← Nat.mul_assoc, Nat.mul_comm (B ^ r.length) B]; omega

theorem eT {B : Nat} (hB : 1 < B) (xs : List Nat) (h : ∀ x ∈ xs, x < B) : val B xs < B ^ xs.length := by
 induction xs with
 | nil => simp [val]
 | cons x r ih =>
   have h1 := h x (by simp)
   have h2 := ih (fun y hy => h y (by simp [hy]))
   simp only [val, List.length_cons, Nat.pow_succ]
   have : B * val B r + B ≤ B * B ^ r.length := by
    rw [← Nat.mul_succ]; exact Nat.mul_le_mul_left _ h2
   rw [Nat.mul_comm (B ^ r.length) B]; omega

theorem yS {B : Nat} (hB : 1 < B) (xs : List Nat) (h : ∀ x ∈ xs, x < B) (hl : ∀ (hne : xs ≠ []), xs.getLast hne ≠ 0) : dig B (val B xs) = xs := by
 induction xs with
 | nil => simp [val, aJ]
 | cons x r ih =>
   have h1 := h x (by simp)
   have hr : dig B (val B r) = r := ih (fun y hy => h y (by simp [hy])) (fun hne => by have := hl (by simp); rwa [List.getLast_cons hne] at this)
   have hpos : 0 < val B (x :: r) := by
    by_cases hx : x = 0
    · have hne : r ≠ [] := by
       intro e; subst e; have := hl (by simp); simp [hx] at this
      have : val B r ≠ 0 := by
       intro e; rw [e, aJ] at hr; exact hne hr.symm
      simp only [val]
      have : 0 < B * val B r := Nat.mul_pos (by omega) (by omega)
      omega
    · simp only [val]; omega
   rw [aS hB hpos]
   have e1 : (x + B * val B r) % B = x := by rw [Nat.add_mul_mod_self_left]; exact Nat.mod_eq_of_lt h1
   have e2 : (x + B * val B r) / B = val B r := by
    rw [Nat.add_mul_div_left _ _ (by omega), Nat.div_eq_of_lt h1]; omega
   simp only [val, e1, e2, hr]

theorem cM (B n : Nat) : val B (List.replicate n 0) = 0 := by
 induction n with
 | zero => rfl
 | succ n ih => simp [List.replicate_succ, val, ih]

theorem qL {B : Nat} (xs : List Nat) (h : ∀ x ∈ xs, x = 0) : val B xs = 0 := by
 induction xs with
 | nil => rfl
 | cons x r ih => simp [val, h x (by simp), ih (fun y hy => h y (by simp [hy]))]

theorem iT {B : Nat} (hB : 1 < B) (xs : List Nat) (h : ∀ x ∈ xs, x < B) (n : Nat) (hn : n ≤ xs.length)
 (hz : ∀ j, n ≤ j → j < xs.length → xs.getD j 0 = 0) (hl : n = 0 ∨ xs.getD (n - 1) 0 ≠ 0) : xs.take n = dig B (val B xs) := by
 have e : val B xs = val B (xs.take n) := by
  conv => lhs; rw [← List.take_append_drop n xs]
  rw [cQ, qL (xs.drop n)]
  · simp
  · intro x hx
    obtain ⟨j, hj, rfl⟩ := List.getElem_of_mem hx
    rw [List.getElem_drop]
    have := hz (n + j) (by omega) (by simp at hj; omega)
    rw [List.getD_eq_getElem?_getD, List.getElem?_eq_getElem (by simp at hj; omega)] at this
    simpa using this
 rw [e]
 refine (yS hB _ (fun x hx => h x (List.mem_of_mem_take hx)) ?_).symm
 intro hne
 rcases hl with rfl | hl
 · simp at hne
 · have hn0 : n ≠ 0 := by intro e; subst e; simp at hne
   rw [List.getLast_eq_getElem]
   simp only [List.getElem_take, List.length_take]
   rw [List.getD_eq_getElem?_getD, List.getElem?_eq_getElem (by omega)] at hl
   have e1 : min n xs.length - 1 = n - 1 := by omega
   simp only [e1]
   simpa using hl

theorem pH {B : Nat} (hB : 1 < B) (xs : List Nat) (h : ∀ x ∈ xs, x < B) : (dig B (val B xs)).length ≤ xs.length := by
 induction xs with
 | nil => simp [val, aJ]
 | cons x r ih =>
   by_cases hp : 0 < val B (x :: r)
   · have e2 : (x + B * val B r) / B = val B r := by
      rw [Nat.add_mul_div_left _ _ (by omega), Nat.div_eq_of_lt (h x (by simp))]; omega
     rw [aS hB hp]
     simp only [val, e2, List.length_cons]
     have := ih (fun y hy => h y (by simp [hy]))
     omega
   · have : val B (x :: r) = 0 := by omega
     rw [this, aJ]; simp

theorem bK {B : Nat} (hB : 1 < B) {xs : List Nat} (h : ∀ x ∈ xs, x < B) (i : Nat) : xs.getD i 0 < B := by
 rw [List.getD_eq_getElem?_getD]
 by_cases hi : i < xs.length
 · rw [List.getElem?_eq_getElem hi]; exact h _ (List.getElem_mem hi)
 · rw [List.getElem?_eq_none (by omega)]; simp; omega

theorem i9 (xs : List Nat) (k : Nat) (h : k < xs.length) : xs.take (k + 1) = xs.take k ++ [xs.getD k 0] := by
 rw [List.take_succ_eq_append_getElem h, List.getD_eq_getElem?_getD, List.getElem?_eq_getElem h]; rfl

theorem fV (B : Nat) (xs : List Nat) : val B xs = xs.getD 0 0 + B * val B xs.tail := by
 cases xs <;> simp [val]

theorem cV (xs : List Nat) (j : Nat) : xs.tail.getD j 0 = xs.getD (j + 1) 0 := by
 cases xs <;> simp

theorem yD (B : Nat) (xs : List Nat) : ∀ ys : List Nat, (∀ j, xs.getD j 0 = ys.getD j 0) → val B xs = val B ys := by
 induction xs with
 | nil =>
   intro ys h
   refine (qL ys (fun y hy => ?_)).symm
   obtain ⟨j, hj, rfl⟩ := List.getElem_of_mem hy
   have := h j
   simp [List.getD_eq_getElem?_getD, hj] at this
   omega
 | cons x r ih =>
   intro ys h
   rw [fV B ys, val, ih ys.tail (fun j => by rw [cV, ← h (j + 1)]; simp)]
   have := h 0
   simp only [List.getD_cons_zero] at this
   rw [this]

theorem oV {B : Nat} (hB : 1 < B) (k : Nat) : ∀ xs ys : List Nat, (∀ x ∈ xs, x < B) → xs.getD k 0 < ys.getD k 0 → (∀ j, k < j → xs.getD j 0 = ys.getD j 0) → val B xs < val B ys := by
 induction k with
 | zero =>
   intro xs ys hx h he
   rw [fV B xs, fV B ys, yD B xs.tail ys.tail (fun j => by rw [cV, cV]; exact he (j + 1) (by omega))]
   omega
 | succ k ih =>
   intro xs ys hx h he
   have h1 := ih xs.tail ys.tail (fun x hx' => hx x (List.mem_of_mem_tail hx')) (by rw [cV, cV]; exact h) (fun j hj => by rw [cV, cV]; exact he (j + 1) (by omega))
   have h0 := bK hB hx 0
   rw [fV B xs, fV B ys]
   have : B * val B xs.tail + B ≤ B * val B ys.tail := by rw [← Nat.mul_succ]; exact Nat.mul_le_mul_left _ h1
   omega

theorem iR {B : Nat} (hB : 1 < B) (n : Nat) : n < B ^ (dig B n).length := by
 have := eT hB (dig B n) (mM hB n)
 rwa [dY hB] at this

theorem mG {B : Nat} (hB : 1 < B) (n : Nat) : 0 < n → B ^ ((dig B n).length - 1) ≤ n := by
 induction n using Nat.strongRecOn with
 | _ n ih =>
   intro hn
   rw [aS hB hn]
   simp only [List.length_cons, Nat.add_sub_cancel]
   by_cases h : 0 < n / B
   · have h1 := ih (n / B) (Nat.div_lt_self hn hB) h
     have h2 : (dig B (n / B)).length ≠ 0 := by rw [aS hB h]; simp
     have e : (dig B (n / B)).length = (dig B (n / B)).length - 1 + 1 := by omega
     rw [e, Nat.pow_succ]
     exact Nat.le_trans (Nat.mul_le_mul_right _ h1) (Nat.div_mul_le_self n B)
   · have : n / B = 0 := Nat.eq_zero_of_not_pos h
     rw [this, aJ]
     show B ^ 0 ≤ n
     rw [Nat.pow_zero]; exact hn

theorem cH {B : Nat} (hB : 1 < B) {a b : Nat} (h : (dig B a).length < (dig B b).length) : a < b := by
 have h1 := iR hB a
 have hb : 0 < b := by
  rcases Nat.eq_zero_or_pos b with rfl | hb
  · simp [aJ] at h
  · exact hb
 have h2 := mG hB b hb
 have h3 : B ^ (dig B a).length ≤ B ^ ((dig B b).length - 1) := Nat.pow_le_pow_right (by omega) (by omega)
 omega

def dG : List Nat → List Nat
 | [] => []
 | x :: r => x % 4294967296 :: x / 4294967296 :: dG r

theorem pK (xs ys : List Nat) : dG (xs ++ ys) = dG xs ++ dG ys := by
 induction xs with
 | nil => rfl
 | cons x r ih => simp [dG, ih]

theorem pI (xs : List Nat) : (dG xs).length = 2 * xs.length := by
 induction xs with
 | nil => rfl
 | cons x r ih => simp [dG, ih]; omega

theorem AC (xs : List Nat) (h : ∀ x ∈ xs, x < 18446744073709551616) : ∀ x ∈ dG xs, x < 4294967296 := by
 induction xs with
 | nil => simp [dG]
 | cons x r ih =>
   intro y hy
   have hx := h x (by simp)
   simp only [dG, List.mem_cons] at hy
   rcases hy with rfl | rfl | hy
   · omega
   · omega
   · exact ih (fun z hz => h z (by simp [hz])) y hy

theorem wW (xs : List Nat) : val 4294967296 (dG xs) = val 18446744073709551616 xs := by
 induction xs with
 | nil => rfl
 | cons x r ih => simp only [dG, val, ih]; omega

theorem uS {B : Nat} (hB : 1 < B) (n : Nat) : 0 < n → (dig B n).getD ((dig B n).length - 1) 0 ≠ 0 := by
 induction n using Nat.strongRecOn with
 | _ n ih =>
   intro hn
   by_cases h : 0 < n / B
   · have h1 := ih (n / B) (Nat.div_lt_self hn hB) h
     rw [aS hB hn]
     have h2 : (dig B (n / B)).length ≠ 0 := by rw [aS hB h]; simp
     simp only [List.length_cons, Nat.add_sub_cancel]
     obtain ⟨m, hm⟩ : ∃ m, (dig B (n / B)).length = m + 1 := ⟨(dig B (n / B)).length - 1, by omega⟩
     rw [hm] at h1 ⊢
     simpa using h1
   · have h0 : n / B = 0 := Nat.eq_zero_of_not_pos h
     rw [aS hB hn, h0, aJ]
     have := Nat.mod_add_div n B
     rw [h0] at this
     simp; omega

theorem wP {B : Nat} (hB : 1 < B) (xs : List Nat) (h : ∀ x ∈ xs, x < B) (hl : xs = [] ∨ xs.getD (xs.length - 1) 0 ≠ 0) : xs = dig B (val B xs) := by
 refine (yS hB xs h (fun hne => ?_)).symm
 rcases hl with rfl | hl
 · exact absurd rfl hne
 · rw [List.getLast_eq_getElem]
   have : xs.length ≠ 0 := fun e => hne (List.eq_nil_of_length_eq_zero e)
   rw [List.getD_eq_getElem?_getD, List.getElem?_eq_getElem (by omega)] at hl
   simpa using hl

def pk (C : Nat) (xs : List Nat) (k : Nat) : List Nat := (List.range k).map fun i => xs.getD (2 * i) 0 + xs.getD (2 * i + 1) 0 * C

theorem zI (C : Nat) (xs : List Nat) (k : Nat) : (pk C xs k).length = k := by simp [pk]

theorem zA (C : Nat) (xs : List Nat) (k : Nat) : pk C xs (k + 1) = pk C xs k ++ [xs.getD (2 * k) 0 + xs.getD (2 * k + 1) 0 * C] := by
 simp [pk, List.range_succ]

theorem GL (C : Nat) (xs : List Nat) (k : Nat) : pk C xs (k + 1) = (xs.getD 0 0 + xs.getD 1 0 * C) :: pk C xs.tail.tail k := by
 unfold pk
 rw [List.range_succ_eq_map, List.map_cons, List.map_map]
 refine congrArg (List.cons _) (List.map_congr_left ?_)
 intro i _
 simp only [Function.comp, cV]
 rw [show 2 * Nat.succ i = 2 * i + 1 + 1 by omega]

theorem IN (C k : Nat) : ∀ xs : List Nat, xs.length ≤ 2 * k → val (C * C) (pk C xs k) = val C xs := by
 induction k with
 | zero => intro xs h; have : xs = [] := List.eq_nil_of_length_eq_zero (by omega); subst this; simp [pk, val]
 | succ k ih =>
   intro xs h
   have e1 := fV C xs
   have e2 := fV C xs.tail
   rw [cV, Nat.zero_add] at e2
   rw [GL, val, ih xs.tail.tail (by simp; omega), e1, e2, Nat.mul_add, Nat.mul_comm (xs.getD 1 0) C, Nat.mul_assoc]
   omega

theorem KM {C : Nat} (hC : 1 < C) (xs : List Nat) (h : ∀ x ∈ xs, x < C) (k : Nat) : ∀ x ∈ pk C xs k, x < C * C := by
 intro x hx
 obtain ⟨i, _, rfl⟩ := List.mem_map.1 hx
 have h1 := bK hC h (2 * i)
 have h2 := bK hC h (2 * i + 1)
 have h3 : (xs.getD (2 * i + 1) 0 + 1) * C ≤ C * C := Nat.mul_le_mul_right _ h2
 rw [Nat.add_mul] at h3
 omega

theorem JK {C : Nat} (hC : 1 < C) (n : Nat) : pk C (dig C n) (((dig C n).length + 1) / 2) = dig (C * C) n := by
 have hCC : 1 < C * C := Nat.lt_of_lt_of_le hC (Nat.le_mul_of_pos_left _ (by omega))
 have e := wP hCC (pk C (dig C n) (((dig C n).length + 1) / 2)) (KM hC _ (mM hC n) _) ?_
 · rw [IN _ _ _ (by omega), dY hC] at e; exact e
 · by_cases hn : 0 < n
   · right
     rw [zI]
     have h1 := uS hC n hn
     have h2 : (dig C n).length ≠ 0 := by rw [aS hC hn]; simp
     obtain ⟨k, hk⟩ : ∃ k, ((dig C n).length + 1) / 2 = k + 1 := ⟨((dig C n).length + 1) / 2 - 1, by omega⟩
     rw [hk, Nat.add_sub_cancel]
     have e : (pk C (dig C n) (k + 1)).getD k 0 = (dig C n).getD (2 * k) 0 + (dig C n).getD (2 * k + 1) 0 * C := by
      simp [pk, List.getD_eq_getElem?_getD]
     rw [e]
     rcases Nat.lt_or_ge (2 * k + 1) (dig C n).length with h | h
     · rw [show (dig C n).length - 1 = 2 * k + 1 by omega] at h1
       have : 0 < (dig C n).getD (2 * k + 1) 0 * C := Nat.mul_pos (by omega) (by omega)
       omega
     · rw [show (dig C n).length - 1 = 2 * k by omega] at h1; omega
   · have : n = 0 := by omega
     subst this; left; simp [aJ, pk]

theorem aH (B : Nat) (xs : List Nat) (k : Nat) : val B (xs.take (k + 1)) = val B (xs.take k) + B ^ k * xs.getD k 0 := by
 by_cases h : k < xs.length
 · rw [i9 xs k h, cQ]
   have : (xs.take k).length = k := by simp; omega
   rw [this]; simp [val]
 · rw [List.take_of_length_le (by omega), List.take_of_length_le (by omega), List.getD_eq_getElem?_getD, List.getElem?_eq_none (by omega)]
   simp

theorem fQ (B : Nat) (xs : List Nat) (x : Nat) : val B (xs ++ [x]) = val B xs + B ^ xs.length * x := by
 rw [cQ]; simp [val]

theorem nU {S c P t : Nat} (h : S + c * P = t) (ht : t < P) : c = 0 ∧ S = t := by
 rcases Nat.eq_zero_or_pos c with rfl | hc
 · simp at h; exact ⟨rfl, h⟩
 · have := Nat.le_mul_of_pos_left P hc; omega

theorem zX {S c P B A A' x y o c' : Nat} (h : S + c * P = A + A') (hs : o + B * c' = x + y + c) : S + P * o + c' * (P * B) = (A + P * x) + (A' + P * y) := by
 have e : P * (o + B * c') = P * (x + y + c) := by rw [hs]
 simp only [Nat.mul_add] at e
 rw [Nat.mul_comm c' (P * B), Nat.mul_assoc]
 rw [Nat.mul_comm c P] at h
 omega

structure Fm where
 p : Nat
 e : Nat
 x : Bool

def Fm.fb (F : Fm) : Nat := if F.x then F.p else F.p - 1

def Fm.wd (F : Fm) : Nat := F.fb + F.e + 1

def Fm.emax (F : Fm) : Nat := 2 ^ (F.e - 1) - 1

def Fm.qmin (F : Fm) : Int := 2 - (F.emax : Int) - (F.p : Int)

def Fm.lead (F : Fm) : Nat := 2 ^ (F.p - 1)

def Fm.top (F : Fm) : Nat := 2 ^ F.e - 1

structure Fm.Ok (F : Fm) : Prop where
 p1 : 24 ≤ F.p
 p2 : F.p ≤ 113
 e1 : 8 ≤ F.e
 e2 : F.e ≤ 15
 w : F.wd ≤ 128

structure Pt where
 c : Int
 n : Bool
 s : Nat
 q : Int

theorem Pt.ext' {a b : Pt} (h1 : a.c = b.c) (h2 : a.n = b.n) (h3 : a.s = b.s) (h4 : a.q = b.q) : a = b := by
 cases a; cases b; simp at *; exact ⟨h1, h2, h3, h4⟩

def Fm.fld (F : Fm) (X : Nat) : Nat := X / 2 ^ F.fb % 2 ^ F.e

def Fm.sgn (F : Fm) (X : Nat) : Nat := X / 2 ^ F.fb / 2 ^ F.e

def Fm.sig (F : Fm) (X : Nat) : Nat := if F.x = false ∧ 0 < F.fld X then X % 2 ^ F.fb + F.lead else X % 2 ^ F.fb

def Fm.bad (F : Fm) (X : Nat) : Prop := 1 < F.sgn X ∨ ¬ (F.lead ≤ F.sig X ↔ 0 < F.fld X)

instance (F : Fm) (X : Nat) : Decidable (F.bad X) := by unfold Fm.bad; infer_instance

def Fm.upk (F : Fm) (X : Nat) : Pt :=
 if F.bad X then ⟨0, false, 0, 0⟩
 else if F.fld X = F.top then (if F.sig X = F.lead then ⟨4, decide (F.sgn X = 1), 0, 0⟩ else ⟨5, false, 0, 0⟩)
 else if 0 < F.fld X then ⟨3, decide (F.sgn X = 1), F.sig X, (F.fld X : Int) - F.emax - F.p + 1⟩
 else if F.sig X = 0 then ⟨1, decide (F.sgn X = 1), 0, 0⟩
 else ⟨2, decide (F.sgn X = 1), F.sig X, F.qmin⟩

def Fm.word (F : Fm) (n : Bool) (fld sig : Nat) : Nat :=
 fld * 2 ^ F.fb + (if F.x = false ∧ 0 < fld then sig - F.lead else sig) + (if n then 2 ^ (F.wd - 1) else 0)

theorem Fm.Ok.leadPos {F : Fm} (h : F.Ok) : 0 < F.lead := Nat.pow_pos (by omega)

theorem Fm.Ok.ad {F : Fm} (h : F.Ok) : 2 ^ F.fb = if F.x then 2 * F.lead else F.lead := by
 unfold Fm.fb Fm.lead
 have := h.p1
 cases F.x
 · rfl
 · simp only [if_true]
   rw [show F.p = (F.p - 1) + 1 by omega, Nat.pow_succ, Nat.add_sub_cancel, Nat.mul_comm]

theorem Fm.Ok.top2 {F : Fm} (h : F.Ok) : F.top = 2 * F.emax + 1 ∧ 2 ^ F.e = F.top + 1 ∧ 127 ≤ F.emax ∧ F.emax ≤ 16383 := by
 have h1 := h.e1
 have h2 := h.e2
 have e : 2 ^ F.e = 2 * 2 ^ (F.e - 1) := by
  rw [Nat.mul_comm, ← Nat.pow_succ]; congr 1; omega
 have a : 2 ^ 7 ≤ 2 ^ (F.e - 1) := Nat.pow_le_pow_right (by omega) (by omega)
 have b : 2 ^ (F.e - 1) ≤ 2 ^ 14 := Nat.pow_le_pow_right (by omega) (by omega)
 unfold Fm.top Fm.emax
 omega

theorem Fm.Ok.width {F : Fm} (h : F.Ok) : 2 ^ F.wd = 2 ^ F.fb * 2 ^ F.e * 2 ∧ 2 ^ (F.wd - 1) = 2 ^ F.fb * 2 ^ F.e ∧ 2 ^ F.wd ≤ 2 ^ 128 := by
 refine ⟨?_, ?_, Nat.pow_le_pow_right (by omega) h.w⟩
 · unfold Fm.wd; rw [Nat.pow_succ, Nat.pow_add]
 · unfold Fm.wd; rw [Nat.add_sub_cancel, Nat.pow_add]

theorem Fm.Ok.frac {F : Fm} (h : F.Ok) (fld sig : Nat) (h3 : sig < 2 * F.lead) (h4 : F.lead ≤ sig ↔ 0 < fld) :
 (if F.x = false ∧ 0 < fld then sig - F.lead else sig) < 2 ^ F.fb := by
 rw [h.ad]
 have := h.leadPos
 rcases F with ⟨p, e, x⟩
 cases x
 · by_cases h5 : 0 < fld
   · simp [h5] at *; omega
   · simp [h5] at *; omega
 · simp; exact h3

theorem Fm.Ok.fields {F : Fm} (h : F.Ok) (n : Bool) (fld sig : Nat) (h2 : fld ≤ F.top) (h3 : sig < 2 * F.lead) (h4 : F.lead ≤ sig ↔ 0 < fld) :
 F.fld (F.word n fld sig) = fld ∧ F.sgn (F.word n fld sig) = n.toNat ∧ F.sig (F.word n fld sig) = sig ∧ F.word n fld sig < 2 ^ F.wd := by
 have hf := h.frac fld sig h3 h4
 have ht := h.top2
 have hA : 0 < 2 ^ F.fb := Nat.pow_pos (by omega)
 have hw := h.width
 obtain ⟨fr, hfr⟩ : ∃ fr, fr = (if F.x = false ∧ 0 < fld then sig - F.lead else sig) := ⟨_, rfl⟩
 rw [← hfr] at hf
 have e : F.word n fld sig = (n.toNat * 2 ^ F.e + fld) * 2 ^ F.fb + fr := by
  unfold Fm.word
  rw [← hfr, hw.2.1, Nat.add_mul]
  cases n
  · simp
  · simp [Nat.mul_comm]; omega
 have e1 : F.word n fld sig / 2 ^ F.fb = n.toNat * 2 ^ F.e + fld := by
  rw [e, Nat.mul_comm, Nat.mul_add_div hA, Nat.div_eq_of_lt hf, Nat.add_zero]
 have e2 : F.word n fld sig % 2 ^ F.fb = fr := by
  rw [e, Nat.mul_comm, Nat.mul_add_mod, Nat.mod_eq_of_lt hf]
 have e3 : F.fld (F.word n fld sig) = fld := by
  unfold Fm.fld
  rw [e1, Nat.mul_comm, Nat.mul_add_mod, Nat.mod_eq_of_lt (by omega)]
 refine ⟨e3, ?_, ?_, ?_⟩
 · unfold Fm.sgn
   rw [e1, Nat.mul_comm, Nat.mul_add_div (by omega), Nat.div_eq_of_lt (by omega), Nat.add_zero]
 · unfold Fm.sig
   rw [e3, e2, hfr]
   by_cases h5 : F.x = false ∧ 0 < fld
   · simp only [h5, and_self, if_true]; have := h4.2 h5.2; omega
   · simp only [h5, if_false]
 · rw [e, hw.1]
   have hn : n.toNat ≤ 1 := by cases n <;> simp
   have h7 : n.toNat * 2 ^ F.e ≤ 1 * 2 ^ F.e := Nat.mul_le_mul_right _ hn
   have h6 : (n.toNat * 2 ^ F.e + fld + 1) * 2 ^ F.fb ≤ (2 ^ F.e * 2) * 2 ^ F.fb := Nat.mul_le_mul_right _ (by omega)
   rw [Nat.add_mul _ 1] at h6
   have h8 : 2 ^ F.e * 2 * 2 ^ F.fb = 2 ^ F.fb * 2 ^ F.e * 2 := by rw [Nat.mul_comm (2 ^ F.e * 2), Nat.mul_assoc]
   omega

def Fm.Proper (F : Fm) (t : Pt) : Prop :=
 (t.c = 1 ∧ t.s = 0 ∧ t.q = 0) ∨ (t.c = 4 ∧ t.s = 0 ∧ t.q = 0) ∨ (t.c = 5 ∧ t.n = false ∧ t.s = 0 ∧ t.q = 0) ∨
 (t.c = 2 ∧ 0 < t.s ∧ t.s < F.lead ∧ t.q = F.qmin) ∨
 (t.c = 3 ∧ F.lead ≤ t.s ∧ t.s < 2 * F.lead ∧ 1 ≤ t.q + F.emax + F.p - 1 ∧ t.q + F.emax + F.p - 1 < F.top)

instance (F : Fm) (t : Pt) : Decidable (F.Proper t) := by unfold Fm.Proper; infer_instance

def Fm.pk (F : Fm) (t : Pt) : Nat :=
 if t.c = 2 then F.word t.n 0 t.s
 else if t.c = 3 then F.word t.n (t.q + F.emax + F.p - 1).toNat t.s
 else if t.c = 4 then F.word t.n F.top F.lead
 else if t.c = 5 then F.word false F.top (F.lead + 2 ^ (F.p - 2))
 else F.word t.n 0 0

theorem Fm.Ok.half {F : Fm} (h : F.Ok) : F.lead = 2 * 2 ^ (F.p - 2) := by
 unfold Fm.lead
 have := h.p1
 rw [Nat.mul_comm, ← Nat.pow_succ]; congr 1; omega

theorem Fm.Ok.sigLt {F : Fm} (h : F.Ok) (X : Nat) : F.sig X < 2 * F.lead := by
 have hA : X % 2 ^ F.fb < 2 ^ F.fb := Nat.mod_lt _ (Nat.pow_pos (by omega))
 rw [h.ad] at hA
 unfold Fm.sig
 rw [h.ad]
 rcases F with ⟨p, e, x⟩
 cases x
 · simp only [Bool.false_eq_true, if_false, true_and] at *
   by_cases h5 : 0 < Fm.fld ⟨p, e, false⟩ X
   · simp only [h5, if_true]; omega
   · simp only [h5, if_false]; omega
 · simpa using hA

theorem Fm.fldLe {F : Fm} (h : F.Ok) (X : Nat) : F.fld X ≤ F.top := by
 have := h.top2
 have : F.fld X < 2 ^ F.e := Nat.mod_lt _ (Nat.pow_pos (by omega))
 omega

theorem Fm.Ok.upk_proper {F : Fm} (h : F.Ok) (X : Nat) : F.upk X = ⟨0, false, 0, 0⟩ ∨ F.Proper (F.upk X) := by
 unfold Fm.upk
 by_cases hb : F.bad X
 · simp [hb]
 · right
   simp only [hb, if_false]
   have hs := h.sigLt X
   have hl := fldLe h X
   have ht := h.top2
   have hb' : ¬ 1 < F.sgn X ∧ (F.lead ≤ F.sig X ↔ 0 < F.fld X) := by
    unfold Fm.bad at hb
    exact ⟨fun h1 => hb (.inl h1), Classical.byContradiction fun h2 => hb (.inr h2)⟩
   by_cases h1 : F.fld X = F.top
   · simp only [h1, if_true]
     by_cases h2 : F.sig X = F.lead
     · simp [h2, Fm.Proper]
     · simp [h2, Fm.Proper]
   · simp only [h1, if_false]
     by_cases h2 : 0 < F.fld X
     · simp only [h2, if_true]
       right; right; right; right
       refine ⟨rfl, hb'.2.2 h2, hs, ?_, ?_⟩ <;> simp only <;> omega
     · simp only [h2, if_false]
       by_cases h3 : F.sig X = 0
       · simp [h3, Fm.Proper]
       · simp only [h3, if_false]
         right; right; right; left
         refine ⟨rfl, by simp only; omega, ?_, rfl⟩
         simp only
         have := mt hb'.2.1 h2
         omega

theorem Fm.Ok.upk_word {F : Fm} (h : F.Ok) (n : Bool) (fld sig : Nat) (h2 : fld ≤ F.top) (h3 : sig < 2 * F.lead) (h4 : F.lead ≤ sig ↔ 0 < fld) :
 F.upk (F.word n fld sig) = if fld = F.top then (if sig = F.lead then ⟨4, n, 0, 0⟩ else ⟨5, false, 0, 0⟩)
  else if 0 < fld then ⟨3, n, sig, (fld : Int) - F.emax - F.p + 1⟩ else if sig = 0 then ⟨1, n, 0, 0⟩ else ⟨2, n, sig, F.qmin⟩ := by
 obtain ⟨e1, e2, e3, _⟩ := h.fields n fld sig h2 h3 h4
 have hb : ¬ F.bad (F.word n fld sig) := by
  unfold Fm.bad
  rw [e1, e2, e3]
  have : n.toNat ≤ 1 := by cases n <;> simp
  intro hh
  rcases hh with hh | hh
  · omega
  · exact hh h4
 have hn : decide (n.toNat = 1) = n := by cases n <;> rfl
 unfold Fm.upk
 simp only [hb, if_false, e1, e2, e3, hn]

theorem Fm.Ok.upk_pk {F : Fm} (h : F.Ok) (t : Pt) (hp : F.Proper t) : F.upk (F.pk t) = t ∧ F.pk t < 2 ^ F.wd := by
 have hl := h.leadPos
 have ht := h.top2
 have hh := h.half
 have hq : 0 < 2 ^ (F.p - 2) := Nat.pow_pos (by omega)
 rcases t with ⟨c, n, s, q⟩
 simp only [Fm.Proper] at hp
 rcases hp with ⟨rfl, rfl, rfl⟩ | ⟨rfl, rfl, rfl⟩ | ⟨rfl, rfl, rfl, rfl⟩ | ⟨rfl, h1, h2, rfl⟩ | ⟨rfl, h1, h2, h3, h4⟩
 · have a1 : (0 : Nat) ≤ F.top := by omega
   have a2 : F.lead ≤ 0 ↔ 0 < 0 := by omega
   have e : F.pk ⟨1, n, 0, 0⟩ = F.word n 0 0 := by simp [Fm.pk]
   rw [e, h.upk_word n 0 0 a1 (by omega) a2]
   refine ⟨?_, (h.fields n 0 0 a1 (by omega) a2).2.2.2⟩
   have : ¬ 0 = F.top := by omega
   simp [this]
 · have a2 : F.lead ≤ F.lead ↔ 0 < F.top := by omega
   have e : F.pk ⟨4, n, 0, 0⟩ = F.word n F.top F.lead := by simp [Fm.pk]
   rw [e, h.upk_word n _ _ (by omega) (by omega) a2]
   refine ⟨?_, (h.fields n _ _ (by omega) (by omega) a2).2.2.2⟩
   simp
 · have a2 : F.lead ≤ F.lead + 2 ^ (F.p - 2) ↔ 0 < F.top := by omega
   have e : F.pk ⟨5, false, 0, 0⟩ = F.word false F.top (F.lead + 2 ^ (F.p - 2)) := by simp [Fm.pk]
   rw [e, h.upk_word false _ _ (by omega) (by omega) a2]
   refine ⟨?_, (h.fields false _ _ (by omega) (by omega) a2).2.2.2⟩
   have : ¬ F.lead + 2 ^ (F.p - 2) = F.lead := by omega
   simp only [this, if_true, if_false]
 · have a1 : (0 : Nat) ≤ F.top := by omega
   have a2 : F.lead ≤ s ↔ 0 < 0 := by omega
   have e : F.pk ⟨2, n, s, F.qmin⟩ = F.word n 0 s := by simp [Fm.pk]
   rw [e, h.upk_word n 0 s a1 (by omega) a2]
   refine ⟨?_, (h.fields n 0 s a1 (by omega) a2).2.2.2⟩
   have b1 : ¬ 0 = F.top := by omega
   have b2 : ¬ s = 0 := by omega
   simp [b1, b2]
 · obtain ⟨f, hf⟩ : ∃ f : Nat, (f : Int) = q + F.emax + F.p - 1 := ⟨(q + F.emax + F.p - 1).toNat, by omega⟩
   have e : F.pk ⟨3, n, s, q⟩ = F.word n f s := by
    have : (q + F.emax + F.p - 1).toNat = f := by omega
    simp [Fm.pk, this]
   have a2 : F.lead ≤ s ↔ 0 < f := by omega
   rw [e, h.upk_word n f s (by omega) (by omega) a2]
   refine ⟨?_, (h.fields n f s (by omega) (by omega) a2).2.2.2⟩
   have b1 : ¬ f = F.top := by omega
   have b2 : 0 < f := by omega
   have b3 : (f : Int) - F.emax - F.p + 1 = q := by omega
   simp [b1, b2, b3]

def fm : Nat → Fm
 | 0 => ⟨24, 8, false⟩
 | 1 => ⟨53, 11, false⟩
 | 2 => ⟨64, 15, true⟩
 | _ => ⟨113, 15, false⟩

theorem nD (f : Nat) : (fm f).Ok := by
 match f with
 | 0 => constructor <;> simp [fm, Fm.wd, Fm.fb]
 | 1 => constructor <;> simp [fm, Fm.wd, Fm.fb]
 | 2 => constructor <;> simp [fm, Fm.wd, Fm.fb]
 | n + 3 => constructor <;> simp [fm, Fm.wd, Fm.fb]

def hiN (X : Nat) : Nat := X / 18446744073709551616

def loN (X : Nat) : Nat := X % 18446744073709551616

theorem hl (X : Nat) : X = hiN X * 18446744073709551616 + loN X := by unfold hiN loN; omega

theorem gO (X : Nat) : loN X < 18446744073709551616 := by unfold loN; omega

theorem gS {X : Nat} (h : X < 2 ^ 128) : hiN X < 18446744073709551616 := by unfold hiN; omega

theorem uI {X Y : Nat} (h1 : hiN X = hiN Y) (h2 : loN X = loN Y) : X = Y := by rw [hl X, hl Y, h1, h2]

theorem lW {X : Nat} (h : X < 18446744073709551616) : hiN X = 0 := by unfold hiN; omega

theorem j4 {X : Nat} (h : X < 18446744073709551616) : loN X = X := by unfold loN; omega

theorem AG (X n : Nat) (h : X < 2 ^ 128) (hn : n < 64) :
 hiN (X * 2 ^ n % 2 ^ 128) = (hiN X * 2 ^ n) % 18446744073709551616 + loN X / 2 ^ (64 - n) ∧ loN (X * 2 ^ n % 2 ^ 128) = loN X * 2 ^ n % 18446744073709551616 ∧
 loN X / 2 ^ (64 - n) < 2 ^ n ∧ ∃ k, (hiN X * 2 ^ n) % 18446744073709551616 = k * 2 ^ n := by
 have hp : 0 < 2 ^ n := Nat.pow_pos (by omega)
 have hq : 0 < 2 ^ (64 - n) := Nat.pow_pos (by omega)
 have hB : 2 ^ (64 - n) * 2 ^ n = 18446744073709551616 := by rw [← Nat.pow_add, show 64 - n + n = 64 by omega]
 have hX := hl X
 have h1 := gO X
 have h2 := gS h
 generalize hiN X = a at *
 generalize loN X = b at *
 generalize 2 ^ n = P at *
 generalize 2 ^ (64 - n) = Q at *
 have e1 : b * P / 18446744073709551616 = b / Q := by rw [← hB, Nat.mul_div_mul_right _ _ hp]
 have c3 : b / Q < P := by apply Nat.div_lt_of_lt_mul; rw [hB]; exact h1
 have e2 : X * P = a * P * 18446744073709551616 + b * P := by
  rw [hX, Nat.add_mul, Nat.mul_right_comm]
 have e3 : X * P / 18446744073709551616 = a * P + b / Q := by
  rw [e2, Nat.add_comm, Nat.add_mul_div_right _ _ (by omega), e1, Nat.add_comm]
 have e4 : a * P % 18446744073709551616 = (a % Q) * P := by rw [← hB, Nat.mul_mod_mul_right]
 have c4 : (a % Q) * P + P ≤ 18446744073709551616 := by
  rw [← hB]
  have : a % Q + 1 ≤ Q := Nat.mod_lt _ hq
  have := Nat.mul_le_mul_right P this
  rw [Nat.add_mul] at this
  omega
 refine ⟨?_, ?_, c3, a % Q, e4⟩
 · unfold hiN
   rw [show (2 : Nat) ^ 128 = 18446744073709551616 * 18446744073709551616 from rfl, Nat.mod_mul_right_div_self, e3, Nat.add_mod, e4]
   have h5 : b / Q % 18446744073709551616 = b / Q := Nat.mod_eq_of_lt (by have := Nat.div_le_self b Q; omega)
   rw [h5, Nat.mod_eq_of_lt (by omega)]
 · unfold loN
   rw [show (2 : Nat) ^ 128 = 18446744073709551616 * 18446744073709551616 from rfl, Nat.mod_mul_right_mod, e2, Nat.mul_add_mod_self_right]

theorem zJ (X n : Nat) (h : X < 2 ^ 128) (hn : 64 ≤ n) (hm : n < 128) :
 hiN (X * 2 ^ n % 2 ^ 128) = loN X * 2 ^ (n - 64) % 18446744073709551616 ∧ loN (X * 2 ^ n % 2 ^ 128) = 0 := by
 have hX := hl X
 have hB : 2 ^ n = 2 ^ (n - 64) * 18446744073709551616 := by
  rw [show (18446744073709551616 : Nat) = 2 ^ 64 from rfl, ← Nat.pow_add]; congr 1; omega
 rw [hB]
 generalize hiN X = a at *
 generalize loN X = b at *
 generalize 2 ^ (n - 64) = P at *
 have e : X * (P * 18446744073709551616) % 2 ^ 128 = (b * P % 18446744073709551616) * 18446744073709551616 := by
  rw [← Nat.mul_assoc, show (2 : Nat) ^ 128 = 18446744073709551616 * 18446744073709551616 from rfl, Nat.mul_mod_mul_right, hX, Nat.add_mul, Nat.mul_right_comm, Nat.mul_add_mod_self_right]
 rw [e]
 unfold hiN loN
 omega

theorem AX (X n : Nat) (h : X < 2 ^ 128) (hn : n < 64) :
 hiN (X / 2 ^ n) = hiN X / 2 ^ n ∧ loN (X / 2 ^ n) = loN X / 2 ^ n + hiN X * 2 ^ (64 - n) % 18446744073709551616 ∧
 loN X / 2 ^ n < 2 ^ (64 - n) ∧ ∃ k, hiN X * 2 ^ (64 - n) % 18446744073709551616 = k * 2 ^ (64 - n) := by
 have hp : 0 < 2 ^ n := Nat.pow_pos (by omega)
 have hq : 0 < 2 ^ (64 - n) := Nat.pow_pos (by omega)
 have hB : 2 ^ (64 - n) * 2 ^ n = 18446744073709551616 := by rw [← Nat.pow_add, show 64 - n + n = 64 by omega]
 have hX := hl X
 have h1 := gO X
 have h2 := gS h
 have e0 : hiN (X / 2 ^ n) = hiN X / 2 ^ n := by
  unfold hiN; rw [Nat.div_div_eq_div_mul, Nat.div_div_eq_div_mul, Nat.mul_comm]
 refine ⟨e0, ?_⟩
 unfold loN at h1 ⊢
 generalize hiN X = a at *
 change _ = a * 18446744073709551616 + X % 18446744073709551616 at hX
 generalize X % 18446744073709551616 = b at *
 generalize 2 ^ n = P at *
 generalize 2 ^ (64 - n) = Q at *
 have e1 : X / P = a * Q + b / P := by
  rw [hX, ← hB, ← Nat.mul_assoc, Nat.add_comm, Nat.add_mul_div_right _ _ hp, Nat.add_comm]
 have c3 : b / P < Q := by apply Nat.div_lt_of_lt_mul; rw [Nat.mul_comm, hB]; exact h1
 have e4 : a * Q % 18446744073709551616 = (a % P) * Q := by rw [← hB, Nat.mul_comm Q P, Nat.mul_mod_mul_right]
 have c4 : (a % P) * Q + Q ≤ 18446744073709551616 := by
  rw [← hB, Nat.mul_comm Q P]
  have : a % P + 1 ≤ P := Nat.mod_lt _ hp
  have := Nat.mul_le_mul_right Q this
  rw [Nat.add_mul] at this
  omega
 refine ⟨?_, c3, a % P, e4⟩
 rw [e1, Nat.add_mod, e4]
 have h5 : b / P % 18446744073709551616 = b / P := Nat.mod_eq_of_lt (by have := Nat.div_le_self b P; omega)
 rw [h5, Nat.mod_eq_of_lt (by omega), Nat.add_comm]

theorem AH (X n : Nat) (h : X < 2 ^ 128) (hn : 64 ≤ n) (hm : n < 128) :
 hiN (X / 2 ^ n) = 0 ∧ loN (X / 2 ^ n) = hiN X / 2 ^ (n - 64) := by
 have h2 := gS h
 have hB : 2 ^ n = 18446744073709551616 * 2 ^ (n - 64) := by
  rw [show (18446744073709551616 : Nat) = 2 ^ 64 from rfl, ← Nat.pow_add]; congr 1; omega
 have e : X / 2 ^ n = hiN X / 2 ^ (n - 64) := by unfold hiN; rw [hB, Nat.div_div_eq_div_mul]
 have h3 : hiN X / 2 ^ (n - 64) ≤ hiN X := Nat.div_le_self _ _
 rw [e, lW (by omega), j4 (by omega)]
 exact ⟨rfl, rfl⟩

theorem FR (X Y : Nat) (hX : X < 2 ^ 128) (hY : Y < 2 ^ 128) :
 loN ((X + Y) % 2 ^ 128) = (loN X + loN Y) % 18446744073709551616 ∧
 hiN ((X + Y) % 2 ^ 128) = (hiN X + hiN Y + (if (loN X + loN Y) % 18446744073709551616 < loN Y then 1 else 0)) % 18446744073709551616 := by
 have a := hl X
 have b := hl Y
 have a1 := gO X
 have b1 := gO Y
 have a2 := gS hX
 have b2 := gS hY
 generalize hiN X = xh at *
 generalize loN X = xl at *
 generalize hiN Y = yh at *
 generalize loN Y = yl at *
 unfold hiN loN
 by_cases h : (xl + yl) % 18446744073709551616 < yl
 · simp only [h, if_true]; omega
 · simp only [h, if_false]; omega

theorem DV (X Y : Nat) (hX : X < 2 ^ 128) (hY : Y < 2 ^ 128) :
 loN ((X + (2 ^ 128 - Y)) % 2 ^ 128) = (loN X + 18446744073709551616 - loN Y) % 18446744073709551616 ∧
 hiN ((X + (2 ^ 128 - Y)) % 2 ^ 128) = (hiN X + 36893488147419103232 - hiN Y - (if loN X < loN Y then 1 else 0)) % 18446744073709551616 := by
 have a := hl X
 have b := hl Y
 have a1 := gO X
 have b1 := gO Y
 have a2 := gS hX
 have b2 := gS hY
 generalize hiN X = xh at *
 generalize loN X = xl at *
 generalize hiN Y = yh at *
 generalize loN Y = yl at *
 unfold hiN loN
 by_cases h : xl < yl
 · simp only [h, if_true]; omega
 · simp only [h, if_false]; omega

end Go.Proofs.YtdfljbpcjkbflaaGreatDoor.M
namespace Go.Proofs.YtdfljbpcjkbflaaGreatDoor
open Go.RowKit
set_option linter.unusedVariables false
set_option maxRecDepth 100000
theorem Tryz.infoU : (Tryz.prog.info? 23).map (fun i => (i.zero, i.size, i.bytes)) = some (some (.int .u64 0), 1, 8) := by kernel_rfl

def U (xs : List Nat) : List Value := xs.map fun x : Nat => Value.int .u64 (x : Int)

theorem cT (xs : List Nat) : (U xs).length = xs.length := by simp [U]

theorem cI (xs ys : List Nat) : U (xs ++ ys) = U xs ++ U ys := by simp [U]

theorem x7 (xs : List Nat) (i : Nat) (h : i < xs.length) : (U xs)[i]? = some (.int .u64 ((xs.getD i 0 : Nat) : Int)) := by
 simp [U, List.getD_eq_getElem?_getD, List.getElem?_eq_getElem h]

theorem gN (xs : List Nat) : ∀ u ∈ U xs, u.oneCell' = true := by
 intro u hu; obtain ⟨_, _, rfl⟩ := List.mem_map.1 hu; rfl

def Rd (w : World) (ao : Option Addr) (xs : List Nat) : Prop :=
 0 < xs.length → ∃ b off, ao = some ⟨b, off, none⟩ ∧ ∀ i, i < xs.length → w.cell? ⟨b, off + i, none⟩ = some (.int .u64 ((xs.getD i 0 : Nat) : Int))

theorem Rd.nil (w : World) (ao : Option Addr) : Rd w ao [] := fun h => by simp at h

theorem Rd.below {w w' : World} {ao : Option Addr} {xs : List Nat} (h : Rd w ao xs) (hb : Below w.heap.size w w') : Rd w' ao xs := by
 intro hp
 obtain ⟨b, off, e, hc⟩ := h hp
 refine ⟨b, off, e, fun i hi => ?_⟩
 exact (hb.cell (p := ⟨b, off + i, none⟩) (World.block_lt_of_cell? w _ (hc i hi))).trans (hc i hi)

theorem Rd.take {w : World} {ao : Option Addr} {xs : List Nat} (h : Rd w ao xs) (n : Nat) : Rd w ao (xs.take n) := by
 intro hp
 have hl : (xs.take n).length ≤ xs.length := by simp; omega
 obtain ⟨b, off, e, hc⟩ := h (by omega)
 refine ⟨b, off, e, fun i hi => ?_⟩
 rw [hc i (by omega)]
 have : i < n := by simp at hi; omega
 simp [List.getD_eq_getElem?_getD, this]

theorem Rd.own {w : World} {base n cap : Nat} {ao : Option Addr} {xs : List Nat} (h : w.ownsRow base 23 1 (.slice ao n cap) n (U xs)) : Rd w ao xs := by
 intro hp
 have hl := h.1
 rw [cT] at hl
 rcases h.2 with ⟨he, h0⟩ | ⟨g, cap', cur, he, _, hg, _, _, _, ht⟩
 · omega
 · simp only [Value.slice.injEq] at he
   obtain ⟨rfl, _, rfl⟩ := he
   refine ⟨g, 0, rfl, fun i hi => ?_⟩
   have := h.cellAt i (by omega)
   rw [Nat.zero_add, this, x7 xs i hi]

theorem dC {w : World} {base n cap : Nat} {ao : Option Addr} {xs : List Value} (h : w.ownsRow base 23 1 (.slice ao n cap) n xs) : n ≤ cap := by
 rcases h.2 with ⟨he, h0⟩ | ⟨g, cap', cur, he, _, hg, hc, _⟩
 · simp at he; omega
 · simp only [Value.slice.injEq] at he
   obtain ⟨_, _, rfl⟩ := he
   exact hc

theorem dM {w : World} {base n : Nat} {v : Value} {xs : List Value} (h : w.ownsRow base 23 1 v n xs) : ∃ ao cap, v = .slice ao n cap := by
 rcases h.2 with ⟨rfl, rfl⟩ | ⟨g, cap', cur, rfl, _⟩
 · exact ⟨none, 0, rfl⟩
 · exact ⟨_, _, rfl⟩

theorem aO {w : World} {base base' n : Nat} {v : Value} {xs : List Value} (h : w.ownsRow base 23 1 v n xs) (hb : base' ≤ base) : w.ownsRow base' 23 1 v n xs := by
 refine ⟨h.1, ?_⟩
 rcases h.2 with h' | ⟨g, cap', cur, e, hg, r⟩
 · exact .inl h'
 · exact .inr ⟨g, cap', cur, e, by omega, r⟩

theorem fM {w w' : World} {base n : Nat} {v : Value} {xs : List Value} (h : w.ownsRow base 23 1 v n xs) (hb : Below w.heap.size w w') : w'.ownsRow base 23 1 v n xs := by
 refine ⟨h.1, ?_⟩
 rcases h.2 with h' | ⟨g, cap', cur, e, hg, hh, r⟩
 · exact .inl h'
 · exact .inr ⟨g, cap', cur, e, hg, by rw [hb.block g (Array.getElem?_eq_some_iff.1 hh).1]; exact hh, r⟩

theorem pW {w : World} {base g n : Nat} {xs : List Value} (h : w.ownsRow base 23 1 (.slice (some ⟨g, 0, none⟩) n n) n xs) : w.heap[g]? = some (.cells xs.toArray 23 (0, 0)) := by
 rcases h.2 with ⟨he, h0⟩ | ⟨g', cap', cur, he, _, hg, _, _, hs, ht⟩
 · simp at he
 · simp only [Value.slice.injEq, Option.some.injEq, Addr.mk.injEq] at he
   obtain ⟨⟨rfl, _⟩, _, rfl⟩ := he
   rw [hg, ← ht, List.take_of_length_le (by rw [Array.length_toList]; omega)]

theorem gU {w : World} {base g n : Nat} {xs : List Value} (h : w.heap[g]? = some (.cells xs.toArray 23 (0, 0))) (hb : base ≤ g) (hn : xs.length = n) (hm : n ≤ maxLen) : w.ownsRow base 23 1 (.slice (some ⟨g, 0, none⟩) n n) n xs :=
 ⟨by omega, .inr ⟨g, n, xs.toArray, rfl, hb, h, Nat.le_refl _, hm, by simp [hn], by simp [← hn]⟩⟩

theorem vY (k : Nat) : (madeCells #[Value.int .u64 0] k).toList = U (List.replicate k 0) := by
 rw [toList_madeCells_one]; simp [U]

theorem Rd.cellAdd {w : World} {ao : Option Addr} {xs : List Nat} {b off : Nat} (hc : ∀ i, i < xs.length → w.cell? ⟨b, off + i, none⟩ = some (.int .u64 ((xs.getD i 0 : Nat) : Int))) :
 ∀ j v, (U xs)[j]? = some v → w.cell? ((⟨b, off, none⟩ : Addr).add j) = some v := by
 intro j v hv
 have hj : j < xs.length := by have := (List.getElem?_eq_some_iff.1 hv).1; rwa [cT] at this
 rw [Addr.add_lit, hc j hj, ← x7 xs j hj, hv]

theorem lV (dT : TypeId) (hu : Tryz.prog.underlying dT = some (.slice 23)) (w1 : World) (g dn dc : Nat) (zs : List Value) (hg : w1.heap[g]? = some (.cells zs.toArray 23 (0, 0)))
 (ao : Option Addr) (ys : List Nat) (sn sc : Nat) (hy : ys.length = sn) (hr : Rd w1 ao ys) (h1 : sn ≤ dn) (h2 : sn ≤ zs.length) :
 ∃ w2, (Builtin.copy_ #[dT, dT] 3 #[.slice (some ⟨g, 0, none⟩) dn dc, .slice ao sn sc]).run Tryz.prog w1 = .ok (.int .i64 (sn : Int)) w2 ∧
   w2.heap[g]? = some (.cells (U ys ++ zs.drop sn).toArray 23 (0, 0)) ∧ w1.grownBy w2 (some g) := by
 have hs : (Tryz.prog.info? 23).map (·.size) = some 1 := by
  obtain ⟨i0, hi, hz0, hz1, hz2⟩ := info_parts Tryz.infoU
  rw [hi]; simp [hz1]
 by_cases h0 : sn = 0
 · subst h0
   have : ys = [] := List.eq_nil_of_length_eq_zero hy
   subst this
   refine ⟨w1, run_copy_none w1 dT dT 3 23 _ ao dn dc 0 sc hu hs (by simp), ?_, World.grownBy.refl _ _⟩
   simpa [U] using hg
 · obtain ⟨b, off, rfl, hc⟩ := hr (by omega)
   have hl : (U ys).length = sn := by rw [cT, hy]
   have e := run_copy_row (P := Tryz.prog) w1 dT dT 3 23 g 0 dn dc ⟨b, off, none⟩ sn sc zs.toArray 23 (U ys) hu hs hg (by rw [hl]; show sn = min sn dn; omega) (Rd.cellAdd (ao := none) hc) (by simp [hl]; omega) (gN ys)
   rw [hl] at e
   refine ⟨_, e, ?_, ?_⟩
   · rw [setRow_heap w1 g _ _ _ _ hg]; simp
   · exact ⟨rfl, rfl, rfl, by simp, fun k _ hk => setRow_other w1 g k _ (fun e => hk (by simp [e]))⟩

def Blk (w : World) (g : Nat) (zs : List Nat) : Prop := w.heap[g]? = some (.cells (U zs).toArray 23 (0, 0))

theorem Blk.lt {w : World} {g : Nat} {zs : List Nat} (h : Blk w g zs) : g < w.heap.size := (Array.getElem?_eq_some_iff.1 h).1

theorem Blk.cell {w : World} {g : Nat} {zs : List Nat} (h : Blk w g zs) (i : Nat) (hi : i < zs.length) : w.cell? ⟨g, i, none⟩ = some (.int .u64 ((zs.getD i 0 : Nat) : Int)) := by
 rw [cell_of_row w g i _ _ (0, 0) h, List.getElem?_toArray, x7 zs i hi]

theorem Blk.frozen {w : World} {g : Nat} {zs : List Nat} (h : Blk w g zs) (i : Nat) : w.frozen? ⟨g, i, none⟩ = false := frozen_of_row w g i _ _ h

theorem GZ (zs : List Nat) (i x : Nat) : U (zs.set i x) = (U zs).set i (.int .u64 (x : Int)) := by simp [U, List.map_set]

theorem Blk.set {w : World} {g : Nat} {zs : List Nat} (h : Blk w g zs) (i : Nat) (x : Nat) (v : Int) (hv : v = (x : Int)) : Blk (w.setCell ⟨g, i, none⟩ (.int .u64 v)) g (zs.set i x) := by
 subst hv
 unfold Blk
 rw [heap_setCell_same w g i _ _ _ h, GZ]
 simp

theorem Blk.set_other {w : World} {g : Nat} {zs : List Nat} (h : Blk w g zs) (a : Addr) (ha : a.block ≠ g) (v : Value) : Blk (w.setCell a v) g zs := by
 unfold Blk
 rw [Below.heap_setCell _ _ _ _ (fun e => ha e.symm)]; exact h

theorem Blk.below {w w' : World} {B g : Nat} {zs : List Nat} (h : Blk w g zs) (hb : Below B w w') (hg : g < B) : Blk w' g zs := (hb.block g hg).trans h

theorem Blk.keep {w w' : World} {g : Nat} {zs : List Nat} (h : Blk w g zs) (hb : Below w.heap.size w w') : Blk w' g zs := (hb.block g h.lt).trans h

theorem Blk.grown {w w' : World} {g : Nat} {zs : List Nat} {row : Option Nat} (h : Blk w g zs) (hb : w.grownBy w' row) (hr : some g ≠ row) : Blk w' g zs := (hb.block g h.lt hr).trans h

theorem Blk.drewN {w : World} {g : Nat} {zs : List Nat} (h : Blk w g zs) (q : Nat) : Blk (w.drewN q) g zs := by
 unfold Blk; rw [World.heap_drewN]; exact h

theorem Blk.rd {w : World} {g : Nat} {zs : List Nat} (h : Blk w g zs) (off n : Nat) (hn : off + n ≤ zs.length) : Rd w (some ⟨g, off, none⟩) ((zs.drop off).take n) := by
 intro hp
 refine ⟨g, off, rfl, fun i hi => ?_⟩
 have hi' : i < n := by simp at hi; omega
 rw [h.cell (off + i) (by omega)]
 simp [List.getD_eq_getElem?_getD, hi']

theorem Blk.rd0 {w : World} {g : Nat} {zs : List Nat} (h : Blk w g zs) : Rd w (some ⟨g, 0, none⟩) zs := by
 have := h.rd 0 zs.length (by omega)
 simpa using this

theorem Blk.own {w : World} {base g n : Nat} {zs : List Nat} (h : Blk w g zs) (hb : base ≤ g) (hn : zs.length = n) (hm : n ≤ maxLen) : w.ownsRow base 23 1 (.slice (some ⟨g, 0, none⟩) n n) n (U zs) :=
 gU h hb (by rw [cT, hn]) hm

theorem dQ (w : World) (n : Nat) : Blk (w.alloc (.cells (madeCells #[Value.int .u64 0] n) 23)) w.heap.size (List.replicate n 0) := by
 unfold Blk
 rw [heap_alloc_new w _, ← vY]

theorem iG (x y i : Nat) (hx : x < 2 ^ i) : x ||| y * 2 ^ i = x + y * 2 ^ i := by
 rw [Nat.or_comm, ← Nat.shiftLeft_eq, ← Nat.shiftLeft_add_eq_or_of_lt hx, Nat.add_comm]

theorem rW (x y : Nat) (hx : x < 4294967296) (hy : y < 4294967296) : bits BinOp.or IntKind.u64 (x : Int) ((y : Int) * 4294967296) = ((x + y * 4294967296 : Nat) : Int) := by
 have e : (y : Int) * 4294967296 = ((y * 4294967296 : Nat) : Int) := by omega
 have h := iG x y 32 (by omega)
 rw [show (2 : Nat) ^ 32 = 4294967296 from rfl] at h
 rw [e, u64_or_nat x (y * 4294967296) (by omega) (by omega), h]

theorem iZ {w w1 : World} {row : Option Nat} (h : w.grownBy w1 row) (hr : ∀ k, row = some k → w.heap.size ≤ k) : Below w.heap.size w w1 := (Below.refl _ w).grown h (Nat.le_refl _) hr

def L (n : Nat) : List Nat := M.dig 18446744073709551616 n

def V (xs : List Nat) : Nat := M.val 18446744073709551616 xs

def D (n : Nat) : List Nat := M.dig 4294967296 n

def X (xs : List Nat) : Nat := M.val 4294967296 xs

def F64 (xs : List Nat) : Prop := ∀ x ∈ xs, x < 18446744073709551616

def F32 (xs : List Nat) : Prop := ∀ x ∈ xs, x < 4294967296

theorem V_L (n : Nat) : V (L n) = n := M.dY (by omega) n

theorem X_D (n : Nat) : X (D n) = n := M.dY (by omega) n

theorem eN (n : Nat) : F64 (L n) := M.mM (by omega) n

theorem fS (n : Nat) : F32 (D n) := M.mM (by omega) n

theorem F64.get {xs : List Nat} (h : F64 xs) (i : Nat) : xs.getD i 0 < 18446744073709551616 := M.bK (by omega) h i

theorem F32.get {xs : List Nat} (h : F32 xs) (i : Nat) : xs.getD i 0 < 4294967296 := M.bK (by omega) h i

theorem hid {p : Prop} (h : p) : Hid p := h

theorem bJ {k : IntKind} {a b : Int} (h : a = b) : Ending.returned (.int k a) = .returned (.int k b) := by rw [h]

theorem cG {W w1 : World} (hb : Below W.heap.size W w1) : (∀ b o, b < W.heap.size → w1.cell? ⟨b, o, none⟩ = W.cell? ⟨b, o, none⟩) ∧ (∀ b o, b < W.heap.size → w1.frozen? ⟨b, o, none⟩ = W.frozen? ⟨b, o, none⟩) :=
 ⟨fun b o h => hb.cell (p := ⟨b, o, none⟩) h, fun b o h => hb.frozen (p := ⟨b, o, none⟩) h⟩

def fmtC : Array Value := #[.int .i64 24, .int .i64 (-126), .int .i64 127, .int .i64 32, .int .i64 8, .bool false,
 .int .i64 53, .int .i64 (-1022), .int .i64 1023, .int .i64 64, .int .i64 11, .bool false,
 .int .i64 64, .int .i64 (-16382), .int .i64 16383, .int .i64 80, .int .i64 15, .bool true,
 .int .i64 113, .int .i64 (-16382), .int .i64 16383, .int .i64 128, .int .i64 15, .bool false]

def Fmt (w : World) : Prop := 0 < w.heap.size ∧ ∀ j, j < 24 → w.cell? ⟨0, j, none⟩ = fmtC[j]?

theorem Fmt.below {w w' : World} (h : Fmt w) (hb : Below w.heap.size w w') : Fmt w' :=
 ⟨Nat.lt_of_lt_of_le h.1 hb.size, fun j hj => (hb.cell (p := ⟨0, j, none⟩) h.1).trans (h.2 j hj)⟩

theorem BE (w : World) (h : Fmt w) : Calls Tryz.prog 18 #[.int .i64 0] w fun e w' => e = .returned (.agg #[.int .i64 24, .int .i64 (-126), .int .i64 127, .int .i64 32, .int .i64 8, .bool false]) ∧ Below w.heap.size w w' := by
 have h1 := h.1
 have c0 := h.2 0 (by omega)
 have c1 := h.2 1 (by omega)
 have c2 := h.2 2 (by omega)
 have c3 := h.2 3 (by omega)
 have c4 := h.2 4 (by omega)
 have c5 := h.2 5 (by omega)
 simp [fmtC] at c0 c1 c2 c3 c4 c5
 clear h
 go_enter Tryz.func18, Tryz.ntmps18
 go_wp2_with fail
 exact bodyPost_ret (v := .agg #[.int .i64 24, .int .i64 (-126), .int .i64 127, .int .i64 32, .int .i64 8, .bool false]) (by simp [results, Tryz.results18, go_sem]) rfl ⟨rfl, (Below.refl _ _).alloc (Nat.le_refl _) _⟩

theorem xJ (w : World) : Calls Tryz.prog 19 #[.int .i64 0] w fun e w' => e = .returned (.agg #[.int .i64 24, .int .i64 (-126), .int .i64 127, .int .i64 32, .int .i64 8, .bool false]) ∧ Below w.heap.size w w' := by
 go_enter Tryz.func19, Tryz.ntmps19
 go_wp2_with fail
 exact bodyPost_ret (v := .agg #[.int .i64 24, .int .i64 (-126), .int .i64 127, .int .i64 32, .int .i64 8, .bool false]) (by simp [results, Tryz.results19, go_sem]) rfl ⟨rfl, (Below.refl _ _).alloc (Nat.le_refl _) _⟩

theorem zV (w : World) (h : Fmt w) : Calls Tryz.prog 18 #[.int .i64 1] w fun e w' => e = .returned (.agg #[.int .i64 53, .int .i64 (-1022), .int .i64 1023, .int .i64 64, .int .i64 11, .bool false]) ∧ Below w.heap.size w w' := by
 have h1 := h.1
 have c0 := h.2 6 (by omega)
 have c1 := h.2 7 (by omega)
 have c2 := h.2 8 (by omega)
 have c3 := h.2 9 (by omega)
 have c4 := h.2 10 (by omega)
 have c5 := h.2 11 (by omega)
 simp [fmtC] at c0 c1 c2 c3 c4 c5
 clear h
 go_enter Tryz.func18, Tryz.ntmps18
 go_wp2_with fail
 exact bodyPost_ret (v := .agg #[.int .i64 53, .int .i64 (-1022), .int .i64 1023, .int .i64 64, .int .i64 11, .bool false]) (by simp [results, Tryz.results18, go_sem]) rfl ⟨rfl, (Below.refl _ _).alloc (Nat.le_refl _) _⟩

theorem xM (w : World) : Calls Tryz.prog 19 #[.int .i64 1] w fun e w' => e = .returned (.agg #[.int .i64 53, .int .i64 (-1022), .int .i64 1023, .int .i64 64, .int .i64 11, .bool false]) ∧ Below w.heap.size w w' := by
 go_enter Tryz.func19, Tryz.ntmps19
 go_wp2_with fail
 exact bodyPost_ret (v := .agg #[.int .i64 53, .int .i64 (-1022), .int .i64 1023, .int .i64 64, .int .i64 11, .bool false]) (by simp [results, Tryz.results19, go_sem]) rfl ⟨rfl, (Below.refl _ _).alloc (Nat.le_refl _) _⟩

theorem AE (w : World) (h : Fmt w) : Calls Tryz.prog 18 #[.int .i64 2] w fun e w' => e = .returned (.agg #[.int .i64 64, .int .i64 (-16382), .int .i64 16383, .int .i64 80, .int .i64 15, .bool true]) ∧ Below w.heap.size w w' := by
 have h1 := h.1
 have c0 := h.2 12 (by omega)
 have c1 := h.2 13 (by omega)
 have c2 := h.2 14 (by omega)
 have c3 := h.2 15 (by omega)
 have c4 := h.2 16 (by omega)
 have c5 := h.2 17 (by omega)
 simp [fmtC] at c0 c1 c2 c3 c4 c5
 clear h
 go_enter Tryz.func18, Tryz.ntmps18
 go_wp2_with fail
 exact bodyPost_ret (v := .agg #[.int .i64 64, .int .i64 (-16382), .int .i64 16383, .int .i64 80, .int .i64 15, .bool true]) (by simp [results, Tryz.results18, go_sem]) rfl ⟨rfl, (Below.refl _ _).alloc (Nat.le_refl _) _⟩

theorem wC (w : World) : Calls Tryz.prog 19 #[.int .i64 2] w fun e w' => e = .returned (.agg #[.int .i64 64, .int .i64 (-16382), .int .i64 16383, .int .i64 80, .int .i64 15, .bool true]) ∧ Below w.heap.size w w' := by
 go_enter Tryz.func19, Tryz.ntmps19
 go_wp2_with fail
 exact bodyPost_ret (v := .agg #[.int .i64 64, .int .i64 (-16382), .int .i64 16383, .int .i64 80, .int .i64 15, .bool true]) (by simp [results, Tryz.results19, go_sem]) rfl ⟨rfl, (Below.refl _ _).alloc (Nat.le_refl _) _⟩

theorem AV (w : World) (h : Fmt w) : Calls Tryz.prog 18 #[.int .i64 3] w fun e w' => e = .returned (.agg #[.int .i64 113, .int .i64 (-16382), .int .i64 16383, .int .i64 128, .int .i64 15, .bool false]) ∧ Below w.heap.size w w' := by
 have h1 := h.1
 have c0 := h.2 18 (by omega)
 have c1 := h.2 19 (by omega)
 have c2 := h.2 20 (by omega)
 have c3 := h.2 21 (by omega)
 have c4 := h.2 22 (by omega)
 have c5 := h.2 23 (by omega)
 simp [fmtC] at c0 c1 c2 c3 c4 c5
 clear h
 go_enter Tryz.func18, Tryz.ntmps18
 go_wp2_with fail
 exact bodyPost_ret (v := .agg #[.int .i64 113, .int .i64 (-16382), .int .i64 16383, .int .i64 128, .int .i64 15, .bool false]) (by simp [results, Tryz.results18, go_sem]) rfl ⟨rfl, (Below.refl _ _).alloc (Nat.le_refl _) _⟩

theorem wA (w : World) : Calls Tryz.prog 19 #[.int .i64 3] w fun e w' => e = .returned (.agg #[.int .i64 113, .int .i64 (-16382), .int .i64 16383, .int .i64 128, .int .i64 15, .bool false]) ∧ Below w.heap.size w w' := by
 go_enter Tryz.func19, Tryz.ntmps19
 go_wp2_with fail
 exact bodyPost_ret (v := .agg #[.int .i64 113, .int .i64 (-16382), .int .i64 16383, .int .i64 128, .int .i64 15, .bool false]) (by simp [results, Tryz.results19, go_sem]) rfl ⟨rfl, (Below.refl _ _).alloc (Nat.le_refl _) _⟩

theorem wF (f : Int) (w : World) (h : f < 0 ∨ 4 ≤ f) : Calls Tryz.prog 18 #[.int .i64 f] w fun e w' => e = .returned (.agg #[.int .i64 0, .int .i64 0, .int .i64 0, .int .i64 0, .int .i64 0, .bool false]) ∧ Below w.heap.size w w' := by
 by_cases h1 : f < 0
 · go_enter Tryz.func18, Tryz.ntmps18
   go_wp2_with fail
   exact bodyPost_ret (v := .agg #[.int .i64 0, .int .i64 0, .int .i64 0, .int .i64 0, .int .i64 0, .bool false]) (by simp [results, Tryz.results18, go_sem]) rfl ⟨rfl, (Below.refl _ _).alloc (Nat.le_refl _) _⟩
 · have h2 : 4 ≤ f := by omega
   clear h
   go_enter Tryz.func18, Tryz.ntmps18
   go_wp2_with fail
   exact bodyPost_ret (v := .agg #[.int .i64 0, .int .i64 0, .int .i64 0, .int .i64 0, .int .i64 0, .bool false]) (by simp [results, Tryz.results18, go_sem]) rfl ⟨rfl, (Below.refl _ _).alloc (Nat.le_refl _) _⟩

theorem nA (f : Int) (w : World) (h : f < 0 ∨ 4 ≤ f) : Calls Tryz.prog 19 #[.int .i64 f] w fun e w' => e = .returned (.agg #[.int .i64 0, .int .i64 0, .int .i64 0, .int .i64 0, .int .i64 0, .bool false]) ∧ Below w.heap.size w w' := by
 have h0 : (f == 0) = false := by simp; omega
 have h1 : (f == 1) = false := by simp; omega
 have h2 : (f == 2) = false := by simp; omega
 have h3 : (f == 3) = false := by simp; omega
 clear h
 go_enter Tryz.func19, Tryz.ntmps19
 go_wp2_with fail
 exact bodyPost_ret (v := .agg #[.int .i64 0, .int .i64 0, .int .i64 0, .int .i64 0, .int .i64 0, .bool false]) (by simp [results, Tryz.results19, go_sem]) rfl ⟨rfl, (Below.refl _ _).alloc (Nat.le_refl _) _⟩

def dv (F : M.Fm) : Value := .agg #[.int .i64 (F.p : Int), .int .i64 (1 - (F.emax : Int)), .int .i64 (F.emax : Int), .int .i64 (F.wd : Int), .int .i64 (F.e : Int), .bool F.x]

theorem gB (f : Nat) (hf : f < 4) (w : World) (h : Fmt w) : Calls Tryz.prog 18 #[.int .i64 (f : Int)] w fun e w' => e = .returned (dv (M.fm f)) ∧ Below w.heap.size w w' := by
 match f, hf with
 | 0, _ => exact BE w h
 | 1, _ => exact zV w h
 | 2, _ => exact AE w h
 | 3, _ => exact AV w h

theorem dZ (f : Nat) (hf : f < 4) (w : World) : Calls Tryz.prog 19 #[.int .i64 (f : Int)] w fun e w' => e = .returned (dv (M.fm f)) ∧ Below w.heap.size w w' := by
 match f, hf with
 | 0, _ => exact xJ w
 | 1, _ => exact xM w
 | 2, _ => exact wC w
 | 3, _ => exact wA w

end Go.Proofs.YtdfljbpcjkbflaaGreatDoor
