/-
  Plain mathematics of decimal digits (as bytes).
-/
import Derived.Test.YtehplfmnipadmabSeg
namespace Go.Proofs.Ytehplfmnipadmab.M
set_option linter.unusedVariables false

/-- The number that decimal digits say, the highest first. -/
def dec (bs : List Nat) : Nat := bs.foldl (fun v c => v * 10 + (c - 48)) 0

theorem dec_nil : dec [] = 0 := rfl
theorem dec_snoc (bs : List Nat) (c : Nat) : dec (bs ++ [c]) = dec bs * 10 + (c - 48) := by simp [dec]

theorem dec_from (bs : List Nat) : ∀ v : Nat, bs.foldl (fun v c => v * 10 + (c - 48)) v = v * 10 ^ bs.length + dec bs := by
  induction bs with
  | nil => intro v; simp [dec]
  | cons c bs ih =>
    intro v
    have e : dec (c :: bs) = (c - 48) * 10 ^ bs.length + dec bs := by
      have h := ih (0 * 10 + (c - 48))
      rw [Nat.zero_mul, Nat.zero_add] at h
      unfold dec at h ⊢
      rw [List.foldl_cons, Nat.zero_mul, Nat.zero_add]
      exact h
    rw [List.foldl_cons, ih, e, List.length_cons, Nat.pow_succ, Nat.add_mul, Nat.mul_assoc, Nat.mul_comm 10]
    omega

theorem dec_cons (c : Nat) (bs : List Nat) : dec (c :: bs) = (c - 48) * 10 ^ bs.length + dec bs := by
  have := dec_from bs (0 * 10 + (c - 48))
  rw [Nat.zero_mul, Nat.zero_add] at this
  unfold dec at this ⊢
  rw [List.foldl_cons, Nat.zero_mul, Nat.zero_add]
  exact this

theorem dec_append (xs ys : List Nat) : dec (xs ++ ys) = dec xs * 10 ^ ys.length + dec ys := by
  have := dec_from ys (dec xs)
  rw [← this]
  unfold dec
  rw [List.foldl_append]

/-- The bytes of a text of decimal digits. -/
def Dig (bs : List Nat) : Prop := ∀ c ∈ bs, 48 ≤ c ∧ c ≤ 57

theorem Dig.get {bs : List Nat} (h : Dig bs) (i : Nat) (hi : i < bs.length) : 48 ≤ bs.getD i 0 ∧ bs.getD i 0 ≤ 57 := by
  rw [List.getD_eq_getElem?_getD, List.getElem?_eq_getElem hi]
  exact h _ (List.getElem_mem hi)

theorem dec_lt (bs : List Nat) (h : Dig bs) : dec bs < 10 ^ bs.length := by
  induction bs with
  | nil => simp [dec]
  | cons c bs ih =>
    have h1 := ih (fun x hx => h x (List.mem_cons_of_mem _ hx))
    have h2 := h c (by simp)
    rw [dec_cons, List.length_cons, Nat.pow_succ]
    have h3 : (c - 48) * 10 ^ bs.length ≤ 9 * 10 ^ bs.length := Nat.mul_le_mul_right _ (by omega)
    omega

theorem dec_seg_succ (bs : List Nat) (i t : Nat) (h : i + t < bs.length) : dec (seg bs i (t + 1)) = dec (seg bs i t) * 10 + (bs.getD (i + t) 0 - 48) := by
  have e : seg bs i (t + 1) = seg bs i t ++ [bs.getD (i + t) 0] := by
    unfold seg
    rw [take_succ _ _ (by simp; omega)]
    congr 2
    simp [List.getD_eq_getElem?_getD]
  rw [e, dec_snoc]

theorem dec_take_add (bs : List Nat) (i t : Nat) (h : i + t ≤ bs.length) : dec (bs.take (i + t)) = dec (bs.take i) * 10 ^ t + dec (seg bs i t) := by
  have e : bs.take (i + t) = bs.take i ++ seg bs i t := by unfold seg; rw [List.take_add]
  rw [e, dec_append, seg_length _ _ _ h]

theorem Dig.seg {bs : List Nat} (h : Dig bs) (i t : Nat) : Dig (seg bs i t) := fun c hc => h c (List.mem_of_mem_drop (List.mem_of_mem_take hc))

end Go.Proofs.Ytehplfmnipadmab.M
