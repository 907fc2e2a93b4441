/-
  Plain mathematics of a long division's place: the estimate by two limbs of the divisor, and the digit.
-/
import Derived.Test.YtehplfmnipadmacDivM
namespace Go.Proofs.Ytehplfmnipadmac.M
set_option linter.unusedVariables false
set_option maxRecDepth 100000

/-- What holds of a guess g with what is left, l: B is a limb, t and s the divisor's two highest limbs, W the two highest limbs of the window, x the third. -/
structure Es (B t s W x g l : Nat) : Prop where
  sum : g * t + l = W
  lt : g < B
  ge : ∀ q, q < B → q * (t * B + s) ≤ W * B + x → q ≤ g
  small : l < 2 * B

theorem es_mul {B t s W x g l : Nat} (h : g * t + l = W) : g * (t * B + s) + l * B = W * B + g * s := by
  rw [← h, Nat.mul_add, Nat.add_mul, Nat.mul_assoc]; omega

theorem Es.start {B t s W x g l : Nat} (h : g * t + l = W) (hg : g < B) (hl : l < 2 * B) (hx : x < B) (hge : ∀ q, q < B → q * t ≤ W → q ≤ g) : Es B t s W x g l := by
  refine ⟨h, hg, fun q hq h1 => hge q hq ?_, hl⟩
  have h2 : q * t * B ≤ q * (t * B + s) := by rw [Nat.mul_add, Nat.mul_assoc]; omega
  have h3 : q * t * B < (W + 1) * B := by rw [Nat.add_mul]; omega
  have := Nat.lt_of_mul_lt_mul_right h3
  omega

theorem Es.stop {B t s W x g l : Nat} (h : Es B t s W x g l) (hs : g * s ≤ l * B + x) : g * (t * B + s) ≤ W * B + x := by
  have := es_mul (B := B) (s := s) (x := x) h.sum
  omega

theorem Es.wide {B t s W x g l : Nat} (h : Es B t s W x g l) (hs : s < B) (hl : B ≤ l) : g * (t * B + s) ≤ W * B + x := by
  refine h.stop ?_
  have h1 : g * s ≤ B * B := Nat.mul_le_mul (Nat.le_of_lt h.lt) (Nat.le_of_lt hs)
  have h2 : B * B ≤ l * B := Nat.mul_le_mul_right _ hl
  omega

theorem Es.down {B t s W x g l : Nat} (h : Es B t s W x g l) (ht : t < B) (hl : l < B) (hs : l * B + x < g * s) : 1 ≤ g ∧ Es B t s W x (g - 1) (l + t) := by
  have e := es_mul (B := B) (s := s) (x := x) h.sum
  have hg1 : 1 ≤ g := by
    rcases Nat.eq_zero_or_pos g with rfl | h0
    · simp at hs
    · exact h0
  refine ⟨hg1, ?_, by have := h.lt; omega, fun q hq h1 => ?_, by omega⟩
  · have := h.sum
    obtain ⟨m, rfl⟩ : ∃ m, g = m + 1 := ⟨g - 1, by omega⟩
    rw [Nat.add_sub_cancel]
    rw [Nat.add_mul, Nat.one_mul] at this
    omega
  · have h2 := h.ge q hq h1
    rcases Nat.lt_or_ge q g with h3 | h3
    · omega
    · have : q = g := by omega
      subst this
      omega

/-- The digit lies at the guess or one below. -/
theorem guess_ge {P D2 d0 W3 w0 q : Nat} (hw : w0 < P) (h : q * (D2 * P + d0) ≤ W3 * P + w0) : q * D2 ≤ W3 := by
  have h2 : q * D2 * P ≤ q * (D2 * P + d0) := by rw [Nat.mul_add, Nat.mul_assoc]; omega
  have h3 : q * D2 * P < (W3 + 1) * P := by rw [Nat.add_mul]; omega
  have := Nat.lt_of_mul_lt_mul_right h3
  omega

theorem guess_le {P D2 d0 W3 w0 m : Nat} (hd : d0 < P) (hm : m ≤ D2) (h : (m + 1) * D2 ≤ W3) : m * (D2 * P + d0) ≤ W3 * P + w0 := by
  have h1 : m * (D2 * P + d0) ≤ m * (D2 * P + P) := Nat.mul_le_mul_left _ (by omega)
  have h2 : m * (D2 * P + P) = (m * D2 + m) * P := by rw [Nat.mul_add, ← Nat.mul_assoc, Nat.add_mul]
  have h3 : (m * D2 + m) * P ≤ W3 * P := Nat.mul_le_mul_right _ (by rw [Nat.add_mul] at h; omega)
  omega

/-- The digit of a place, where the guess fits: S is what the lower limbs held, S1 what they hold. -/
theorem place_fits {S S1 c z Bn g D W q : Nat} (hW : W = S + Bn * z) (hs : S1 + g * D = S + c * Bn) (hfit : c ≤ z) (hlt : ∀ q, q * D ≤ W → q ≤ g) (hD : 0 < D) :
    S1 + Bn * (z - c) + g * D = W ∧ S1 + Bn * (z - c) < D := by
  obtain ⟨e, rfl⟩ : ∃ e, z = c + e := ⟨z - c, by omega⟩
  rw [Nat.add_sub_cancel_left]
  rw [Nat.mul_add, Nat.mul_comm Bn c] at hW
  have e1 : S1 + Bn * e + g * D = W := by omega
  refine ⟨e1, ?_⟩
  rcases Nat.lt_or_ge (S1 + Bn * e) D with h | h
  · exact h
  · have := hlt (g + 1) (by rw [Nat.add_mul]; omega)
    omega

/-- The same where it does not: one less, and the divisor added back; S2 is what the window then holds, c2 the carry that is lost. -/
theorem place_back {S S1 c z Bn g D W B S2 c2 : Nat} (hW : W = S + Bn * z) (hs : S1 + g * D = S + c * Bn) (hfit : z < c) (hcB : c ≤ B + z) (hS : S < Bn) (hS1 : S1 < Bn) (hg : (g - 1) * D ≤ W) (hg1 : 1 ≤ g)
    (h2 : S2 + c2 * (Bn * B) = S1 + Bn * (z + B - c) + D) (hS2 : S2 < Bn * B) (hDB : D ≤ Bn) (hD : 0 < D) : S2 + (g - 1) * D = W ∧ S2 < D := by
  obtain ⟨m, rfl⟩ : ∃ m, g = m + 1 := ⟨g - 1, by omega⟩
  rw [Nat.add_sub_cancel] at *
  rw [Nat.add_mul, Nat.one_mul] at hs
  obtain ⟨e, rfl⟩ : ∃ e, B = e + (c - z) := ⟨B - (c - z), by omega⟩
  obtain ⟨f, rfl⟩ : ∃ f, c = z + f := ⟨c - z, by omega⟩
  have e1 : z + (e + (z + f - z)) - (z + f) = e := by omega
  have e3 : z + f - z = f := by omega
  rw [e1, e3] at h2
  rw [e3] at hS2
  rw [Nat.add_mul] at hs
  rw [Nat.mul_add Bn e f] at h2 hS2
  have hf : 1 ≤ f := by omega
  have e4 : Bn * f = f * Bn := Nat.mul_comm _ _
  have e5 : Bn * z = z * Bn := Nat.mul_comm _ _
  rw [e4] at h2 hS2
  rw [e5] at hW
  have hfB : Bn ≤ f * Bn := Nat.le_mul_of_pos_left _ hf
  -- c2 is 1
  have hc2 : c2 = 1 := by
    rcases Nat.eq_zero_or_pos c2 with rfl | h0
    · simp only [Nat.zero_mul, Nat.add_zero] at h2
      omega
    · rcases Nat.lt_or_ge c2 2 with h | h
      · omega
      · have h6 : 2 * (Bn * e + f * Bn) ≤ c2 * (Bn * e + f * Bn) := Nat.mul_le_mul_right _ h
        omega
  subst hc2
  rw [Nat.one_mul] at h2
  constructor <;> omega

end Go.Proofs.Ytehplfmnipadmac.M
