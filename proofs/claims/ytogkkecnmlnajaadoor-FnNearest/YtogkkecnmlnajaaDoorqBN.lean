import Derived.Test.YtogkkecnmlnajaaDoorqBM
namespace Go.Proofs.YtogkkecnmlnajaaDoor.M
set_option linter.unusedVariables false
set_option maxRecDepth 100000
structure Es (B t s W x g l : Nat) : Prop where
 sum : g * t + l = W
 lt : g < B
 ge : ∀ q, q < B → q * (t * B + s) ≤ W * B + x → q ≤ g
 small : l < 2 * B

theorem es_mul {B t s W x g l : Nat} (h : g * t + l = W) : g * (t * B + s) + l * B = W * B + g * s := by
 rw [← h, Nat.mul_add, Nat.add_mul, Nat.mul_assoc]; omega

theorem Es.start {B t s W x g l : Nat} (h : g * t + l = W) (hg : g < B) (hl : l < 2 * B) (hx : x < B) (hge : ∀ q, q < B → q * t ≤ W → q ≤ g) : Es B t s W x g l := by
 refine ⟨h, hg, fun q hq h1 => hge q hq ?_, hl⟩
 have h2 : q * t * B ≤ q * (t * B + s) := by rw [Nat.mul_add, Nat.mul_assoc]; omega
 have h3 : q * t * B < (W + 1) * B := by rw [Nat.add_mul]; omega
 have := Nat.lt_of_mul_lt_mul_right h3
 omega

theorem Es.stop {B t s W x g l : Nat} (h : Es B t s W x g l) (hs : g * s ≤ l * B + x) : g * (t * B + s) ≤ W * B + x := by
 have := es_mul (B := B) (s := s) (x := x) h.sum
 omega

theorem Es.wide {B t s W x g l : Nat} (h : Es B t s W x g l) (hs : s < B) (hl : B ≤ l) : g * (t * B + s) ≤ W * B + x := by
 refine h.stop ?_
 have h1 : g * s ≤ B * B := Nat.mul_le_mul (Nat.le_of_lt h.lt) (Nat.le_of_lt hs)
 have h2 : B * B ≤ l * B := Nat.mul_le_mul_right _ hl
 omega

theorem Es.down {B t s W x g l : Nat} (h : Es B t s W x g l) (ht : t < B) (hl : l < B) (hs : l * B + x < g * s) : 1 ≤ g ∧ Es B t s W x (g - 1) (l + t) := by
 have e := es_mul (B := B) (s := s) (x := x) h.sum
 have hg1 : 1 ≤ g := by
  rcases Nat.eq_zero_or_pos g with rfl | h0
  · simp at hs
  · exact h0
 refine ⟨hg1, ?_, by have := h.lt; omega, fun q hq h1 => ?_, by omega⟩
 · have := h.sum
   obtain ⟨m, rfl⟩ : ∃ m, g = m + 1 := ⟨g - 1, by omega⟩
   rw [Nat.add_sub_cancel]
   rw [Nat.add_mul, Nat.one_mul] at this
   omega
 · have h2 := h.ge q hq h1
   rcases Nat.lt_or_ge q g with h3 | h3
   · omega
   · have : q = g := by omega
     subst this
     omega

theorem guess_ge {P D2 d0 W3 w0 q : Nat} (hw : w0 < P) (h : q * (D2 * P + d0) ≤ W3 * P + w0) : q * D2 ≤ W3 := by
 have h2 : q * D2 * P ≤ q * (D2 * P + d0) := by rw [Nat.mul_add, Nat.mul_assoc]; omega
 have h3 : q * D2 * P < (W3 + 1) * P := by rw [Nat.add_mul]; omega
 have := Nat.lt_of_mul_lt_mul_right h3
 omega

theorem guess_le {P D2 d0 W3 w0 m : Nat} (hd : d0 < P) (hm : m ≤ D2) (h : (m + 1) * D2 ≤ W3) : m * (D2 * P + d0) ≤ W3 * P + w0 := by
 have h1 : m * (D2 * P + d0) ≤ m * (D2 * P + P) := Nat.mul_le_mul_left _ (by omega)
 have h2 : m * (D2 * P + P) = (m * D2 + m) * P := by rw [Nat.mul_add, ← Nat.mul_assoc, Nat.add_mul]
 have h3 : (m * D2 + m) * P ≤ W3 * P := Nat.mul_le_mul_right _ (by rw [Nat.add_mul] at h; omega)
 omega

theorem place_fits {S S1 c z Bn g D W q : Nat} (hW : W = S + Bn * z) (hs : S1 + g * D = S + c * Bn) (hfit : c ≤ z) (hlt : ∀ q, q * D ≤ W → q ≤ g) (hD : 0 < D) :
 S1 + Bn * (z - c) + g * D = W ∧ S1 + Bn * (z - c) < D := by
 obtain ⟨e, rfl⟩ : ∃ e, z = c + e := ⟨z - c, by omega⟩
 rw [Nat.add_sub_cancel_left]
 rw [Nat.mul_add, Nat.mul_comm Bn c] at hW
 have e1 : S1 + Bn * e + g * D = W := by omega
 refine ⟨e1, ?_⟩
 rcases Nat.lt_or_ge (S1 + Bn * e) D with h | h
 · exact h
 · have := hlt (g + 1) (by rw [Nat.add_mul]; omega)
   omega

theorem place_back {S S1 c z Bn g D W B S2 c2 : Nat} (hW : W = S + Bn * z) (hs : S1 + g * D = S + c * Bn) (hfit : z < c) (hcB : c ≤ B + z) (hS : S < Bn) (hS1 : S1 < Bn) (hg : (g - 1) * D ≤ W) (hg1 : 1 ≤ g)
 (h2 : S2 + c2 * (Bn * B) = S1 + Bn * (z + B - c) + D) (hS2 : S2 < Bn * B) (hDB : D ≤ Bn) (hD : 0 < D) : S2 + (g - 1) * D = W ∧ S2 < D := by
 obtain ⟨m, rfl⟩ : ∃ m, g = m + 1 := ⟨g - 1, by omega⟩
 rw [Nat.add_sub_cancel] at *
 rw [Nat.add_mul, Nat.one_mul] at hs
 obtain ⟨e, rfl⟩ : ∃ e, B = e + (c - z) := ⟨B - (c - z), by omega⟩
 obtain ⟨f, rfl⟩ : ∃ f, c = z + f := ⟨c - z, by omega⟩
 have e1 : z + (e + (z + f - z)) - (z + f) = e := by omega
 have e3 : z + f - z = f := by omega
 rw [e1, e3] at h2
 rw [e3] at hS2
 rw [Nat.add_mul] at hs
 rw [Nat.mul_add Bn e f] at h2 hS2
 have hf : 1 ≤ f := by omega
 have e4 : Bn * f = f * Bn := Nat.mul_comm _ _
 have e5 : Bn * z = z * Bn := Nat.mul_comm _ _
 rw [e4] at h2 hS2
 rw [e5] at hW
 have hfB : Bn ≤ f * Bn := Nat.le_mul_of_pos_left _ hf
 have hc2 : c2 = 1 := by
  rcases Nat.eq_zero_or_pos c2 with rfl | h0
  · simp only [Nat.zero_mul, Nat.add_zero] at h2
    omega
  · rcases Nat.lt_or_ge c2 2 with h | h
    · omega
    · have h6 : 2 * (Bn * e + f * Bn) ≤ c2 * (Bn * e + f * Bn) := Nat.mul_le_mul_right _ h
      omega
 subst hc2
 rw [Nat.one_mul] at h2
 constructor <;> omega

theorem val_seg_succ (B : Nat) (xs : List Nat) (off j : Nat) : val B (seg xs off (j + 1)) = val B (seg xs off j) + B ^ j * xs.getD (off + j) 0 := by
 unfold seg
 rw [val_take_succ]
 congr 2
 simp [List.getD_eq_getElem?_getD]

theorem three_limbs (P B S a b c : Nat) : S + P * a + P * B * b + P * B * B * c = ((c * B + b) * B + a) * P + S := by
 have e1 : P * B * b = b * B * P := by rw [Nat.mul_comm (P * B) b, Nat.mul_comm P B, Nat.mul_assoc]
 have e2 : P * B * B * c = c * B * B * P := by rw [Nat.mul_comm (P * B * B) c, Nat.mul_comm P B, Nat.mul_comm (B * P) B, Nat.mul_assoc, Nat.mul_assoc]
 rw [e1, e2, Nat.add_mul, Nat.add_mul, Nat.add_mul, Nat.mul_comm P a]
 omega

theorem two_limbs (P B S a b : Nat) : S + P * a + P * B * b = (b * B + a) * P + S := by
 have e1 : P * B * b = b * B * P := by rw [Nat.mul_comm (P * B) b, Nat.mul_comm P B, Nat.mul_assoc]
 rw [e1, Nat.add_mul, Nat.mul_comm P a]
 omega

theorem win_facts {B : Nat} (hB : 1 < B) (cur ys : List Nat) (p n2 N : Nat) (hc : ∀ x ∈ cur, x < B) (hy : ∀ x ∈ ys, x < B) (hl : cur.length = N) (hyl : ys.length = n2 + 2) (hp : p + (n2 + 2) + 1 ≤ N) (hlt : val B cur < val B ys * B ^ (p + 1)) :
 ∃ S w0 d0 W : Nat, W = val B (seg cur p (n2 + 2 + 1)) ∧ S = val B (seg cur p (n2 + 2)) ∧ W = S + B ^ (n2 + 2) * cur.getD (p + (n2 + 2)) 0 ∧ S < B ^ (n2 + 2) ∧
   W = ((cur.getD (p + (n2 + 2)) 0 * B + cur.getD (p + (n2 + 1)) 0) * B + cur.getD (p + n2) 0) * B ^ n2 + w0 ∧ w0 < B ^ n2 ∧
   val B ys = (ys.getD (n2 + 1) 0 * B + ys.getD n2 0) * B ^ n2 + d0 ∧ d0 < B ^ n2 ∧ W < val B ys * B ∧ cur.getD (p + (n2 + 2)) 0 ≤ ys.getD (n2 + 1) 0 ∧ val B (cur.drop (p + (n2 + 2 + 1))) = 0 := by
 have hPp : 0 < B ^ p := Nat.pow_pos (by omega)
 have hP2 : 0 < B ^ n2 := Nat.pow_pos (by omega)
 have s1 := val_seg_succ B cur p (n2 + 2)
 have s2 := val_seg_succ B cur p (n2 + 1)
 have s3 := val_seg_succ B cur p n2
 have y1 := val_take_succ B ys (n2 + 1)
 have y2 := val_take_succ B ys n2
 rw [List.take_of_length_le (show ys.length ≤ n2 + 1 + 1 by omega)] at y1
 have l0 := val_lt hB (seg cur p n2) (seg_lt hc p n2)
 rw [seg_length cur p n2 (by omega)] at l0
 have l1 := val_lt hB (seg cur p (n2 + 2)) (seg_lt hc p (n2 + 2))
 rw [seg_length cur p (n2 + 2) (by omega)] at l1
 have l2 := val_lt hB (ys.take n2) (fun x hx => hy x (List.mem_of_mem_take hx))
 rw [show (ys.take n2).length = n2 by simp; omega] at l2
 have ld := val_lt hB ys hy
 rw [hyl] at ld
 have hsp := val_split B cur p (n2 + 2 + 1) (by omega)
 have hW : val B (seg cur p (n2 + 2 + 1)) < val B ys * B := by
  have h1 : val B (seg cur p (n2 + 2 + 1)) * B ^ p ≤ val B cur := by
   rw [hsp, Nat.mul_comm _ (B ^ p), Nat.mul_add]; omega
  have h2 : val B (seg cur p (n2 + 2 + 1)) * B ^ p < val B ys * B * B ^ p := by
   have h3 : val B ys * B * B ^ p = val B ys * B ^ (p + 1) := by rw [Nat.mul_assoc, Nat.pow_succ, Nat.mul_comm B]
   rw [h3]; exact Nat.lt_of_le_of_lt h1 hlt
  exact Nat.lt_of_mul_lt_mul_right h2
 have hD : val B ys = (ys.getD (n2 + 1) 0 * B + ys.getD n2 0) * B ^ n2 + val B (ys.take n2) := by
  rw [y1, y2, Nat.pow_succ]; exact two_limbs _ _ _ _ _
 refine ⟨_, _, _, _, rfl, rfl, s1, l1, ?_, l0, hD, l2, hW, ?_, ?_⟩
 · rw [s1, s2, s3, Nat.pow_succ, Nat.pow_succ]; exact three_limbs _ _ _ _ _ _
 · generalize cur.getD (p + (n2 + 2)) 0 = wn at *
   generalize ys.getD (n2 + 1) 0 = top at *
   have hs : ys.getD n2 0 < B := getD_lt hB hy _
   generalize ys.getD n2 0 = sec at *
   have h1 : wn * (B ^ n2 * B * B) < (top + 1) * (B ^ n2 * B * B) := by
    have h2 : val B ys < (top * B + sec + 1) * B ^ n2 := by rw [hD, Nat.add_mul (top * B + sec) 1]; omega
    have h3 : (top * B + sec + 1) * B ^ n2 ≤ (top + 1) * B * B ^ n2 := Nat.mul_le_mul_right _ (by rw [Nat.add_mul top 1]; omega)
    have h4 : val B ys * B < (top + 1) * B * B ^ n2 * B := Nat.mul_lt_mul_of_pos_right (by omega) (by omega)
    have h5 : (top + 1) * B * B ^ n2 * B = (top + 1) * (B ^ n2 * B * B) := by
     rw [Nat.mul_assoc (top + 1) B, Nat.mul_comm B (B ^ n2), Nat.mul_assoc (top + 1)]
    have h6 : wn * (B ^ n2 * B * B) ≤ val B (seg cur p (n2 + 2 + 1)) := by
     rw [s1, Nat.pow_succ, Nat.pow_succ, Nat.mul_comm wn]; omega
    omega
   have := Nat.lt_of_mul_lt_mul_right h1
   omega
 · rcases Nat.eq_zero_or_pos (val B (cur.drop (p + (n2 + 2 + 1)))) with h | h
   · exact h
   · have h1 : B ^ p * (B ^ (n2 + 2 + 1) * 1) ≤ B ^ p * (B ^ (n2 + 2 + 1) * val B (cur.drop (p + (n2 + 2 + 1)))) := Nat.mul_le_mul_left _ (Nat.mul_le_mul_left _ h)
     have h2 : B ^ p * (B ^ (n2 + 2 + 1) * 1) ≤ val B cur := by rw [hsp, Nat.mul_add]; omega
     have h3 : val B ys * B ^ (p + 1) < B ^ (n2 + 2) * B ^ (p + 1) := Nat.mul_lt_mul_of_pos_right ld (Nat.pow_pos (by omega))
     have h4 : B ^ (n2 + 2) * B ^ (p + 1) = B ^ p * (B ^ (n2 + 2 + 1) * 1) := by
      rw [Nat.mul_one, ← Nat.pow_add, ← Nat.pow_add]; congr 1; omega
     omega

theorem win_next {B : Nat} (hB : 1 < B) (cur cur' : List Nat) (p n1 N D Q A W W' q : Nat) (hl : cur.length = N) (hp : p + n1 ≤ N) (hw : Wrote B cur p n1 cur') (hW : W = val B (seg cur p n1)) (hW' : W' = val B (seg cur' p n1)) (h0 : val B (cur.drop (p + n1)) = 0)
 (hq : W' + q * D = W) (hlt : W' < D) (hI : val B cur + D * (B ^ (p + 1) * Q) = A) :
 val B cur' + D * (B ^ p * (q + B * Q)) = A ∧ val B cur' < D * B ^ p := by
 have h1 := val_wrote hw (by omega)
 rw [← hW, ← hW'] at h1
 have hsp := val_split B cur' p n1 (by rw [hw.len]; omega)
 rw [← hW', drop_eq_of cur' cur (p + n1) hw.len (fun j hj => hw.out j (by omega)), h0, Nat.mul_zero, Nat.add_zero] at hsp
 have l0 := val_lt hB (cur'.take p) (fun x hx => hw.lt x (List.mem_of_mem_take hx))
 rw [show (cur'.take p).length = p by simp; rw [hw.len]; omega] at l0
 constructor
 · have e1 : D * (B ^ p * (q + B * Q)) = B ^ p * (q * D) + D * (B ^ (p + 1) * Q) := by
    rw [Nat.mul_add, Nat.mul_add, Nat.pow_succ, Nat.mul_assoc (B ^ p) B Q, Nat.mul_left_comm D, Nat.mul_comm D q]
   have e2 : B ^ p * W = B ^ p * W' + B ^ p * (q * D) := by rw [← hq, Nat.mul_add]
   rw [e1]
   omega
 · have h2 : B ^ p * (W' + 1) ≤ B ^ p * D := Nat.mul_le_mul_left _ hlt
   rw [Nat.mul_add, Nat.mul_one] at h2
   rw [hsp, Nat.mul_comm D]
   omega

end Go.Proofs.YtogkkecnmlnajaaDoor.M
