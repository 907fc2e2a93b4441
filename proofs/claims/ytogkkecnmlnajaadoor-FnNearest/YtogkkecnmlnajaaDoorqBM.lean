import Derived.Test.YtogkkecnmlnajaaDoorqBC
namespace Go.Proofs.YtogkkecnmlnajaaDoor.M
set_option linter.unusedVariables false
set_option maxRecDepth 100000
theorem val_split (B : Nat) (xs : List Nat) (off n : Nat) (h : off + n ≤ xs.length) :
 val B xs = val B (xs.take off) + B ^ off * (val B (seg xs off n) + B ^ n * val B (xs.drop (off + n))) := by
 have e1 : xs.take off ++ xs.drop off = xs := List.take_append_drop off xs
 have e2 : seg xs off n ++ xs.drop (off + n) = xs.drop off := by
  unfold seg; rw [← List.drop_drop]; exact List.take_append_drop n _
 have l1 : (xs.take off).length = off := by simp; omega
 have l2 := seg_length xs off n h
 have h2 : val B (xs.drop off) = val B (seg xs off n) + B ^ n * val B (xs.drop (off + n)) := by
  rw [← e2, val_append, l2]
 rw [← h2]
 have h1 := val_append B (xs.take off) (xs.drop off)
 rw [e1, l1] at h1
 exact h1

theorem take_eq_of (xs ys : List Nat) (k : Nat) (hl : xs.length = ys.length) (h : ∀ j, j < k → xs.getD j 0 = ys.getD j 0) : xs.take k = ys.take k := by
 apply List.ext_getElem (by simp [hl])
 intro j h1 h2
 have := h j (by simp at h1; omega)
 simp at h1 h2
 simpa [List.getD_eq_getElem?_getD, show j < xs.length by omega, show j < ys.length by omega] using this

theorem drop_eq_of (xs ys : List Nat) (k : Nat) (hl : xs.length = ys.length) (h : ∀ j, k ≤ j → xs.getD j 0 = ys.getD j 0) : xs.drop k = ys.drop k := by
 apply List.ext_getElem (by simp [hl])
 intro j h1 h2
 have := h (k + j) (by omega)
 simp at h1 h2
 simpa [List.getD_eq_getElem?_getD, show k + j < xs.length by omega, show k + j < ys.length by omega] using this

theorem val_wrote {B : Nat} {zs cur : List Nat} {off n : Nat} (h : Wrote B zs off n cur) (hl : off + n ≤ zs.length) :
 val B cur + B ^ off * val B (seg zs off n) = val B zs + B ^ off * val B (seg cur off n) := by
 rw [val_split B cur off n (by rw [h.len]; exact hl), val_split B zs off n hl, take_eq_of cur zs off h.len (fun j hj => h.out j (by omega)), drop_eq_of cur zs (off + n) h.len (fun j hj => h.out j (by omega))]
 simp only [Nat.mul_add]
 omega

theorem kn_mul {q r u y1 y0 y C : Nat} (hy : y = y1 * C + y0) (h : q * y1 + r = u) : q * y + C * r = u * C + q * y0 := by
 rw [hy, ← h, Nat.mul_add, Nat.add_mul, Nat.mul_assoc, Nat.mul_comm C r]
 omega

structure Kn (C u d y1 y0 y q r : Nat) : Prop where
 sum : q * y1 + r = u
 ge : (u * C + d) / y ≤ q
 le : q ≤ C + 1

theorem Kn.first {C u d y1 y0 y : Nat} (hC : 0 < C) (hy : y = y1 * C + y0) (hd : d < C) (hu : u < y) (h0 : y0 < C) (hn : C ≤ 2 * y1) : Kn C u d y1 y0 y (u / y1) (u % y1) := by
 have hy1 : 0 < y1 := by omega
 have hyp : 0 < y := by omega
 refine ⟨by rw [Nat.mul_comm]; exact Nat.div_add_mod u y1, ?_, ?_⟩
 · rw [Nat.le_div_iff_mul_le hy1]
   have h1 := Nat.div_mul_le_self (u * C + d) y
   generalize (u * C + d) / y = q at *
   have h2 : q * y1 * C ≤ q * y := by rw [hy, Nat.mul_add, Nat.mul_assoc]; omega
   have h3 : q * y1 * C < (u + 1) * C := by rw [Nat.add_mul]; omega
   have := Nat.lt_of_mul_lt_mul_right h3
   omega
 · have h1 := Nat.div_mul_le_self u y1
   rcases Nat.lt_or_ge (C + 1) (u / y1) with h | h
   · have h2 : (C + 2) * y1 ≤ u / y1 * y1 := Nat.mul_le_mul_right _ h
     rw [Nat.add_mul, Nat.mul_comm C y1] at h2
     omega
   · exact h

theorem Kn.stop {C u d y1 y0 y q r : Nat} (h : Kn C u d y1 y0 y q r) (hy : y = y1 * C + y0) (hyp : 0 < y) (ht : q * y0 ≤ C * r + d) : q = (u * C + d) / y := by
 have e := kn_mul hy h.sum
 refine Nat.le_antisymm ?_ h.ge
 rw [Nat.le_div_iff_mul_le hyp]
 omega

theorem Kn.down {C u d y1 y0 y q r : Nat} (h : Kn C u d y1 y0 y q r) (hy : y = y1 * C + y0) (hyp : 0 < y) (hu : u < y) (hd : d < C) (ht : C ≤ q ∨ C * r + d < q * y0) : 1 ≤ q ∧ Kn C u d y1 y0 y (q - 1) (r + y1) := by
 have e := kn_mul hy h.sum
 have hlt : (u * C + d) / y < q := by
  rcases ht with ht | ht
  · have : (u * C + d) / y < C := by
     rw [Nat.div_lt_iff_lt_mul hyp]
     have h1 : (u + 1) * C ≤ y * C := Nat.mul_le_mul_right _ hu
     rw [Nat.add_mul] at h1
     rw [Nat.mul_comm C y]; omega
    exact Nat.lt_of_lt_of_le this ht
  · rw [Nat.div_lt_iff_lt_mul hyp]; omega
 have hq1 : 1 ≤ q := Nat.lt_of_le_of_lt (Nat.zero_le _) hlt
 refine ⟨hq1, ?_, Nat.le_sub_one_of_lt hlt, by have := h.le; omega⟩
 have := h.sum
 obtain ⟨m, rfl⟩ : ∃ m, q = m + 1 := ⟨q - 1, by omega⟩
 rw [Nat.add_sub_cancel]
 rw [Nat.add_mul, Nat.one_mul] at this
 omega

theorem Kn.wide {C u d y1 y0 y q r : Nat} (h : Kn C u d y1 y0 y q r) (hy : y = y1 * C + y0) (hyp : 0 < y) (h0 : y0 < C) (hq : q ≤ C) (hr : C ≤ r) : q = (u * C + d) / y := by
 refine h.stop hy hyp ?_
 have h1 : q * y0 ≤ C * y0 := Nat.mul_le_mul_right _ hq
 have h2 : C * y0 ≤ C * r := Nat.mul_le_mul_left _ (by omega)
 omega

theorem kn_whole {C u d1 d0 y q1 u2 q0 : Nat} (hyp : 0 < y) (h1 : q1 = (u * C + d1) / y) (h2 : u2 = (u * C + d1) % y) (h0 : q0 = (u2 * C + d0) / y) :
 q1 * C + q0 = (u * (C * C) + (d1 * C + d0)) / y ∧ (u2 * C + d0) % y = (u * (C * C) + (d1 * C + d0)) % y := by
 have e1 := Nat.div_add_mod (u * C + d1) y
 rw [← h1, ← h2] at e1
 have e : u * (C * C) + (d1 * C + d0) = u2 * C + d0 + y * (q1 * C) := by
  have h3 : (y * q1 + u2) * C = (u * C + d1) * C := by rw [e1]
  rw [Nat.add_mul, Nat.add_mul, Nat.mul_assoc, Nat.mul_assoc] at h3
  omega
 constructor
 · rw [e, Nat.add_mul_div_left _ _ hyp, ← h0]; omega
 · rw [e, Nat.add_mul_mod_self_left]

end Go.Proofs.YtogkkecnmlnajaaDoor.M
