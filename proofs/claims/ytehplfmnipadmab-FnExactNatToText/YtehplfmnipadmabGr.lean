/-
  The digits in groups of 19: the iterator.
-/
import Derived.Test.YtehplfmnipadmabItr
import Derived.Test.YtehplfmnipadmabDiv4
import Derived.Test.YtehplfmnipadmabTtM
import Derived.Test.YtehplfmnipadmabW8b
namespace Go.Proofs.Ytehplfmnipadmab
open Go.RowKit Go.Shelf
attribute [local go_sem] Oper.semAt_some
set_option linter.unusedVariables false

/-- What is left when k groups have been handed out; the k-th group. -/
def gq (v k : Nat) : Nat := v / 10 ^ (19 * k)
def gd (v k : Nat) : Nat := gq v k % 10000000000000000000

theorem gq_zero (v : Nat) : gq v 0 = v := by simp [gq]
theorem gq_succ (v k : Nat) : gq v (k + 1) = gq v k / 10000000000000000000 := by
  unfold gq
  rw [Nat.div_div_eq_div_mul, Nat.mul_add, Nat.pow_add]
theorem gd_lt (v k : Nat) : gd v k < 10000000000000000000 := Nat.mod_lt _ (by omega)

theorem gq_bound (v k N : Nat) (hN : (L v).length ≤ N) (h : 0 < gq v k) : k ≤ 2 * N := by
  have h1 := L_lt v N hN
  have h2 : 10 ^ (19 * k) ≤ v := by
    unfold gq at h
    rcases Nat.lt_or_ge v (10 ^ (19 * k)) with e | e
    · rw [Nat.div_eq_of_lt e] at h; omega
    · exact e
  have h3 : (2 : Nat) ^ (57 * k) ≤ 10 ^ (19 * k) := by
    rw [Nat.pow_mul, Nat.pow_mul]; exact Nat.pow_le_pow_left (by decide) _
  have h4 : (18446744073709551616 : Nat) ^ N = 2 ^ (64 * N) := by rw [Nat.pow_mul]
  rw [h4] at h1
  have h5 : (2 : Nat) ^ (57 * k) < 2 ^ (64 * N) := by omega
  have h6 := (Nat.pow_lt_pow_iff_right (a := 2) (by omega)).1 h5
  omega

theorem gd_digit (v k t : Nat) (ht : t < 19) : gd v k / 10 ^ t % 10 = v / 10 ^ (19 * k + t) % 10 := by
  have e : (10000000000000000000 : Nat) = 10 ^ t * 10 ^ (19 - t) := by rw [← Nat.pow_add, show t + (19 - t) = 19 by omega]
  unfold gd
  rw [e, Nat.mod_mul_right_div_self, Nat.mod_mod_of_dvd _ (Nat.dvd_of_pow_dvd (by omega) (Nat.dvd_refl _)), gq, Nat.div_div_eq_div_mul, ← Nat.pow_add]

theorem L_zero (v : Nat) : (L v).length = 0 ↔ v = 0 := by
  constructor
  · intro h
    have := L_lt v 0 (by omega)
    omega
  · rintro rfl
    have := M.len_of_lt (B := 18446744073709551616) (by omega) 0 0 (by omega)
    have e : (L 0).length ≤ 0 := this
    omega

theorem U_inj : ∀ {xs ys : List Nat}, U xs = U ys → xs = ys
  | [], [], _ => rfl
  | [], _ :: _, h => by simp [U] at h
  | _ :: _, [], h => by simp [U] at h
  | x :: xs, y :: ys, h => by
    have h' : (Value.int .u64 (x : Int)) :: U xs = (Value.int .u64 (y : Int)) :: U ys := h
    injection h' with h1 h2
    injection h1 with _ h3
    rw [U_inj h2, show x = y by omega]

theorem Blk.inj {w : World} {g : Nat} {xs ys : List Nat} (h : Blk w g xs) (k : Blk w g ys) : xs = ys := by
  have := h.symm.trans k
  simp only [Option.some.injEq, Obj.cells.injEq, and_true] at this
  exact U_inj (by simpa using this)

/-- The value that a slice of a block reads. -/
noncomputable def bval (B : Nat) (rs : Value) (w : World) : Nat :=
  open Classical in
  match rs with
  | .slice _ n _ => if h : ∃ cur, Blk w B cur then V ((Classical.choose h).take n) else 0
  | _ => 0

theorem bval_eq {B : Nat} {w : World} {cur : List Nat} (h : Blk w B cur) (a : Option Addr) (n c : Nat) : bval B (.slice a n c) w = V (cur.take n) := by
  have hx : ∃ cur, Blk w B cur := ⟨cur, h⟩
  unfold bval
  simp only [dif_pos hx]
  rw [Blk.inj (Classical.choose_spec hx) h]

set_option maxRecDepth 100000 in
set_option maxHeartbeats 2000000 in
theorem groups_gives (n : Nat) (hn : 1 ≤ n) (v : Nat) (ao : Option Addr) (N cap : Nat) (W : World) (hN : (L v).length = N) (hm : N ≤ 1000000) (hr : Rd W ao (L v)) :
    ItGives Fence.wide n Try.prog 57 #[.slice ao N cap] #[] (fun k => #[.int .u64 ((gd v k : Nat) : Int)]) (fun k => 0 < gq v k) (fun k => gq v k = 0) 39 W := by
  intro l J h0 hg hY
  refine callsIn_of_wp Try.func57 rfl trivial ?_ rfl
  simp only [Try.ntmps57, List.size_toArray, List.length_cons, List.length_nil, Nat.reduceAdd, Nat.reduceSub, Array.replicate_succ, Array.replicate_zero, List.push_toArray, List.append_toArray, List.nil_append, List.cons_append]
  gi_wp2
  refine ⟨trivial, (callsIn_wide.2 (clone_any ao N cap 0 (L v) _ hN (by omega) (by omega) hr)).mono ?_⟩
  rintro e W1 ⟨rfl, hB1, hb1⟩
  have hJ1 : J W.heap.size 0 W1 := h0 W1 _ hb1 (Nat.le_refl _)
  rw [List.replicate_zero, List.append_nil] at hB1
  gi_wp2
  gi_loopw [4] (fun rs wr => ∃ (k m : Nat) (cur : List Nat), rs = .slice (some ⟨W.heap.size, 0, none⟩) m N ∧ (L (gq v k)).length = m ∧ Blk wr W.heap.size cur ∧ cur.length = N ∧ F64 cur ∧ V (cur.take m) = gq v k ∧ m ≤ N ∧ J W.heap.size k wr) (fun rs wr => bval W.heap.size rs wr)
  case atStart =>
    exact ⟨0, N, L v, rfl, by rw [gq_zero]; exact hN, hB1, hN, F64_L v, by rw [gq_zero, List.take_of_length_le (by omega), V_L], Nat.le_refl _, hJ1⟩
  case round =>
    obtain ⟨k, m, cur, rfl, hlm, hB, hcl, hcf, hcv, hmN, hJs⟩ := hrel
    by_cases hq : 0 < gq v k
    · have hm0 : 0 < m := by
        rcases Nat.eq_zero_or_pos m with e | e
        · rw [e] at hlm; have := (L_zero _).1 hlm; omega
        · exact e
      have hm0' : (0 : Int) < (m : Int) := by omega
      have kD := fun (v0 : World) (hB0 : Blk v0 W.heap.size cur) => divLimbIn_any W.heap.size m N 10000000000000000000 (some ⟨W.heap.size, 0, none⟩) cur v0 (fun _ => rfl) hB0 hcf (by omega) (by omega) (by omega) (by omega)
      have HB := hid hB; clear hB
      have HLM := hid hlm; clear hlm
      have HCV := hid hcv; clear hcv hB1 hr
      gi_wp2
      refine ⟨trivial, (callsIn_wide.2 (kD _ HB.out)).mono ?_⟩
      obtain ⟨gk, hgk⟩ : ∃ gk, gk = gd v k := ⟨_, rfl⟩
      have hgk2 : gq v k % 10000000000000000000 = gk := by rw [hgk]; rfl
      rw [HCV.out, hgk2]
      have HGK := hid hgk; clear hgk hgk2
      rintro e W2 ⟨rfl, hg2, cur2, hB2, hW2, hv2⟩
      rw [← gq_succ] at hv2
      have hl2 : (cur2.take m).length = m := by rw [List.length_take, hW2.len]; omega
      have hJ2 := hg _ k wr W2 (Nat.le_refl _) hJs hg2
      have hf2 : F64 (cur2.take m) := fun x hx => hW2.lt x (List.mem_of_mem_take hx)
      have kT := trim_any (some ⟨W.heap.size, 0, none⟩) m N (cur2.take m) W2 hl2 (by omega) (by omega) hf2 (by have := hB2.rd 0 m (by rw [hW2.len]; omega); rwa [List.drop_zero] at this)
      gi_wp2
      refine ⟨trivial, (callsIn_wide.2 kT).mono ?_⟩
      rw [hv2]
      rintro e W3 ⟨rfl, rfl⟩
      obtain ⟨m2, hm2⟩ : ∃ m2, m2 = (L (gq v (k + 1))).length := ⟨_, rfl⟩
      rw [← hm2]
      have hm2' : m2 ≤ m := by
        have := L_len (cur2.take m) hf2
        rw [hv2, hl2] at this; omega
      have HM2 := hid hm2; clear hm2
      obtain ⟨fn, tmps, assign, body, hy, hR⟩ := hY _ k W3 (Nat.le_refl _) ⟨_, hB2⟩ hJ2 hq
      simp only [← HGK.out] at hy
      gi_wp2
      refine hR.mono ?_
      rintro e W4 ⟨rfl, hJ4, hk4⟩
      have hB4 : Blk W4 W.heap.size cur2 := hk4.trans hB2
      gi_wp2
      go_roundw
      case rel =>
        refine ⟨k + 1, m2, cur2, rfl, HM2.out.symm, hB4, by rw [hW2.len]; exact hcl, hW2.lt, ?_, by omega, hJ4⟩
        have h1 := L_take (cur2.take m) hf2
        rw [hv2, ← HM2.out, List.take_take, Nat.min_eq_left hm2'] at h1
        rw [h1, V_L]
      case measure =>
        rw [bval_eq hB4, bval_eq HB.out, HCV.out]
        have h1 := L_take (cur2.take m) hf2
        rw [hv2, ← HM2.out, List.take_take, Nat.min_eq_left hm2'] at h1
        rw [h1, V_L, gq_succ]
        omega
    · have hq0 : gq v k = 0 := by omega
      have hm0 : m = 0 := by rw [hq0] at hlm; rw [← hlm]; exact (L_zero 0).2 rfl
      subst hm0
      gi_wp2
      go_end0
      exact ⟨⟨_, rfl⟩, W.heap.size, k, Nat.le_refl _, hq0, hJs⟩

end Go.Proofs.Ytehplfmnipadmab
