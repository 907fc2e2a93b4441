import Derived.Test.YtehplfmnipadmacDiv6
import Derived.Test.YtehplfmnipadmacW17
namespace Go.Proofs.Ytehplfmnipadmac
open Go.RowKit
set_option linter.unusedVariables false
set_option maxRecDepth 100000

theorem norm_div (a b n m s : Nat) (hl : (L a).length = n) (hm : (L b).length = m) (hm2 : 2 ≤ m) (hab : b ≤ a) (hs : s = 64 - blen ((L b).getD (m - 1) 0)) :
    s < 64 ∧ (L (b * 2 ^ s)).length = m ∧ 9223372036854775808 ≤ (L (b * 2 ^ s)).getD (m - 1) 0 ∧ (L (a * 2 ^ s)).length ≤ n + 1 ∧ m ≤ n ∧ a * 2 ^ s < b * 2 ^ s * 18446744073709551616 ^ (n + 1 - m) := by
  have hbp : 0 < b := by
    rcases Nat.eq_zero_or_pos b with rfl | hp
    · rw [show L 0 = [] from M.dig_zero _] at hm; simp at hm; omega
    · exact hp
  have htn : (L b).getD (m - 1) 0 ≠ 0 := by
    have := M.dig_last (B := 18446744073709551616) (by omega) b hbp
    unfold L at hm ⊢
    rwa [hm] at this
  have htb : (L b).getD (m - 1) 0 < 18446744073709551616 := F64.get (F64_L b) _
  obtain ⟨hs64, hn1, hn2⟩ := norm_facts _ s (by omega) htb hs
  have hdig : (L b).getD (m - 1) 0 = b / 18446744073709551616 ^ (m - 1) % 18446744073709551616 := M.dig_get (by omega) _ _
  have hbm := L_lt b m (by omega)
  have hPp : 0 < 18446744073709551616 ^ (m - 1) := Nat.pow_pos (by omega)
  have hpm : 18446744073709551616 ^ m = 18446744073709551616 ^ (m - 1) * 18446744073709551616 := by
    rw [← Nat.pow_succ]; congr 1; omega
  have hbq : b / 18446744073709551616 ^ (m - 1) < 18446744073709551616 := Nat.div_lt_of_lt_mul (by rw [← hpm]; exact hbm)
  rw [Nat.mod_eq_of_lt hbq] at hdig
  generalize (L b).getD (m - 1) 0 = t at *
  have hsp : 0 < 2 ^ s := Nat.pow_pos (by omega)
  have hKP : 2 ^ (64 - s) * 2 ^ s = 18446744073709551616 := M.pow_split s 64 (by omega)
  have ht1 : (t + 1) * 2 ^ s ≤ 18446744073709551616 := by
    have h1 : t < 2 ^ (64 - s) := by
      have : t * 2 ^ s < 2 ^ (64 - s) * 2 ^ s := by rw [hKP]; exact hn1
      exact Nat.lt_of_mul_lt_mul_right this
    have : (t + 1) * 2 ^ s ≤ 2 ^ (64 - s) * 2 ^ s := Nat.mul_le_mul_right _ h1
    omega
  have hb1 : 18446744073709551616 ^ (m - 1) * t ≤ b := by rw [hdig]; exact Nat.mul_div_le _ _
  have hb2 : b < 18446744073709551616 ^ (m - 1) * (t + 1) := by rw [hdig]; exact Nat.lt_mul_div_succ _ hPp
  have hlo : 18446744073709551616 ^ (m - 1) * 9223372036854775808 ≤ b * 2 ^ s := by
    have h1 : 18446744073709551616 ^ (m - 1) * (t * 2 ^ s) ≤ b * 2 ^ s := by rw [← Nat.mul_assoc]; exact Nat.mul_le_mul_right _ hb1
    exact Nat.le_trans (Nat.mul_le_mul_left _ hn2) h1
  have hhi : b * 2 ^ s < 18446744073709551616 ^ (m - 1) * 18446744073709551616 := by
    have h1 : b * 2 ^ s < 18446744073709551616 ^ (m - 1) * (t + 1) * 2 ^ s := Nat.mul_lt_mul_of_pos_right hb2 hsp
    rw [Nat.mul_assoc] at h1
    exact Nat.lt_of_lt_of_le h1 (Nat.mul_le_mul_left _ ht1)
  have hlen : (L (b * 2 ^ s)).length = m := by
    refine Nat.le_antisymm (M.len_of_lt (by omega) _ _ (by rw [hpm]; exact hhi)) ?_
    rcases Nat.lt_or_ge (L (b * 2 ^ s)).length m with h | h
    · have h1 := L_lt (b * 2 ^ s) (m - 1) (by omega)
      have h2 : 18446744073709551616 ^ (m - 1) * 1 ≤ 18446744073709551616 ^ (m - 1) * 9223372036854775808 := Nat.mul_le_mul_left _ (by omega)
      omega
    · exact h
  have hmn : m ≤ n := by
    rcases Nat.lt_or_ge n m with h | h
    · have : a < b := M.lt_of_length (B := 18446744073709551616) (by omega) (by rw [show (M.dig 18446744073709551616 a).length = n from hl, show (M.dig 18446744073709551616 b).length = m from hm]; exact h)
      omega
    · exact h
  have han := L_lt a n (by omega)
  have ha' : a * 2 ^ s < 18446744073709551616 ^ n * 2 ^ s := Nat.mul_lt_mul_of_pos_right han hsp
  have hs63 : 2 ^ s ≤ 2 ^ 63 := Nat.pow_le_pow_right (by omega) (by omega)
  have ha'' : 18446744073709551616 ^ n * 2 ^ s ≤ 18446744073709551616 ^ n * 9223372036854775808 := Nat.mul_le_mul_left _ hs63
  refine ⟨hs64, hlen, ?_, ?_, hmn, ?_⟩
  · have hd : (L (b * 2 ^ s)).getD (m - 1) 0 = b * 2 ^ s / 18446744073709551616 ^ (m - 1) % 18446744073709551616 := M.dig_get (by omega) _ _
    rw [hd, Nat.mod_eq_of_lt (Nat.div_lt_of_lt_mul hhi), Nat.le_div_iff_mul_le hPp, Nat.mul_comm]
    exact hlo
  · refine M.len_of_lt (by omega) _ _ ?_
    rw [Nat.pow_succ]
    have : 18446744073709551616 ^ n * 9223372036854775808 ≤ 18446744073709551616 ^ n * 18446744073709551616 := Nat.mul_le_mul_left _ (by omega)
    omega
  · have h1 : 18446744073709551616 ^ (m - 1) * 9223372036854775808 * 18446744073709551616 ^ (n + 1 - m) ≤ b * 2 ^ s * 18446744073709551616 ^ (n + 1 - m) := Nat.mul_le_mul_right _ hlo
    have h2 : 18446744073709551616 ^ (m - 1) * 9223372036854775808 * 18446744073709551616 ^ (n + 1 - m) = 18446744073709551616 ^ n * 9223372036854775808 := by
      rw [Nat.mul_right_comm, ← Nat.pow_add]; congr 2; omega
    omega

theorem V_pad (xs : List Nat) (k : Nat) : V (xs ++ List.replicate k 0) = V xs := by
  unfold V; rw [M.val_append, M.val_replicate, Nat.mul_zero, Nat.add_zero]

set_option maxHeartbeats 2000000 in
theorem divMod_many (ao bo : Option Addr) (n m c d : Nat) (a b : Nat) (w : World) (hl : (L a).length = n) (hm : (L b).length = m) (hm2 : 2 ≤ m) (hab : b ≤ a) (hn : n ≤ 1048576) (hr : Rd w ao (L a)) (hr2 : Rd w bo (L b)) :
    Calls Try.prog 54 #[.slice ao n c, .slice bo m d] w fun e w' => RetD w w' e (L (a / b)) (L (a % b)) := by
  obtain ⟨i0, hi, hz0, hz1, hz2⟩ := info_parts Try.infoU
  have hmk := fun (wx : World) => run_make (P := Try.prog) wx 104 50 i0 (.int .u64 0) Try.underlying104 hi hz0 .i64 .i64 ((n + 1 : Nat) : Int) ((n + 1 : Nat) : Int) (by omega) (Int.le_refl _) (by rw [hz2]; omega) (by omega)
  have es : ((n + 1 : Nat) : Int) = (n : Int) + 1 := by omega
  rw [es] at hmk
  have et : ((n : Int) + 1).toNat = n + 1 := by omega
  rw [et] at hmk
  clear es et
  have hcmp := cmpI_nonneg hab
  have hne1 : ((m : Int) == 1) = false := by simp; omega
  obtain ⟨t, et⟩ : ∃ t, t = (L b).getD (m - 1) 0 := ⟨_, rfl⟩
  have htb : t < 18446744073709551616 := by rw [et]; exact F64.get (F64_L b) _
  obtain ⟨s, es⟩ : ∃ s, s = 64 - blen t := ⟨_, rfl⟩
  obtain ⟨hs64, hbl', htop, hal', hmn, hlt⟩ := norm_div a b n m s hl hm hm2 hab (by rw [es, et])
  obtain ⟨m1, em1⟩ : ∃ x, x = m - 1 := ⟨_, rfl⟩
  have i1 : (m : Int) - 1 = (m1 : Int) := by omega
  have j1 : (m1 : Int) < (m : Int) := by omega
  rw [← em1] at et
  have hb0 : 0 < b := by
    rcases Nat.eq_zero_or_pos b with rfl | hp
    · rw [show L 0 = [] from M.dig_zero _] at hm; simp at hm; omega
    · exact hp
  have hsp : 0 < 2 ^ s := Nat.pow_pos (by omega)
  have hq : a * 2 ^ s / (b * 2 ^ s) = a / b := Nat.mul_div_mul_right _ _ hsp
  have hrm : a * 2 ^ s % (b * 2 ^ s) = a % b * 2 ^ s := Nat.mul_mod_mul_right _ _ _
  have ET := hid et; have ES := hid es; have EM1 := hid em1; have HTOP := hid htop; have HLT := hid hlt; have HQ := hid hq; have HRM := hid hrm; have HSP := hid hsp
  clear et es em1 htop hlt hq hrm hsp
  obtain ⟨b2, o2, hbo, hcl⟩ := hr2 (by omega)
  have htc0 := hcl m1 (by have := EM1.out; omega)
  rw [← ET.out] at htc0
  subst hbo
  go_enter Try.func54, Try.ntmps54
  go_wp2_with fail
  refine (compare_any ao _ n m c d a b _ hl hm (by omega) (by omega) hr hr2).mono ?_
  rintro e w1 ⟨rfl, q1, hw1⟩
  have hb1 : Below w.heap.size w w1 := by rw [hw1]; exact below_drewN (Below.refl w.heap.size w) q1
  have htc : w1.cell? ⟨b2, o2 + m1, none⟩ = some (.int .u64 (t : Int)) := by rw [hw1]; exact htc0
  clear hw1 htc0 hcl
  go_wp2_with fail
  refine (lz_any t _ htb s ES.out).mono ?_
  rintro e w2 ⟨rfl, rfl⟩
  have hB3 := blk_made w2 (n + 1)
  have hb3 : Below w2.heap.size w2 (w2.alloc (.cells (madeCells #[Value.int .u64 0] (n + 1)) 50)) := (Below.refl _ _).alloc (Nat.le_refl _) _
  have hbw3 := hb1.trans (hb3.mono hb1.size)
  have HB3 := hid hB3; have HBW3 := hid hbw3
  clear hB3 hb3 hbw3
  go_wp2_with fail
  have hB3 := HB3.out; have hbw3 := HBW3.out
  generalize w2.alloc (.cells (madeCells #[Value.int .u64 0] (n + 1)) 50) = w3 at hB3 hbw3 ⊢
  refine (shiftLeft_any ao n c s a _ hl (by omega) (by omega) (hr.below hbw3)).mono ?_
  rintro e w4 ⟨xa, xc, rfl, hox, hb4⟩
  have hB4 := hB3.keep hb4
  have hbw4 := hbw3.trans (hb4.mono hbw3.size)
  obtain ⟨w5, hcp, hg5, hgr5⟩ := copy_pre 104 Try.underlying104 _ w2.heap.size (n + 1) (n + 1) _ hB4 xa (L (a * 2 ^ s)) _ xc rfl (Rd.own hox) hal' (by simp [U]; exact hal')
  have hB5 : Blk w5 w2.heap.size (L (a * 2 ^ s) ++ List.replicate (n + 1 - (L (a * 2 ^ s)).length) 0) := by
    have e : U (L (a * 2 ^ s)) ++ (U (List.replicate (n + 1) 0)).drop (L (a * 2 ^ s)).length = U (L (a * 2 ^ s) ++ List.replicate (n + 1 - (L (a * 2 ^ s)).length) 0) := by simp [U]
    rw [e] at hg5
    exact hg5
  have hbw5 : Below w.heap.size w w5 := hbw4.grown hgr5 hbw4.size (fun k h => by cases h; exact hb1.size)
  have HB5 := hid hB5; have HBW5 := hid hbw5
  clear hB5 hbw5 hg5 hB4 hB3 hbw3 HB3 HBW3 htc
  go_wp2_with fail
  refine (shiftLeft_any _ m d s b _ hm (by omega) (by omega) (hr2.below HBW5.out)).mono ?_
  rintro e w6 ⟨ya, yc, rfl, hoy, hb6⟩
  have hB6 := HB5.out.keep hb6
  have hbw6 := HBW5.out.trans (hb6.mono HBW5.out.size)
  have hg5lt := HB5.out.lt
  obtain ⟨zs, ezs⟩ : ∃ zs, zs = L (a * 2 ^ s) ++ List.replicate (n + 1 - (L (a * 2 ^ s)).length) 0 := ⟨_, rfl⟩
  have hzl : zs.length = n + 1 := by rw [ezs]; simp; omega
  have hzf : F64 zs := by
    rw [ezs]; intro x hx
    rcases List.mem_append.1 hx with hx | hx
    · exact F64_L _ x hx
    · simp at hx; omega
  have hzv : V zs = a * 2 ^ s := by rw [ezs, V_pad, V_L]
  rw [← ezs] at hB6
  clear ezs
  have hsepy : 0 < (L (b * 2 ^ s)).length → ∀ b3 o3, ya = some ⟨b3, o3, none⟩ → b3 ≠ w2.heap.size := by
    intro h0 b3 o3 e
    obtain ⟨g3, e3, hg3⟩ := own_addr hoy h0
    rw [e3] at e
    cases e
    omega
  rw [hbl'] at hoy ⊢
  have HB6 := hid hB6; have HBW6 := hid hbw6
  clear hB6 hbw6 HB5 HBW5 hmk
  go_wp2_with fail
  refine (divIn_any w2.heap.size (n + 1) m (n + 1 - m) ya yc zs (L (b * 2 ^ s)) _ HB6.out hzf hzl (by omega) hbl' hm2 (by omega) (by omega) (F64_L _) (Rd.own hoy) hsepy HTOP.out (by rw [hzv, V_L]; exact HLT.out)).mono ?_
  rw [hzv, V_L]
  rintro e w7 ⟨rfl, hg7, qs, cur, hBq, hql, hqf, hqv, hBc, hcl', hcf, hcv⟩
  rw [HQ.out] at hqv
  rw [HRM.out] at hcv
  have hbw7 : Below w.heap.size w w7 := HBW6.out.grown hg7 HBW6.out.size (fun k h => by cases h; exact hb1.size)
  have hq6 := hBq.lt
  have hl6 : w.heap.size ≤ w6.heap.size := HBW6.out.size
  clear hg7 HB6 HBW6 hoy hsepy
  go_wp2_with fail
  refine (trim_any _ (n + 1 - m) (n + 1 - m) qs _ hql (Nat.le_refl _) (by omega) hqf hBq.rd0).mono ?_
  rw [hqv]
  rintro e w8 ⟨rfl, rfl⟩
  go_wp2_with fail
  refine (trim_any _ (n + 1) (n + 1) cur _ hcl' (Nat.le_refl _) (by omega) hcf hBc.rd0).mono ?_
  rw [hcv]
  rintro e w9 ⟨rfl, rfl⟩
  have hcl9 := L_len cur hcf
  have hrd9 := hBc.rd0.trim hcf
  rw [hcv] at hcl9 hrd9
  have hlr : (L (a % b * 2 ^ s)).length ≤ m := by
    rcases Nat.lt_or_ge m (L (a % b * 2 ^ s)).length with h | h
    · have h1 : b * 2 ^ s < a % b * 2 ^ s := M.lt_of_length (B := 18446744073709551616) (by omega) (by rw [show (M.dig 18446744073709551616 (b * 2 ^ s)).length = m from hbl']; exact h)
      have h2 : a % b * 2 ^ s ≤ b * 2 ^ s := Nat.mul_le_mul_right _ (Nat.le_of_lt (Nat.mod_lt _ hb0))
      omega
    · exact h
  go_wp2_with fail
  refine (shiftRight_any _ _ (n + 1) s (a % b * 2 ^ s) _ rfl (by omega) (by omega) (by omega) hrd9).mono ?_
  rw [Nat.mul_div_cancel _ HSP.out]
  rintro e w10 ⟨za, zc, rfl, hoz, hb10⟩
  have o1 := (hBq.ownTrim hqf (by omega)).keep hb10
  rw [hqv, hql] at o1
  have o2 := Own.of hoz
  go_wp2_with fail
  go_ret2
  exact ⟨_, _, _, _, _, rfl, hbw7.size, hb10.size, o1.widen hl6 (by omega), o2, hbw7.trans (hb10.mono hbw7.size)⟩

theorem divMod_any (ao bo : Option Addr) (n m c d : Nat) (a b : Nat) (w : World) (hl : (L a).length = n) (hm : (L b).length = m) (hb : 0 < b) (hn : n ≤ 1048576) (hn2 : m ≤ 1048576) (hr : Rd w ao (L a)) (hr2 : Rd w bo (L b)) :
    Calls Try.prog 54 #[.slice ao n c, .slice bo m d] w fun e w' => RetD w w' e (L (a / b)) (L (a % b)) := by
  rcases Nat.lt_or_ge a b with h | h
  · exact divMod_lt ao bo n m c d a b w hl hm h hn hn2 hr hr2
  · rcases Nat.lt_or_ge m 2 with h2 | h2
    · have h0 : m ≠ 0 := by
        intro e
        have := L_lt b 0 (by omega)
        simp at this
        omega
      have e : m = 1 := by omega
      subst e
      exact divMod_one ao bo n c d a b w hl hm h hn hr hr2
    · exact divMod_many ao bo n m c d a b w hl hm h2 h hn hr hr2

end Go.Proofs.Ytehplfmnipadmac
