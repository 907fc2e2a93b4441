import Derived.Deep.Cut
import Derived.Test.YtdfljbpcjkbflaaGreatDoorrHAI
import Derived.Test.YtdfljbpcjkbflaaGreatDoorrHAL
set_option maxHeartbeats 2000000
set_option maxRecDepth 10000
namespace Go.Proofs.YtdfljbpcjkbflaaGreatDoor
open Go.RowKit
set_option linter.unusedVariables false
set_option maxRecDepth 100000
def BR (w w' : World) (e : Ending) (q r : List Nat) : Prop :=
 ∃ ao ca bo cb mid, e = .returned (.tuple #[.slice ao q.length ca, .slice bo r.length cb]) ∧ w.heap.size ≤ mid ∧ mid ≤ w'.heap.size ∧ Own w' w.heap.size mid ao ca q ∧ Own w' mid w'.heap.size bo cb r ∧ Below w.heap.size w w'

theorem Own.widen {w : World} {lo hi lo' hi' : Nat} {ao : Option Addr} {cap : Nat} {r : List Nat} (h : Own w lo hi ao cap r) (h1 : lo' ≤ lo) (h2 : hi ≤ hi') : Own w lo' hi' ao cap r :=
 ⟨h.row, fun k hk => by have := h.place k hk; omega⟩

theorem Own.nil (w : World) (lo hi : Nat) : Own w lo hi none 0 [] := ⟨World.ownsRow_nil _ _ _ _, fun k hk => by simp [Value.ownBlock] at hk⟩

theorem Blk.ownTrim {w : World} {g : Nat} {zs : List Nat} (h : Blk w g zs) (hz : F64 zs) (hm : zs.length ≤ 4194304) : Own w g (g + 1) (some ⟨g, 0, none⟩) zs.length (L (V zs)) := by
 have h3 := h.ownPre (base := 0) (c := zs.length) (Nat.zero_le _) (iX _ hz) rfl (by unfold maxLen; omega)
 rw [gK _ hz] at h3
 exact ⟨h3, fun k hk => by simp [Value.ownBlock] at hk; omega⟩

theorem KQ (b : Nat) (h : (L b).length = 1) : L b = [b] := by
 have h1 : b < 18446744073709551616 ^ 1 := iL b 1 (by omega)
 have hp : 0 < b := by
  rcases Nat.eq_zero_or_pos b with rfl | hp
  · have : L 0 = [] := M.aJ _
    rw [this] at h; simp at h
  · exact hp
 unfold L
 rw [M.aS (by omega) hp, Nat.mod_eq_of_lt (by omega), Nat.div_eq_of_lt (by omega), M.aJ]

theorem AR (ao bo : Option Addr) (n m c d : Nat) (a b : Nat) (w : World) (hl : (L a).length = n) (hm : (L b).length = m) (hab : a < b) (hn : n ≤ 1048576) (hn2 : m ≤ 1048576) (hr : Rd w ao (L a)) (hr2 : Rd w bo (L b)) :
 Calls Tryz.prog 103 #[.slice ao n c, .slice bo m d] w fun e w' => BR w w' e (L (a / b)) (L (a % b)) := by
 rw [Nat.div_eq_of_lt hab, Nat.mod_eq_of_lt hab, show L 0 = [] from M.aJ _]
 have hcmp := vB hab
 go_enter Tryz.func103, Tryz.ntmps103
 go_wp2_with fail
 refine (bF ao bo n m c d a b _ hl hm (by omega) (by omega) hr hr2).mono ?_
 rintro e w1 ⟨rfl, q1, rfl⟩
 have hb1 := below_drewN (Below.refl w.heap.size w) q1
 generalize w.drewN q1 = w1 at hb1 ⊢
 go_wp2_with fail
 refine (eY ao n c 0 (L a) _ hl (by omega) (by omega) (hr.below hb1)).mono ?_
 rw [List.replicate_zero, List.append_nil]
 rintro e w2 ⟨rfl, hB2, hb2⟩
 go_wp2_with fail
 go_ret2
 have ho := hB2.toOwn (by omega)
 rw [hl] at ho
 refine ⟨none, 0, some ⟨w1.heap.size, 0, none⟩, n, w1.heap.size, ?_, hb1.size, hb2.size, Own.nil _ _ _, ho.widen (Nat.le_refl _) (by have := hB2.lt; omega), hb1.trans (hb2.mono hb1.size)⟩
 rw [hl]
 rfl

theorem vP (ao bo : Option Addr) (n c d : Nat) (a b : Nat) (w : World) (hl : (L a).length = n) (hm : (L b).length = 1) (hab : b ≤ a) (hn : n ≤ 1048576) (hr : Rd w ao (L a)) (hr2 : Rd w bo (L b)) :
 Calls Tryz.prog 103 #[.slice ao n c, .slice bo 1 d] w fun e w' => BR w w' e (L (a / b)) (L (a % b)) := by
 have hcmp := iV hab
 have hb1 := KQ b hm
 have hbb : b < 18446744073709551616 := by have := iL b 1 (by omega); omega
 have hb0 : 0 < b := by
  rcases Nat.eq_zero_or_pos b with rfl | hp
  · rw [show L 0 = [] from M.aJ _] at hm; simp at hm
  · exact hp
 obtain ⟨qq, eqq⟩ : ∃ x, x = a / b := ⟨_, rfl⟩
 obtain ⟨rr, err⟩ : ∃ x, x = a % b := ⟨_, rfl⟩
 have hrr : rr < 18446744073709551616 := by rw [err]; exact Nat.lt_trans (Nat.mod_lt _ hb0) hbb
 rw [← eqq, ← err]
 have EQ := hid eqq; have ER := hid err
 clear eqq err
 go_enter Tryz.func103, Tryz.ntmps103
 go_wp2_with fail
 refine (bF ao bo n 1 c d a b _ hl hm (by omega) (by omega) hr hr2).mono ?_
 rintro e w1 ⟨rfl, q1, rfl⟩
 have hbl1 := below_drewN (Below.refl w.heap.size w) q1
 generalize w.drewN q1 = w1 at hbl1 ⊢
 go_wp2_with fail
 refine (eY ao n c 0 (L a) _ hl (by omega) (by omega) (hr.below hbl1)).mono ?_
 rw [List.replicate_zero, List.append_nil]
 rintro e w2 ⟨rfl, hB2, hbl2⟩
 have hblw2 := hbl1.trans (hbl2.mono hbl1.size)
 obtain ⟨bb, oo, hbo, hcl⟩ := (hr2.below hblw2) (by omega)
 have hc0 := hcl 0 (by omega)
 rw [hb1] at hc0
 simp only [List.getD_cons_zero, Nat.add_zero] at hc0
 clear hcl
 have HB2 := hid hB2; clear hB2
 go_wp2_with fail
 refine (jO w1.heap.size n n b _ (L a) _ (fun _ => rfl) HB2.out (eN a) (by omega) (by omega) hb0 hbb).mono ?_
 rw [List.take_of_length_le (by omega), V_L, ← EQ.out, ← ER.out]
 rintro e w3 ⟨rfl, hg3, cur, hB3, hW3, hv3⟩
 have hcl3 : cur.length = n := by rw [hW3.len]; exact hl
 rw [List.take_of_length_le (by omega)] at hv3
 have hblw3 : Below w.heap.size w w3 := hblw2.grown hg3 hblw2.size (fun k h => by cases h; exact hbl1.size)
 have hlit := lI w3 [rr]
 have hU1 : (U [rr]).toArray = #[Value.int .u64 (rr : Int)] := rfl
 have hbl4 : Below w3.heap.size w3 (w3.alloc (.cells (U [rr]).toArray 23)) := (Below.refl _ _).alloc (Nat.le_refl _) _
 rw [hU1] at hlit hbl4
 have hB4 := hB3.keep hbl4
 have hf1 : F64 [rr] := by intro y hy; simp at hy; omega
 have hv1 : V [rr] = rr := by simp [V, M.val]
 have hblw4 := hblw3.trans (hbl4.mono hblw3.size)
 have hg1lt : w1.heap.size < w3.heap.size := hB3.lt
 have HB4 := hid hB4; have HLIT := hid hlit; have HBL4 := hid hblw4; have HV1 := hid hv1; have HV3 := hid hv3; have HB3 := hid hB3
 clear hB4 hlit hblw4 hv1 hv3 hB3 hU1 hbl4 hc0 HB2
 go_wp2_with fail
 have hB4 := HB4.out; have hlit := HLIT.out; have hblw4 := HBL4.out
 generalize w3.alloc (.cells #[Value.int .u64 (rr : Int)] 23) = w4 at hB4 hlit hblw4 ⊢
 refine (cE _ n n cur _ hcl3 (Nat.le_refl _) (by omega) hW3.lt hB4.rd0).mono ?_
 rw [HV3.out]
 rintro e w5 ⟨rfl, rfl⟩
 go_wp2_with fail
 refine (cE _ 1 1 [rr] _ rfl (Nat.le_refl _) (by omega) hf1 hlit.rd0).mono ?_
 rw [HV1.out]
 rintro e w6 ⟨rfl, rfl⟩
 go_wp2_with fail
 go_ret2
 have o1 := hB4.ownTrim hW3.lt (by omega)
 have o2 := hlit.ownTrim hf1 (by simp)
 rw [HV3.out, hcl3] at o1
 rw [HV1.out] at o2
 exact ⟨_, _, _, _, w3.heap.size, rfl, hblw3.size, (by have := hlit.lt; omega), o1.widen hbl1.size (by omega), o2.widen (Nat.le_refl _) (by have := hlit.lt; omega), hblw4⟩

theorem EG (a b n m s : Nat) (hl : (L a).length = n) (hm : (L b).length = m) (hm2 : 2 ≤ m) (hab : b ≤ a) (hs : s = 64 - aC ((L b).getD (m - 1) 0)) :
 s < 64 ∧ (L (b * 2 ^ s)).length = m ∧ 9223372036854775808 ≤ (L (b * 2 ^ s)).getD (m - 1) 0 ∧ (L (a * 2 ^ s)).length ≤ n + 1 ∧ m ≤ n ∧ a * 2 ^ s < b * 2 ^ s * 18446744073709551616 ^ (n + 1 - m) := by
 have hbp : 0 < b := by
  rcases Nat.eq_zero_or_pos b with rfl | hp
  · rw [show L 0 = [] from M.aJ _] at hm; simp at hm; omega
  · exact hp
 have htn : (L b).getD (m - 1) 0 ≠ 0 := by
  have := M.uS (B := 18446744073709551616) (by omega) b hbp
  unfold L at hm ⊢
  rwa [hm] at this
 have htb : (L b).getD (m - 1) 0 < 18446744073709551616 := F64.get (eN b) _
 obtain ⟨hs64, hn1, hn2⟩ := nT _ s (by omega) htb hs
 have hdig : (L b).getD (m - 1) 0 = b / 18446744073709551616 ^ (m - 1) % 18446744073709551616 := M.dig_get (by omega) _ _
 have hbm := iL b m (by omega)
 have hPp : 0 < 18446744073709551616 ^ (m - 1) := Nat.pow_pos (by omega)
 have hpm : 18446744073709551616 ^ m = 18446744073709551616 ^ (m - 1) * 18446744073709551616 := by
  rw [← Nat.pow_succ]; congr 1; omega
 have hbq : b / 18446744073709551616 ^ (m - 1) < 18446744073709551616 := Nat.div_lt_of_lt_mul (by rw [← hpm]; exact hbm)
 rw [Nat.mod_eq_of_lt hbq] at hdig
 generalize (L b).getD (m - 1) 0 = t at *
 have hsp : 0 < 2 ^ s := Nat.pow_pos (by omega)
 have hKP : 2 ^ (64 - s) * 2 ^ s = 18446744073709551616 := M.dK s 64 (by omega)
 have ht1 : (t + 1) * 2 ^ s ≤ 18446744073709551616 := by
  have h1 : t < 2 ^ (64 - s) := by
   have : t * 2 ^ s < 2 ^ (64 - s) * 2 ^ s := by rw [hKP]; exact hn1
   exact Nat.lt_of_mul_lt_mul_right this
  have : (t + 1) * 2 ^ s ≤ 2 ^ (64 - s) * 2 ^ s := Nat.mul_le_mul_right _ h1
  omega
 have hb1 : 18446744073709551616 ^ (m - 1) * t ≤ b := by rw [hdig]; exact Nat.mul_div_le _ _
 have hb2 : b < 18446744073709551616 ^ (m - 1) * (t + 1) := by rw [hdig]; exact Nat.lt_mul_div_succ _ hPp
 have hlo : 18446744073709551616 ^ (m - 1) * 9223372036854775808 ≤ b * 2 ^ s := by
  have h1 : 18446744073709551616 ^ (m - 1) * (t * 2 ^ s) ≤ b * 2 ^ s := by rw [← Nat.mul_assoc]; exact Nat.mul_le_mul_right _ hb1
  exact Nat.le_trans (Nat.mul_le_mul_left _ hn2) h1
 have hhi : b * 2 ^ s < 18446744073709551616 ^ (m - 1) * 18446744073709551616 := by
  have h1 : b * 2 ^ s < 18446744073709551616 ^ (m - 1) * (t + 1) * 2 ^ s := Nat.mul_lt_mul_of_pos_right hb2 hsp
  rw [Nat.mul_assoc] at h1
  exact Nat.lt_of_lt_of_le h1 (Nat.mul_le_mul_left _ ht1)
 have hlen : (L (b * 2 ^ s)).length = m := by
  refine Nat.le_antisymm (M.len_of_lt (by omega) _ _ (by rw [hpm]; exact hhi)) ?_
  rcases Nat.lt_or_ge (L (b * 2 ^ s)).length m with h | h
  · have h1 := iL (b * 2 ^ s) (m - 1) (by omega)
    have h2 : 18446744073709551616 ^ (m - 1) * 1 ≤ 18446744073709551616 ^ (m - 1) * 9223372036854775808 := Nat.mul_le_mul_left _ (by omega)
    omega
  · exact h
 have hmn : m ≤ n := by
  rcases Nat.lt_or_ge n m with h | h
  · have : a < b := M.cH (B := 18446744073709551616) (by omega) (by rw [show (M.dig 18446744073709551616 a).length = n from hl, show (M.dig 18446744073709551616 b).length = m from hm]; exact h)
    omega
  · exact h
 have han := iL a n (by omega)
 have ha' : a * 2 ^ s < 18446744073709551616 ^ n * 2 ^ s := Nat.mul_lt_mul_of_pos_right han hsp
 have hs63 : 2 ^ s ≤ 2 ^ 63 := Nat.pow_le_pow_right (by omega) (by omega)
 have ha'' : 18446744073709551616 ^ n * 2 ^ s ≤ 18446744073709551616 ^ n * 9223372036854775808 := Nat.mul_le_mul_left _ hs63
 refine ⟨hs64, hlen, ?_, ?_, hmn, ?_⟩
 · have hd : (L (b * 2 ^ s)).getD (m - 1) 0 = b * 2 ^ s / 18446744073709551616 ^ (m - 1) % 18446744073709551616 := M.dig_get (by omega) _ _
   rw [hd, Nat.mod_eq_of_lt (Nat.div_lt_of_lt_mul hhi), Nat.le_div_iff_mul_le hPp, Nat.mul_comm]
   exact hlo
 · refine M.len_of_lt (by omega) _ _ ?_
   rw [Nat.pow_succ]
   have : 18446744073709551616 ^ n * 9223372036854775808 ≤ 18446744073709551616 ^ n * 18446744073709551616 := Nat.mul_le_mul_left _ (by omega)
   omega
 · have h1 : 18446744073709551616 ^ (m - 1) * 9223372036854775808 * 18446744073709551616 ^ (n + 1 - m) ≤ b * 2 ^ s * 18446744073709551616 ^ (n + 1 - m) := Nat.mul_le_mul_right _ hlo
   have h2 : 18446744073709551616 ^ (m - 1) * 9223372036854775808 * 18446744073709551616 ^ (n + 1 - m) = 18446744073709551616 ^ n * 9223372036854775808 := by
    rw [Nat.mul_right_comm, ← Nat.pow_add]; congr 2; omega
   omega

theorem J9 (xs : List Nat) (k : Nat) : V (xs ++ List.replicate k 0) = V xs := by
 unfold V; rw [M.cQ, M.cM, Nat.mul_zero, Nat.add_zero]

theorem tA (ao bo : Option Addr) (n m c d : Nat) (a b : Nat) (w : World) (hl : (L a).length = n) (hm : (L b).length = m) (hm2 : 2 ≤ m) (hab : b ≤ a) (hn : n ≤ 1048576) (hr : Rd w ao (L a)) (hr2 : Rd w bo (L b)) :
 Calls Tryz.prog 103 #[.slice ao n c, .slice bo m d] w fun e w' => BR w w' e (L (a / b)) (L (a % b)) := by
 obtain ⟨i0, hi, hz0, hz1, hz2⟩ := info_parts Tryz.infoU
 have hmk := fun (wx : World) => run_make (P := Tryz.prog) wx 71 23 i0 (.int .u64 0) Tryz.underlying71 hi hz0 .i64 .i64 ((n + 1 : Nat) : Int) ((n + 1 : Nat) : Int) (by omega) (Int.le_refl _) (by rw [hz2]; omega) (by omega)
 have es : ((n + 1 : Nat) : Int) = (n : Int) + 1 := by omega
 rw [es] at hmk
 have et : ((n : Int) + 1).toNat = n + 1 := by omega
 rw [et] at hmk
 clear es et
 have hcmp := iV hab
 have hne1 : ((m : Int) == 1) = false := by simp; omega
 obtain ⟨t, et⟩ : ∃ t, t = (L b).getD (m - 1) 0 := ⟨_, rfl⟩
 have htb : t < 18446744073709551616 := by rw [et]; exact F64.get (eN b) _
 obtain ⟨s, es⟩ : ∃ s, s = 64 - aC t := ⟨_, rfl⟩
 obtain ⟨hs64, hbl', htop, hal', hmn, hlt⟩ := EG a b n m s hl hm hm2 hab (by rw [es, et])
 obtain ⟨m1, em1⟩ : ∃ x, x = m - 1 := ⟨_, rfl⟩
 have i1 : (m : Int) - 1 = (m1 : Int) := by omega
 have j1 : (m1 : Int) < (m : Int) := by omega
 rw [← em1] at et
 have hb0 : 0 < b := by
  rcases Nat.eq_zero_or_pos b with rfl | hp
  · rw [show L 0 = [] from M.aJ _] at hm; simp at hm; omega
  · exact hp
 have hsp : 0 < 2 ^ s := Nat.pow_pos (by omega)
 have hq : a * 2 ^ s / (b * 2 ^ s) = a / b := Nat.mul_div_mul_right _ _ hsp
 have hrm : a * 2 ^ s % (b * 2 ^ s) = a % b * 2 ^ s := Nat.mul_mod_mul_right _ _ _
 have ET := hid et; have ES := hid es; have EM1 := hid em1; have HTOP := hid htop; have HLT := hid hlt; have HQ := hid hq; have HRM := hid hrm; have HSP := hid hsp
 clear et es em1 htop hlt hq hrm hsp
 obtain ⟨b2, o2, hbo, hcl⟩ := hr2 (by omega)
 have htc0 := hcl m1 (by have := EM1.out; omega)
 rw [← ET.out] at htc0
 subst hbo
 go_enter Tryz.func103, Tryz.ntmps103
 go_wp2_with fail
 refine (bF ao _ n m c d a b _ hl hm (by omega) (by omega) hr hr2).mono ?_
 rintro e w1 ⟨rfl, q1, hw1⟩
 have hb1 : Below w.heap.size w w1 := by rw [hw1]; exact below_drewN (Below.refl w.heap.size w) q1
 have htc : w1.cell? ⟨b2, o2 + m1, none⟩ = some (.int .u64 (t : Int)) := by rw [hw1]; exact htc0
 clear hw1 htc0 hcl
 go_wp2_with fail
 refine (CT t _ htb s ES.out).mono ?_
 rintro e w2 ⟨rfl, rfl⟩
 have hB3 := dQ w2 (n + 1)
 have hb3 : Below w2.heap.size w2 (w2.alloc (.cells (madeCells #[Value.int .u64 0] (n + 1)) 23)) := (Below.refl _ _).alloc (Nat.le_refl _) _
 have hbw3 := hb1.trans (hb3.mono hb1.size)
 have HB3 := hid hB3; have HBW3 := hid hbw3
 clear hB3 hb3 hbw3
 go_wp2_with fail
 have hB3 := HB3.out; have hbw3 := HBW3.out
 generalize w2.alloc (.cells (madeCells #[Value.int .u64 0] (n + 1)) 23) = w3 at hB3 hbw3 ⊢
 refine (aL ao n c s a _ hl (by omega) (by omega) (hr.below hbw3)).mono ?_
 rintro e w4 ⟨xa, xc, rfl, hox, hb4⟩
 have hB4 := hB3.keep hb4
 have hbw4 := hbw3.trans (hb4.mono hbw3.size)
 obtain ⟨w5, hcp, hg5, hgr5⟩ := lV 71 Tryz.underlying71 _ w2.heap.size (n + 1) (n + 1) _ hB4 xa (L (a * 2 ^ s)) _ xc rfl (Rd.own hox) hal' (by simp [U]; exact hal')
 have hB5 : Blk w5 w2.heap.size (L (a * 2 ^ s) ++ List.replicate (n + 1 - (L (a * 2 ^ s)).length) 0) := by
  have e : U (L (a * 2 ^ s)) ++ (U (List.replicate (n + 1) 0)).drop (L (a * 2 ^ s)).length = U (L (a * 2 ^ s) ++ List.replicate (n + 1 - (L (a * 2 ^ s)).length) 0) := by simp [U]
  rw [e] at hg5
  exact hg5
 have hbw5 : Below w.heap.size w w5 := hbw4.grown hgr5 hbw4.size (fun k h => by cases h; exact hb1.size)
 have HB5 := hid hB5; have HBW5 := hid hbw5
 clear hB5 hbw5 hg5 hB4 hB3 hbw3 HB3 HBW3 htc
 go_wp2_with fail
 refine (aL _ m d s b _ hm (by omega) (by omega) (hr2.below HBW5.out)).mono ?_
 rintro e w6 ⟨ya, yc, rfl, hoy, hb6⟩
 have hB6 := HB5.out.keep hb6
 have hbw6 := HBW5.out.trans (hb6.mono HBW5.out.size)
 have hg5lt := HB5.out.lt
 obtain ⟨zs, ezs⟩ : ∃ zs, zs = L (a * 2 ^ s) ++ List.replicate (n + 1 - (L (a * 2 ^ s)).length) 0 := ⟨_, rfl⟩
 have hzl : zs.length = n + 1 := by rw [ezs]; simp; omega
 have hzf : F64 zs := by
  rw [ezs]; intro x hx
  rcases List.mem_append.1 hx with hx | hx
  · exact eN _ x hx
  · simp at hx; omega
 have hzv : V zs = a * 2 ^ s := by rw [ezs, J9, V_L]
 rw [← ezs] at hB6
 clear ezs
 have hsepy : 0 < (L (b * 2 ^ s)).length → ∀ b3 o3, ya = some ⟨b3, o3, none⟩ → b3 ≠ w2.heap.size := by
  intro h0 b3 o3 e
  obtain ⟨g3, e3, hg3⟩ := nX hoy h0
  rw [e3] at e
  cases e
  omega
 rw [hbl'] at hoy ⊢
 have HB6 := hid hB6; have HBW6 := hid hbw6
 clear hB6 hbw6 HB5 HBW5 hmk
 go_wp2_with fail
 refine (zK w2.heap.size (n + 1) m (n + 1 - m) ya yc zs (L (b * 2 ^ s)) _ HB6.out hzf hzl (by omega) hbl' hm2 (by omega) (by omega) (eN _) (Rd.own hoy) hsepy HTOP.out (by rw [hzv, V_L]; exact HLT.out)).mono ?_
 rw [hzv, V_L]
 rintro e w7 ⟨rfl, hg7, qs, cur, hBq, hql, hqf, hqv, hBc, hcl', hcf, hcv⟩
 rw [HQ.out] at hqv
 rw [HRM.out] at hcv
 have hbw7 : Below w.heap.size w w7 := HBW6.out.grown hg7 HBW6.out.size (fun k h => by cases h; exact hb1.size)
 have hq6 := hBq.lt
 have hl6 : w.heap.size ≤ w6.heap.size := HBW6.out.size
 clear hg7 HB6 HBW6 hoy hsepy
 go_wp2_with fail
 refine (cE _ (n + 1 - m) (n + 1 - m) qs _ hql (Nat.le_refl _) (by omega) hqf hBq.rd0).mono ?_
 rw [hqv]
 rintro e w8 ⟨rfl, rfl⟩
 go_wp2_with fail
 refine (cE _ (n + 1) (n + 1) cur _ hcl' (Nat.le_refl _) (by omega) hcf hBc.rd0).mono ?_
 rw [hcv]
 rintro e w9 ⟨rfl, rfl⟩
 have hcl9 := iX cur hcf
 have hrd9 := hBc.rd0.trim hcf
 rw [hcv] at hcl9 hrd9
 have hlr : (L (a % b * 2 ^ s)).length ≤ m := by
  rcases Nat.lt_or_ge m (L (a % b * 2 ^ s)).length with h | h
  · have h1 : b * 2 ^ s < a % b * 2 ^ s := M.cH (B := 18446744073709551616) (by omega) (by rw [show (M.dig 18446744073709551616 (b * 2 ^ s)).length = m from hbl']; exact h)
    have h2 : a % b * 2 ^ s ≤ b * 2 ^ s := Nat.mul_le_mul_right _ (Nat.le_of_lt (Nat.mod_lt _ hb0))
    omega
  · exact h
 go_wp2_with fail
 refine (oP _ _ (n + 1) s (a % b * 2 ^ s) _ rfl (by omega) (by omega) (by omega) hrd9).mono ?_
 rw [Nat.mul_div_cancel _ HSP.out]
 rintro e w10 ⟨za, zc, rfl, hoz, hb10⟩
 have o1 := (hBq.ownTrim hqf (by omega)).keep hb10
 rw [hqv, hql] at o1
 have o2 := Own.of hoz
 go_wp2_with fail
 go_ret2
 exact ⟨_, _, _, _, _, rfl, hbw7.size, hb10.size, o1.widen hl6 (by omega), o2, hbw7.trans (hb10.mono hbw7.size)⟩

theorem jZ (ao bo : Option Addr) (n m c d : Nat) (a b : Nat) (w : World) (hl : (L a).length = n) (hm : (L b).length = m) (hb : 0 < b) (hn : n ≤ 1048576) (hn2 : m ≤ 1048576) (hr : Rd w ao (L a)) (hr2 : Rd w bo (L b)) :
 Calls Tryz.prog 103 #[.slice ao n c, .slice bo m d] w fun e w' => BR w w' e (L (a / b)) (L (a % b)) := by
 rcases Nat.lt_or_ge a b with h | h
 · exact AR ao bo n m c d a b w hl hm h hn hn2 hr hr2
 · rcases Nat.lt_or_ge m 2 with h2 | h2
   · have h0 : m ≠ 0 := by
      intro e
      have := iL b 0 (by omega)
      simp at this
      omega
     have e : m = 1 := by omega
     subst e
     exact vP ao bo n c d a b w hl hm h hn hr hr2
   · exact tA ao bo n m c d a b w hl hm h2 h hn hr hr2

theorem fR (a m : Nat) : a ^ m ≤ 2 ^ (aC a * m) := by
 rw [Nat.pow_mul]
 exact Nat.pow_le_pow_left (Nat.le_of_lt (eH a)) m

theorem x6 {B j : Nat} (hB : B = 2 ^ j) (hj : 0 < j) (a m K : Nat) (h : aC a * m < j * K) : (M.dig B (a ^ m)).length ≤ K := by
 have hB1 : 1 < B := by rw [hB]; exact Nat.one_lt_two_pow (by omega)
 refine M.len_of_lt hB1 _ _ ?_
 rw [hB, ← Nat.pow_mul]
 exact Nat.lt_of_le_of_lt (fR a m) (Nat.pow_lt_pow_right (by omega) h)

theorem eV (a m : Nat) (h : aC a * m ≤ 76800) : (L (a ^ m)).length ≤ 1201 := x6 (j := 64) rfl (by omega) a m 1201 (by omega)

theorem i6 (a m : Nat) (h : aC a * m ≤ 76800) : (D (a ^ m)).length ≤ 2401 := x6 (j := 32) rfl (by omega) a m 2401 (by omega)

theorem qK {b m e : Nat} (h : m ≤ e) (hb : b * e ≤ 76800) : b * m ≤ 76800 := Nat.le_trans (Nat.mul_le_mul_left _ h) hb

theorem iP : L 1 = [1] := by
 unfold L; rw [M.aS (by omega) (by omega)]; simp [M.aJ]

theorem qT (e k : Nat) : e / 2 ^ k = 2 * (e / 2 ^ (k + 1)) + e / 2 ^ k % 2 := by
 rw [Nat.pow_succ, ← Nat.div_div_eq_div_mul]; omega

theorem uC (q : Nat) (h : q < 4611686018427387904) : bits .and .i64 (q : Int) 1 = ((q % 2 : Nat) : Int) := by
 have := (bits_nat .i64 62 (by decide) (fun n h1 h2 => by rw [IntKind.wrap_i64]; omega) q 1 (by omega) (by omega)).1
 rw [Nat.and_one_is_mod] at this
 exact this

theorem s6 (x k : Nat) : (x : Int) / 2 ^ k = ((x / 2 ^ k : Nat) : Int) := by
 have : ((2 : Int) ^ k) = ((2 ^ k : Nat) : Int) := by simp
 rw [this]; exact (Int.natCast_ediv x (2 ^ k)).symm

theorem uZ (e k : Nat) (he : e ≤ 20000) (b : Nat) (hb : e / 2 ^ k % 2 = b) : (bits BinOp.and IntKind.i64 ((e : Int) / 2 ^ k) 1 == 1) = decide (b = 1) := by
 have h1 := Nat.div_le_self e (2 ^ k)
 rw [s6]
 generalize e / 2 ^ k = q at *
 rw [uC _ (by omega)]
 rw [Bool.eq_iff_iff]
 simp
 omega

theorem dV (a e : Nat) (w : World) (ha : a < 18446744073709551616) (he : e ≤ 20000) (hb : aC a * e ≤ 76800) :
 Calls Tryz.prog 98 #[.int .u64 (a : Int), .int .i64 (e : Int)] w fun r w' => Ret w w' r (L (a ^ e)) := by
 obtain ⟨bl, hbl⟩ : ∃ b : Nat, b = aC e := ⟨_, rfl⟩
 have hbl2 : bl ≤ 15 := by rw [hbl]; exact bW e 15 (by omega)
 have hlt0 : e < 2 ^ bl := by rw [hbl]; exact eH e
 have HBL := hid hbl; clear hbl
 have HLT := hid hlt0; clear hlt0
 have hB1 := lI w [a]
 have hU1 : (U [a]).toArray = #[Value.int .u64 (a : Int)] := rfl
 have hb1 : Below w.heap.size w (w.alloc (.cells (U [a]).toArray 23)) := (Below.refl _ _).alloc (Nat.le_refl _) _
 rw [hU1] at hB1 hb1
 have hf1 : F64 [a] := by intro y hy; simp at hy; omega
 have hv1 : V [a] = a := by simp [V, M.val]
 have HV1 := hid hv1; clear hv1 hU1
 have hlfa := iX [a] hf1
 rw [HV1.out] at hlfa
 go_enter Tryz.func98, Tryz.ntmps98
 go_wp2_with fail
 refine (cE _ 1 1 [a] _ rfl (Nat.le_refl _) (by omega) hf1 hB1.rd0).mono ?_
 rw [HV1.out]
 rintro r w1 ⟨rfl, hw1⟩
 have hfac : Rd w1 (some ⟨w.heap.size, 0, none⟩) (L a) := by
  rw [hw1]
  have := hB1.rd0.trim hf1
  rwa [HV1.out] at this
 have hbw1 : Below w.heap.size w w1 := by rw [hw1]; exact hb1
 clear hw1 hB1 hb1
 have hB2 := lI w1 [1]
 have hU2 : (U [1]).toArray = #[Value.int .u64 1] := rfl
 have hb2 : Below w1.heap.size w1 (w1.alloc (.cells (U [1]).toArray 23)) := (Below.refl _ _).alloc (Nat.le_refl _) _
 rw [hU2] at hB2 hb2
 have hb2w := hbw1.trans (hb2.mono hbw1.size)
 have ho2 := hB2.own (base := w.heap.size) (n := 1) hbw1.size rfl (by unfold maxLen; omega)
 have hfac2 := hfac.below hb2
 clear hU2
 go_wp2_with fail
 refine (F3 e _ (by omega) bl HBL.out).mono ?_
 rintro r w3 ⟨rfl, hw3⟩
 rw [← hw3] at hb2w ho2 hfac2
 clear hw3 hb2 hB2 hfac
 have Hw := hid hb2w; have Ho := hid ho2; have Hf := hid hfac2
 clear hb2w ho2 hfac2
 go_wp2_with fail
 go_loopw [6, 7] (fun v i wr => ∃ (k P : Nat) (pa : Option Addr) (pc : Nat), k ≤ bl ∧ i = .int .i64 ((k : Int) - 1) ∧ P = a ^ (e / 2 ^ k) ∧ v = .slice pa (L P).length pc ∧ wr.ownsRow w.heap.size 23 1 (.slice pa (L P).length pc) (L P).length (U (L P)) ∧ Rd wr (some ⟨w.heap.size, 0, none⟩) (L a) ∧ Below w.heap.size w wr) (fun _ i _ => (intOf i + 1).toNat)
 case atStart =>
  refine ⟨bl, 1, some ⟨w1.heap.size, 0, none⟩, 1, Nat.le_refl _, by go_num, ?_, ?_, ?_, Hf.out, Hw.out⟩
  · rw [Nat.div_eq_of_lt HLT.out]; simp
  · rw [iP]; rfl
  · rw [iP]; exact Ho.out
 case round =>
  obtain ⟨k, P, pa, pc, hk, rfl, hP, rfl, hown, hfa, hbl⟩ := hrel
  have HP := hid hP; clear hP
  clear Hw Ho Hf
  by_cases hk0 : 0 < k
  · obtain ⟨k, rfl⟩ : ∃ k', k = k' + 1 := ⟨k - 1, by omega⟩
    have e1 : (((k + 1 : Nat) : Int) - 1) = (k : Int) := by omega
    rw [e1]
    have hm1 : 2 * (e / 2 ^ (k + 1)) ≤ e := by
     have h1 := qT e k
     have h2 := Nat.div_le_self e (2 ^ k)
     omega
    have hPl : (L P).length ≤ 1201 := by rw [HP.out]; exact eV a _ (qK (by omega) hb)
    have hPPl : (L (P * P)).length ≤ 1201 := by
     rw [HP.out, ← Nat.pow_add]; exact eV a _ (qK (by omega) hb)
    go_wp2_with fail
    refine (jH pa pa _ _ pc pc P P _ rfl rfl (by omega) (by omega) (Rd.own hown) (Rd.own hown)).mono ?_
    rintro r w4 ⟨p2, c2, rfl, ho4, hb4⟩
    have hbw4 := hbl.trans (hb4.mono hbl.size)
    have how4 := aO ho4 hbl.size
    have hfa4 := hfa.below hb4
    clear ho4 hb4 hown hfa hbl
    have hbit := qT e k
    by_cases hb1 : e / 2 ^ k % 2 = 1
    · have htest := uZ e k he 1 hb1
      rw [decide_eq_true (by rfl)] at htest
      have hP2 : P * P * a = a ^ (e / 2 ^ k) := by
       rw [hbit, hb1, Nat.pow_succ, Nat.two_mul, Nat.pow_add, ← HP.out]
      have HP2 := hid hP2
      clear hP2 hbit hb1
      go_wp2_with fail
      refine (jH p2 _ _ _ c2 1 (P * P) a _ rfl rfl (by omega) (by simp at hlfa; omega) (Rd.own how4) hfa4).mono ?_
      rintro r w5 ⟨p3, c3, rfl, ho5, hb5⟩
      have hbw5 := hbw4.trans (hb5.mono hbw4.size)
      have how5 := aO ho5 hbw4.size
      have hfa5 := hfa4.below hb5
      clear ho5 hb5 how4 hfa4
      go_wp2_with fail
      go_roundw
      case rel =>
       have R : ∃ (k1 P1 : Nat) (pa1 : Option Addr) (pc1 : Nat), k1 ≤ bl ∧ Value.int .i64 ((k : Int) - 1) = .int .i64 ((k1 : Int) - 1) ∧ P1 = a ^ (e / 2 ^ k1) ∧ Value.slice p3 (L (P * P * a)).length c3 = .slice pa1 (L P1).length pc1 ∧ w5.ownsRow w.heap.size 23 1 (.slice pa1 (L P1).length pc1) (L P1).length (U (L P1)) ∧ Rd w5 (some ⟨w.heap.size, 0, none⟩) (L a) ∧ Below w.heap.size w w5 :=
        ⟨k, P * P * a, p3, c3, by omega, rfl, HP2.out, rfl, how5, hfa5, hbw5⟩
       first | exact R | ((repeat apply Exists.intro); exact ⟨R, rfl⟩)
      case measure => simp [intOf]
    · have hb0 : e / 2 ^ k % 2 = 0 := by omega
      have htest := uZ e k he 0 hb0
      rw [decide_eq_false (by omega)] at htest
      have hP2 : P * P = a ^ (e / 2 ^ k) := by
       rw [hbit, hb0, Nat.add_zero, Nat.two_mul, Nat.pow_add, ← HP.out]
      have HP2 := hid hP2
      clear hP2 hbit hb1 hb0
      go_wp2_with fail
      go_roundw
      case rel =>
       have R : ∃ (k1 P1 : Nat) (pa1 : Option Addr) (pc1 : Nat), k1 ≤ bl ∧ Value.int .i64 ((k : Int) - 1) = .int .i64 ((k1 : Int) - 1) ∧ P1 = a ^ (e / 2 ^ k1) ∧ Value.slice p2 (L (P * P)).length c2 = .slice pa1 (L P1).length pc1 ∧ w4.ownsRow w.heap.size 23 1 (.slice pa1 (L P1).length pc1) (L P1).length (U (L P1)) ∧ Rd w4 (some ⟨w.heap.size, 0, none⟩) (L a) ∧ Below w.heap.size w w4 :=
        ⟨k, P * P, p2, c2, by omega, rfl, HP2.out, rfl, how4, hfa4, hbw4⟩
       first | exact R | ((repeat apply Exists.intro); exact ⟨R, rfl⟩)
      case measure => simp [intOf]
  · have : k = 0 := by omega
    subst this
    have hPe : P = a ^ e := by rw [HP.out]; simp
    clear HP
    have HPe := hid hPe; clear hPe
    go_wp2_with fail
    go_ret
    rw [← HPe.out]
    exact ⟨pa, pc, rfl, hown, hbl⟩

theorem cB {w1 W v : World} (h : Below w1.heap.size w1 W) (k : Below W.heap.size W v) : Below w1.heap.size w1 v := h.trans (k.mono h.size)

theorem nO (w : World) (t : TypeId) (x y : Value) : (w.alloc (.cells #[x, y] t)).cell? ⟨w.heap.size, 0, none⟩ = some x ∧ (w.alloc (.cells #[x, y] t)).cell? ⟨w.heap.size, 1, none⟩ = some y ∧ (w.alloc (.cells #[x, y] t)).frozen? ⟨w.heap.size, 0, none⟩ = false ∧ (w.alloc (.cells #[x, y] t)).frozen? ⟨w.heap.size, 1, none⟩ = false := by
 simp [go_sem]

def RR (w w' : World) (e : Ending) (N De : Nat) : Prop := ∃ a c b d, e = .returned (.agg #[.slice a (L N).length c, .slice b (L De).length d]) ∧ Rd w' a (L N) ∧ Rd w' b (L De) ∧ Below w.heap.size w w'

theorem nZ : aC 10 = 4 := by decide

theorem dU (m : Nat) (h : m ≤ 19000) : aC 10 * m ≤ 76800 := by rw [nZ]; omega

theorem qV {w : World} {base n cap g : Nat} {ao : Option Addr} {xs : List Value} (h : w.ownsRow base 23 1 (.slice ao n cap) n xs) (hg : g < base) : (Value.slice ao n cap).ownBlock ≠ some g := by
 rcases h.2 with ⟨he, h0⟩ | ⟨k, cap', cur, he, hk, _⟩
 · simp only [Value.slice.injEq] at he
   obtain ⟨rfl, _, rfl⟩ := he
   simp [Value.ownBlock]
 · simp only [Value.slice.injEq] at he
   obtain ⟨rfl, _, rfl⟩ := he
   simp [Value.ownBlock]; omega

theorem fB {w : World} {base n cap g : Nat} {ao : Option Addr} {xs : List Nat} (h : w.ownsRow base 23 1 (.slice ao n cap) n (U xs)) (hg : g < base) (u v : Value) : Rd ((w.setCell ⟨g, 0, none⟩ u).setCell ⟨g, 1, none⟩ v) ao xs :=
 Rd.own (ownsRow_setCell_other (ownsRow_setCell_other h (qV h hg) u) (qV h hg) v)

theorem j7 (m : Nat) (w : World) (hm : m ≤ 19000) :
 Calls Tryz.prog 54 #[.int .i64 (m : Int)] w fun e w' => RR w w' e (10 ^ m) (1) := by
 have k1 := fun v : World => dV 10 m v (by omega) (by omega) (dU m (by omega))
 have k2 := fun v : World => dV 10 0 v (by omega) (by omega) (dU 0 (by omega))
 have hz : max (m : Int) 0 = (m : Int) := by omega
 have hz2 : max (-(m : Int)) 0 = (0 : Int) := by omega
 have b0 := (Below.refl w.heap.size w).alloc (Nat.le_refl _) (.cells #[.slice none 0 0, .slice none 0 0] 73)
 obtain ⟨c0, c1, z0, z1⟩ := nO w 73 (.slice none 0 0) (.slice none 0 0)
 have l0 : w.heap.size < (w.alloc (.cells #[.slice none 0 0, .slice none 0 0] 73)).heap.size := by simp
 go_enter Tryz.func54, Tryz.ntmps54
 go_wp2_with fail
 refine (k1 _).mono ?_
 rintro e v1 ⟨a, c, rfl, ho1, hb1⟩
 have b1 := b0.trans (hb1.mono b0.size)
 go_wp2_with fail
 refine (k2 _).mono ?_
 rintro e v2 ⟨b, d, rfl, ho2, hb2⟩
 have hb3 := hb1.trans (hb2.mono hb1.size)
 have b2 := b1.trans (hb2.mono b1.size)
 have c0' : v2.cell? ⟨w.heap.size, 0, none⟩ = some (.slice none 0 0) := (hb3.cell l0).trans c0
 have c1' : v2.cell? ⟨w.heap.size, 1, none⟩ = some (.slice none 0 0) := (hb3.cell l0).trans c1
 have z0' : v2.frozen? ⟨w.heap.size, 0, none⟩ = false := (hb3.frozen l0).trans z0
 have z1' : v2.frozen? ⟨w.heap.size, 1, none⟩ = false := (hb3.frozen l0).trans z1
 have hl : w.heap.size < v1.heap.size := Nat.lt_of_lt_of_le l0 hb1.size
 have q1 := fB (fM ho1 hb2) l0
 have q2 := fB ho2 hl
 clear ho1 ho2 c0 c1 z0 z1 hb2 hb1 hb3 b1 b0 l0 hl
 go_wp2_with fail
 exact bodyPost_ret (v := .agg #[.slice a (L (10 ^ m)).length c, .slice b (L (1)).length d]) (by simp [results, Tryz.results54, go_sem, c0', c1']) rfl ⟨a, c, b, d, rfl, q1 _ _, q2 _ _, (b2.setCell (p := ⟨w.heap.size, 0, none⟩) (Nat.le_refl _) _).setCell (p := ⟨w.heap.size, 1, none⟩) (Nat.le_refl _) _⟩

theorem lX (m : Nat) (w : World) (hm : m ≤ 19000) :
 Calls Tryz.prog 54 #[.int .i64 (-(m : Int))] w fun e w' => RR w w' e (1) (10 ^ m) := by
 have k1 := fun v : World => dV 10 0 v (by omega) (by omega) (dU 0 (by omega))
 have k2 := fun v : World => dV 10 m v (by omega) (by omega) (dU m (by omega))
 have hz : max (-(m : Int)) 0 = (0 : Int) := by omega
 have hz2 : max (-(-(m : Int))) 0 = (m : Int) := by omega
 have b0 := (Below.refl w.heap.size w).alloc (Nat.le_refl _) (.cells #[.slice none 0 0, .slice none 0 0] 73)
 obtain ⟨c0, c1, z0, z1⟩ := nO w 73 (.slice none 0 0) (.slice none 0 0)
 have l0 : w.heap.size < (w.alloc (.cells #[.slice none 0 0, .slice none 0 0] 73)).heap.size := by simp
 go_enter Tryz.func54, Tryz.ntmps54
 go_wp2_with fail
 refine (k1 _).mono ?_
 rintro e v1 ⟨a, c, rfl, ho1, hb1⟩
 have b1 := b0.trans (hb1.mono b0.size)
 go_wp2_with fail
 refine (k2 _).mono ?_
 rintro e v2 ⟨b, d, rfl, ho2, hb2⟩
 have hb3 := hb1.trans (hb2.mono hb1.size)
 have b2 := b1.trans (hb2.mono b1.size)
 have c0' : v2.cell? ⟨w.heap.size, 0, none⟩ = some (.slice none 0 0) := (hb3.cell l0).trans c0
 have c1' : v2.cell? ⟨w.heap.size, 1, none⟩ = some (.slice none 0 0) := (hb3.cell l0).trans c1
 have z0' : v2.frozen? ⟨w.heap.size, 0, none⟩ = false := (hb3.frozen l0).trans z0
 have z1' : v2.frozen? ⟨w.heap.size, 1, none⟩ = false := (hb3.frozen l0).trans z1
 have hl : w.heap.size < v1.heap.size := Nat.lt_of_lt_of_le l0 hb1.size
 have q1 := fB (fM ho1 hb2) l0
 have q2 := fB ho2 hl
 clear ho1 ho2 c0 c1 z0 z1 hb2 hb1 hb3 b1 b0 l0 hl
 go_wp2_with fail
 exact bodyPost_ret (v := .agg #[.slice a (L (1)).length c, .slice b (L (10 ^ m)).length d]) (by simp [results, Tryz.results54, go_sem, c0', c1']) rfl ⟨a, c, b, d, rfl, q1 _ _, q2 _ _, (b2.setCell (p := ⟨w.heap.size, 0, none⟩) (Nat.le_refl _) _).setCell (p := ⟨w.heap.size, 1, none⟩) (Nat.le_refl _) _⟩

theorem mZ (v : World) (x y : Value) {g b o : Nat} (h : b ≠ g) : ((v.setCell ⟨g, 0, none⟩ x).setCell ⟨g, 1, none⟩ y).cell? ⟨b, o, none⟩ = v.cell? ⟨b, o, none⟩ :=
 World.cell?_of_block (w := v) (a := ⟨b, o, none⟩) ((Below.heap_setCell _ _ _ _ h).trans (Below.heap_setCell _ _ _ _ h))

theorem dB {a b : Nat} (h : a ≤ b) : (L a).length ≤ (L b).length :=
 M.len_of_lt (B := 18446744073709551616) (by omega) _ _ (Nat.lt_of_le_of_lt h (iL b _ (Nat.le_refl _)))

theorem x8 (m : Int) (h1 : -20000 ≤ m) (h2 : m ≤ 20000) : -7000 ≤ M.uB m ∧ M.uB m ≤ 7000 := by
 rcases Int.le_total 0 m with h | h
 · obtain ⟨k, rfl⟩ := Int.eq_ofNat_of_zero_le h
   rw [M.DD]; omega
 · obtain ⟨k, hk⟩ := Int.eq_ofNat_of_zero_le (show 0 ≤ -m by omega)
   have e : m = -(k : Int) := by omega
   subst e
   rw [M.D8]; omega

theorem pG (m : Int) (w : World) (h1 : -20000 ≤ m) (h2 : m ≤ 20000) : Calls Tryz.prog 71 #[.int .i64 m] w fun e w' => e = .returned (.int .i64 (M.uB m)) ∧ w' = w := by
 obtain ⟨u1, u2⟩ := x8 m h1 h2
 have hw : wrap64 ((m * 30103).tdiv 100000 - 2) = M.uB m := by
  have : (m * 30103).tdiv 100000 - 2 = M.uB m := rfl
  rw [this]; simp only [wrap64]; omega
 have hw2 : IntKind.i64.wrap ((m * 30103).tdiv 100000 - 2) = M.uB m := by
  have : (m * 30103).tdiv 100000 - 2 = M.uB m := rfl
  rw [this]; simp only [IntKind.wrap_i64]; omega
 go_enter Tryz.func71, Tryz.ntmps71
 go_wp2_with fail
 go_ret
 exact ⟨rfl, rfl⟩

theorem qP (ex : Int) (x1 x2 x4 x5 : Value) (aw : Option Addr) (cw W z : Nat) (w : World) (hz : z ≤ 1000) (hW : (L W).length ≤ 1000) (hr : Rd w aw (L W)) :
 Calls Tryz.prog 82 #[.agg #[.int .i64 ex, x1, x2, .slice aw (L W).length cw, x4, x5], .int .i64 (z : Int)] w fun e w' => ∃ a1 c1 a2 c2, e = .returned (.tuple #[.slice a1 (L (W / 10 ^ z * 10 ^ z)).length c1, .slice a2 (L (W / 10 ^ z * 10 ^ z + 10 ^ z)).length c2]) ∧ Rd w' a1 (L (W / 10 ^ z * 10 ^ z)) ∧ Rd w' a2 (L (W / 10 ^ z * 10 ^ z + 10 ^ z)) ∧ Below w.heap.size w w' := by
 have c0 := Cls.new w #[.int .i64 ex, x1, x2, .slice aw (L W).length cw, x4, x5] 75
 have b0 : Below w.heap.size w (w.alloc (.cells #[.int .i64 ex, x1, x2, .slice aw (L W).length cw, x4, x5] 75)) := (Below.refl _ _).alloc (Nat.le_refl _) _
 have hp : 0 < 10 ^ z := Nat.pow_pos (by omega)
 have lq : (L (W / 10 ^ z)).length ≤ 1048576 := Nat.le_trans (dB (Nat.div_le_self _ _)) (by omega)
 have lm : (L (W / 10 ^ z * 10 ^ z)).length ≤ 1048576 := Nat.le_trans (dB (Nat.div_mul_le_self _ _)) (by omega)
 have lz : (L (10 ^ z)).length ≤ 1201 := eV 10 z (dU z (by omega))
 go_enter Tryz.func82, Tryz.ntmps82
 go_wp2_with fail
 refine (dV 10 z _ (by omega) (by omega) (dU z (by omega))).mono ?_
 rintro e v1 ⟨ap, cp, rfl, op, hb⟩
 have rs := Rd.own op
 replace c0 := c0.below hb
 replace b0 := b0.trans (hb.mono b0.size)
 have y3 := c0.cell 3 rfl
 clear hb
 go_wp2_with fail
 refine (jZ aw ap _ _ cw cp W (10 ^ z) _ rfl rfl hp (by omega) (by omega) (hr.below b0) rs).mono ?_
 rintro e v2 ⟨aq, cq, ar, cr, md, rfl, _, _, oq, _, hb⟩
 have rq := oq.rd
 replace rs := rs.below hb
 replace b0 := b0.trans (hb.mono b0.size)
 clear hb oq y3
 go_wp2_with fail
 refine (jH aq ap _ _ cq cp (W / 10 ^ z) (10 ^ z) _ rfl rfl lq (by omega) rq rs).mono ?_
 rintro e v3 ⟨am, cm, rfl, om, hb⟩
 have rm := Rd.own om
 replace rs := rs.below hb
 replace b0 := b0.trans (hb.mono b0.size)
 clear hb om rq
 go_wp2_with fail
 refine (sH am ap _ _ cm cp (W / 10 ^ z * 10 ^ z) (10 ^ z) _ rfl rfl lm (by omega) rm rs).mono ?_
 rintro e v4 ⟨an, cn, rfl, on, hb⟩
 have rn := Rd.own on
 replace rm := rm.below hb
 replace b0 := b0.trans (hb.mono b0.size)
 clear hb on rs
 have HB := hid b0; clear b0
 go_wp2_with fail
 exact bodyPost_ret (v := .tuple #[.slice am (L (W / 10 ^ z * 10 ^ z)).length cm, .slice an (L (W / 10 ^ z * 10 ^ z + 10 ^ z)).length cn]) (by simp [results, Tryz.results82, go_sem]) rfl ⟨am, cm, an, cn, rfl, rm, rn, HB.out⟩

def wdX (t : M.Wd) (r : Nat) : Int := t.X + r + ((M.txt (t.pick (t.X + r))).length : Int) - ((M.sd (t.pick (t.X + r))).length : Int)

namespace M

theorem Wd.Best.same {t : Wd} {r s : Nat} (a : t.Best r) (b : t.Best s) : r = s := by
 rcases Nat.lt_trichotomy r s with h | h | h
 · exact absurd b.ok (a.no s h b.lt)
 · exact h
 · exact absurd a.ok (b.no r h a.lt)

def Wd.asks (t : Wd) (z : Nat) : Bool := decide (t.least ≤ t.T t.X / 10 ^ z * 10 ^ z) || decide (t.T t.X / 10 ^ z * 10 ^ z + 10 ^ z ≤ t.most)

theorem Wd.Ok.asks_iff {t : Wd} (h : t.Ok) (z : Nat) : t.asks z = true ↔ t.ok (t.X + z) := by
 unfold Wd.asks Wd.ok
 rw [Bool.or_eq_true, decide_eq_true_iff, decide_eq_true_iff, h.low_at, h.high_at]

theorem Wd.Ok.best_of {t : Wd} (h : t.Ok) (r : Nat) (h1 : r < t.N) (h2 : 0 < r → t.asks r = true) (h3 : r + 1 < t.N → t.asks (r + 1) = false) : t.Best r :=
 h.best r h1 (fun hp => (h.asks_iff r).1 (h2 hp)) (fun hp hk => by have := (h.asks_iff (r + 1)).2 hk; rw [h3 hp] at this; cases this)

theorem DZ {a b : Nat} (h : a < b) (x : Int) : un a x < un b x := Nat.mul_lt_mul_of_pos_right h (Nat.pow_pos (by omega))

theorem Wd.Ok.lo_mid {t : Wd} (h : t.Ok) : t.lo < t.mid := Nat.mul_lt_mul_of_pos_right h.l1 (Nat.pow_pos (by omega))

theorem Wd.Ok.mid_hi {t : Wd} (h : t.Ok) : t.mid < t.hi := Nat.mul_lt_mul_of_pos_right (by omega) (Nat.pow_pos (by omega))

theorem Wd.Ok.e_le {t : Wd} (h : t.Ok) : -7001 ≤ t.e ∧ t.e ≤ 7039 ∧ -7000 ≤ t.X ∧ t.X ≤ 7000 := by
 have hN := h.N_le
 have q1 := h.q1
 have q2 := h.q2
 have := x8 (t.q - 2) (by omega) (by omega)
 show -7001 ≤ t.X + (t.N : Int) - 1 ∧ t.X + (t.N : Int) - 1 ≤ 7039 ∧ -7000 ≤ t.X ∧ t.X ≤ 7000
 simp only [Wd.X]
 omega

end M

end Go.Proofs.YtdfljbpcjkbflaaGreatDoor
namespace Go.Proofs.YtdfljbpcjkbflaaGreatDoor.M
set_option linter.unusedVariables false
set_option maxRecDepth 100000
def lt2 (N De : Nat) (e : Int) : Prop := N * 2 ^ (-e).toNat < De * 2 ^ e.toNat

instance (N De : Nat) (e : Int) : Decidable (lt2 N De e) := by unfold lt2; infer_instance

theorem gW (N De : Nat) (e : Int) (K : Nat) (h : 0 ≤ (K : Int) + e) : lt2 N De e ↔ N * 2 ^ K < De * 2 ^ ((K : Int) + e).toNat := by
 unfold lt2
 rcases Int.le_total 0 e with he | he
 · rw [show (-e).toNat = 0 by omega, show ((K : Int) + e).toNat = e.toNat + K by omega, Nat.pow_add, ← Nat.mul_assoc, Nat.pow_zero, Nat.mul_one]
   exact (Nat.mul_lt_mul_right (Nat.pow_pos (by omega))).symm
 · rw [show e.toNat = 0 by omega]
   have e1 : K = (-e).toNat + ((K : Int) + e).toNat := by omega
   generalize ((K : Int) + e).toNat = J at *
   rw [e1, Nat.pow_add, ← Nat.mul_assoc, Nat.pow_zero, Nat.mul_one]
   exact (Nat.mul_lt_mul_right (Nat.pow_pos (by omega))).symm

theorem oL {N De : Nat} {e e' : Int} (hd : 0 < De) (h : lt2 N De e) (he : e ≤ e') : lt2 N De e' := by
 rw [gW N De e (e.natAbs + e'.natAbs) (by omega)] at h
 rw [gW N De e' (e.natAbs + e'.natAbs) (by omega)]
 refine Nat.lt_of_lt_of_le h (Nat.mul_le_mul_left _ (Nat.pow_le_pow_right (by omega) ?_))
 omega

def rE (N De : Nat) : Int := if lt2 N De ((aC N : Int) - aC De) then (aC N : Int) - aC De - 1 else (aC N : Int) - aC De

theorem CN (N De : Nat) (hN : 0 < N) (hd : 0 < De) : ¬ lt2 N De (rE N De) ∧ lt2 N De (rE N De + 1) := by
 have a1 := eH N
 have a2 := gD N hN
 have a3 := fT N hN
 have b1 := eH De
 have b2 := gD De hd
 have b3 := fT De hd
 have hi : lt2 N De ((aC N : Int) - aC De + 1) := by
  rw [gW N De _ (aC De - 1) (by omega), show (((aC De - 1 : Nat) : Int) + ((aC N : Int) - aC De + 1)).toNat = aC N by omega]
  have h1 : N * 2 ^ (aC De - 1) < 2 ^ aC N * 2 ^ (aC De - 1) := (Nat.mul_lt_mul_right (Nat.pow_pos (by omega))).2 a1
  have h2 : 2 ^ (aC De - 1) * 2 ^ aC N ≤ De * 2 ^ aC N := Nat.mul_le_mul_right _ b2
  rw [Nat.mul_comm] at h2
  omega
 have lo : ¬ lt2 N De ((aC N : Int) - aC De - 1) := by
  rw [gW N De _ (aC De) (by omega), show ((aC De : Int) + ((aC N : Int) - aC De - 1)).toNat = aC N - 1 by omega]
  have h1 : De * 2 ^ (aC N - 1) ≤ 2 ^ aC De * 2 ^ (aC N - 1) := Nat.mul_le_mul_right _ (by omega)
  have h2 : 2 ^ aC De * 2 ^ (aC N - 1) ≤ 2 ^ aC De * N := Nat.mul_le_mul_left _ a2
  rw [Nat.mul_comm _ N] at h2
  omega
 unfold rE
 by_cases h : lt2 N De ((aC N : Int) - aC De)
 · rw [if_pos h]
   exact ⟨lo, by rw [show (aC N : Int) - aC De - 1 + 1 = (aC N : Int) - aC De by omega]; exact h⟩
 · rw [if_neg h]
   exact ⟨h, hi⟩

def Fm.rQ (F : Fm) (N De : Nat) : Int := max (rE N De - F.p + 1) F.qmin

def Fm.rN (F : Fm) (N De : Nat) : Nat := N * 2 ^ (-(F.rQ N De)).toNat

def Fm.rM (F : Fm) (N De : Nat) : Nat := De * 2 ^ (F.rQ N De).toNat

def rUp (n m : Nat) : Nat := if m < 2 * (n % m) ∨ (2 * (n % m) = m ∧ n / m % 2 = 1) then 1 else 0

def Fm.rS (F : Fm) (N De : Nat) : Nat := F.rN N De / F.rM N De + rUp (F.rN N De) (F.rM N De)

def Fm.rSig (F : Fm) (N De : Nat) : Nat := if F.rS N De = 2 ^ F.p then F.lead else F.rS N De

def Fm.rExp (F : Fm) (N De : Nat) : Int := if F.rS N De = 2 ^ F.p then F.rQ N De + 1 else F.rQ N De

def Fm.rPt (F : Fm) (n : Bool) (N De : Nat) : Pt :=
 if F.rSig N De = 0 then ⟨1, n, 0, 0⟩ else if F.rSig N De < F.lead then ⟨2, n, F.rSig N De, F.rExp N De⟩
 else if (F.emax : Int) < F.rExp N De + F.p - 1 then ⟨4, n, 0, 0⟩ else ⟨3, n, F.rSig N De, F.rExp N De⟩

def Fm.rFl (F : Fm) (N De : Nat) (tiny range : Int) : Int :=
 if F.rSig N De = 0 then tiny else if F.rSig N De < F.lead then tiny
 else if (F.emax : Int) < F.rExp N De + F.p - 1 then range else 0

theorem Fm.Ok.rS_ok {F : Fm} (h : F.Ok) (N De : Nat) (hN : 0 < N) (hd : 0 < De) :
 0 < F.rM N De ∧ F.rN N De / F.rM N De < 2 ^ F.p ∧ (F.qmin < F.rQ N De → F.lead ≤ F.rN N De / F.rM N De) := by
 have hp := h.p1
 obtain ⟨e1, e2⟩ := CN N De hN hd
 have hM : 0 < F.rM N De := Nat.mul_pos hd (Nat.pow_pos (by omega))
 have hq : F.rQ N De = max (rE N De - F.p + 1) F.qmin := rfl
 refine ⟨hM, ?_, fun hlt => ?_⟩
 · rw [Nat.div_lt_iff_lt_mul hM]
   have k := oL (e' := F.rQ N De + F.p) hd e2 (by omega)
   rw [gW N De _ (-(F.rQ N De)).toNat (by omega), show (((-(F.rQ N De)).toNat : Int) + (F.rQ N De + F.p)).toNat = F.p + (F.rQ N De).toNat by omega, Nat.pow_add] at k
   show N * 2 ^ (-(F.rQ N De)).toNat < 2 ^ F.p * (De * 2 ^ (F.rQ N De).toNat)
   rw [Nat.mul_left_comm]
   exact k
 · have k : ¬ lt2 N De (F.rQ N De + F.p - 1) := by
    rw [show F.rQ N De + F.p - 1 = rE N De by omega]; exact e1
   rw [Nat.le_div_iff_mul_le hM]
   rw [gW N De _ (-(F.rQ N De)).toNat (by omega), show (((-(F.rQ N De)).toNat : Int) + (F.rQ N De + F.p - 1)).toNat = (F.p - 1) + (F.rQ N De).toNat by omega, Nat.pow_add] at k
   show 2 ^ (F.p - 1) * (De * 2 ^ (F.rQ N De).toNat) ≤ N * 2 ^ (-(F.rQ N De)).toNat
   rw [Nat.mul_left_comm]
   omega

theorem Fm.Ok.two_lead {F : Fm} (h : F.Ok) : 2 ^ F.p = 2 * F.lead := by
 have p1 := h.p1
 unfold Fm.lead
 rw [Nat.mul_comm, ← Nat.pow_succ]; congr 1; omega

theorem I6 (n m : Nat) : rUp n m ≤ 1 := by unfold rUp; split <;> omega

theorem Fm.Ok.rS_le {F : Fm} (h : F.Ok) (N De : Nat) (hN : 0 < N) (hd : 0 < De) : F.rS N De ≤ 2 ^ F.p := by
 have := h.rS_ok N De hN hd
 have := I6 (F.rN N De) (F.rM N De)
 unfold Fm.rS
 omega

theorem Fm.Ok.rSig_lt {F : Fm} (h : F.Ok) (N De : Nat) (hN : 0 < N) (hd : 0 < De) : F.rSig N De < 2 * F.lead := by
 have h1 := h.rS_le N De hN hd
 have h2 := h.two_lead
 have h3 := h.leadPos
 unfold Fm.rSig
 split <;> omega

theorem Fm.Ok.rLow {F : Fm} (h : F.Ok) (N De : Nat) (hN : 0 < N) (hd : 0 < De) (hs : F.rSig N De < F.lead) : F.rExp N De = F.qmin ∧ F.rSig N De = F.rS N De ∧ F.rS N De ≠ 2 ^ F.p := by
 have h1 := h.rS_ok N De hN hd
 have h3 := h.leadPos
 have h2 := h.two_lead
 unfold Fm.rSig at hs
 by_cases hc : F.rS N De = 2 ^ F.p
 · rw [if_pos hc] at hs; omega
 · rw [if_neg hc] at hs
   refine ⟨?_, by unfold Fm.rSig; rw [if_neg hc], hc⟩
   unfold Fm.rExp
   rw [if_neg hc]
   have hq : F.rQ N De = max (rE N De - F.p + 1) F.qmin := rfl
   have hle : F.rN N De / F.rM N De ≤ F.rS N De := by unfold Fm.rS; omega
   by_cases hlt : F.qmin < F.rQ N De
   · have := h1.2.2 hlt; omega
   · omega

theorem Fm.Ok.rPt_proper {F : Fm} (h : F.Ok) (n : Bool) (N De : Nat) (hN : 0 < N) (hd : 0 < De) : F.Proper (F.rPt n N De) := by
 have h1 := h.rSig_lt N De hN hd
 have h2 := h.rLow N De hN hd
 have h3 := h.top2
 have h4 : F.qmin ≤ F.rExp N De := by
  have hq : F.rQ N De = max (rE N De - F.p + 1) F.qmin := rfl
  unfold Fm.rExp; split <;> omega
 have h5 : F.qmin = 2 - (F.emax : Int) - (F.p : Int) := rfl
 unfold Fm.rPt
 by_cases c1 : F.rSig N De = 0
 · rw [if_pos c1]; exact .inl ⟨rfl, rfl, rfl⟩
 · rw [if_neg c1]
   by_cases c2 : F.rSig N De < F.lead
   · rw [if_pos c2]
     exact .inr (.inr (.inr (.inl ⟨rfl, by simp only; omega, c2, (h2 c2).1⟩)))
   · rw [if_neg c2]
     by_cases c3 : (F.emax : Int) < F.rExp N De + F.p - 1
     · rw [if_pos c3]; exact .inr (.inl ⟨rfl, rfl, rfl⟩)
     · rw [if_neg c3]
       exact .inr (.inr (.inr (.inr ⟨rfl, by simp only; omega, h1, by simp only; omega, by simp only; omega⟩)))

end Go.Proofs.YtdfljbpcjkbflaaGreatDoor.M
