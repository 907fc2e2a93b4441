import Derived.Test.YtehplfmnipadmacDiv4
import Derived.Test.YtehplfmnipadmacDiv5
import Derived.Test.YtehplfmnipadmacW15a
import Derived.Test.YtehplfmnipadmacW19
import Derived.Test.YtehplfmnipadmacW16
import Derived.Test.YtehplfmnipadmacLb
namespace Go.Proofs.Ytehplfmnipadmac
open Go.RowKit
set_option linter.unusedVariables false
set_option maxRecDepth 100000

/-- Two new lists are handed back, in blocks of their own; nothing old has turned. -/
def RetD (w w' : World) (e : Ending) (q r : List Nat) : Prop :=
  ∃ ao ca bo cb mid, e = .returned (.tuple #[.slice ao q.length ca, .slice bo r.length cb]) ∧ w.heap.size ≤ mid ∧ mid ≤ w'.heap.size ∧ Own w' w.heap.size mid ao ca q ∧ Own w' mid w'.heap.size bo cb r ∧ Below w.heap.size w w'

theorem Own.widen {w : World} {lo hi lo' hi' : Nat} {ao : Option Addr} {cap : Nat} {r : List Nat} (h : Own w lo hi ao cap r) (h1 : lo' ≤ lo) (h2 : hi ≤ hi') : Own w lo' hi' ao cap r :=
  ⟨h.row, fun k hk => by have := h.place k hk; omega⟩

theorem Own.nil (w : World) (lo hi : Nat) : Own w lo hi none 0 [] := ⟨World.ownsRow_nil _ _ _ _, fun k hk => by simp [Value.ownBlock] at hk⟩

theorem RetD.later {w w1 w2 : World} {e : Ending} {q r : List Nat} (h : RetD w1 w2 e q r) (hb : Below w.heap.size w w1) : RetD w w2 e q r := by
  obtain ⟨ao, ca, bo, cb, mid, he, g1, g2, h1, h2, h3⟩ := h
  exact ⟨ao, ca, bo, cb, mid, he, Nat.le_trans hb.size g1, g2, h1.widen hb.size (Nat.le_refl _), h2, hb.trans (h3.mono hb.size)⟩

/-- The limbs of a block's beginning, trimmed. -/
theorem Blk.ownTrim {w : World} {g : Nat} {zs : List Nat} (h : Blk w g zs) (hz : F64 zs) (hm : zs.length ≤ 4194304) : Own w g (g + 1) (some ⟨g, 0, none⟩) zs.length (L (V zs)) := by
  have h3 := h.ownPre (base := 0) (c := zs.length) (Nat.zero_le _) (L_len _ hz) rfl (by unfold maxLen; omega)
  rw [L_take _ hz] at h3
  exact ⟨h3, fun k hk => by simp [Value.ownBlock] at hk; omega⟩

theorem L_one (b : Nat) (h : (L b).length = 1) : L b = [b] := by
  have h1 : b < 18446744073709551616 ^ 1 := L_lt b 1 (by omega)
  have hp : 0 < b := by
    rcases Nat.eq_zero_or_pos b with rfl | hp
    · have : L 0 = [] := M.dig_zero _
      rw [this] at h; simp at h
    · exact hp
  unfold L
  rw [M.dig_pos (by omega) hp, Nat.mod_eq_of_lt (by omega), Nat.div_eq_of_lt (by omega), M.dig_zero]

set_option maxHeartbeats 1000000 in
theorem divMod_lt (ao bo : Option Addr) (n m c d : Nat) (a b : Nat) (w : World) (hl : (L a).length = n) (hm : (L b).length = m) (hab : a < b) (hn : n ≤ 1048576) (hn2 : m ≤ 1048576) (hr : Rd w ao (L a)) (hr2 : Rd w bo (L b)) :
    Calls Try.prog 54 #[.slice ao n c, .slice bo m d] w fun e w' => RetD w w' e (L (a / b)) (L (a % b)) := by
  rw [Nat.div_eq_of_lt hab, Nat.mod_eq_of_lt hab, show L 0 = [] from M.dig_zero _]
  have hcmp := cmpI_neg hab
  go_enter Try.func54, Try.ntmps54
  go_wp2_with fail
  refine (compare_any ao bo n m c d a b _ hl hm (by omega) (by omega) hr hr2).mono ?_
  rintro e w1 ⟨rfl, q1, rfl⟩
  have hb1 := below_drewN (Below.refl w.heap.size w) q1
  generalize w.drewN q1 = w1 at hb1 ⊢
  go_wp2_with fail
  refine (clone_any ao n c 0 (L a) _ hl (by omega) (by omega) (hr.below hb1)).mono ?_
  rw [List.replicate_zero, List.append_nil]
  rintro e w2 ⟨rfl, hB2, hb2⟩
  go_wp2_with fail
  go_ret2
  have ho := hB2.toOwn (by omega)
  rw [hl] at ho
  refine ⟨none, 0, some ⟨w1.heap.size, 0, none⟩, n, w1.heap.size, ?_, hb1.size, hb2.size, Own.nil _ _ _, ho.widen (Nat.le_refl _) (by have := hB2.lt; omega), hb1.trans (hb2.mono hb1.size)⟩
  rw [hl]
  rfl

set_option maxHeartbeats 1000000 in
theorem divMod_one (ao bo : Option Addr) (n c d : Nat) (a b : Nat) (w : World) (hl : (L a).length = n) (hm : (L b).length = 1) (hab : b ≤ a) (hn : n ≤ 1048576) (hr : Rd w ao (L a)) (hr2 : Rd w bo (L b)) :
    Calls Try.prog 54 #[.slice ao n c, .slice bo 1 d] w fun e w' => RetD w w' e (L (a / b)) (L (a % b)) := by
  have hcmp := cmpI_nonneg hab
  have hb1 := L_one b hm
  have hbb : b < 18446744073709551616 := by have := L_lt b 1 (by omega); omega
  have hb0 : 0 < b := by
    rcases Nat.eq_zero_or_pos b with rfl | hp
    · rw [show L 0 = [] from M.dig_zero _] at hm; simp at hm
    · exact hp
  obtain ⟨qq, eqq⟩ : ∃ x, x = a / b := ⟨_, rfl⟩
  obtain ⟨rr, err⟩ : ∃ x, x = a % b := ⟨_, rfl⟩
  have hrr : rr < 18446744073709551616 := by rw [err]; exact Nat.lt_trans (Nat.mod_lt _ hb0) hbb
  rw [← eqq, ← err]
  have EQ := hid eqq; have ER := hid err
  clear eqq err
  go_enter Try.func54, Try.ntmps54
  go_wp2_with fail
  refine (compare_any ao bo n 1 c d a b _ hl hm (by omega) (by omega) hr hr2).mono ?_
  rintro e w1 ⟨rfl, q1, rfl⟩
  have hbl1 := below_drewN (Below.refl w.heap.size w) q1
  generalize w.drewN q1 = w1 at hbl1 ⊢
  go_wp2_with fail
  refine (clone_any ao n c 0 (L a) _ hl (by omega) (by omega) (hr.below hbl1)).mono ?_
  rw [List.replicate_zero, List.append_nil]
  rintro e w2 ⟨rfl, hB2, hbl2⟩
  have hblw2 := hbl1.trans (hbl2.mono hbl1.size)
  obtain ⟨bb, oo, hbo, hcl⟩ := (hr2.below hblw2) (by omega)
  have hc0 := hcl 0 (by omega)
  rw [hb1] at hc0
  simp only [List.getD_cons_zero, Nat.add_zero] at hc0
  clear hcl
  have HB2 := hid hB2; clear hB2
  go_wp2_with fail
  refine (divLimbIn_any w1.heap.size n n b _ (L a) _ (fun _ => rfl) HB2.out (F64_L a) (by omega) (by omega) hb0 hbb).mono ?_
  rw [List.take_of_length_le (by omega), V_L, ← EQ.out, ← ER.out]
  rintro e w3 ⟨rfl, hg3, cur, hB3, hW3, hv3⟩
  have hcl3 : cur.length = n := by rw [hW3.len]; exact hl
  rw [List.take_of_length_le (by omega)] at hv3
  have hblw3 : Below w.heap.size w w3 := hblw2.grown hg3 hblw2.size (fun k h => by cases h; exact hbl1.size)
  have hlit := blk_lit w3 [rr]
  have hU1 : (U [rr]).toArray = #[Value.int .u64 (rr : Int)] := rfl
  have hbl4 : Below w3.heap.size w3 (w3.alloc (.cells (U [rr]).toArray 50)) := (Below.refl _ _).alloc (Nat.le_refl _) _
  rw [hU1] at hlit hbl4
  have hB4 := hB3.keep hbl4
  have hf1 : F64 [rr] := by intro y hy; simp at hy; omega
  have hv1 : V [rr] = rr := by simp [V, M.val]
  have hblw4 := hblw3.trans (hbl4.mono hblw3.size)
  have hg1lt : w1.heap.size < w3.heap.size := hB3.lt
  have HB4 := hid hB4; have HLIT := hid hlit; have HBL4 := hid hblw4; have HV1 := hid hv1; have HV3 := hid hv3; have HB3 := hid hB3
  clear hB4 hlit hblw4 hv1 hv3 hB3 hU1 hbl4 hc0 HB2
  go_wp2_with fail
  have hB4 := HB4.out; have hlit := HLIT.out; have hblw4 := HBL4.out
  generalize w3.alloc (.cells #[Value.int .u64 (rr : Int)] 50) = w4 at hB4 hlit hblw4 ⊢
  refine (trim_any _ n n cur _ hcl3 (Nat.le_refl _) (by omega) hW3.lt hB4.rd0).mono ?_
  rw [HV3.out]
  rintro e w5 ⟨rfl, rfl⟩
  go_wp2_with fail
  refine (trim_any _ 1 1 [rr] _ rfl (Nat.le_refl _) (by omega) hf1 hlit.rd0).mono ?_
  rw [HV1.out]
  rintro e w6 ⟨rfl, rfl⟩
  go_wp2_with fail
  go_ret2
  have o1 := hB4.ownTrim hW3.lt (by omega)
  have o2 := hlit.ownTrim hf1 (by simp)
  rw [HV3.out, hcl3] at o1
  rw [HV1.out] at o2
  exact ⟨_, _, _, _, w3.heap.size, rfl, hblw3.size, (by have := hlit.lt; omega), o1.widen hbl1.size (by omega), o2.widen (Nat.le_refl _) (by have := hlit.lt; omega), hblw4⟩

end Go.Proofs.Ytehplfmnipadmac
