import Derived.Test.YtehplfmnipadmacDiv2
import Derived.Test.YtehplfmnipadmacW10
import Derived.OwnWalk
namespace Go.Proofs.Ytehplfmnipadmac
open Go.RowKit
set_option linter.unusedVariables false
set_option maxRecDepth 100000

/-- One place of 'take f times ys away'. -/
theorem M.less_place (x y f c p : Nat) (hp : p = y * f) (hx : x < 18446744073709551616) (hy : y < 18446744073709551616) (hf : f < 18446744073709551616) (hc : c < 18446744073709551616) :
    ∃ l2 r1 h2 o r2 c' : Nat, l2 = (p % 18446744073709551616 + c) % 18446744073709551616 ∧ r1 = (if (l2 : Int) < (c : Int) then 1 else 0) ∧ h2 = p / 18446744073709551616 + r1 ∧ h2 < 18446744073709551616 ∧
      o = (x + 18446744073709551616 - l2) % 18446744073709551616 ∧ r2 = (if (x : Int) < (l2 : Int) then 1 else 0) ∧ c' = h2 + r2 ∧ c' < 18446744073709551616 ∧ o < 18446744073709551616 ∧ l2 < 18446744073709551616 ∧ o + p + c = x + 18446744073709551616 * c' := by
  have hb : p ≤ 18446744073709551615 * 18446744073709551615 := by rw [hp]; exact Nat.mul_le_mul (by omega) (by omega)
  refine ⟨_, _, _, _, _, _, rfl, rfl, rfl, ?_, rfl, rfl, rfl, ?_, ?_, ?_, ?_⟩
  · split <;> omega
  · split <;> split <;> omega
  · omega
  · omega
  · split <;> split <;> omega

theorem M.less_over {V V' V0 T c c' P B x y o f : Nat} (h : V + f * T = V0 + c * P) (hv : V' + P * x = V + P * o) (hs : o + y * f + c = x + B * c') : V' + f * (T + P * y) = V0 + c' * (P * B) := by
  have e : P * (o + y * f + c) = P * (x + B * c') := by rw [hs]
  simp only [Nat.mul_add] at e ⊢
  rw [Nat.mul_comm c' (P * B), Nat.mul_assoc]
  rw [Nat.mul_comm c P] at h
  have e2 : f * (P * y) = P * (y * f) := by rw [Nat.mul_comm f, Nat.mul_assoc]
  rw [e2]
  omega

/-- What subTimesIn leaves. -/
def LessPost (w w' : World) (g : Nat) (zs : List Nat) (off N : Nat) (t : Nat) (c : Nat) : Prop :=
  w.grownBy w' (some g) ∧ c < 18446744073709551616 ∧ ∃ cur, Blk w' g cur ∧ M.Wrote 18446744073709551616 zs off N cur ∧ V (M.seg cur off N) + t = V (M.seg zs off N) + c * 18446744073709551616 ^ N

set_option maxHeartbeats 1000000 in
theorem subTimesIn_any (g off N cap : Nat) (ao bo : Option Addr) (d f : Nat) (zs ys : List Nat) (w : World) (hao : 0 < N → ao = some ⟨g, off, none⟩) (hB : Blk w g zs) (hz : F64 zs) (ho : off + N ≤ zs.length) (hN : N ≤ 4194304) (hm : ys.length = N) (hy : F64 ys) (hf : f < 18446744073709551616) (hr : Rd w bo ys) (hsep : 0 < ys.length → ∀ b2 o2, bo = some ⟨b2, o2, none⟩ → b2 ≠ g) :
    Calls Try.prog 109 #[.slice ao N cap, .slice bo N d, .int .u64 (f : Int)] w fun e w' => ∃ c : Nat, e = .returned (.int .u64 (c : Int)) ∧ LessPost w w' g zs off N (f * V ys) c := by
  go_enter Try.func109, Try.ntmps109
  go_wp2_with fail
  go_loopw [7, 14] (fun cy i wr => ∃ (k : Nat) (cur : List Nat) (c : Nat), k ≤ N ∧ i = .int .i64 k ∧ cy = .int .u64 c ∧ c < 18446744073709551616 ∧ Blk wr g cur ∧ M.Wrote 18446744073709551616 zs off N cur ∧ w.grownBy wr (some g) ∧ V (M.seg cur off N) + f * V (ys.take k) = V (M.seg zs off N) + c * 18446744073709551616 ^ k) (fun _ i _ => N - (intOf i).toNat)
  case atStart => exact ⟨0, zs, 0, by omega, rfl, rfl, by omega, hB, M.Wrote.refl hz _ _, World.grownBy.refl _ _, by simp [V, M.val]⟩
  case round =>
    obtain ⟨k, cur, c, hk, rfl, rfl, hc, hBk, hW, hg, hv⟩ := hrel
    have HV := hid hv; clear hv
    by_cases hlt : k < N
    · have hao' := hao (by omega)
      obtain ⟨b2, o2, hbo, hcl⟩ := hr (by omega)
      have hck : wr.cell? ⟨b2, o2 + k, none⟩ = some (.int .u64 ((ys.getD k 0 : Nat) : Int)) := hg.cell (hcl k (by omega)) (by simpa using hsep (by omega) b2 o2 hbo)
      clear hcl
      have hy1 := hy.get k
      obtain ⟨y, hyy⟩ : ∃ y : Nat, y = ys.getD k 0 := ⟨_, rfl⟩
      rw [← hyy] at hck hy1
      have HY := hid hyy; clear hyy
      have hca := hBk.cell (off + k) (by have := hW.len; omega)
      have hfa := hBk.frozen (off + k)
      have hx1 : cur.getD (off + k) 0 < 18446744073709551616 := M.getD_lt (by omega) hW.lt _
      obtain ⟨x, hxx⟩ : ∃ x : Nat, x = cur.getD (off + k) 0 := ⟨_, rfl⟩
      rw [← hxx] at hca hx1
      have HX := hid hxx; clear hxx
      have hlt' : (k : Int) < (N : Int) := by omega
      have HB := hid hBk; clear hBk
      have HG := hid hg; clear hg
      obtain ⟨l2, r1, h2, o, r2, c', el2, er1, eh2, bh2, eo, er2, ec', bc', bo', bl2, hs⟩ := M.less_place x y f c (y * f) rfl hx1 hy1 hf hc
      obtain ⟨hi, ehi⟩ : ∃ h : Nat, h = y * f / 18446744073709551616 := ⟨_, rfl⟩
      obtain ⟨lo, elo⟩ : ∃ h : Nat, h = y * f % 18446744073709551616 := ⟨_, rfl⟩
      rw [← elo] at el2
      rw [← ehi] at eh2
      have w1 := wrapU2 lo c l2 el2
      have w2 := wrapU_in hi r1 h2 eh2 bh2
      have w3 := wrapSub x l2 o eo (by omega)
      have w4 := wrapU_in h2 r2 c' ec' bc'
      have E1 := hid ehi; have E2 := hid elo; have E3 := hid er1; have E4 := hid er2; have E5 := hid hs; have E6 := hid bc'; have E7 := hid bo'
      clear ehi elo er1 er2 hs bc' bo' el2 eh2 bh2 eo ec'
      go_wp2_with fail
      refine (mul64_any y f _ hy1 hf hi lo E1.out E2.out).mono ?_
      rintro e v1 ⟨rfl, rfl⟩
      go_wp2_with fail
      refine (less_any _ _ _ r1 E3.out).mono ?_
      rintro e v2 ⟨rfl, rfl⟩
      go_wp2_with fail
      refine (less_any _ _ _ r2 E4.out).mono ?_
      rintro e w3' ⟨rfl, rfl⟩
      go_wp2_with fail
      have hW3 := hW.set k o (by omega) E7.out
      go_roundw
      case rel =>
        have R : ∃ (k1 : Nat) (cur1 : List Nat) (c1 : Nat), k1 ≤ N ∧ Value.int .i64 ((k : Int) + 1) = .int .i64 k1 ∧ Value.int .u64 (c' : Int) = .int .u64 c1 ∧ c1 < 18446744073709551616 ∧ Blk (w3'.setCell ⟨g, off + k, none⟩ (.int .u64 (o : Int))) g cur1 ∧ M.Wrote 18446744073709551616 zs off N cur1 ∧ w.grownBy (w3'.setCell ⟨g, off + k, none⟩ (.int .u64 (o : Int))) (some g) ∧ V (M.seg cur1 off N) + f * V (ys.take k1) = V (M.seg zs off N) + c1 * 18446744073709551616 ^ k1 := by
          refine ⟨k + 1, cur.set (off + k) o, c', by omega, by go_num, rfl, E6.out, HB.out.set _ _ _ rfl, hW3, grown_trans HG.out (grown_setCell _ _ _ _), ?_⟩
          unfold V
          rw [M.val_take_succ, ← HY.out, Nat.pow_succ]
          have h2 := M.val_seg_set 18446744073709551616 cur off N k o (by omega) (by have := hW.len; omega)
          rw [← HX.out] at h2
          exact M.less_over HV.out h2 E5.out
        first | exact R | ((repeat apply Exists.intro); exact ⟨R, rfl⟩) | ((repeat apply Exists.intro); exact ⟨R, by rw [hao', hbo]⟩)
      case measure => simp [intOf]; omega
    · have e : k = N := by omega
      subst e
      have HBk := hid hBk; clear hBk
      have HG := hid hg; clear hg
      go_wp2_with fail
      go_ret
      refine ⟨c, rfl, HG.out, hc, cur, HBk.out, hW, ?_⟩
      have := HV.out
      rwa [List.take_of_length_le (by omega)] at this

/-- The estimate of a place: the guess and what is left (as a number of any size). -/
theorem M.est_ge {hi lo top q g : Nat} (ht : 0 < top) (hg : g = (hi * 18446744073709551616 + lo) / top) (h : q * top ≤ hi * 18446744073709551616 + lo) : q ≤ g := by
  rw [hg]; exact (Nat.le_div_iff_mul_le ht).2 h

def estG (hi lo top : Nat) : Nat := if hi < top then (hi * 18446744073709551616 + lo) / top else 18446744073709551615
def estL (hi lo top : Nat) : Nat := if hi < top then (hi * 18446744073709551616 + lo) % top else lo + top

theorem est_facts (hi lo top : Nat) (hlo : lo < 18446744073709551616) (htb : top < 18446744073709551616) (ht : 9223372036854775808 ≤ top) (hht : hi ≤ top) :
    estG hi lo top * top + estL hi lo top = hi * 18446744073709551616 + lo ∧ estG hi lo top < 18446744073709551616 ∧ estL hi lo top < 2 * 18446744073709551616 ∧ ∀ q, q < 18446744073709551616 → q * top ≤ hi * 18446744073709551616 + lo → q ≤ estG hi lo top := by
  unfold estG estL
  split
  · next h =>
    refine ⟨by rw [Nat.mul_comm]; exact Nat.div_add_mod _ _, ?_, by have := Nat.mod_lt (hi * 18446744073709551616 + lo) (show 0 < top by omega); omega, fun q _ h => M.est_ge (by omega) rfl h⟩
    rw [Nat.div_lt_iff_lt_mul (by omega)]
    have h1 : (hi + 1) * 18446744073709551616 ≤ top * 18446744073709551616 := Nat.mul_le_mul_right _ h
    rw [Nat.mul_comm 18446744073709551616 top]; omega
  · next h =>
    have e : hi = top := by omega
    subst e
    exact ⟨by omega, by omega, by omega, fun q h _ => by omega⟩

set_option maxHeartbeats 1000000 in
theorem estimate_any (hi lo top : Nat) (w : World) (hlo : lo < 18446744073709551616) (htb : top < 18446744073709551616) (ht : 9223372036854775808 ≤ top) (hht : hi ≤ top) (g l' : Nat) (sm : Bool) (hg : g = estG hi lo top) (hl' : l' = estL hi lo top % 18446744073709551616) (hsm : sm = decide (estL hi lo top < 18446744073709551616)) :
    Calls Try.prog 107 #[.int .u64 (hi : Int), .int .u64 (lo : Int), .int .u64 (top : Int)] w fun e w' => e = .returned (.tuple #[.int .u64 (g : Int), .int .u64 (l' : Int), .bool sm]) ∧ ∃ q, w' = w.drewN q := by
  by_cases hlt : hi < top
  · have hlt' : ¬ (top : Int) ≤ (hi : Int) := by omega
    have hQ : g = (hi * 18446744073709551616 + lo) / top := by rw [hg]; unfold estG; rw [if_pos hlt]
    have hR0 : estL hi lo top = (hi * 18446744073709551616 + lo) % top := by unfold estL; rw [if_pos hlt]
    have hRt := Nat.mod_lt (hi * 18446744073709551616 + lo) (show 0 < top by omega)
    rw [← hR0] at hRt
    rw [Nat.mod_eq_of_lt (by omega), hR0] at hl'
    have hsm' : sm = true := by rw [hsm]; exact decide_eq_true (by omega)
    rw [hsm']
    have EQ := hid hQ; have ER := hid hl'
    clear hQ hR0 hRt hl' hsm hsm' hg
    go_enter Try.func107, Try.ntmps107
    go_wp2_with fail
    refine (div64_any hi lo top _ hlo htb hlt g l' EQ.out ER.out).mono ?_
    rintro e w1 ⟨rfl, q1, rfl⟩
    go_wp2_with fail
    go_ret3
    exact ⟨rfl, _, rfl⟩
  · have e : hi = top := by omega
    subst e
    have hlt' : (hi : Int) ≤ (hi : Int) := by omega
    have hg' : g = 18446744073709551615 := by rw [hg]; unfold estG; rw [if_neg hlt]
    have hl0 : estL hi lo hi = lo + hi := by unfold estL; rw [if_neg hlt]
    rw [hl0] at hl' hsm
    rw [hg']
    have hmod : ((lo : Int) + (hi : Int)) % 18446744073709551616 = (l' : Int) := by omega
    have e1 : sm = decide ((hi : Int) ≤ ((lo : Int) + (hi : Int)) % 18446744073709551616) := by
      rw [hsm]; congr 1; apply propext; omega
    have HM := hid hmod; have E1 := hid e1
    clear hg hg' hl0 hl' hsm hmod e1
    go_enter Try.func107, Try.ntmps107
    go_wp2_with fail
    go_ret3
    refine ⟨?_, 0, rfl⟩
    rw [E1.out, ← HM.out]
    rfl

end Go.Proofs.Ytehplfmnipadmac
