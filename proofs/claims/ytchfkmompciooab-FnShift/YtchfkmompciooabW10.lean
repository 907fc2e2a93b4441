import Derived.Test.YtchfkmompciooabW8a
import Derived.Test.YtchfkmompciooabMulM
import Derived.Test.YtchfkmompciooabCom
import Derived.Lib.Mul64
import Derived.Shelf.Bits.Mul64
namespace Go.Proofs.Ytchfkmompciooab
open Go.RowKit
set_option linter.unusedVariables false

set_option maxHeartbeats 1000000 in
theorem mul64_any (x y : Nat) (w : World) (hx : x < 18446744073709551616) (hy : y < 18446744073709551616) (h l : Nat) (hh : h = x * y / 18446744073709551616) (hl : l = x * y % 18446744073709551616) :
    Calls Try.prog 59 #[.int .u64 (x : Int), .int .u64 (y : Int)] w fun e w' => e = .returned (.tuple #[.int .u64 (h : Int), .int .u64 (l : Int)]) ∧ w' = w := by
  subst hh hl
  obtain ⟨bd, bt, bw, hhi⟩ := Lib.mul64_hi x y hx hy
  have ba := Lib.half_mul_le (a := x / 4294967296) (b := y / 4294967296) (by omega) (by omega)
  have bb := Lib.half_mul_le (a := x / 4294967296) (b := y % 4294967296) (by omega) (by omega)
  have bc := Lib.half_mul_le (a := x % 4294967296) (b := y / 4294967296) (by omega) (by omega)
  have ba' : x / 4294967296 * (y / 4294967296) < 18446744073709551616 := by omega
  have bb' : x / 4294967296 * (y % 4294967296) < 18446744073709551616 := by omega
  have bc' : x % 4294967296 * (y / 4294967296) < 18446744073709551616 := by omega
  have bh1 : x / 4294967296 * (y / 4294967296) + (x / 4294967296 * (y % 4294967296) + x % 4294967296 * (y % 4294967296) / 4294967296) / 4294967296 < 18446744073709551616 := by omega
  have bh : x / 4294967296 * (y / 4294967296) + (x / 4294967296 * (y % 4294967296) + x % 4294967296 * (y % 4294967296) / 4294967296) / 4294967296 + ((x / 4294967296 * (y % 4294967296) + x % 4294967296 * (y % 4294967296) / 4294967296) % 4294967296 + x % 4294967296 * (y / 4294967296)) / 4294967296 < 18446744073709551616 := by omega
  go_enter Try.func59, Try.ntmps59
  go_wp2
  simp only [Mul64.maskN x hx, Mul64.maskN y hy, Mul64.divN, Mul64.mulN, Mul64.addN, Mul64.wrapN _ bd, Mul64.wrapN _ bb', Mul64.wrapN _ bt, Mul64.maskN _ bt, Mul64.wrapN _ bc', Mul64.wrapN _ bw, Mul64.wrapN _ ba', Mul64.wrapN _ bh1, Mul64.wrapN _ bh, Mul64.wrapM (x * y)]
  rw [hhi]
  go_ret2
  exact ⟨rfl, rfl⟩

theorem wrapU_in (x y p : Nat) (hp : p = x + y) (hb : p < 18446744073709551616) : IntKind.u64.wrap ((x : Int) + (y : Int)) = (p : Int) :=
  wrapU2 x y p (by omega)

/-- What addTimesIn leaves: the view holds what it held and f times t, but for the carry c. -/
def TimesPost (w w' : World) (g : Nat) (zs : List Nat) (off N : Nat) (t : Nat) (c : Nat) : Prop :=
  w.grownBy w' (some g) ∧ c < 18446744073709551616 ∧ ∃ cur, Blk w' g cur ∧ M.Wrote 18446744073709551616 zs off N cur ∧ V (M.seg cur off N) + c * 18446744073709551616 ^ N = V (M.seg zs off N) + t

set_option maxHeartbeats 1000000 in
theorem addTimesIn_any (g off N cap : Nat) (ao bo : Option Addr) (d f : Nat) (zs ys : List Nat) (w : World) (hao : 0 < N → ao = some ⟨g, off, none⟩) (hB : Blk w g zs) (hz : F64 zs) (ho : off + N ≤ zs.length) (hN : N ≤ 4194304) (hm : ys.length = N) (hy : F64 ys) (hf : f < 18446744073709551616) (hr : Rd w bo ys) (hsep : 0 < ys.length → ∀ b2 o2, bo = some ⟨b2, o2, none⟩ → b2 ≠ g) :
    Calls Try.prog 54 #[.slice ao N cap, .slice bo N d, .int .u64 (f : Int)] w fun e w' => ∃ c : Nat, e = .returned (.int .u64 (c : Int)) ∧ TimesPost w w' g zs off N (f * V ys) c := by
  go_enter Try.func54, Try.ntmps54
  go_wp2_with fail
  go_loopw [7, 14] (fun cy i wr => ∃ (k : Nat) (cur : List Nat) (c : Nat), k ≤ N ∧ i = .int .i64 k ∧ cy = .int .u64 c ∧ c < 18446744073709551616 ∧ Blk wr g cur ∧ M.Wrote 18446744073709551616 zs off N cur ∧ w.grownBy wr (some g) ∧ V (M.seg cur off N) + c * 18446744073709551616 ^ k = V (M.seg zs off N) + f * V (ys.take k)) (fun _ i _ => N - (intOf i).toNat)
  case atStart => exact ⟨0, zs, 0, by omega, rfl, rfl, by omega, hB, M.Wrote.refl hz _ _, World.grownBy.refl _ _, by simp [V, M.val]⟩
  case round =>
    obtain ⟨k, cur, c, hk, rfl, rfl, hc, hBk, hW, hg, hv⟩ := hrel
    have HV := hid hv; clear hv
    by_cases hlt : k < N
    · have hao' := hao (by omega)
      obtain ⟨b2, o2, hbo, hcl⟩ := hr (by omega)
      have hck : wr.cell? ⟨b2, o2 + k, none⟩ = some (.int .u64 ((ys.getD k 0 : Nat) : Int)) := hg.cell (hcl k (by omega)) (by simpa using hsep (by omega) b2 o2 hbo)
      clear hcl
      have hy1 := hy.get k
      obtain ⟨y, hyy⟩ : ∃ y : Nat, y = ys.getD k 0 := ⟨_, rfl⟩
      rw [← hyy] at hck hy1
      have HY := hid hyy; clear hyy
      have hca := hBk.cell (off + k) (by have := hW.len; omega)
      have hfa := hBk.frozen (off + k)
      have hx1 : cur.getD (off + k) 0 < 18446744073709551616 := M.getD_lt (by omega) hW.lt _
      obtain ⟨x, hxx⟩ : ∃ x : Nat, x = cur.getD (off + k) 0 := ⟨_, rfl⟩
      rw [← hxx] at hca hx1
      have HX := hid hxx; clear hxx
      have hlt' : (k : Int) < (N : Int) := by omega
      have HB := hid hBk; clear hBk
      have HG := hid hg; clear hg
      obtain ⟨l2, r1, h2, o, r2, c', el2, er1, eh2, bh2, eo, er2, ec', bc', bo', hs⟩ := M.times_place x y f c (y * f) rfl hx1 hy1 hf hc
      obtain ⟨hi, ehi⟩ : ∃ h : Nat, h = y * f / 18446744073709551616 := ⟨_, rfl⟩
      obtain ⟨lo, elo⟩ : ∃ h : Nat, h = y * f % 18446744073709551616 := ⟨_, rfl⟩
      rw [← elo] at el2
      rw [← ehi] at eh2
      have w1 := wrapU2 lo c l2 el2
      have w2 := wrapU_in hi r1 h2 eh2 bh2
      have w3 := wrapU2 x l2 o eo
      have w4 := wrapU_in h2 r2 c' ec' bc'
      have E1 := hid ehi; have E2 := hid elo; have E3 := hid er1; have E4 := hid er2; have E5 := hid hs; have E6 := hid bc'; have E7 := hid bo'
      clear ehi elo er1 er2 hs bc' bo' el2 eh2 bh2 eo ec'
      go_wp2_with fail
      refine (mul64_any y f _ hy1 hf hi lo E1.out E2.out).mono ?_
      rintro e v1 ⟨rfl, rfl⟩
      go_wp2_with fail
      refine (less_any _ _ _ r1 E3.out).mono ?_
      rintro e v2 ⟨rfl, rfl⟩
      go_wp2_with fail
      refine (less_any _ _ _ r2 E4.out).mono ?_
      rintro e w3' ⟨rfl, hw3⟩
      have hB3 : Blk w3' g (cur.set (off + k) o) := by rw [hw3]; exact HB.out.set _ _ _ rfl
      have hg3 : w.grownBy w3' (some g) := by rw [hw3]; exact grown_trans HG.out (grown_setCell _ _ _ _)
      have hW3 := hW.set k o (by omega) E7.out
      have HB3 := hid hB3; clear hB3
      have HG3 := hid hg3; clear hg3
      clear hw3 hca hfa hck
      go_wp2_with fail
      go_roundw
      case rel =>
        have R : ∃ (k1 : Nat) (cur1 : List Nat) (c1 : Nat), k1 ≤ N ∧ Value.int .i64 ((k : Int) + 1) = .int .i64 k1 ∧ Value.int .u64 (c' : Int) = .int .u64 c1 ∧ c1 < 18446744073709551616 ∧ Blk w3' g cur1 ∧ M.Wrote 18446744073709551616 zs off N cur1 ∧ w.grownBy w3' (some g) ∧ V (M.seg cur1 off N) + c1 * 18446744073709551616 ^ k1 = V (M.seg zs off N) + f * V (ys.take k1) := by
          refine ⟨k + 1, cur.set (off + k) o, c', by omega, by go_num, rfl, E6.out, HB3.out, hW3, HG3.out, ?_⟩
          unfold V
          rw [M.val_take_succ, ← HY.out, Nat.pow_succ]
          have h2 := M.val_seg_set 18446744073709551616 cur off N k o (by omega) (by have := hW.len; omega)
          rw [← HX.out] at h2
          exact M.times_over HV.out h2 E5.out
        first | exact R | ((repeat apply Exists.intro); exact ⟨R, rfl⟩) | ((repeat apply Exists.intro); exact ⟨R, by rw [hao', hbo]⟩)
      case measure => simp [intOf]; omega
    · have e : k = N := by omega
      subst e
      have HBk := hid hBk; clear hBk
      have HG := hid hg; clear hg
      go_wp2_with fail
      go_ret
      refine ⟨c, rfl, HG.out, hc, cur, HBk.out, hW, ?_⟩
      have := HV.out
      rwa [List.take_of_length_le (by omega)] at this

end Go.Proofs.Ytchfkmompciooab
