import Derived.Test.YtchfkmompciooabW4
namespace Go.Proofs.Ytchfkmompciooab
open Go.RowKit
set_option linter.unusedVariables false

theorem own_addr {w : World} {base n cap : Nat} {ao : Option Addr} {xs : List Value} (h : w.ownsRow base 34 1 (.slice ao n cap) n xs) (hn : 0 < n) : ∃ g, ao = some ⟨g, 0, none⟩ ∧ base ≤ g := by
  rcases h.2 with ⟨he, h0⟩ | ⟨g, cap', cur, he, hb, _⟩
  · omega
  · simp only [Value.slice.injEq] at he
    exact ⟨g, he.1, hb⟩

/-- k, k + 1, ..: n of them. -/
def marks (k n : Nat) : List Nat := List.range' k n

theorem marks_step (xs : List Nat) (k0 n i : Nat) (hl : xs.length = n) (hi : i < n) : (marks k0 i ++ xs.drop i).set i (k0 + i) = marks k0 (i + 1) ++ xs.drop (i + 1) := by
  have hlen : (marks k0 i).length = i := by simp [marks]
  rw [List.set_append_right _ _ (by omega), hlen, Nat.sub_self, List.drop_eq_getElem_cons (by omega), List.set_cons_zero]
  unfold marks
  rw [List.range'_concat]
  simp

theorem U_setI (zs : List Nat) (i x : Nat) (v : Int) (hv : v = (x : Int)) : (U zs).set i (.int .u64 v) = U (zs.set i x) := by subst hv; exact (U_set zs i x).symm

set_option maxHeartbeats 400000 in
theorem mark_any (base : Nat) (ao : Option Addr) (n cap k0 : Nat) (xs : List Nat) (w : World) (ke : Nat) (hke : ke = k0 + n) (hn : n ≤ 4194304) (hk0 : k0 ≤ 16777216) (hown : w.ownsRow base 34 1 (.slice ao n cap) n (U xs)) :
    Calls Try.prog 11 #[.slice ao n cap, .int .i64 (k0 : Int)] w fun e w' => e = .returned (.int .i64 (ke : Int)) ∧ w'.ownsRow base 34 1 (.slice ao n cap) n (U (marks k0 n)) ∧ w.grownBy w' (Value.slice ao n cap).ownBlock := by
  subst hke
  have hl := own_len hown
  have HO := hid hown; clear hown
  have HL := hid hl; clear hl
  go_enter Try.func11, Try.ntmps11
  go_wp2
  go_loopw [1, 5] (fun kk i wr => ∃ k : Nat, k ≤ n ∧ i = .int .i64 k ∧ kk = .int .i64 ((k0 : Int) + k) ∧ wr.ownsRow base 34 1 (.slice ao n cap) n (U (marks k0 k ++ xs.drop k)) ∧ w.grownBy wr (Value.slice ao n cap).ownBlock) (fun _ i _ => n - (intOf i).toNat)
  case atStart => exact ⟨0, Nat.zero_le _, rfl, by simp, by simpa [marks] using HO.out, World.grownBy.refl _ _⟩
  case round =>
    obtain ⟨k, hk, rfl, rfl, ho, hg⟩ := hrel
    by_cases hlt : k < n
    · obtain ⟨g, hao, hbg⟩ := own_addr ho (by omega)
      subst hao
      have hc := ho.cellAt k (by omega)
      rw [U_get _ k (by have := own_len ho; omega)] at hc
      have hf := ho.frozenAt k
      obtain ⟨old, hold⟩ : ∃ old : Int, old = (((marks k0 k ++ xs.drop k).getD k 0 : Nat) : Int) := ⟨_, rfl⟩
      rw [← hold] at hc
      clear hold
      have HB := hid ho; clear ho
      have HG := hid hg; clear hg
      go_wp2
      go_roundw
      case rel =>
        obtain ⟨h1, h2⟩ := HB.out.stored k (.int .u64 ((k0 : Int) + k))
        rw [U_setI _ k (k0 + k) _ (by omega), marks_step xs k0 n k HL.out hlt] at h1
        refine ⟨k + 1, by omega, by go_num, by go_num, h1, ?_⟩
        exact ⟨h2.os.trans HG.out.os, h2.tape.trans HG.out.tape, h2.output.trans HG.out.output, Nat.le_trans HG.out.size h2.size, fun j hj hne => (h2.block j (Nat.lt_of_lt_of_le hj HG.out.size) hne).trans (HG.out.block j hj hne)⟩
      case measure => simp [intOf]; omega
    · have HB := hid ho; clear ho
      have HG := hid hg; clear hg
      go_wp2
      go_ret
      have e : k = n := by omega
      subst e
      have h1 := HB.out
      rw [List.drop_of_length_le (by have := HL.out; omega), List.append_nil] at h1
      exact ⟨ret_int (by simp), h1, HG.out⟩

set_option maxHeartbeats 400000 in
theorem held_any (ao : Option Addr) (n cap k0 : Nat) (w : World) (ke : Nat) (hke : ke = k0 + n) (hn : n ≤ 4194304) (hk0 : k0 ≤ 16777216) (hr : Rd w ao (marks k0 n)) :
    Calls Try.prog 12 #[.slice ao n cap, .int .i64 (k0 : Int)] w fun e w' => e = .returned (.int .i64 (ke : Int)) ∧ w' = w := by
  subst hke
  go_enter Try.func12, Try.ntmps12
  go_wp2
  go_loop [1, 5] (fun kk i => ∃ k : Nat, k ≤ n ∧ i = .int .i64 k ∧ kk = .int .i64 ((k0 : Int) + k)) (fun _ i => n - (intOf i).toNat)
  case atStart => exact ⟨0, Nat.zero_le _, rfl, by simp⟩
  case round =>
    obtain ⟨k, hk, rfl, rfl⟩ := hrel
    by_cases hlt : k < n
    · obtain ⟨b, off, hao, hc⟩ := hr (by simp [marks]; omega)
      have hck := hc k (by simp [marks]; omega)
      have e : (((marks k0 n).getD k 0 : Nat) : Int) = (k0 : Int) + k := by
        have : (marks k0 n).getD k 0 = k0 + k := by simp [marks, List.getD_eq_getElem?_getD, hlt]
        omega
      rw [e] at hck
      have hne : (((k0 : Int) + k) != ((k0 : Int) + k)) = false := by simp
      clear hc e
      go_wp2
      go_round
      case rel => exact ⟨k + 1, by omega, by go_num, by go_num⟩
      case measure => simp [intOf]; omega
    · go_wp2
      go_ret
      have e : k = n := by omega
      subst e
      exact ⟨ret_int (by simp), rfl⟩

set_option maxHeartbeats 400000 in
theorem l1Out_any (ao : Option Addr) (n cap : Nat) (a : Nat) (w : World) (hl : (D a).length = n) (hn : n ≤ 4194304) (hr : Rd w ao (D a)) :
    Calls Try.prog 24 #[.slice ao n cap] w fun e w' => ∃ ao' cap', e = .returned (.slice ao' (L a).length cap') ∧ w'.ownsRow w.heap.size 34 1 (.slice ao' (L a).length cap') (L a).length (U (L a)) ∧ Below w.heap.size w w' := by
  obtain ⟨i0, hi, hz0, hz1, hz2⟩ := info_parts Try.infoU
  have hx := F32_D a
  go_enter Try.func24, Try.ntmps24
  go_wp2
  go_loopw [3, 4] (fun v i wr => ∃ k : Nat, 2 * k ≤ n + 1 ∧ i = .int .i64 (2 * k) ∧ wr.ownsRow w.heap.size 34 1 v k (U (M.pk 4294967296 (D a) k)) ∧ Below w.heap.size w wr) (fun _ i _ => n + 2 - (intOf i).toNat)
  case atStart => exact ⟨0, by omega, rfl, World.ownsRow_nil _ _ _ _, Below.refl _ _⟩
  case round =>
    obtain ⟨k, hk, rfl, hown, hbl⟩ := hrel
    by_cases hlt : 2 * k < n
    · obtain ⟨b, off, hao, hc⟩ := (hr.below hbl) (by omega)
      have hck := hc (2 * k) (by omega)
      have hx1 := hx.get (2 * k)
      obtain ⟨x, hxx⟩ : ∃ x : Nat, x = (D a).getD (2 * k) 0 := ⟨_, rfl⟩
      rw [← hxx] at hck hx1
      have HX := hid hxx; clear hxx
      have hx2 := hx.get (2 * k + 1)
      obtain ⟨y, hyy⟩ : ∃ y : Nat, y = (D a).getD (2 * k + 1) 0 := ⟨_, rfl⟩
      by_cases hlt2 : 2 * k + 1 < n
      · have hck2 := hc (2 * k + 1) (by omega)
        rw [← hyy] at hck2 hx2
        have HY := hid hyy; clear hyy
        clear hc
        have hor := or_pair x y hx1 hx2
        go_wp2_with (at_builtin; refine wpList_append_own _ rfl _ _ 22 rfl w.heap.size 34 i0 (.int .u64 0) 1 8 Try.underlying22 hi hz0 hz1 hz2 rfl (by decide) _ _ _ rfl (hown.alloc _) ⟨wr.heap.size, 0, none⟩ 1 1 (U [x + y * 4294967296]) rfl rfl ?c1 ?c2 ?c3 ?c4 ?c5 ?_)
        case c1 =>
          intro j u hj
          match j, hj with
          | 0, hj => simp [U] at hj; subst hj; simp [Addr.add]
        case c2 => exact U_one _
        case c3 => unfold maxLen; omega
        case c4 => omega
        case c5 => have := hbl.size; simp; omega
        intro v' w1 hown' hgrow hnn
        clear hnn
        have hb1 : Below w.heap.size w w1 := (hbl.alloc hbl.size _).grown hgrow (by have := hbl.size; simp; omega) (fun k' hk' => (hown.lt k' hk').1)
        clear hown hgrow
        go_wp2
        go_roundw
        case rel =>
          have R : ∃ k1 : Nat, 2 * k1 ≤ n + 1 ∧ Value.int .i64 (2 * (k : Int) + 2) = .int .i64 (2 * (k1 : Int)) ∧ w1.ownsRow w.heap.size 34 1 v' k1 (U (M.pk 4294967296 (D a) k1)) ∧ Below w.heap.size w w1 := by
            refine ⟨k + 1, by omega, by go_num, ?_, hb1⟩
            rw [M.pk_succ, U_append, ← HX.out, ← HY.out]
            exact hown'
          first | exact R | ((repeat apply Exists.intro); exact ⟨R, by rw [hao]⟩)
        case measure => simp [intOf]; omega
      · have hy0 : y = 0 := by rw [hyy, getD_big _ _ (by omega)]
        have HY := hid hyy; clear hyy hx2
        clear hc
        have HY0 := hid hy0; clear hy0
        go_wp2_with (at_builtin; refine wpList_append_own _ rfl _ _ 22 rfl w.heap.size 34 i0 (.int .u64 0) 1 8 Try.underlying22 hi hz0 hz1 hz2 rfl (by decide) _ _ _ rfl (hown.alloc _) ⟨wr.heap.size, 0, none⟩ 1 1 (U [x]) rfl rfl ?c1 ?c2 ?c3 ?c4 ?c5 ?_)
        case c1 =>
          intro j u hj
          match j, hj with
          | 0, hj => simp [U] at hj; subst hj; simp [Addr.add]
        case c2 => exact U_one _
        case c3 => unfold maxLen; omega
        case c4 => omega
        case c5 => have := hbl.size; simp; omega
        intro v' w1 hown' hgrow hnn
        clear hnn
        have hb1 : Below w.heap.size w w1 := (hbl.alloc hbl.size _).grown hgrow (by have := hbl.size; simp; omega) (fun k' hk' => (hown.lt k' hk').1)
        clear hown hgrow
        go_wp2
        go_roundw
        case rel =>
          have R : ∃ k1 : Nat, 2 * k1 ≤ n + 1 ∧ Value.int .i64 (2 * (k : Int) + 2) = .int .i64 (2 * (k1 : Int)) ∧ w1.ownsRow w.heap.size 34 1 v' k1 (U (M.pk 4294967296 (D a) k1)) ∧ Below w.heap.size w w1 := by
            refine ⟨k + 1, by omega, by go_num, ?_, hb1⟩
            rw [M.pk_succ, U_append, ← HX.out, ← HY.out, HY0.out]
            exact hown'
          first | exact R | ((repeat apply Exists.intro); exact ⟨R, by rw [hao]⟩)
        case measure => simp [intOf]; omega
    · have e : k = (n + 1) / 2 := by omega
      have hfin : M.pk 4294967296 (D a) k = L a := by
        rw [e, ← hl]; exact M.pk_dig (C := 4294967296) (by omega) a
      rw [hfin] at hown
      have hlen := hown.1
      rw [U_length, Nat.mul_one] at hlen
      have hv := own_shape hown
      obtain ⟨ao1, cap1, hv⟩ := hv
      rw [hv] at hown
      have HO := hid hown; clear hown
      have HV := hid hv; clear hv
      have HLen := hid hlen; clear hlen
      have HF := hid hfin; clear hfin
      go_wp2
      go_ret
      rw [HLen.out]
      exact ⟨ao1, cap1, by rw [← HV.out]; rfl, HO.out, hbl⟩

end Go.Proofs.Ytchfkmompciooab
