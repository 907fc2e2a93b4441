import Derived.Test.YtchfkmompciooaaW17
import Derived.Test.YtchfkmompciooaaW12
namespace Go.Proofs.Ytchfkmompciooaa
open Go.RowKit
set_option linter.unusedVariables false

theorem M.times32 (x y cc : Nat) (hx : x < 4294967296) (hy : y < 4294967296) (hc : cc < 4294967296) : y * x + cc < 18446744073709551616 ∧ (y * x + cc) / 4294967296 < 4294967296 := by
  have h : y * x ≤ 4294967295 * 4294967295 := Nat.mul_le_mul (by omega) (by omega)
  constructor <;> omega

theorem M.times32_over {S c c' P C o y x T : Nat} (h : S + c * P = x * T) (hs : o + C * c' = y * x + c) : S + P * o + c' * (P * C) = x * (T + P * y) := by
  have e : P * (o + C * c') = P * (y * x + c) := by rw [hs]
  simp only [Nat.mul_add] at e ⊢
  rw [Nat.mul_comm c' (P * C), Nat.mul_assoc]
  rw [Nat.mul_comm c P] at h
  have e2 : x * (P * y) = P * (y * x) := by rw [Nat.mul_comm x, Nat.mul_assoc]
  rw [e2]
  omega

set_option maxHeartbeats 1000000 in
theorem l1Times_any (ao : Option Addr) (n c x : Nat) (a : Nat) (w : World) (hl : (D a).length = n) (hn : n ≤ 1048576) (hx : x < 4294967296) (hr : Rd w ao (D a)) :
    Calls Try.prog 51 #[.slice ao n c, .int .u64 (x : Int)] w fun e w' => Ret w w' e (D (a * x)) := by
  obtain ⟨i0, hi, hz0, hz1, hz2⟩ := info_parts Try.infoU
  have fa := F32_D a
  go_enter Try.func51, Try.ntmps51
  go_wp2_with fail
  go_loopw [5, 6, 7] (fun v cy i wr => ∃ (k : Nat) (os : List Nat) (cc : Nat), k ≤ n ∧ i = .int .i64 k ∧ cy = .int .u64 cc ∧ cc < 4294967296 ∧ wr.ownsRow w.heap.size 38 1 v k (U os) ∧ F32 os ∧ os.length = k ∧ X os + cc * 4294967296 ^ k = x * X ((D a).take k) ∧ Below w.heap.size w wr) (fun _ _ i _ => n - (intOf i).toNat)
  case atStart =>
    refine ⟨0, [], 0, by omega, rfl, rfl, by omega, World.ownsRow_nil _ _ _ _, fun x hx => by simp at hx, rfl, by simp [X, M.val], Below.refl _ _⟩
  case round =>
    obtain ⟨k, os, cc, hk, rfl, rfl, hcc, hown, hf, hlen, hv, hbl⟩ := hrel
    have HV := hid hv; clear hv
    have HLen := hid hlen; clear hlen
    by_cases hlt : k < n
    · obtain ⟨b2, o2, hbo, hc2⟩ := (hr.below hbl) (by omega)
      have hck := hc2 k (by omega)
      clear hc2
      have hy1 := fa.get k
      obtain ⟨y, hyy⟩ : ∃ y : Nat, y = (D a).getD k 0 := ⟨_, rfl⟩
      rw [← hyy] at hck hy1
      have HY := hid hyy; clear hyy
      have hlt' : (k : Int) < (n : Int) := by omega
      have hbb := M.times32 x y cc hx hy1 hcc
      obtain ⟨p, ep⟩ : ∃ p : Nat, p = y * x := ⟨_, rfl⟩
      rw [← ep] at hbb
      have wp := wrapMul y x p ep (by omega)
      obtain ⟨t, et⟩ : ∃ t : Nat, t = p + cc := ⟨_, rfl⟩
      rw [← et] at hbb
      have wt := wrapAdd p cc t et (by omega)
      have htI : (p : Int) + (cc : Int) = (t : Int) := by omega
      have hlow := low_mask t (by omega)
      obtain ⟨o, eo⟩ : ∃ o : Nat, o = t % 4294967296 := ⟨_, rfl⟩
      rw [← eo] at hlow
      obtain ⟨h, eh⟩ : ∃ h : Nat, h = t / 4294967296 := ⟨_, rfl⟩
      have hhi : (t : Int) / 4294967296 = (h : Int) := by omega
      have htb : t < 18446744073709551616 := hbb.1
      have hsum : o + 4294967296 * h = y * x + cc ∧ o < 4294967296 ∧ h < 4294967296 := by rw [← ep]; omega
      have E1 := hid hsum; have E2 := hid hbb; have E3 := hid et; have E4 := hid eo; have E5 := hid eh; have E6 := hid ep
      clear hsum hbb et eo eh ep hcc
      go_wp2_with (at_builtin; refine wpList_append_own _ rfl _ _ 34 rfl w.heap.size 38 i0 (.int .u64 0) 1 8 Try.underlying34 hi hz0 hz1 hz2 rfl (by decide) _ _ _ rfl (hown.alloc _) ⟨wr.heap.size, 0, none⟩ 1 1 (U [o]) rfl rfl ?c1 ?c2 ?c3 ?c4 ?c5 ?_)
      case c1 =>
        intro j u hj
        match j, hj with
        | 0, hj => simp [U] at hj; subst hj; simp [Addr.add]
      case c2 => exact U_one _
      case c3 => unfold maxLen; omega
      case c4 => omega
      case c5 => have := hbl.size; simp; omega
      intro v' w1 hown' hgrow hnn
      clear hnn
      have hb1 : Below w.heap.size w w1 := (hbl.alloc hbl.size _).grown hgrow (by have := hbl.size; simp; omega) (fun k' hk' => (hown.lt k' hk').1)
      clear hgrow
      clear hown
      go_wp2_with fail
      go_roundw
      case rel =>
        have R : ∃ (k1 : Nat) (os1 : List Nat) (cc1 : Nat), k1 ≤ n ∧ Value.int .i64 ((k : Int) + 1) = .int .i64 k1 ∧ Value.int .u64 (h : Int) = .int .u64 cc1 ∧ cc1 < 4294967296 ∧ w1.ownsRow w.heap.size 38 1 v' k1 (U os1) ∧ F32 os1 ∧ os1.length = k1 ∧ X os1 + cc1 * 4294967296 ^ k1 = x * X ((D a).take k1) ∧ Below w.heap.size w w1 := by
          refine ⟨k + 1, os ++ [o], h, by omega, by go_num, rfl, E1.out.2.2, ?_, ?_, by simp [HLen.out], ?_, hb1⟩
          · rw [U_append]; exact hown'
          · intro z hz
            rcases List.mem_append.1 hz with hz | hz
            · exact hf z hz
            · simp at hz; have := E1.out.2.1; omega
          · have e3 := HV.out
            unfold X at *
            rw [M.val_take_succ, ← HY.out, Nat.pow_succ, M.val_snoc, HLen.out]
            exact M.times32_over e3 E1.out.1
        first | exact R | ((repeat apply Exists.intro); exact ⟨R, rfl⟩) | ((repeat apply Exists.intro); exact ⟨R, by rw [hbo]⟩)
      case measure => simp [intOf]; omega
    · have e : k = n := by omega
      subst e
      have hv1 : X os + cc * 4294967296 ^ k = a * x := by
        have := HV.out
        rw [X_takeD a k (by omega), Nat.mul_comm x] at this
        exact this
      have hlt' : ¬ (k : Int) < (k : Int) := by omega
      clear HV
      have HV := hid hv1; clear hv1
      have HLen0 := HLen
      go_wp2_with fail
      go_loopw [5, 6] (fun v cy wq => ∃ (j : Nat) (os : List Nat) (cc : Nat), j ≤ k + 1 ∧ (j = k + 1 → cc = 0) ∧ cy = .int .u64 cc ∧ cc < 4294967296 ∧ wq.ownsRow w.heap.size 38 1 v j (U os) ∧ F32 os ∧ os.length = j ∧ X os + cc * 4294967296 ^ j = a * x ∧ Below w.heap.size w wq) (fun _ cy _ => (intOf cy).toNat)
      case atStart => exact ⟨k, os, cc, by omega, by omega, rfl, hcc, hown, hf, HLen.out, HV.out, hbl⟩
      case round =>
        clear HV HLen HLen0 hcc hown hf hbl
        rename World => wq
        obtain ⟨j, os2, c2, hj, hj2, rfl, hc2, hown, hf, hlen, hv, hbl⟩ := hrel
        have HV := hid hv; clear hv
        have HLen := hid hlen; clear hlen
        by_cases hc0 : 0 < c2
        · have hc0' : (0 : Int) < (c2 : Int) := by omega
          have hjk : j ≤ k := by omega
          have hlow := low_mask c2 (by omega)
          rw [Nat.mod_eq_of_lt hc2] at hlow
          have hhi : (c2 : Int) / 4294967296 = ((0 : Nat) : Int) := by omega
          go_wp2_with (at_builtin; refine wpList_append_own _ rfl _ _ 34 rfl w.heap.size 38 i0 (.int .u64 0) 1 8 Try.underlying34 hi hz0 hz1 hz2 rfl (by decide) _ _ _ rfl (hown.alloc _) ⟨wq.heap.size, 0, none⟩ 1 1 (U [c2]) rfl rfl ?c1 ?c2 ?c3 ?c4 ?c5 ?_)
          case c1 =>
            intro j u hj
            match j, hj with
            | 0, hj => simp [U] at hj; subst hj; simp [Addr.add]
          case c2 => exact U_one _
          case c3 => unfold maxLen; omega
          case c4 => omega
          case c5 => have := hbl.size; simp; omega
          intro v' w1 hown' hgrow hnn
          clear hnn
          have hb1 : Below w.heap.size w w1 := (hbl.alloc hbl.size _).grown hgrow (by have := hbl.size; simp; omega) (fun k' hk' => (hown.lt k' hk').1)
          clear hgrow
          clear hown
          go_wp2_with fail
          go_roundw
          case rel =>
            have R : ∃ (j1 : Nat) (os1 : List Nat) (cc1 : Nat), j1 ≤ k + 1 ∧ (j1 = k + 1 → cc1 = 0) ∧ Value.int .u64 ((0 : Nat) : Int) = .int .u64 cc1 ∧ cc1 < 4294967296 ∧ w1.ownsRow w.heap.size 38 1 v' j1 (U os1) ∧ F32 os1 ∧ os1.length = j1 ∧ X os1 + cc1 * 4294967296 ^ j1 = a * x ∧ Below w.heap.size w w1 := by
              refine ⟨j + 1, os2 ++ [c2], 0, by omega, fun _ => rfl, rfl, by omega, ?_, ?_, by simp [HLen.out], ?_, hb1⟩
              · rw [U_append]; exact hown'
              · intro z hz
                rcases List.mem_append.1 hz with hz | hz
                · exact hf z hz
                · simp at hz; omega
              · have e3 := HV.out
                unfold X at *
                rw [M.val_snoc, HLen.out, Nat.zero_mul, Nat.add_zero, Nat.mul_comm _ c2]
                exact e3
            first | exact R | ((repeat apply Exists.intro); exact ⟨R, rfl⟩)
          case measure => simp [intOf]; omega
        · have e0 : c2 = 0 := by omega
          subst e0
          have hfin : X os2 = a * x := by
            have := HV.out
            rwa [Nat.zero_mul, Nat.add_zero] at this
          have hv := own_shape hown
          obtain ⟨ao1, cap1, hv⟩ := hv
          rw [hv]
          rw [hv] at hown
          have hlt' : ¬ (0 : Int) < ((0 : Nat) : Int) := by omega
          clear hv
          have HF := hid hfin; clear hfin
          go_wp2_with fail
          have hrd := Rd.own hown
          refine (l1Trim_any 4294967296 (by omega) ao1 _ cap1 os2 _ HLen.out (own_cap hown) (by omega) hf hrd).mono ?_
          have hfin : M.val 4294967296 os2 = a * x := HF.out
          rw [hfin]
          rintro e w1 ⟨ao', cap', rfl, ho, hb⟩
          go_wp2_with fail
          go_ret
          exact ⟨ao', cap', rfl, own_base ho hbl.size, hbl.trans (hb.mono hbl.size)⟩

end Go.Proofs.Ytchfkmompciooaa
