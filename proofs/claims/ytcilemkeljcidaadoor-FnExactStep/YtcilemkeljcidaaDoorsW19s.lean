import Derived.Test.YtcilemkeljcidaaDoorsW1
import Derived.Test.YtcilemkeljcidaaDoorsBitM
set_option maxHeartbeats 400000
namespace Go.Proofs.YtcilemkeljcidaaDoor
open Go.RowKit
set_option linter.unusedVariables false
set_option maxRecDepth 100000
theorem blk_lit (w : World) (xs : List Nat) : Blk (w.alloc (.cells (U xs).toArray 27)) w.heap.size xs := heap_alloc_new w _

theorem l1Of_any (x : Nat) (w : World) (h : x < 18446744073709551616) :
 Calls Tryd.prog 42 #[.int .u64 (x : Int)] w fun e w' => Ret w w' e (D x) := by
 have hlow : bits BinOp.and IntKind.u64 (x : Int) 4294967295 = ((x % 4294967296 : Nat) : Int) := by
  rw [and_low32 _ (by omega) (by omega)]; omega
 have hhi : (x : Int) / 4294967296 = ((x / 4294967296 : Nat) : Int) := by omega
 have hB := blk_lit w [x % 4294967296, x / 4294967296]
 have hb : Below w.heap.size w (w.alloc (.cells (U [x % 4294967296, x / 4294967296]).toArray 27)) := (Below.refl _ _).alloc (Nat.le_refl _) _
 have hU : (U [x % 4294967296, x / 4294967296]).toArray = #[Value.int .u64 ((x % 4294967296 : Nat) : Int), Value.int .u64 ((x / 4294967296 : Nat) : Int)] := rfl
 rw [hU] at hB hb
 have hv : M.val 4294967296 [x % 4294967296, x / 4294967296] = x := by simp [M.val]; omega
 have hf : F32 [x % 4294967296, x / 4294967296] := by intro y hy; simp at hy; omega
 obtain ⟨lo, elo⟩ : ∃ lo : Nat, lo = x % 4294967296 := ⟨_, rfl⟩
 obtain ⟨hi, ehi⟩ : ∃ hi : Nat, hi = x / 4294967296 := ⟨_, rfl⟩
 rw [← elo, ← ehi] at hB hb hv hf
 rw [← elo] at hlow
 rw [← ehi] at hhi
 have HV := hid hv
 clear hv hU elo ehi
 go_enter Tryd.func42, Tryd.ntmps42
 go_wp2_with fail
 refine (l1Trim_any 4294967296 (by omega) _ 2 2 [lo, hi] _ rfl (by omega) (by omega) hf hB.rd0).mono ?_
 rw [HV.out]
 rintro e w1 ⟨ao', cap', rfl, ho, hb'⟩
 go_wp2_with fail
 go_ret
 exact ⟨ao', cap', rfl, own_base ho hb.size, hb.trans (hb'.mono hb.size)⟩

theorem l1Bits_any (ao : Option Addr) (n c : Nat) (a : Nat) (w : World) (hl : (D a).length = n) (hn : n ≤ 1048576) (hr : Rd w ao (D a)) (b : Nat) (hb : b = blen a) :
 Calls Tryd.prog 24 #[.slice ao n c] w fun e w' => e = .returned (.int .i64 (b : Int)) ∧ w' = w := by
 by_cases h0 : n = 0
 · subst h0
   have ha : a = 0 := by
    rcases Nat.eq_zero_or_pos a with h | h
    · exact h
    · unfold D at hl; rw [M.dig_pos (by omega) h] at hl; simp at hl
   have hb0 : b = 0 := by rw [hb, ha, blen_zero]
   subst hb0
   clear hb ha hl hr
   go_enter Tryd.func24, Tryd.ntmps24
   go_wp2_with fail
   go_ret
   exact ⟨rfl, rfl⟩
 · obtain ⟨m, rfl⟩ : ∃ m, n = m + 1 := ⟨n - 1, by omega⟩
   have ha : 0 < a := by
    rcases Nat.eq_zero_or_pos a with h | h
    · rw [h] at hl; simp [D, M.dig_zero] at hl
    · exact h
   have hbl := blen_D a ha
   rw [hl, Nat.add_sub_cancel] at hbl
   obtain ⟨b1, o1, hao, hcl⟩ := hr (by omega)
   have hck := hcl m (by omega)
   clear hcl
   have ht := (F32_D a).get m
   obtain ⟨t, htt⟩ : ∃ t : Nat, t = (D a).getD m 0 := ⟨_, rfl⟩
   rw [← htt] at hck ht hbl
   rw [← hb] at hbl
   have hne : (((m : Int) + 1) == 0) = false := by simp; omega
   have e1 : ((m + 1 : Nat) : Int) = (m : Int) + 1 := by omega
   have hltm : (m : Int) < (m : Int) + 1 := by omega
   have HBL := hid hbl; have HT := hid htt
   clear hbl htt hb
   go_enter Tryd.func24, Tryd.ntmps24
   go_wp2_with fail
   go_loop [3, 4] (fun cn x => ∃ k y : Nat, cn = .int .i64 (32 * (m : Int) + (k : Int)) ∧ x = .int .u64 (y : Int) ∧ y < 4294967296 ∧ blen t = k + blen y ∧ k ≤ 32) (fun _ x => (intOf x).toNat)
   case atStart => exact ⟨0, t, by simp, rfl, ht, by omega, by omega⟩
   case round =>
    obtain ⟨k, y, rfl, rfl, hy, hk, hk2⟩ := hrel
    have HK := hid hk; clear hk
    by_cases hy0 : 0 < y
    · have hy0' : (0 : Int) < (y : Int) := by omega
      have hk3 : k < 32 := by
       have h1 := blen_le_of t 32 ht
       have h2 := HK.out
       have h3 := blen_pos y hy0
       omega
      go_wp2_with fail
      go_round
      case rel =>
       refine ⟨k + 1, y / 2, by go_num, by go_num, by omega, ?_, by omega⟩
       have h1 := HK.out
       rw [blen_half y hy0] at h1
       omega
      case measure => simp [intOf]; omega
    · have : y = 0 := by omega
      subst this
      have hy0' : ¬ (0 : Int) < ((0 : Nat) : Int) := by omega
      go_wp2_with fail
      go_ret
      refine ⟨ret_int ?_, rfl⟩
      have h1 := HK.out
      rw [blen_zero] at h1
      have h2 := HBL.out
      rw [← HT.out] at *
      omega

end Go.Proofs.YtcilemkeljcidaaDoor
