import Derived.Test.YtcilemkeljcidaaDoorsBase
set_option maxHeartbeats 400000
namespace Go.Proofs.YtcilemkeljcidaaDoor
open Go.RowKit
set_option linter.unusedVariables false
set_option maxRecDepth 100000
theorem l1Trim_any (B : Nat) (hB : 1 < B) (ao : Option Addr) (n cap : Nat) (xs : List Nat) (w : World) (hl : xs.length = n) (hcap : n ≤ cap) (hn : n ≤ 4194304) (hx : ∀ x ∈ xs, x < B) (hr : Rd w ao xs) :
 Calls Tryd.prog 51 #[.slice ao n cap] w fun e w' => ∃ ao' cap', e = .returned (.slice ao' (M.dig B (M.val B xs)).length cap') ∧ w'.ownsRow w.heap.size 27 1 (.slice ao' (M.dig B (M.val B xs)).length cap') (M.dig B (M.val B xs)).length (U (M.dig B (M.val B xs))) ∧ Below w.heap.size w w' := by
 obtain ⟨i0, hi, hz0, hz1, hz2⟩ := info_parts Tryd.infoU
 go_enter Tryd.func51, Tryd.ntmps51
 go_wp2
 go_loop [3] (fun i => ∃ k : Nat, k ≤ n ∧ i = .int .i64 k ∧ ∀ j, k ≤ j → j < n → xs.getD j 0 = 0) (fun i => (intOf i).toNat)
 case atStart => exact ⟨n, Nat.le_refl _, rfl, fun j h1 h2 => by omega⟩
 case round =>
  obtain ⟨k, hk, rfl, hz⟩ := hrel
  have HZ := hid hz; clear hz
  by_cases h0 : 0 < k
  · obtain ⟨b, off, hao, hc⟩ := hr (by omega)
    have hck := hc (k - 1) (by omega)
    have HC := hid hc; clear hc
    obtain ⟨x, hxx⟩ : ∃ x : Int, x = ((xs.getD (k - 1) 0 : Nat) : Int) := ⟨_, rfl⟩
    rw [← hxx] at hck
    have HX := hid hxx; clear hxx
    by_cases hx0 : x = 0
    · have hxb : (x == 0) = true := by simp [hx0]
      have HX0 := hid hx0; clear hx0
      go_wp2
      go_round
      case rel =>
       refine ⟨k - 1, by omega, by go_num, ?_⟩
       intro j h1 h2
       by_cases e : j = k - 1
       · have := HX.out; rw [HX0.out] at this; subst e; omega
       · exact HZ.out j (by omega) h2
      case measure => simp [intOf]; omega
    · have hxb : (x == 0) = false := by simp [hx0]
      have HX0 := hid hx0; clear hx0
      have hlen : xs.take k = M.dig B (M.val B xs) := M.take_dig hB xs hx k (by omega) (fun j h1 h2 => HZ.out j h1 (by omega)) (Or.inr (by have := HX.out; have := HX0.out; omega))
      have HL := hid hlen; clear hlen
      go_wp2_with (at_make; refine wpList_make_full _ rfl _ _ 49 rfl w.heap.size 27 i0 (.int .u64 0) 1 Tryd.underlying49 hi hz0 hz1 _ _ _ _ k rfl rfl rfl rfl (by rw [hz2]; omega) (by unfold maxLen; omega) (Nat.le_refl _) ?_)
      intro w1 hown hgrow
      rw [made_U] at hown
      have hb1 := grown_below hgrow (fun _ h => by cases h)
      have hrd : Rd w1 (some ⟨b, off, none⟩) (xs.take k) := by rw [← hao]; exact (hr.take k).below hb1
      obtain ⟨w2, hcp, hg2, hgr2⟩ := copy_pre 49 Tryd.underlying49 w1 w.heap.size k k _ (own_block hown) _ (xs.take k) k cap (by simp; omega) hrd (Nat.le_refl _) (by simp [U])
      go_wp2
      go_ret
      have e := HL.out
      have el : (M.dig B (M.val B xs)).length = k := by rw [← e]; simp; omega
      rw [el, ← e]
      refine ⟨_, _, rfl, own_of_block (by simpa [U] using hg2) (Nat.le_refl _) (by simp [U]; omega) (by unfold maxLen; omega), ?_⟩
      exact hb1.trans ((Below.refl _ _).grown hgr2 hgrow.size (fun _ h => by cases h; exact Nat.le_refl _))
  · have hk0 : k = 0 := by omega
    subst hk0
    have hlen : xs.take 0 = M.dig B (M.val B xs) := M.take_dig hB xs hx 0 (by omega) (fun j h1 h2 => HZ.out j h1 (by omega)) (Or.inl rfl)
    have HL := hid hlen; clear hlen
    go_wp2_with (at_make; refine wpList_make_full _ rfl _ _ 49 rfl w.heap.size 27 i0 (.int .u64 0) 1 Tryd.underlying49 hi hz0 hz1 _ _ _ _ 0 rfl rfl rfl rfl (by omega) (by unfold maxLen; omega) (Nat.le_refl _) ?_)
    intro w1 hown hgrow
    rw [made_U] at hown
    have hb1 := grown_below hgrow (fun _ h => by cases h)
    obtain ⟨w2, hcp, hg2, hgr2⟩ := copy_pre 49 Tryd.underlying49 w1 w.heap.size 0 0 _ (own_block hown) ao [] 0 cap rfl (Rd.nil _ _) (Nat.le_refl _) (by simp [U])
    go_wp2
    go_ret
    have e := HL.out
    rw [← e]
    refine ⟨_, _, rfl, own_of_block (by simpa [U] using hg2) (Nat.le_refl _) (by simp [U]) (by simp [maxLen]), ?_⟩
    exact hb1.trans ((Below.refl _ _).grown hgr2 hgrow.size (fun _ h => by cases h; exact Nat.le_refl _))

theorem l1At_in (ao : Option Addr) (n cap k : Nat) (xs : List Nat) (w : World) (hl : xs.length = n) (hk : k < n) (hn : n ≤ 4194304) (hr : Rd w ao xs) :
 Calls Tryd.prog 49 #[.slice ao n cap, .int .i64 (k : Int)] w fun e w' => e = .returned (.int .u64 ((xs.getD k 0 : Nat) : Int)) ∧ w' = w := by
 obtain ⟨b, off, hao, hc⟩ := hr (by omega)
 have hck := hc k (by omega)
 clear hc
 obtain ⟨x, hxx⟩ : ∃ x : Int, x = ((xs.getD k 0 : Nat) : Int) := ⟨_, rfl⟩
 rw [← hxx] at hck ⊢
 clear hxx
 go_enter Tryd.func49, Tryd.ntmps49
 go_wp2
 go_ret
 exact ⟨rfl, rfl⟩

theorem l1At_out (ao : Option Addr) (n cap k : Nat) (w : World) (hk : n ≤ k) (hk2 : k ≤ 4194304) :
 Calls Tryd.prog 49 #[.slice ao n cap, .int .i64 (k : Int)] w fun e w' => e = .returned (.int .u64 0) ∧ w' = w := by
 have h : ¬ (k : Int) < (n : Int) := by omega
 go_enter Tryd.func49, Tryd.ntmps49
 go_wp2
 go_ret
 exact ⟨rfl, rfl⟩

theorem l1At_any (ao : Option Addr) (n cap k : Nat) (xs : List Nat) (w : World) (hl : xs.length = n) (hk : k ≤ 4194304) (hn : n ≤ 4194304) (hr : Rd w ao xs) (x : Nat) (hx : x = xs.getD k 0) :
 Calls Tryd.prog 49 #[.slice ao n cap, .int .i64 (k : Int)] w fun e w' => e = .returned (.int .u64 (x : Int)) ∧ w' = w := by
 subst hx
 by_cases h : k < n
 · exact l1At_in ao n cap k xs w hl h hn hr
 · have : xs.getD k 0 = 0 := by rw [List.getD_eq_getElem?_getD, List.getElem?_eq_none (by omega)]; rfl
   rw [this]
   exact l1At_out ao n cap k w (by omega) hk

def cmpI (a b : Int) : Int := if a < b then -1 else if b < a then 1 else 0

theorem cmpU_any (a b : Int) (w : World) : Calls Tryd.prog 59 #[.int .u64 a, .int .u64 b] w fun e w' => e = .returned (.int .i64 (cmpI a b)) ∧ w' = w := by
 have e1 : (a != a) = false := by simp
 have e2 : (b != b) = false := by simp
 by_cases h1 : a < b
 · have : cmpI a b = -1 := by simp [cmpI, h1]
   rw [this]
   go_enter Tryd.func59, Tryd.ntmps59
   go_wp2
   go_ret
   exact ⟨rfl, rfl⟩
 · by_cases h2 : b < a
   · have : cmpI a b = 1 := by simp [cmpI, h1, h2]
     rw [this]
     go_enter Tryd.func59, Tryd.ntmps59
     go_wp2
     go_ret
     exact ⟨rfl, rfl⟩
   · have : cmpI a b = 0 := by simp [cmpI, h1, h2]
     rw [this]
     go_enter Tryd.func59, Tryd.ntmps59
     go_wp2
     go_ret
     exact ⟨rfl, rfl⟩

end Go.Proofs.YtcilemkeljcidaaDoor
