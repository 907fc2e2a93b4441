import Derived.Test.YtdfljbpcjkbflaaGreatDoorrHAA
set_option maxHeartbeats 1000000
namespace Go.Proofs.YtdfljbpcjkbflaaGreatDoor
open Go.RowKit
set_option linter.unusedVariables false
set_option maxRecDepth 100000
theorem uW {B : Nat} (hB : 1 < B) {xs : List Nat} (h : ∀ x ∈ xs, x < B) {n k : Nat} (hk : k ≤ n) (hl : xs.length = n)
 (hz : ∀ j, k ≤ j → j < n → xs.getD j 0 = 0) (h0 : k = 0 ∨ xs.getD (k - 1) 0 ≠ 0) : (M.dig B (M.val B xs)).length = k := by
 rw [← M.iT hB xs h k (by omega) (fun j h1 h2 => hz j h1 (by omega)) h0]
 simp; omega

theorem cE (ao : Option Addr) (n cap : Nat) (xs : List Nat) (w : World) (hl : xs.length = n) (hcap : n ≤ cap) (hn : n ≤ 4194304) (hx : F64 xs) (hr : Rd w ao xs) :
 Calls Tryz.prog 102 #[.slice ao n cap] w fun e w' => e = .returned (.slice ao (L (V xs)).length cap) ∧ w' = w := by
 go_enter Tryz.func102, Tryz.ntmps102
 go_wp2
 go_loop [3] (fun i => ∃ k : Nat, k ≤ n ∧ i = .int .i64 k ∧ ∀ j, k ≤ j → j < n → xs.getD j 0 = 0) (fun i => (intOf i).toNat)
 case atStart => exact ⟨n, Nat.le_refl _, rfl, fun j h1 h2 => by omega⟩
 case round =>
  obtain ⟨k, hk, rfl, hz⟩ := hrel
  have HZ := hid hz; clear hz
  by_cases h0 : 0 < k
  · obtain ⟨b, off, hao, hc⟩ := hr (by omega)
    have hck := hc (k - 1) (by omega)
    have HC := hid hc; clear hc
    obtain ⟨x, hxx⟩ : ∃ x : Int, x = ((xs.getD (k - 1) 0 : Nat) : Int) := ⟨_, rfl⟩
    rw [← hxx] at hck
    have HX := hid hxx; clear hxx
    by_cases hx0 : x = 0
    · have hxb : (x == 0) = true := by simp [hx0]
      have HX0 := hid hx0; clear hx0
      go_wp2
      go_round
      case rel =>
       refine ⟨k - 1, by omega, by go_num, ?_⟩
       intro j h1 h2
       by_cases e : j = k - 1
       · have := HX.out; rw [HX0.out] at this; subst e; omega
       · exact HZ.out j (by omega) h2
      case measure => simp [intOf]; omega
    · have hxb : (x == 0) = false := by simp [hx0]
      have HX0 := hid hx0; clear hx0
      go_wp2
      go_ret
      have hlen : (L (V xs)).length = _ := uW (B := 18446744073709551616) (by omega) hx hk hl HZ.out (Or.inr (by have := HX.out; have := HX0.out; omega))
      exact ⟨by rw [hlen]; rfl, rfl⟩
  · have hk0 : k = 0 := by omega
    subst hk0
    go_wp2
    go_ret
    have hlen : (L (V xs)).length = _ := uW (B := 18446744073709551616) (by omega) hx hk hl HZ.out (Or.inl rfl)
    exact ⟨by rw [hlen]; rfl, rfl⟩

theorem aZ (B : Nat) (hB : 1 < B) (ao : Option Addr) (n cap : Nat) (xs : List Nat) (w : World) (hl : xs.length = n) (hcap : n ≤ cap) (hn : n ≤ 4194304) (hx : ∀ x ∈ xs, x < B) (hr : Rd w ao xs) :
 Calls Tryz.prog 59 #[.slice ao n cap] w fun e w' => ∃ ao' cap', e = .returned (.slice ao' (M.dig B (M.val B xs)).length cap') ∧ w'.ownsRow w.heap.size 23 1 (.slice ao' (M.dig B (M.val B xs)).length cap') (M.dig B (M.val B xs)).length (U (M.dig B (M.val B xs))) ∧ Below w.heap.size w w' := by
 obtain ⟨i0, hi, hz0, hz1, hz2⟩ := info_parts Tryz.infoU
 go_enter Tryz.func59, Tryz.ntmps59
 go_wp2
 go_loop [3] (fun i => ∃ k : Nat, k ≤ n ∧ i = .int .i64 k ∧ ∀ j, k ≤ j → j < n → xs.getD j 0 = 0) (fun i => (intOf i).toNat)
 case atStart => exact ⟨n, Nat.le_refl _, rfl, fun j h1 h2 => by omega⟩
 case round =>
  obtain ⟨k, hk, rfl, hz⟩ := hrel
  have HZ := hid hz; clear hz
  by_cases h0 : 0 < k
  · obtain ⟨b, off, hao, hc⟩ := hr (by omega)
    have hck := hc (k - 1) (by omega)
    have HC := hid hc; clear hc
    obtain ⟨x, hxx⟩ : ∃ x : Int, x = ((xs.getD (k - 1) 0 : Nat) : Int) := ⟨_, rfl⟩
    rw [← hxx] at hck
    have HX := hid hxx; clear hxx
    by_cases hx0 : x = 0
    · have hxb : (x == 0) = true := by simp [hx0]
      have HX0 := hid hx0; clear hx0
      go_wp2
      go_round
      case rel =>
       refine ⟨k - 1, by omega, by go_num, ?_⟩
       intro j h1 h2
       by_cases e : j = k - 1
       · have := HX.out; rw [HX0.out] at this; subst e; omega
       · exact HZ.out j (by omega) h2
      case measure => simp [intOf]; omega
    · have hxb : (x == 0) = false := by simp [hx0]
      have HX0 := hid hx0; clear hx0
      have hlen : xs.take k = M.dig B (M.val B xs) := M.iT hB xs hx k (by omega) (fun j h1 h2 => HZ.out j h1 (by omega)) (Or.inr (by have := HX.out; have := HX0.out; omega))
      have HL := hid hlen; clear hlen
      go_wp2_with (at_make; refine wpList_make_full _ rfl _ _ 53 rfl w.heap.size 23 i0 (.int .u64 0) 1 Tryz.underlying53 hi hz0 hz1 _ _ _ _ k rfl rfl rfl rfl (by rw [hz2]; omega) (by unfold maxLen; omega) (Nat.le_refl _) ?_)
      intro w1 hown hgrow
      rw [vY] at hown
      have hb1 := iZ hgrow (fun _ h => by cases h)
      have hrd : Rd w1 (some ⟨b, off, none⟩) (xs.take k) := by rw [← hao]; exact (hr.take k).below hb1
      obtain ⟨w2, hcp, hg2, hgr2⟩ := lV 53 Tryz.underlying53 w1 w.heap.size k k _ (pW hown) _ (xs.take k) k cap (by simp; omega) hrd (Nat.le_refl _) (by simp [U])
      go_wp2
      go_ret
      have e := HL.out
      have el : (M.dig B (M.val B xs)).length = k := by rw [← e]; simp; omega
      rw [el, ← e]
      refine ⟨_, _, rfl, gU (by simpa [U] using hg2) (Nat.le_refl _) (by simp [U]; omega) (by unfold maxLen; omega), ?_⟩
      exact hb1.trans ((Below.refl _ _).grown hgr2 hgrow.size (fun _ h => by cases h; exact Nat.le_refl _))
  · have hk0 : k = 0 := by omega
    subst hk0
    have hlen : xs.take 0 = M.dig B (M.val B xs) := M.iT hB xs hx 0 (by omega) (fun j h1 h2 => HZ.out j h1 (by omega)) (Or.inl rfl)
    have HL := hid hlen; clear hlen
    go_wp2_with (at_make; refine wpList_make_full _ rfl _ _ 53 rfl w.heap.size 23 i0 (.int .u64 0) 1 Tryz.underlying53 hi hz0 hz1 _ _ _ _ 0 rfl rfl rfl rfl (by omega) (by unfold maxLen; omega) (Nat.le_refl _) ?_)
    intro w1 hown hgrow
    rw [vY] at hown
    have hb1 := iZ hgrow (fun _ h => by cases h)
    obtain ⟨w2, hcp, hg2, hgr2⟩ := lV 53 Tryz.underlying53 w1 w.heap.size 0 0 _ (pW hown) ao [] 0 cap rfl (Rd.nil _ _) (Nat.le_refl _) (by simp [U])
    go_wp2
    go_ret
    have e := HL.out
    rw [← e]
    refine ⟨_, _, rfl, gU (by simpa [U] using hg2) (Nat.le_refl _) (by simp [U]) (by simp [maxLen]), ?_⟩
    exact hb1.trans ((Below.refl _ _).grown hgr2 hgrow.size (fun _ h => by cases h; exact Nat.le_refl _))

theorem FU (ao : Option Addr) (n cap k : Nat) (xs : List Nat) (w : World) (hl : xs.length = n) (hk : k < n) (hn : n ≤ 4194304) (hr : Rd w ao xs) :
 Calls Tryz.prog 47 #[.slice ao n cap, .int .i64 (k : Int)] w fun e w' => e = .returned (.int .u64 ((xs.getD k 0 : Nat) : Int)) ∧ w' = w := by
 obtain ⟨b, off, hao, hc⟩ := hr (by omega)
 have hck := hc k (by omega)
 clear hc
 obtain ⟨x, hxx⟩ : ∃ x : Int, x = ((xs.getD k 0 : Nat) : Int) := ⟨_, rfl⟩
 rw [← hxx] at hck ⊢
 clear hxx
 go_enter Tryz.func47, Tryz.ntmps47
 go_wp2
 go_ret
 exact ⟨rfl, rfl⟩

theorem CS (ao : Option Addr) (n cap k : Nat) (w : World) (hk : n ≤ k) (hk2 : k ≤ 4194304) :
 Calls Tryz.prog 47 #[.slice ao n cap, .int .i64 (k : Int)] w fun e w' => e = .returned (.int .u64 0) ∧ w' = w := by
 have h : ¬ (k : Int) < (n : Int) := by omega
 go_enter Tryz.func47, Tryz.ntmps47
 go_wp2
 go_ret
 exact ⟨rfl, rfl⟩

theorem cK (ao : Option Addr) (n cap k : Nat) (xs : List Nat) (w : World) (hl : xs.length = n) (hk : k ≤ 4194304) (hn : n ≤ 4194304) (hr : Rd w ao xs) (x : Nat) (hx : x = xs.getD k 0) :
 Calls Tryz.prog 47 #[.slice ao n cap, .int .i64 (k : Int)] w fun e w' => e = .returned (.int .u64 (x : Int)) ∧ w' = w := by
 subst hx
 by_cases h : k < n
 · exact FU ao n cap k xs w hl h hn hr
 · have : xs.getD k 0 = 0 := by rw [List.getD_eq_getElem?_getD, List.getElem?_eq_none (by omega)]; rfl
   rw [this]
   exact CS ao n cap k w (by omega) hk

def aR (a b : Int) : Int := if a < b then -1 else if b < a then 1 else 0

theorem xK (a b : Int) (w : World) : Calls Tryz.prog 109 #[.int .i64 a, .int .i64 b] w fun e w' => e = .returned (.int .i64 (aR a b)) ∧ w' = w := by
 have e1 : (a != a) = false := by simp
 have e2 : (b != b) = false := by simp
 by_cases h1 : a < b
 · have : aR a b = -1 := by simp [aR, h1]
   rw [this]
   go_enter Tryz.func109, Tryz.ntmps109
   go_wp2
   go_ret
   exact ⟨rfl, rfl⟩
 · by_cases h2 : b < a
   · have : aR a b = 1 := by simp [aR, h1, h2]
     rw [this]
     go_enter Tryz.func109, Tryz.ntmps109
     go_wp2
     go_ret
     exact ⟨rfl, rfl⟩
   · have : aR a b = 0 := by simp [aR, h1, h2]
     rw [this]
     go_enter Tryz.func109, Tryz.ntmps109
     go_wp2
     go_ret
     exact ⟨rfl, rfl⟩

theorem tS (a b : Int) (w : World) : Calls Tryz.prog 101 #[.int .u64 a, .int .u64 b] w fun e w' => e = .returned (.int .i64 (aR a b)) ∧ w' = w := by
 have e1 : (a != a) = false := by simp
 have e2 : (b != b) = false := by simp
 by_cases h1 : a < b
 · have : aR a b = -1 := by simp [aR, h1]
   rw [this]
   go_enter Tryz.func101, Tryz.ntmps101
   go_wp2
   go_ret
   exact ⟨rfl, rfl⟩
 · by_cases h2 : b < a
   · have : aR a b = 1 := by simp [aR, h1, h2]
     rw [this]
     go_enter Tryz.func101, Tryz.ntmps101
     go_wp2
     go_ret
     exact ⟨rfl, rfl⟩
   · have : aR a b = 0 := by simp [aR, h1, h2]
     rw [this]
     go_enter Tryz.func101, Tryz.ntmps101
     go_wp2
     go_ret
     exact ⟨rfl, rfl⟩

theorem dI {a b : Nat} (h : a < b) : aR (a : Int) (b : Int) = -1 := by unfold aR; rw [if_pos (by omega)]

theorem dJ {a b : Nat} (h : b < a) : aR (a : Int) (b : Int) = 1 := by unfold aR; rw [if_neg (by omega), if_pos (by omega)]

theorem nB {a b : Nat} (h : a = b) : aR (a : Int) (b : Int) = 0 := by unfold aR; rw [if_neg (by omega), if_neg (by omega)]

theorem GW (a b : Nat) (h : (L a).length ≠ (L b).length) : aR ((L a).length : Int) ((L b).length : Int) = aR (a : Int) (b : Int) := by
 rcases Nat.lt_or_gt_of_ne h with h | h
 · rw [dI h, dI (M.cH (by omega) h)]
 · rw [dJ h, dJ (M.cH (by omega) h)]

theorem gL (xs : List Nat) (j : Nat) (h : xs.length ≤ j) : xs.getD j 0 = 0 := by
 rw [List.getD_eq_getElem?_getD, List.getElem?_eq_none (by omega)]; rfl

theorem wL {B : Nat} (hB : 1 < B) (a b k : Nat) (x y : Nat) (hx : x = (M.dig B a).getD k 0) (hy : y = (M.dig B b).getD k 0) (hne : x ≠ y) (he : ∀ j, k < j → (M.dig B a).getD j 0 = (M.dig B b).getD j 0) :
 aR (x : Int) (y : Int) = aR (a : Int) (b : Int) := by
 rcases Nat.lt_or_gt_of_ne hne with h | h
 · have := M.oV hB k (M.dig B a) (M.dig B b) (M.mM hB a) (by omega) he
   rw [M.dY hB, M.dY hB] at this
   rw [dI h, dI this]
 · have := M.oV hB k (M.dig B b) (M.dig B a) (M.mM hB b) (by omega) (fun j hj => (he j hj).symm)
   rw [M.dY hB, M.dY hB] at this
   rw [dJ h, dJ this]

theorem yE {B : Nat} (hB : 1 < B) (a b : Nat) (he : ∀ j, (M.dig B a).getD j 0 = (M.dig B b).getD j 0) : aR (a : Int) (b : Int) = 0 := by
 have := M.yD B _ _ he
 rw [M.dY hB, M.dY hB] at this
 exact nB this

theorem bF (ao bo : Option Addr) (n m c d : Nat) (a b : Nat) (w : World) (hl : (L a).length = n) (hm : (L b).length = m) (hn : n ≤ 4194304) (hn2 : m ≤ 4194304) (hr : Rd w ao (L a)) (hr2 : Rd w bo (L b)) :
 Calls Tryz.prog 83 #[.slice ao n c, .slice bo m d] w fun e w' => e = .returned (.int .i64 (aR a b)) ∧ ∃ q, w' = w.drewN q := by
 by_cases hnm : n = m
 · subst hnm
   have hb : ((n : Int) != (n : Int)) = false := by simp
   have HM := hid hm; clear hm
   go_enter Tryz.func83, Tryz.ntmps83
   go_wp2
   go_loopw [5] (fun i wr => ∃ k : Nat, k ≤ n ∧ i = .int .i64 ((k : Int) - 1) ∧ (∀ j, k ≤ j → (L a).getD j 0 = (L b).getD j 0) ∧ ∃ q, wr = w.drewN q) (fun i _ => (intOf i + 1).toNat)
   case atStart => exact ⟨n, Nat.le_refl _, rfl, fun j h => by rw [gL _ _ (by omega), gL _ _ (by have := HM.out; omega)], 0, rfl⟩
   case round =>
    obtain ⟨k, hk, rfl, he, hq⟩ := hrel
    have HE := hid he; clear he
    have HQ := hid hq; clear hq
    have hr' : Rd wr ao (L a) := by obtain ⟨q, rfl⟩ := HQ.out; exact hr
    have hr2' : Rd wr bo (L b) := by obtain ⟨q, rfl⟩ := HQ.out; exact hr2
    by_cases hlt : 0 < k
    · obtain ⟨b1, off, hao, hc⟩ := hr' (by omega)
      have hck := hc (k - 1) (by omega)
      have HC := hid hc; clear hc
      obtain ⟨x, hxx⟩ : ∃ x : Nat, x = (L a).getD (k - 1) 0 := ⟨_, rfl⟩
      rw [← hxx] at hck
      have HX := hid hxx; clear hxx
      obtain ⟨b2, off2, hao2, hc2⟩ := hr2' (by have := HM.out; omega)
      have hck2 := hc2 (k - 1) (by have := HM.out; omega)
      have HC2 := hid hc2; clear hc2
      obtain ⟨y, hyy⟩ : ∃ y : Nat, y = (L b).getD (k - 1) 0 := ⟨_, rfl⟩
      rw [← hyy] at hck2
      have HY := hid hyy; clear hyy
      obtain ⟨k, rfl⟩ : ∃ k', k = k' + 1 := ⟨k - 1, by omega⟩
      simp only [Nat.add_sub_cancel] at hck hck2
      have e1 : (((k + 1 : Nat) : Int) - 1) = (k : Int) := by omega
      rw [e1]
      have hlt' : (k : Int) < (n : Int) := by omega
      by_cases hxy : x = y
      · have hne : ((x : Int) != (y : Int)) = false := by simp [hxy]
        have HXY := hid hxy; clear hxy
        go_wp2
        go_quiet (fail)
        go_wp2
        go_roundw
        case rel =>
         refine ⟨k, by omega, by go_num, fun j hj => ?_, by obtain ⟨q, rfl⟩ := HQ.out; exact ⟨_, World.drewN_drewN _ _ _⟩⟩
         by_cases e : j = k
         · subst e; exact HX.out.symm.trans (HXY.out.trans HY.out)
         · exact HE.out j (by omega)
        case measure => simp [intOf]
      · have hne : ((x : Int) != (y : Int)) = true := by simp; omega
        have HXY := hid hxy; clear hxy
        go_wp2
        go_quiet (fail)
        go_wp2
        generalize hwy : wr.drewN nq = wy
        have hq' : ∃ q, wy = w.drewN q := by obtain ⟨q, rfl⟩ := HQ.out; exact ⟨_, by rw [← hwy]; exact World.drewN_drewN _ _ _⟩
        have hcy : wy.cell? ⟨b1, off + k, none⟩ = some (.int .u64 (x : Int)) := by rw [← hwy]; exact hck
        have hcy2 : wy.cell? ⟨b2, off2 + k, none⟩ = some (.int .u64 (y : Int)) := by rw [← hwy]; exact hck2
        have HQ' := hid hq'; clear hq' hwy hck hck2
        go_quiet ((go_at_call 101; exact Calls.quiet_of_same (tS _ _ _)))
        go_wp2
        go_ret
        refine ⟨?_, by obtain ⟨q, rfl⟩ := HQ'.out; exact ⟨_, World.drewN_drewN _ _ _⟩⟩
        exact bJ (wL (by omega) a b k x y HX.out HY.out HXY.out (fun j hj => HE.out j (by omega)))
    · have : k = 0 := by omega
      subst this
      go_wp2
      go_ret
      exact ⟨bJ (yE (by omega) a b (fun j => HE.out j (by omega))).symm, HQ.out⟩
 · have hb : ((n : Int) != (m : Int)) = true := by simp; omega
   go_enter Tryz.func83, Tryz.ntmps83
   go_wp2_with (go_at_call 109; refine (xK _ _ _).mono ?_; rintro e w' ⟨rfl, rfl⟩)
   go_ret
   refine ⟨bJ ?_, 0, rfl⟩
   rw [← hl, ← hm]
   exact GW a b (by omega)

theorem eZ (ao bo : Option Addr) (n m c d : Nat) (a b : Nat) (w : World) (hl : (D a).length = n) (hm : (D b).length = m) (hn : n ≤ 4194304) (hn2 : m ≤ 4194304) (hr : Rd w ao (D a)) (hr2 : Rd w bo (D b)) :
 Calls Tryz.prog 87 #[.slice ao n c, .slice bo m d] w fun e w' => e = .returned (.int .i64 (aR a b)) ∧ w' = w := by
 obtain ⟨mx, hmx⟩ : ∃ mx : Nat, n ≤ mx ∧ m ≤ mx ∧ mx ≤ 4194304 ∧ (mx = n ∨ mx = m) := ⟨max n m, by omega⟩
 have hh : (n < m ∧ mx = m) ∨ (¬ n < m ∧ mx = n) := by omega
 rcases hh with ⟨hnm, rfl⟩ | ⟨hnm, rfl⟩
 all_goals
  go_enter Tryz.func87, Tryz.ntmps87
  go_wp2_with fail
  go_loop [6] (fun i => ∃ k : Nat, k ≤ mx ∧ i = .int .i64 ((k : Int) - 1) ∧ (∀ j, k ≤ j → (D a).getD j 0 = (D b).getD j 0)) (fun i => (intOf i + 1).toNat)
  case atStart => exact ⟨mx, Nat.le_refl _, rfl, fun j h => by rw [gL _ _ (by omega), gL _ _ (by omega)]⟩
  case round =>
   obtain ⟨k, hk, rfl, he⟩ := hrel
   have HE := hid he; clear he
   by_cases hlt : 0 < k
   · obtain ⟨k, rfl⟩ : ∃ k', k = k' + 1 := ⟨k - 1, by omega⟩
     have e1 : (((k + 1 : Nat) : Int) - 1) = (k : Int) := by omega
     rw [e1]
     obtain ⟨x, hxx⟩ : ∃ x : Nat, x = (D a).getD k 0 := ⟨_, rfl⟩
     obtain ⟨y, hyy⟩ : ∃ y : Nat, y = (D b).getD k 0 := ⟨_, rfl⟩
     have HX := hid hxx; clear hxx
     have HY := hid hyy; clear hyy
     go_wp2_with fail
     refine (cK ao _ c k (D a) _ hl (by omega) (by omega) hr x HX.out).mono ?_
     rintro e w1 ⟨rfl, rfl⟩
     go_wp2_with fail
     refine (cK bo _ d k (D b) _ hm (by omega) (by omega) hr2 y HY.out).mono ?_
     rintro e w2 ⟨rfl, rfl⟩
     by_cases h1 : x < y
     · go_wp2_with fail
       go_ret
       have := wL (B := 4294967296) (by omega) a b k x y HX.out HY.out (by omega) (fun j hj => HE.out j (by omega))
       exact ⟨bJ (by rw [← this, dI h1]), rfl⟩
     · go_wp2_with fail
       refine (cK ao _ c k (D a) _ hl (by omega) (by omega) hr x HX.out).mono ?_
       rintro e w1 ⟨rfl, rfl⟩
       go_wp2_with fail
       refine (cK bo _ d k (D b) _ hm (by omega) (by omega) hr2 y HY.out).mono ?_
       rintro e w2 ⟨rfl, rfl⟩
       by_cases h2 : y < x
       · go_wp2_with fail
         go_ret
         have := wL (B := 4294967296) (by omega) a b k x y HX.out HY.out (by omega) (fun j hj => HE.out j (by omega))
         exact ⟨bJ (by rw [← this, dJ h2]), rfl⟩
       · go_wp2_with fail
         go_round
         case rel =>
          refine ⟨k, by omega, by go_num, fun j hj => ?_⟩
          by_cases e : j = k
          · subst e; rw [← HX.out, ← HY.out]; omega
          · exact HE.out j (by omega)
         case measure => simp [intOf]
   · have : k = 0 := by omega
     subst this
     go_wp2_with fail
     go_ret
     exact ⟨bJ (yE (by omega) a b (fun j => HE.out j (by omega))).symm, rfl⟩

theorem uV (ao : Option Addr) (n cap : Nat) (xs : List Nat) (w : World) (hl : xs.length = n) (hn : n ≤ 1048576) (hx : F64 xs) (hr : Rd w ao xs) :
 Calls Tryz.prog 55 #[.slice ao n cap] w fun e w' => ∃ ao' cap', e = .returned (.slice ao' (D (V xs)).length cap') ∧ w'.ownsRow w.heap.size 23 1 (.slice ao' (D (V xs)).length cap') (D (V xs)).length (U (D (V xs))) ∧ Below w.heap.size w w' := by
 obtain ⟨i0, hi, hz0, hz1, hz2⟩ := info_parts Tryz.infoU
 go_enter Tryz.func55, Tryz.ntmps55
 go_wp2
 go_loopw [3, 8] (fun v i wr => ∃ k : Nat, k ≤ n ∧ i = .int .i64 k ∧ wr.ownsRow w.heap.size 23 1 v (2 * k) (U (M.dG (xs.take k))) ∧ Below w.heap.size w wr) (fun _ i _ => n - (intOf i).toNat)
 case atStart => exact ⟨0, Nat.zero_le _, rfl, World.ownsRow_nil _ _ _ _, Below.refl _ _⟩
 case round =>
  obtain ⟨k, hk, rfl, hown, hbl⟩ := hrel
  by_cases hlt : k < n
  · obtain ⟨b, off, hao, hc⟩ := (hr.below hbl) (by omega)
    have hck := hc k (by omega)
    clear hc
    have hx1 := hx.get k
    obtain ⟨x, hxx⟩ : ∃ x : Nat, x = xs.getD k 0 := ⟨_, rfl⟩
    rw [← hxx] at hck hx1
    have HX := hid hxx; clear hxx
    have hlow : bits BinOp.and IntKind.u64 (x : Int) 4294967295 = ((x % 4294967296 : Nat) : Int) := by
     rw [and_low32 _ (by omega) (by omega)]; omega
    have hhi : (x : Int) / 4294967296 = ((x / 4294967296 : Nat) : Int) := by omega
    have HHI := hid hhi; clear hhi
    go_wp2_with (at_builtin; refine wpList_append_own _ rfl _ _ 53 rfl w.heap.size 23 i0 (.int .u64 0) 1 8 Tryz.underlying53 hi hz0 hz1 hz2 rfl (by decide) _ _ _ rfl (hown.alloc _) ⟨wr.heap.size, 0, none⟩ 2 2 (U [x % 4294967296, x / 4294967296]) rfl rfl ?c1 ?c2 ?c3 ?c4 ?c5 ?_)
    case c1 =>
     intro j u hj
     match j, hj with
     | 0, hj => simp [U] at hj; subst hj; simp [Addr.add]
     | 1, hj => simp [U] at hj; subst hj; simp [Addr.add]
    case c2 => exact gN _
    case c3 => unfold maxLen; omega
    case c4 => omega
    case c5 => have := hbl.size; simp; omega
    intro v' w1 hown' hgrow hnn
    clear hnn
    have hb1 : Below w.heap.size w w1 := (hbl.alloc hbl.size _).grown hgrow (by have := hbl.size; simp; omega) (fun k' hk' => (hown.lt k' hk').1)
    clear hown hgrow hck hlow
    go_wp2
    go_roundw
    case rel =>
     have R : ∃ k1 : Nat, k1 ≤ n ∧ Value.int .i64 ((k : Int) + 1) = .int .i64 (k1 : Int) ∧ w1.ownsRow w.heap.size 23 1 v' (2 * k1) (U (M.dG (xs.take k1))) ∧ Below w.heap.size w w1 := by
      refine ⟨k + 1, by omega, by go_num, ?_, hb1⟩
      rw [M.i9 xs k (by omega), M.pK, cI, ← HX.out]
      exact hown'
     first | exact R | ((repeat apply Exists.intro); exact ⟨R, by rw [hao]⟩)
    case measure => simp [intOf]; omega
  · have e : k = n := by omega
    subst e
    rw [List.take_of_length_le (by omega)] at hown
    have hv := dM hown
    obtain ⟨ao1, cap1, hv⟩ := hv
    rw [hv]
    rw [hv] at hown
    go_wp2_with fail
    have hrd := Rd.own hown
    refine (aZ 4294967296 (by omega) ao1 _ cap1 (M.dG xs) _ (by rw [M.pI]; omega) (dC hown) (by omega) (M.AC xs hx) hrd).mono ?_
    rw [M.wW]
    rintro e w1 ⟨ao', cap', rfl, ho, hb⟩
    go_wp2_with fail
    go_ret
    exact ⟨ao', cap', rfl, aO ho hbl.size, hbl.trans (hb.mono hbl.size)⟩

theorem iX (xs : List Nat) (hx : F64 xs) : (L (V xs)).length ≤ xs.length := M.pH (by omega) xs hx

theorem gK (xs : List Nat) (hx : F64 xs) : xs.take (L (V xs)).length = L (V xs) := by
 have key : ∀ (k : Nat), k ≤ xs.length → (∀ j, k ≤ j → j < xs.length → xs.getD j 0 = 0) → xs.take (L (V xs)).length = L (V xs) := by
  intro k
  induction k with
  | zero =>
    intro h hz
    have := M.iT (B := 18446744073709551616) (by omega) xs hx 0 h hz (Or.inl rfl)
    unfold L V; rw [← this]; simp
  | succ k ih =>
    intro h hz
    by_cases h0 : xs.getD k 0 = 0
    · exact ih (by omega) (fun j h1 h2 => by
       by_cases e : j = k
       · subst e; exact h0
       · exact hz j (by omega) h2)
    · have := M.iT (B := 18446744073709551616) (by omega) xs hx (k + 1) h hz (Or.inr h0)
      unfold L V; rw [← this]; simp [h]
 exact key xs.length (Nat.le_refl _) (fun j h1 h2 => by omega)

theorem Rd.trim {w : World} {ao : Option Addr} {xs : List Nat} (h : Rd w ao xs) (hx : F64 xs) : Rd w ao (L (V xs)) := by
 have := h.take (L (V xs)).length
 rwa [gK xs hx] at this

theorem oX (a : Nat) (m : Nat) (h : (D a).length ≤ m) : a < 4294967296 ^ m :=
 Nat.lt_of_lt_of_le (M.iR (by omega) a) (Nat.pow_le_pow_right (by omega) h)

theorem jB (a k : Nat) (h : (D a).length ≤ k) : X ((D a).take k) = a := by rw [List.take_of_length_le h, X_D]

def Ret (w w' : World) (e : Ending) (r : List Nat) : Prop :=
 ∃ ao cap, e = .returned (.slice ao r.length cap) ∧ w'.ownsRow w.heap.size 23 1 (.slice ao r.length cap) r.length (U r) ∧ Below w.heap.size w w'

theorem Ret.nil {w w' : World} (h : Below w.heap.size w w') : Ret w w' (.returned (.slice none 0 0)) [] := ⟨none, 0, rfl, World.ownsRow_nil _ _ _ _, h⟩

theorem Blk.ownPre {w : World} {base g n c : Nat} {zs : List Nat} (h : Blk w g zs) (hb : base ≤ g) (hn : n ≤ zs.length) (hc : zs.length = c) (hm : c ≤ maxLen) : w.ownsRow base 23 1 (.slice (some ⟨g, 0, none⟩) n c) n (U (zs.take n)) := by
 subst hc
 refine ⟨by rw [cT]; simp; omega, .inr ⟨g, zs.length, (U zs).toArray, rfl, hb, h, hn, hm, by simp [U], ?_⟩⟩
 simp [U, List.map_take]

theorem M.len_of_lt {B : Nat} (hB : 1 < B) (a K : Nat) (h : a < B ^ K) : (M.dig B a).length ≤ K := by
 rcases Nat.lt_or_ge K (M.dig B a).length with h1 | h1
 · have h8 : 0 < a := by
    rcases Nat.eq_zero_or_pos a with e | e
    · rw [e] at h1; simp [M.aJ] at h1
    · exact e
   have h9 := M.mG hB _ h8
   have h10 : B ^ K ≤ B ^ ((M.dig B a).length - 1) := Nat.pow_le_pow_right (by omega) (by omega)
   omega
 · exact h1

theorem iL (a : Nat) (m : Nat) (h : (L a).length ≤ m) : a < 18446744073709551616 ^ m :=
 Nat.lt_of_lt_of_le (M.iR (by omega) a) (Nat.pow_le_pow_right (by omega) h)

theorem nX {w : World} {base n cap : Nat} {ao : Option Addr} {xs : List Value} (h : w.ownsRow base 23 1 (.slice ao n cap) n xs) (hn : 0 < n) : ∃ g, ao = some ⟨g, 0, none⟩ ∧ base ≤ g := by
 rcases h.2 with ⟨he, h0⟩ | ⟨g, cap', cur, he, hb, _⟩
 · omega
 · simp only [Value.slice.injEq] at he
   exact ⟨g, he.1, hb⟩

theorem zL (ao : Option Addr) (n cap : Nat) (a : Nat) (w : World) (hl : (D a).length = n) (hn : n ≤ 4194304) (hr : Rd w ao (D a)) :
 Calls Tryz.prog 58 #[.slice ao n cap] w fun e w' => ∃ ao' cap', e = .returned (.slice ao' (L a).length cap') ∧ w'.ownsRow w.heap.size 23 1 (.slice ao' (L a).length cap') (L a).length (U (L a)) ∧ Below w.heap.size w w' := by
 obtain ⟨i0, hi, hz0, hz1, hz2⟩ := info_parts Tryz.infoU
 have hx := fS a
 go_enter Tryz.func58, Tryz.ntmps58
 go_wp2
 go_loopw [3, 4] (fun v i wr => ∃ k : Nat, 2 * k ≤ n + 1 ∧ i = .int .i64 (2 * k) ∧ wr.ownsRow w.heap.size 23 1 v k (U (M.pk 4294967296 (D a) k)) ∧ Below w.heap.size w wr) (fun _ i _ => n + 2 - (intOf i).toNat)
 case atStart => exact ⟨0, by omega, rfl, World.ownsRow_nil _ _ _ _, Below.refl _ _⟩
 case round =>
  obtain ⟨k, hk, rfl, hown, hbl⟩ := hrel
  by_cases hlt : 2 * k < n
  · obtain ⟨b, off, hao, hc⟩ := (hr.below hbl) (by omega)
    have hck := hc (2 * k) (by omega)
    have hx1 := hx.get (2 * k)
    obtain ⟨x, hxx⟩ : ∃ x : Nat, x = (D a).getD (2 * k) 0 := ⟨_, rfl⟩
    rw [← hxx] at hck hx1
    have HX := hid hxx; clear hxx
    have hx2 := hx.get (2 * k + 1)
    obtain ⟨y, hyy⟩ : ∃ y : Nat, y = (D a).getD (2 * k + 1) 0 := ⟨_, rfl⟩
    by_cases hlt2 : 2 * k + 1 < n
    · have hck2 := hc (2 * k + 1) (by omega)
      rw [← hyy] at hck2 hx2
      have HY := hid hyy; clear hyy
      clear hc
      have hor := rW x y hx1 hx2
      go_wp2_with (at_builtin; refine wpList_append_own _ rfl _ _ 53 rfl w.heap.size 23 i0 (.int .u64 0) 1 8 Tryz.underlying53 hi hz0 hz1 hz2 rfl (by decide) _ _ _ rfl (hown.alloc _) ⟨wr.heap.size, 0, none⟩ 1 1 (U [x + y * 4294967296]) rfl rfl ?c1 ?c2 ?c3 ?c4 ?c5 ?_)
      case c1 =>
       intro j u hj
       match j, hj with
       | 0, hj => simp [U] at hj; subst hj; simp [Addr.add]
      case c2 => exact gN _
      case c3 => unfold maxLen; omega
      case c4 => omega
      case c5 => have := hbl.size; simp; omega
      intro v' w1 hown' hgrow hnn
      clear hnn
      have hb1 : Below w.heap.size w w1 := (hbl.alloc hbl.size _).grown hgrow (by have := hbl.size; simp; omega) (fun k' hk' => (hown.lt k' hk').1)
      clear hown hgrow
      go_wp2
      go_roundw
      case rel =>
       have R : ∃ k1 : Nat, 2 * k1 ≤ n + 1 ∧ Value.int .i64 (2 * (k : Int) + 2) = .int .i64 (2 * (k1 : Int)) ∧ w1.ownsRow w.heap.size 23 1 v' k1 (U (M.pk 4294967296 (D a) k1)) ∧ Below w.heap.size w w1 := by
        refine ⟨k + 1, by omega, by go_num, ?_, hb1⟩
        rw [M.zA, cI, ← HX.out, ← HY.out]
        exact hown'
       first | exact R | ((repeat apply Exists.intro); exact ⟨R, by rw [hao]⟩)
      case measure => simp [intOf]; omega
    · have hy0 : y = 0 := by rw [hyy, gL _ _ (by omega)]
      have HY := hid hyy; clear hyy hx2
      clear hc
      have HY0 := hid hy0; clear hy0
      go_wp2_with (at_builtin; refine wpList_append_own _ rfl _ _ 53 rfl w.heap.size 23 i0 (.int .u64 0) 1 8 Tryz.underlying53 hi hz0 hz1 hz2 rfl (by decide) _ _ _ rfl (hown.alloc _) ⟨wr.heap.size, 0, none⟩ 1 1 (U [x]) rfl rfl ?c1 ?c2 ?c3 ?c4 ?c5 ?_)
      case c1 =>
       intro j u hj
       match j, hj with
       | 0, hj => simp [U] at hj; subst hj; simp [Addr.add]
      case c2 => exact gN _
      case c3 => unfold maxLen; omega
      case c4 => omega
      case c5 => have := hbl.size; simp; omega
      intro v' w1 hown' hgrow hnn
      clear hnn
      have hb1 : Below w.heap.size w w1 := (hbl.alloc hbl.size _).grown hgrow (by have := hbl.size; simp; omega) (fun k' hk' => (hown.lt k' hk').1)
      clear hown hgrow
      go_wp2
      go_roundw
      case rel =>
       have R : ∃ k1 : Nat, 2 * k1 ≤ n + 1 ∧ Value.int .i64 (2 * (k : Int) + 2) = .int .i64 (2 * (k1 : Int)) ∧ w1.ownsRow w.heap.size 23 1 v' k1 (U (M.pk 4294967296 (D a) k1)) ∧ Below w.heap.size w w1 := by
        refine ⟨k + 1, by omega, by go_num, ?_, hb1⟩
        rw [M.zA, cI, ← HX.out, ← HY.out, HY0.out]
        exact hown'
       first | exact R | ((repeat apply Exists.intro); exact ⟨R, by rw [hao]⟩)
      case measure => simp [intOf]; omega
  · have e : k = (n + 1) / 2 := by omega
    have hfin : M.pk 4294967296 (D a) k = L a := by
     rw [e, ← hl]; exact M.JK (C := 4294967296) (by omega) a
    rw [hfin] at hown
    have hlen := hown.1
    rw [cT, Nat.mul_one] at hlen
    have hv := dM hown
    obtain ⟨ao1, cap1, hv⟩ := hv
    rw [hv] at hown
    have HO := hid hown; clear hown
    have HV := hid hv; clear hv
    have HLen := hid hlen; clear hlen
    have HF := hid hfin; clear hfin
    go_wp2
    go_ret
    rw [HLen.out]
    exact ⟨ao1, cap1, by rw [← HV.out]; rfl, HO.out, hbl⟩

end Go.Proofs.YtdfljbpcjkbflaaGreatDoor
namespace Go.Proofs.YtdfljbpcjkbflaaGreatDoor.M
set_option linter.unusedVariables false
set_option maxRecDepth 100000
def seg (xs : List Nat) (off n : Nat) : List Nat := (xs.drop off).take n

theorem dD (xs : List Nat) (off n : Nat) (h : off + n ≤ xs.length) : (seg xs off n).length = n := by simp [seg]; omega

theorem GF (xs : List Nat) (off n k : Nat) (hk : k < n) : (seg xs off n).getD k 0 = xs.getD (off + k) 0 := by
 simp [seg, List.getD_eq_getElem?_getD, hk]

theorem jF (xs : List Nat) (n : Nat) (h : xs.length = n) : seg xs 0 n = xs := by simp [seg, ← h]

theorem sR {B : Nat} {xs : List Nat} (h : ∀ x ∈ xs, x < B) (off n : Nat) : ∀ x ∈ seg xs off n, x < B := fun x hx => h x (List.mem_of_mem_drop (List.mem_of_mem_take hx))

theorem gT (B : Nat) (k : Nat) : ∀ (xs : List Nat) (x : Nat), k < xs.length → val B (xs.set k x) + B ^ k * xs.getD k 0 = val B xs + B ^ k * x := by
 induction k with
 | zero =>
   intro xs x h
   cases xs with
   | nil => simp at h
   | cons y r => simp [val]; omega
 | succ k ih =>
   intro xs x h
   cases xs with
   | nil => simp at h
   | cons y r =>
     have := ih r x (by simpa using h)
     simp only [List.set_cons_succ, val, List.getD_cons_succ, Nat.pow_succ]
     have e : B * (val B (r.set k x) + B ^ k * r.getD k 0) = B * (val B r + B ^ k * x) := by rw [this]
     simp only [Nat.mul_add] at e
     rw [Nat.mul_comm (B ^ k) B, Nat.mul_assoc, Nat.mul_assoc]
     omega

theorem FQ (xs : List Nat) (off n k x : Nat) (hk : k < n) : seg (xs.set (off + k) x) off n = (seg xs off n).set k x := by
 unfold seg
 rw [List.drop_set, if_neg (by omega), List.take_set, Nat.add_sub_cancel_left]

theorem dL (B : Nat) (xs : List Nat) (off n k x : Nat) (hk : k < n) (hl : off + n ≤ xs.length) :
 val B (seg (xs.set (off + k) x) off n) + B ^ k * xs.getD (off + k) 0 = val B (seg xs off n) + B ^ k * x := by
 rw [FQ xs off n k x hk]
 have := gT B k (seg xs off n) x (by rw [dD xs off n hl]; exact hk)
 rwa [GF xs off n k hk] at this

theorem aX (xs : List Nat) (i j x : Nat) (h : i ≠ j) : (xs.set i x).getD j 0 = xs.getD j 0 := by
 simp [List.getD_eq_getElem?_getD, h]

theorem aY (xs : List Nat) (i x : Nat) (h : i < xs.length) : (xs.set i x).getD i 0 = x := by
 simp [List.getD_eq_getElem?_getD, h]

structure Wrote (B : Nat) (zs : List Nat) (off n : Nat) (cur : List Nat) : Prop where
 len : cur.length = zs.length
 lt : ∀ x ∈ cur, x < B
 out : ∀ j, (j < off ∨ off + n ≤ j) → cur.getD j 0 = zs.getD j 0

theorem Wrote.refl {B : Nat} {zs : List Nat} (h : ∀ x ∈ zs, x < B) (off n : Nat) : Wrote B zs off n zs := ⟨rfl, h, fun _ _ => rfl⟩

theorem Wrote.set {B : Nat} {zs cur : List Nat} {off n : Nat} (h : Wrote B zs off n cur) (k x : Nat) (hk : k < n) (hx : x < B) : Wrote B zs off n (cur.set (off + k) x) := by
 refine ⟨by rw [List.length_set]; exact h.len, fun y hy => ?_, fun j hj => ?_⟩
 · rcases List.mem_or_eq_of_mem_set hy with hy | rfl
   · exact h.lt y hy
   · exact hx
 · rw [aX _ _ _ _ (by omega)]; exact h.out j hj

theorem tX {V V' V0 T c c' P B x y o : Nat} (h : V + c * P = V0 + T) (hv : V' + P * x = V + P * o) (hs : o + B * c' = x + y + c) : V' + c' * (P * B) = V0 + (T + P * y) := by
 have e : P * (o + B * c') = P * (x + y + c) := by rw [hs]
 simp only [Nat.mul_add] at e
 rw [Nat.mul_comm c' (P * B), Nat.mul_assoc]
 rw [Nat.mul_comm c P] at h
 omega

end Go.Proofs.YtdfljbpcjkbflaaGreatDoor.M
namespace Go.Proofs.YtdfljbpcjkbflaaGreatDoor
open Go.RowKit
set_option linter.unusedVariables false
set_option maxRecDepth 100000
theorem gE (n : Nat) : IntKind.u64.wrap (n : Int) = ((n % 18446744073709551616 : Nat) : Int) := by
 simp only [IntKind.wrap_u64]; omega

theorem eE (x y p : Nat) (hp : p = (x + y) % 18446744073709551616) : IntKind.u64.wrap ((x : Int) + (y : Int)) = (p : Int) := by
 have := gE (x + y)
 rw [← hp] at this
 rw [← this]; congr 1

theorem Rd.other {w w' : World} {bo : Option Addr} {ys : List Nat} {g : Nat} (h : Rd w bo ys) (hg : w.grownBy w' (some g)) (hsep : ∀ b2 o2, bo = some ⟨b2, o2, none⟩ → b2 ≠ g) : Rd w' bo ys := by
 intro hp
 obtain ⟨b, off, e, hc⟩ := h hp
 exact ⟨b, off, e, fun i hi => hg.cell (hc i hi) (by simpa using hsep b off e)⟩

theorem aA {a b c : World} {row : Option Nat} (h : a.grownBy b row) (k : b.grownBy c row) : a.grownBy c row :=
 ⟨k.os.trans h.os, k.tape.trans h.tape, k.output.trans h.output, Nat.le_trans h.size k.size, fun i hi hne => (k.block i (Nat.lt_of_lt_of_le hi h.size) hne).trans (h.block i hi hne)⟩

theorem aE (w : World) (g i : Nat) (v : Value) : w.grownBy (w.setCell ⟨g, i, none⟩ v) (some g) :=
 ⟨rfl, rfl, rfl, by simp [World.setCell], fun k _ hk => Below.heap_setCell _ _ _ _ (fun e => hk (by simp [e]))⟩

theorem bM (w : World) (q : Nat) (row : Option Nat) : w.grownBy (w.drewN q) row := ⟨rfl, rfl, rfl, Nat.le_refl _, fun _ _ _ => rfl⟩

theorem cC (a b : Int) (w : World) (r : Nat) (hr : r = if a < b then 1 else 0) :
 Calls Tryz.prog 99 #[.int .u64 a, .int .u64 b] w fun e w' => e = .returned (.int .u64 (r : Int)) ∧ w' = w := by
 by_cases h : a < b
 · have : r = 1 := by rw [hr, if_pos h]
   subst this
   clear hr
   go_enter Tryz.func99, Tryz.ntmps99
   go_wp2
   go_ret
   exact ⟨rfl, rfl⟩
 · have : r = 0 := by rw [hr, if_neg h]
   subst this
   clear hr
   go_enter Tryz.func99, Tryz.ntmps99
   go_wp2
   go_ret
   exact ⟨rfl, rfl⟩

theorem eY (ao : Option Addr) (n cap s : Nat) (xs : List Nat) (w : World) (hl : xs.length = n) (hn : n ≤ 2097152) (hs : s ≤ 2097152) (hr : Rd w ao xs) :
 Calls Tryz.prog 104 #[.slice ao n cap, .int .i64 (s : Int)] w fun e w' => e = .returned (.slice (some ⟨w.heap.size, 0, none⟩) (n + s) (n + s)) ∧ Blk w' w.heap.size (xs ++ List.replicate s 0) ∧ Below w.heap.size w w' := by
 obtain ⟨i0, hi, hz0, hz1, hz2⟩ := info_parts Tryz.infoU
 have hmk := fun (wx : World) => run_make (P := Tryz.prog) wx 71 23 i0 (.int .u64 0) Tryz.underlying71 hi hz0 .i64 .i64 ((n + s : Nat) : Int) ((n + s : Nat) : Int) (by omega) (Int.le_refl _) (by rw [hz2]; omega) (by omega)
 have es : ((n + s : Nat) : Int) = (n : Int) + (s : Int) := by omega
 rw [es] at hmk
 have et : ((n : Int) + (s : Int)).toNat = n + s := by omega
 rw [et] at hmk
 have hb1 : Below w.heap.size w (w.alloc (.cells (madeCells #[Value.int .u64 0] (n + s)) 23)) := (Below.refl _ _).alloc (Nat.le_refl _) _
 have hbk := dQ w (n + s)
 obtain ⟨w2, hcp, hg2, hgr2⟩ := lV 71 Tryz.underlying71 _ w.heap.size (n + s) (n + s) _ hbk ao xs n cap hl (hr.below hb1) (by omega) (by simp [U])
 clear es et
 go_enter Tryz.func104, Tryz.ntmps104
 go_wp2
 go_ret
 refine ⟨rfl, ?_, hb1.trans ((Below.refl _ _).grown hgr2 (by simp) (fun _ h => by cases h; exact Nat.le_refl _))⟩
 have e : U xs ++ (U (List.replicate (n + s) 0)).drop n = U (xs ++ List.replicate s 0) := by simp [U]
 rw [e] at hg2
 exact hg2

end Go.Proofs.YtdfljbpcjkbflaaGreatDoor
namespace Go.Proofs.YtdfljbpcjkbflaaGreatDoor.M
set_option linter.unusedVariables false
set_option maxRecDepth 100000
theorem i8 (B : Nat) (xs : List Nat) (off n : Nat) (h : off + n ≤ xs.length) :
 val B xs = val B (xs.take off) + B ^ off * (val B (seg xs off n) + B ^ n * val B (xs.drop (off + n))) := by
 have e1 : xs.take off ++ xs.drop off = xs := List.take_append_drop off xs
 have e2 : seg xs off n ++ xs.drop (off + n) = xs.drop off := by
  unfold seg; rw [← List.drop_drop]; exact List.take_append_drop n _
 have l1 : (xs.take off).length = off := by simp; omega
 have l2 := dD xs off n h
 have h2 : val B (xs.drop off) = val B (seg xs off n) + B ^ n * val B (xs.drop (off + n)) := by
  rw [← e2, cQ, l2]
 rw [← h2]
 have h1 := cQ B (xs.take off) (xs.drop off)
 rw [e1, l1] at h1
 exact h1

theorem xS (xs ys : List Nat) (k : Nat) (hl : xs.length = ys.length) (h : ∀ j, j < k → xs.getD j 0 = ys.getD j 0) : xs.take k = ys.take k := by
 apply List.ext_getElem (by simp [hl])
 intro j h1 h2
 have := h j (by simp at h1; omega)
 simp at h1 h2
 simpa [List.getD_eq_getElem?_getD, show j < xs.length by omega, show j < ys.length by omega] using this

theorem oU (xs ys : List Nat) (k : Nat) (hl : xs.length = ys.length) (h : ∀ j, k ≤ j → xs.getD j 0 = ys.getD j 0) : xs.drop k = ys.drop k := by
 apply List.ext_getElem (by simp [hl])
 intro j h1 h2
 have := h (k + j) (by omega)
 simp at h1 h2
 simpa [List.getD_eq_getElem?_getD, show k + j < xs.length by omega, show k + j < ys.length by omega] using this

theorem pX {B : Nat} {zs cur : List Nat} {off n : Nat} (h : Wrote B zs off n cur) (hl : off + n ≤ zs.length) :
 val B cur + B ^ off * val B (seg zs off n) = val B zs + B ^ off * val B (seg cur off n) := by
 rw [i8 B cur off n (by rw [h.len]; exact hl), i8 B zs off n hl, xS cur zs off h.len (fun j hj => h.out j (by omega)), oU cur zs (off + n) h.len (fun j hj => h.out j (by omega))]
 simp only [Nat.mul_add]
 omega

theorem s7 (x y f c p : Nat) (hp : p = y * f) (hx : x < 18446744073709551616) (hy : y < 18446744073709551616) (hf : f < 18446744073709551616) (hc : c < 18446744073709551616) :
 ∃ l2 r1 h2 o r2 c' : Nat, l2 = (p % 18446744073709551616 + c) % 18446744073709551616 ∧ r1 = (if (l2 : Int) < (c : Int) then 1 else 0) ∧ h2 = p / 18446744073709551616 + r1 ∧ h2 < 18446744073709551616 ∧
   o = (x + l2) % 18446744073709551616 ∧ r2 = (if (o : Int) < (l2 : Int) then 1 else 0) ∧ c' = h2 + r2 ∧ c' < 18446744073709551616 ∧ o < 18446744073709551616 ∧ o + 18446744073709551616 * c' = x + p + c := by
 have hb : p ≤ 18446744073709551615 * 18446744073709551615 := by rw [hp]; exact Nat.mul_le_mul (by omega) (by omega)
 refine ⟨_, _, _, _, _, _, rfl, rfl, rfl, ?_, rfl, rfl, rfl, ?_, ?_, ?_⟩
 · split <;> omega
 · split <;> split <;> omega
 · omega
 · split <;> split <;> omega

theorem vN {V V' V0 T c c' P B x y o f : Nat} (h : V + c * P = V0 + f * T) (hv : V' + P * x = V + P * o) (hs : o + B * c' = x + y * f + c) : V' + c' * (P * B) = V0 + f * (T + P * y) := by
 have e : P * (o + B * c') = P * (x + y * f + c) := by rw [hs]
 simp only [Nat.mul_add] at e ⊢
 rw [Nat.mul_comm c' (P * B), Nat.mul_assoc]
 rw [Nat.mul_comm c P] at h
 have e2 : f * (P * y) = P * (y * f) := by rw [Nat.mul_comm f, Nat.mul_assoc]
 rw [e2]
 omega

theorem FY {V V1 V2 S S1 c Pk Bn a y T : Nat} (h : V = a * T) (h1 : V1 + Pk * S = V + Pk * S1) (hs : S1 + c * Bn = S + y * a) (h2 : V2 = V1 + Pk * Bn * c) : V2 = a * (T + Pk * y) := by
 have e : Pk * (S1 + c * Bn) = Pk * (S + y * a) := by rw [hs]
 simp only [Nat.mul_add] at e ⊢
 have e1 : Pk * Bn * c = Pk * (c * Bn) := by rw [Nat.mul_assoc, Nat.mul_comm Bn c]
 have e2 : a * (Pk * y) = Pk * (y * a) := by rw [Nat.mul_left_comm, Nat.mul_comm a y]
 rw [e2, ← h]
 omega

theorem dK (p n : Nat) (hp : p ≤ n) : 2 ^ (n - p) * 2 ^ p = 2 ^ n := by rw [← Nat.pow_add]; congr 1; omega

theorem pV {K P x cc : Nat} (hP : 0 < P) (hK : 0 < K) (hx : x < K * P) (hc : cc < P) :
 (cc + x % K * P) + K * P * (x / K) = x * P + cc ∧ cc + x % K * P < K * P ∧ x / K < P := by
 have h1 := Nat.mod_add_div x K
 have h2 := Nat.mod_lt x hK
 refine ⟨?_, ?_, ?_⟩
 · have e : x * P = (x % K + K * (x / K)) * P := by rw [h1]
   rw [e, Nat.add_mul, Nat.mul_right_comm K P (x / K)]
   omega
 · have : (x % K + 1) * P ≤ K * P := Nat.mul_le_mul_right _ h2
   rw [Nat.add_mul] at this
   omega
 · exact Nat.div_lt_of_lt_mul hx

theorem uO {V V' c c' Q Pk B P x o T : Nat} (h : V + c * (Q * Pk) = (Q * P) * T) (hv : V' = V + Q * Pk * o) (hs : o + B * c' = x * P + c) : V' + c' * (Q * Pk * B) = (Q * P) * (T + Pk * x) := by
 have e : Q * Pk * (o + B * c') = Q * Pk * (x * P + c) := by rw [hs]
 simp only [Nat.mul_add] at e
 have e2 : (Q * P) * (Pk * x) = Q * Pk * (x * P) := by simp only [Nat.mul_comm, Nat.mul_left_comm]
 rw [Nat.mul_add, e2, Nat.mul_comm c' (Q * Pk * B), Nat.mul_assoc]
 rw [Nat.mul_comm c (Q * Pk)] at h
 omega

theorem AS {K P x T : Nat} (hP : 0 < P) (hK : 0 < K) : (x / P + T % P * K) + K * P * (T / P) = (x + K * P * T) / P ∧ (x + K * P * T) % P = x % P := by
 have h1 := Nat.mod_add_div T P
 constructor
 · have e : x + K * P * T = x + P * (K * T) := by rw [Nat.mul_comm K P, Nat.mul_assoc]
   rw [e, Nat.add_mul_div_left _ _ hP]
   have e2 : K * T = K * (T % P + P * (T / P)) := by rw [h1]
   rw [e2, Nat.mul_add, Nat.mul_comm (T % P) K, Nat.mul_assoc]
   omega
 · rw [Nat.mul_comm K P, Nat.mul_assoc, Nat.add_mul_mod_self_left]

theorem I2 {K P x T : Nat} (hP : 0 < P) (hx : x < K * P) : x / P + T % P * K < P * K := by
 have h1 : x / P < K := Nat.div_lt_of_lt_mul (by rw [Nat.mul_comm]; exact hx)
 have h2 := Nat.mod_lt T hP
 have h3 : (T % P + 1) * K ≤ P * K := Nat.mul_le_mul_right _ h2
 rw [Nat.add_mul] at h3
 omega

end Go.Proofs.YtdfljbpcjkbflaaGreatDoor.M
