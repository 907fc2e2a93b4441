import Derived.Lib.BitFns
import Derived.Test.YtdfljbpcjkbflaaGreatDoorrHAC
set_option maxHeartbeats 1000000
set_option maxRecDepth 100000
namespace Go.Proofs.YtdfljbpcjkbflaaGreatDoor
open Go.RowKit
set_option linter.unusedVariables false
set_option maxRecDepth 100000
theorem dO (ao bo : Option Addr) (n m c d : Nat) (a b : Nat) (w : World) (hl : (D a).length = n) (hm : (D b).length = m) (hn : n ≤ 2097152) (hn2 : m ≤ 2097152) (hr : Rd w ao (D a)) (hr2 : Rd w bo (D b)) :
 Calls Tryz.prog 25 #[.slice ao n c, .slice bo m d] w fun e w' => ∃ ao' cap', e = .returned (.slice ao' (D (a + b)).length cap') ∧ w'.ownsRow w.heap.size 23 1 (.slice ao' (D (a + b)).length cap') (D (a + b)).length (U (D (a + b))) ∧ Below w.heap.size w w' := by
 obtain ⟨i0, hi, hz0, hz1, hz2⟩ := info_parts Tryz.infoU
 have fa := fS a
 have fb := fS b
 obtain ⟨mx, hmx⟩ : ∃ mx : Nat, n ≤ mx ∧ m ≤ mx ∧ mx ≤ 2097152 ∧ (mx = n ∨ mx = m) := ⟨max n m, by omega⟩
 have hh : (n < m ∧ mx = m) ∨ (¬ n < m ∧ mx = n) := by omega
 rcases hh with ⟨hnm, rfl⟩ | ⟨hnm, rfl⟩
 all_goals
  go_enter Tryz.func25, Tryz.ntmps25
  go_wp2_with fail
  go_loopw [6, 7, 8] (fun v cy i wr => ∃ (k : Nat) (os : List Nat) (cc : Nat), k ≤ mx + 1 ∧ i = .int .i64 k ∧ cy = .int .u64 cc ∧ cc ≤ 1 ∧ wr.ownsRow w.heap.size 23 1 v k (U os) ∧ F32 os ∧ os.length = k ∧ X os + cc * 4294967296 ^ k = X ((D a).take k) + X ((D b).take k) ∧ Below w.heap.size w wr) (fun _ _ i _ => mx + 2 - (intOf i).toNat)
  case atStart => exact ⟨0, [], 0, by omega, rfl, rfl, by omega, World.ownsRow_nil _ _ _ _, fun x hx => by simp at hx, rfl, by simp [X, M.val], Below.refl _ _⟩
  case round =>
   obtain ⟨k, os, cc, hk, rfl, rfl, hcc, hown, hf, hlen, hv, hbl⟩ := hrel
   have HV := hid hv; clear hv
   have HLen := hid hlen; clear hlen
   by_cases hlt : k ≤ mx
   · obtain ⟨x, hxx⟩ : ∃ x : Nat, x = (D a).getD k 0 := ⟨_, rfl⟩
     obtain ⟨y, hyy⟩ : ∃ y : Nat, y = (D b).getD k 0 := ⟨_, rfl⟩
     have hx1 := fa.get k
     have hy1 := fb.get k
     rw [← hxx] at hx1
     rw [← hyy] at hy1
     have HX := hid hxx; clear hxx
     have HY := hid hyy; clear hyy
     have hlt' : (k : Int) ≤ (mx : Int) := by omega
     go_wp2_with fail
     refine (cK ao _ c k (D a) _ hl (by omega) (by omega) (hr.below hbl) x HX.out).mono ?_
     rintro e w1 ⟨rfl, rfl⟩
     go_wp2_with fail
     refine (cK bo _ d k (D b) _ hm (by omega) (by omega) (hr2.below hbl) y HY.out).mono ?_
     rintro e w2 ⟨rfl, rfl⟩
     have hlow : bits BinOp.and IntKind.u64 ((x : Int) + (y : Int) + (cc : Int)) 4294967295 = (((x + y + cc) % 4294967296 : Nat) : Int) := by
      rw [and_low32 _ (by omega) (by omega)]; omega
     go_wp2_with (at_builtin; refine wpList_append_own _ rfl _ _ 53 rfl w.heap.size 23 i0 (.int .u64 0) 1 8 Tryz.underlying53 hi hz0 hz1 hz2 rfl (by decide) _ _ _ rfl (hown.alloc _) ⟨w2.heap.size, 0, none⟩ 1 1 (U [(x + y + cc) % 4294967296]) rfl rfl ?c1 ?c2 ?c3 ?c4 ?c5 ?_)
     case c1 =>
      intro j u hj
      match j, hj with
      | 0, hj => simp [U] at hj; subst hj; simp [Addr.add]
     case c2 => exact gN _
     case c3 => unfold maxLen; omega
     case c4 => omega
     case c5 => have := hbl.size; simp; omega
     intro v' w1 hown' hgrow hnn
     clear hnn
     have hb1 : Below w.heap.size w w1 := (hbl.alloc hbl.size _).grown hgrow (by have := hbl.size; simp; omega) (fun k' hk' => (hown.lt k' hk').1)
     clear hown hgrow
     go_wp2_with fail
     go_roundw
     case rel =>
      have R : ∃ (k1 : Nat) (os1 : List Nat) (cc1 : Nat), k1 ≤ mx + 1 ∧ Value.int .i64 ((k : Int) + 1) = .int .i64 k1 ∧ Value.int .u64 (((x : Int) + (y : Int) + (cc : Int)) / 4294967296) = .int .u64 cc1 ∧ cc1 ≤ 1 ∧ w1.ownsRow w.heap.size 23 1 v' k1 (U os1) ∧ F32 os1 ∧ os1.length = k1 ∧ X os1 + cc1 * 4294967296 ^ k1 = X ((D a).take k1) + X ((D b).take k1) ∧ Below w.heap.size w w1 := by
       refine ⟨k + 1, os ++ [(x + y + cc) % 4294967296], (x + y + cc) / 4294967296, by omega, by go_num, by go_num, by omega, ?_, ?_, by simp [HLen.out], ?_, hb1⟩
       · rw [cI]; exact hown'
       · intro z hz
         rcases List.mem_append.1 hz with hz | hz
         · exact hf z hz
         · simp at hz; omega
       · unfold X at *
         rw [M.fQ, HLen.out, M.aH, M.aH, ← HX.out, ← HY.out, Nat.pow_succ]
         exact M.zX HV.out (by omega)
      first | exact R | ((repeat apply Exists.intro); exact ⟨R, rfl⟩)
     case measure => simp [intOf]; omega
   · have e : k = mx + 1 := by omega
     have hfin : X os = a + b := by
      have h1 := HV.out
      rw [jB a k (by omega), jB b k (by omega)] at h1
      have h2 := oX a mx (by omega)
      have h3 := oX b mx (by omega)
      refine (M.nU h1 ?_).2
      rw [e, Nat.pow_succ]; omega
     have hv := dM hown
     obtain ⟨ao1, cap1, hv⟩ := hv
     rw [hv]
     rw [hv] at hown
     have hlt' : ¬ (k : Int) ≤ (mx : Int) := by omega
     clear e hv
     have HF := hid hfin; clear hfin
     go_wp2_with fail
     have hrd := Rd.own hown
     refine (aZ 4294967296 (by omega) ao1 _ cap1 os _ HLen.out (dC hown) (by omega) hf hrd).mono ?_
     have hfin : M.val 4294967296 os = a + b := HF.out
     rw [hfin]
     rintro e w1 ⟨ao', cap', rfl, ho, hb⟩
     go_wp2_with fail
     go_ret
     exact ⟨ao', cap', rfl, aO ho hbl.size, hbl.trans (hb.mono hbl.size)⟩

def aC (n : Nat) : Nat := (M.dig 2 n).length

theorem eH (n : Nat) : n < 2 ^ aC n := M.iR (by omega) n

theorem gD (n : Nat) (h : 0 < n) : 2 ^ (aC n - 1) ≤ n := M.mG (by omega) n h

theorem eP : aC 0 = 0 := by simp [aC, M.aJ]

theorem fT (n : Nat) (h : 0 < n) : 0 < aC n := by
 unfold aC; rw [M.aS (by omega) h]; simp

theorem qM (n : Nat) (h : 0 < n) : aC n = 1 + aC (n / 2) := by
 unfold aC; rw [M.aS (by omega) h]; simp; omega

theorem vC (n k : Nat) (h1 : 2 ^ (k - 1) ≤ n) (h2 : n < 2 ^ k) (hk : 0 < k) : aC n = k := by
 have hn : 0 < n := Nat.lt_of_lt_of_le (Nat.pow_pos (by omega)) h1
 have h3 := eH n
 have h4 := gD n hn
 have h5 := fT n hn
 rcases Nat.lt_trichotomy (aC n) k with h | h | h
 · have : 2 ^ aC n ≤ 2 ^ (k - 1) := Nat.pow_le_pow_right (by omega) (by omega)
   omega
 · exact h
 · have : 2 ^ k ≤ 2 ^ (aC n - 1) := Nat.pow_le_pow_right (by omega) (by omega)
   omega

theorem BC : ∀ (k n : Nat), n < 2 ^ k → k ≤ 64 → Lib.bitLen n = aC n := by
 intro k
 induction k with
 | zero =>
   intro n h _
   have : n = 0 := by simpa using h
   subst this
   rw [eP]; rfl
 | succ k ih =>
   intro n h hk
   by_cases hn : n = 0
   · subst hn; rw [eP]; rfl
   · rw [qM n (by omega), Lib.bitLen_half n hn (Nat.lt_of_lt_of_le h (Nat.pow_le_pow_right (by omega) hk)), ih (n / 2) (by rw [Nat.pow_succ] at h; omega) (by omega)]

theorem A5 (n : Nat) (h : n < 18446744073709551616) : Lib.bitLen n = aC n := BC 64 n h (by omega)

theorem oH (k n : Nat) (h : 2 ^ k ≤ n) : aC n = k + aC (n / 2 ^ k) := by
 have hq : 0 < n / 2 ^ k := Nat.div_pos h (Nat.pow_pos (by omega))
 have h1 := eH (n / 2 ^ k)
 have h2 := gD (n / 2 ^ k) hq
 have h3 := fT _ hq
 refine vC n _ ?_ ?_ (by omega)
 · rw [show k + aC (n / 2 ^ k) - 1 = (aC (n / 2 ^ k) - 1) + k by omega, Nat.pow_add]
   exact Nat.le_trans (Nat.mul_le_mul_right _ h2) (Nat.div_mul_le_self n _)
 · rw [Nat.pow_add]
   exact (Nat.div_lt_iff_lt_mul (Nat.pow_pos (by omega))).1 h1 |> fun h => by rwa [Nat.mul_comm] at h

theorem bW (n k : Nat) (h : n < 2 ^ k) : aC n ≤ k := M.len_of_lt (by omega) n k h

theorem JP (a : Nat) (h : 0 < a) : aC a = 32 * ((D a).length - 1) + aC ((D a).getD ((D a).length - 1) 0) := by
 have h1 := M.mG (B := 4294967296) (by omega) a h
 have h2 := M.iR (B := 4294967296) (by omega) a
 have hl : (D a).length ≠ 0 := by unfold D; rw [M.aS (by omega) h]; simp
 obtain ⟨m, hm⟩ : ∃ m, (D a).length = m + 1 := ⟨(D a).length - 1, by omega⟩
 have hm' : (M.dig 4294967296 a).length = m + 1 := hm
 rw [hm'] at h1 h2
 rw [hm, Nat.add_sub_cancel] at *
 have e : (4294967296 : Nat) ^ m = 2 ^ (32 * m) := by rw [show (4294967296 : Nat) = 2 ^ 32 from rfl, ← Nat.pow_mul]
 have hg : (D a).getD m 0 = a / 4294967296 ^ m := by
  have hh : (M.dig 4294967296 a).getD m 0 = a / 4294967296 ^ m % 4294967296 := by
   have : ∀ k n, (M.dig 4294967296 n).getD k 0 = n / 4294967296 ^ k % 4294967296 := by
    intro k
    induction k with
    | zero =>
      intro n
      by_cases hn : 0 < n
      · rw [M.aS (by omega) hn]; simp
      · have : n = 0 := by omega
        subst this; simp [M.aJ]
    | succ k ih =>
      intro n
      by_cases hn : 0 < n
      · rw [M.aS (by omega) hn, List.getD_cons_succ, ih, Nat.div_div_eq_div_mul, Nat.pow_succ, Nat.mul_comm 4294967296]
      · have : n = 0 := by omega
        subst this; simp [M.aJ]
   exact this m a
  unfold D
  rw [hh]
  apply Nat.mod_eq_of_lt
  apply Nat.div_lt_of_lt_mul
  rw [← Nat.pow_succ]; exact h2
 rw [hg, e]
 exact oH (32 * m) a (by rw [← e]; exact h1)

def RetB (w w' : World) (e : Ending) (r : List Nat) (b : Bool) : Prop :=
 ∃ ao cap, e = .returned (.tuple #[.slice ao r.length cap, .bool b]) ∧ w'.ownsRow w.heap.size 23 1 (.slice ao r.length cap) r.length (U r) ∧ Below w.heap.size w w'

theorem RetB.nil {w w' : World} (h : Below w.heap.size w w') : RetB w w' (.returned (.tuple #[.slice none 0 0, .bool false])) [] false := ⟨none, 0, rfl, World.ownsRow_nil _ _ _ _, h⟩

theorem Rd.drewN {w : World} {ao : Option Addr} {xs : List Nat} (h : Rd w ao xs) (q : Nat) : Rd (w.drewN q) ao xs := h

theorem gP (ao bo : Option Addr) (n m c d : Nat) (a b : Nat) (w : World) (hl : (D a).length = n) (hm : (D b).length = m) (hba : b ≤ a) (hn : n ≤ 2097152) (hr : Rd w ao (D a)) (hr2 : Rd w bo (D b)) :
 Calls Tryz.prog 56 #[.slice ao n c, .slice bo m d] w fun e w' => Ret w w' e (D (a - b)) := by
 obtain ⟨i0, hi, hz0, hz1, hz2⟩ := info_parts Tryz.infoU
 have fa := fS a
 have fb := fS b
 have hmn : m ≤ n := by
  rcases Nat.lt_or_ge n m with h | h
  · have : a < b := M.cH (B := 4294967296) (by omega) (by unfold D at hl hm; omega)
    omega
  · exact h
 go_enter Tryz.func56, Tryz.ntmps56
 go_wp2_with fail
 go_loopw [5, 6, 7] (fun v cy i wr => ∃ (k : Nat) (os : List Nat) (cc : Nat), k ≤ n ∧ i = .int .i64 k ∧ cy = .int .u64 cc ∧ cc ≤ 1 ∧ wr.ownsRow w.heap.size 23 1 v k (U os) ∧ F32 os ∧ os.length = k ∧ X os + X ((D b).take k) = X ((D a).take k) + cc * 4294967296 ^ k ∧ Below w.heap.size w wr) (fun _ _ i _ => n - (intOf i).toNat)
 case atStart => exact ⟨0, [], 0, by omega, rfl, rfl, by omega, World.ownsRow_nil _ _ _ _, fun x hx => by simp at hx, rfl, by simp [X, M.val], Below.refl _ _⟩
 case round =>
  obtain ⟨k, os, cc, hk, rfl, rfl, hcc, hown, hf, hlen, hv, hbl⟩ := hrel
  have HV := hid hv; clear hv
  have HLen := hid hlen; clear hlen
  by_cases hlt : k < n
  · obtain ⟨b1, o1, hao, hcA⟩ := (hr.below hbl) (by omega)
    have hck := hcA k (by omega)
    clear hcA
    obtain ⟨x, hxx⟩ : ∃ x : Nat, x = (D a).getD k 0 := ⟨_, rfl⟩
    obtain ⟨y, hyy⟩ : ∃ y : Nat, y = (D b).getD k 0 := ⟨_, rfl⟩
    have hx1 := fa.get k
    have hy1 := fb.get k
    rw [← hxx] at hx1 hck
    rw [← hyy] at hy1
    have HX := hid hxx; clear hxx
    have HY := hid hyy; clear hyy
    have hlt' : (k : Int) < (n : Int) := by omega
    obtain ⟨s, hs0⟩ : ∃ s : Nat, s = 4294967296 + x - y - cc := ⟨_, rfl⟩
    have w2 : (4294967296 : Int) + (x : Int) - (y : Int) - (cc : Int) = (s : Int) := by omega
    have hlow : bits BinOp.and IntKind.u64 (s : Int) 4294967295 = ((s % 4294967296 : Nat) : Int) := by
     rw [and_low32 _ (by omega) (by omega)]; omega
    have hsb : s < 8589934592 := by omega
    obtain ⟨o, eo⟩ : ∃ o : Nat, o = s % 4294967296 := ⟨_, rfl⟩
    rw [← eo] at hlow
    obtain ⟨c', ec'⟩ : ∃ c' : Nat, c' = 1 - s / 4294967296 := ⟨_, rfl⟩
    have hsum : o + y + cc = x + 4294967296 * c' ∧ c' ≤ 1 ∧ o < 4294967296 ∧ (1 : Int) - (s : Int) / 4294967296 = (c' : Int) := by omega
    have E0 := hid hs0; have E1 := hid hsum; have E2 := hid eo; have E3 := hid ec'
    clear hs0 hsum eo ec'
    go_wp2_with fail
    go_quiet ((go_at_call 47; exact Calls.quiet_of_same (cK bo _ d k (D b) _ hm (by omega) (by omega) (Rd.drewN (hr2.below hbl) _) y HY.out)))
    have hown2 : (wr.drewN nq).ownsRow w.heap.size 23 1 _ k (U os) := hown
    have hbl2 := below_drewN hbl nq
    generalize wr.drewN nq = wq at hown2 hbl2 ⊢
    clear hown hck
    go_wp2_with (at_builtin; refine wpList_append_own _ rfl _ _ 53 rfl w.heap.size 23 i0 (.int .u64 0) 1 8 Tryz.underlying53 hi hz0 hz1 hz2 rfl (by decide) _ _ _ rfl (hown2.alloc _) ⟨wq.heap.size, 0, none⟩ 1 1 (U [o]) rfl rfl ?c1 ?c2 ?c3 ?c4 ?c5 ?_)
    case c1 =>
     intro j u hj
     match j, hj with
     | 0, hj => simp [U] at hj; subst hj; simp [Addr.add]
    case c2 => exact gN _
    case c3 => unfold maxLen; omega
    case c4 => omega
    case c5 => have := hbl2.size; simp; omega
    intro v' w1 hown' hgrow hnn
    clear hnn
    have hb1 : Below w.heap.size w w1 := (hbl2.alloc hbl2.size _).grown hgrow (by have := hbl2.size; simp; omega) (fun k' hk' => (hown2.lt k' hk').1)
    clear hown2 hgrow
    go_wp2_with fail
    go_roundw
    case rel =>
     have R : ∃ (k1 : Nat) (os1 : List Nat) (cc1 : Nat), k1 ≤ n ∧ Value.int .i64 ((k : Int) + 1) = .int .i64 k1 ∧ Value.int .u64 ((1 : Int) - (s : Int) / 4294967296) = .int .u64 cc1 ∧ cc1 ≤ 1 ∧ w1.ownsRow w.heap.size 23 1 v' k1 (U os1) ∧ F32 os1 ∧ os1.length = k1 ∧ X os1 + X ((D b).take k1) = X ((D a).take k1) + cc1 * 4294967296 ^ k1 ∧ Below w.heap.size w w1 := by
      refine ⟨k + 1, os ++ [o], c', by omega, by go_num, by rw [E1.out.2.2.2], E1.out.2.1, ?_, ?_, by simp [HLen.out], ?_, hb1⟩
      · rw [cI]; exact hown'
      · intro z hz
        rcases List.mem_append.1 hz with hz | hz
        · exact hf z hz
        · simp at hz; have := E1.out.2.2.1; omega
      · unfold X at *
        rw [M.fQ, HLen.out, M.aH, M.aH, ← HX.out, ← HY.out, Nat.pow_succ]
        exact M.sub_place HV.out E1.out.1
     first | exact R | ((repeat apply Exists.intro); exact ⟨R, rfl⟩) | ((repeat apply Exists.intro); exact ⟨R, by rw [hao]⟩)
    case measure => simp [intOf]; omega
  · have e : k = n := by omega
    subst e
    have hfin : X os = a - b := by
     have h1 := HV.out
     rw [jB a k (by omega), jB b k (by omega)] at h1
     have h2 := M.eT (B := 4294967296) (by omega) os hf
     rw [HLen.out] at h2
     exact (M.no_borrow h1 h2 hba).2
    have hv := dM hown
    obtain ⟨ao1, cap1, hv⟩ := hv
    rw [hv]
    rw [hv] at hown
    clear hv
    have HF := hid hfin; clear hfin
    go_wp2_with fail
    have hrd := Rd.own hown
    refine (aZ 4294967296 (by omega) ao1 _ cap1 os _ HLen.out (dC hown) (by omega) hf hrd).mono ?_
    have hfin : M.val 4294967296 os = a - b := HF.out
    rw [hfin]
    rintro e w1 ⟨ao', cap', rfl, ho, hb⟩
    go_wp2_with fail
    go_ret
    exact ⟨ao', cap', rfl, aO ho hbl.size, hbl.trans (hb.mono hbl.size)⟩

theorem vB {a b : Nat} (h : a < b) : aR (a : Int) (b : Int) < 0 := by rw [dI h]; omega

theorem iV {a b : Nat} (h : b ≤ a) : ¬ aR (a : Int) (b : Int) < 0 := by
 rcases Nat.lt_or_ge b a with h1 | h1
 · rw [dJ h1]; omega
 · rw [nB (by omega)]; omega

theorem lI (w : World) (xs : List Nat) : Blk (w.alloc (.cells (U xs).toArray 23)) w.heap.size xs := heap_alloc_new w _

theorem dA (x : Nat) (w : World) (h : x < 18446744073709551616) :
 Calls Tryz.prog 44 #[.int .u64 (x : Int)] w fun e w' => Ret w w' e (D x) := by
 have hlow : bits BinOp.and IntKind.u64 (x : Int) 4294967295 = ((x % 4294967296 : Nat) : Int) := by
  rw [and_low32 _ (by omega) (by omega)]; omega
 have hhi : (x : Int) / 4294967296 = ((x / 4294967296 : Nat) : Int) := by omega
 have hB := lI w [x % 4294967296, x / 4294967296]
 have hb : Below w.heap.size w (w.alloc (.cells (U [x % 4294967296, x / 4294967296]).toArray 23)) := (Below.refl _ _).alloc (Nat.le_refl _) _
 have hU : (U [x % 4294967296, x / 4294967296]).toArray = #[Value.int .u64 ((x % 4294967296 : Nat) : Int), Value.int .u64 ((x / 4294967296 : Nat) : Int)] := rfl
 rw [hU] at hB hb
 have hv : M.val 4294967296 [x % 4294967296, x / 4294967296] = x := by simp [M.val]; omega
 have hf : F32 [x % 4294967296, x / 4294967296] := by intro y hy; simp at hy; omega
 obtain ⟨lo, elo⟩ : ∃ lo : Nat, lo = x % 4294967296 := ⟨_, rfl⟩
 obtain ⟨hi, ehi⟩ : ∃ hi : Nat, hi = x / 4294967296 := ⟨_, rfl⟩
 rw [← elo, ← ehi] at hB hb hv hf
 rw [← elo] at hlow
 rw [← ehi] at hhi
 have HV := hid hv
 clear hv hU elo ehi
 go_enter Tryz.func44, Tryz.ntmps44
 go_wp2_with fail
 refine (aZ 4294967296 (by omega) _ 2 2 [lo, hi] _ rfl (by omega) (by omega) hf hB.rd0).mono ?_
 rw [HV.out]
 rintro e w1 ⟨ao', cap', rfl, ho, hb'⟩
 go_wp2_with fail
 go_ret
 exact ⟨ao', cap', rfl, aO ho hb.size, hb.trans (hb'.mono hb.size)⟩

theorem cO (ao : Option Addr) (n c : Nat) (a : Nat) (w : World) (hl : (D a).length = n) (hn : n ≤ 1048576) (hr : Rd w ao (D a)) (b : Nat) (hb : b = aC a) :
 Calls Tryz.prog 21 #[.slice ao n c] w fun e w' => e = .returned (.int .i64 (b : Int)) ∧ w' = w := by
 by_cases h0 : n = 0
 · subst h0
   have ha : a = 0 := by
    rcases Nat.eq_zero_or_pos a with h | h
    · exact h
    · unfold D at hl; rw [M.aS (by omega) h] at hl; simp at hl
   have hb0 : b = 0 := by rw [hb, ha, eP]
   subst hb0
   clear hb ha hl hr
   go_enter Tryz.func21, Tryz.ntmps21
   go_wp2_with fail
   go_ret
   exact ⟨rfl, rfl⟩
 · obtain ⟨m, rfl⟩ : ∃ m, n = m + 1 := ⟨n - 1, by omega⟩
   have ha : 0 < a := by
    rcases Nat.eq_zero_or_pos a with h | h
    · rw [h] at hl; simp [D, M.aJ] at hl
    · exact h
   have hbl := JP a ha
   rw [hl, Nat.add_sub_cancel] at hbl
   obtain ⟨b1, o1, hao, hcl⟩ := hr (by omega)
   have hck := hcl m (by omega)
   clear hcl
   have ht := (fS a).get m
   obtain ⟨t, htt⟩ : ∃ t : Nat, t = (D a).getD m 0 := ⟨_, rfl⟩
   rw [← htt] at hck ht hbl
   rw [← hb] at hbl
   have hne : (((m : Int) + 1) == 0) = false := by simp; omega
   have e1 : ((m + 1 : Nat) : Int) = (m : Int) + 1 := by omega
   have hltm : (m : Int) < (m : Int) + 1 := by omega
   have HBL := hid hbl; have HT := hid htt
   clear hbl htt hb
   go_enter Tryz.func21, Tryz.ntmps21
   go_wp2_with fail
   go_loop [3, 4] (fun cn x => ∃ k y : Nat, cn = .int .i64 (32 * (m : Int) + (k : Int)) ∧ x = .int .u64 (y : Int) ∧ y < 4294967296 ∧ aC t = k + aC y ∧ k ≤ 32) (fun _ x => (intOf x).toNat)
   case atStart => exact ⟨0, t, by simp, rfl, ht, by omega, by omega⟩
   case round =>
    obtain ⟨k, y, rfl, rfl, hy, hk, hk2⟩ := hrel
    have HK := hid hk; clear hk
    by_cases hy0 : 0 < y
    · have hy0' : (0 : Int) < (y : Int) := by omega
      have hk3 : k < 32 := by
       have h1 := bW t 32 ht
       have h2 := HK.out
       have h3 := fT y hy0
       omega
      go_wp2_with fail
      go_round
      case rel =>
       refine ⟨k + 1, y / 2, by go_num, by go_num, by omega, ?_, by omega⟩
       have h1 := HK.out
       rw [qM y hy0] at h1
       omega
      case measure => simp [intOf]; omega
    · have : y = 0 := by omega
      subst this
      have hy0' : ¬ (0 : Int) < ((0 : Nat) : Int) := by omega
      go_wp2_with fail
      go_ret
      refine ⟨bJ ?_, rfl⟩
      have h1 := HK.out
      rw [eP] at h1
      have h2 := HBL.out
      rw [← HT.out] at *
      omega

theorem M.shl32 (x p cc : Nat) (hp : p < 32) (hx : x < 4294967296) (hc : cc < 2 ^ p) :
 x * 2 ^ p + cc < 9223372036854775808 ∧ (x * 2 ^ p + cc) / 4294967296 < 2 ^ p := by
 have h1 : 2 ^ p ≤ 2 ^ 31 := Nat.pow_le_pow_right (by omega) (by omega)
 have h2 : (x + 1) * 2 ^ p ≤ 4294967296 * 2 ^ p := Nat.mul_le_mul_right _ hx
 rw [Nat.add_mul] at h2
 constructor
 · have : 4294967296 * 2 ^ p ≤ 4294967296 * 2 ^ 31 := Nat.mul_le_mul_left _ h1
   omega
 · exact Nat.div_lt_of_lt_mul (by omega)

theorem vX (x p cc : Nat) (hp : p < 32) (hx : x < 4294967296) (hc : cc < 2 ^ p) :
 bits BinOp.or IntKind.u64 (IntKind.u64.wrap ((x : Int) * 2 ^ p)) (cc : Int) = ((x * 2 ^ p + cc : Nat) : Int) := by
 have hb := (M.shl32 x p cc hp hx hc).1
 have e1 : IntKind.u64.wrap ((x : Int) * 2 ^ p) = ((x * 2 ^ p : Nat) : Int) := by
  rw [eI, ← Int.natCast_mul, gE, Nat.mod_eq_of_lt (by omega)]
 have h1 : 2 ^ p ≤ 2 ^ 31 := Nat.pow_le_pow_right (by omega) (by omega)
 rw [e1, bQ _ _ (by omega) (by omega), iG cc x p hc, Nat.add_comm]

theorem mB (s : Nat) (hs : s < 18446744073709551616) : bits BinOp.and IntKind.u64 (s : Int) 4294967295 = ((s % 4294967296 : Nat) : Int) := by
 rw [and_low32 _ (by omega) (by omega)]; omega

theorem bU (ao : Option Addr) (n c s : Nat) (a : Nat) (w : World) (hl : (D a).length = n) (hn : n ≤ 1048576) (hs : s ≤ 100000) (hr : Rd w ao (D a)) :
 Calls Tryz.prog 39 #[.slice ao n c, .int .i64 (s : Int)] w fun e w' => Ret w w' e (D (a * 2 ^ s)) := by
 obtain ⟨i0, hi, hz0, hz1, hz2⟩ := info_parts Tryz.infoU
 obtain ⟨q, hq⟩ : ∃ q : Nat, q = s / 32 := ⟨_, rfl⟩
 obtain ⟨p, hp⟩ : ∃ p : Nat, p = s % 32 := ⟨_, rfl⟩
 have hqI : (s : Int) / 32 = (q : Int) := by omega
 have hpI : (s : Int) % 32 = (p : Int) := by omega
 have hpb : p < 32 := by omega
 have hqb : q ≤ 100000 := by omega
 have HQ := hid hq; clear hq
 have HP := hid hp; clear hp
 have hsq : 2 ^ s = 4294967296 ^ q * 2 ^ p := by
  rw [show (4294967296 : Nat) = 2 ^ 32 from rfl, ← Nat.pow_mul, ← Nat.pow_add]
  congr 1
  have := HQ.out; have := HP.out; omega
 have HSQ := hid hsq; clear hsq
 have hmk := fun (wx : World) => run_make (P := Tryz.prog) wx 53 23 i0 (.int .u64 0) Tryz.underlying53 hi hz0 .i64 .i64 (q : Int) (q : Int) (by omega) (Int.le_refl _) (by rw [hz2]; omega) (by omega)
 have fa := fS a
 go_enter Tryz.func39, Tryz.ntmps39
 go_wp2_with fail
 go_loopw [5, 6, 7] (fun v cy i wr => ∃ (k : Nat) (os : List Nat) (cc : Nat), k ≤ n + 1 ∧ i = .int .i64 k ∧ cy = .int .u64 cc ∧ cc < 2 ^ p ∧ wr.ownsRow w.heap.size 23 1 v (q + k) (U os) ∧ F32 os ∧ os.length = q + k ∧ X os + cc * 4294967296 ^ (q + k) = (4294967296 ^ q * 2 ^ p) * X ((D a).take k) ∧ Below w.heap.size w wr) (fun _ _ i _ => n + 1 - (intOf i).toNat)
 case atStart =>
  refine ⟨0, List.replicate q 0, 0, by omega, rfl, rfl, Nat.pow_pos (by omega), ?_, fun x hx => by simp at hx; omega, by simp, ?_, (Below.refl _ _).alloc (Nat.le_refl _) _⟩
  · exact (dQ w q).own (Nat.le_refl _) (by simp) (by unfold maxLen; omega)
  · unfold X; rw [M.cM]; simp [M.val]
 case round =>
  obtain ⟨k, os, cc, hk, rfl, rfl, hcc, hown, hf, hlen, hv, hbl⟩ := hrel
  clear hmk
  have HV := hid hv; clear hv
  have HLen := hid hlen; clear hlen
  by_cases hlt : k ≤ n
  · obtain ⟨x, hxx⟩ : ∃ x : Nat, x = (D a).getD k 0 := ⟨_, rfl⟩
    have hx1 := fa.get k
    rw [← hxx] at hx1
    have HX := hid hxx; clear hxx
    have hlt' : (k : Int) ≤ (n : Int) := by omega
    have hwo := vX x p cc hpb hx1 hcc
    have hbb := M.shl32 x p cc hpb hx1 hcc
    obtain ⟨t, ht⟩ : ∃ t : Nat, t = x * 2 ^ p + cc := ⟨_, rfl⟩
    rw [← ht] at hwo hbb
    have hlow := mB t (by omega)
    have hhi : (t : Int) / 4294967296 = ((t / 4294967296 : Nat) : Int) := by omega
    obtain ⟨o, eo⟩ : ∃ o : Nat, o = t % 4294967296 := ⟨_, rfl⟩
    rw [← eo] at hlow
    have hsum : o + 4294967296 * (t / 4294967296) = x * 2 ^ p + cc ∧ o < 4294967296 := by omega
    have E1 := hid hsum; have E2 := hid hbb; have E3 := hid ht; have E4 := hid eo; have E5 := hid hhi
    clear hsum hbb ht eo hhi hcc
    go_wp2_with fail
    refine (cK ao _ c k (D a) _ hl (by omega) (by omega) (hr.below hbl) x HX.out).mono ?_
    rintro e w2 ⟨rfl, rfl⟩
    go_wp2_with (at_builtin; refine wpList_append_own _ rfl _ _ 53 rfl w.heap.size 23 i0 (.int .u64 0) 1 8 Tryz.underlying53 hi hz0 hz1 hz2 rfl (by decide) _ _ _ rfl (hown.alloc _) ⟨w2.heap.size, 0, none⟩ 1 1 (U [o]) rfl rfl ?c1 ?c2 ?c3 ?c4 ?c5 ?_)
    case c1 =>
     intro j u hj
     match j, hj with
     | 0, hj => simp [U] at hj; subst hj; simp [Addr.add]
    case c2 => exact gN _
    case c3 => unfold maxLen; omega
    case c4 => omega
    case c5 => have := hbl.size; simp; omega
    intro v' w1 hown' hgrow hnn
    clear hnn
    have hb1 : Below w.heap.size w w1 := (hbl.alloc hbl.size _).grown hgrow (by have := hbl.size; simp; omega) (fun k' hk' => (hown.lt k' hk').1)
    clear hown hgrow
    go_wp2_with fail
    go_roundw
    case rel =>
     have R : ∃ (k1 : Nat) (os1 : List Nat) (cc1 : Nat), k1 ≤ n + 1 ∧ Value.int .i64 ((k : Int) + 1) = .int .i64 k1 ∧ Value.int .u64 ((t : Int) / 4294967296) = .int .u64 cc1 ∧ cc1 < 2 ^ p ∧ w1.ownsRow w.heap.size 23 1 v' (q + k1) (U os1) ∧ F32 os1 ∧ os1.length = q + k1 ∧ X os1 + cc1 * 4294967296 ^ (q + k1) = (4294967296 ^ q * 2 ^ p) * X ((D a).take k1) ∧ Below w.heap.size w w1 := by
      refine ⟨k + 1, os ++ [o], t / 4294967296, by omega, by go_num, by rw [E5.out], E2.out.2, ?_, ?_, by simp [HLen.out]; omega, ?_, hb1⟩
      · rw [cI]; exact hown'
      · intro z hz
        rcases List.mem_append.1 hz with hz | hz
        · exact hf z hz
        · simp at hz; have := E1.out.2; omega
      · have e3 := HV.out
        unfold X at *
        rw [M.aH, ← HX.out, show q + (k + 1) = q + k + 1 by omega, Nat.pow_succ, M.fQ, HLen.out]
        rw [Nat.pow_add] at e3 ⊢
        exact M.uO e3 rfl E1.out.1
     first | exact R | ((repeat apply Exists.intro); exact ⟨R, rfl⟩)
    case measure => simp [intOf]; omega
  · have e : k = n + 1 := by omega
    have hfin : X os = a * 2 ^ s := by
     have h1 := HV.out
     rw [jB a k (by omega), ← HSQ.out] at h1
     have h2 := oX a n (by omega)
     rw [Nat.mul_comm a]
     refine (M.nU h1 ?_).2
     rw [HSQ.out, e, show q + (n + 1) = q + 1 + n by omega, Nat.pow_add, Nat.pow_succ]
     have h3 : 2 ^ p ≤ 4294967296 := Nat.le_trans (Nat.pow_le_pow_right (by omega) (show p ≤ 32 by omega)) (by omega)
     have h4 : 4294967296 ^ q * 2 ^ p ≤ 4294967296 ^ q * 4294967296 := Nat.mul_le_mul_left _ h3
     exact Nat.lt_of_lt_of_le (Nat.mul_lt_mul_of_pos_left h2 (Nat.mul_pos (Nat.pow_pos (by omega)) (Nat.pow_pos (by omega)))) (Nat.mul_le_mul_right _ h4)
    have hv := dM hown
    obtain ⟨ao1, cap1, hv⟩ := hv
    rw [hv]
    rw [hv] at hown
    have hlt' : ¬ (k : Int) ≤ (n : Int) := by omega
    clear e hv hcc
    have HF := hid hfin; clear hfin
    go_wp2_with fail
    have hrd := Rd.own hown
    refine (aZ 4294967296 (by omega) ao1 _ cap1 os _ HLen.out (dC hown) (by omega) hf hrd).mono ?_
    have hfin : M.val 4294967296 os = a * 2 ^ s := HF.out
    rw [hfin]
    rintro e w1 ⟨ao', cap', rfl, ho, hb⟩
    go_wp2_with fail
    go_ret
    exact ⟨ao', cap', rfl, aO ho hbl.size, hbl.trans (hb.mono hbl.size)⟩

theorem M.shr_digit {C P Q A k : Nat} (hC : 0 < C) (hP : 0 < P) (hCP : C = Q * P) : ((A / C ^ k) % (C * C) / P) % C = A / P / C ^ k % C := by
 have e1 : C * C = P * (Q * C) := by rw [← Nat.mul_assoc, Nat.mul_comm P Q, ← hCP]
 rw [e1, Nat.mod_mul_right_div_self, Nat.mod_mul_left_mod, Nat.div_div_eq_div_mul, Nat.div_div_eq_div_mul, Nat.mul_comm]

theorem M.two_digits (C Z : Nat) (hC : 0 < C) : Z % C + (Z / C) % C * C = Z % (C * C) := by
 rw [Nat.mod_mul, Nat.mul_comm C]

theorem M.dig_get {B : Nat} (hB : 1 < B) (k : Nat) : ∀ n, (M.dig B n).getD k 0 = n / B ^ k % B := by
 induction k with
 | zero =>
   intro n
   by_cases hn : 0 < n
   · rw [M.aS hB hn]; simp
   · have : n = 0 := by omega
     subst this; simp [M.aJ]
 | succ k ih =>
   intro n
   by_cases hn : 0 < n
   · rw [M.aS hB hn, List.getD_cons_succ, ih, Nat.div_div_eq_div_mul, Nat.pow_succ, Nat.mul_comm B]
   · have : n = 0 := by omega
     subst this; simp [M.aJ]

theorem yG (a k : Nat) : (D a).getD k 0 = a / 4294967296 ^ k % 4294967296 := M.dig_get (by omega) k a

theorem gH (ao : Option Addr) (n c s : Nat) (a : Nat) (w : World) (hl : (D a).length = n) (hn : n ≤ 1048576) (hs : s ≤ 100000) (hr : Rd w ao (D a)) :
 Calls Tryz.prog 57 #[.slice ao n c, .int .i64 (s : Int)] w fun e w' => Ret w w' e (D (a / 2 ^ s)) := by
 obtain ⟨i0, hi, hz0, hz1, hz2⟩ := info_parts Tryz.infoU
 obtain ⟨q, hq⟩ : ∃ q : Nat, q = s / 32 := ⟨_, rfl⟩
 obtain ⟨p, hp⟩ : ∃ p : Nat, p = s % 32 := ⟨_, rfl⟩
 have hqI : (s : Int) / 32 = (q : Int) := by omega
 have hpI : (s : Int) % 32 = (p : Int) := by omega
 have hpb : p < 32 := by omega
 have hqb : q ≤ 100000 := by omega
 have HQ := hid hq; clear hq
 have HP := hid hp; clear hp
 have hsq : 2 ^ s = 4294967296 ^ q * 2 ^ p := by
  rw [show (4294967296 : Nat) = 2 ^ 32 from rfl, ← Nat.pow_mul, ← Nat.pow_add]
  congr 1
  have := HQ.out; have := HP.out; omega
 have HSQ := hid hsq; clear hsq
 have fa := fS a
 obtain ⟨A, hA⟩ : ∃ A : Nat, A = a / 4294967296 ^ q := ⟨_, rfl⟩
 have HA := hid hA; clear hA
 go_enter Tryz.func57, Tryz.ntmps57
 go_wp2_with fail
 go_loopw [5, 6] (fun v i wr => ∃ (k : Nat) (os : List Nat), (k = 0 ∨ q + k ≤ n) ∧ i = .int .i64 ((q : Int) + (k : Int)) ∧ wr.ownsRow w.heap.size 23 1 v k (U os) ∧ F32 os ∧ os.length = k ∧ X os = A / 2 ^ p % 4294967296 ^ k ∧ Below w.heap.size w wr) (fun _ i _ => n - (intOf i).toNat)
 case atStart => exact ⟨0, [], Or.inl rfl, by simp, World.ownsRow_nil _ _ _ _, fun x hx => by simp at hx, rfl, by simp [X, M.val, Nat.mod_one], Below.refl _ _⟩
 case round =>
  obtain ⟨k, os, hk, rfl, hown, hf, hlen, hv, hbl⟩ := hrel
  have HV := hid hv; clear hv
  have HLen := hid hlen; clear hlen
  have HK := hid hk; clear hk
  by_cases hlt : q + k < n
  · obtain ⟨x, hxx⟩ : ∃ x : Nat, x = (D a).getD (q + k) 0 := ⟨_, rfl⟩
    obtain ⟨y, hyy⟩ : ∃ y : Nat, y = (D a).getD (q + k + 1) 0 := ⟨_, rfl⟩
    have hx1 := fa.get (q + k)
    have hy1 := fa.get (q + k + 1)
    rw [← hxx] at hx1
    rw [← hyy] at hy1
    have hdx : x = A / 4294967296 ^ k % 4294967296 := by rw [hxx, yG, HA.out, Nat.div_div_eq_div_mul, Nat.pow_add]
    have hdy : y = A / 4294967296 ^ k / 4294967296 % 4294967296 := by rw [hyy, yG, HA.out, Nat.div_div_eq_div_mul, Nat.div_div_eq_div_mul, Nat.pow_succ, Nat.pow_add, Nat.mul_assoc]
    have hlt' : (q : Int) + (k : Int) < (n : Int) := by omega
    have hwo := rW x y hx1 hy1
    obtain ⟨t, ht⟩ : ∃ t : Nat, t = x + y * 4294967296 := ⟨_, rfl⟩
    rw [← ht] at hwo
    have hdt : t = A / 4294967296 ^ k % (4294967296 * 4294967296) := by rw [ht, hdx, hdy, M.two_digits _ _ (by omega)]
    have hdc := bX t p
    have hlow := mB (t / 2 ^ p) (Nat.lt_of_le_of_lt (Nat.div_le_self _ _) (by omega))
    obtain ⟨o, eo⟩ : ∃ o : Nat, o = t / 2 ^ p % 4294967296 := ⟨_, rfl⟩
    rw [← eo] at hlow
    have hdo : o = A / 2 ^ p / 4294967296 ^ k % 4294967296 := by
     rw [eo, hdt]
     exact M.shr_digit (Q := 2 ^ (32 - p)) (by omega) (Nat.pow_pos (by omega)) (by rw [M.dK p 32 (by omega)])
    have hob : o < 4294967296 := by rw [eo]; omega
    have HX := hid hxx; have HY := hid hyy; have E1 := hid hdo; have E2 := hid hob
    clear hxx hyy hdx hdy hdt ht eo hdo hob
    generalize t / 2 ^ p = u at hdc hlow
    go_wp2_with fail
    refine (cK ao _ c (q + k) (D a) _ hl (by omega) (by omega) (hr.below hbl) x HX.out).mono ?_
    rintro e w2 ⟨rfl, rfl⟩
    go_wp2_with fail
    refine (cK ao _ c (q + k + 1) (D a) _ hl (by omega) (by omega) (hr.below hbl) y HY.out).mono ?_
    rintro e w3 ⟨rfl, rfl⟩
    go_wp2_with (at_builtin; refine wpList_append_own _ rfl _ _ 53 rfl w.heap.size 23 i0 (.int .u64 0) 1 8 Tryz.underlying53 hi hz0 hz1 hz2 rfl (by decide) _ _ _ rfl (hown.alloc _) ⟨w3.heap.size, 0, none⟩ 1 1 (U [o]) rfl rfl ?c1 ?c2 ?c3 ?c4 ?c5 ?_)
    case c1 =>
     intro j u hj
     match j, hj with
     | 0, hj => simp [U] at hj; subst hj; simp [Addr.add]
    case c2 => exact gN _
    case c3 => unfold maxLen; omega
    case c4 => omega
    case c5 => have := hbl.size; simp; omega
    intro v' w1 hown' hgrow hnn
    clear hnn
    have hb1 : Below w.heap.size w w1 := (hbl.alloc hbl.size _).grown hgrow (by have := hbl.size; simp; omega) (fun k' hk' => (hown.lt k' hk').1)
    clear hown hgrow
    go_wp2_with fail
    go_roundw
    case rel =>
     have R : ∃ (k1 : Nat) (os1 : List Nat), (k1 = 0 ∨ q + k1 ≤ n) ∧ Value.int .i64 ((q : Int) + (k : Int) + 1) = .int .i64 ((q : Int) + (k1 : Int)) ∧ w1.ownsRow w.heap.size 23 1 v' k1 (U os1) ∧ F32 os1 ∧ os1.length = k1 ∧ X os1 = A / 2 ^ p % 4294967296 ^ k1 ∧ Below w.heap.size w w1 := by
      refine ⟨k + 1, os ++ [o], Or.inr (by omega), by go_num, ?_, ?_, by simp [HLen.out], ?_, hb1⟩
      · rw [cI]; exact hown'
      · intro z hz
        rcases List.mem_append.1 hz with hz | hz
        · exact hf z hz
        · simp at hz; have := E2.out; omega
      · have e3 := HV.out
        unfold X at *
        rw [M.fQ, HLen.out, e3, Nat.mod_pow_succ, ← E1.out]
     first | exact R | ((repeat apply Exists.intro); exact ⟨R, rfl⟩)
    case measure => simp [intOf]; omega
  · have hfin : X os = a / 2 ^ s := by
     rw [HV.out, HSQ.out, ← Nat.div_div_eq_div_mul, ← HA.out]
     apply Nat.mod_eq_of_lt
     refine Nat.lt_of_le_of_lt (Nat.div_le_self _ _) ?_
     have h2 := oX a n (by omega)
     rw [HA.out]
     apply Nat.div_lt_of_lt_mul
     rw [← Nat.pow_add]
     exact Nat.lt_of_lt_of_le h2 (Nat.pow_le_pow_right (by omega) (by have := HK.out; omega))
    have hkb : k ≤ 1048576 := by have := HK.out; omega
    have hv := dM hown
    obtain ⟨ao1, cap1, hv⟩ := hv
    rw [hv]
    rw [hv] at hown
    have hlt' : ¬ (q : Int) + (k : Int) < (n : Int) := by omega
    clear hv
    have HF := hid hfin; clear hfin
    go_wp2_with fail
    have hrd := Rd.own hown
    refine (aZ 4294967296 (by omega) ao1 _ cap1 os _ HLen.out (dC hown) (by omega) hf hrd).mono ?_
    have hfin : M.val 4294967296 os = a / 2 ^ s := HF.out
    rw [hfin]
    rintro e w1 ⟨ao', cap', rfl, ho, hb⟩
    go_wp2_with fail
    go_ret
    exact ⟨ao', cap', rfl, aO ho hbl.size, hbl.trans (hb.mono hbl.size)⟩

end Go.Proofs.YtdfljbpcjkbflaaGreatDoor
namespace Go.Proofs.YtdfljbpcjkbflaaGreatDoor.M
set_option linter.unusedVariables false
set_option maxRecDepth 100000
theorem Fm.pk3 (F : Fm) (n : Bool) (s : Nat) (q : Int) : F.pk ⟨3, n, s, q⟩ = F.word n (q + F.emax + F.p - 1).toNat s := by simp [Fm.pk]

end Go.Proofs.YtdfljbpcjkbflaaGreatDoor.M
namespace Go.Proofs.YtdfljbpcjkbflaaGreatDoor
open Go.RowKit
set_option linter.unusedVariables false
set_option maxRecDepth 100000
def D6 (v : World) (g : Nat) (e0 e1 e2 e3 e4 : Int) (e5 : Bool) : Prop := v.cell? ⟨g, 0, none⟩ = some (.int .i64 e0) ∧ v.cell? ⟨g, 1, none⟩ = some (.int .i64 e1) ∧ v.cell? ⟨g, 2, none⟩ = some (.int .i64 e2) ∧ v.cell? ⟨g, 3, none⟩ = some (.int .i64 e3) ∧ v.cell? ⟨g, 4, none⟩ = some (.int .i64 e4) ∧ v.cell? ⟨g, 5, none⟩ = some (.bool e5) ∧ g < v.heap.size

theorem D6.below {v v' : World} {g : Nat} {e0 e1 e2 e3 e4 : Int} {e5 : Bool} (h : D6 v g e0 e1 e2 e3 e4 e5) (hb : Below v.heap.size v v') : D6 v' g e0 e1 e2 e3 e4 e5 := by
 obtain ⟨d0, d1, d2, d3, d4, d5, l⟩ := h
 exact ⟨(hb.cell l).trans d0, (hb.cell l).trans d1, (hb.cell l).trans d2, (hb.cell l).trans d3, (hb.cell l).trans d4, (hb.cell l).trans d5, Nat.lt_of_lt_of_le l hb.size⟩

theorem JN (v : World) (e0 e1 e2 e3 e4 : Int) (e5 : Bool) (t : TypeId) : D6 (v.alloc (.cells #[.int .i64 e0, .int .i64 e1, .int .i64 e2, .int .i64 e3, .int .i64 e4, .bool e5] t)) v.heap.size e0 e1 e2 e3 e4 e5 := by
 unfold D6; simp [go_sem]

theorem D6.far {v : World} {g k : Nat} {e0 e1 e2 e3 e4 : Int} {e5 : Bool} (h : D6 v g e0 e1 e2 e3 e4 e5) (hk : g ≠ k) (a b : Value) : D6 ((v.setCell ⟨k, 0, none⟩ a).setCell ⟨k, 1, none⟩ b) g e0 e1 e2 e3 e4 e5 := by
 obtain ⟨d0, d1, d2, d3, d4, d5, l⟩ := h
 exact ⟨(far2 v _ _ hk).trans d0, (far2 v _ _ hk).trans d1, (far2 v _ _ hk).trans d2, (far2 v _ _ hk).trans d3, (far2 v _ _ hk).trans d4, (far2 v _ _ hk).trans d5, by simpa using l⟩

theorem W2.bl {v v' : World} {g X : Nat} (h : W2 v g X) (hb : Below v.heap.size v v') : W2 v' g X :=
 ⟨(hb.cell h.2.2.2.2).trans h.1, (hb.cell h.2.2.2.2).trans h.2.1, (hb.frozen h.2.2.2.2).trans h.2.2.1, (hb.frozen h.2.2.2.2).trans h.2.2.2.1, Nat.lt_of_lt_of_le h.2.2.2.2 hb.size⟩

theorem W2.farS {v : World} {g k X : Nat} (h : W2 v g X) (hk : g ≠ k) (a b : Value) : W2 ((v.setCell ⟨k, 0, none⟩ a).setCell ⟨k, 1, none⟩ b) g X := by
 obtain ⟨d0, d1, f0, f1, l⟩ := h
 exact ⟨(far2 v _ _ hk).trans d0, (far2 v _ _ hk).trans d1, (eL v _ _ hk).trans f0, (eL v _ _ hk).trans f1, by simpa using l⟩

structure At (w v : World) (gf gs : Nat) (e0 e1 e2 e3 e4 : Int) (e5 : Bool) (A X : Nat) : Prop where
 b : Below w.heap.size w v
 d : D6 v w.heap.size e0 e1 e2 e3 e4 e5
 o : W2 v (w.heap.size + 1 + 1) 0
 f : W2 v gf A
 s : W2 v gs X
 l : w.heap.size + 1 + 1 < gf
 k : gf < gs

theorem At.below {w v v' : World} {gf gs : Nat} {e0 e1 e2 e3 e4 : Int} {e5 : Bool} {A X : Nat} (h : At w v gf gs e0 e1 e2 e3 e4 e5 A X) (hb : Below v.heap.size v v') : At w v' gf gs e0 e1 e2 e3 e4 e5 A X :=
 ⟨h.b.trans (hb.mono h.b.size), h.d.below hb, h.o.bl hb, h.f.bl hb, h.s.bl hb, h.l, h.k⟩

theorem fA (a : Nat) (h : a < 2 ^ 192) : (D a).length ≤ 6 := by
 apply M.len_of_lt (by omega)
 rw [show (4294967296 : Nat) = 2 ^ 32 from rfl, ← Nat.pow_mul]
 exact h

theorem IC (a k : Nat) : (L a).getD k 0 = a / 18446744073709551616 ^ k % 18446744073709551616 := M.dig_get (by omega) k a

theorem qA (xs : List Nat) (k : Nat) : (xs ++ [0, 0]).getD k 0 = xs.getD k 0 := by
 rcases Nat.lt_or_ge k xs.length with h | h
 · simp [List.getD_eq_getElem?_getD, List.getElem?_append_left h]
 · rw [List.getD_eq_getElem?_getD, List.getD_eq_getElem?_getD, List.getElem?_append_right h, List.getElem?_eq_none (by omega : xs.length ≤ k)]
   rcases k - xs.length with _ | _ | m <;> simp

theorem hH (ao : Option Addr) (n c : Nat) (a : Nat) (w : World) (hl : (D a).length = n) (ha : a < 2 ^ 128) (hr : Rd w ao (D a)) :
 Calls Tryz.prog 24 #[.slice ao n c] w fun e w' => e = .returned (.agg #[.int .u64 (M.hiN a : Int), .int .u64 (M.loN a : Int)]) ∧ Below w.heap.size w w' := by
 obtain ⟨i0, hi, hz0, hz1, hz2⟩ := info_parts Tryz.infoU
 have hn : n ≤ 6 := by rw [← hl]; exact fA a (by omega)
 have hL : (L a).length ≤ 4 := M.len_of_lt (by omega) _ _ (by omega)
 have g0 : (L a ++ [0, 0]).getD 0 0 = M.loN a := by rw [qA, IC]; simp [M.loN]
 have g1 : (L a ++ [0, 0]).getD 1 0 = M.hiN a := by rw [qA, IC]; have := M.gS ha; unfold M.hiN at *; simp; omega
 have G0 := hid g0; have G1 := hid g1
 clear g0 g1
 generalize M.hiN a = h at *
 generalize M.loN a = l at *
 go_enter Tryz.func24, Tryz.ntmps24
 go_wp2_with fail
 have b0 : Below w.heap.size w (w.alloc (.cells #[.int .u64 0, .int .u64 0] 25)) := (Below.refl _ _).alloc (Nat.le_refl _) _
 refine (zL ao n c a _ hl (by omega) (hr.below b0)).mono ?_
 rintro e w1 ⟨ao1, cap1, rfl, ho1, hb1⟩
 have hc1 := (cG hb1).1
 have hf1 := (cG hb1).2
 have b1 := b0.trans (hb1.mono b0.size)
 have hz : w.heap.size < w1.heap.size := by have := hb1.size; simp at this; omega
 go_wp2_with (at_builtin; refine wpList_append_own _ rfl _ _ 53 rfl (w.heap.size + 1) 23 i0 (.int .u64 0) 1 8 Tryz.underlying53 hi hz0 hz1 hz2 rfl (by decide) _ _ _ rfl ((aO ho1 (by simp)).alloc _) ⟨w1.heap.size, 0, none⟩ 2 2 (U [0, 0]) rfl rfl ?c1 ?c2 ?c3 ?c4 ?c5 ?_)
 case c1 =>
  intro j u hj
  match j, hj with
  | 0, hj => simp [U] at hj; subst hj; simp [Addr.add]
  | 1, hj => simp [U] at hj; subst hj; simp [Addr.add]
 case c2 => exact gN _
 case c3 => unfold maxLen; omega
 case c4 => omega
 case c5 => have := hb1.size; simp at this ⊢; omega
 intro v' w2 hown' hgrow hnn
 clear hnn
 have hb2 : Below (w.alloc (.cells #[.int .u64 0, .int .u64 0] 25)).heap.size (w.alloc (.cells #[.int .u64 0, .int .u64 0] 25)) w2 :=
  (hb1.alloc hb1.size _).grown hgrow (by have := hb1.size; simp at this ⊢; omega) (fun k hk => (ho1.lt k hk).1)
 have b2 := b0.trans (hb2.mono b0.size)
 rw [← cI] at hown'
 obtain ⟨ao2, cap2, hv⟩ := dM hown'
 subst hv
 have hcap := dC hown'
 have hrd := Rd.own hown'
 obtain ⟨b, off, hao, hcl⟩ := hrd (by simp)
 subst hao
 have hbge : w.heap.size + 1 ≤ b := (hown'.lt b rfl).1
 have k0 := hcl 0 (by simp)
 have k1 := hcl 1 (by simp)
 rw [G0.out] at k0
 rw [G1.out] at k1
 rw [Nat.add_zero] at k0
 have hne : w.heap.size ≠ b := by omega
 have hlt : b < w2.heap.size := World.block_lt_of_cell? w2 ⟨b, off, none⟩ k0
 have r0 : w2.cell? ⟨w.heap.size, 0, none⟩ = some (.int .u64 0) := (hb2.cell (by simp)).trans (by simp [go_sem])
 have r1 : w2.cell? ⟨w.heap.size, 1, none⟩ = some (.int .u64 0) := (hb2.cell (by simp)).trans (by simp [go_sem])
 have z0 : w2.frozen? ⟨w.heap.size, 0, none⟩ = false := (hb2.frozen (by simp)).trans (by simp [go_sem])
 have z1 : w2.frozen? ⟨w.heap.size, 1, none⟩ = false := (hb2.frozen (by simp)).trans (by simp [go_sem])
 clear hown' hgrow hrd hcl ho1 hb1 hb2 hc1 hf1 b1 hz
 generalize (L a).length = m at *
 have m1 : (1 : Int) < (m : Int) + 2 := by omega
 have m0 : (0 : Int) < (m : Int) + 2 := by omega
 go_wp2_with fail
 go_region_held3 (fun v => v.cell? ⟨b, off, none⟩ = some (.int .u64 (l : Int)) ∧ v.cell? ⟨b, off + 1, none⟩ = some (.int .u64 (h : Int))) (go_keep) (fail)
 go_wp2_with fail
 exact bodyPost_ret (v := .agg #[.int .u64 (h : Int), .int .u64 (l : Int)]) (by simp [results, Tryz.results24, go_sem, r0, r1]) rfl ⟨rfl, ((b2.setCell (p := ⟨w.heap.size, 0, none⟩) (Nat.le_refl _) _).setCell (p := ⟨w.heap.size, 1, none⟩) (Nat.le_refl _) _).drew⟩

theorem V2 (l h : Nat) : V [l, h] = h * 18446744073709551616 + l := by simp [V, M.val]; omega

theorem fG (X : Nat) (hX : X < 2 ^ 128) (w : World) :
 Calls Tryz.prog 20 #[.agg #[.int .u64 (M.hiN X : Int), .int .u64 (M.loN X : Int)]] w fun e w' => Ret w w' e (D X) := by
 have hv : V [M.loN X, M.hiN X] = X := by rw [V2]; exact (M.hl X).symm
 have hf : F64 [M.loN X, M.hiN X] := by intro y hy; simp at hy; have := M.gO X; have := M.gS hX; omega
 generalize M.hiN X = h at *
 generalize M.loN X = l at *
 have HV := hid hv; clear hv
 obtain ⟨w1, hw1⟩ : ∃ w1, w1 = w.alloc (.cells #[.int .u64 (h : Int), .int .u64 (l : Int)] 25) := ⟨_, rfl⟩
 have hB := lI w1 [l, h]
 have b0 : Below w.heap.size w w1 := by rw [hw1]; exact (Below.refl _ _).alloc (Nat.le_refl _) _
 have hb : Below w1.heap.size w1 (w1.alloc (.cells (U [l, h]).toArray 23)) := (Below.refl _ _).alloc (Nat.le_refl _) _
 have hU : (U [l, h]).toArray = #[Value.int .u64 (l : Int), Value.int .u64 (h : Int)] := rfl
 rw [hU] at hB hb
 have hsz : w1.heap.size = w.heap.size + 1 := by rw [hw1]; simp
 rw [hw1] at hB hb b0
 rw [hw1] at hsz
 rw [hsz] at hB
 clear hU hw1
 go_enter Tryz.func20, Tryz.ntmps20
 go_wp2_with fail
 refine (uV _ 2 2 [l, h] _ rfl (by omega) hf hB.rd0).mono ?_
 rw [HV.out]
 rintro e w2 ⟨ao', cap', rfl, ho, hb'⟩
 go_wp2_with fail
 go_ret
 have b1 := b0.trans (hb.mono b0.size)
 exact ⟨ao', cap', rfl, aO ho b1.size, b1.trans (hb'.mono b1.size)⟩

theorem jI (ao : Option Addr) (n c s : Nat) (a : Nat) (w : World) (hl : (D a).length = n) (hn : n ≤ 64) (hs : s ≤ 128) (hr : Rd w ao (D a)) :
 Calls Tryz.prog 22 #[.slice ao n c, .int .i64 (s : Int)] w fun e w' => Ret w w' e (D (a % 2 ^ s)) := by
 have hle : a / 2 ^ s * 2 ^ s ≤ a := Nat.div_mul_le_self _ _
 have hsub : a - a / 2 ^ s * 2 ^ s = a % 2 ^ s := by
  have := Nat.div_add_mod a (2 ^ s)
  rw [Nat.mul_comm] at this
  omega
 have hq : (D (a / 2 ^ s)).length ≤ n := by
  rw [← hl]; exact M.len_of_lt (by omega) _ _ (Nat.lt_of_le_of_lt (Nat.div_le_self _ _) (M.iR (by omega) a))
 have HS := hid hsub; have HLE := hid hle
 obtain ⟨q, hqd⟩ : ∃ q, q = a / 2 ^ s := ⟨_, rfl⟩
 rw [← hqd] at hq HS HLE
 have HQ := hid hqd
 clear hsub hle hqd
 go_enter Tryz.func22, Tryz.ntmps22
 go_wp2_with fail
 refine (gH ao n c s a _ hl (by omega) (by omega) hr).mono ?_
 rw [← HQ.out]
 rintro e w1 ⟨ao1, cap1, rfl, ho1, hb1⟩
 go_wp2_with fail
 refine (bU ao1 _ cap1 s q _ rfl (by omega) (by omega) (Rd.own ho1)).mono ?_
 rintro e w2 ⟨ao2, cap2, rfl, ho2, hb2⟩
 have b2 := hb1.trans (hb2.mono hb1.size)
 go_wp2_with fail
 refine (gP ao ao2 n _ c cap2 a (q * 2 ^ s) _ hl rfl HLE.out (by omega) (hr.below b2) (Rd.own ho2)).mono ?_
 rw [HS.out]
 rintro e w3 ⟨ao3, cap3, rfl, ho3, hb3⟩
 go_wp2_with fail
 go_ret
 exact ⟨ao3, cap3, rfl, aO ho3 b2.size, b2.trans (hb3.mono b2.size)⟩

theorem jD (s : Nat) (w : World) (hs : s ≤ 128) :
 Calls Tryz.prog 26 #[.int .i64 (s : Int)] w fun e w' => Ret w w' e (D (2 ^ s)) := by
 go_enter Tryz.func26, Tryz.ntmps26
 go_wp2_with fail
 refine (dA 1 _ (by omega)).mono ?_
 rintro e w1 ⟨ao1, cap1, rfl, ho1, hb1⟩
 have hl : (D 1).length ≤ 6 := fA 1 (by omega)
 go_wp2_with fail
 refine (bU ao1 _ cap1 s 1 _ rfl (by omega) (by omega) (Rd.own ho1)).mono ?_
 rw [Nat.one_mul]
 rintro e w2 ⟨ao2, cap2, rfl, ho2, hb2⟩
 go_wp2_with fail
 go_ret
 exact ⟨ao2, cap2, rfl, aO ho2 hb1.size, hb1.trans (hb2.mono hb1.size)⟩

theorem LF (y : Nat) (h : y < 18446744073709551616) : bits BinOp.and IntKind.u64 (y : Int) 1 = ((y % 2 : Nat) : Int) := by
 have := u64_and_nat y 1 h (by omega)
 rw [show ((1 : Nat) : Int) = 1 from rfl, Nat.and_one_is_mod] at this
 exact this

theorem AZ (a i : Nat) : (D a).getD (i / 32) 0 / 2 ^ (i % 32) % 2 = a / 2 ^ i % 2 := by
 rw [yG, show (4294967296 : Nat) = 2 ^ 32 from rfl, ← Nat.pow_mul]
 have e : 2 ^ 32 = 2 ^ (i % 32) * (2 * 2 ^ (31 - i % 32)) := by
  rw [← Nat.pow_succ', ← Nat.pow_add]; congr 1; omega
 rw [e, Nat.mod_mul_right_div_self, Nat.mod_mul_right_mod, Nat.div_div_eq_div_mul, ← Nat.pow_add]
 congr 2
 have := Nat.div_add_mod i 32
 rw [this]

theorem mR (ao : Option Addr) (n c i : Nat) (a : Nat) (w : World) (hl : (D a).length = n) (hn : n ≤ 64) (hi : i ≤ 200) (hr : Rd w ao (D a)) (b : Nat) (hb : b = a / 2 ^ i % 2) :
 Calls Tryz.prog 23 #[.slice ao n c, .int .i64 (i : Int)] w fun e w' => e = .returned (.int .u64 (b : Int)) ∧ w' = w := by
 obtain ⟨q, hq⟩ : ∃ q : Nat, q = i / 32 := ⟨_, rfl⟩
 obtain ⟨p, hp⟩ : ∃ p : Nat, p = i % 32 := ⟨_, rfl⟩
 have hqI : (i : Int) / 32 = (q : Int) := by omega
 have hpI : (i : Int) % 32 = (p : Int) := by omega
 have hpb : p < 32 := by omega
 have hqb : q ≤ 200 := by omega
 obtain ⟨x, hx⟩ : ∃ x : Nat, x = (D a).getD q 0 := ⟨_, rfl⟩
 have hxl : x < 4294967296 := by rw [hx]; exact (fS a).get q
 have hd := AZ a i
 rw [← hq, ← hp, ← hx, ← hb] at hd
 have hdc := bX x p
 have hle : x / 2 ^ p ≤ x := Nat.div_le_self _ _
 have ha := LF (x / 2 ^ p) (by omega)
 rw [hd, ← hdc] at ha
 have HX := hid hx
 clear hq hp hx hd hdc hle hb
 go_enter Tryz.func23, Tryz.ntmps23
 go_wp2_with fail
 refine (cK ao _ c q (D a) _ hl (by omega) (by omega) hr x HX.out).mono ?_
 rintro e w2 ⟨rfl, rfl⟩
 go_wp2_with fail
 go_ret
 exact ⟨rfl, rfl⟩

theorem oO (X : Nat) (hX : X < 2 ^ 128) (w : World) :
 Calls Tryz.prog 72 #[.agg #[.int .u64 (M.hiN X : Int), .int .u64 (M.loN X : Int)]] w fun e w' => ∃ ao c, e = .returned (.slice ao (L X).length c) ∧ Rd w' ao (L X) ∧ (L X).length ≤ c ∧ Below w.heap.size w w' := by
 go_enter Tryz.func72, Tryz.ntmps72
 go_wp2_with fail
 have hv : V [M.loN X, M.hiN X] = X := by rw [V2]; exact (M.hl X).symm
 have hf : F64 [M.loN X, M.hiN X] := by intro y hy; simp at hy; have := M.gO X; have := M.gS hX; omega
 have b0 : Below w.heap.size w ((w.alloc (.cells #[.int .u64 (M.hiN X : Int), .int .u64 (M.loN X : Int)] 25)).alloc (.cells #[.int .u64 (M.loN X : Int), .int .u64 (M.hiN X : Int)] 23)) := ((Below.refl _ _).alloc (Nat.le_refl _) _).alloc (by simp) _
 have hr : Rd ((w.alloc (.cells #[.int .u64 (M.hiN X : Int), .int .u64 (M.loN X : Int)] 25)).alloc (.cells #[.int .u64 (M.loN X : Int), .int .u64 (M.hiN X : Int)] 23)) (some ⟨w.heap.size + 1, 0, none⟩) [M.loN X, M.hiN X] := by
  intro _
  refine ⟨w.heap.size + 1, 0, rfl, fun i hi => ?_⟩
  have : i = 0 ∨ i = 1 := by simp at hi; omega
  rcases this with rfl | rfl <;> simp [go_sem]
 refine (cE _ 2 2 [M.loN X, M.hiN X] _ rfl (Nat.le_refl _) (by omega) hf hr).mono ?_
 rw [hv]
 rintro e v1 ⟨rfl, rfl⟩
 have hq := hr.trim hf
 rw [hv] at hq
 have hl : (L X).length ≤ 2 := by rw [← hv]; exact iX _ hf
 have HQ := hid hq
 have HL := hid hl
 clear hq hr hl hf hv
 go_wp2_with fail
 go_ret
 exact ⟨_, _, rfl, HQ.out, HL.out, b0⟩

theorem FP (z : Int) (h0 : 0 ≤ z) (h1 : z < 18446744073709551616) : bits .and .u64 z 1 = z % 2 := by go_bits2

theorem tI (X : Nat) (w : World) :
 Calls Tryz.prog 78 #[.agg #[.int .u64 (M.hiN X : Int), .int .u64 (M.loN X : Int)]] w fun e w' => e = .returned (.bool (decide (X % 2 = 0))) ∧ Below w.heap.size w w' := by
 go_enter Tryz.func78, Tryz.ntmps78
 have hb : (bits BinOp.and IntKind.u64 (M.loN X : Int) 1 == 0) = decide (X % 2 = 0) := by
  have e : bits BinOp.and IntKind.u64 (M.loN X : Int) 1 = ((M.loN X % 2 : Nat) : Int) := by
   have := M.gO X
   rw [FP _ (by omega) (by omega)]; omega
  rw [e]
  have : M.loN X % 2 = X % 2 := by unfold M.loN; omega
  rw [this]
  by_cases h : X % 2 = 0
  · simp [h]
  · have h2 : X % 2 = 1 := by omega
    simp [h2]
 go_wp2_with fail
 go_ret
 exact ⟨by rw [← hb]; rfl, (Below.refl _ _).alloc (Nat.le_refl _) _⟩

structure Z5 (v : World) (g : Nat) : Prop where
 c0 : v.cell? ⟨g, 0, none⟩ = some (.int .i64 0)
 c1 : v.cell? ⟨g, 1, none⟩ = some (.bool false)
 c2 : v.cell? ⟨g, 2, none⟩ = some (.int .u64 0)
 c3 : v.cell? ⟨g, 3, none⟩ = some (.int .u64 0)
 c4 : v.cell? ⟨g, 4, none⟩ = some (.int .i64 0)
 f0 : v.frozen? ⟨g, 0, none⟩ = false
 f1 : v.frozen? ⟨g, 1, none⟩ = false
 f2 : v.frozen? ⟨g, 2, none⟩ = false
 f3 : v.frozen? ⟨g, 3, none⟩ = false
 f4 : v.frozen? ⟨g, 4, none⟩ = false
 lt : g < v.heap.size

theorem Z5.below {v v' : World} {g : Nat} (h : Z5 v g) (hb : Below v.heap.size v v') : Z5 v' g :=
 ⟨(hb.cell h.lt).trans h.c0, (hb.cell h.lt).trans h.c1, (hb.cell h.lt).trans h.c2, (hb.cell h.lt).trans h.c3, (hb.cell h.lt).trans h.c4, (hb.frozen h.lt).trans h.f0, (hb.frozen h.lt).trans h.f1, (hb.frozen h.lt).trans h.f2, (hb.frozen h.lt).trans h.f3, (hb.frozen h.lt).trans h.f4, Nat.lt_of_lt_of_le h.lt hb.size⟩

def P5 (v : World) (g : Nat) (t : M.Pt) : Prop := v.cell? ⟨g, 0, none⟩ = some (.int .i64 t.c) ∧ v.cell? ⟨g, 1, none⟩ = some (.bool t.n) ∧ v.cell? ⟨g, 2, none⟩ = some (.int .u64 (M.hiN t.s : Int)) ∧ v.cell? ⟨g, 3, none⟩ = some (.int .u64 (M.loN t.s : Int)) ∧ v.cell? ⟨g, 4, none⟩ = some (.int .i64 t.q) ∧ g < v.heap.size

theorem wJ (v : World) (t : M.Pt) : P5 (v.alloc (.cells #[.int .i64 t.c, .bool t.n, .int .u64 (M.hiN t.s : Int), .int .u64 (M.loN t.s : Int), .int .i64 t.q] 35)) v.heap.size t := by
 unfold P5; simp [go_sem]

theorem P5.below {v v' : World} {g : Nat} {t : M.Pt} (h : P5 v g t) (hb : Below v.heap.size v v') : P5 v' g t :=
 ⟨(hb.cell h.2.2.2.2.2).trans h.1, (hb.cell h.2.2.2.2.2).trans h.2.1, (hb.cell h.2.2.2.2.2).trans h.2.2.1, (hb.cell h.2.2.2.2.2).trans h.2.2.2.1, (hb.cell h.2.2.2.2.2).trans h.2.2.2.2.1, Nat.lt_of_lt_of_le h.2.2.2.2.2 hb.size⟩

theorem P5.al {v : World} {g : Nat} {t : M.Pt} (h : P5 v g t) (o : Obj) : P5 (v.alloc o) g t := h.below ((Below.refl _ _).alloc (Nat.le_refl _) o)

def Rel2 (v2 : World) (S T : M.Pt) (p q : Value) (wx : World) : Prop := ∃ g k, p = .pointer (some ⟨g, 0, none⟩) ∧ q = .pointer (some ⟨k, 0, none⟩) ∧ P5 wx g S ∧ P5 wx k T ∧ Below v2.heap.size v2 wx

theorem Rel2.new {v2 v4 : World} (S T : M.Pt) (hb : Below v2.heap.size v2 v4) : Rel2 v2 S T (.pointer (some ⟨v4.heap.size, 0, none⟩)) (.pointer (some ⟨v4.heap.size + 1, 0, none⟩)) ((v4.alloc (.cells #[.int .i64 S.c, .bool S.n, .int .u64 (M.hiN S.s : Int), .int .u64 (M.loN S.s : Int), .int .i64 S.q] 35)).alloc (.cells #[.int .i64 T.c, .bool T.n, .int .u64 (M.hiN T.s : Int), .int .u64 (M.loN T.s : Int), .int .i64 T.q] 35)) := by
 have h := wJ (v4.alloc (.cells #[.int .i64 S.c, .bool S.n, .int .u64 (M.hiN S.s : Int), .int .u64 (M.loN S.s : Int), .int .i64 S.q] 35)) T
 have e : (v4.alloc (.cells #[.int .i64 S.c, .bool S.n, .int .u64 (M.hiN S.s : Int), .int .u64 (M.loN S.s : Int), .int .i64 S.q] 35)).heap.size = v4.heap.size + 1 := by simp
 rw [e] at h
 exact ⟨_, _, rfl, rfl, (wJ v4 S).al _, h, aD (aD hb _) _⟩

structure Hv (w v : World) (gd g k : Nat) (e0 e1 e2 e3 e4 : Int) (e5 : Bool) (S T : M.Pt) : Prop where
 b : Below w.heap.size w v
 d : v.cell? ⟨gd, 0, none⟩ = some (.int .i64 e0) ∧ v.cell? ⟨gd, 1, none⟩ = some (.int .i64 e1) ∧ v.cell? ⟨gd, 2, none⟩ = some (.int .i64 e2) ∧ v.cell? ⟨gd, 3, none⟩ = some (.int .i64 e3) ∧ v.cell? ⟨gd, 4, none⟩ = some (.int .i64 e4) ∧ v.cell? ⟨gd, 5, none⟩ = some (.bool e5) ∧ gd < v.heap.size
 s : P5 v g S
 t : P5 v k T

theorem Hv.below {w v v' : World} {gd g k : Nat} {e0 e1 e2 e3 e4 : Int} {e5 : Bool} {S T : M.Pt} (h : Hv w v gd g k e0 e1 e2 e3 e4 e5 S T) (hb : Below v.heap.size v v') : Hv w v' gd g k e0 e1 e2 e3 e4 e5 S T := by
 obtain ⟨b, ⟨d0, d1, d2, d3, d4, d5, ld⟩, s, t⟩ := h
 exact ⟨b.trans (hb.mono b.size), ⟨(hb.cell ld).trans d0, (hb.cell ld).trans d1, (hb.cell ld).trans d2, (hb.cell ld).trans d3, (hb.cell ld).trans d4, (hb.cell ld).trans d5, Nat.lt_of_lt_of_le ld hb.size⟩, s.below hb, t.below hb⟩

end Go.Proofs.YtdfljbpcjkbflaaGreatDoor
