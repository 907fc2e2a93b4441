import Derived.Test.YtcilemkeljcidaaDoorsW1
import Derived.Test.YtcilemkeljcidaaDoorsSeg
import Derived.Test.YtcilemkeljcidaaDoorsCom
import Derived.Test.YtcilemkeljcidaaDoorsSubM
set_option maxHeartbeats 1000000
namespace Go.Proofs.YtcilemkeljcidaaDoor
open Go.RowKit
set_option linter.unusedVariables false
set_option maxRecDepth 100000
def RetB (w w' : World) (e : Ending) (r : List Nat) (b : Bool) : Prop :=
 ∃ ao cap, e = .returned (.tuple #[.slice ao r.length cap, .bool b]) ∧ w'.ownsRow w.heap.size 27 1 (.slice ao r.length cap) r.length (U r) ∧ Below w.heap.size w w'

theorem RetB.nil {w w' : World} (h : Below w.heap.size w w') : RetB w w' (.returned (.tuple #[.slice none 0 0, .bool false])) [] false := ⟨none, 0, rfl, World.ownsRow_nil _ _ _ _, h⟩

theorem Rd.drewN {w : World} {ao : Option Addr} {xs : List Nat} (h : Rd w ao xs) (q : Nat) : Rd (w.drewN q) ao xs := h

theorem l1Sub_any (ao bo : Option Addr) (n m c d : Nat) (a b : Nat) (w : World) (hl : (D a).length = n) (hm : (D b).length = m) (hba : b ≤ a) (hn : n ≤ 2097152) (hr : Rd w ao (D a)) (hr2 : Rd w bo (D b)) :
 Calls Tryd.prog 41 #[.slice ao n c, .slice bo m d] w fun e w' => Ret w w' e (D (a - b)) := by
 obtain ⟨i0, hi, hz0, hz1, hz2⟩ := info_parts Tryd.infoU
 have fa := F32_D a
 have fb := F32_D b
 have hmn : m ≤ n := by
  rcases Nat.lt_or_ge n m with h | h
  · have : a < b := M.lt_of_length (B := 4294967296) (by omega) (by unfold D at hl hm; omega)
    omega
  · exact h
 go_enter Tryd.func41, Tryd.ntmps41
 go_wp2_with fail
 go_loopw [5, 6, 7] (fun v cy i wr => ∃ (k : Nat) (os : List Nat) (cc : Nat), k ≤ n ∧ i = .int .i64 k ∧ cy = .int .u64 cc ∧ cc ≤ 1 ∧ wr.ownsRow w.heap.size 27 1 v k (U os) ∧ F32 os ∧ os.length = k ∧ X os + X ((D b).take k) = X ((D a).take k) + cc * 4294967296 ^ k ∧ Below w.heap.size w wr) (fun _ _ i _ => n - (intOf i).toNat)
 case atStart => exact ⟨0, [], 0, by omega, rfl, rfl, by omega, World.ownsRow_nil _ _ _ _, fun x hx => by simp at hx, rfl, by simp [X, M.val], Below.refl _ _⟩
 case round =>
  obtain ⟨k, os, cc, hk, rfl, rfl, hcc, hown, hf, hlen, hv, hbl⟩ := hrel
  have HV := hid hv; clear hv
  have HLen := hid hlen; clear hlen
  by_cases hlt : k < n
  · obtain ⟨b1, o1, hao, hcA⟩ := (hr.below hbl) (by omega)
    have hck := hcA k (by omega)
    clear hcA
    obtain ⟨x, hxx⟩ : ∃ x : Nat, x = (D a).getD k 0 := ⟨_, rfl⟩
    obtain ⟨y, hyy⟩ : ∃ y : Nat, y = (D b).getD k 0 := ⟨_, rfl⟩
    have hx1 := fa.get k
    have hy1 := fb.get k
    rw [← hxx] at hx1 hck
    rw [← hyy] at hy1
    have HX := hid hxx; clear hxx
    have HY := hid hyy; clear hyy
    have hlt' : (k : Int) < (n : Int) := by omega
    obtain ⟨s, hs0⟩ : ∃ s : Nat, s = 4294967296 + x - y - cc := ⟨_, rfl⟩
    have w2 : (4294967296 : Int) + (x : Int) - (y : Int) - (cc : Int) = (s : Int) := by omega
    have hlow : bits BinOp.and IntKind.u64 (s : Int) 4294967295 = ((s % 4294967296 : Nat) : Int) := by
     rw [and_low32 _ (by omega) (by omega)]; omega
    have hsb : s < 8589934592 := by omega
    obtain ⟨o, eo⟩ : ∃ o : Nat, o = s % 4294967296 := ⟨_, rfl⟩
    rw [← eo] at hlow
    obtain ⟨c', ec'⟩ : ∃ c' : Nat, c' = 1 - s / 4294967296 := ⟨_, rfl⟩
    have hsum : o + y + cc = x + 4294967296 * c' ∧ c' ≤ 1 ∧ o < 4294967296 ∧ (1 : Int) - (s : Int) / 4294967296 = (c' : Int) := by omega
    have E0 := hid hs0; have E1 := hid hsum; have E2 := hid eo; have E3 := hid ec'
    clear hs0 hsum eo ec'
    go_wp2_with fail
    go_quiet ((go_at_call 49; exact Calls.quiet_of_same (l1At_any bo _ d k (D b) _ hm (by omega) (by omega) (Rd.drewN (hr2.below hbl) _) y HY.out)))
    have hown2 : (wr.drewN nq).ownsRow w.heap.size 27 1 _ k (U os) := hown
    have hbl2 := below_drewN hbl nq
    generalize wr.drewN nq = wq at hown2 hbl2 ⊢
    clear hown hck
    go_wp2_with (at_builtin; refine wpList_append_own _ rfl _ _ 49 rfl w.heap.size 27 i0 (.int .u64 0) 1 8 Tryd.underlying49 hi hz0 hz1 hz2 rfl (by decide) _ _ _ rfl (hown2.alloc _) ⟨wq.heap.size, 0, none⟩ 1 1 (U [o]) rfl rfl ?c1 ?c2 ?c3 ?c4 ?c5 ?_)
    case c1 =>
     intro j u hj
     match j, hj with
     | 0, hj => simp [U] at hj; subst hj; simp [Addr.add]
    case c2 => exact U_one _
    case c3 => unfold maxLen; omega
    case c4 => omega
    case c5 => have := hbl2.size; simp; omega
    intro v' w1 hown' hgrow hnn
    clear hnn
    have hb1 : Below w.heap.size w w1 := (hbl2.alloc hbl2.size _).grown hgrow (by have := hbl2.size; simp; omega) (fun k' hk' => (hown2.lt k' hk').1)
    clear hown2 hgrow
    go_wp2_with fail
    go_roundw
    case rel =>
     have R : ∃ (k1 : Nat) (os1 : List Nat) (cc1 : Nat), k1 ≤ n ∧ Value.int .i64 ((k : Int) + 1) = .int .i64 k1 ∧ Value.int .u64 ((1 : Int) - (s : Int) / 4294967296) = .int .u64 cc1 ∧ cc1 ≤ 1 ∧ w1.ownsRow w.heap.size 27 1 v' k1 (U os1) ∧ F32 os1 ∧ os1.length = k1 ∧ X os1 + X ((D b).take k1) = X ((D a).take k1) + cc1 * 4294967296 ^ k1 ∧ Below w.heap.size w w1 := by
      refine ⟨k + 1, os ++ [o], c', by omega, by go_num, by rw [E1.out.2.2.2], E1.out.2.1, ?_, ?_, by simp [HLen.out], ?_, hb1⟩
      · rw [U_append]; exact hown'
      · intro z hz
        rcases List.mem_append.1 hz with hz | hz
        · exact hf z hz
        · simp at hz; have := E1.out.2.2.1; omega
      · unfold X at *
        rw [M.val_snoc, HLen.out, M.val_take_succ, M.val_take_succ, ← HX.out, ← HY.out, Nat.pow_succ]
        exact M.sub_place HV.out E1.out.1
     first | exact R | ((repeat apply Exists.intro); exact ⟨R, rfl⟩) | ((repeat apply Exists.intro); exact ⟨R, by rw [hao]⟩)
    case measure => simp [intOf]; omega
  · have e : k = n := by omega
    subst e
    have hfin : X os = a - b := by
     have h1 := HV.out
     rw [X_takeD a k (by omega), X_takeD b k (by omega)] at h1
     have h2 := M.val_lt (B := 4294967296) (by omega) os hf
     rw [HLen.out] at h2
     exact (M.no_borrow h1 h2 hba).2
    have hv := own_shape hown
    obtain ⟨ao1, cap1, hv⟩ := hv
    rw [hv]
    rw [hv] at hown
    clear hv
    have HF := hid hfin; clear hfin
    go_wp2_with fail
    have hrd := Rd.own hown
    refine (l1Trim_any 4294967296 (by omega) ao1 _ cap1 os _ HLen.out (own_cap hown) (by omega) hf hrd).mono ?_
    have hfin : M.val 4294967296 os = a - b := HF.out
    rw [hfin]
    rintro e w1 ⟨ao', cap', rfl, ho, hb⟩
    go_wp2_with fail
    go_ret
    exact ⟨ao', cap', rfl, own_base ho hbl.size, hbl.trans (hb.mono hbl.size)⟩

end Go.Proofs.YtcilemkeljcidaaDoor
