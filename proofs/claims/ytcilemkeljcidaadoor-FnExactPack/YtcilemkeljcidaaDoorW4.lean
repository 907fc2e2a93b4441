import Derived.Test.YtcilemkeljcidaaDoorW3
namespace Go.Proofs.YtcilemkeljcidaaDoor
open Go.RowKit
set_option linter.unusedVariables false
set_option maxRecDepth 100000

set_option maxHeartbeats 1000000 in
theorem l1Cmp_any (ao bo : Option Addr) (n m c d : Nat) (a b : Nat) (w : World) (hl : (D a).length = n) (hm : (D b).length = m) (hn : n ≤ 4194304) (hn2 : m ≤ 4194304) (hr : Rd w ao (D a)) (hr2 : Rd w bo (D b)) :
    Calls Tryd.prog 33 #[.slice ao n c, .slice bo m d] w fun e w' => e = .returned (.int .i64 (cmpI a b)) ∧ w' = w := by
  obtain ⟨mx, hmx⟩ : ∃ mx : Nat, n ≤ mx ∧ m ≤ mx ∧ mx ≤ 4194304 ∧ (mx = n ∨ mx = m) := ⟨max n m, by omega⟩
  have hh : (n < m ∧ mx = m) ∨ (¬ n < m ∧ mx = n) := by omega
  rcases hh with ⟨hnm, rfl⟩ | ⟨hnm, rfl⟩
  all_goals
    go_enter Tryd.func33, Tryd.ntmps33
    go_wp2_with fail
    go_loop [6] (fun i => ∃ k : Nat, k ≤ mx ∧ i = .int .i64 ((k : Int) - 1) ∧ (∀ j, k ≤ j → (D a).getD j 0 = (D b).getD j 0)) (fun i => (intOf i + 1).toNat)
    case atStart => exact ⟨mx, Nat.le_refl _, rfl, fun j h => by rw [getD_big _ _ (by omega), getD_big _ _ (by omega)]⟩
    case round =>
      obtain ⟨k, hk, rfl, he⟩ := hrel
      have HE := hid he; clear he
      by_cases hlt : 0 < k
      · obtain ⟨k, rfl⟩ : ∃ k', k = k' + 1 := ⟨k - 1, by omega⟩
        have e1 : (((k + 1 : Nat) : Int) - 1) = (k : Int) := by omega
        rw [e1]
        obtain ⟨x, hxx⟩ : ∃ x : Nat, x = (D a).getD k 0 := ⟨_, rfl⟩
        obtain ⟨y, hyy⟩ : ∃ y : Nat, y = (D b).getD k 0 := ⟨_, rfl⟩
        have HX := hid hxx; clear hxx
        have HY := hid hyy; clear hyy
        go_wp2_with fail
        refine (l1At_any ao _ c k (D a) _ hl (by omega) (by omega) hr x HX.out).mono ?_
        rintro e w1 ⟨rfl, rfl⟩
        go_wp2_with fail
        refine (l1At_any bo _ d k (D b) _ hm (by omega) (by omega) hr2 y HY.out).mono ?_
        rintro e w2 ⟨rfl, rfl⟩
        by_cases h1 : x < y
        · go_wp2_with fail
          go_ret
          have := cmp_at (B := 4294967296) (by omega) a b k x y HX.out HY.out (by omega) (fun j hj => HE.out j (by omega))
          exact ⟨ret_int (by rw [← this, cmpI_nat_lt h1]), rfl⟩
        · go_wp2_with fail
          refine (l1At_any ao _ c k (D a) _ hl (by omega) (by omega) hr x HX.out).mono ?_
          rintro e w1 ⟨rfl, rfl⟩
          go_wp2_with fail
          refine (l1At_any bo _ d k (D b) _ hm (by omega) (by omega) hr2 y HY.out).mono ?_
          rintro e w2 ⟨rfl, rfl⟩
          by_cases h2 : y < x
          · go_wp2_with fail
            go_ret
            have := cmp_at (B := 4294967296) (by omega) a b k x y HX.out HY.out (by omega) (fun j hj => HE.out j (by omega))
            exact ⟨ret_int (by rw [← this, cmpI_nat_gt h2]), rfl⟩
          · go_wp2_with fail
            go_round
            case rel =>
              refine ⟨k, by omega, by go_num, fun j hj => ?_⟩
              by_cases e : j = k
              · subst e; rw [← HX.out, ← HY.out]; omega
              · exact HE.out j (by omega)
            case measure => simp [intOf]
      · have : k = 0 := by omega
        subst this
        go_wp2_with fail
        go_ret
        exact ⟨ret_int (cmp_all (by omega) a b (fun j => HE.out j (by omega))).symm, rfl⟩

set_option maxHeartbeats 400000 in
theorem l1In_any (ao : Option Addr) (n cap : Nat) (xs : List Nat) (w : World) (hl : xs.length = n) (hn : n ≤ 1048576) (hx : F64 xs) (hr : Rd w ao xs) :
    Calls Tryd.prog 48 #[.slice ao n cap] w fun e w' => ∃ ao' cap', e = .returned (.slice ao' (D (V xs)).length cap') ∧ w'.ownsRow w.heap.size 27 1 (.slice ao' (D (V xs)).length cap') (D (V xs)).length (U (D (V xs))) ∧ Below w.heap.size w w' := by
  obtain ⟨i0, hi, hz0, hz1, hz2⟩ := info_parts Tryd.infoU
  go_enter Tryd.func48, Tryd.ntmps48
  go_wp2
  go_loopw [3, 8] (fun v i wr => ∃ k : Nat, k ≤ n ∧ i = .int .i64 k ∧ wr.ownsRow w.heap.size 27 1 v (2 * k) (U (M.halves (xs.take k))) ∧ Below w.heap.size w wr) (fun _ i _ => n - (intOf i).toNat)
  case atStart => exact ⟨0, Nat.zero_le _, rfl, World.ownsRow_nil _ _ _ _, Below.refl _ _⟩
  case round =>
    obtain ⟨k, hk, rfl, hown, hbl⟩ := hrel
    by_cases hlt : k < n
    · obtain ⟨b, off, hao, hc⟩ := (hr.below hbl) (by omega)
      have hck := hc k (by omega)
      clear hc
      have hx1 := hx.get k
      obtain ⟨x, hxx⟩ : ∃ x : Nat, x = xs.getD k 0 := ⟨_, rfl⟩
      rw [← hxx] at hck hx1
      have HX := hid hxx; clear hxx
      have hlow : bits BinOp.and IntKind.u64 (x : Int) 4294967295 = ((x % 4294967296 : Nat) : Int) := by
        rw [and_low32 _ (by omega) (by omega)]; omega
      have hhi : (x : Int) / 4294967296 = ((x / 4294967296 : Nat) : Int) := by omega
      have HHI := hid hhi; clear hhi
      go_wp2_with (at_builtin; refine wpList_append_own _ rfl _ _ 49 rfl w.heap.size 27 i0 (.int .u64 0) 1 8 Tryd.underlying49 hi hz0 hz1 hz2 rfl (by decide) _ _ _ rfl (hown.alloc _) ⟨wr.heap.size, 0, none⟩ 2 2 (U [x % 4294967296, x / 4294967296]) rfl rfl ?c1 ?c2 ?c3 ?c4 ?c5 ?_)
      case c1 =>
        intro j u hj
        match j, hj with
        | 0, hj => simp [U] at hj; subst hj; simp [Addr.add]
        | 1, hj => simp [U] at hj; subst hj; simp [Addr.add]
      case c2 => exact U_one _
      case c3 => unfold maxLen; omega
      case c4 => omega
      case c5 => have := hbl.size; simp; omega
      intro v' w1 hown' hgrow hnn
      clear hnn
      have hb1 : Below w.heap.size w w1 := (hbl.alloc hbl.size _).grown hgrow (by have := hbl.size; simp; omega) (fun k' hk' => (hown.lt k' hk').1)
      clear hown hgrow hck hlow
      go_wp2
      go_roundw
      case rel =>
        have R : ∃ k1 : Nat, k1 ≤ n ∧ Value.int .i64 ((k : Int) + 1) = .int .i64 (k1 : Int) ∧ w1.ownsRow w.heap.size 27 1 v' (2 * k1) (U (M.halves (xs.take k1))) ∧ Below w.heap.size w w1 := by
          refine ⟨k + 1, by omega, by go_num, ?_, hb1⟩
          rw [M.take_succ xs k (by omega), M.halves_append, U_append, ← HX.out]
          exact hown'
        first | exact R | ((repeat apply Exists.intro); exact ⟨R, by rw [hao]⟩)
      case measure => simp [intOf]; omega
    · have e : k = n := by omega
      subst e
      rw [List.take_of_length_le (by omega)] at hown
      have hv := own_shape hown
      obtain ⟨ao1, cap1, hv⟩ := hv
      rw [hv]
      rw [hv] at hown
      go_wp2_with fail
      have hrd := Rd.own hown
      refine (l1Trim_any 4294967296 (by omega) ao1 _ cap1 (M.halves xs) _ (by rw [M.halves_length]; omega) (own_cap hown) (by omega) (M.halves_lt xs hx) hrd).mono ?_
      rw [M.val_halves]
      rintro e w1 ⟨ao', cap', rfl, ho, hb⟩
      go_wp2_with fail
      go_ret
      exact ⟨ao', cap', rfl, own_base ho hbl.size, hbl.trans (hb.mono hbl.size)⟩

end Go.Proofs.YtcilemkeljcidaaDoor
