import Derived.Test.YtchfkmompciooabW1
namespace Go.Proofs.Ytchfkmompciooab
open Go.RowKit
set_option linter.unusedVariables false

theorem fill_step (xs : List Nat) (n k : Nat) (hl : xs.length = n) (hk : k < n) :
    (xs.take k ++ List.replicate (n - k) 0).set k (xs.getD k 0) = xs.take (k + 1) ++ List.replicate (n - (k + 1)) 0 := by
  have hlen : (xs.take k).length = k := by simp; omega
  rw [List.set_append_right _ _ (by omega), hlen, Nat.sub_self, M.take_succ xs k (by omega)]
  obtain ⟨m, hm⟩ : ∃ m, n - k = m + 1 := ⟨n - k - 1, by omega⟩
  rw [hm, show n - (k + 1) = m by omega, List.replicate_succ, List.set_cons_zero]
  simp

theorem fill_get (xs : List Nat) (n k : Nat) (hl : xs.length = n) (hk : k < n) : (xs.take k ++ List.replicate (n - k) 0).getD k 0 = 0 := by
  have hlen : (xs.take k).length = k := by simp; omega
  rw [List.getD_eq_getElem?_getD, List.getElem?_append_right (by omega), hlen, Nat.sub_self, List.getElem?_replicate]
  split <;> rfl

theorem fill_len (xs : List Nat) (n k : Nat) (hl : xs.length = n) (hk : k ≤ n) : (xs.take k ++ List.replicate (n - k) 0).length = n := by simp; omega

set_option maxHeartbeats 400000 in
theorem toU_any (ao : Option Addr) (n cap : Nat) (xs : List Nat) (w : World) (hl : xs.length = n) (hn : n ≤ 4194304) (hr : Rd w ao xs) :
    Calls Try.prog 8 #[.slice ao n cap] w fun e w' => e = .returned (.slice (some ⟨w.heap.size, 0, none⟩) n n) ∧ Blk w' w.heap.size xs ∧ Below w.heap.size w w' := by
  obtain ⟨i0, hi, hz0, hz1, hz2⟩ := info_parts Try.infoU
  go_enter Try.func8, Try.ntmps8
  have hmk := fun (wx : World) => run_make (P := Try.prog) wx 22 34 i0 (.int .u64 0) Try.underlying22 hi hz0 .i64 .i64 n n (by omega) (Int.le_refl _) (by rw [hz2]; omega) (by omega)
  go_wp2
  go_loopw [4] (fun i wr => ∃ k : Nat, k ≤ n ∧ i = .int .i64 k ∧ Blk wr w.heap.size (xs.take k ++ List.replicate (n - k) 0) ∧ wr.heap.size = w.heap.size + 1 ∧ Below w.heap.size w wr) (fun i _ => n - (intOf i).toNat)
  case atStart =>
    refine ⟨0, Nat.zero_le _, rfl, ?_, by simp, (Below.refl _ _).alloc (Nat.le_refl _) _⟩
    simpa using blk_made w n
  case round =>
    obtain ⟨k, hk, rfl, hB, hsz, hbl⟩ := hrel
    clear hmk
    by_cases hlt : k < n
    · obtain ⟨b, off, hao, hc⟩ := hr (by omega)
      have hck := (hr.below hbl) (by omega)
      obtain ⟨b', off', hao', hc'⟩ := hck
      rw [hao] at hao'
      simp only [Option.some.injEq, Addr.mk.injEq, and_true] at hao'
      obtain ⟨rfl, rfl⟩ := hao'
      have hck := hc' k (by omega)
      have hcd := hB.cell k (by rw [fill_len xs n k hl (by omega)]; exact hlt)
      rw [fill_get xs n k hl hlt] at hcd
      have hfr := hB.frozen k
      clear hc hc'
      obtain ⟨x, hxx⟩ : ∃ x : Int, x = ((xs.getD k 0 : Nat) : Int) := ⟨_, rfl⟩
      rw [← hxx] at hck
      have HX := hid hxx; clear hxx
      have hlt' : (k : Int) < (n : Int) := by omega
      have HB := hid hB; clear hB
      have HS := hid hsz; clear hsz
      go_wp2
      go_roundw
      case rel =>
        refine ⟨k + 1, by omega, by go_num, ?_, by simp [World.setCell, HS.out], hbl.setCell (Nat.le_refl _) _⟩
        have := HB.out.set k (xs.getD k 0) x HX.out
        rwa [fill_step xs n k hl hlt] at this
      case measure => simp [intOf]; omega
    · have HB := hid hB; clear hB
      have HS := hid hsz; clear hsz
      go_wp2
      go_ret
      have e : k = n := by omega
      have := HB.out
      rw [e, Nat.sub_self, List.take_of_length_le (by omega)] at this
      exact ⟨rfl, by simpa using this, hbl⟩

set_option maxHeartbeats 400000 in
theorem eqU_any (ao bo : Option Addr) (n m c d : Nat) (xs ys : List Nat) (w : World) (hl : xs.length = n) (hm : ys.length = m) (hn : n ≤ 4194304) (hn2 : m ≤ 4194304) (hr : Rd w ao xs) (hr2 : Rd w bo ys) :
    Calls Try.prog 10 #[.slice ao n c, .slice bo m d] w fun e w' => e = .returned (.bool (decide (xs = ys))) ∧ ∃ q, w' = w.drewN q := by
  by_cases hnm : n = m
  · subst hnm
    have hb : ((n : Int) != (n : Int)) = false := by simp
    go_enter Try.func10, Try.ntmps10
    go_wp2
    go_loopw [5] (fun i wr => ∃ k : Nat, k ≤ n ∧ i = .int .i64 k ∧ (∀ j, j < k → xs.getD j 0 = ys.getD j 0) ∧ ∃ q, wr = w.drewN q) (fun i _ => n - (intOf i).toNat)
    case atStart => exact ⟨0, Nat.zero_le _, rfl, fun j h => by omega, 0, rfl⟩
    case round =>
      obtain ⟨k, hk, rfl, he, q, rfl⟩ := hrel
      have HE := hid he; clear he
      by_cases hlt : k < n
      · obtain ⟨b, off, hao, hc⟩ := hr (by omega)
        have hck := hc k (by omega)
        have HC := hid hc; clear hc
        obtain ⟨x, hxx⟩ : ∃ x : Int, x = ((xs.getD k 0 : Nat) : Int) := ⟨_, rfl⟩
        rw [← hxx] at hck
        have HX := hid hxx; clear hxx
        obtain ⟨b2, off2, hao2, hc2⟩ := hr2 (by omega)
        have hck2 := hc2 k (by omega)
        have HC2 := hid hc2; clear hc2
        obtain ⟨y, hyy⟩ : ∃ y : Int, y = ((ys.getD k 0 : Nat) : Int) := ⟨_, rfl⟩
        rw [← hyy] at hck2
        have HY := hid hyy; clear hyy
        have hlt' : (k : Int) < (n : Int) := by omega
        by_cases hxy : x = y
        · have hne : (x != y) = false := by simp [hxy]
          have HXY := hid hxy; clear hxy
          go_wp2
          go_quiet (fail)
          go_wp2
          go_roundw
          case rel =>
            refine ⟨k + 1, by omega, by go_num, fun j hj => ?_, _, rfl⟩
            by_cases e : j = k
            · subst e; have h1 := HX.out; have h2 := HY.out; have h3 := HXY.out; omega
            · exact HE.out j (by omega)
          case measure => simp [intOf]; omega
        · have hne : (x != y) = true := by simp [hxy]
          have HXY := hid hxy; clear hxy
          go_wp2
          go_quiet (fail)
          go_wp2
          go_ret
          refine ⟨?_, _, World.drewN_drewN _ _ _⟩
          have : decide (xs = ys) = false := by
            simp only [decide_eq_false_iff_not]
            intro e; subst e; exact HXY.out (HX.out.trans HY.out.symm)
          rw [this]; rfl
      · go_wp2
        go_ret
        refine ⟨?_, _, rfl⟩
        have : decide (xs = ys) = true := by
          simp only [decide_eq_true_eq]
          apply List.ext_getElem (by omega)
          intro j h1 h2
          have := HE.out j (by omega)
          simpa [List.getD_eq_getElem?_getD, h1, h2] using this
        rw [this]; rfl
  · have hb : ((n : Int) != (m : Int)) = true := by simp; omega
    go_enter Try.func10, Try.ntmps10
    go_wp2
    go_ret
    have : decide (xs = ys) = false := by
      simp only [decide_eq_false_iff_not]
      intro e; subst e; omega
    exact ⟨by rw [this]; rfl, 0, rfl⟩

end Go.Proofs.Ytchfkmompciooab
