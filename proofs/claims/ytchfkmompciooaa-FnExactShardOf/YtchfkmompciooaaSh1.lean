/-
  The places of keys: the configuration and the key by their bounds; both sides' ShardOf and HomeOf.
-/
import Derived.Test.YtchfkmompciooaaRows
import Derived.WalkKit
import Derived.WalkSpells
import Derived.WalkLawsBesides
import Derived.Deep.QuietTactic
import Derived.BigQuiet
import Derived.Below
namespace Go.Proofs.Ytchfkmompciooaa
open Go.RowKit
set_option linter.unusedVariables false

/-- A configuration is good. -/
def cfgOk (a b : Int) : Prop := 1 ≤ a ∧ a ≤ 16 ∧ 1 ≤ b ∧ b ≤ 64
/-- A key is good. -/
def keyOk (k n : Int) : Prop := -5200 ≤ k ∧ k ≤ 5200 ∧ 1 ≤ n ∧ n ≤ 128

instance cfgDec (a b : Int) : Decidable (cfgOk a b) := by unfold cfgOk; infer_instance
instance keyDec (a b : Int) : Decidable (keyOk a b) := by unfold keyOk; infer_instance

set_option maxHeartbeats 400000 in
theorem sconfig_any (a b : Int) (w : World) :
    Calls Try.prog 27 #[.agg #[.int .i64 a, .int .i64 b]] w fun r w' => r = .returned (.bool (decide (cfgOk a b))) ∧ Below w.heap.size w w' := by
  go_enter Try.func27, Try.ntmps27
  by_cases h0 : 1 ≤ a
  · by_cases h1 : a ≤ 16
    · by_cases h2 : 1 ≤ b
      · by_cases h3 : b ≤ 64
        · rw [show decide (cfgOk a b) = true from decide_eq_true (⟨h0, h1, h2, h3⟩)]
          go_wp2_with fail
          go_ret
          exact ⟨rfl, (Below.refl _ _).alloc (Nat.le_refl _) _⟩
        · rw [show decide (cfgOk a b) = false from decide_eq_false (fun h => by simp only [cfgOk] at h; omega)]
          go_wp2_with fail
          go_ret
          exact ⟨rfl, (Below.refl _ _).alloc (Nat.le_refl _) _⟩
      · rw [show decide (cfgOk a b) = false from decide_eq_false (fun h => by simp only [cfgOk] at h; omega)]
        go_wp2_with fail
        go_ret
        exact ⟨rfl, (Below.refl _ _).alloc (Nat.le_refl _) _⟩
    · rw [show decide (cfgOk a b) = false from decide_eq_false (fun h => by simp only [cfgOk] at h; omega)]
      go_wp2_with fail
      go_ret
      exact ⟨rfl, (Below.refl _ _).alloc (Nat.le_refl _) _⟩
  · rw [show decide (cfgOk a b) = false from decide_eq_false (fun h => by simp only [cfgOk] at h; omega)]
    go_wp2_with fail
    go_ret
    exact ⟨rfl, (Below.refl _ _).alloc (Nat.le_refl _) _⟩

set_option maxHeartbeats 400000 in
theorem iconfig_any (a b : Int) (w : World) :
    Calls Try.prog 29 #[.agg #[.int .i64 a, .int .i64 b]] w fun r w' => r = .returned (.bool (decide (cfgOk a b))) ∧ Below w.heap.size w w' := by
  go_enter Try.func29, Try.ntmps29
  by_cases h0 : 1 ≤ a
  · by_cases h1 : a ≤ 16
    · by_cases h2 : 1 ≤ b
      · by_cases h3 : b ≤ 64
        · rw [show decide (cfgOk a b) = true from decide_eq_true (⟨h0, h1, h2, h3⟩)]
          go_wp2_with fail
          go_ret
          exact ⟨rfl, (Below.refl _ _).alloc (Nat.le_refl _) _⟩
        · rw [show decide (cfgOk a b) = false from decide_eq_false (fun h => by simp only [cfgOk] at h; omega)]
          go_wp2_with fail
          go_ret
          exact ⟨rfl, (Below.refl _ _).alloc (Nat.le_refl _) _⟩
      · rw [show decide (cfgOk a b) = false from decide_eq_false (fun h => by simp only [cfgOk] at h; omega)]
        go_wp2_with fail
        go_ret
        exact ⟨rfl, (Below.refl _ _).alloc (Nat.le_refl _) _⟩
    · rw [show decide (cfgOk a b) = false from decide_eq_false (fun h => by simp only [cfgOk] at h; omega)]
      go_wp2_with fail
      go_ret
      exact ⟨rfl, (Below.refl _ _).alloc (Nat.le_refl _) _⟩
  · rw [show decide (cfgOk a b) = false from decide_eq_false (fun h => by simp only [cfgOk] at h; omega)]
    go_wp2_with fail
    go_ret
    exact ⟨rfl, (Below.refl _ _).alloc (Nat.le_refl _) _⟩

set_option maxHeartbeats 400000 in
theorem skey_any (a b : Int) (w : World) :
    Calls Try.prog 28 #[.agg #[.int .i64 a, .int .i64 b]] w fun r w' => r = .returned (.bool (decide (keyOk a b))) ∧ Below w.heap.size w w' := by
  go_enter Try.func28, Try.ntmps28
  by_cases h0 : -5200 ≤ a
  · by_cases h1 : a ≤ 5200
    · by_cases h2 : 1 ≤ b
      · by_cases h3 : b ≤ 128
        · rw [show decide (keyOk a b) = true from decide_eq_true (⟨h0, h1, h2, h3⟩)]
          go_wp2_with fail
          go_ret
          exact ⟨rfl, (Below.refl _ _).alloc (Nat.le_refl _) _⟩
        · rw [show decide (keyOk a b) = false from decide_eq_false (fun h => by simp only [keyOk] at h; omega)]
          go_wp2_with fail
          go_ret
          exact ⟨rfl, (Below.refl _ _).alloc (Nat.le_refl _) _⟩
      · rw [show decide (keyOk a b) = false from decide_eq_false (fun h => by simp only [keyOk] at h; omega)]
        go_wp2_with fail
        go_ret
        exact ⟨rfl, (Below.refl _ _).alloc (Nat.le_refl _) _⟩
    · rw [show decide (keyOk a b) = false from decide_eq_false (fun h => by simp only [keyOk] at h; omega)]
      go_wp2_with fail
      go_ret
      exact ⟨rfl, (Below.refl _ _).alloc (Nat.le_refl _) _⟩
  · rw [show decide (keyOk a b) = false from decide_eq_false (fun h => by simp only [keyOk] at h; omega)]
    go_wp2_with fail
    go_ret
    exact ⟨rfl, (Below.refl _ _).alloc (Nat.le_refl _) _⟩

set_option maxHeartbeats 400000 in
theorem powers_q (a : Int) (w : World) :
    Calls Try.prog 35 #[.int .i64 a] w fun r w' => r = .returned (.bool (decide (-5200 ≤ a ∧ a ≤ 5200))) ∧ w' = w := by
  go_enter Try.func35, Try.ntmps35
  by_cases h0 : -5200 ≤ a
  · by_cases h1 : a ≤ 5200
    · rw [show decide (-5200 ≤ a ∧ a ≤ 5200) = true from decide_eq_true (⟨h0, h1⟩)]
      go_wp2_with fail
      go_ret
      exact ⟨rfl, rfl⟩
    · rw [show decide (-5200 ≤ a ∧ a ≤ 5200) = false from decide_eq_false (fun h => by omega)]
      go_wp2_with fail
      go_ret
      exact ⟨rfl, rfl⟩
  · rw [show decide (-5200 ≤ a ∧ a ≤ 5200) = false from decide_eq_false (fun h => by omega)]
    go_wp2_with fail
    go_ret
    exact ⟨rfl, rfl⟩

set_option maxHeartbeats 400000 in
theorem widths_q (b : Int) (w : World) :
    Calls Try.prog 50 #[.int .i64 b] w fun r w' => r = .returned (.bool (decide (1 ≤ b ∧ b ≤ 128))) ∧ w' = w := by
  go_enter Try.func50, Try.ntmps50
  by_cases h0 : 1 ≤ b
  · by_cases h1 : b ≤ 128
    · rw [show decide (1 ≤ b ∧ b ≤ 128) = true from decide_eq_true (⟨h0, h1⟩)]
      go_wp2_with fail
      go_ret
      exact ⟨rfl, rfl⟩
    · rw [show decide (1 ≤ b ∧ b ≤ 128) = false from decide_eq_false (fun h => by omega)]
      go_wp2_with fail
      go_ret
      exact ⟨rfl, rfl⟩
  · rw [show decide (1 ≤ b ∧ b ≤ 128) = false from decide_eq_false (fun h => by omega)]
    go_wp2_with fail
    go_ret
    exact ⟨rfl, rfl⟩

set_option maxHeartbeats 400000 in
theorem ikey_any (a b : Int) (w : World) :
    Calls Try.prog 30 #[.agg #[.int .i64 a, .int .i64 b]] w fun r w' => r = .returned (.bool (decide (keyOk a b))) ∧ Below w.heap.size w w' := by
  have kP := fun v : World => powers_q a v
  have kW := fun v : World => widths_q b v
  have b0 : Below w.heap.size w (w.alloc (.cells #[.int .i64 a, .int .i64 b] 29)) := (Below.refl _ _).alloc (Nat.le_refl _) _
  by_cases h0 : -5200 ≤ a ∧ a ≤ 5200
  · rw [show decide (-5200 ≤ a ∧ a ≤ 5200) = true from decide_eq_true h0] at kP
    by_cases h1 : 1 ≤ b ∧ b ≤ 128
    · rw [show decide (1 ≤ b ∧ b ≤ 128) = true from decide_eq_true h1] at kW
      rw [show decide (keyOk a b) = true from decide_eq_true (by simp only [keyOk]; omega)]
      clear h0 h1
      go_enter Try.func30, Try.ntmps30
      go_wp2_with (first | (go_at_call 35; refine (kP _).mono ?_; rintro e u ⟨rfl, rfl⟩) | (go_at_call 50; refine (kW _).mono ?_; rintro e u ⟨rfl, rfl⟩))
      go_ret
      exact ⟨rfl, b0⟩
    · rw [show decide (1 ≤ b ∧ b ≤ 128) = false from decide_eq_false h1] at kW
      rw [show decide (keyOk a b) = false from decide_eq_false (fun h => by simp only [keyOk] at h; omega)]
      clear h0 h1
      go_enter Try.func30, Try.ntmps30
      go_wp2_with (first | (go_at_call 35; refine (kP _).mono ?_; rintro e u ⟨rfl, rfl⟩) | (go_at_call 50; refine (kW _).mono ?_; rintro e u ⟨rfl, rfl⟩))
      go_ret
      exact ⟨rfl, b0⟩
  · rw [show decide (-5200 ≤ a ∧ a ≤ 5200) = false from decide_eq_false h0] at kP
    rw [show decide (keyOk a b) = false from decide_eq_false (fun h => by simp only [keyOk] at h; omega)]
    clear h0 kW
    go_enter Try.func30, Try.ntmps30
    go_wp2_with (first | (go_at_call 35; refine (kP _).mono ?_; rintro e u ⟨rfl, rfl⟩))
    go_ret
    exact ⟨rfl, b0⟩

set_option maxHeartbeats 1000000 in
theorem shardIn_any (a b k n : Int) (ha : cfgOk a b) (hk : keyOk k n) (w : World) :
    Calls Try.prog 31 #[.agg #[.int .i64 a, .int .i64 b], .agg #[.int .i64 k, .int .i64 n]] w fun r w' => r = .returned (.int .i64 (((k + 5200) * 7 + n).tmod a)) ∧ Below w.heap.size w w' := by
  have b0 : Below w.heap.size w ((w.alloc (.cells #[.int .i64 a, .int .i64 b] 27)).alloc (.cells #[.int .i64 k, .int .i64 n] 29)) := ((Below.refl w.heap.size w).alloc (Nat.le_refl _) _).alloc (by simp) _
  have f0 : wrap64 (k + 5200) = k + 5200 := by obtain ⟨hk1, hk2, hn1, hn2⟩ := hk; simp only [wrap64]; omega
  have f1 : wrap64 ((k + 5200) * 7) = (k + 5200) * 7 := by obtain ⟨hk1, hk2, hn1, hn2⟩ := hk; simp only [wrap64]; omega
  have f2 : wrap64 ((k + 5200) * 7 + n) = (k + 5200) * 7 + n := by obtain ⟨hk1, hk2, hn1, hn2⟩ := hk; simp only [wrap64]; omega
  have fz : ¬ a = 0 := by obtain ⟨h1, h2, h3, h4⟩ := ha; omega
  clear ha hk
  go_enter Try.func31, Try.ntmps31
  go_wp2_with fail
  go_ret
  exact ⟨rfl, b0⟩

set_option maxHeartbeats 1000000 in
theorem homeIn_any (a b k n : Int) (ha : cfgOk a b) (hk : keyOk k n) (w : World) :
    Calls Try.prog 32 #[.agg #[.int .i64 a, .int .i64 b], .agg #[.int .i64 k, .int .i64 n]] w fun r w' => r = .returned (.int .i64 ((k + 5200 + 3 * n).tmod b)) ∧ Below w.heap.size w w' := by
  have b0 : Below w.heap.size w ((w.alloc (.cells #[.int .i64 a, .int .i64 b] 27)).alloc (.cells #[.int .i64 k, .int .i64 n] 29)) := ((Below.refl w.heap.size w).alloc (Nat.le_refl _) _).alloc (by simp) _
  have f0 : wrap64 (k + 5200) = k + 5200 := by obtain ⟨hk1, hk2, hn1, hn2⟩ := hk; simp only [wrap64]; omega
  have f1 : wrap64 (3 * n) = 3 * n := by obtain ⟨hk1, hk2, hn1, hn2⟩ := hk; simp only [wrap64]; omega
  have f2 : wrap64 (k + 5200 + 3 * n) = k + 5200 + 3 * n := by obtain ⟨hk1, hk2, hn1, hn2⟩ := hk; simp only [wrap64]; omega
  have fz : ¬ b = 0 := by obtain ⟨h1, h2, h3, h4⟩ := ha; omega
  clear ha hk
  go_enter Try.func32, Try.ntmps32
  go_wp2_with fail
  go_ret
  exact ⟨rfl, b0⟩

set_option maxHeartbeats 1000000 in
theorem sshard_any (a b k n : Int) (w : World) :
    Calls Try.prog 9 #[.agg #[.int .i64 a, .int .i64 b], .agg #[.int .i64 k, .int .i64 n]] w fun r w' => r = .returned (.int .i64 (if cfgOk a b ∧ keyOk k n then ((k + 5200) * 7 + n).tmod a else -1)) ∧ Below w.heap.size w w' := by
  have b0 : Below w.heap.size w ((w.alloc (.cells #[.int .i64 a, .int .i64 b] 27)).alloc (.cells #[.int .i64 k, .int .i64 n] 29)) := ((Below.refl w.heap.size w).alloc (Nat.le_refl _) _).alloc (by simp) _
  have kC := fun v : World => sconfig_any a b v
  have kK := fun v : World => skey_any k n v
  by_cases ha : cfgOk a b
  · rw [show decide (cfgOk a b) = true from decide_eq_true ha] at kC
    go_enter Try.func9, Try.ntmps9
    by_cases hk : keyOk k n
    · rw [show decide (keyOk k n) = true from decide_eq_true hk] at kK
      rw [if_pos ⟨ha, hk⟩]
      have f0 : wrap64 (k + 5200) = k + 5200 := by obtain ⟨hk1, hk2, hn1, hn2⟩ := hk; simp only [wrap64]; omega
      have f1 : wrap64 ((k + 5200) * 7) = (k + 5200) * 7 := by obtain ⟨hk1, hk2, hn1, hn2⟩ := hk; simp only [wrap64]; omega
      have f2 : wrap64 ((k + 5200) * 7 + n) = (k + 5200) * 7 + n := by obtain ⟨hk1, hk2, hn1, hn2⟩ := hk; simp only [wrap64]; omega
      have fz : ¬ a = 0 := by obtain ⟨h1, h2, h3, h4⟩ := ha; omega
      have HA : Hid _ := ha
      have HK : Hid _ := hk
      clear ha hk
      go_wp2_with fail
      refine (kC _).mono ?_
      rintro e v1 ⟨rfl, hb1⟩
      have x0 : v1.cell? ⟨w.heap.size + 1, 0, none⟩ = some (.int .i64 k) := (hb1.cell (by simp <;> omega)).trans (by simp [go_sem])
      have x1 : v1.cell? ⟨w.heap.size + 1, 1, none⟩ = some (.int .i64 n) := (hb1.cell (by simp <;> omega)).trans (by simp [go_sem])
      have y0 : v1.cell? ⟨w.heap.size, 0, none⟩ = some (.int .i64 a) := (hb1.cell (by simp <;> omega)).trans (by simp [go_sem])
      have y1 : v1.cell? ⟨w.heap.size, 1, none⟩ = some (.int .i64 b) := (hb1.cell (by simp <;> omega)).trans (by simp [go_sem])
      have l1 : w.heap.size + 1 < v1.heap.size := by have := hb1.size; simp at this; omega
      replace b0 := b0.trans (hb1.mono b0.size)
      clear hb1
      go_wp2_with fail
      refine (kK _).mono ?_
      rintro e v2 ⟨rfl, hb2⟩
      replace x0 := (hb2.cell (p := ⟨w.heap.size + 1, 0, none⟩) l1).trans x0
      replace x1 := (hb2.cell (p := ⟨w.heap.size + 1, 1, none⟩) l1).trans x1
      replace y0 := (hb2.cell (p := ⟨w.heap.size, 0, none⟩) (Nat.lt_trans (Nat.lt_succ_self _) l1)).trans y0
      replace y1 := (hb2.cell (p := ⟨w.heap.size, 1, none⟩) (Nat.lt_trans (Nat.lt_succ_self _) l1)).trans y1
      replace b0 := b0.trans (hb2.mono b0.size)
      clear hb2 l1 kC kK
      go_wp2_with fail
      go_ret
      exact ⟨rfl, b0⟩
    · rw [show decide (keyOk k n) = false from decide_eq_false hk] at kK
      rw [if_neg (fun h => hk h.2)]
      clear ha hk
      go_wp2_with fail
      refine (kC _).mono ?_
      rintro e v1 ⟨rfl, hb1⟩
      have x0 : v1.cell? ⟨w.heap.size + 1, 0, none⟩ = some (.int .i64 k) := (hb1.cell (by simp <;> omega)).trans (by simp [go_sem])
      have x1 : v1.cell? ⟨w.heap.size + 1, 1, none⟩ = some (.int .i64 n) := (hb1.cell (by simp <;> omega)).trans (by simp [go_sem])
      replace b0 := b0.trans (hb1.mono b0.size)
      clear hb1
      go_wp2_with fail
      refine (kK _).mono ?_
      rintro e v2 ⟨rfl, hb2⟩
      replace b0 := b0.trans (hb2.mono b0.size)
      go_wp2_with fail
      go_ret
      exact ⟨rfl, b0⟩
  · rw [show decide (cfgOk a b) = false from decide_eq_false ha] at kC
    rw [if_neg (fun h => ha h.1)]
    clear ha kK
    go_enter Try.func9, Try.ntmps9
    go_wp2_with fail
    refine (kC _).mono ?_
    rintro e v1 ⟨rfl, hb1⟩
    replace b0 := b0.trans (hb1.mono b0.size)
    clear hb1
    go_wp2_with fail
    go_ret
    exact ⟨rfl, b0⟩

set_option maxHeartbeats 1000000 in
theorem shome_any (a b k n : Int) (w : World) :
    Calls Try.prog 13 #[.agg #[.int .i64 a, .int .i64 b], .agg #[.int .i64 k, .int .i64 n]] w fun r w' => r = .returned (.int .i64 (if cfgOk a b ∧ keyOk k n then (k + 5200 + 3 * n).tmod b else -1)) ∧ Below w.heap.size w w' := by
  have b0 : Below w.heap.size w ((w.alloc (.cells #[.int .i64 a, .int .i64 b] 27)).alloc (.cells #[.int .i64 k, .int .i64 n] 29)) := ((Below.refl w.heap.size w).alloc (Nat.le_refl _) _).alloc (by simp) _
  have kC := fun v : World => sconfig_any a b v
  have kK := fun v : World => skey_any k n v
  by_cases ha : cfgOk a b
  · rw [show decide (cfgOk a b) = true from decide_eq_true ha] at kC
    go_enter Try.func13, Try.ntmps13
    by_cases hk : keyOk k n
    · rw [show decide (keyOk k n) = true from decide_eq_true hk] at kK
      rw [if_pos ⟨ha, hk⟩]
      have f0 : wrap64 (k + 5200) = k + 5200 := by obtain ⟨hk1, hk2, hn1, hn2⟩ := hk; simp only [wrap64]; omega
      have f1 : wrap64 (3 * n) = 3 * n := by obtain ⟨hk1, hk2, hn1, hn2⟩ := hk; simp only [wrap64]; omega
      have f2 : wrap64 (k + 5200 + 3 * n) = k + 5200 + 3 * n := by obtain ⟨hk1, hk2, hn1, hn2⟩ := hk; simp only [wrap64]; omega
      have fz : ¬ b = 0 := by obtain ⟨h1, h2, h3, h4⟩ := ha; omega
      have HA : Hid _ := ha
      have HK : Hid _ := hk
      clear ha hk
      go_wp2_with fail
      refine (kC _).mono ?_
      rintro e v1 ⟨rfl, hb1⟩
      have x0 : v1.cell? ⟨w.heap.size + 1, 0, none⟩ = some (.int .i64 k) := (hb1.cell (by simp <;> omega)).trans (by simp [go_sem])
      have x1 : v1.cell? ⟨w.heap.size + 1, 1, none⟩ = some (.int .i64 n) := (hb1.cell (by simp <;> omega)).trans (by simp [go_sem])
      have y0 : v1.cell? ⟨w.heap.size, 0, none⟩ = some (.int .i64 a) := (hb1.cell (by simp <;> omega)).trans (by simp [go_sem])
      have y1 : v1.cell? ⟨w.heap.size, 1, none⟩ = some (.int .i64 b) := (hb1.cell (by simp <;> omega)).trans (by simp [go_sem])
      have l1 : w.heap.size + 1 < v1.heap.size := by have := hb1.size; simp at this; omega
      replace b0 := b0.trans (hb1.mono b0.size)
      clear hb1
      go_wp2_with fail
      refine (kK _).mono ?_
      rintro e v2 ⟨rfl, hb2⟩
      replace x0 := (hb2.cell (p := ⟨w.heap.size + 1, 0, none⟩) l1).trans x0
      replace x1 := (hb2.cell (p := ⟨w.heap.size + 1, 1, none⟩) l1).trans x1
      replace y0 := (hb2.cell (p := ⟨w.heap.size, 0, none⟩) (Nat.lt_trans (Nat.lt_succ_self _) l1)).trans y0
      replace y1 := (hb2.cell (p := ⟨w.heap.size, 1, none⟩) (Nat.lt_trans (Nat.lt_succ_self _) l1)).trans y1
      replace b0 := b0.trans (hb2.mono b0.size)
      clear hb2 l1 kC kK
      go_wp2_with fail
      go_ret
      exact ⟨rfl, b0⟩
    · rw [show decide (keyOk k n) = false from decide_eq_false hk] at kK
      rw [if_neg (fun h => hk h.2)]
      clear ha hk
      go_wp2_with fail
      refine (kC _).mono ?_
      rintro e v1 ⟨rfl, hb1⟩
      have x0 : v1.cell? ⟨w.heap.size + 1, 0, none⟩ = some (.int .i64 k) := (hb1.cell (by simp <;> omega)).trans (by simp [go_sem])
      have x1 : v1.cell? ⟨w.heap.size + 1, 1, none⟩ = some (.int .i64 n) := (hb1.cell (by simp <;> omega)).trans (by simp [go_sem])
      replace b0 := b0.trans (hb1.mono b0.size)
      clear hb1
      go_wp2_with fail
      refine (kK _).mono ?_
      rintro e v2 ⟨rfl, hb2⟩
      replace b0 := b0.trans (hb2.mono b0.size)
      go_wp2_with fail
      go_ret
      exact ⟨rfl, b0⟩
  · rw [show decide (cfgOk a b) = false from decide_eq_false ha] at kC
    rw [if_neg (fun h => ha h.1)]
    clear ha kK
    go_enter Try.func13, Try.ntmps13
    go_wp2_with fail
    refine (kC _).mono ?_
    rintro e v1 ⟨rfl, hb1⟩
    replace b0 := b0.trans (hb1.mono b0.size)
    clear hb1
    go_wp2_with fail
    go_ret
    exact ⟨rfl, b0⟩

set_option maxHeartbeats 1000000 in
theorem ishard_any (a b k n : Int) (w : World) :
    Calls Try.prog 12 #[.agg #[.int .i64 a, .int .i64 b], .agg #[.int .i64 k, .int .i64 n]] w fun r w' => r = .returned (.int .i64 (if cfgOk a b ∧ keyOk k n then ((k + 5200) * 7 + n).tmod a else -1)) ∧ Below w.heap.size w w' := by
  have b0 : Below w.heap.size w ((w.alloc (.cells #[.int .i64 a, .int .i64 b] 27)).alloc (.cells #[.int .i64 k, .int .i64 n] 29)) := ((Below.refl w.heap.size w).alloc (Nat.le_refl _) _).alloc (by simp) _
  have kC := fun v : World => iconfig_any a b v
  have kK := fun v : World => ikey_any k n v
  by_cases ha : cfgOk a b
  · rw [show decide (cfgOk a b) = true from decide_eq_true ha] at kC
    go_enter Try.func12, Try.ntmps12
    by_cases hk : keyOk k n
    · rw [show decide (keyOk k n) = true from decide_eq_true hk] at kK
      rw [if_pos ⟨ha, hk⟩]
      have HA : Hid _ := ha
      have HK : Hid _ := hk
      clear ha hk
      go_wp2_with fail
      refine (kC _).mono ?_
      rintro e v1 ⟨rfl, hb1⟩
      have x0 : v1.cell? ⟨w.heap.size + 1, 0, none⟩ = some (.int .i64 k) := (hb1.cell (by simp <;> omega)).trans (by simp [go_sem])
      have x1 : v1.cell? ⟨w.heap.size + 1, 1, none⟩ = some (.int .i64 n) := (hb1.cell (by simp <;> omega)).trans (by simp [go_sem])
      have y0 : v1.cell? ⟨w.heap.size, 0, none⟩ = some (.int .i64 a) := (hb1.cell (by simp <;> omega)).trans (by simp [go_sem])
      have y1 : v1.cell? ⟨w.heap.size, 1, none⟩ = some (.int .i64 b) := (hb1.cell (by simp <;> omega)).trans (by simp [go_sem])
      have l1 : w.heap.size + 1 < v1.heap.size := by have := hb1.size; simp at this; omega
      replace b0 := b0.trans (hb1.mono b0.size)
      clear hb1
      go_wp2_with fail
      refine (kK _).mono ?_
      rintro e v2 ⟨rfl, hb2⟩
      replace x0 := (hb2.cell (p := ⟨w.heap.size + 1, 0, none⟩) l1).trans x0
      replace x1 := (hb2.cell (p := ⟨w.heap.size + 1, 1, none⟩) l1).trans x1
      replace y0 := (hb2.cell (p := ⟨w.heap.size, 0, none⟩) (Nat.lt_trans (Nat.lt_succ_self _) l1)).trans y0
      replace y1 := (hb2.cell (p := ⟨w.heap.size, 1, none⟩) (Nat.lt_trans (Nat.lt_succ_self _) l1)).trans y1
      replace b0 := b0.trans (hb2.mono b0.size)
      clear hb2 l1 kC kK
      go_wp2_with fail
      refine (shardIn_any a b k n HA.out HK.out _).mono ?_
      rintro e v3 ⟨rfl, hb3⟩
      go_wp2_with fail
      go_ret
      exact ⟨rfl, b0.trans (hb3.mono b0.size)⟩
    · rw [show decide (keyOk k n) = false from decide_eq_false hk] at kK
      rw [if_neg (fun h => hk h.2)]
      clear ha hk
      go_wp2_with fail
      refine (kC _).mono ?_
      rintro e v1 ⟨rfl, hb1⟩
      have x0 : v1.cell? ⟨w.heap.size + 1, 0, none⟩ = some (.int .i64 k) := (hb1.cell (by simp <;> omega)).trans (by simp [go_sem])
      have x1 : v1.cell? ⟨w.heap.size + 1, 1, none⟩ = some (.int .i64 n) := (hb1.cell (by simp <;> omega)).trans (by simp [go_sem])
      replace b0 := b0.trans (hb1.mono b0.size)
      clear hb1
      go_wp2_with fail
      refine (kK _).mono ?_
      rintro e v2 ⟨rfl, hb2⟩
      replace b0 := b0.trans (hb2.mono b0.size)
      go_wp2_with fail
      go_ret
      exact ⟨rfl, b0⟩
  · rw [show decide (cfgOk a b) = false from decide_eq_false ha] at kC
    rw [if_neg (fun h => ha h.1)]
    clear ha kK
    go_enter Try.func12, Try.ntmps12
    go_wp2_with fail
    refine (kC _).mono ?_
    rintro e v1 ⟨rfl, hb1⟩
    replace b0 := b0.trans (hb1.mono b0.size)
    clear hb1
    go_wp2_with fail
    go_ret
    exact ⟨rfl, b0⟩

set_option maxHeartbeats 1000000 in
theorem ihome_any (a b k n : Int) (w : World) :
    Calls Try.prog 14 #[.agg #[.int .i64 a, .int .i64 b], .agg #[.int .i64 k, .int .i64 n]] w fun r w' => r = .returned (.int .i64 (if cfgOk a b ∧ keyOk k n then (k + 5200 + 3 * n).tmod b else -1)) ∧ Below w.heap.size w w' := by
  have b0 : Below w.heap.size w ((w.alloc (.cells #[.int .i64 a, .int .i64 b] 27)).alloc (.cells #[.int .i64 k, .int .i64 n] 29)) := ((Below.refl w.heap.size w).alloc (Nat.le_refl _) _).alloc (by simp) _
  have kC := fun v : World => iconfig_any a b v
  have kK := fun v : World => ikey_any k n v
  by_cases ha : cfgOk a b
  · rw [show decide (cfgOk a b) = true from decide_eq_true ha] at kC
    go_enter Try.func14, Try.ntmps14
    by_cases hk : keyOk k n
    · rw [show decide (keyOk k n) = true from decide_eq_true hk] at kK
      rw [if_pos ⟨ha, hk⟩]
      have HA : Hid _ := ha
      have HK : Hid _ := hk
      clear ha hk
      go_wp2_with fail
      refine (kC _).mono ?_
      rintro e v1 ⟨rfl, hb1⟩
      have x0 : v1.cell? ⟨w.heap.size + 1, 0, none⟩ = some (.int .i64 k) := (hb1.cell (by simp <;> omega)).trans (by simp [go_sem])
      have x1 : v1.cell? ⟨w.heap.size + 1, 1, none⟩ = some (.int .i64 n) := (hb1.cell (by simp <;> omega)).trans (by simp [go_sem])
      have y0 : v1.cell? ⟨w.heap.size, 0, none⟩ = some (.int .i64 a) := (hb1.cell (by simp <;> omega)).trans (by simp [go_sem])
      have y1 : v1.cell? ⟨w.heap.size, 1, none⟩ = some (.int .i64 b) := (hb1.cell (by simp <;> omega)).trans (by simp [go_sem])
      have l1 : w.heap.size + 1 < v1.heap.size := by have := hb1.size; simp at this; omega
      replace b0 := b0.trans (hb1.mono b0.size)
      clear hb1
      go_wp2_with fail
      refine (kK _).mono ?_
      rintro e v2 ⟨rfl, hb2⟩
      replace x0 := (hb2.cell (p := ⟨w.heap.size + 1, 0, none⟩) l1).trans x0
      replace x1 := (hb2.cell (p := ⟨w.heap.size + 1, 1, none⟩) l1).trans x1
      replace y0 := (hb2.cell (p := ⟨w.heap.size, 0, none⟩) (Nat.lt_trans (Nat.lt_succ_self _) l1)).trans y0
      replace y1 := (hb2.cell (p := ⟨w.heap.size, 1, none⟩) (Nat.lt_trans (Nat.lt_succ_self _) l1)).trans y1
      replace b0 := b0.trans (hb2.mono b0.size)
      clear hb2 l1 kC kK
      go_wp2_with fail
      refine (homeIn_any a b k n HA.out HK.out _).mono ?_
      rintro e v3 ⟨rfl, hb3⟩
      go_wp2_with fail
      go_ret
      exact ⟨rfl, b0.trans (hb3.mono b0.size)⟩
    · rw [show decide (keyOk k n) = false from decide_eq_false hk] at kK
      rw [if_neg (fun h => hk h.2)]
      clear ha hk
      go_wp2_with fail
      refine (kC _).mono ?_
      rintro e v1 ⟨rfl, hb1⟩
      have x0 : v1.cell? ⟨w.heap.size + 1, 0, none⟩ = some (.int .i64 k) := (hb1.cell (by simp <;> omega)).trans (by simp [go_sem])
      have x1 : v1.cell? ⟨w.heap.size + 1, 1, none⟩ = some (.int .i64 n) := (hb1.cell (by simp <;> omega)).trans (by simp [go_sem])
      replace b0 := b0.trans (hb1.mono b0.size)
      clear hb1
      go_wp2_with fail
      refine (kK _).mono ?_
      rintro e v2 ⟨rfl, hb2⟩
      replace b0 := b0.trans (hb2.mono b0.size)
      go_wp2_with fail
      go_ret
      exact ⟨rfl, b0⟩
  · rw [show decide (cfgOk a b) = false from decide_eq_false ha] at kC
    rw [if_neg (fun h => ha h.1)]
    clear ha kK
    go_enter Try.func14, Try.ntmps14
    go_wp2_with fail
    refine (kC _).mono ?_
    rintro e v1 ⟨rfl, hb1⟩
    replace b0 := b0.trans (hb1.mono b0.size)
    clear hb1
    go_wp2_with fail
    go_ret
    exact ⟨rfl, b0⟩

set_option maxHeartbeats 400000 in
theorem toCacheConfig_any (a b : Int) (w : World) :
    Calls Try.prog 10 #[.agg #[.int .i64 a, .int .i64 b]] w fun r w' => r = .returned (.agg #[.int .i64 a, .int .i64 b]) ∧ Below w.heap.size w w' := by
  go_enter Try.func10, Try.ntmps10
  go_wp2_with fail
  exact bodyPost_ret (v := .agg #[.int .i64 a, .int .i64 b]) (by simp [results, Try.results10, go_sem]) rfl ⟨rfl, (((Below.refl _ _).alloc (Nat.le_refl _) _).alloc (by simp) _).alloc (by simp; omega) _⟩

set_option maxHeartbeats 400000 in
theorem toKey_any (a b : Int) (w : World) :
    Calls Try.prog 11 #[.agg #[.int .i64 a, .int .i64 b]] w fun r w' => r = .returned (.agg #[.int .i64 a, .int .i64 b]) ∧ Below w.heap.size w w' := by
  go_enter Try.func11, Try.ntmps11
  go_wp2_with fail
  exact bodyPost_ret (v := .agg #[.int .i64 a, .int .i64 b]) (by simp [results, Try.results11, go_sem]) rfl ⟨rfl, (((Below.refl _ _).alloc (Nat.le_refl _) _).alloc (by simp) _).alloc (by simp; omega) _⟩

end Go.Proofs.Ytchfkmompciooaa
