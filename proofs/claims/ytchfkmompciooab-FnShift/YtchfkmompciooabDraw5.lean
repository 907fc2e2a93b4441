import Derived.Test.YtchfkmompciooabDraw4
import Derived.Test.YtchfkmompciooabW19
namespace Go.Proofs.Ytchfkmompciooab
open Go.RowKit
set_option linter.unusedVariables false

/-- What DrawNatPow hands back: some base, some exponent. -/
def PowDraw (w w' : World) (e : Ending) : Prop :=
  ∃ (b : Nat) (z : Int), e = .returned (.tuple #[.int .u64 (b : Int), .int .i64 z]) ∧ b < 18446744073709551616 ∧ -100 ≤ z ∧ z ≤ 20001 ∧ Below w.heap.size w w'

def powTab : List Nat := [0, 1, 2, 3, 5, 10, 255, 4294967296, 18446744073709551615]

theorem powTab_lt (j : Nat) : powTab.getD j 0 < 18446744073709551616 := M.getD_lt (by omega) (by intro x hx; simp [powTab] at hx; omega) j

theorem blk_tab (w : World) : Blk (w.alloc (.cells #[.int .u64 0, .int .u64 1, .int .u64 2, .int .u64 3, .int .u64 5, .int .u64 10, .int .u64 255, .int .u64 4294967296, .int .u64 18446744073709551615] 34)) w.heap.size powTab := by
  have := blk_lit w powTab
  exact this

theorem isRdr_alloc {w : World} {g : Nat} {ao : Option Addr} {n c i : Nat} (h : IsRdr w g ao n c i) (o : Obj) : IsRdr (w.alloc o) g ao n c i := by
  unfold IsRdr
  rw [Below.heap_alloc w o g h.lt]; exact h

set_option maxHeartbeats 4000000 in
set_option maxRecDepth 100000 in
theorem drawPow_any (ao : Option Addr) (n c : Nat) (bs : List Nat) (w : World) (hl : bs.length = n) (hn : n ≤ 1048576) (hb : RdB w ao bs) :
    Calls Try.prog 19 #[.slice ao n c] w fun e w' => PowDraw w w' e := by
  have hR0 := rdr_new w ao n c
  have hsep := rdr_sep hb
  have hb0 : Below w.heap.size w (w.alloc (.cells #[.slice ao n c, .int .i64 0] 49)) := (Below.refl _ _).alloc (Nat.le_refl _) _
  have hrb0 := hb.below hb0
  have HB0 := hid hb0; clear hb0
  obtain ⟨k, ek⟩ : ∃ k : Nat, k = rdB bs 0 := ⟨_, rfl⟩
  have hkb : k < 256 := by rw [ek]; exact rdB_lt hb 0
  have EK := hid ek; clear ek
  go_enter Try.func19, Try.ntmps19
  go_wp2_with fail
  generalize hW0 : w.alloc (.cells #[.slice ao n c, .int .i64 0] 49) = W0 at hR0 hrb0 HB0 ⊢
  refine (next_any w.heap.size ao n c 0 bs _ hl hn (by omega) hR0 hrb0 k EK.out).mono ?_
  rintro e w1 ⟨rfl, hR1, hg1⟩
  have hb1 := below_rdr HB0.out hg1
  have hp1 := adv_le bs 0 n hl (by omega)
  generalize adv bs 0 = p1 at hR1 hp1
  clear hW0 hR0 hrb0 hg1 HB0
  have hR1t := isRdr_alloc hR1 (.cells #[.int .u64 0, .int .u64 1, .int .u64 2, .int .u64 3, .int .u64 5, .int .u64 10, .int .u64 255, .int .u64 4294967296, .int .u64 18446744073709551615] 34)
  have hb1t := hb1.alloc hb1.size (.cells #[.int .u64 0, .int .u64 1, .int .u64 2, .int .u64 3, .int .u64 5, .int .u64 10, .int .u64 255, .int .u64 4294967296, .int .u64 18446744073709551615] 34)
  have hck := (blk_tab w1).cell (k % 9) (by simp [powTab]; omega)
  have hvb := powTab_lt (k % 9)
  obtain ⟨v, ev⟩ : ∃ v : Nat, v = powTab.getD (k % 9) 0 := ⟨_, rfl⟩
  rw [← ev] at hck hvb
  clear ev hR1 hb1
  obtain ⟨m9, e9⟩ : ∃ m : Nat, m = k % 9 := ⟨_, rfl⟩
  have h9I : (k : Int) % 9 = (m9 : Int) := by omega
  have h9b : (m9 : Int) < 9 := by omega
  rw [← e9] at hck
  have E9 := hid e9; clear e9
  by_cases h128 : 128 ≤ k
  · have h128' : (128 : Int) ≤ (k : Int) := by omega
    obtain ⟨q, eq⟩ : ∃ q : Nat, q = (wideK bs p1 8).1 := ⟨_, rfl⟩
    obtain ⟨p3, ep3⟩ : ∃ p : Nat, p = (wideK bs p1 8).2 := ⟨_, rfl⟩
    have hqb : q < 18446744073709551616 := by rw [eq]; exact wideK_lt bs p1 hb.1 8
    have hp3 : p3 ≤ n := by rw [ep3]; exact wideK_le bs p1 n hl hp1 8
    have EQ := hid eq; have EP3 := hid ep3
    clear eq ep3
    go_wp2_with fail
    refine (wide_any w.heap.size ao n c p1 bs _ hl hn hp1 hR1t (hb.below hb1t) hsep q p3 EQ.out EP3.out).mono ?_
    rintro e w3 ⟨rfl, hR3, hg3⟩
    have hb3 := below_rdr hb1t hg3
    clear hR1t hb1t hg3 hck
    obtain ⟨z, ez⟩ : ∃ z : Nat, z = rdB bs p3 := ⟨_, rfl⟩
    have hzb : z < 256 := by rw [ez]; exact rdB_lt hb p3
    have EZ := hid ez; clear ez
    obtain ⟨s, es⟩ : ∃ s : Nat, s = z % 64 := ⟨_, rfl⟩
    have hsI : (z : Int) % 64 = (s : Int) := by omega
    have hsb : s < 64 := by omega
    clear es
    have hdc : (q : Int) / 2 ^ s = ((q / 2 ^ s : Nat) : Int) := by
      have : ((2 : Int) ^ s) = ((2 ^ s : Nat) : Int) := by simp
      rw [this]; exact (Int.natCast_ediv q (2 ^ s)).symm
    have hub : q / 2 ^ s < 18446744073709551616 := Nat.lt_of_le_of_lt (Nat.div_le_self _ _) hqb
    obtain ⟨u, eu⟩ : ∃ u : Nat, u = q / 2 ^ s := ⟨_, rfl⟩
    rw [← eu] at hdc hub
    clear eu
    go_wp2_with fail
    refine (next_any w.heap.size ao n c p3 bs _ hl hn hp3 hR3 (hb.below hb3) z EZ.out).mono ?_
    rintro e w4 ⟨rfl, hR4, hg4⟩
    have hb4 := below_rdr hb3 hg4
    have hp4 := adv_le bs p3 n hl hp3
    generalize adv bs p3 = p4 at hR4 hp4
    clear hR3 hb3 hg4
    obtain ⟨y, ey⟩ : ∃ y : Nat, y = rdB bs p4 := ⟨_, rfl⟩
    have hyb : y < 256 := by rw [ey]; exact rdB_lt hb p4
    have EY := hid ey; clear ey
    go_wp2_with fail
    refine (next_any w.heap.size ao n c p4 bs _ hl hn hp4 hR4 (hb.below hb4) y EY.out).mono ?_
    rintro e w5 ⟨rfl, hR5, hg5⟩
    have hb5 := below_rdr hb4 hg5
    have hp5 := adv_le bs p4 n hl hp4
    generalize adv bs p4 = p5 at hR5 hp5
    clear hR4 hb4 hg5
    obtain ⟨x, ex⟩ : ∃ x : Nat, x = rdB bs p5 := ⟨_, rfl⟩
    have hxb : x < 256 := by rw [ex]; exact rdB_lt hb p5
    have EX := hid ex; clear ex
    go_wp2_with fail
    refine (next_any w.heap.size ao n c p5 bs _ hl hn hp5 hR5 (hb.below hb5) x EX.out).mono ?_
    rintro e w6 ⟨rfl, hR6, hg6⟩
    have hb6 := below_rdr hb5 hg6
    clear hR5 hb5 hg6 hR6
    rcases (show x % 8 = 1 ∨ x % 8 = 2 ∨ x % 8 = 3 ∨ (x % 8 ≠ 1 ∧ x % 8 ≠ 2 ∧ x % 8 ≠ 3) from by omega) with h8 | h8 | h8 | h8
    · have f1 : ((x : Int) % 8 == 1) = true := by simp; omega
      go_wp2_with fail
      go_ret2
      exact ⟨u, _, rfl, hub, by omega, by omega, hb6⟩
    · have f1 : ((x : Int) % 8 == 1) = false := by simp; omega
      have f2 : ((x : Int) % 8 == 2) = true := by simp; omega
      go_wp2_with fail
      go_ret2
      exact ⟨u, _, rfl, hub, by omega, by omega, hb6⟩
    · have f1 : ((x : Int) % 8 == 1) = false := by simp; omega
      have f2 : ((x : Int) % 8 == 2) = false := by simp; omega
      have f3 : ((x : Int) % 8 == 3) = true := by simp; omega
      go_wp2_with fail
      go_ret2
      exact ⟨u, _, rfl, hub, by omega, by omega, hb6⟩
    · have f1 : ((x : Int) % 8 == 1) = false := by simp; omega
      have f2 : ((x : Int) % 8 == 2) = false := by simp; omega
      have f3 : ((x : Int) % 8 == 3) = false := by simp; omega
      go_wp2_with fail
      go_ret2
      exact ⟨u, _, rfl, hub, by omega, by omega, hb6⟩
  · have h128' : ¬ (128 : Int) ≤ (k : Int) := by omega
    obtain ⟨y, ey⟩ : ∃ y : Nat, y = rdB bs p1 := ⟨_, rfl⟩
    have hyb : y < 256 := by rw [ey]; exact rdB_lt hb p1
    have EY := hid ey; clear ey
    go_wp2_with fail
    refine (next_any w.heap.size ao n c p1 bs _ hl hn hp1 hR1t (hb.below hb1t) y EY.out).mono ?_
    rintro e w5 ⟨rfl, hR5, hg5⟩
    have hb5 := below_rdr hb1t hg5
    have hp5 := adv_le bs p1 n hl hp1
    generalize adv bs p1 = p5 at hR5 hp5
    clear hR1t hb1t hg5
    obtain ⟨x, ex⟩ : ∃ x : Nat, x = rdB bs p5 := ⟨_, rfl⟩
    have hxb : x < 256 := by rw [ex]; exact rdB_lt hb p5
    have EX := hid ex; clear ex
    go_wp2_with fail
    refine (next_any w.heap.size ao n c p5 bs _ hl hn hp5 hR5 (hb.below hb5) x EX.out).mono ?_
    rintro e w6 ⟨rfl, hR6, hg6⟩
    have hb6 := below_rdr hb5 hg6
    clear hR5 hb5 hg6 hR6
    rcases (show x % 8 = 1 ∨ x % 8 = 2 ∨ x % 8 = 3 ∨ (x % 8 ≠ 1 ∧ x % 8 ≠ 2 ∧ x % 8 ≠ 3) from by omega) with h8 | h8 | h8 | h8
    · have f1 : ((x : Int) % 8 == 1) = true := by simp; omega
      go_wp2_with fail
      go_ret2
      exact ⟨v, _, rfl, hvb, by omega, by omega, hb6⟩
    · have f1 : ((x : Int) % 8 == 1) = false := by simp; omega
      have f2 : ((x : Int) % 8 == 2) = true := by simp; omega
      go_wp2_with fail
      go_ret2
      exact ⟨v, _, rfl, hvb, by omega, by omega, hb6⟩
    · have f1 : ((x : Int) % 8 == 1) = false := by simp; omega
      have f2 : ((x : Int) % 8 == 2) = false := by simp; omega
      have f3 : ((x : Int) % 8 == 3) = true := by simp; omega
      go_wp2_with fail
      go_ret2
      exact ⟨v, _, rfl, hvb, by omega, by omega, hb6⟩
    · have f1 : ((x : Int) % 8 == 1) = false := by simp; omega
      have f2 : ((x : Int) % 8 == 2) = false := by simp; omega
      have f3 : ((x : Int) % 8 == 3) = false := by simp; omega
      go_wp2_with fail
      go_ret2
      exact ⟨v, _, rfl, hvb, by omega, by omega, hb6⟩

end Go.Proofs.Ytchfkmompciooab
