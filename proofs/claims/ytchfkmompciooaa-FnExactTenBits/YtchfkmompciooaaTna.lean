import Derived.Test.YtchfkmompciooaaW20
import Derived.Test.YtchfkmompciooaaKp
import Derived.Test.YtchfkmompciooaaW16
import Derived.Deep.RegionHeld3
import Derived.Deep.CutBlock
import Derived.Deep.DeepCutAuto
namespace Go.Proofs.Ytchfkmompciooaa
open Go.RowKit
set_option linter.unusedVariables false

/-- A ratio's value in memory: both numbers read. -/
def RR (w w' : World) (e : Ending) (N De : Nat) : Prop := ∃ a c b d, e = .returned (.agg #[.slice a (L N).length c, .slice b (L De).length d]) ∧ Rd w' a (L N) ∧ Rd w' b (L De) ∧ Below w.heap.size w w'

theorem blen10 : blen 10 = 4 := by decide

theorem ten_ok (m : Nat) (h : m ≤ 19000) : blen 10 * m ≤ 76800 := by rw [blen10]; omega

theorem own_apart {w : World} {base n cap g : Nat} {ao : Option Addr} {xs : List Value} (h : w.ownsRow base 38 1 (.slice ao n cap) n xs) (hg : g < base) : (Value.slice ao n cap).ownBlock ≠ some g := by
  rcases h.2 with ⟨he, h0⟩ | ⟨k, cap', cur, he, hk, _⟩
  · simp only [Value.slice.injEq] at he
    obtain ⟨rfl, _, rfl⟩ := he
    simp [Value.ownBlock]
  · simp only [Value.slice.injEq] at he
    obtain ⟨rfl, _, rfl⟩ := he
    simp [Value.ownBlock]; omega

theorem own_two {w : World} {base n cap g : Nat} {ao : Option Addr} {xs : List Nat} (h : w.ownsRow base 38 1 (.slice ao n cap) n (U xs)) (hg : g < base) (u v : Value) : Rd ((w.setCell ⟨g, 0, none⟩ u).setCell ⟨g, 1, none⟩ v) ao xs :=
  Rd.own (ownsRow_setCell_other (ownsRow_setCell_other h (own_apart h hg) u) (own_apart h hg) v)

set_option maxHeartbeats 1000000 in
theorem tenPower_pos (m : Nat) (w : World) (hm : m ≤ 19000) :
    Calls Try.prog 37 #[.int .i64 (m : Int)] w fun e w' => RR w w' e (10 ^ m) (1) := by
  have k1 := fun v : World => natPower_any 10 m v (by omega) (by omega) (ten_ok m (by omega))
  have k2 := fun v : World => natPower_any 10 0 v (by omega) (by omega) (ten_ok 0 (by omega))
  have hz : max (m : Int) 0 = (m : Int) := by omega
  have hz2 : max (-(m : Int)) 0 = (0 : Int) := by omega
  have b0 := (Below.refl w.heap.size w).alloc (Nat.le_refl _) (.cells #[.slice none 0 0, .slice none 0 0] 52)
  obtain ⟨c0, c1, z0, z1⟩ := two_new w 52 (.slice none 0 0) (.slice none 0 0)
  have l0 : w.heap.size < (w.alloc (.cells #[.slice none 0 0, .slice none 0 0] 52)).heap.size := by simp
  go_enter Try.func37, Try.ntmps37
  go_wp2_with fail
  refine (k1 _).mono ?_
  rintro e v1 ⟨a, c, rfl, ho1, hb1⟩
  have b1 := b0.trans (hb1.mono b0.size)
  go_wp2_with fail
  refine (k2 _).mono ?_
  rintro e v2 ⟨b, d, rfl, ho2, hb2⟩
  have hb3 := hb1.trans (hb2.mono hb1.size)
  have b2 := b1.trans (hb2.mono b1.size)
  have c0' : v2.cell? ⟨w.heap.size, 0, none⟩ = some (.slice none 0 0) := (hb3.cell l0).trans c0
  have c1' : v2.cell? ⟨w.heap.size, 1, none⟩ = some (.slice none 0 0) := (hb3.cell l0).trans c1
  have z0' : v2.frozen? ⟨w.heap.size, 0, none⟩ = false := (hb3.frozen l0).trans z0
  have z1' : v2.frozen? ⟨w.heap.size, 1, none⟩ = false := (hb3.frozen l0).trans z1
  have hl : w.heap.size < v1.heap.size := Nat.lt_of_lt_of_le l0 hb1.size
  have q1 := own_two (own_below ho1 hb2) l0
  have q2 := own_two ho2 hl
  clear ho1 ho2 c0 c1 z0 z1 hb2 hb1 hb3 b1 b0 l0 hl
  go_wp2_with fail
  exact bodyPost_ret (v := .agg #[.slice a (L (10 ^ m)).length c, .slice b (L (1)).length d]) (by simp [results, Try.results37, go_sem, c0', c1']) rfl ⟨a, c, b, d, rfl, q1 _ _, q2 _ _, (b2.setCell (p := ⟨w.heap.size, 0, none⟩) (Nat.le_refl _) _).setCell (p := ⟨w.heap.size, 1, none⟩) (Nat.le_refl _) _⟩

set_option maxHeartbeats 1000000 in
theorem tenPower_neg (m : Nat) (w : World) (hm : m ≤ 19000) :
    Calls Try.prog 37 #[.int .i64 (-(m : Int))] w fun e w' => RR w w' e (1) (10 ^ m) := by
  have k1 := fun v : World => natPower_any 10 0 v (by omega) (by omega) (ten_ok 0 (by omega))
  have k2 := fun v : World => natPower_any 10 m v (by omega) (by omega) (ten_ok m (by omega))
  have hz : max (-(m : Int)) 0 = (0 : Int) := by omega
  have hz2 : max (-(-(m : Int))) 0 = (m : Int) := by omega
  have b0 := (Below.refl w.heap.size w).alloc (Nat.le_refl _) (.cells #[.slice none 0 0, .slice none 0 0] 52)
  obtain ⟨c0, c1, z0, z1⟩ := two_new w 52 (.slice none 0 0) (.slice none 0 0)
  have l0 : w.heap.size < (w.alloc (.cells #[.slice none 0 0, .slice none 0 0] 52)).heap.size := by simp
  go_enter Try.func37, Try.ntmps37
  go_wp2_with fail
  refine (k1 _).mono ?_
  rintro e v1 ⟨a, c, rfl, ho1, hb1⟩
  have b1 := b0.trans (hb1.mono b0.size)
  go_wp2_with fail
  refine (k2 _).mono ?_
  rintro e v2 ⟨b, d, rfl, ho2, hb2⟩
  have hb3 := hb1.trans (hb2.mono hb1.size)
  have b2 := b1.trans (hb2.mono b1.size)
  have c0' : v2.cell? ⟨w.heap.size, 0, none⟩ = some (.slice none 0 0) := (hb3.cell l0).trans c0
  have c1' : v2.cell? ⟨w.heap.size, 1, none⟩ = some (.slice none 0 0) := (hb3.cell l0).trans c1
  have z0' : v2.frozen? ⟨w.heap.size, 0, none⟩ = false := (hb3.frozen l0).trans z0
  have z1' : v2.frozen? ⟨w.heap.size, 1, none⟩ = false := (hb3.frozen l0).trans z1
  have hl : w.heap.size < v1.heap.size := Nat.lt_of_lt_of_le l0 hb1.size
  have q1 := own_two (own_below ho1 hb2) l0
  have q2 := own_two ho2 hl
  clear ho1 ho2 c0 c1 z0 z1 hb2 hb1 hb3 b1 b0 l0 hl
  go_wp2_with fail
  exact bodyPost_ret (v := .agg #[.slice a (L (1)).length c, .slice b (L (10 ^ m)).length d]) (by simp [results, Try.results37, go_sem, c0', c1']) rfl ⟨a, c, b, d, rfl, q1 _ _, q2 _ _, (b2.setCell (p := ⟨w.heap.size, 0, none⟩) (Nat.le_refl _) _).setCell (p := ⟨w.heap.size, 1, none⟩) (Nat.le_refl _) _⟩

theorem far2' (v : World) (x y : Value) {g b o : Nat} (h : b ≠ g) : ((v.setCell ⟨g, 0, none⟩ x).setCell ⟨g, 1, none⟩ y).cell? ⟨b, o, none⟩ = v.cell? ⟨b, o, none⟩ :=
  World.cell?_of_block (w := v) (a := ⟨b, o, none⟩) ((Below.heap_setCell _ _ _ _ h).trans (Below.heap_setCell _ _ _ _ h))

end Go.Proofs.Ytchfkmompciooaa
