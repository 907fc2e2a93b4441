import Derived.Test.YtchfkmompciooaaW5
namespace Go.Proofs.Ytchfkmompciooaa
open Go.RowKit
set_option linter.unusedVariables false

/-- An argument of the law: a slice that can be read. -/
def InRow (w : World) (a : Option Addr) (len cap : Nat) (xs : List Nat) : Prop := xs.length = len ∧ len ≤ cap ∧ F64 xs ∧ Rd w a xs

set_option maxHeartbeats 1000000 in
theorem lawNatCmp (a0 : Option Addr) (n c : Nat) (xs : List Nat) (a1 : Option Addr) (m d : Nat) (ys : List Nat) (w : World) (w0 : InRow w a0 n c xs) (w1 : InRow w a1 m d ys) :
    Calls Try.prog 6 #[.slice a0 n c, .slice a1 m d] w fun e w' => e = .returned (.bool true) ∧ Below w.heap.size w w' := by
  obtain ⟨hl, hc, hx, hr⟩ := w0
  obtain ⟨hm, hd, hy, hs⟩ := w1
  by_cases h1 : n ≤ 1048576
  · by_cases h2 : m ≤ 1048576
    · have HL := hid hl; clear hl
      have HM := hid hm; clear hm
      go_enter Try.func6, Try.ntmps6
      go_wp2_with fail
      refine (toU_any a0 n c xs _ HL.out (by omega) hr).mono ?_
      rintro e v1 ⟨rfl, hA1, hb1⟩
      go_wp2_with fail
      refine (toU_any a1 m d ys _ HM.out (by omega) (hs.below hb1)).mono ?_
      rintro e v2 ⟨rfl, hA2, hb2⟩
      go_wp2_with fail
      have hA1' := hA1.keep hb2
      refine (specNatCmp_any _ _ n m n m xs ys _ HL.out HM.out h1 h2 hx hy hA1'.rd0 hA2.rd0).mono ?_
      rintro e v3 ⟨rfl, hb3⟩
      have b3 : Below w.heap.size w v3 := (hb1.trans (hb2.mono hb1.size)).trans (hb3.mono (Nat.le_trans hb1.size hb2.size))
      clear hA1 hA2 hA1' hb1 hb2 hb3
      go_wp2_with fail
      refine (toU_any a0 n c xs _ HL.out (by omega) (hr.below b3)).mono ?_
      rintro e v4 ⟨rfl, hA4, hb4⟩
      have b4 : Below w.heap.size w v4 := b3.trans (hb4.mono b3.size)
      go_wp2_with fail
      refine (toU_any a1 m d ys _ HM.out (by omega) (hs.below b4)).mono ?_
      rintro e v5 ⟨rfl, hA5, hb5⟩
      have b5 : Below w.heap.size w v5 := b4.trans (hb5.mono b4.size)
      have hA4' := hA4.keep hb5
      go_wp2_with fail
      refine (implNatCmp_any _ _ n m n m xs ys _ HL.out HM.out (Nat.le_refl _) (Nat.le_refl _) h1 h2 hx hy hA4'.rd0 hA5.rd0).mono ?_
      rintro e v6 ⟨rfl, hb6⟩
      have b6 : Below w.heap.size w v6 := b5.trans (hb6.mono b5.size)
      have hA4'' := hA4'.keep hb6
      have hA5' := hA5.keep hb6
      have hne : (cmpDoc xs ys != cmpDoc xs ys) = false := by simp
      generalize cmpDoc xs ys = r at hne ⊢
      go_wp2_with fail
      refine (toU_any a0 n c xs _ HL.out (by omega) (hr.below b6)).mono ?_
      rintro e v7 ⟨rfl, hA7, hb7⟩
      have b7 : Below w.heap.size w v7 := b6.trans (hb7.mono b6.size)
      have hA4c := hA4''.keep hb7
      have hA5c := hA5'.keep hb7
      go_wp2_with fail
      refine (eqU_any _ _ n n n n xs xs _ HL.out HL.out (by omega) (by omega) hA4c.rd0 hA7.rd0).mono ?_
      rintro e v8 ⟨rfl, q8, rfl⟩
      have he : decide (xs = xs) = true := by simp
      rw [he]
      go_wp2_with fail
      have b8 : Below w.heap.size w (v7.drewN q8) := below_drewN b7 _
      refine (toU_any a1 m d ys _ HM.out (by omega) (hs.below b8)).mono ?_
      rintro e v9 ⟨rfl, hA9, hb9⟩
      have b9 : Below w.heap.size w v9 := b8.trans (hb9.mono b8.size)
      have hA5d := (hA5c.drewN q8).keep hb9
      go_wp2_with fail
      refine (eqU_any _ _ m m m m ys ys _ HM.out HM.out (by omega) (by omega) hA5d.rd0 hA9.rd0).mono ?_
      rintro e v10 ⟨rfl, q10, rfl⟩
      have he : decide (ys = ys) = true := by simp
      rw [he]
      go_wp2_with fail
      go_ret
      exact ⟨rfl, below_drewN b9 _⟩
    · go_enter Try.func6, Try.ntmps6
      go_wp2_with fail
      go_ret
      exact ⟨rfl, Below.refl _ _⟩
  · go_enter Try.func6, Try.ntmps6
    go_wp2_with fail
    go_ret
    exact ⟨rfl, Below.refl _ _⟩

end Go.Proofs.Ytchfkmompciooaa
