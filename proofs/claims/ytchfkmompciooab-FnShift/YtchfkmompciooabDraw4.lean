import Derived.Test.YtchfkmompciooabDraw3
namespace Go.Proofs.Ytchfkmompciooab
open Go.RowKit
set_option linter.unusedVariables false

theorem rdr_new (w : World) (ao : Option Addr) (n c : Nat) : IsRdr (w.alloc (.cells #[.slice ao n c, .int .i64 0] 49)) w.heap.size ao n c 0 := heap_alloc_new w _

theorem rdr_sep {w : World} {ao : Option Addr} {bs : List Nat} (h : RdB w ao bs) : 0 < bs.length → ∀ b2 o2, ao = some ⟨b2, o2, none⟩ → b2 ≠ w.heap.size := by
  intro hp b2 o2 e
  obtain ⟨b3, o3, e3, hc⟩ := h.2 hp
  rw [e] at e3
  simp only [Option.some.injEq, Addr.mk.injEq] at e3
  have := World.block_lt_of_cell? w _ (hc 0 hp)
  simp at this
  omega

theorem below_rdr {w0 w w1 : World} (hb : Below w0.heap.size w0 w) (hg : w.grownBy w1 (some w0.heap.size)) : Below w0.heap.size w0 w1 :=
  hb.grown hg hb.size (fun _ h => by cases h; exact Nat.le_refl _)

/-- What DrawNatShift hands back: the list that 'limbs' draws, and some number. -/
def ShDraw (w w' : World) (e : Ending) (bs : List Nat) : Prop :=
  ∃ ro rc, ∃ z : Int, e = .returned (.tuple #[.slice ro (limbsAll bs 0).1.length rc, .int .i64 z]) ∧ -80001 ≤ z ∧ z ≤ 80001 ∧ w'.ownsRow (w.heap.size + 1) 34 1 (.slice ro (limbsAll bs 0).1.length rc) (limbsAll bs 0).1.length (U (limbsAll bs 0).1) ∧ Below w.heap.size w w'

set_option maxHeartbeats 2000000 in
set_option maxRecDepth 100000 in
theorem drawShift_any (ao : Option Addr) (n c : Nat) (bs : List Nat) (w : World) (hl : bs.length = n) (hn : n ≤ 1048576) (hb : RdB w ao bs) :
    Calls Try.prog 17 #[.slice ao n c] w fun e w' => ShDraw w w' e bs := by
  have hR0 := rdr_new w ao n c
  have hsep := rdr_sep hb
  have hb0 : Below w.heap.size w (w.alloc (.cells #[.slice ao n c, .int .i64 0] 49)) := (Below.refl _ _).alloc (Nat.le_refl _) _
  have hsz0 : (w.alloc (.cells #[.slice ao n c, .int .i64 0] 49)).heap.size = w.heap.size + 1 := by simp
  have hrb0 := hb.below hb0
  have hlf := limbsAll_facts bs 0 n hl (by omega) hb.1
  have HLF := hid hlf; clear hlf
  have HSZ := hid hsz0; clear hsz0
  have HB0 := hid hb0; clear hb0
  go_enter Try.func17, Try.ntmps17
  go_wp2_with fail
  generalize hW0 : w.alloc (.cells #[.slice ao n c, .int .i64 0] 49) = W0 at hR0 hrb0 HSZ HB0 ⊢
  refine (limbs_any w.heap.size ao n c 0 bs _ hl hn (by omega) hR0 hrb0 hsep).mono ?_
  rintro e w1 ⟨ro, rc, rfl, ho1, hR1, hg1⟩
  rw [HSZ.out] at ho1
  have hb1 := below_rdr HB0.out hg1
  have hrb1 := hb.below hb1
  obtain ⟨p, ep⟩ : ∃ p : Nat, p = (limbsAll bs 0).2 := ⟨_, rfl⟩
  obtain ⟨r, er⟩ : ∃ r : List Nat, r = (limbsAll bs 0).1 := ⟨_, rfl⟩
  have hple : p ≤ n := by rw [ep]; exact HLF.out.1
  rw [← ep] at hR1
  rw [← er] at ho1 ⊢
  have HR := hid er
  clear ep er hW0 hR0 hrb0
  obtain ⟨k, ek⟩ : ∃ k : Nat, k = rdB bs p := ⟨_, rfl⟩
  have hkb : k < 256 := by rw [ek]; exact rdB_lt hb p
  have EK := hid ek; clear ek
  go_wp2_with fail
  refine (next_any w.heap.size ao n c p bs _ hl hn hple hR1 hrb1 k EK.out).mono ?_
  rintro e w2 ⟨rfl, hR2, hg2⟩
  have ho2 := own_grown ho1 hg2 (by omega)
  have hb2 := below_rdr hb1 hg2
  have hrb2 := hb.below hb2
  have hple2 := adv_le bs p n hl hple
  clear ho1 hR1 hg1 hb1 hrb1 hg2
  generalize adv bs p = p2 at hR2 hple2
  obtain ⟨y, ey⟩ : ∃ y : Nat, y = rdB bs p2 := ⟨_, rfl⟩
  have hyb : y < 256 := by rw [ey]; exact rdB_lt hb p2
  have EY := hid ey; clear ey
  obtain ⟨t, et⟩ : ∃ t : Nat, t = y * k := ⟨_, rfl⟩
  have htb : t ≤ 65025 := by rw [et]; exact Nat.mul_le_mul (show y ≤ 255 by omega) (show k ≤ 255 by omega)
  have htI : (y : Int) * (k : Int) = (t : Int) := by rw [et]; exact (Int.natCast_mul y k).symm
  clear et
  go_wp2_with fail
  refine (next_any w.heap.size ao n c p2 bs _ hl hn hple2 hR2 hrb2 y EY.out).mono ?_
  rintro e w3 ⟨rfl, hR3, hg3⟩
  have ho3 := own_grown ho2 hg3 (by omega)
  have hb3 := below_rdr hb2 hg3
  have hrb3 := hb.below hb3
  have hple3 := adv_le bs p2 n hl hple2
  clear ho2 hR2 hb2 hrb2 hg3
  generalize adv bs p2 = p3 at hR3 hple3
  obtain ⟨x, ex⟩ : ∃ x : Nat, x = rdB bs p3 := ⟨_, rfl⟩
  have hxb : x < 256 := by rw [ex]; exact rdB_lt hb p3
  have EX := hid ex; clear ex
  by_cases h250 : 250 ≤ k
  · have h250' : (250 : Int) ≤ (k : Int) := by omega
    by_cases hodd : k % 2 = 1
    · have hodd' : ((k : Int) % 2 == 1) = true := by simp; omega
      go_wp2_with fail
      refine (next_any w.heap.size ao n c p3 bs _ hl hn hple3 hR3 hrb3 x EX.out).mono ?_
      rintro e w4 ⟨rfl, hR4, hg4⟩
      have ho4 := own_grown ho3 hg4 (by omega)
      have hb4 := below_rdr hb3 hg4
      clear ho3 hR3 hb3 hrb3 hg4 hR4
      go_wp2_with fail
      go_ret2
      unfold ShDraw
      rw [← HR.out]
      exact ⟨ro, rc, _, rfl, by omega, by omega, ho4, hb4⟩
    · have hodd' : ((k : Int) % 2 == 1) = false := by simp; omega
      go_wp2_with fail
      refine (next_any w.heap.size ao n c p3 bs _ hl hn hple3 hR3 hrb3 x EX.out).mono ?_
      rintro e w4 ⟨rfl, hR4, hg4⟩
      have ho4 := own_grown ho3 hg4 (by omega)
      have hb4 := below_rdr hb3 hg4
      clear ho3 hR3 hb3 hrb3 hg4 hR4
      go_wp2_with fail
      go_ret2
      unfold ShDraw
      rw [← HR.out]
      exact ⟨ro, rc, _, rfl, by omega, by omega, ho4, hb4⟩
  · have h250' : ¬ (250 : Int) ≤ (k : Int) := by omega
    by_cases h4 : k % 4 = 1
    · have h4' : ((k : Int) % 4 == 1) = true := by simp; omega
      go_wp2_with fail
      refine (next_any w.heap.size ao n c p3 bs _ hl hn hple3 hR3 hrb3 x EX.out).mono ?_
      rintro e w4 ⟨rfl, hR4, hg4⟩
      have ho4 := own_grown ho3 hg4 (by omega)
      have hb4 := below_rdr hb3 hg4
      clear ho3 hR3 hb3 hrb3 hg4 hR4
      go_wp2_with fail
      go_ret2
      unfold ShDraw
      rw [← HR.out]
      exact ⟨ro, rc, _, rfl, by omega, by omega, ho4, hb4⟩
    · have h4' : ((k : Int) % 4 == 1) = false := by simp; omega
      go_wp2_with fail
      go_ret2
      unfold ShDraw
      rw [← HR.out]
      exact ⟨ro, rc, _, rfl, by omega, by omega, ho3, hb3⟩

end Go.Proofs.Ytchfkmompciooab
