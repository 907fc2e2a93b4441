import Derived.Test.YtehplfmnipadmadZBA
import Derived.Test.YtehplfmnipadmadZLtx
import Derived.Laws.BytesArg
namespace Go.Proofs.Ytehplfmnipadmad
open Go.RowKit
set_option linter.unusedVariables false
set_option maxRecDepth 100000

set_option maxHeartbeats 2000000 in
set_option maxRecDepth 100000 in
/-- What DrawNatToText hands back: the list that 'limbs' draws. -/
theorem drawTT_any (ao : Option Addr) (n c : Nat) (bs : List Nat) (w : World) (hl : bs.length = n) (hn : n ≤ 1048576) (hb : RdB w ao bs) :
    Calls Try.prog 6 #[.slice ao n c] w fun e w' => ∃ ro rc, e = .returned (.slice ro (limbsAll bs 0).1.length rc) ∧ w'.ownsRow (w.heap.size + 1) 32 1 (.slice ro (limbsAll bs 0).1.length rc) (limbsAll bs 0).1.length (U (limbsAll bs 0).1) ∧ Below w.heap.size w w' := by
  have hR0 := rdr_new w ao n c
  have hsep := rdr_sep hb
  have hb0 : Below w.heap.size w (w.alloc (.cells #[.slice ao n c, .int .i64 0] 63)) := (Below.refl _ _).alloc (Nat.le_refl _) _
  have hsz0 : (w.alloc (.cells #[.slice ao n c, .int .i64 0] 63)).heap.size = w.heap.size + 1 := by simp
  have hrb0 := hb.below hb0
  have HSZ := hid hsz0; clear hsz0
  have HB0 := hid hb0; clear hb0
  go_enter Try.func6, Try.ntmps6
  go_wp2_with fail
  generalize hW0 : w.alloc (.cells #[.slice ao n c, .int .i64 0] 63) = W0 at hR0 hrb0 HSZ HB0 ⊢
  refine (limbs_any w.heap.size ao n c 0 bs _ hl hn (by omega) hR0 hrb0 hsep).mono ?_
  rintro e w1 ⟨ro, rc, rfl, ho1, hR1, hg1⟩
  rw [HSZ.out] at ho1
  have hb1 := below_rdr HB0.out hg1
  clear hW0 hR0 hrb0
  go_wp2_with fail
  go_ret
  exact ⟨ro, rc, rfl, ho1, hb1⟩

theorem ownY_max {w : World} {base n cap : Nat} {ao : Option Addr} {xs : List Value} (h : w.ownsRow base 5 1 (.slice ao n cap) n xs) : cap ≤ 9223372036854775807 := by
  rcases h.2 with ⟨he, h0⟩ | ⟨g, cap', cur, he, _, hg, hc, hm, _⟩
  · simp at he; omega
  · simp only [Value.slice.injEq] at he
    obtain ⟨_, _, rfl⟩ := he
    exact hm

set_option maxHeartbeats 1000000 in
/-- sameBytes of lists that are alike. -/
theorem sameB_any (ao bo : Option Addr) (n c d : Nat) (xs : List Nat) (w : World) (hl : xs.length = n) (h0 : 0 < n) (hr : RdY w ao xs) (hr2 : RdY w bo xs) :
    Calls Try.prog 9 #[.slice ao n c, .slice bo n d] w fun e w' => e = .returned (.bool true) ∧ w' = w := by
  obtain ⟨b1, o1, rfl, hc1⟩ := hr (by omega)
  obtain ⟨b2, o2, rfl, hc2⟩ := hr2 (by omega)
  have hx : (xs.map (fun x : Nat => (x : Int))).length = n := by simpa using hl
  have hg : ∀ i, i < n → (xs.map (fun x : Nat => (x : Int))).getD i 0 = ((xs.getD i 0 : Nat) : Int) := fun i hi => by
    simp [List.getD_eq_getElem?_getD, List.getElem?_map, List.getElem?_eq_getElem (show i < xs.length by omega)]
  have k1 := run_convert_bytes_arg (P := Try.prog) (w := w) 22 5 Try.underlying22 Try.underlying5 b1 o1 n c _ hx (fun i hi => by rw [hg i hi]; exact hc1 i (by omega)) 9 Try.underlying9
  have k2 := run_convert_bytes_arg (P := Try.prog) (w := w) 22 5 Try.underlying22 Try.underlying5 b2 o2 n d _ hx (fun i hi => by rw [hg i hi]; exact hc2 i (by omega)) 9 Try.underlying9
  generalize strOfNums (xs.map (fun x : Nat => (x : Int))) = s at k1 k2
  go_enter Try.func9, Try.ntmps9
  go_wp2_with fail
  go_ret
  exact ⟨rfl, rfl⟩

end Go.Proofs.Ytehplfmnipadmad
