import Derived.Test.YtchfkmompciooaaLb
import Derived.Test.YtchfkmompciooaaW20
import Derived.OpenShut
namespace Go.Proofs.Ytchfkmompciooaa
open Go.RowKit
set_option linter.unusedVariables false

set_option maxHeartbeats 4000000 in
theorem lawNatPow (x z : Int) (w : World) (w0 : (Lit.int .u64 x).wf = true) (_w1 : (Lit.int .i64 z).wf = true) :
    Calls Try.prog 7 #[.int .u64 x, .int .i64 z] w fun e w' => e = .returned (.bool true) ∧ Below w.heap.size w w' := by
  have hxb := bounds_u64 w0
  obtain ⟨a, rfl⟩ := Int.eq_ofNat_of_zero_le hxb.1
  have ha : a < 18446744073709551616 := by omega
  clear w0 _w1 hxb
  have hlen := powDoc_len a z
  obtain ⟨r, hr0⟩ : ∃ r, r = powDoc a z := ⟨_, rfl⟩
  rw [← hr0] at hlen
  have HR := hid hr0; clear hr0
  go_enter Try.func7, Try.ntmps7
  go_wp2_with fail
  refine (specNatPow_any a z _ ha).mono ?_
  rw [← HR.out]
  rintro e v3 ⟨aw, cw, rfl, how, b3⟩
  have ow3 := Own.of how
  clear how
  go_wp2_with fail
  refine (implNatPow_any a z _ ha).mono ?_
  rw [← HR.out]
  rintro e v6 ⟨ag, cg, rfl, hog, hb6⟩
  have og6 := Own.of hog
  have b6 : Below w.heap.size w v6 := b3.trans (hb6.mono b3.size)
  have ow6 := ow3.keep hb6
  have hs3 : w.heap.size ≤ v3.heap.size := b3.size
  clear ow3 hb6 hog b3
  go_wp2_with fail
  refine (eqU_any ag aw _ _ cg cw r r _ rfl rfl (by omega) (by omega) og6.rd ow6.rd).mono ?_
  rintro e v14 ⟨rfl, q14, rfl⟩
  rw [dec_self]
  have b14 : Below w.heap.size w (v6.drewN q14) := below_drewN b6 _
  have ow14 := ow6.drewN q14
  have og14 := og6.drewN q14
  generalize v6.drewN q14 = v14 at b14 ow14 og14 ⊢
  clear ow6 og6
  obtain ⟨k3, hk3⟩ : ∃ k : Nat, k = 1 + r.length := ⟨_, rfl⟩
  have HK3 := hid hk3; clear hk3
  go_wp2_with fail
  refine (mark_any 0 ag r.length cg 1 r _ k3 HK3.out (by omega) (by omega) og14.row).mono ?_
  rintro e v15 ⟨rfl, hm15, hg15⟩
  have b15 : Below w.heap.size w v15 := below_grown b14 hg15 (og14.row_ge (by omega))
  have ow15 := ow14.grown hg15 (fun k h1 h2 e => by have := (og14.place k e).1; omega)
  have rg15 := Rd.own hm15
  clear ow14 og14 hg15
  go_wp2_with fail
  refine (held_any ag r.length cg 1 _ k3 HK3.out (by omega) (by omega) rg15).mono ?_
  rintro e v16 ⟨rfl, rfl⟩
  have hneg2 : ¬ (k3 : Int) < 0 := by omega
  have hne2 : ((k3 : Int) != (k3 : Int)) = false := by simp
  go_wp2_with fail
  refine (implNatPow_any a z _ ha).mono ?_
  rw [← HR.out]
  rintro e v19 ⟨ah, ch, rfl, hoh, hb19⟩
  have b19 : Below w.heap.size w v19 := b15.trans (hb19.mono b15.size)
  have ow19 := ow15.keep hb19
  go_wp2_with fail
  refine (eqU_any ah aw _ _ ch cw r r _ rfl rfl (by omega) (by omega) (Rd.own hoh) ow19.rd).mono ?_
  rintro e v20 ⟨rfl, q20, rfl⟩
  rw [dec_self]
  go_wp2_with fail
  go_ret
  exact ⟨rfl, below_drewN b19 _⟩

end Go.Proofs.Ytchfkmompciooaa
