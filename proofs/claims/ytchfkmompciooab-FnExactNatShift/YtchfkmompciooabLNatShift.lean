import Derived.Test.YtchfkmompciooabLb
import Derived.Test.YtchfkmompciooabW18
namespace Go.Proofs.Ytchfkmompciooab
open Go.RowKit
set_option linter.unusedVariables false

set_option maxHeartbeats 4000000 in
theorem lawNatShift (a0 : Option Addr) (n c : Nat) (xs : List Nat) (z : Int) (w : World) (w0 : InRow w a0 n c xs) (_w1 : (Lit.int .i64 z).wf = true) :
    Calls Try.prog 5 #[.slice a0 n c, .int .i64 z] w fun e w' => e = .returned (.bool true) ∧ Below w.heap.size w w' := by
  obtain ⟨hl, hc, hx, hr⟩ := w0
  by_cases h1 : n ≤ 1048576
  · have HL := hid hl; clear hl
    have hlen := shDoc_len xs z hx
    obtain ⟨r, hr0⟩ : ∃ r, r = shDoc xs z := ⟨_, rfl⟩
    rw [← hr0] at hlen
    have HR := hid hr0; clear hr0
    go_enter Try.func5, Try.ntmps5
    go_wp2_with fail
    refine (toU_any a0 n c xs _ HL.out (by omega) hr).mono ?_
    rintro e v2 ⟨rfl, hA2, b2⟩
    go_wp2_with fail
    refine (specNatShift_any _ n n xs z _ HL.out h1 hx hA2.rd0).mono ?_
    rw [← HR.out]
    rintro e v3 ⟨aw, cw, rfl, how, hb3⟩
    have ow3 := Own.of how
    have b3 : Below w.heap.size w v3 := b2.trans (hb3.mono b2.size)
    clear hA2 hb3 how b2
    go_wp2_with fail
    refine (toU_any a0 n c xs _ HL.out (by omega) (hr.below b3)).mono ?_
    rintro e v5 ⟨rfl, hX5, hb5⟩
    have b5 : Below w.heap.size w v5 := b3.trans (hb5.mono b3.size)
    have ow5 := ow3.keep hb5
    have lt5 := hX5.lt
    go_wp2_with fail
    refine (implNatShift_any _ n n xs z _ HL.out (Nat.le_refl _) h1 hx hX5.rd0).mono ?_
    rw [← HR.out]
    rintro e v6 ⟨ag, cg, rfl, hog, hb6⟩
    have og6 := Own.of hog
    have b6 : Below w.heap.size w v6 := b5.trans (hb6.mono b5.size)
    have hX6 := hX5.keep hb6
    have ow6 := ow5.keep hb6
    clear hX5 ow3 ow5 hb5 hb6 hog
    go_wp2_with fail
    refine (eqU_any ag aw _ _ cg cw r r _ rfl rfl (by omega) (by omega) og6.rd ow6.rd).mono ?_
    rintro e v7 ⟨rfl, q7, rfl⟩
    rw [dec_self]
    have b7 : Below w.heap.size w (v6.drewN q7) := below_drewN b6 _
    have hX7 := hX6.drewN q7
    have ow7 := ow6.drewN q7
    have og7 := og6.drewN q7
    generalize v6.drewN q7 = v7 at b7 hX7 ow7 og7 ⊢
    clear hX6 ow6 og6
    go_wp2_with fail
    refine (toU_any a0 n c xs _ HL.out (by omega) (hr.below b7)).mono ?_
    rintro e v8 ⟨rfl, hA8, hb8⟩
    have b8 : Below w.heap.size w v8 := b7.trans (hb8.mono b7.size)
    have hX8 := hX7.keep hb8
    have ow8 := ow7.keep hb8
    have og8 := og7.keep hb8
    go_wp2_with fail
    refine (eqU_any _ _ n n n n xs xs _ HL.out HL.out (by omega) (by omega) hX8.rd0 hA8.rd0).mono ?_
    rintro e v9 ⟨rfl, q9, rfl⟩
    rw [dec_self]
    have b11 : Below w.heap.size w (v8.drewN q9) := below_drewN b8 _
    have hX11 := hX8.drewN q9
    have ow11 := ow8.drewN q9
    have og11 := og8.drewN q9
    generalize v8.drewN q9 = v11 at b11 hX11 ow11 og11 ⊢
    clear hX7 ow7 og7 hX8 ow8 og8 hA8 hb8
    go_wp2_with fail
    have hw3 : w.heap.size ≤ v3.heap.size := b3.size
    obtain ⟨k1, hk1⟩ : ∃ k : Nat, k = 1 + n := ⟨_, rfl⟩
    obtain ⟨k3, hk3⟩ : ∃ k : Nat, k = 1 + r.length := ⟨_, rfl⟩
    have HK1 := hid hk1; clear hk1
    have HK3 := hid hk3; clear hk3
    refine (mark_any 0 (some ⟨v3.heap.size, 0, none⟩) n n 1 xs _ k1 HK1.out (by omega) (by omega) (hX11.own (Nat.zero_le _) HL.out (by unfold maxLen; omega))).mono ?_
    rintro e v13 ⟨rfl, _, hg12⟩
    have b13 : Below w.heap.size w v13 := below_grown b11 hg12 (fun k hk => by simp [Value.ownBlock] at hk; omega)
    have ow13 := ow11.grown hg12 (fun k h1 h2 => by simp [Value.ownBlock]; omega)
    have og13 := og11.grown hg12 (fun k h1 h2 => by simp [Value.ownBlock]; omega)
    clear hX11 ow11 og11 hg12
    have hneg : ¬ (k1 : Int) < 0 := by omega
    go_wp2_with fail
    refine (eqU_any ag aw _ _ cg cw r r _ rfl rfl (by omega) (by omega) og13.rd ow13.rd).mono ?_
    rintro e v14 ⟨rfl, q14, rfl⟩
    rw [dec_self]
    have b14 : Below w.heap.size w (v13.drewN q14) := below_drewN b13 _
    have ow14 := ow13.drewN q14
    have og14 := og13.drewN q14
    generalize v13.drewN q14 = v14 at b14 ow14 og14 ⊢
    clear ow13 og13
    go_wp2_with fail
    refine (mark_any 0 ag r.length cg 1 r _ k3 HK3.out (by omega) (by omega) og14.row).mono ?_
    rintro e v15 ⟨rfl, hm15, hg15⟩
    have b15 : Below w.heap.size w v15 := below_grown b14 hg15 (og14.row_ge (by omega))
    have ow15 := ow14.grown hg15 (fun k h1 h2 e => by have := (og14.place k e).1; omega)
    have rg15 := Rd.own hm15
    clear ow14 og14 hg15
    go_wp2_with fail
    refine (held_any ag r.length cg 1 _ k3 HK3.out (by omega) (by omega) rg15).mono ?_
    rintro e v16 ⟨rfl, rfl⟩
    have hneg2 : ¬ (k3 : Int) < 0 := by omega
    have hne2 : ((k3 : Int) != (k3 : Int)) = false := by simp
    go_wp2_with fail
    refine (toU_any a0 n c xs _ HL.out (by omega) (hr.below b15)).mono ?_
    rintro e v18 ⟨rfl, hX18, hb17⟩
    have b18 := b15.trans (hb17.mono b15.size)
    have ow18 := ow15.keep hb17
    go_wp2_with fail
    refine (implNatShift_any _ n n xs z _ HL.out (Nat.le_refl _) h1 hx hX18.rd0).mono ?_
    rw [← HR.out]
    rintro e v19 ⟨ah, ch, rfl, hoh, hb19⟩
    have b19 : Below w.heap.size w v19 := b18.trans (hb19.mono b18.size)
    have ow19 := ow18.keep hb19
    go_wp2_with fail
    refine (eqU_any ah aw _ _ ch cw r r _ rfl rfl (by omega) (by omega) (Rd.own hoh) ow19.rd).mono ?_
    rintro e v20 ⟨rfl, q20, rfl⟩
    rw [dec_self]
    go_wp2_with fail
    go_ret
    exact ⟨rfl, below_drewN b19 _⟩
  · go_enter Try.func5, Try.ntmps5
    go_wp2_with fail
    go_ret
    exact ⟨rfl, Below.refl _ _⟩

end Go.Proofs.Ytchfkmompciooab
