import Derived.Test.YtehplfmnipadmabNft
import Derived.OpenShut
namespace Go.Proofs.Ytehplfmnipadmab
open Go.RowKit
set_option linter.unusedVariables false

theorem ftDoc_len (bs : List Nat) (h : bs.length ≤ 1048576) : (ftDoc bs).length ≤ 1048577 := by
  unfold ftDoc
  by_cases hk : ftOk bs = true
  · rw [if_pos hk]
    unfold ftOk at hk
    simp only [Bool.and_eq_true] at hk
    have hd := M.dec_lt bs (all_dig hk.2)
    have := L_short _ bs.length (Nat.lt_of_lt_of_le hd (Nat.pow_le_pow_right (by omega) (by omega)))
    omega
  · rw [if_neg hk]; simp

set_option maxHeartbeats 4000000 in
theorem lawNatFromText (a0 : Option Addr) (n c : Nat) (bs : List Nat) (w : World) (w0 : InB w a0 n c bs) :
    Calls Try.prog 8 #[.slice a0 n c] w fun e w' => e = .returned (.bool true) ∧ Below w.heap.size w w' := by
  obtain ⟨hl, hc, hx, hr⟩ := w0
  by_cases h1 : n ≤ 1048576
  · have HL := hid hl; clear hl
    have hlen := ftDoc_len bs (by rw [HL.out]; exact h1)
    obtain ⟨r, hr0⟩ : ∃ r, r = ftDoc bs := ⟨_, rfl⟩
    obtain ⟨ok, hok⟩ : ∃ ok, ok = ftOk bs := ⟨_, rfl⟩
    have HOK := hid hok; clear hok
    have hnb : (ok != ok) = false := by simp
    rw [← hr0] at hlen
    have HR := hid hr0; clear hr0
    have hrY : RdY w a0 bs := hr
    have h1' : ¬ (1048576 : Int) < (n : Int) := by omega
    go_enter Try.func8, Try.ntmps8
    go_wp2_with fail
    refine (toB_any a0 n c bs _ HL.out (by omega) hrY).mono ?_
    rintro e v1 ⟨rfl, hA1, hb1⟩
    go_wp2_with fail
    refine (specNatFromText_any _ n n bs _ HL.out h1 (RdB.of hA1.rd0 hx)).mono ?_
    rw [← HR.out, ← HOK.out]
    rintro e v3 ⟨aw, cw, rfl, how, hb3⟩
    have ow3 := Own.of how
    have b3 : Below w.heap.size w v3 := hb1.trans (hb3.mono hb1.size)
    clear hA1 hb1 hb3 how
    go_wp2_with fail
    refine (toB_any a0 n c bs _ HL.out (by omega) (hrY.below b3)).mono ?_
    rintro e v4 ⟨rfl, hA4, hb4⟩
    have b4 : Below w.heap.size w v4 := b3.trans (hb4.mono b3.size)
    have ow4 := ow3.keep hb4
    have lt4 := hA4.lt
    go_wp2_with fail
    refine (implNatFromText_any _ n n bs _ HL.out h1 (Nat.le_refl _) (by omega) (RdB.of hA4.rd0 hx)).mono ?_
    rw [← HR.out, ← HOK.out]
    rintro e v6 ⟨ag, cg, rfl, hog, hb6⟩
    have og6 := Own.of hog
    have b6 : Below w.heap.size w v6 := b4.trans (hb6.mono b4.size)
    have hX6 := hA4.keep hb6
    have ow6 := ow4.keep hb6
    clear hA4 ow3 ow4 hb4 hb6 hog
    go_wp2_with fail
    refine (eqU_any ag aw _ _ cg cw r r _ rfl rfl (by omega) (by omega) og6.rd ow6.rd).mono ?_
    rintro e v7 ⟨rfl, q7, rfl⟩
    rw [dec_self]
    have b7 : Below w.heap.size w (v6.drewN q7) := below_drewN b6 _
    have hX7 := hX6.drewN q7
    have ow7 := ow6.drewN q7
    have og7 := og6.drewN q7
    generalize v6.drewN q7 = v7 at b7 hX7 ow7 og7 ⊢
    clear hX6 ow6 og6
    go_wp2_with fail
    refine (toB_any a0 n c bs _ HL.out (by omega) (hrY.below b7)).mono ?_
    rintro e v8 ⟨rfl, hA8, hb8⟩
    have b8 : Below w.heap.size w v8 := b7.trans (hb8.mono b7.size)
    have hX8 := hX7.keep hb8
    have ow8 := ow7.keep hb8
    have og8 := og7.keep hb8
    go_wp2_with fail
    refine (eqB_any _ _ n n n n bs bs _ HL.out HL.out (by omega) (by omega) hX8.rd0 hA8.rd0).mono ?_
    rintro e v9 ⟨rfl, q9, rfl⟩
    rw [dec_self]
    have b9 : Below w.heap.size w (v8.drewN q9) := below_drewN b8 _
    have hX9 := hX8.drewN q9
    have ow9 := ow8.drewN q9
    have og9 := og8.drewN q9
    generalize v8.drewN q9 = v9 at b9 hX9 ow9 og9 ⊢
    clear hX7 ow7 og7 hX8 ow8 og8 hA8 hb8
    obtain ⟨k1, hk1⟩ : ∃ k : Nat, k = 1 + n := ⟨_, rfl⟩
    obtain ⟨k3, hk3⟩ : ∃ k : Nat, k = 1 + r.length := ⟨_, rfl⟩
    have hk1b : k1 ≤ 2000000 := by omega
    have HK1 := hid hk1; clear hk1
    have HK3 := hid hk3; clear hk3
    have hw3 : w.heap.size ≤ v3.heap.size := b3.size
    go_wp2_with fail
    refine (markB_any 0 (some ⟨v3.heap.size, 0, none⟩) n n 1 bs _ k1 HK1.out (by omega) (by omega) (hX9.own (Nat.zero_le _) HL.out (by unfold maxLen; omega))).mono ?_
    rintro e v10 ⟨rfl, hm10, hg10⟩
    have b10 : Below w.heap.size w v10 := below_grown b9 hg10 (fun k hk => by simp [Value.ownBlock] at hk; omega)
    have ow10 := ow9.grown hg10 (fun k h1 h2 e => by simp [Value.ownBlock] at e; omega)
    have og10 := og9.grown hg10 (fun k h1 h2 e => by simp [Value.ownBlock] at e; omega)
    clear ow9 og9 hg10 hX9 hm10
    have hneg1 : ¬ (k1 : Int) < 0 := by omega
    go_wp2_with fail
    refine (eqU_any ag aw _ _ cg cw r r _ rfl rfl (by omega) (by omega) og10.rd ow10.rd).mono ?_
    rintro e v11 ⟨rfl, q11, rfl⟩
    rw [dec_self]
    have b11 : Below w.heap.size w (v10.drewN q11) := below_drewN b10 _
    have ow11 := ow10.drewN q11
    have og11 := og10.drewN q11
    generalize v10.drewN q11 = v11 at b11 ow11 og11 ⊢
    clear ow10 og10
    go_wp2_with fail
    refine (mark_any 0 ag r.length cg 1 r _ k3 HK3.out (by omega) (by omega) og11.row).mono ?_
    rintro e v15 ⟨rfl, hm15, hg15⟩
    have b15 : Below w.heap.size w v15 := below_grown b11 hg15 (og11.row_ge (by omega))
    have ow15 := ow11.grown hg15 (fun k h1 h2 e => by have := (og11.place k e).1; omega)
    have rg15 := Rd.own hm15
    clear ow11 og11 hg15
    go_wp2_with fail
    refine (held_any ag r.length cg 1 _ k3 HK3.out (by omega) (by omega) rg15).mono ?_
    rintro e v16 ⟨rfl, rfl⟩
    have hneg2 : ¬ (k3 : Int) < 0 := by omega
    have hne2 : ((k3 : Int) != (k3 : Int)) = false := by simp
    go_wp2_with fail
    refine (toB_any a0 n c bs _ HL.out (by omega) (hrY.below b15)).mono ?_
    rintro e v17 ⟨rfl, hA17, hb17⟩
    have b17 : Below w.heap.size w v17 := b15.trans (hb17.mono b15.size)
    have ow17 := ow15.keep hb17
    go_wp2_with fail
    refine (implNatFromText_any _ n n bs _ HL.out h1 (Nat.le_refl _) (by omega) (RdB.of hA17.rd0 hx)).mono ?_
    rw [← HR.out, ← HOK.out]
    rintro e v19 ⟨ah, ch, rfl, hoh, hb19⟩
    have b19 : Below w.heap.size w v19 := b17.trans (hb19.mono b17.size)
    have ow19 := ow17.keep hb19
    go_wp2_with fail
    refine (eqU_any ah aw _ _ ch cw r r _ rfl rfl (by omega) (by omega) (Rd.own hoh) ow19.rd).mono ?_
    rintro e v20 ⟨rfl, q20, rfl⟩
    rw [dec_self]
    go_wp2_with fail
    go_ret
    exact ⟨rfl, below_drewN b19 _⟩
  · have h1' : (1048576 : Int) < (n : Int) := by omega
    go_enter Try.func8, Try.ntmps8
    go_wp2_with fail
    go_ret
    exact ⟨rfl, Below.refl _ _⟩

end Go.Proofs.Ytehplfmnipadmab
