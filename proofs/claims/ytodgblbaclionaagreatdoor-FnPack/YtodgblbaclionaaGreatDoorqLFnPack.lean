import Derived.Test.YtodgblbaclionaaGreatDoorqIU
import Derived.Test.YtodgblbaclionaaGreatDoorqLPack
import Derived.Test.YtodgblbaclionaaGreatDoorqLFp
import Derived.Test.YtodgblbaclionaaGreatDoorqDru
import Derived.Test.YtodgblbaclionaaGreatDoorqPe3
import Derived.Test.YtodgblbaclionaaGreatDoorqSi7
namespace Go.Proofs.YtodgblbaclionaaGreatDoor

open Go.RowKit

set_option linter.unusedVariables false
set_option maxRecDepth 100000

theorem sc_nan : scOut [110, 97, 110] = (⟨3, false, [], 0⟩, 0, 0) := by rfl

theorem fp_word_lt {F : M.Fm} (h : F.Ok) (t : M.Pt) (hp : F.Proper t) : t.s < 2 ^ 128 := by
  have p2 := h.p2
  have pw : F.lead ≤ 2 ^ 112 := Nat.pow_le_pow_right (by omega) (by omega)
  unfold M.Fm.Proper at hp
  omega

theorem proper_nz {F : M.Fm} {t : M.Pt} (h : t = ⟨0, false, 0, 0⟩ ∨ F.Proper t) (hc : t.c ≠ 0) : F.Proper t := by
  rcases h with e | e
  · rw [e] at hc; simp at hc
  · exact e

theorem parse_nan (k : Nat) (hk : k < 4) (ao : Option Addr) (cc : Nat) (v : World) (hm : Fmt v) (hF : Fol v) (hWd : Wds v) (hr : RdB v ao [110, 97, 110]) (Y : Nat) (hY : Y = (M.fm k).pk ⟨5, false, 0, 0⟩) :
    Calls Tryz.prog 9 #[.int .i64 (k : Int), .slice ao 3 cc] v fun e w' => e = .returned (.agg #[.int .u64 (M.hiN Y : Int), .int .u64 (M.loN Y : Int), .int .i64 0, .int .i64 0, .int .i64 0]) ∧ Below v.heap.size v w' := by
  have h := M.fm_ok k
  have kP := fun u : World => dpack (M.fm k) h 5 false 0 0 (by omega) u
  have hp : (M.fm k).Proper ⟨5, false, 0, 0⟩ := by unfold M.Fm.Proper; simp
  have e := pki_pk h ⟨5, false, 0, 0⟩ hp
  simp only at e
  rw [e, ← hY] at kP
  simp only [hi0, lo0] at kP
  refine parse_settled (k : Int) ao 3 cc v 3 false 0 0 _ _ 0 0 0 (fun u hu => ?_)
  refine (settle_nan (k : Int) ao 3 cc u (hm.below hu) (M.fm k) (fun v' hv' => describe_ok k hk v' hv') (fun v' => dKnown (M.fm k) h v') 3 false 0 0 0 0 (fun _ _ _ _ => True) (fun _ _ _ _ _ _ _ => trivial) (fun _ _ _ _ _ _ _ _ => trivial) (fun _ _ _ _ _ _ _ => trivial) rfl rfl _ _ kP (fun v' hv' => ?_)).mono ?_
  · have hv2 := hu.trans (hv'.mono hu.size)
    refine (iscan_any ao 3 cc [110, 97, 110] v' rfl (hr.below hv2) (hF.below hv2) (hWd.below hv2) _ rfl).mono ?_
    rintro e w' ⟨x, rfl, ⟨a, c', hx, _⟩, hb⟩
    rw [sc_nan] at hx ⊢
    subst hx
    exact ⟨a, c', rfl, trivial, hb⟩
  · rintro e w' ⟨a, c', rfl, _, hb⟩
    exact ⟨a, c', rfl, hb⟩

theorem fp_all (w : World) (hm : Fmt w) (hF : Fol w) (hWd : Wds w) (f : Int) (X : Nat) (hX : X < 2 ^ 128) : ∃ T, FpK w f X T := by
  by_cases hf : f < 0 ∨ 4 ≤ f
  · refine ⟨⟨0, false, 0, 0⟩, fun v _ => ?_, fun v => ?_, .inl ⟨rfl, fun v _ => ?_⟩⟩
    · simp only [pv, hi0, lo0]; exact iunpack_no f hf _ _ v
    · simp only [pv, hi0, lo0]; exact sunpack_no f hf _ _ v
    · simp only [pv, hi0, lo0]; exact ipack_no f hf _ _ _ _ _ v
  · obtain ⟨k, rfl⟩ : ∃ k : Nat, f = (k : Int) := ⟨f.toNat, by omega⟩
    have hk : k < 4 := by omega
    have h := M.fm_ok k
    refine ⟨(M.fm k).upk X, fun v hv => iunpack_any k hk X hX v hv, fun v => sunpack_any k hk X hX v, ?_⟩
    by_cases hc : ((M.fm k).upk X).c = 0
    · refine .inl ⟨hc, fun v hv => ?_⟩
      have hb : (M.fm k).upk X = ⟨0, false, 0, 0⟩ := by
        rcases h.upk_proper X with e | e
        · exact e
        · exfalso; unfold M.Fm.Proper at e; omega
      have hn : ¬ (M.fm k).Proper ⟨0, false, 0, 0⟩ := notProper0 (by omega) (by omega) (by omega) (by omega) (by omega)
      have q := ipack_any k hk 0 false 0 (by omega) 0 v hv
      rw [decide_eq_false hn, show ansN (M.fm k) ⟨0, false, 0, 0⟩ = 0 from if_neg hn] at q
      simp only [hi0, lo0] at q
      rw [hb]
      simp only [pv, hi0, lo0]
      exact q
    · have hp : (M.fm k).Proper ((M.fm k).upk X) := proper_nz (h.upk_proper X) hc
      have hs := fp_word_lt h _ hp
      have hq := fun (v : World) (hv : Fmt v) => ipack_any k hk ((M.fm k).upk X).c ((M.fm k).upk X).n ((M.fm k).upk X).s hs ((M.fm k).upk X).q v hv
      have ht : (⟨((M.fm k).upk X).c, ((M.fm k).upk X).n, ((M.fm k).upk X).s, ((M.fm k).upk X).q⟩ : M.Pt) = (M.fm k).upk X := rfl
      rw [ht, decide_eq_true hp, show ansN (M.fm k) ((M.fm k).upk X) = (M.fm k).pk ((M.fm k).upk X) from if_pos hp] at hq
      by_cases h5 : ((M.fm k).upk X).c = 5
      · obtain ⟨e1, e2⟩ := h.upk_pk _ hp
        have ew : (M.fm k).upk X = ⟨5, false, 0, 0⟩ := by
          have hp' := hp
          unfold M.Fm.Proper at hp'
          have : ((M.fm k).upk X).n = false ∧ ((M.fm k).upk X).s = 0 ∧ ((M.fm k).upk X).q = 0 := by
            rcases hp' with x | x | x | x | x
            · omega
            · omega
            · exact x.2
            · omega
            · omega
          rw [← ht, h5, this.1, this.2.1, this.2.2]
        have hw : (2 : Nat) ^ (M.fm k).wd ≤ 2 ^ 128 := h.width.2.2
        refine .inr (.inl ⟨h5, (M.fm k).pk ((M.fm k).upk X), hq, fun v hv => ?_, fun v ao cc hb hr => ?_⟩)
        · have := iunpack_any k hk ((M.fm k).pk ((M.fm k).upk X)) (by omega) v hv
          rw [e1] at this
          exact this
        · exact parse_nan k hk ao cc v (hm.below hb) (hF.below hb) (hWd.below hb) hr _ (by rw [ew])
      · rw [h.pk_upk_all X hc h5] at hq
        exact .inr (.inr ⟨hc, h5, hq⟩)

set_option maxHeartbeats 1000000 in
set_option maxRecDepth 100000 in
theorem lawFnPack (a0 : Option Addr) (n c : Nat) (bs : List Nat) (w : World) (w0 : InB w a0 n c bs) (hm : Fmt w) (hF : Fol w) (hWd : Wds w) :
    Calls Tryz.prog 3 #[.slice a0 n c] w fun e w' => e = .returned (.bool true) ∧ Below w.heap.size w w' := by
  obtain ⟨hl, hc, hb⟩ := w0
  by_cases h1 : n ≤ 1048576
  · exact lawFpKey a0 n c w hm h1 (fun v hv => drawU_any a0 n c bs v hl h1 (hb.below hv)) (fp_all w hm hF hWd)
  · have h1' : (1048576 : Int) < (n : Int) := by omega
    go_enter Tryz.func3, Tryz.ntmps3
    go_wp2_with fail
    go_ret
    exact ⟨rfl, Below.refl _ _⟩

end Go.Proofs.YtodgblbaclionaaGreatDoor

