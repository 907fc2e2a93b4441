import Derived.Test.YtdpbhbpcpnlbkaaaCaK
import Derived.Test.YtdpbhbpcpnlbkaaaApn
set_option maxHeartbeats 2000000
namespace Go.Proofs.Ytdpbhbpcpnlbkaa
open Go.RowKit Go.Maps
set_option linter.unusedVariables false
set_option maxRecDepth 100000
def lvk (kb : Nat → Nat) (lv : Nat → Bool) (k : Nat) : List (Option Nat) := ((List.range k).filter lv).map fun t => some (kb t)

theorem lvk_yes {kb : Nat → Nat} {lv : Nat → Bool} {k : Nat} (h : lv k = true) : lvk kb lv (k + 1) = lvk kb lv k ++ [some (kb k)] := by
 simp [lvk, List.range_succ, List.filter_append, h]

theorem lvk_no {kb : Nat → Nat} {lv : Nat → Bool} {k : Nat} (h : lv k = false) : lvk kb lv (k + 1) = lvk kb lv k := by
 simp [lvk, List.range_succ, List.filter_append, h]

theorem lvk_len (kb : Nat → Nat) (lv : Nat → Bool) (k : Nat) : (lvk kb lv k).length ≤ k := by
 simp only [lvk, List.length_map]
 exact Nat.le_trans (List.length_filter_le _ _) (by simp)

theorem Liv.below {w v : World} {base : Nat} {x : Value} {ts : List (Option Nat)} (h : Liv w base x ts) (k : Below w.heap.size w v) : Liv v base x ts := own_tn h (Tn.below (fun _ => False) k) (fun _ _ e => e)

theorem live_key (gb T c : Nat) (kb : Nat → Nat) (lv : Nat → Bool) (w : World) (hT : T ≤ 1000) (hg : gb < w.heap.size) (row : ∀ t, t < T → w.cell? ⟨gb, t, none⟩ = some (.pointer (some ⟨kb t, 0, none⟩)))
 (kL : ∀ t, t < T → ∀ v, Below w.heap.size w v → Calls Try.prog 59 #[.pointer (some ⟨kb t, 0, none⟩)] v fun r v' => r = .returned (.bool (lv t)) ∧ Qt v v') :
 Calls Try.prog 30 #[.slice (some ⟨gb, 0, none⟩) T c] w fun e w' => ∃ v, e = .returned v ∧ Liv w' w.heap.size v (lvk kb lv T) ∧ Below w.heap.size w w' := by
 obtain ⟨i0, E⟩ := elT
 have HE := hidQ E
 have HR := hidQ row; have HL := hidQ kL
 clear E row kL
 go_enter Try.func30, Try.ntmps30
 go_wp2_with fail
 go_loopw [3, 8] (fun v i wr => ∃ k : Nat, k ≤ T ∧ i = .int .i64 k ∧ Liv wr w.heap.size v (lvk kb lv k) ∧ Below w.heap.size w wr) (fun _ i _ => T - (intOf i).toNat)
 case atStart => exact ⟨0, by omega, rfl, World.ownsRow_nil _ _ _ _, Below.refl _ _⟩
 case round =>
  obtain ⟨k, hk, rfl, hv, hb⟩ := hrel
  obtain ⟨ra, rc, rfl⟩ := own_any hv
  have HV := hidQ hv
  have HB := hidQ hb
  by_cases hlt : k < T
  · have r0 := (hb.cell (p := ⟨gb, k, none⟩) hg).trans (HR.out k hlt)
    have kc := HL.out k hlt wr hb
    have f1 : IntKind.i64.wrap ((k : Int) + 1) = (k : Int) + 1 := by simp only [IntKind.wrap_i64]; omega
    have ll := lvk_len kb lv k
    have yes := fun h => lvk_yes (kb := kb) (lv := lv) (k := k) h
    have no := fun h => lvk_no (kb := kb) (lv := lv) (k := k) h
    have HY := hidQ yes; have HN := hidQ no
    clear hv hb yes no
    obtain ⟨b, hbb⟩ : ∃ b, lv k = b := ⟨_, rfl⟩
    have HBB := hidQ hbb
    rw [hbb] at kc
    clear hbb
    go_wp2_with fail
    refine kc.mono ?_
    rintro e u ⟨rfl, hq⟩
    have hu : Below w.heap.size w u := HB.out.trans ((hq.below _).mono HB.out.size)
    have lu := Liv.below HV.out (hq.below _)
    have HLU := hidQ lu
    clear lu
    cases b with
    | true =>
      have b2 := (Below.refl u.heap.size u).alloc (Nat.le_refl _) (.cells #[.iface 66 (.pointer (some ⟨kb k, 0, none⟩))] 120)
      have l2 : (u.alloc (.cells #[.iface 66 (.pointer (some ⟨kb k, 0, none⟩))] 120)).ownsRow w.heap.size 120 1 (.slice ra (lvk kb lv k).length rc) (lvk kb lv k).length ((lvk kb lv k).map encT) := Liv.below HLU.out b2
      have HL2 := hidQ l2; have HB2 := hidQ b2
      clear l2 b2
      go_wp2_with (at_builtin; refine ap_list HE.out rfl _ _ rfl _ w.heap.size (.slice ra (lvk kb lv k).length rc) (lvk kb lv k).length ((lvk kb lv k).map encT) rfl HL2.out u.heap.size 1 rfl (.iface 66 (.pointer (some ⟨kb k, 0, none⟩))) ?c1 ?c2 ?c3 ?c4 ?_)
      case c1 => simp [go_sem]
      case c2 => rfl
      case c3 => omega
      case c4 => exact Nat.le_trans hu.size HB2.out.size
      intro g cap w1 own1 t1 at1 lt1
      go_wp2_with fail
      go_roundw
      case rel =>
       have bu := hu.trans (HB2.out.mono hu.size)
       refine ⟨k + 1, by omega, by simp, ?_, bu.trans (t1.under _ bu.size (fun j e => (own_lt HL2.out e).2))⟩
       rw [HY.out HBB.out]
       unfold Liv
       rw [List.length_append, List.map_append]
       exact own1
      case measure => simp [intOf]; omega
    | false =>
      go_wp2_with fail
      go_roundw
      case rel => exact ⟨k + 1, by omega, by simp, by rw [HN.out HBB.out]; exact HLU.out, hu⟩
      case measure => simp [intOf]; omega
  · have hkn : k = T := by omega
    subst hkn
    go_wp2_with fail
    go_ret
    exact ⟨_, rfl, HV.out, HB.out⟩

end Go.Proofs.Ytdpbhbpcpnlbkaa
