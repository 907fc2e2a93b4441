import Derived.Test.YtdpbhbpcpnlbkaaqGG
namespace Go.Proofs.Ytdpbhbpcpnlbkaa
open Go.RowKit Go.Maps
set_option linter.unusedVariables false
set_option maxRecDepth 100000
theorem markIntS_any (g n c m k0 : Nat) (f : Nat → Value) (w : World) (hn : n ≤ m) (hk0 : k0 + n < 4611686018427387904) (hB : Bf w g 3 m f) :
 Calls Try.prog 18 #[.slice (some ⟨g, 0, none⟩) n c, .int .i64 (k0 : Int)] w fun e w' => e = .returned (.int .i64 ((k0 + n : Nat) : Int)) ∧ Bf w' g 3 m (fun i => if i < n then .int .i64 ((k0 + i : Nat) : Int) else f i) ∧ Tn (fun b => b = g) w w' := by
 have HB := hidQ hB
 clear hB
 go_enter Try.func18, Try.ntmps18
 go_wp2_with fail
 go_loopw [1, 5] (fun kk i wr => ∃ k : Nat, k ≤ n ∧ i = .int .i64 k ∧ kk = .int .i64 ((k0 + k : Nat) : Int) ∧ Bf wr g 3 m (fun i => if i < k then .int .i64 ((k0 + i : Nat) : Int) else f i) ∧ Tn (fun b => b = g) w wr) (fun _ i _ => n - (intOf i).toNat)
 case atStart => exact ⟨0, by omega, rfl, rfl, HB.out.congr (fun i hi => by simp), Tn.refl _ _⟩
 case round =>
  obtain ⟨k, hk, rfl, rfl, hR, ht⟩ := hrel
  have HR := hidQ hR; have HT := hidQ ht
  by_cases hlt : k < n
  · have d0 := hR.cell k (by omega)
    have df := hR.frozen k
    have f1 : IntKind.i64.wrap ((k : Int) + 1) = (k : Int) + 1 := by simp only [IntKind.wrap_i64]; omega
    obtain ⟨q, hq⟩ : ∃ q, k0 + k = q := ⟨_, rfl⟩
    have f2 : IntKind.i64.wrap ((q : Int) + 1) = (q : Int) + 1 := by simp only [IntKind.wrap_i64]; omega
    rw [hq]
    have HQ := hidQ hq
    clear hR ht hq
    go_wp2_with fail
    go_roundw
    case rel =>
     have := HQ.out
     refine ⟨k + 1, by omega, by simp, by simp; omega, (HR.out.set k _).congr ?_, HT.out.trans (Tn.set _ _ _ _ rfl)⟩
     intro i hi
     by_cases e : i = k
     · subst e; rw [upd_at, if_pos (by omega), HQ.out]
     · rw [upd_ne _ _ e]
       by_cases e2 : i < k
       · rw [if_pos e2, if_pos (by omega)]
       · rw [if_neg e2, if_neg (by omega)]
    case measure => simp [intOf]; omega
  · have hkn : k = n := by omega
    subst hkn
    clear hR ht
    go_wp2_with fail
    go_ret
    exact ⟨rfl, HR.out, HT.out⟩

theorem markIntS_nil (ao : Option Addr) (c k0 : Nat) (w : World) :
 Calls Try.prog 18 #[.slice ao 0 c, .int .i64 (k0 : Int)] w fun e w' => e = .returned (.int .i64 (k0 : Int)) ∧ w' = w := by
 go_enter Try.func18, Try.ntmps18
 go_wp2_with fail
 go_loopw [1, 5] (fun kk i wr => i = .int .i64 0 ∧ kk = .int .i64 (k0 : Int) ∧ wr = w) (fun _ _ _ => 0)
 case atStart => exact ⟨rfl, rfl, rfl⟩
 case round =>
  obtain ⟨rfl, rfl, rfl⟩ := hrel
  go_wp2_with fail
  go_ret
  exact ⟨rfl, rfl⟩

theorem heldIntS_any (ao : Option Addr) (n c k0 : Nat) (w : World) (hk0 : k0 + n < 4611686018427387904) (hr : Sl w ao n (fun i => .int .i64 ((k0 + i : Nat) : Int))) :
 Calls Try.prog 48 #[.slice ao n c, .int .i64 (k0 : Int)] w fun e w' => e = .returned (.int .i64 ((k0 + n : Nat) : Int)) ∧ w' = w := by
 have HR := hidQ hr
 clear hr
 go_enter Try.func48, Try.ntmps48
 go_wp2_with fail
 go_loopw [1, 5] (fun kk i wr => ∃ k : Nat, k ≤ n ∧ i = .int .i64 k ∧ kk = .int .i64 ((k0 + k : Nat) : Int) ∧ wr = w) (fun _ i _ => n - (intOf i).toNat)
 case atStart => exact ⟨0, by omega, rfl, rfl, rfl⟩
 case round =>
  obtain ⟨k, hk, rfl, rfl, rfl⟩ := hrel
  by_cases hlt : k < n
  · obtain ⟨g, off, rfl, hl, hc⟩ := HR.out (by omega)
    have c0 : wr.cell? ⟨g, off + k, none⟩ = some (.int .i64 ((k0 + k : Nat) : Int)) := hc k hlt
    have f1 : IntKind.i64.wrap ((k : Int) + 1) = (k : Int) + 1 := by simp only [IntKind.wrap_i64]; omega
    obtain ⟨q, hq⟩ : ∃ q, k0 + k = q := ⟨_, rfl⟩
    have f2 : IntKind.i64.wrap ((q : Int) + 1) = (q : Int) + 1 := by simp only [IntKind.wrap_i64]; omega
    rw [hq] at c0 ⊢
    have HQ := hidQ hq
    clear hc hq
    go_wp2_with fail
    go_roundw
    case rel =>
     have := HQ.out
     exact ⟨k + 1, by omega, by simp, by simp; omega, by first | rfl | trivial⟩
    case measure => simp [intOf]; omega
  · have hkn : k = n := by omega
    subst hkn
    go_wp2_with fail
    go_ret
    exact ⟨rfl, rfl⟩

theorem markKeyS_any (g n c m k0 : Nat) (f : Nat → Value) (w : World) (hn : n * 2 ≤ m) (hk0 : k0 + n * 2 < 4611686018427387904) (hB : Bf w g 36 m f) :
 Calls Try.prog 45 #[.slice (some ⟨g, 0, none⟩) n c, .int .i64 (k0 : Int)] w fun e w' => e = .returned (.int .i64 ((k0 + n * 2 : Nat) : Int)) ∧ Tn (fun b => b = g) w w' ∧ ∃ f', Bf w' g 36 m f' := by
 have HB := hidQ hB
 clear hB
 go_enter Try.func45, Try.ntmps45
 go_wp2_with fail
 go_loopw [1, 5] (fun kk i wr => ∃ (k : Nat) (f' : Nat → Value), k ≤ n ∧ i = .int .i64 k ∧ kk = .int .i64 ((k0 + k * 2 : Nat) : Int) ∧ Bf wr g 36 m f' ∧ Tn (fun b => b = g) w wr) (fun _ i _ => n - (intOf i).toNat)
 case atStart => exact ⟨0, f, by omega, rfl, by simp, HB.out, Tn.refl _ _⟩
 case round =>
  obtain ⟨k, f', hk, rfl, rfl, hR, ht⟩ := hrel
  have HR := hidQ hR; have HT := hidQ ht
  by_cases hlt : k < n
  · have d0 := hR.cell (k * 2) (by omega)
    have d1 := hR.cell (k * 2 + 1) (by omega)
    have df := hR.frozen
    have f1 : IntKind.i64.wrap ((k : Int) + 1) = (k : Int) + 1 := by simp only [IntKind.wrap_i64]; omega
    obtain ⟨q, hq⟩ : ∃ q, k0 + k * 2 = q := ⟨_, rfl⟩
    obtain ⟨q1, hq1⟩ : ∃ q1, q + 1 = q1 := ⟨_, rfl⟩
    have f2 : IntKind.i64.wrap ((q : Int) + 1) = (q1 : Int) := by simp only [IntKind.wrap_i64]; omega
    have f3 : IntKind.i64.wrap ((q1 : Int) + 1) = (q1 : Int) + 1 := by simp only [IntKind.wrap_i64]; omega
    rw [hq]
    have HQ := hidQ hq; have HQ1 := hidQ hq1
    clear hR ht hq hq1
    go_wp2_with fail
    go_roundw
    case rel =>
     have := HQ.out; have := HQ1.out
     exact ⟨k + 1, _, by omega, by simp, by simp; omega, (HR.out.set (k * 2) _).set (k * 2 + 1) _, (HT.out.trans (Tn.set _ _ _ _ rfl)).trans (Tn.set _ _ _ _ rfl)⟩
    case measure => simp [intOf]; omega
  · have hkn : k = n := by omega
    subst hkn
    clear hR ht
    go_wp2_with fail
    go_ret
    exact ⟨rfl, HT.out, _, HR.out⟩

def mvf (k0 : Nat) : Nat → Value := fun i => if i % 5 = 4 then .bool (decide ((k0 + i) % 3 = 0)) else .int .i64 ((k0 + i : Nat) : Int)

end Go.Proofs.Ytdpbhbpcpnlbkaa
