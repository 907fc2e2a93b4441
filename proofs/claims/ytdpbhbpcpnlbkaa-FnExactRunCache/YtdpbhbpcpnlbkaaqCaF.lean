import Derived.Deep.RegionHeld3
import Derived.Test.YtdpbhbpcpnlbkaaqCa7
set_option maxHeartbeats 1000000
namespace Go.Proofs.Ytdpbhbpcpnlbkaa
open Go.RowKit Go.Maps
set_option linter.unusedVariables false
set_option maxRecDepth 100000
def RdI (w : World) (ao : Option Addr) (xs : List Int) : Prop := 0 < xs.length → ∃ b off, ao = some ⟨b, off, none⟩ ∧ ∀ i, i < xs.length → w.cell? ⟨b, off + i, none⟩ = some (.int .i64 (xs.getD i 0))

theorem place_late (g n c p : Nat) (ao : Option Addr) (s L : Nat) (w : World) (c0 : w.cell? ⟨g, 0, none⟩ = some (.slice ao n c)) (c2 : w.cell? ⟨g, 2, none⟩ = some (.int .i64 s)) (hs : n ≤ s) (hs2 : s < 1000000) (hL : 0 < L) (hp : (s - n) % L = p) :
 Calls Try.prog 57 #[.pointer (some ⟨g, 0, none⟩), .int .i64 L] w fun e w' => e = .returned (.int .i64 p) ∧ Qt w w' := by
 obtain ⟨m, hm⟩ : ∃ m : Nat, s - n = m := ⟨_, rfl⟩
 rw [hm] at hp
 have f0 : (n : Int) ≤ (s : Int) := by omega
 have f1 : IntKind.i64.wrap ((s : Int) - (n : Int)) = (m : Int) := by simp only [IntKind.wrap_i64]; omega
 have f2 : (m : Int) % (L : Int) = (p : Int) := by rw [← hp]; simp
 have f3 : ¬ (L : Int) = 0 := by omega
 clear hm hp hs2
 go_enter Try.func57, Try.ntmps57
 go_wp2_with fail
 go_quiet (fail)
 go_wp2_with fail
 go_quiet (fail)
 go_wp2_with fail
 go_ret
 exact ⟨by rw [← f2]; rfl, (Qt.drewN _ _).trans (Qt.drewN _ _)⟩

theorem place_pick (g n c b off p : Nat) (s L : Nat) (x : Int) (w : World) (c0 : w.cell? ⟨g, 0, none⟩ = some (.slice (some ⟨b, off, none⟩) n c)) (c2 : w.cell? ⟨g, 2, none⟩ = some (.int .i64 s)) (hs : s < n) (cx : w.cell? ⟨b, off + s, none⟩ = some (.int .i64 x)) (hL : 0 < L) (hL2 : L < 1000000) (hp : (x % (L : Int)) = (p : Int)) :
 Calls Try.prog 57 #[.pointer (some ⟨g, 0, none⟩), .int .i64 L] w fun e w' => e = .returned (.int .i64 p) ∧ Qt w w' := by
 obtain ⟨y, hy⟩ : ∃ y : Int, x.tmod (L : Int) = y := ⟨_, rfl⟩
 have f0 : decide ((n : Int) ≤ (s : Int)) = false := decide_eq_false (by omega)
 have f3 : ¬ (L : Int) = 0 := by omega
 by_cases h : y < 0
 · have f1 : IntKind.i64.wrap (y + (L : Int)) = (p : Int) := by
    have hpL := Int.emod_lt_of_pos x (b := (L : Int)) (by omega)
    have h0 := Int.emod_nonneg x (b := (L : Int)) (by omega)
    have : y + (L : Int) = x % (L : Int) := by
     rw [← hy] at h ⊢
     rw [Int.tmod_eq_emod] at h ⊢
     split at h
     · omega
     · simp [*]
    rw [this, hp]; simp only [IntKind.wrap_i64]; omega
   clear hp
   go_enter Try.func57, Try.ntmps57
   go_wp2_with fail
   go_quiet (fail)
   go_wp2_with fail
   go_quiet (fail)
   go_wp2_with fail
   go_ret
   exact ⟨rfl, Qt.drewN _ _⟩
 · have e : y = (p : Int) := by
    have hpL := Int.emod_lt_of_pos x (b := (L : Int)) (by omega)
    rw [← hp, ← hy] at *
    rw [Int.tmod_eq_emod] at h ⊢
    split at h
    · simp [*]
    · simp only [Int.natAbs_natCast] at h; omega
   rw [e] at hy
   have f4 : decide ((p : Int) < 0) = false := decide_eq_false (by omega)
   clear hp h e
   go_enter Try.func57, Try.ntmps57
   go_wp2_with fail
   go_quiet (fail)
   go_wp2_with fail
   go_quiet (fail)
   go_wp2_with fail
   go_ret
   exact ⟨rfl, Qt.drewN _ _⟩

end Go.Proofs.Ytdpbhbpcpnlbkaa
