import Derived.Deep.RegionHeld3
import Derived.Shelf.SlGeneric
import Derived.Shelf.SlicesE.Delete
import Derived.Shelf.SlicesE.Clone
import Derived.Ground.SlgnProg
import Derived.Lib.OwnBridge
import Derived.Test.YtdpbhbpcpnlbkaaaCa7
set_option maxHeartbeats 1000000
namespace Go.Proofs.Ytdpbhbpcpnlbkaa
open Go.RowKit Go.Maps
set_option linter.unusedVariables false
set_option maxRecDepth 100000
def RdI (w : World) (ao : Option Addr) (xs : List Int) : Prop := 0 < xs.length → ∃ b off, ao = some ⟨b, off, none⟩ ∧ ∀ i, i < xs.length → w.cell? ⟨b, off + i, none⟩ = some (.int .i64 (xs.getD i 0))

theorem place_late (g n c p : Nat) (ao : Option Addr) (s L : Nat) (w : World) (c0 : w.cell? ⟨g, 0, none⟩ = some (.slice ao n c)) (c2 : w.cell? ⟨g, 2, none⟩ = some (.int .i64 s)) (hs : n ≤ s) (hs2 : s < 1000000) (hL : 0 < L) (hp : (s - n) % L = p) :
 Calls Try.prog 57 #[.pointer (some ⟨g, 0, none⟩), .int .i64 L] w fun e w' => e = .returned (.int .i64 p) ∧ Qt w w' := by
 obtain ⟨m, hm⟩ : ∃ m : Nat, s - n = m := ⟨_, rfl⟩
 rw [hm] at hp
 have f0 : (n : Int) ≤ (s : Int) := by omega
 have f1 : IntKind.i64.wrap ((s : Int) - (n : Int)) = (m : Int) := by simp only [IntKind.wrap_i64]; omega
 have f2 : (m : Int) % (L : Int) = (p : Int) := by rw [← hp]; simp
 have f3 : ¬ (L : Int) = 0 := by omega
 clear hm hp hs2
 go_enter Try.func57, Try.ntmps57
 go_wp2_with fail
 go_quiet (fail)
 go_wp2_with fail
 go_quiet (fail)
 go_wp2_with fail
 go_ret
 exact ⟨by rw [← f2]; rfl, (Qt.drewN _ _).trans (Qt.drewN _ _)⟩

theorem place_pick (g n c b off p : Nat) (s L : Nat) (x : Int) (w : World) (c0 : w.cell? ⟨g, 0, none⟩ = some (.slice (some ⟨b, off, none⟩) n c)) (c2 : w.cell? ⟨g, 2, none⟩ = some (.int .i64 s)) (hs : s < n) (cx : w.cell? ⟨b, off + s, none⟩ = some (.int .i64 x)) (hL : 0 < L) (hL2 : L < 1000000) (hp : (x % (L : Int)) = (p : Int)) :
 Calls Try.prog 57 #[.pointer (some ⟨g, 0, none⟩), .int .i64 L] w fun e w' => e = .returned (.int .i64 p) ∧ Qt w w' := by
 obtain ⟨y, hy⟩ : ∃ y : Int, x.tmod (L : Int) = y := ⟨_, rfl⟩
 have f0 : decide ((n : Int) ≤ (s : Int)) = false := decide_eq_false (by omega)
 have f3 : ¬ (L : Int) = 0 := by omega
 by_cases h : y < 0
 · have f1 : IntKind.i64.wrap (y + (L : Int)) = (p : Int) := by
    have hpL := Int.emod_lt_of_pos x (b := (L : Int)) (by omega)
    have h0 := Int.emod_nonneg x (b := (L : Int)) (by omega)
    have : y + (L : Int) = x % (L : Int) := by
     rw [← hy] at h ⊢
     rw [Int.tmod_eq_emod] at h ⊢
     split at h
     · omega
     · simp [*]
    rw [this, hp]; simp only [IntKind.wrap_i64]; omega
   clear hp
   go_enter Try.func57, Try.ntmps57
   go_wp2_with fail
   go_quiet (fail)
   go_wp2_with fail
   go_quiet (fail)
   go_wp2_with fail
   go_ret
   exact ⟨rfl, Qt.drewN _ _⟩
 · have e : y = (p : Int) := by
    have hpL := Int.emod_lt_of_pos x (b := (L : Int)) (by omega)
    rw [← hp, ← hy] at *
    rw [Int.tmod_eq_emod] at h ⊢
    split at h
    · simp [*]
    · simp only [Int.natAbs_natCast] at h; omega
   rw [e] at hy
   have f4 : decide ((p : Int) < 0) = false := decide_eq_false (by omega)
   clear hp h e
   go_enter Try.func57, Try.ntmps57
   go_wp2_with fail
   go_quiet (fail)
   go_wp2_with fail
   go_quiet (fail)
   go_wp2_with fail
   go_ret
   exact ⟨rfl, Qt.drewN _ _⟩

end Go.Proofs.Ytdpbhbpcpnlbkaa
namespace Go.Proofs
open Go.Shelf Go.RowKit Go.Lib
shelf_lay_g SlLaysE.n45 Slgn 45 at Try 58 as Try.l58

shelf_lay_g SlLaysE0.n41 Slgn 41 at Try 56 as Try.l56

end Go.Proofs
namespace Go.Proofs.Ytdpbhbpcpnlbkaa
open Go.RowKit Go.Maps
set_option linter.unusedVariables false
set_option maxRecDepth 100000
def encT : Option Nat → Value
 | none => .nilIface
 | some g => .iface 66 (.pointer (some ⟨g, 0, none⟩))

theorem encT_one : ∀ o, (encT o).oneCell' = true := fun o => by cases o <;> rfl

theorem zeroT (w : World) : (zeroValue 120).run Try.prog w = .ok (encT none) w := by kernel_rfl

theorem infoT : (Try.prog.info? 120).map (fun i => (i.zero, i.size, i.bytes)) = some (some .nilIface, 1, 16) := by kernel_rfl

def Liv (w : World) (base : Nat) (v : Value) (ts : List (Option Nat)) : Prop := w.ownsRow base 120 1 v ts.length (ts.map encT)

theorem clone_some (b off n c : Nat) (ts : List (Option Nat)) (w : World) (hn : ts.length = n) (hm : n ≤ 100000) (hc : ∀ j u, (ts.map encT)[j]? = some u → w.cell? ⟨b, off + j, none⟩ = some u) :
 Calls Try.prog 56 #[.slice (some ⟨b, off, none⟩) n c] w fun e w' => ∃ v', e = .returned v' ∧ Liv w' w.heap.size v' ts ∧ Below w.heap.size w w' := by
 obtain ⟨i0, hi, hz0, hz1, hz2⟩ := info_parts infoT
 have h := AnyE.slices_Clone Try.l56 i0 .nilIface 1 16 hi hz0 hz1 hz2 rfl (by decide) (by intro w; kernel_rfl) b off n c (ts.map encT) w (by simp [hn]) (by unfold maxLen; omega) (by omega) hc (fun u hu => by obtain ⟨o, _, rfl⟩ := List.mem_map.1 hu; exact encT_one o)
 refine Calls.mono h ?_
 rintro e w' ⟨v', rfl, ho, -, hb⟩
 exact ⟨v', rfl, by unfold Liv; rw [hn]; exact ho, hb⟩

theorem delete_some (base g cap i : Nat) (ts : List (Option Nat)) (w : World) (h : Liv w base (.slice (some ⟨g, 0, none⟩) ts.length cap) ts) (hi : i < ts.length) :
 Calls Try.prog 58 #[.slice (some ⟨g, 0, none⟩) ts.length cap, .int .i64 i, .int .i64 ((i : Int) + 1)] w fun e w' => e = .returned (.slice (some ⟨g, 0, none⟩) (ts.length - 1) cap) ∧ Liv w' base (.slice (some ⟨g, 0, none⟩) (ts.length - 1) cap) (ts.eraseIdx i) ∧ Tn (fun k => k = g) w w' := by
 obtain ⟨i0, hi0, hz0, hz1, hz2⟩ := info_parts infoT
 obtain ⟨g', cap', e0, hb, hlt, hnc, hcm, -, hH⟩ := Go.Lib.holds_of_ownsRow (α := Option Nat) (enc := encT) h (by simp)
 simp at e0
 obtain ⟨rfl, rfl⟩ := e0
 have hd := AnyE.slices_Delete Try.l58 encT encT_one none zeroT i0 hi0 hz1 g 0 cap i (i + 1) ts.toArray w hH (by simpa using hnc) (by unfold maxLen at hcm; exact hcm) (by omega) (by simp; omega)
 simp only [List.size_toArray] at hd
 refine Calls.mono hd ?_
 rintro e w' ⟨rfl, q, rfl⟩
 have e1 : ts.length - (i + 1 - i) = ts.length - 1 := by omega
 rw [e1]
 have e2 : i + 1 - i = 1 := by omega
 rw [e2]
 refine ⟨rfl, ?_, ?_⟩
 · have := Go.Lib.ownsRow_putRow (q := q) (k := ts.length - 1) (ys := ts.take i ++ ts.drop (i + 1) ++ List.replicate 1 none) h (by simp; omega) (by omega)
   unfold Liv
   have e3 : (ts.take i ++ ts.drop (i + 1) ++ List.replicate 1 (none : Option Nat)).take (ts.length - 1) = ts.eraseIdx i := by
    rw [List.eraseIdx_eq_take_drop_succ, List.take_append_of_le_length (by simp; omega), List.take_of_length_le (by simp; omega)]
   rw [e3] at this
   rw [List.length_eraseIdx_of_lt hi]
   simpa using this
 · refine ⟨rfl, rfl, rfl, by simp [Sort.putRow, Sort.mapBlock, Sort.ahead], fun k hk hn => ?_⟩
   simp [Sort.putRow, Sort.mapBlock, Sort.ahead, Array.getElem?_modify, Ne.symm hn]

end Go.Proofs.Ytdpbhbpcpnlbkaa
