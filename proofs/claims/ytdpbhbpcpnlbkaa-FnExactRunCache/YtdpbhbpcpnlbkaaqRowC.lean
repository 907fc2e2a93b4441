import Derived.Test.YtdpbhbpcpnlbkaaqGG
import Derived.Test.YtdpbhbpcpnlbkaaqSh2
namespace Go.Proofs.Ytdpbhbpcpnlbkaa
open Go.RowKit Go.Maps Go.ChangeShapes Go.WideShapes Go.ChangeAt
set_option linter.unusedVariables false
set_option maxRecDepth 100000
theorem Try.cellsLKs : Try.prog.cellsOf 93 = 1 := by kernel_rfl

theorem cell_lt {w : World} {b off : Nat} {x : Value} (h : w.cell? ⟨b, off, none⟩ = some x) : b < w.heap.size := by
 rcases Nat.lt_or_ge b w.heap.size with h1 | h1
 · exact h1
 · unfold World.cell? at h
   simp [Array.getElem?_eq_none h1] at h

theorem open_keys {H : Type} {enc : TypeId × Value → H} {w : World} {base : Nat} {sp : Nat → Bool} {held : Bool} {fuel : Nat} {cs : List Value} {x : DataW H × List MemPlace} (h : DataW.trod enc Try.prog w base sp held fuel 93 cs = some x) :
 ∃ (ao : Option Addr) (n c : Nat) (f : Nat → Int × Int), cs = [.slice ao n c] ∧ n ≤ maxLen ∧ Sl w ao (n * 2) (kf f) := by
 rcases DataW.trod_slice Try.underlying93 h with ⟨rfl, -⟩ | ⟨a, len, cap, elems, rest, m, -, rfl, -, hb, hl, hm, hlen, hel, -, -⟩
 · exact ⟨none, 0, 0, fun _ => (0, 0), rfl, Nat.zero_le _, fun h => by omega⟩
 · rw [Try.cellsLKey] at hel
   have each : ∀ i, ∃ z : Int × Int, i < len → w.cell? (a.add (i * 2)) = some (.int .i64 z.1) ∧ w.cell? (a.add (i * 2 + 1)) = some (.int .i64 z.2) := by
    intro i
    by_cases hi : i < len
    · have h1 := hel i hi
      rw [List.getElem?_eq_getElem (by omega), Option.bind_eq_some_iff] at h1
      obtain ⟨cs', hcs, ht⟩ := h1
      obtain ⟨xs, q, rfl, hx, hl', hxl, hall⟩ := DataW.trod_struct Try.underlying126 ht
      rw [Try.cellsLKey] at hl'
      have f0 : DataW.trod enc Try.prog w base sp held q 3 ((cs'.drop 0).take (Try.prog.cellsOf 3)) = xs[0]? := hall 0 _ rfl
      have f1 : DataW.trod enc Try.prog w base sp held q 3 ((cs'.drop 1).take (Try.prog.cellsOf 3)) = xs[1]? := hall 1 _ rfl
      rw [Try.cellsI64] at f0 f1
      match xs, hxl, f0, f1 with
      | [x0, x1], _, f0, f1 =>
        obtain ⟨z0, e0, y0, k0⟩ := DataW.trod_int Try.underlying3 f0
        obtain ⟨z1, e1, y1, k1⟩ := DataW.trod_int Try.underlying3 f1
        match cs', hl', e0, e1, hcs with
        | [l0, l1], _, e0, e1, hcs =>
          simp at e0 e1
          have c0 := (World.cells?_some hcs).2.2 0 (by omega)
          have c1 := (World.cells?_some hcs).2.2 1 (by omega)
          refine ⟨(z0, z1), fun _ => ⟨?_, ?_⟩⟩
          · have : (a.add (i * 2)).add 0 = a.add (i * 2) := by simp [Addr.add]
            rw [this] at c0; rw [c0]; simp [e0]
          · have : (a.add (i * 2)).add 1 = a.add (i * 2 + 1) := by by_cases h : i * 2 = 0 <;> simp [Addr.add, h] <;> omega
            rw [this] at c1; rw [c1]; simp [e1]
    · exact ⟨(0, 0), fun h => absurd h hi⟩
   obtain ⟨f, hf⟩ := Classical.axiomOfChoice each
   refine ⟨some a, len, cap, f, rfl, Nat.le_trans hl hm, fun h0 => ?_⟩
   obtain ⟨b, off, spot⟩ := a
   have hs : spot = none := by
    have := (hf 0 (by omega)).1
    simpa [Addr.add] using World.cell?_spot this
   subst hs
   refine ⟨b, off, rfl, ?_, fun i hi => ?_⟩
   · have := (hf 0 (by omega)).1
     rw [Addr.add_lit] at this
     exact cell_lt this
   · obtain ⟨j, hj⟩ : ∃ j, i / 2 = j := ⟨_, rfl⟩
     have h2 := hf j (by omega)
     rw [Addr.add_lit, Addr.add_lit] at h2
     rcases (show i = j * 2 ∨ i = j * 2 + 1 by omega) with e | e
     · rw [e, kf0]; exact h2.1
     · rw [e, kf1]; exact h2.2

theorem open_tasks {H : Type} {enc : TypeId × Value → H} {w : World} {base : Nat} {sp : Nat → Bool} {held : Bool} {fuel : Nat} {cs : List Value} {x : DataW H × List MemPlace} (h : DataW.trod enc Try.prog w base sp held fuel 42 cs = some x) :
 ∃ (ao : Option Addr) (n c : Nat) (len ac : Nat → Nat) (ax : Nat → Option Addr) (f : Nat → Nat → Int × Int), cs = [.slice ao n c] ∧ n ≤ maxLen ∧ (∀ t, t < n → len t ≤ maxLen) ∧ Sl w ao n (fun t => .slice (ax t) (len t) (ac t)) ∧ ∀ t, t < n → Sl w (ax t) (len t * 2) (kf (f t)) := by
 rcases DataW.trod_slice Try.underlying42 h with ⟨rfl, -⟩ | ⟨a, len, cap, elems, rest, m, -, rfl, -, hb, hl, hm, hlen, hel, -, -⟩
 · exact ⟨none, 0, 0, fun _ => 0, fun _ => 0, fun _ => none, fun _ _ => (0, 0), rfl, Nat.zero_le _, fun t ht => by omega, fun h => by omega, fun t ht => by omega⟩
 · rw [Try.cellsLKs] at hel
   have each : ∀ i, ∃ z : (Option Addr × Nat × Nat) × (Nat → Int × Int), i < len → w.cell? (a.add i) = some (.slice z.1.1 z.1.2.1 z.1.2.2) ∧ z.1.2.1 ≤ maxLen ∧ Sl w z.1.1 (z.1.2.1 * 2) (kf z.2) := by
    intro i
    by_cases hi : i < len
    · have h1 := hel i hi
      rw [List.getElem?_eq_getElem (by omega), Nat.mul_one, Option.bind_eq_some_iff] at h1
      obtain ⟨cs', hcs, ht⟩ := h1
      obtain ⟨ao, n, c, f, rfl, hn, hs⟩ := open_keys ht
      have c0 := (World.cells?_some hcs).2.2 0 (by omega)
      have : (a.add i).add 0 = a.add i := by simp [Addr.add]
      rw [this] at c0
      exact ⟨((ao, n, c), f), fun _ => ⟨by rw [c0]; rfl, hn, hs⟩⟩
    · exact ⟨((none, 0, 0), fun _ => (0, 0)), fun h => absurd h hi⟩
   obtain ⟨g, hg⟩ := Classical.axiomOfChoice each
   refine ⟨some a, len, cap, fun t => (g t).1.2.1, fun t => (g t).1.2.2, fun t => (g t).1.1, fun t => (g t).2, rfl, Nat.le_trans hl hm, fun t ht => (hg t ht).2.1, fun h0 => ?_, fun t ht => (hg t ht).2.2⟩
   obtain ⟨b, off, spot⟩ := a
   have hs : spot = none := by
    have := (hg 0 h0).1
    simpa [Addr.add] using World.cell?_spot this
   subst hs
   refine ⟨b, off, rfl, ?_, fun i hi => ?_⟩
   · have := (hg 0 h0).1
     rw [Addr.add_lit] at this
     exact cell_lt this
   · have := (hg i hi).1
     rw [Addr.add_lit] at this
     exact this

theorem open_nums {H : Type} {enc : TypeId × Value → H} {w : World} {base : Nat} {sp : Nat → Bool} {held : Bool} {fuel : Nat} {cs : List Value} {x : DataW H × List MemPlace} (h : DataW.trod enc Try.prog w base sp held fuel 26 cs = some x) :
 ∃ (ao : Option Addr) (n c : Nat) (f : Nat → Int), cs = [.slice ao n c] ∧ n ≤ maxLen ∧ Sl w ao n (fun i => .int .i64 (f i)) := by
 rcases open_ints Try.underlying26 Try.underlying3 (by kernel_rfl) h with ⟨rfl, -⟩ | ⟨a, len, cap, zs, rfl, hb, hl, hm, hz, -, hc, hw⟩
 · exact ⟨none, 0, 0, fun _ => 0, rfl, Nat.zero_le _, fun h => by omega⟩
 · have hzl : len ≤ zs.length := by rw [hz]; split <;> omega
   refine ⟨some a, len, cap, fun i => zs.getD i 0, rfl, Nat.le_trans hl hm, fun h0 => ?_⟩
   obtain ⟨b, off, spot⟩ := a
   have hs : spot = none := by
    have := hc 0 (by omega)
    simpa [Addr.add] using World.cell?_spot this
   subst hs
   refine ⟨b, off, rfl, ?_, fun i hi => ?_⟩
   · have := hc 0 (by omega)
     rw [Addr.add_lit] at this
     exact cell_lt this
   · have := hc i (by omega)
     rw [Addr.add_lit] at this
     exact this

end Go.Proofs.Ytdpbhbpcpnlbkaa
