import Derived.Test.YtdpbhbpcpnlbkaaaGG
namespace Go.Proofs.Ytdpbhbpcpnlbkaa
open Go.RowKit Go.Maps
def InB (w : World) (a : Option Addr) (len cap : Nat) (bs : List Nat) : Prop :=
 bs.length = len ∧ len ≤ cap ∧ (∀ x ∈ bs, x < 256) ∧ (0 < bs.length → ∃ b off, a = some ⟨b, off, none⟩ ∧ ∀ i, i < bs.length → w.cell? ⟨b, off + i, none⟩ = some (.int .u8 ((bs.getD i 0 : Nat) : Int)))

theorem InB.small {w : World} {a : Option Addr} {n c : Nat} {bs : List Nat} (h : InB w a n c bs) (j : Nat) : bs.getD j 0 < 256 := by
 rw [List.getD_eq_getElem?_getD]
 rcases Nat.lt_or_ge j bs.length with hj | hj
 · rw [List.getElem?_eq_getElem hj]; exact h.2.2.1 _ (List.getElem_mem hj)
 · rw [List.getElem?_eq_none hj]; simp

theorem InB.sl {w : World} {a : Option Addr} {n c : Nat} {bs : List Nat} (h : InB w a n c bs) : Sl w a n (fun j => .int .u8 ((bs.getD j 0 : Nat) : Int)) := by
 intro h0
 obtain ⟨h1, -, -, h4⟩ := h
 obtain ⟨b, off, e, hc⟩ := h4 (by omega)
 refine ⟨b, off, e, ?_, fun i hi => hc i (by omega)⟩
 have := hc 0 (by omega)
 unfold World.cell? at this
 rcases Nat.lt_or_ge b w.heap.size with hb | hb
 · exact hb
 · simp [Array.getElem?_eq_none hb] at this

end Go.Proofs.Ytdpbhbpcpnlbkaa
