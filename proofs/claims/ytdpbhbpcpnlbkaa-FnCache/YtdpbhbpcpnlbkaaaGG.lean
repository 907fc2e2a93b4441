import Derived.Test.YtdpbhbpcpnlbkaaaGE
namespace Go.Proofs.Ytdpbhbpcpnlbkaa
open Go.RowKit Go.Maps
set_option linter.unusedVariables false
set_option maxRecDepth 100000
def Sl (w : World) (ao : Option Addr) (n : Nat) (f : Nat → Value) : Prop := 0 < n → ∃ b off, ao = some ⟨b, off, none⟩ ∧ b < w.heap.size ∧ ∀ i, i < n → w.cell? ⟨b, off + i, none⟩ = some (f i)

theorem Sl.below {w v : World} {ao : Option Addr} {n : Nat} {f : Nat → Value} (h : Sl w ao n f) (b : Below w.heap.size w v) : Sl v ao n f := by
 intro h0
 obtain ⟨g, off, e, hl, hc⟩ := h h0
 exact ⟨g, off, e, Nat.lt_of_lt_of_le hl b.size, fun i hi => (b.cell (p := ⟨g, off + i, none⟩) hl).trans (hc i hi)⟩

theorem Sl.of {w : World} {g n : Nat} {t : TypeId} {f : Nat → Value} (h : Bf w g t n f) : Sl w (some ⟨g, 0, none⟩) n f := fun _ => ⟨g, 0, rfl, h.lt, fun i hi => by rw [Nat.zero_add]; exact h.cell i hi⟩

def kf (x : Nat → Int × Int) : Nat → Value := fun i => if i % 2 = 0 then .int .i64 (x (i / 2)).1 else .int .i64 (x (i / 2)).2

theorem kf0 (x : Nat → Int × Int) (k : Nat) : kf x (k * 2) = .int .i64 (x k).1 := by
 have e1 : k * 2 % 2 = 0 := by omega
 have e2 : k * 2 / 2 = k := by omega
 simp only [kf]; rw [if_pos e1, e2]

theorem kf1 (x : Nat → Int × Int) (k : Nat) : kf x (k * 2 + 1) = .int .i64 (x k).2 := by
 have e1 : ¬ (k * 2 + 1) % 2 = 0 := by omega
 have e2 : (k * 2 + 1) / 2 = k := by omega
 simp only [kf]; rw [if_neg e1, e2]

def TS (B g n : Nat) (len : Nat → Nat) (x : Nat → Nat → Int × Int) (kb : Nat → Nat) (k : Nat) (wr : World) : Prop :=
 Bf wr g 34 n (fun t => if t < k then .slice (some ⟨kb t, 0, none⟩) (len t) (len t) else .slice none 0 0) ∧ (∀ t, t < k → Bf wr (kb t) 36 (len t * 2) (kf (x t)) ∧ B ≤ kb t) ∧ ∀ t t', t < k → t' < k → kb t = kb t' → t = t'

theorem TS.below {B g n k : Nat} {len : Nat → Nat} {x : Nat → Nat → Int × Int} {kb : Nat → Nat} {wr wv : World} (h : TS B g n len x kb k wr) (b : Below wr.heap.size wr wv) : TS B g n len x kb k wv := ⟨h.1.below b, fun t ht => ⟨(h.2.1 t ht).1.below b, (h.2.1 t ht).2⟩, h.2.2⟩

theorem TS.step {B g n k : Nat} {len : Nat → Nat} {x : Nat → Nat → Int × Int} {kb : Nat → Nat} {wr v : World} (h : TS B g n len x kb k wr) (b : Below wr.heap.size wr v) (nb : Nat) (hn : wr.heap.size ≤ nb) (hB : B ≤ nb) (hb : Bf v nb 36 (len k * 2) (kf (x k))) :
 TS B g n len x (fun t => if t = k then nb else kb t) (k + 1) (v.setCell ⟨g, k, none⟩ (.slice (some ⟨nb, 0, none⟩) (len k) (len k))) := by
 obtain ⟨hG, hS, hi⟩ := h
 have G' := hG.below b
 refine ⟨(G'.set k _).congr ?_, fun t ht => ?_, fun t t' ht ht' => ?_⟩
 · intro t ht
   by_cases e : t = k
   · subst e; rw [upd_at]; simp
   · rw [upd_ne _ _ e]
     by_cases e2 : t < k
     · rw [if_pos e2, if_pos (by omega)]; simp only [if_neg e]
     · rw [if_neg e2, if_neg (by omega)]
 · by_cases e : t = k
   · subst e
     simp only [if_true]
     exact ⟨hb.far _ _ _ (hb.ne G' (by decide)), hB⟩
   · simp only [if_neg e]
     have a := (hS t (by omega)).1.below b
     exact ⟨a.far _ _ _ (a.ne G' (by decide)), (hS t (by omega)).2⟩
 · by_cases e1 : t = k <;> by_cases e2 : t' = k
   · intro _; rw [e1, e2]
   · simp only [if_pos e1, if_neg e2]; intro e; have := (hS t' (by omega)).1.lt; omega
   · simp only [if_neg e1, if_pos e2]; intro e; have := (hS t (by omega)).1.lt; omega
   · simp only [if_neg e1, if_neg e2]; exact hi t t' (by omega) (by omega)

end Go.Proofs.Ytdpbhbpcpnlbkaa
