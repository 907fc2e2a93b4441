/-
  Appending to a list of bytes of one's own: another list, a string.
-/
import Derived.Test.YtehplfmnipadmacDoorSd1
import Derived.Laws.AppendOwnNone
import Derived.Lib.AppendStr
namespace Go.Proofs.YtehplfmnipadmacDoor
open Go.RowKit
set_option linter.unusedVariables false

theorem grown_refl (w : World) (row : Option Nat) : w.grownBy w row := ⟨rfl, rfl, rfl, Nat.le_refl _, fun _ _ _ => rfl⟩

theorem append_src {ops : Array Oper} {rest : List Oper} {o : Oper} {a : Act} {Q : Exit → Act → World → Prop} (hgd : o.guard = none) (s x : Operand)
    (ho : o.op = .call { callee := .builtin .append, args := #[s, x], argTypes := #[22, 22] }) (w : World) (base : Nat)
    (v : Value) (n : Nat) (xs : List Nat) (hs : a.eval s = v) (hown : w.ownsRow base 5 1 v n (UB xs)) (ao : Option Addr) (m c : Nat) (ys : List Nat) (hx : a.eval x = .slice ao m c) (hl : ys.length = m)
    (hno : ao = none → c = 0) (hr : RdB w ao ys) (hn : n + m ≤ 1000000) (hbase : base ≤ w.heap.size)
    (h : ∀ ra rc w', w'.ownsRow base 5 1 (.slice ra (n + m) rc) (n + m) (UB (xs ++ ys)) → w.grownBy w' v.ownBlock → wpList Tryd.prog ops Q rest (a.put o.dst (.slice ra (n + m) rc)) w') : wpList Tryd.prog ops Q (o :: rest) a w := by
  obtain ⟨i0, hi, hz0, hz1, hz2⟩ := info_parts Tryd.infoY
  cases ao with
  | none =>
    obtain rfl := hno rfl
    have hm : m = 0 := by
      rcases Nat.eq_zero_or_pos m with e | e
      · exact e
      · obtain ⟨b, off, e2, _⟩ := hr.2 (by omega)
        cases e2
    subst hm
    have hys : ys = [] := List.length_eq_zero_iff.1 hl
    subst hys
    obtain ⟨ra, rc, rfl⟩ := ownY_shape hown
    refine wpList_append_own_none hgd s x 22 ho base 5 i0 1 Tryd.underlying22 hi _ n (UB xs) hs hown hx ?_
    exact h ra rc w (by rw [List.append_nil]; exact hown) (grown_refl _ _)
  | some ad =>
    refine wpList_append_own w hgd s x 22 ho base 5 i0 (.int .u8 0) 1 1 Tryd.underlying22 hi hz0 hz1 hz2 rfl (by decide) v n (UB xs) hs hown ad m c (UB ys) hx (by rw [UB_length, hl, Nat.mul_one]) ?_ (UB_one _) (by unfold maxLen; omega) (by omega) hbase ?_
    · intro j u hj
      have hjl : j < ys.length := by
        rcases Nat.lt_or_ge j ys.length with k | k
        · exact k
        · rw [List.getElem?_eq_none (by rw [UB_length]; exact k)] at hj; cases hj
      obtain ⟨b, off, e2, hc⟩ := hr.2 (by omega)
      cases e2
      rw [UB_get ys j hjl] at hj
      cases hj
      rw [Addr.add_lit]
      exact hc j hjl
    · intro v' w' hown' hg _
      obtain ⟨ra, rc, rfl⟩ := ownY_shape hown'
      exact h ra rc w' (by rw [UB_append]; exact hown') hg

theorem strCells_lett (s : ByteArray) : Lib.strCells s = UB (lett s) := by
  unfold Lib.strCells UB lett
  rw [List.map_map]; rfl

theorem append_str {ops : Array Oper} {rest : List Oper} {o : Oper} {a : Act} {Q : Exit → Act → World → Prop} (hgd : o.guard = none) (sl x : Operand)
    (ho : o.op = .call { callee := .builtin .append, args := #[sl, x], argTypes := #[22, 9] }) (w : World) (base : Nat)
    (v : Value) (n : Nat) (xs : List Nat) (hs : a.eval sl = v) (hown : w.ownsRow base 5 1 v n (UB xs)) (s : ByteArray) (hx : a.eval x = .string s) (hn : n + s.size ≤ 1000000) (hbase : base ≤ w.heap.size)
    (h : ∀ ra rc w', w'.ownsRow base 5 1 (.slice ra (n + s.size) rc) (n + s.size) (UB (xs ++ lett s)) → w.grownBy w' v.ownBlock → wpList Tryd.prog ops Q rest (a.put o.dst (.slice ra (n + s.size) rc)) w') : wpList Tryd.prog ops Q (o :: rest) a w := by
  obtain ⟨i0, hi, hz0, hz1, hz2⟩ := info_parts Tryd.infoY
  refine Lib.wpList_append_own_string w hgd sl x 22 9 ho base 5 i0 Tryd.underlying22 Tryd.underlying9 hi hz0 hz1 hz2 v n (UB xs) hs hown s hx (by unfold maxLen; omega) (by omega) hbase ?_
  intro v' w' hown' hg _
  obtain ⟨ra, rc, rfl⟩ := ownY_shape hown'
  exact h ra rc w' (by rw [UB_append, ← strCells_lett]; exact hown') hg
end Go.Proofs.YtehplfmnipadmacDoor
