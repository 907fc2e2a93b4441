import Derived.Maps.AppendAt
import Derived.Test.YtdpbhbpcpnlbkaaaCaJ
namespace Go.Proofs.Ytdpbhbpcpnlbkaa
open Go.RowKit Go.Maps
set_option linter.unusedVariables false
set_option maxRecDepth 100000
theorem hidQ {p : Prop} (h : p) : Hid p := h

theorem own_form {w : World} {base n sz : Nat} {t : TypeId} {x : Value} {xs : List Value} (h : w.ownsRow base t sz x (n + 1) xs) : ∃ g cap, x = .slice (some ⟨g, 0, none⟩) (n + 1) cap ∧ g < w.heap.size ∧ base ≤ g := by
 rcases h.2 with ⟨_, h'⟩ | ⟨g, cap', cur, e, hg, hh, r⟩
 · omega
 · exact ⟨g, cap', e, (Array.getElem?_eq_some_iff.1 hh).1, hg⟩

theorem own_any {w : World} {base n sz : Nat} {t : TypeId} {x : Value} {xs : List Value} (h : w.ownsRow base t sz x n xs) : ∃ ra rc, x = .slice ra n rc := by
 rcases h.2 with ⟨e, h'⟩ | ⟨g, cap', cur, e, hg, hh, r⟩
 · subst h'; exact ⟨_, _, e⟩
 · exact ⟨_, _, e⟩

structure El1 (t e : TypeId) (i : TypeInfo) (z : Value) : Prop where
 ht : Try.prog.underlying t = some (.slice e)
 hi : Try.prog.info? e = some i
 hz : i.zero = some z
 hs : i.size = 1
 hb : i.bytes ≤ 100
 zs : z.cells.size = 1

theorem ap_list {t e : TypeId} {i : TypeInfo} {z : Value} (E : El1 t e i z) {ops : Array Oper} {rest : List Oper} {o : Oper} {a : Act} {Q : Exit → Act → World → Prop} (hgd : o.guard = none) (s x : Operand)
 (ho : o.op = .call { callee := .builtin .append, args := #[s, x], argTypes := #[t, t] }) (w : World) (base : Nat) (v : Value) (n : Nat) (xs : List Value) (hs : a.eval s = v) (hown : w.ownsRow base e 1 v n xs) (b c : Nat) (hx : a.eval x = .slice (some ⟨b, 0, none⟩) 1 c) (y : Value) (hy : w.cell? ⟨b, 0, none⟩ = some y) (one : y.oneCell' = true) (hn : n < 1000000) (hbase : base ≤ w.heap.size)
 (h : ∀ g cap w', w'.ownsRow base e 1 (.slice (some ⟨g, 0, none⟩) (n + 1) cap) (n + 1) (xs ++ [y]) → Tn (fun k => v.ownBlock = some k) w w' → (v.ownBlock = some g ∨ g = w.heap.size) → g < w'.heap.size → wpList Try.prog ops Q rest (a.put o.dst (.slice (some ⟨g, 0, none⟩) (n + 1) cap)) w') : wpList Try.prog ops Q (o :: rest) a w := by
 have hb := E.hb
 refine wpList_append_own_at w hgd s x t ho base e i z 1 _ E.ht E.hi E.hz E.hs rfl E.zs (by decide) v n xs hs hown ⟨b, 0, none⟩ 1 c [y] hx rfl ?_ (by simpa using one) (by unfold maxLen; omega) ?_ hbase ?_
 · intro j u hj
   match j, hj with
   | 0, hj => simp at hj; subst hj; rw [Addr.add_lit]; exact hy
 · exact Nat.le_trans (Nat.mul_le_mul (show n + 1 ≤ 1000000 by omega) hb) (by omega)
 · intro v' w' own gr _ hat
   obtain ⟨g, cap, rfl, hg, -⟩ := own_form own
   refine h g cap w' own (Tn.grown _ gr (fun k e => e)) ?_ hg
   rcases hat with e | e
   · exact .inl (by rw [← e]; rfl)
   · simp [Value.ownBlock] at e; exact .inr e

theorem ap_step {t e : TypeId} {i : TypeInfo} {z : Value} (E : El1 t e i z) {ops : Array Oper} {o : Oper} {a : Act} {K : Act → World → Prop} {Q : Exit → Act → World → Prop} {F : Prop} (hgd : o.guard = none) (s x : Operand)
 (ho : o.op = .call { callee := .builtin .append, args := #[s, x], argTypes := #[t, t] }) (w : World) (base : Nat) (v : Value) (n : Nat) (xs : List Value) (hs : a.eval s = v) (hown : w.ownsRow base e 1 v n xs) (b c : Nat) (hx : a.eval x = .slice (some ⟨b, 0, none⟩) 1 c) (y : Value) (hy : w.cell? ⟨b, 0, none⟩ = some y) (one : y.oneCell' = true) (hn : n < 1000000) (hbase : base ≤ w.heap.size)
 (h : ∀ g cap w', w'.ownsRow base e 1 (.slice (some ⟨g, 0, none⟩) (n + 1) cap) (n + 1) (xs ++ [y]) → Tn (fun k => v.ownBlock = some k) w w' → (v.ownBlock = some g ∨ g = w.heap.size) → g < w'.heap.size → K (a.put o.dst (.slice (some ⟨g, 0, none⟩) (n + 1) cap)) w') : if Region.wanted o (yielded ops a.tmps) = true then Oper.wp Try.prog o a w K Q else F := by
 have hb := E.hb
 refine step_append_lies w hgd s x t ho base e i z 1 _ E.ht E.hi E.hz E.hs rfl E.zs (by decide) v n xs hs hown ⟨b, 0, none⟩ 1 c [y] hx rfl ?_ (by simpa using one) (by decide) (by unfold maxLen; omega) ?_ hbase _ rfl ?_
 · intro j u hj
   match j, hj with
   | 0, hj => simp at hj; subst hj; rw [Addr.add_lit]; exact hy
 · exact Nat.le_trans (Nat.mul_le_mul (show n + 1 ≤ 1000000 by omega) hb) (by omega)
 · intro g cap w' own gr hat hg
   exact h g cap w' own (Tn.grown _ gr (fun k e => e)) hat hg

theorem infoTk : (Try.prog.info? 120).map (fun i => (i.zero, i.size, i.bytes)) = some (some .nilIface, 1, 16) := by kernel_rfl

theorem infoIs : (Try.prog.info? 26).map (fun i => (i.zero, i.size, i.bytes)) = some (some (.slice none 0 0), 1, 24) := by kernel_rfl

theorem infoSv : (Try.prog.info? 38).map (fun i => (i.zero, i.size, i.bytes)) = some (some (.agg #[.int .i64 0, .int .i64 0, .int .i64 0, .int .i64 0, .bool false]), 5, 40) := by kernel_rfl

theorem elI : ∃ i, El1 26 3 i (.int .i64 0) := by
 obtain ⟨i, hi, hz0, hz1, hz2⟩ := info_parts infoI
 exact ⟨i, Try.underlying26, hi, hz0, hz1, by omega, rfl⟩

theorem elS : ∃ i, El1 29 26 i (.slice none 0 0) := by
 obtain ⟨i, hi, hz0, hz1, hz2⟩ := info_parts infoIs
 exact ⟨i, Try.underlying29, hi, hz0, hz1, by omega, rfl⟩

theorem elT : ∃ i, El1 71 120 i .nilIface := by
 obtain ⟨i, hi, hz0, hz1, hz2⟩ := info_parts infoTk
 exact ⟨i, Try.underlying71, hi, hz0, hz1, by omega, rfl⟩

def encV (x : Nat × Nat × (Int × Int) × Bool) : List Value := [.int .i64 x.1, .int .i64 x.2.1, .int .i64 x.2.2.1.1, .int .i64 x.2.2.1.2, .bool x.2.2.2]

def VL (vs : List (Nat × Nat × (Int × Int) × Bool)) : List Value := vs.flatMap encV

theorem VL_app (a b : List (Nat × Nat × (Int × Int) × Bool)) : VL (a ++ b) = VL a ++ VL b := by simp [VL]

theorem apV_step {ops : Array Oper} {o : Oper} {a : Act} {K : Act → World → Prop} {Q : Exit → Act → World → Prop} {F : Prop} (hgd : o.guard = none) (s x : Operand)
 (ho : o.op = .call { callee := .builtin .append, args := #[s, x], argTypes := #[30, 30] }) (w : World) (base : Nat) (v : Value) (vs : List (Nat × Nat × (Int × Int) × Bool)) (hs : a.eval s = v) (hown : w.ownsRow base 38 5 v vs.length (VL vs)) (b c : Nat) (hx : a.eval x = .slice (some ⟨b, 0, none⟩) 1 c) (y : Nat × Nat × (Int × Int) × Bool) (y0 : w.cell? ⟨b, 0, none⟩ = some (.int .i64 y.1)) (y1 : w.cell? ⟨b, 1, none⟩ = some (.int .i64 y.2.1)) (y2 : w.cell? ⟨b, 2, none⟩ = some (.int .i64 y.2.2.1.1)) (y3 : w.cell? ⟨b, 3, none⟩ = some (.int .i64 y.2.2.1.2)) (y4 : w.cell? ⟨b, 4, none⟩ = some (.bool y.2.2.2)) (hn : vs.length < 1000000) (hbase : base ≤ w.heap.size)
 (h : ∀ g cap w', w'.ownsRow base 38 5 (.slice (some ⟨g, 0, none⟩) (vs.length + 1) cap) (vs ++ [y]).length (VL (vs ++ [y])) → Tn (fun k => v.ownBlock = some k) w w' → (v.ownBlock = some g ∨ g = w.heap.size) → g < w'.heap.size → K (a.put o.dst (.slice (some ⟨g, 0, none⟩) (vs.length + 1) cap)) w') : if Region.wanted o (yielded ops a.tmps) = true then Oper.wp Try.prog o a w K Q else F := by
 obtain ⟨i, hi, hz0, hz1, hz2⟩ := info_parts infoSv
 refine step_append_lies w hgd s x 30 ho base 38 i _ 5 40 Try.underlying30 hi hz0 hz1 hz2 rfl (by decide) v vs.length (VL vs) hs hown ⟨b, 0, none⟩ 1 c (encV y) hx rfl ?_ (by simp [encV, Value.oneCell']) (by decide) (by unfold maxLen; omega) (by omega) hbase _ rfl ?_
 · intro j u hj
   rw [Addr.add_lit, Nat.zero_add]
   match j, hj with
   | 0, hj => simp [encV] at hj; subst hj; exact y0
   | 1, hj => simp [encV] at hj; subst hj; exact y1
   | 2, hj => simp [encV] at hj; subst hj; exact y2
   | 3, hj => simp [encV] at hj; subst hj; exact y3
   | 4, hj => simp [encV] at hj; subst hj; exact y4
 · intro g cap w' own gr hat hg
   refine h g cap w' ?_ (Tn.grown _ gr (fun k e => e)) hat hg
   rw [VL_app, List.length_append]
   have : VL [y] = encV y := by simp [VL]
   rw [this]
   exact own

end Go.Proofs.Ytdpbhbpcpnlbkaa
