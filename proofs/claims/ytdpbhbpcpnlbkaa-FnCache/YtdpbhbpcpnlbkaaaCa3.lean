import Derived.Maps.OwnSet
import Derived.DeepKeys4
import Derived.Carry
import Derived.Deep.AppendLies
import Derived.Deep.RegionLaw
import Derived.Test.YtdpbhbpcpnlbkaaaCa1
namespace Go.Proofs.Ytdpbhbpcpnlbkaa
open Go.RowKit Go.Maps
set_option linter.unusedVariables false
set_option maxRecDepth 100000
structure Tn (p : Nat → Prop) (w v : World) : Prop where
 os : v.os = w.os
 tape : v.tape = w.tape
 output : v.output = w.output
 size : w.heap.size ≤ v.heap.size
 block : ∀ k, k < w.heap.size → ¬ p k → v.heap[k]? = w.heap[k]?

theorem Tn.refl (p : Nat → Prop) (w : World) : Tn p w w := ⟨rfl, rfl, rfl, Nat.le_refl _, fun _ _ _ => rfl⟩

theorem Tn.trans {p : Nat → Prop} {a b c : World} (h : Tn p a b) (k : Tn p b c) : Tn p a c :=
 ⟨k.os.trans h.os, k.tape.trans h.tape, k.output.trans h.output, Nat.le_trans h.size k.size, fun i hi hp => (k.block i (Nat.lt_of_lt_of_le hi h.size) hp).trans (h.block i hi hp)⟩

theorem Tn.mono {p q : Nat → Prop} {w v : World} (h : Tn p w v) (hq : ∀ k, k < w.heap.size → p k → q k) : Tn q w v := ⟨h.os, h.tape, h.output, h.size, fun k hk hn => h.block k hk (fun hp => hn (hq k hk hp))⟩

theorem Tn.below {w v : World} (p : Nat → Prop) (h : Below w.heap.size w v) : Tn p w v := ⟨h.os, h.tape, h.output, h.size, fun k hk _ => h.block k hk⟩

theorem Tn.qt {w v : World} (p : Nat → Prop) (h : Qt w v) : Tn p w v := Tn.below p (h.below _)

theorem Tn.grown {w v : World} {row : Option Nat} (p : Nat → Prop) (h : w.grownBy v row) (hr : ∀ k, row = some k → p k) : Tn p w v := ⟨h.os, h.tape, h.output, h.size, fun k hk hn => h.block k hk (fun e => hn (hr k e.symm))⟩

theorem Tn.set {w : World} (p : Nat → Prop) (g o : Nat) (x : Value) (hp : p g) : Tn p w (w.setCell ⟨g, o, none⟩ x) := ⟨rfl, rfl, rfl, by simp [World.setCell], fun k _ hn => Below.heap_setCell _ _ _ _ (fun e => hn (e ▸ hp))⟩

theorem Tn.alloc {w : World} (p : Nat → Prop) (o : Obj) : Tn p w (w.alloc o) := Tn.below p ((Below.refl _ _).alloc (Nat.le_refl _) _)

theorem Tn.under {p : Nat → Prop} {w v : World} (h : Tn p w v) (B : Nat) (hB : B ≤ w.heap.size) (hp : ∀ k, p k → B ≤ k) : Below B w v := ⟨h.os, h.tape, h.output, h.size, fun k hk => h.block k (by omega) (fun e => by have := hp k e; omega)⟩

theorem Tn.cell {p : Nat → Prop} {w v : World} (h : Tn p w v) {g : Nat} (o : Nat) (hg : g < w.heap.size) (hn : ¬ p g) : v.cell? ⟨g, o, none⟩ = w.cell? ⟨g, o, none⟩ := by simp [World.cell?, h.block g hg hn]

def Bf (w : World) (g : Nat) (t : TypeId) (n : Nat) (f : Nat → Value) : Prop := ∃ A, w.heap[g]? = some (.cells A t (0, 0)) ∧ A.size = n ∧ ∀ i, i < n → A[i]? = some (f i)

def upd (f : Nat → Value) (i : Nat) (x : Value) : Nat → Value := fun k => if k = i then x else f k

theorem upd_at (f : Nat → Value) (i : Nat) (x : Value) : upd f i x i = x := by simp [upd]

theorem upd_ne (f : Nat → Value) {i k : Nat} (x : Value) (h : k ≠ i) : upd f i x k = f k := by simp [upd, h]

theorem Bf.lt {w : World} {g n : Nat} {t : TypeId} {f : Nat → Value} (h : Bf w g t n f) : g < w.heap.size := by
 obtain ⟨A, h, _⟩ := h; exact (Array.getElem?_eq_some_iff.1 h).1

theorem Bf.cell {w : World} {g n : Nat} {t : TypeId} {f : Nat → Value} (h : Bf w g t n f) (i : Nat) (hi : i < n) : w.cell? ⟨g, i, none⟩ = some (f i) := by
 obtain ⟨A, h, _, k⟩ := h; rw [cell_of_row w g i _ _ (0, 0) h, k i hi]

theorem Bf.frozen {w : World} {g n : Nat} {t : TypeId} {f : Nat → Value} (h : Bf w g t n f) (i : Nat) : w.frozen? ⟨g, i, none⟩ = false := by
 obtain ⟨A, h, _⟩ := h; exact frozen_of_row w g i _ _ h

theorem Bf.of_block {w v : World} {g n : Nat} {t : TypeId} {f : Nat → Value} (h : Bf w g t n f) (e : v.heap[g]? = w.heap[g]?) : Bf v g t n f := by
 obtain ⟨A, h, r⟩ := h; exact ⟨A, e.trans h, r⟩

theorem Bf.tn {p : Nat → Prop} {w v : World} {g n : Nat} {t : TypeId} {f : Nat → Value} (h : Bf w g t n f) (k : Tn p w v) (hn : ¬ p g) : Bf v g t n f := h.of_block (k.block g h.lt hn)

theorem Bf.qt {w v : World} {g n : Nat} {t : TypeId} {f : Nat → Value} (h : Bf w g t n f) (k : Qt w v) : Bf v g t n f := h.of_block (by rw [k.heap])

theorem Bf.below {w v : World} {g n : Nat} {t : TypeId} {f : Nat → Value} (h : Bf w g t n f) (k : Below w.heap.size w v) : Bf v g t n f := h.of_block (k.block g h.lt)

theorem Bf.set {w : World} {g n : Nat} {t : TypeId} {f : Nat → Value} (h : Bf w g t n f) (i : Nat) (x : Value) : Bf (w.setCell ⟨g, i, none⟩ x) g t n (upd f i x) := by
 obtain ⟨A, h, hs, k⟩ := h
 refine ⟨A.setIfInBounds i x, by rw [heap_setCell_same w g i _ _ _ h], by simp [hs], fun j hj => ?_⟩
 rw [Array.getElem?_setIfInBounds]
 by_cases e : i = j
 · subst e; rw [if_pos rfl, if_pos (by omega), upd_at]
 · rw [if_neg e, k j hj, upd_ne _ _ (Ne.symm e)]

theorem Bf.far {w : World} {g n : Nat} {t : TypeId} {f : Nat → Value} (h : Bf w g t n f) (b o : Nat) (x : Value) (hb : g ≠ b) : Bf (w.setCell ⟨b, o, none⟩ x) g t n f := h.of_block (Below.heap_setCell _ _ _ _ hb)

theorem Bf.congr {w : World} {g n : Nat} {t : TypeId} {f f' : Nat → Value} (h : Bf w g t n f) (e : ∀ i, i < n → f i = f' i) : Bf w g t n f' := by
 obtain ⟨A, h, hs, k⟩ := h; exact ⟨A, h, hs, fun i hi => by rw [k i hi, e i hi]⟩

theorem Bf.ne {w : World} {g g' n n' : Nat} {t t' : TypeId} {f f' : Nat → Value} (h : Bf w g t n f) (h' : Bf w g' t' n' f') (ht : t ≠ t') : g ≠ g' := by
 obtain ⟨A, h, _⟩ := h; obtain ⟨A', h', _⟩ := h'
 intro e; subst e; rw [h] at h'; injection h' with h'; injection h' with _ h'; exact ht h'

theorem Bf.of_new (w : World) (A : Array Value) (t : TypeId) : Bf (w.alloc (.cells A t)) w.heap.size t A.size (fun i => A.getD i default) :=
 ⟨A, heap_alloc_new w _, rfl, fun i hi => by simp [Array.getD, hi]⟩

theorem Bf.cls {w : World} {g : Nat} {t : TypeId} {A : Array Value} (h : Cls w g A t) : Bf w g t A.size (fun i => A.getD i default) :=
 ⟨A, h, rfl, fun i hi => by simp [Array.getD, hi]⟩

def num (ks : List (Int × Int)) (k : Int × Int) : Nat := if k ∈ ks then ks.idxOf k + 1 else 0

theorem num_zero {ks : List (Int × Int)} {k : Int × Int} : num ks k = 0 ↔ k ∉ ks := by
 unfold num; by_cases h : k ∈ ks <;> simp [h]

theorem num_new {ks : List (Int × Int)} {k : Int × Int} (h : k ∉ ks) : num (ks ++ [k]) k = ks.length + 1 := by
 unfold num; rw [if_pos (by simp), List.idxOf_append]; simp [h]

theorem num_old {ks : List (Int × Int)} {k k' : Int × Int} (h : k' ≠ k) : num (ks ++ [k]) k' = num ks k' := by
 unfold num
 by_cases hm : k' ∈ ks
 · rw [if_pos (by simp [hm]), if_pos hm, List.idxOf_append, if_pos hm]
 · rw [if_neg (by simp [hm, h]), if_neg hm]

theorem num_get {ks : List (Int × Int)} {k : Int × Int} {m : Nat} (h : num ks k = m + 1) : ks[m]? = some k := by
 unfold num at h
 by_cases hm : k ∈ ks
 · rw [if_pos hm] at h
   have e : ks.idxOf k = m := by omega
   have hl := List.idxOf_lt_length_of_mem hm
   rw [← e, List.getElem?_eq_getElem hl, List.getElem_idxOf]
 · rw [if_neg hm] at h; omega

theorem num_inj {ks : List (Int × Int)} {a b : Int × Int} (h : num ks a = num ks b) (h0 : num ks a ≠ 0) : a = b := by
 obtain ⟨m, hm⟩ : ∃ m, num ks a = m + 1 := ⟨num ks a - 1, by omega⟩
 have ha := num_get hm
 have hb := num_get (h ▸ hm)
 rw [ha] at hb; exact Option.some.inj hb

def KL (ks : List (Int × Int)) : List Value := ks.flatMap fun p => [.int .i64 p.1, .int .i64 p.2]

theorem KL_append (a b : List (Int × Int)) : KL (a ++ b) = KL a ++ KL b := by simp [KL]

theorem KL_get (ks : List (Int × Int)) (i : Nat) (p : Int × Int) (h : ks[i]? = some p) : (KL ks)[i * 2]? = some (.int .i64 p.1) ∧ (KL ks)[i * 2 + 1]? = some (.int .i64 p.2) := by
 induction ks generalizing i with
 | nil => simp at h
 | cons a r ih =>
   cases i with
   | zero => simp at h; subst h; simp [KL]
   | succ i =>
     simp at h
     have := ih i h
     have e1 : (i + 1) * 2 = i * 2 + 1 + 1 := by omega
     rw [e1]
     simpa [KL] using this

theorem Try.typesPosK : 0 < Try.prog.types.size := of_decide_eq_true (by kernel_rfl)

theorem Try.rowK : (36 : TypeId) < Try.prog.types.size := of_decide_eq_true (by kernel_rfl)

theorem Try.wideK : (match Try.prog.underlying 36 with | some (.array _ _) | some (.struct _) => true | _ => false) = true := by kernel_rfl

theorem lawK0 : Go.WideMaps.KeyLaw Try.prog 36 := deep_law_laid (by kernel_rfl) (m := 3) (by omega) Try.rowK (by kernel_rfl) Try.wideK

theorem lawK : Keyed Try.prog 36 := Keyed.of_law lawK0

theorem cellsKi : Try.prog.cellsOf 3 = 1 := by kernel_rfl

theorem cellsKk : Try.prog.cellsOf 36 = 2 := by kernel_rfl

theorem keyTy : Try.prog.keyType 36 = true := by kernel_rfl

theorem keyLit_gen {P : Program} {t ti : TypeId} {f1 f2 : Field} (hu : P.underlying t = some (.struct #[f1, f2])) (n1 : (f1.name != "_") = true) (n2 : (f2.name != "_") = true) (t1 : f1.type = ti) (t2 : f2.type = ti) (o1 : f1.offset = 0) (o2 : f2.offset = 1)
 (hi : P.underlying ti = some (.int .i64)) (c2 : P.cellsOf t = 2) (c1 : P.cellsOf ti = 1) (ht : P.keyType t = true) (hp : 0 < P.types.size) (k n : Int) (hk : (Lit.int .i64 k).wf = true) (hn : (Lit.int .i64 n).wf = true) :
 ∃ kl, keyOf P t (.agg #[.int .i64 k, .int .i64 n]) = some kl := by
 obtain ⟨d, hd⟩ : ∃ d, P.types.size = d + 1 := ⟨_, (Nat.succ_pred_eq_of_pos hp).symm⟩
 have e : P.keyLits (d + 1 + 1) t [.int .i64 k, .int .i64 n] = some [.int .i64 k, .int .i64 n] := by
  unfold Program.keyLits
  simp [hu, c2, n1, n2, o1, o2, t1, t2, c1, Program.keyLits, hi, hk, hn]
 unfold keyOf
 simp [hu, ht, Value.formed, c2, hd, Value.cells, e]

theorem keyLit (k n : Int) (hk : (Lit.int .i64 k).wf = true) (hn : (Lit.int .i64 n).wf = true) : ∃ kl, keyOf Try.prog 36 (.agg #[.int .i64 k, .int .i64 n]) = some kl :=
 keyLit_gen Try.underlying36 (by decide) (by decide) rfl rfl rfl rfl Try.underlying3 cellsKk cellsKi keyTy Try.typesPosK k n hk hn

def Bk (w : World) (mb : Nat) (ks : List (Int × Int)) : Prop :=
 ∃ (n : Nat) (D : DataW Unit), w.ownsMap Try.prog 36 (plainElem Try.prog 3) mb n D ∧ n ≤ ks.length ∧
   ∀ k m kl, keyOf Try.prog 36 (.agg #[.int .i64 k, .int .i64 m]) = some kl → Maps.has D kl = decide (num ks (k, m) ≠ 0) ∧ D.atKey kl (.lit (.int .i64 0)) = .lit (.int .i64 (num ks (k, m)))

theorem Bk.lt {w : World} {mb : Nat} {ks : List (Int × Int)} (h : Bk w mb ks) : mb < w.heap.size := by
 obtain ⟨n, D, ⟨es, cl, hb, _⟩, _⟩ := h; exact (Array.getElem?_eq_some_iff.1 hb).1

theorem Bk.of_block {w v : World} {mb : Nat} {ks : List (Int × Int)} (h : Bk w mb ks) (e : v.heap[mb]? = w.heap[mb]?) : Bk v mb ks := by
 obtain ⟨n, D, ⟨es, cl, hb, r⟩, q⟩ := h; exact ⟨n, D, ⟨es, cl, e.trans hb, r⟩, q⟩

theorem Bk.ne {w : World} {mb g n : Nat} {ks : List (Int × Int)} {t : TypeId} {f : Nat → Value} (h : Bk w mb ks) (h' : Bf w g t n f) : mb ≠ g := by
 obtain ⟨n, D, ⟨es, cl, hb, _⟩, _⟩ := h; obtain ⟨A, h', _⟩ := h'
 intro e; subst e; rw [hb] at h'; cases h'

theorem zeroI (w : World) : (zeroValue 3).run Try.prog w = .ok (.int .i64 0) w := by kernel_rfl

theorem Bk.look {w : World} {mb : Nat} {ks : List (Int × Int)} (h : Bk w mb ks) (k m : Int) (hk : (Lit.int .i64 k).wf = true) (hm : (Lit.int .i64 m).wf = true) :
 (Instr.lookup 102 (.map (some mb)) (.agg #[.int .i64 k, .int .i64 m]) true).run Try.prog w = .ok (.tuple #[.int .i64 (num ks (k, m)), .bool (decide (num ks (k, m) ≠ 0))]) w := by
 obtain ⟨n, D, ho, hn, hd⟩ := h
 obtain ⟨kl, hkl⟩ := keyLit k m hk hm
 obtain ⟨x, ps, hrun, hR⟩ := ho.look_ok lawK Try.underlying102 (zeroI w) (plainElem_int (H := Unit) Try.underlying3 (a := 0) (by decide)) hkl
 obtain ⟨h1, h2⟩ := hd k m kl hkl
 rw [h2] at hR
 obtain ⟨a, rfl, e, _⟩ := plainElem_int_inv Try.underlying3 hR
 simp at e
 rw [hrun, h1, e.1]

theorem Bk.store {w : World} {mb : Nat} {ks : List (Int × Int)} (h : Bk w mb ks) (k m : Int) (hk : (Lit.int .i64 k).wf = true) (hm : (Lit.int .i64 m).wf = true) (h0 : (k, m) ∉ ks) (hl : ks.length < 100000) (z : Int) (hz : z = (ks.length : Int) + 1) :
 ∃ v, (Instr.mapUpdate 102 (.map (some mb)) (.agg #[.int .i64 k, .int .i64 m]) (.int .i64 z)).run Try.prog w = .ok () v ∧ Bk v mb (ks ++ [(k, m)]) ∧ w.mapTurned v mb := by
 subst hz
 obtain ⟨n, D, ho, hn, hd⟩ := h
 obtain ⟨kl, hkl⟩ := keyLit k m hk hm
 have hwf : (Lit.int .i64 ((ks.length : Int) + 1)).wf = true := by simp [Lit.wf, IntKind.min, IntKind.max, IntKind.bits, IntKind.signed]; omega
 obtain ⟨v, hrun, ho', ht⟩ := ho.store lawK Try.underlying102 (by unfold maxLen; omega) hkl (plainElem_int (H := Unit) Try.underlying3 hwf)
 refine ⟨v, hrun, ⟨n + 1, _, ho', by simp; omega, fun k' m' kl' hkl' => ?_⟩, ht⟩
 by_cases e : kl' = kl
 · subst e
   have := lawK0.inj hkl hkl'
   simp at this
   obtain ⟨rfl, rfl⟩ := this
   rw [Maps.has_put_same ho.isMap (lawK.key hkl), Maps.atKey_put_same ho.isMap (lawK.key hkl), num_new h0]
   simp
 · have hne : (k', m') ≠ (k, m) := by
    intro h; injection h with h1 h2; subst h1; subst h2; rw [hkl] at hkl'; exact e (Option.some.inj hkl').symm
   rw [Maps.has_put_other e, Maps.atKey_put_other e, num_old hne]
   exact hd k' m' kl' hkl'

end Go.Proofs.Ytdpbhbpcpnlbkaa
