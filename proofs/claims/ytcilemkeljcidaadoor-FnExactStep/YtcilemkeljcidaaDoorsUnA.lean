import Derived.Deep.RegionHeld3
import Derived.Deep.CutBlock
import Derived.Deep.DeepCutAuto
import Derived.Test.YtcilemkeljcidaaDoorsBase
import Derived.Test.YtcilemkeljcidaaDoorsOrM
namespace Go.Proofs.YtcilemkeljcidaaDoor
open Go.RowKit
set_option linter.unusedVariables false
set_option maxRecDepth 100000
theorem keepAl {w1 W : World} {b : Prop} (h : Below w1.heap.size w1 W ∧ b) (o : Obj) : Below w1.heap.size w1 (W.alloc o) := h.1.alloc h.1.size o

theorem keepDr {w1 W : World} {b : Prop} (h : Below w1.heap.size w1 W ∧ b) : Below w1.heap.size w1 W.drew := h.1.drew

theorem keepC {w1 W v : World} (h : Below w1.heap.size w1 W) (k : Below W.heap.size W v) : Below w1.heap.size w1 v := h.trans (k.mono h.size)

theorem keepAl2 {w1 W : World} (h : Below w1.heap.size w1 W) (o : Obj) : Below w1.heap.size w1 (W.alloc o) := h.alloc h.size o

theorem keepSt2 {w1 W : World} (h : Below w1.heap.size w1 W) (g o : Nat) (hg : w1.heap.size ≤ g) (u : Value) : Below w1.heap.size w1 (W.setCell ⟨g, o, none⟩ u) := h.setCell hg u

theorem kc {w v : World} {p : Addr} {x : Value} (hb : Below w.heap.size w v) (c : w.cell? p = some x) : v.cell? p = some x := (hb.cell (World.block_lt_of_cell? w p c)).trans c

theorem kz {w v : World} {b o : Nat} (hb : Below w.heap.size w v) (h : b < w.heap.size) (c : w.frozen? ⟨b, o, none⟩ = false) : v.frozen? ⟨b, o, none⟩ = false := (hb.frozen h).trans c

def W2 (v : World) (g X : Nat) : Prop := v.cell? ⟨g, 0, none⟩ = some (.int .u64 (M.hiN X : Int)) ∧ v.cell? ⟨g, 1, none⟩ = some (.int .u64 (M.loN X : Int)) ∧ v.frozen? ⟨g, 0, none⟩ = false ∧ v.frozen? ⟨g, 1, none⟩ = false ∧ g < v.heap.size

theorem W2_new (v : World) (X : Nat) (t : TypeId) : W2 (v.alloc (.cells #[.int .u64 (M.hiN X : Int), .int .u64 (M.loN X : Int)] t)) v.heap.size X := by
 unfold W2; simp [go_sem]

theorem W2_set {v : World} {g X : Nat} {a b : Value} (h0 : v.cell? ⟨g, 0, none⟩ = some a) (h1 : v.cell? ⟨g, 1, none⟩ = some b) (f0 : v.frozen? ⟨g, 0, none⟩ = false) (f1 : v.frozen? ⟨g, 1, none⟩ = false) :
 W2 ((v.setCell ⟨g, 0, none⟩ (.int .u64 (M.hiN X : Int))).setCell ⟨g, 1, none⟩ (.int .u64 (M.loN X : Int))) g X := by
 have := World.block_lt_of_cell? v ⟨g, 0, none⟩ h0
 unfold W2; simp [go_sem, h0, h1, f0, f1]; simpa using this

theorem far2 (v : World) (x y : Value) {g b o : Nat} (h : b ≠ g) : ((v.setCell ⟨g, 0, none⟩ x).setCell ⟨g, 1, none⟩ y).cell? ⟨b, o, none⟩ = v.cell? ⟨b, o, none⟩ :=
 World.cell?_of_block (w := v) (a := ⟨b, o, none⟩) ((Below.heap_setCell _ _ _ _ h).trans (Below.heap_setCell _ _ _ _ h))

theorem ffar2 (v : World) (x y : Value) {g b o : Nat} (h : b ≠ g) : ((v.setCell ⟨g, 0, none⟩ x).setCell ⟨g, 1, none⟩ y).frozen? ⟨b, o, none⟩ = v.frozen? ⟨b, o, none⟩ :=
 World.frozen?_of_block (w := v) (a := ⟨b, o, none⟩) ((Below.heap_setCell _ _ _ _ h).trans (Below.heap_setCell _ _ _ _ h))

theorem cmpN_le1 {n : Nat} {r : Int} (e : r = M.cmpN n 1) (h : ¬ 0 < r) : n ≤ 1 := by
 rw [e] at h
 unfold M.cmpN at h
 rcases Nat.lt_or_ge 1 n with hh | hh
 · rw [if_neg (by omega), if_pos hh] at h
   exact absurd (by omega) h
 · exact hh

def pv (t : M.Pt) : Value := .agg #[.int .i64 t.c, .bool t.n, .int .u64 (M.hiN t.s : Int), .int .u64 (M.loN t.s : Int), .int .i64 t.q]

theorem cmpN_ge {a b : Nat} {r : Int} (e : r = M.cmpN a b) : 0 ≤ r ↔ b ≤ a := by
 rw [e]; unfold M.cmpN
 by_cases h : a < b
 · rw [if_pos h]; omega
 · rw [if_neg h]
   by_cases h2 : b < a
   · rw [if_pos h2]; omega
   · rw [if_neg h2]; omega

theorem cmpN_gt {a b : Nat} {r : Int} (e : r = M.cmpN a b) : 0 < r ↔ b < a := by
 rw [e]; unfold M.cmpN
 by_cases h : a < b
 · rw [if_pos h]; omega
 · rw [if_neg h]
   by_cases h2 : b < a
   · rw [if_pos h2]; omega
   · rw [if_neg h2]; omega

theorem upk_eq {F : M.Fm} {X fl Sg Sn : Nat} (h1 : fl = F.fld X) (h2 : Sg = F.sig X) (h3 : Sn = F.sgn X) :
 F.upk X = if 1 < Sn ∨ ¬ (F.lead ≤ Sg ↔ 0 < fl) then ⟨0, false, 0, 0⟩
  else if fl = F.top then (if Sg = F.lead then ⟨4, decide (Sn = 1), 0, 0⟩ else ⟨5, false, 0, 0⟩)
  else if 0 < fl then ⟨3, decide (Sn = 1), Sg, (fl : Int) - F.emax - F.p + 1⟩
  else if Sg = 0 then ⟨1, decide (Sn = 1), 0, 0⟩ else ⟨2, decide (Sn = 1), Sg, F.qmin⟩ := by
 subst h1; subst h2; subst h3
 unfold M.Fm.upk M.Fm.bad
 rfl

theorem hi0 : M.hiN 0 = 0 := by unfold M.hiN; omega

theorem lo0 : M.loN 0 = 0 := by unfold M.loN; omega

theorem pv_ret (t : M.Pt) {a e : Int} {b : Bool} {c d : Nat} (h1 : a = t.c) (h2 : b = t.n) (h3 : c = M.hiN t.s) (h4 : d = M.loN t.s) (h5 : e = t.q) :
 Ending.returned (.agg #[.int .i64 a, .bool b, .int .u64 (c : Int), .int .u64 (d : Int), .int .i64 e]) = .returned (pv t) := by
 subst h1; subst h2; subst h3; subst h4; subst h5; rfl

theorem far5 (v : World) (a b c d e : Value) {g k o : Nat} (h : k ≠ g) : (((((v.setCell ⟨g, 0, none⟩ a).setCell ⟨g, 1, none⟩ b).setCell ⟨g, 2, none⟩ c).setCell ⟨g, 3, none⟩ d).setCell ⟨g, 4, none⟩ e).cell? ⟨k, o, none⟩ = v.cell? ⟨k, o, none⟩ :=
 World.cell?_of_block (w := v) (a := ⟨k, o, none⟩) ((((((Below.heap_setCell _ _ _ _ h).trans (Below.heap_setCell _ _ _ _ h)).trans (Below.heap_setCell _ _ _ _ h)).trans (Below.heap_setCell _ _ _ _ h)).trans (Below.heap_setCell _ _ _ _ h)))

theorem below5 {w v : World} {g : Nat} (h : Below w.heap.size w v) (hg : w.heap.size ≤ g) (a b c d e : Value) : Below w.heap.size w (((((v.setCell ⟨g, 0, none⟩ a).setCell ⟨g, 1, none⟩ b).setCell ⟨g, 2, none⟩ c).setCell ⟨g, 3, none⟩ d).setCell ⟨g, 4, none⟩ e) :=
 ((((h.setCell (p := ⟨g, 0, none⟩) hg a).setCell (p := ⟨g, 1, none⟩) hg b).setCell (p := ⟨g, 2, none⟩) hg c).setCell (p := ⟨g, 3, none⟩) hg d).setCell (p := ⟨g, 4, none⟩) hg e

theorem mod_pow (A e : Nat) (he : e ≤ 64) : A % 18446744073709551616 % 2 ^ e = A % 2 ^ e := by
 have h : (18446744073709551616 : Nat) = 2 ^ e * 2 ^ (64 - e) := by rw [← Nat.pow_add, show e + (64 - e) = 64 by omega]
 rw [h]
 exact Nat.mod_mul_right_mod _ _ _

theorem i64_mod (l : Nat) (hl : l < 18446744073709551616) : (((l : Int) + 9223372036854775808) % 18446744073709551616 - 9223372036854775808) % 18446744073709551616 = (l : Int) := by omega

theorem i64_small (l : Nat) (hl : l < 40000) : ((l : Int) + 9223372036854775808) % 18446744073709551616 - 9223372036854775808 = (l : Int) := by omega

theorem and_key (l e t : Nat) (hl : l < 18446744073709551616) (ht : 2 ^ e = t + 1) (hb : t < 40000) : bits BinOp.and IntKind.i64 (IntKind.i64.wrap (l : Int)) (t : Int) = ((l % 2 ^ e : Nat) : Int) := by
 have e64 : ((2 ^ 64 : Nat) : Int) = 18446744073709551616 := by rfl
 have ht2 : (BitVec.ofInt 64 (t : Int)).toNat = 2 ^ e - 1 := by
  rw [BitVec.toNat_ofInt, ht, e64, Int.emod_eq_of_lt (by omega) (by omega)]
  rfl
 have h2 : l % 2 ^ e < t + 1 := by rw [ht]; exact Nat.mod_lt _ (by omega)
 have key : (BitVec.ofInt 64 (IntKind.i64.wrap (l : Int)) &&& BitVec.ofInt 64 (t : Int)).toNat = ((IntKind.i64.wrap (l : Int)) % ((2 ^ 64 : Nat) : Int)).toNat % 2 ^ e := by
  rw [BitVec.toNat_and, BitVec.toNat_ofInt, ht2, Nat.and_two_pow_sub_one_eq_mod]
 rw [e64, IntKind.wrap_i64, i64_mod l hl, Int.toNat_natCast] at key
 rw [← IntKind.wrap_i64] at key
 show IntKind.i64.wrap ((BitVec.ofInt 64 (IntKind.i64.wrap (l : Int)) &&& BitVec.ofInt 64 (t : Int)).toNat : Nat) = _
 rw [key, IntKind.wrap_i64, i64_small _ (by omega)]

theorem and_top (A e t : Nat) (ht : 2 ^ e = t + 1) (he : e ≤ 15) : bits BinOp.and IntKind.i64 (IntKind.i64.wrap (M.loN A : Int)) (t : Int) = ((A % 2 ^ e : Nat) : Int) := by
 have hb : 2 ^ e ≤ 2 ^ 15 := Nat.pow_le_pow_right (by omega) he
 rw [and_key (M.loN A) e t (M.loLt A) ht (by omega)]
 unfold M.loN
 rw [mod_pow A e (by omega)]

end Go.Proofs.YtcilemkeljcidaaDoor
