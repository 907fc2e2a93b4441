import Derived.Deep.QuietTactic
import Derived.BigQuiet
import Derived.Below
import Derived.Deep.CutBlock
import Derived.Deep.DeepCutAuto
import Derived.Recover
import Derived.Laws.EntriesVeiled
import Derived.Test.YtdpbhbpcpnlbkaaaGA
namespace Go.Proofs.Ytdpbhbpcpnlbkaa
open Go.RowKit
set_option linter.unusedVariables false
set_option maxRecDepth 100000
structure Qt (w v : World) : Prop where
 heap : v.heap = w.heap
 os : v.os = w.os
 tape : v.tape = w.tape
 output : v.output = w.output

theorem Qt.refl (w : World) : Qt w w := ⟨rfl, rfl, rfl, rfl⟩

theorem Qt.trans {a b c : World} (h : Qt a b) (k : Qt b c) : Qt a c := ⟨k.heap.trans h.heap, k.os.trans h.os, k.tape.trans h.tape, k.output.trans h.output⟩

theorem Qt.drew (w : World) : Qt w w.drew := ⟨rfl, rfl, rfl, rfl⟩

theorem Qt.drewN (w : World) (n : Nat) : Qt w (w.drewN n) := ⟨rfl, rfl, rfl, rfl⟩

theorem Qt.cell {w v : World} (h : Qt w v) (a : Addr) : v.cell? a = w.cell? a := by simp [World.cell?, h.heap]

theorem Qt.frozen {w v : World} (h : Qt w v) (a : Addr) : v.frozen? a = w.frozen? a := by simp [World.frozen?, h.heap]

theorem Qt.set {w v : World} (h : Qt w v) (a : Addr) (x : Value) : Qt (w.setCell a x) (v.setCell a x) := ⟨by simp only [World.setCell, h.heap], h.os, h.tape, h.output⟩

theorem Qt.cls {w v : World} (h : Qt w v) {g : Nat} {xs : Array Value} {t : TypeId} (c : Cls w g xs t) : Cls v g xs t := by unfold Cls; rw [h.heap]; exact c

theorem Qt.below {w v : World} (h : Qt w v) (n : Nat) : Below n w v := ⟨h.os, h.tape, h.output, by rw [h.heap]; exact Nat.le_refl _, fun k _ => by rw [h.heap]⟩

theorem slot_any (q hb sh sb home i S j : Nat) (w : World) (h1 : w.cell? ⟨q, 1, none⟩ = some (.pointer (some ⟨hb, sh, none⟩))) (h3 : w.cell? ⟨q, 3, none⟩ = some (.int .i64 home)) (h5 : w.cell? ⟨q, 5, none⟩ = some (.int .i64 i))
 (c0 : w.cell? ⟨hb, sh, none⟩ = some (.slice (some ⟨sb, 0, none⟩) S S)) (hS : 0 < S ∧ S ≤ 64) (hh : home ≤ 64) (hi : i ≤ 64) (hj : (home + i) % S = j) :
 Calls Try.prog 93 #[.pointer (some ⟨q, 0, none⟩)] w fun e w' => e = .returned (.pointer (some ⟨sb, j * 3, none⟩)) ∧ Qt w w' := by
 have f1 : IntKind.i64.wrap ((home : Int) + (i : Int)) = (home : Int) + (i : Int) := by simp only [IntKind.wrap_i64]; omega
 have f2 : ((home : Int) + (i : Int)) % (S : Int) = (j : Int) := by rw [← hj]; simp
 have f3 : ¬ (S : Int) = 0 := by omega
 have f4 : j < S := by rw [← hj]; exact Nat.mod_lt _ (by omega)
 clear hj hS hh hi
 go_enter Try.func93, Try.ntmps93
 go_wp2_with fail
 go_quiet (fail)
 go_wp2_with fail
 go_ret
 exact ⟨rfl, Qt.drewN _ _⟩

theorem passed_yes (q hb sh sb S : Nat) (i : Int) (hi : (S : Int) ≤ i) (w : World) (h1 : w.cell? ⟨q, 1, none⟩ = some (.pointer (some ⟨hb, sh, none⟩))) (h5 : w.cell? ⟨q, 5, none⟩ = some (.int .i64 i))
 (c0 : w.cell? ⟨hb, sh, none⟩ = some (.slice (some ⟨sb, 0, none⟩) S S)) :
 Calls Try.prog 94 #[.pointer (some ⟨q, 0, none⟩)] w fun e w' => e = .returned (.bool true) ∧ Qt w w' := by
 go_enter Try.func94, Try.ntmps94
 go_wp2_with fail
 go_quiet (fail)
 go_wp2_with fail
 go_ret
 exact ⟨rfl, Qt.drewN _ _⟩

theorem passed_no (q hb sh sb S : Nat) (i : Int) (hi : ¬ (S : Int) ≤ i) (w : World) (h1 : w.cell? ⟨q, 1, none⟩ = some (.pointer (some ⟨hb, sh, none⟩))) (h5 : w.cell? ⟨q, 5, none⟩ = some (.int .i64 i))
 (c0 : w.cell? ⟨hb, sh, none⟩ = some (.slice (some ⟨sb, 0, none⟩) S S)) :
 Calls Try.prog 94 #[.pointer (some ⟨q, 0, none⟩)] w fun e w' => e = .returned (.bool false) ∧ Qt w w' := by
 have hd : decide ((S : Int) ≤ i) = false := decide_eq_false hi
 clear hi
 go_enter Try.func94, Try.ntmps94
 go_wp2_with fail
 go_quiet (fail)
 go_wp2_with fail
 go_ret
 exact ⟨rfl, Qt.drewN _ _⟩

theorem begin_any (q : Nat) (w : World) (x4 x5 : Value) (h4 : w.cell? ⟨q, 4, none⟩ = some x4) (h5 : w.cell? ⟨q, 5, none⟩ = some x5) (z4 : w.frozen? ⟨q, 4, none⟩ = false) (z5 : w.frozen? ⟨q, 5, none⟩ = false) :
 Calls Try.prog 91 #[.pointer (some ⟨q, 0, none⟩)] w fun e w' => e = .returned (.tuple #[]) ∧ w' = (w.setCell ⟨q, 5, none⟩ (.int .i64 0)).setCell ⟨q, 4, none⟩ (.func (.func 92) #[.pointer (some ⟨q, 0, none⟩)] #[]) := by
 have hmf : ∀ (fn : Fn) (first cap : Array Value) (w : World), (Instr.makeFunc fn first cap).run Try.prog w = .ok (.func fn first cap) w := fun _ _ _ _ => rfl
 go_enter Try.func91, Try.ntmps91
 go_wp2_with fail
 go_end0
 exact ⟨rfl, rfl⟩

structure Sr (w : World) (q cb hb sh sb key home i S : Nat) : Prop where
 c0 : w.cell? ⟨q, 0, none⟩ = some (.pointer (some ⟨cb, 0, none⟩))
 c1 : w.cell? ⟨q, 1, none⟩ = some (.pointer (some ⟨hb, sh, none⟩))
 c2 : w.cell? ⟨q, 2, none⟩ = some (.int .i64 key)
 c3 : w.cell? ⟨q, 3, none⟩ = some (.int .i64 home)
 c4 : ∃ x, w.cell? ⟨q, 4, none⟩ = some x
 c5 : w.cell? ⟨q, 5, none⟩ = some (.int .i64 i)
 sl : w.cell? ⟨hb, sh, none⟩ = some (.slice (some ⟨sb, 0, none⟩) S S)
 zq : ∀ o, w.frozen? ⟨q, o, none⟩ = false
 zc : ∀ o, w.frozen? ⟨cb, o, none⟩ = false
 zs : ∀ o, w.frozen? ⟨sb, o, none⟩ = false
 zh : ∀ o, w.frozen? ⟨hb, o, none⟩ = false
 qc : q ≠ cb
 qh : q ≠ hb
 qs : q ≠ sb
 ch : cb ≠ hb
 cs : cb ≠ sb
 hs : hb ≠ sb
 S0 : 0 < S ∧ S ≤ 64
 h0 : home ≤ 64
 i0 : i ≤ 64

theorem Sr.qt {w v : World} {q cb hb sh sb key home i S : Nat} (h : Sr w q cb hb sh sb key home i S) (k : Qt w v) : Sr v q cb hb sh sb key home i S := by
 obtain ⟨c0, c1, c2, c3, ⟨x4, c4⟩, c5, sl, zq, zc, zs, zh, r1, r2, r3, r4, r5, r6, r7, r8, r9⟩ := h
 exact ⟨(k.cell _).trans c0, (k.cell _).trans c1, (k.cell _).trans c2, (k.cell _).trans c3, ⟨x4, (k.cell _).trans c4⟩, (k.cell _).trans c5, (k.cell _).trans sl, fun o => (k.frozen _).trans (zq o), fun o => (k.frozen _).trans (zc o), fun o => (k.frozen _).trans (zs o), fun o => (k.frozen _).trans (zh o), r1, r2, r3, r4, r5, r6, r7, r8, r9⟩

end Go.Proofs.Ytdpbhbpcpnlbkaa
