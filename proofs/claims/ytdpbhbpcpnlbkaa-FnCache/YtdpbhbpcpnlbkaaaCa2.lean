import Derived.Test.YtdpbhbpcpnlbkaaaCa1
set_option maxHeartbeats 1000000
namespace Go.Proofs.Ytdpbhbpcpnlbkaa
open Go.RowKit
set_option linter.unusedVariables false
set_option maxRecDepth 100000
theorem look_hit (q cb hb sh sb key home i S : Nat) (w : World) (h : Sr w q cb hb sh sb key home i S) (j : Nat) (hj : (home + i) % S = j) (n : Nat) (x : Bool) (hn : n < 1000000)
 (k0 : w.cell? ⟨sb, j * 3, none⟩ = some (.int .i64 key)) (k1 : w.cell? ⟨sb, j * 3 + 1, none⟩ = some (.bool x)) (kc : w.cell? ⟨cb, 0, none⟩ = some (.int .i64 n)) :
 Calls Try.prog 92 #[.pointer (some ⟨q, 0, none⟩)] w fun e w' => e = .returned (.int .i64 1) ∧ Qt ((w.setCell ⟨sb, j * 3 + 1, none⟩ (.bool true)).setCell ⟨cb, 0, none⟩ (.int .i64 ((n : Int) + 1))) w' := by
 have kS := fun (v : World) (hv : Qt w v) => slot_any q hb sh sb home i S j v ((hv.cell _).trans h.c1) ((hv.cell _).trans h.c3) ((hv.cell _).trans h.c5) ((hv.cell _).trans h.sl) h.S0 h.h0 h.i0 hj
 obtain ⟨c0, c1, c2, c3, ⟨x4, c4⟩, c5, sl, zq, zc, zs, zh, qc, qh, qs, ch, cs, hs, S0, h0, i0⟩ := h
 have hmf : ∀ (fn : Fn) (first cap : Array Value) (w : World), (Instr.makeFunc fn first cap).run Try.prog w = .ok (.func fn first cap) w := fun _ _ _ _ => rfl
 have qc' := Ne.symm qc; have qs' := Ne.symm qs; have cs' := Ne.symm cs; have qh' := Ne.symm qh; have ch' := Ne.symm ch; have hs' := Ne.symm hs
 have f1 : IntKind.i64.wrap ((n : Int) + 1) = (n : Int) + 1 := by simp only [IntKind.wrap_i64]; omega
 clear hj S0 h0 i0 hn
 go_enter Try.func92, Try.ntmps92
 go_wp2_with fail
 refine (kS _ (Qt.refl _)).mono ?_
 rintro e v ⟨rfl, hqv⟩
 have hcv := hqv.cell; have hfv := hqv.frozen
 go_wp2_with fail
 go_quiet (fail)
 go_wp2_with fail
 go_ret
 exact ⟨rfl, ((hqv.trans (Qt.drewN _ _)).set _ _).set _ _⟩

theorem look_on (q cb hb sh sb key home i S : Nat) (w : World) (h : Sr w q cb hb sh sb key home i S) (j : Nat) (hj : (home + i) % S = j) (n : Nat) (hn : ¬ n = key) (hi : i + 1 < S)
 (k0 : w.cell? ⟨sb, j * 3, none⟩ = some (.int .i64 n)) :
 Calls Try.prog 92 #[.pointer (some ⟨q, 0, none⟩)] w fun e w' => e = .returned (.int .i64 0) ∧ Qt (w.setCell ⟨q, 5, none⟩ (.int .i64 ((i : Int) + 1))) w' := by
 have kS := fun (v : World) (hv : Qt w v) => slot_any q hb sh sb home i S j v ((hv.cell _).trans h.c1) ((hv.cell _).trans h.c3) ((hv.cell _).trans h.c5) ((hv.cell _).trans h.sl) h.S0 h.h0 h.i0 hj
 obtain ⟨c0, c1, c2, c3, ⟨x4, c4⟩, c5, sl, zq, zc, zs, zh, qc, qh, qs, ch, cs, hs, S0, h0, i0⟩ := h
 have hmf : ∀ (fn : Fn) (first cap : Array Value) (w : World), (Instr.makeFunc fn first cap).run Try.prog w = .ok (.func fn first cap) w := fun _ _ _ _ => rfl
 have qc' := Ne.symm qc; have qs' := Ne.symm qs; have cs' := Ne.symm cs; have qh' := Ne.symm qh; have ch' := Ne.symm ch; have hs' := Ne.symm hs
 have f1 : IntKind.i64.wrap ((i : Int) + 1) = (i : Int) + 1 := by simp only [IntKind.wrap_i64]; omega
 have kP := fun (v : World) h1 h2 h3 => passed_no q hb sh sb S ((i : Int) + 1) (by omega) v h1 h2 h3
 clear hj S0 h0 i0 hi
 go_enter Try.func92, Try.ntmps92
 go_wp2_with fail
 refine (kS _ (Qt.refl _)).mono ?_
 rintro e v ⟨rfl, hqv⟩
 have hcv := hqv.cell; have hfv := hqv.frozen
 go_wp2_with fail
 go_quiet (fail)
 go_wp2_with fail
 refine (kP _ (by simp [go_sem, *]) (by simp [go_sem, *]) (by simp [go_sem, *])).mono ?_
 rintro e u ⟨rfl, hqu⟩
 have hcu := hqu.cell; have hfu := hqu.frozen
 go_wp2_with fail
 go_ret
 exact ⟨rfl, ((hqv.trans (Qt.drewN _ _)).set _ _).trans hqu⟩

theorem look_end (q cb hb sh sb key home i S : Nat) (w : World) (h : Sr w q cb hb sh sb key home i S) (j : Nat) (hj : (home + i) % S = j) (n : Nat) (hn : ¬ n = key) (hi : i + 1 = S)
 (k0 : w.cell? ⟨sb, j * 3, none⟩ = some (.int .i64 n)) :
 Calls Try.prog 92 #[.pointer (some ⟨q, 0, none⟩)] w fun e w' => e = .returned (.int .i64 0) ∧ Qt ((w.setCell ⟨q, 5, none⟩ (.int .i64 ((i : Int) + 1))).setCell ⟨q, 4, none⟩ (.func (.func 95) #[.pointer (some ⟨q, 0, none⟩)] #[])) w' := by
 have kS := fun (v : World) (hv : Qt w v) => slot_any q hb sh sb home i S j v ((hv.cell _).trans h.c1) ((hv.cell _).trans h.c3) ((hv.cell _).trans h.c5) ((hv.cell _).trans h.sl) h.S0 h.h0 h.i0 hj
 obtain ⟨c0, c1, c2, c3, ⟨x4, c4⟩, c5, sl, zq, zc, zs, zh, qc, qh, qs, ch, cs, hs, S0, h0, i0⟩ := h
 have hmf : ∀ (fn : Fn) (first cap : Array Value) (w : World), (Instr.makeFunc fn first cap).run Try.prog w = .ok (.func fn first cap) w := fun _ _ _ _ => rfl
 have qc' := Ne.symm qc; have qs' := Ne.symm qs; have cs' := Ne.symm cs; have qh' := Ne.symm qh; have ch' := Ne.symm ch; have hs' := Ne.symm hs
 have f1 : IntKind.i64.wrap ((i : Int) + 1) = (i : Int) + 1 := by simp only [IntKind.wrap_i64]; omega
 have kP := fun (v : World) h1 h2 h3 => passed_yes q hb sh sb S ((i : Int) + 1) (by omega) v h1 h2 h3
 clear hj S0 h0 i0 hi
 go_enter Try.func92, Try.ntmps92
 go_wp2_with fail
 refine (kS _ (Qt.refl _)).mono ?_
 rintro e v ⟨rfl, hqv⟩
 have hcv := hqv.cell; have hfv := hqv.frozen
 go_wp2_with fail
 go_quiet (fail)
 go_wp2_with fail
 refine (kP _ (by simp [go_sem, *]) (by simp [go_sem, *]) (by simp [go_sem, *])).mono ?_
 rintro e u ⟨rfl, hqu⟩
 have hcu := hqu.cell; have hfu := hqu.frozen
 go_wp2_with fail
 go_ret
 exact ⟨rfl, (((hqv.trans (Qt.drewN _ _)).set _ _).trans hqu).set _ _⟩

theorem make_any (q cb hb sh sb key home i S : Nat) (w : World) (h : Sr w q cb hb sh sb key home i S) (n : Nat) (hn : n < 1000000) (kc : w.cell? ⟨cb, 1, none⟩ = some (.int .i64 n)) :
 Calls Try.prog 95 #[.pointer (some ⟨q, 0, none⟩)] w fun e w' => e = .returned (.int .i64 0) ∧ Qt (((w.setCell ⟨cb, 1, none⟩ (.int .i64 ((n : Int) + 1))).setCell ⟨q, 5, none⟩ (.int .i64 0)).setCell ⟨q, 4, none⟩ (.func (.func 96) #[.pointer (some ⟨q, 0, none⟩)] #[])) w' := by
 obtain ⟨c0, c1, c2, c3, ⟨x4, c4⟩, c5, sl, zq, zc, zs, zh, qc, qh, qs, ch, cs, hs, S0, h0, i0⟩ := h
 have hmf : ∀ (fn : Fn) (first cap : Array Value) (w : World), (Instr.makeFunc fn first cap).run Try.prog w = .ok (.func fn first cap) w := fun _ _ _ _ => rfl
 have qc' := Ne.symm qc; have qs' := Ne.symm qs; have cs' := Ne.symm cs; have qh' := Ne.symm qh; have ch' := Ne.symm ch; have hs' := Ne.symm hs
 have f1 : IntKind.i64.wrap ((n : Int) + 1) = (n : Int) + 1 := by simp only [IntKind.wrap_i64]; omega
 clear S0 h0 i0 hn
 go_enter Try.func95, Try.ntmps95
 go_wp2_with fail
 go_ret
 exact ⟨rfl, Qt.refl _⟩

theorem choose_any (q sb o : Nat) (st : Int) (w : World) (x4 x6 x7 : Value) (c4 : w.cell? ⟨q, 4, none⟩ = some x4) (c6 : w.cell? ⟨q, 6, none⟩ = some x6) (c7 : w.cell? ⟨q, 7, none⟩ = some x7) (zq : ∀ o, w.frozen? ⟨q, o, none⟩ = false) (ks : w.cell? ⟨sb, o + 2, none⟩ = some (.int .i64 st)) :
 Calls Try.prog 98 #[.pointer (some ⟨q, 0, none⟩), .pointer (some ⟨sb, o, none⟩)] w fun e w' => e = .returned (.tuple #[]) ∧ Qt (((w.setCell ⟨q, 6, none⟩ (.pointer (some ⟨sb, o, none⟩))).setCell ⟨q, 7, none⟩ (.int .i64 st)).setCell ⟨q, 4, none⟩ (.func (.func 100) #[.pointer (some ⟨q, 0, none⟩)] #[])) w' := by
 have hmf : ∀ (fn : Fn) (first cap : Array Value) (w : World), (Instr.makeFunc fn first cap).run Try.prog w = .ok (.func fn first cap) w := fun _ _ _ _ => rfl
 go_enter Try.func98, Try.ntmps98
 go_wp2_with fail
 go_end0
 exact ⟨rfl, Qt.refl _⟩

theorem under_any (hb sh sb S n m : Nat) (w : World) (sl : w.cell? ⟨hb, sh, none⟩ = some (.slice (some ⟨sb, 0, none⟩) S S)) (hd : w.cell? ⟨hb, sh + 1, none⟩ = some (.int .i64 n)) (zh : ∀ o, w.frozen? ⟨hb, o, none⟩ = false) (S0 : 0 < S ∧ S ≤ 64) (hn : n < S) (hm : (n + 1) % S = m) :
 Calls Try.prog 99 #[.pointer (some ⟨hb, sh, none⟩)] w fun e w' => e = .returned (.pointer (some ⟨sb, n * 3, none⟩)) ∧ Qt (w.setCell ⟨hb, sh + 1, none⟩ (.int .i64 m)) w' := by
 have f1 : IntKind.i64.wrap ((n : Int) + 1) = (n : Int) + 1 := by simp only [IntKind.wrap_i64]; omega
 have f2 : ((n : Int) + 1) % (S : Int) = (m : Int) := by rw [← hm]; simp
 have f3 : ¬ (S : Int) = 0 := by omega
 clear hm S0
 go_enter Try.func99, Try.ntmps99
 go_wp2_with fail
 go_quiet (fail)
 go_wp2_with fail
 go_region
 go_wp2_with fail
 go_ret
 exact ⟨rfl, (Qt.drewN _ _).set _ _⟩

theorem hand_yes (q cb hb sh sb key home i S : Nat) (w : World) (h : Sr w q cb hb sh sb key home i S) (n m : Nat) (st : Int) (hn : n < S) (hm : (n + 1) % S = m) (hd : w.cell? ⟨hb, sh + 1, none⟩ = some (.int .i64 n)) (k2 : w.cell? ⟨sb, n * 3 + 2, none⟩ = some (.int .i64 st)) (x6 x7 : Value) (c6 : w.cell? ⟨q, 6, none⟩ = some x6) (c7 : w.cell? ⟨q, 7, none⟩ = some x7) (k1 : w.cell? ⟨sb, n * 3 + 1, none⟩ = some (.bool true)) :
 Calls Try.prog 97 #[.pointer (some ⟨q, 0, none⟩)] w fun e w' => e = .returned (.tuple #[]) ∧ Qt ((w.setCell ⟨hb, sh + 1, none⟩ (.int .i64 m)).setCell ⟨sb, n * 3 + 1, none⟩ (.bool false)) w' := by
 have kU := under_any hb sh sb S n m w h.sl hd h.zh h.S0 hn hm
 obtain ⟨c0, c1, c2, c3, ⟨x4, c4⟩, c5, sl, zq, zc, zs, zh, qc, qh, qs, ch, cs, hs, S0, h0, i0⟩ := h
 have hmf : ∀ (fn : Fn) (first cap : Array Value) (w : World), (Instr.makeFunc fn first cap).run Try.prog w = .ok (.func fn first cap) w := fun _ _ _ _ => rfl
 have qc' := Ne.symm qc; have qs' := Ne.symm qs; have cs' := Ne.symm cs; have qh' := Ne.symm qh; have ch' := Ne.symm ch; have hs' := Ne.symm hs
 clear hn hm S0 h0 i0
 go_enter Try.func97, Try.ntmps97
 go_wp2_with fail
 refine kU.mono ?_
 rintro e v ⟨rfl, hqv⟩
 have hcv := hqv.cell; have hfv := hqv.frozen
 go_wp2_with fail
 go_end0
 exact ⟨rfl, hqv.set _ _⟩

theorem hand_no (q cb hb sh sb key home i S : Nat) (w : World) (h : Sr w q cb hb sh sb key home i S) (n m : Nat) (st : Int) (hn : n < S) (hm : (n + 1) % S = m) (hd : w.cell? ⟨hb, sh + 1, none⟩ = some (.int .i64 n)) (k2 : w.cell? ⟨sb, n * 3 + 2, none⟩ = some (.int .i64 st)) (x6 x7 : Value) (c6 : w.cell? ⟨q, 6, none⟩ = some x6) (c7 : w.cell? ⟨q, 7, none⟩ = some x7) (k1 : w.cell? ⟨sb, n * 3 + 1, none⟩ = some (.bool false)) :
 Calls Try.prog 97 #[.pointer (some ⟨q, 0, none⟩)] w fun e w' => e = .returned (.tuple #[]) ∧ Qt ((((w.setCell ⟨hb, sh + 1, none⟩ (.int .i64 m)).setCell ⟨q, 6, none⟩ (.pointer (some ⟨sb, n * 3, none⟩))).setCell ⟨q, 7, none⟩ (.int .i64 st)).setCell ⟨q, 4, none⟩ (.func (.func 100) #[.pointer (some ⟨q, 0, none⟩)] #[])) w' := by
 have kU := under_any hb sh sb S n m w h.sl hd h.zh h.S0 hn hm
 obtain ⟨c0, c1, c2, c3, ⟨x4, c4⟩, c5, sl, zq, zc, zs, zh, qc, qh, qs, ch, cs, hs, S0, h0, i0⟩ := h
 have hmf : ∀ (fn : Fn) (first cap : Array Value) (w : World), (Instr.makeFunc fn first cap).run Try.prog w = .ok (.func fn first cap) w := fun _ _ _ _ => rfl
 have qc' := Ne.symm qc; have qs' := Ne.symm qs; have cs' := Ne.symm cs; have qh' := Ne.symm qh; have ch' := Ne.symm ch; have hs' := Ne.symm hs
 clear hn hm S0 h0 i0
 go_enter Try.func97, Try.ntmps97
 go_wp2_with fail
 refine kU.mono ?_
 rintro e v ⟨rfl, hqv⟩
 have hcv := hqv.cell; have hfv := hqv.frozen
 go_wp2_with fail
 refine (choose_any q sb (n * 3) st v x4 x6 x7 (by simp [go_sem, *]) (by simp [go_sem, *]) (by simp [go_sem, *]) (fun o => by simp [go_sem, *]) (by simp [go_sem, *])).mono ?_
 rintro e u ⟨rfl, hqu⟩
 go_wp2_with fail
 go_end0
 exact ⟨rfl, (((hqv.set _ _).set _ _).set _ _).trans hqu⟩

theorem pick_hand_yes (q cb hb sh sb key home i S : Nat) (w : World) (h : Sr w q cb hb sh sb key home i S) (n m : Nat) (st : Int) (hn : n < S) (hm : (n + 1) % S = m) (hd : w.cell? ⟨hb, sh + 1, none⟩ = some (.int .i64 n)) (k2 : w.cell? ⟨sb, n * 3 + 2, none⟩ = some (.int .i64 st)) (x6 x7 : Value) (c6 : w.cell? ⟨q, 6, none⟩ = some x6) (c7 : w.cell? ⟨q, 7, none⟩ = some x7) (k1 : w.cell? ⟨sb, n * 3 + 1, none⟩ = some (.bool true)) (hi : S ≤ i) :
 Calls Try.prog 96 #[.pointer (some ⟨q, 0, none⟩)] w fun e w' => e = .returned (.int .i64 0) ∧ Qt ((w.setCell ⟨hb, sh + 1, none⟩ (.int .i64 m)).setCell ⟨sb, n * 3 + 1, none⟩ (.bool false)) w' := by
 have kP := fun (v : World) h1 h2 h3 => passed_yes q hb sh sb S (i : Int) (by omega) v h1 h2 h3
 have kH := fun (v : World) (hv : Sr v q cb hb sh sb key home i S) a b c d e => hand_yes q cb hb sh sb key home i S v hv n m st hn hm a b x6 x7 c d e
 have hh := h
 obtain ⟨c0, c1, c2, c3, ⟨x4, c4⟩, c5, sl, zq, zc, zs, zh, qc, qh, qs, ch, cs, hs, S0, h0, i0⟩ := h
 have hmf : ∀ (fn : Fn) (first cap : Array Value) (w : World), (Instr.makeFunc fn first cap).run Try.prog w = .ok (.func fn first cap) w := fun _ _ _ _ => rfl
 have qc' := Ne.symm qc; have qs' := Ne.symm qs; have cs' := Ne.symm cs; have qh' := Ne.symm qh; have ch' := Ne.symm ch; have hs' := Ne.symm hs
 clear hn hm S0 h0 i0 hi
 go_enter Try.func96, Try.ntmps96
 go_wp2_with fail
 refine (kP _ c1 c5 sl).mono ?_
 rintro e v ⟨rfl, hqv⟩
 go_wp2_with fail
 refine (kH v (hh.qt hqv) ((hqv.cell _).trans hd) ((hqv.cell _).trans k2) ((hqv.cell _).trans c6) ((hqv.cell _).trans c7) ((hqv.cell _).trans k1)).mono ?_
 rintro e u ⟨rfl, hqu⟩
 go_wp2_with fail
 go_ret
 exact ⟨rfl, ((hqv.set _ _).set _ _).trans hqu⟩

theorem pick_hand_no (q cb hb sh sb key home i S : Nat) (w : World) (h : Sr w q cb hb sh sb key home i S) (n m : Nat) (st : Int) (hn : n < S) (hm : (n + 1) % S = m) (hd : w.cell? ⟨hb, sh + 1, none⟩ = some (.int .i64 n)) (k2 : w.cell? ⟨sb, n * 3 + 2, none⟩ = some (.int .i64 st)) (x6 x7 : Value) (c6 : w.cell? ⟨q, 6, none⟩ = some x6) (c7 : w.cell? ⟨q, 7, none⟩ = some x7) (k1 : w.cell? ⟨sb, n * 3 + 1, none⟩ = some (.bool false)) (hi : S ≤ i) :
 Calls Try.prog 96 #[.pointer (some ⟨q, 0, none⟩)] w fun e w' => e = .returned (.int .i64 0) ∧ Qt ((((w.setCell ⟨hb, sh + 1, none⟩ (.int .i64 m)).setCell ⟨q, 6, none⟩ (.pointer (some ⟨sb, n * 3, none⟩))).setCell ⟨q, 7, none⟩ (.int .i64 st)).setCell ⟨q, 4, none⟩ (.func (.func 100) #[.pointer (some ⟨q, 0, none⟩)] #[])) w' := by
 have kP := fun (v : World) h1 h2 h3 => passed_yes q hb sh sb S (i : Int) (by omega) v h1 h2 h3
 have kH := fun (v : World) (hv : Sr v q cb hb sh sb key home i S) a b c d e => hand_no q cb hb sh sb key home i S v hv n m st hn hm a b x6 x7 c d e
 have hh := h
 obtain ⟨c0, c1, c2, c3, ⟨x4, c4⟩, c5, sl, zq, zc, zs, zh, qc, qh, qs, ch, cs, hs, S0, h0, i0⟩ := h
 have hmf : ∀ (fn : Fn) (first cap : Array Value) (w : World), (Instr.makeFunc fn first cap).run Try.prog w = .ok (.func fn first cap) w := fun _ _ _ _ => rfl
 have qc' := Ne.symm qc; have qs' := Ne.symm qs; have cs' := Ne.symm cs; have qh' := Ne.symm qh; have ch' := Ne.symm ch; have hs' := Ne.symm hs
 clear hn hm S0 h0 i0 hi
 go_enter Try.func96, Try.ntmps96
 go_wp2_with fail
 refine (kP _ c1 c5 sl).mono ?_
 rintro e v ⟨rfl, hqv⟩
 go_wp2_with fail
 refine (kH v (hh.qt hqv) ((hqv.cell _).trans hd) ((hqv.cell _).trans k2) ((hqv.cell _).trans c6) ((hqv.cell _).trans c7) ((hqv.cell _).trans k1)).mono ?_
 rintro e u ⟨rfl, hqu⟩
 go_wp2_with fail
 go_ret
 exact ⟨rfl, ((((hqv.set _ _).set _ _).set _ _).set _ _).trans hqu⟩

theorem pick_free (q cb hb sh sb key home i S : Nat) (w : World) (h : Sr w q cb hb sh sb key home i S) (j : Nat) (hj : (home + i) % S = j) (st : Int) (hi : i < S) (k0 : w.cell? ⟨sb, j * 3, none⟩ = some (.int .i64 0)) (k2 : w.cell? ⟨sb, j * 3 + 2, none⟩ = some (.int .i64 st)) (x6 x7 : Value) (c6 : w.cell? ⟨q, 6, none⟩ = some x6) (c7 : w.cell? ⟨q, 7, none⟩ = some x7) :
 Calls Try.prog 96 #[.pointer (some ⟨q, 0, none⟩)] w fun e w' => e = .returned (.int .i64 0) ∧ Qt (((w.setCell ⟨q, 6, none⟩ (.pointer (some ⟨sb, j * 3, none⟩))).setCell ⟨q, 7, none⟩ (.int .i64 st)).setCell ⟨q, 4, none⟩ (.func (.func 100) #[.pointer (some ⟨q, 0, none⟩)] #[])) w' := by
 have kS := fun (v : World) (hv : Qt w v) => slot_any q hb sh sb home i S j v ((hv.cell _).trans h.c1) ((hv.cell _).trans h.c3) ((hv.cell _).trans h.c5) ((hv.cell _).trans h.sl) h.S0 h.h0 h.i0 hj
 have kP := fun (v : World) h1 h2 h3 => passed_no q hb sh sb S (i : Int) (by omega) v h1 h2 h3
 obtain ⟨c0, c1, c2, c3, ⟨x4, c4⟩, c5, sl, zq, zc, zs, zh, qc, qh, qs, ch, cs, hs, S0, h0, i0⟩ := h
 have hmf : ∀ (fn : Fn) (first cap : Array Value) (w : World), (Instr.makeFunc fn first cap).run Try.prog w = .ok (.func fn first cap) w := fun _ _ _ _ => rfl
 have qc' := Ne.symm qc; have qs' := Ne.symm qs; have cs' := Ne.symm cs; have qh' := Ne.symm qh; have ch' := Ne.symm ch; have hs' := Ne.symm hs
 clear hj S0 h0 i0 hi
 go_enter Try.func96, Try.ntmps96
 go_wp2_with fail
 refine (kP _ c1 c5 sl).mono ?_
 rintro e v ⟨rfl, hqv⟩
 have hcv := hqv.cell; have hfv := hqv.frozen
 go_wp2_with fail
 refine (kS _ hqv).mono ?_
 rintro e v2 ⟨rfl, hqv2⟩
 have hcv2 := hqv2.cell; have hfv2 := hqv2.frozen
 go_wp2_with fail
 refine (kS _ (hqv.trans hqv2)).mono ?_
 rintro e v3 ⟨rfl, hqv3⟩
 have hcv3 := hqv3.cell; have hfv3 := hqv3.frozen
 go_wp2_with fail
 refine (choose_any q sb (j * 3) st v3 x4 x6 x7 (by simp [go_sem, *]) (by simp [go_sem, *]) (by simp [go_sem, *]) (fun o => by simp [go_sem, *]) (by simp [go_sem, *])).mono ?_
 rintro e u ⟨rfl, hqu⟩
 go_wp2_with fail
 go_ret
 exact ⟨rfl, (((((hqv.trans hqv2).trans hqv3).set _ _).set _ _).set _ _).trans hqu⟩

theorem pick_on (q cb hb sh sb key home i S : Nat) (w : World) (h : Sr w q cb hb sh sb key home i S) (j : Nat) (hj : (home + i) % S = j) (n : Nat) (hn : ¬ n = 0) (hi : i < S) (k0 : w.cell? ⟨sb, j * 3, none⟩ = some (.int .i64 n)) :
 Calls Try.prog 96 #[.pointer (some ⟨q, 0, none⟩)] w fun e w' => e = .returned (.int .i64 0) ∧ Qt (w.setCell ⟨q, 5, none⟩ (.int .i64 ((i : Int) + 1))) w' := by
 have kS := fun (v : World) (hv : Qt w v) => slot_any q hb sh sb home i S j v ((hv.cell _).trans h.c1) ((hv.cell _).trans h.c3) ((hv.cell _).trans h.c5) ((hv.cell _).trans h.sl) h.S0 h.h0 h.i0 hj
 have kP := fun (v : World) h1 h2 h3 => passed_no q hb sh sb S (i : Int) (by omega) v h1 h2 h3
 obtain ⟨c0, c1, c2, c3, ⟨x4, c4⟩, c5, sl, zq, zc, zs, zh, qc, qh, qs, ch, cs, hs, S0, h0, i0⟩ := h
 have hmf : ∀ (fn : Fn) (first cap : Array Value) (w : World), (Instr.makeFunc fn first cap).run Try.prog w = .ok (.func fn first cap) w := fun _ _ _ _ => rfl
 have qc' := Ne.symm qc; have qs' := Ne.symm qs; have cs' := Ne.symm cs; have qh' := Ne.symm qh; have ch' := Ne.symm ch; have hs' := Ne.symm hs
 have f1 : IntKind.i64.wrap ((i : Int) + 1) = (i : Int) + 1 := by simp only [IntKind.wrap_i64]; omega
 clear hj S0 h0 i0 hi
 go_enter Try.func96, Try.ntmps96
 go_wp2_with fail
 refine (kP _ c1 c5 sl).mono ?_
 rintro e v ⟨rfl, hqv⟩
 have hcv := hqv.cell; have hfv := hqv.frozen
 go_wp2_with fail
 refine (kS _ hqv).mono ?_
 rintro e v2 ⟨rfl, hqv2⟩
 have hcv2 := hqv2.cell; have hfv2 := hqv2.frozen
 go_wp2_with fail
 go_ret
 exact ⟨rfl, (hqv.trans hqv2).set _ _⟩

theorem swap_lost (q cb hb sh sb key home i S : Nat) (w : World) (h : Sr w q cb hb sh sb key home i S) (o : Nat) (st sn : Nat) (c6 : w.cell? ⟨q, 6, none⟩ = some (.pointer (some ⟨sb, o, none⟩))) (c7 : w.cell? ⟨q, 7, none⟩ = some (.int .i64 sn)) (k2 : w.cell? ⟨sb, o + 2, none⟩ = some (.int .i64 st)) (hne : ¬ st = sn) (n : Nat) (hn : n < 1000000) (kc : w.cell? ⟨cb, 4, none⟩ = some (.int .i64 n)) :
 Calls Try.prog 100 #[.pointer (some ⟨q, 0, none⟩)] w fun e w' => e = .returned (.int .i64 0) ∧ Qt (((w.setCell ⟨cb, 4, none⟩ (.int .i64 ((n : Int) + 1))).setCell ⟨q, 5, none⟩ (.int .i64 0)).setCell ⟨q, 4, none⟩ (.func (.func 92) #[.pointer (some ⟨q, 0, none⟩)] #[])) w' := by
 obtain ⟨c0, c1, c2, c3, ⟨x4, c4⟩, c5, sl, zq, zc, zs, zh, qc, qh, qs, ch, cs, hs, S0, h0, i0⟩ := h
 have hmf : ∀ (fn : Fn) (first cap : Array Value) (w : World), (Instr.makeFunc fn first cap).run Try.prog w = .ok (.func fn first cap) w := fun _ _ _ _ => rfl
 have qc' := Ne.symm qc; have qs' := Ne.symm qs; have cs' := Ne.symm cs; have qh' := Ne.symm qh; have ch' := Ne.symm ch; have hs' := Ne.symm hs
 have f1 : IntKind.i64.wrap ((n : Int) + 1) = (n : Int) + 1 := by simp only [IntKind.wrap_i64]; omega
 clear S0 h0 i0 hn
 go_enter Try.func100, Try.ntmps100
 go_wp2_with fail
 go_quiet (fail)
 go_wp2_with fail
 refine (begin_any q _ x4 (.int .i64 i) (by simp [go_sem, *]) (by simp [go_sem, *]) (by simp [go_sem, *]) (by simp [go_sem, *])).mono ?_
 rintro e u ⟨rfl, rfl⟩
 go_wp2_with fail
 go_ret
 exact ⟨rfl, (((Qt.drewN _ _).set _ _).set _ _).set _ _⟩

theorem swap_new (q cb hb sh sb key home i S : Nat) (w : World) (h : Sr w q cb hb sh sb key home i S) (o : Nat) (st : Nat) (hst : st < 1000000) (c6 : w.cell? ⟨q, 6, none⟩ = some (.pointer (some ⟨sb, o, none⟩))) (c7 : w.cell? ⟨q, 7, none⟩ = some (.int .i64 st)) (k2 : w.cell? ⟨sb, o + 2, none⟩ = some (.int .i64 st)) (n : Nat) (x : Bool) (kn : w.cell? ⟨cb, 2, none⟩ = some (.int .i64 n)) (hn : n < 1000000) (k0 : w.cell? ⟨sb, o, none⟩ = some (.int .i64 0)) (k1 : w.cell? ⟨sb, o + 1, none⟩ = some (.bool x)) :
 Calls Try.prog 100 #[.pointer (some ⟨q, 0, none⟩)] w fun e w' => e = .returned (.int .i64 2) ∧ Qt (((((w).setCell ⟨sb, o, none⟩ (.int .i64 key)).setCell ⟨sb, o + 1, none⟩ (.bool false)).setCell ⟨sb, o + 2, none⟩ (.int .i64 ((st : Int) + 1))).setCell ⟨cb, 2, none⟩ (.int .i64 ((n : Int) + 1))) w' := by
 obtain ⟨c0, c1, c2, c3, ⟨x4, c4⟩, c5, sl, zq, zc, zs, zh, qc, qh, qs, ch, cs, hs, S0, h0, i0⟩ := h
 have hmf : ∀ (fn : Fn) (first cap : Array Value) (w : World), (Instr.makeFunc fn first cap).run Try.prog w = .ok (.func fn first cap) w := fun _ _ _ _ => rfl
 have qc' := Ne.symm qc; have qs' := Ne.symm qs; have cs' := Ne.symm cs; have qh' := Ne.symm qh; have ch' := Ne.symm ch; have hs' := Ne.symm hs
 have f1 : IntKind.i64.wrap ((n : Int) + 1) = (n : Int) + 1 := by simp only [IntKind.wrap_i64]; omega
 have f2 : IntKind.i64.wrap ((st : Int) + 1) = (st : Int) + 1 := by simp only [IntKind.wrap_i64]; omega
 clear S0 h0 i0 hn hst
 go_enter Try.func100, Try.ntmps100
 go_wp2_with fail
 go_quiet (fail)
 go_wp2_with fail
 go_region
 go_wp2_with fail
 go_ret
 exact ⟨rfl, ((((Qt.drewN _ _).set _ _).set _ _).set _ _).set _ _⟩

theorem swap_old (q cb hb sh sb key home i S : Nat) (w : World) (h : Sr w q cb hb sh sb key home i S) (o : Nat) (st : Nat) (hst : st < 1000000) (c6 : w.cell? ⟨q, 6, none⟩ = some (.pointer (some ⟨sb, o, none⟩))) (c7 : w.cell? ⟨q, 7, none⟩ = some (.int .i64 st)) (k2 : w.cell? ⟨sb, o + 2, none⟩ = some (.int .i64 st)) (n : Nat) (x : Bool) (ky : Nat) (hky : ¬ ky = 0) (kn : w.cell? ⟨cb, 2, none⟩ = some (.int .i64 n)) (hn : n < 1000000) (n2 : Nat) (hn2 : n2 < 1000000) (kc2 : w.cell? ⟨cb, 3, none⟩ = some (.int .i64 n2)) (k0 : w.cell? ⟨sb, o, none⟩ = some (.int .i64 ky)) (k1 : w.cell? ⟨sb, o + 1, none⟩ = some (.bool x)) :
 Calls Try.prog 100 #[.pointer (some ⟨q, 0, none⟩)] w fun e w' => e = .returned (.int .i64 2) ∧ Qt (((((w.setCell ⟨cb, 3, none⟩ (.int .i64 ((n2 : Int) + 1))).setCell ⟨sb, o, none⟩ (.int .i64 key)).setCell ⟨sb, o + 1, none⟩ (.bool false)).setCell ⟨sb, o + 2, none⟩ (.int .i64 ((st : Int) + 1))).setCell ⟨cb, 2, none⟩ (.int .i64 ((n : Int) + 1))) w' := by
 obtain ⟨c0, c1, c2, c3, ⟨x4, c4⟩, c5, sl, zq, zc, zs, zh, qc, qh, qs, ch, cs, hs, S0, h0, i0⟩ := h
 have hmf : ∀ (fn : Fn) (first cap : Array Value) (w : World), (Instr.makeFunc fn first cap).run Try.prog w = .ok (.func fn first cap) w := fun _ _ _ _ => rfl
 have qc' := Ne.symm qc; have qs' := Ne.symm qs; have cs' := Ne.symm cs; have qh' := Ne.symm qh; have ch' := Ne.symm ch; have hs' := Ne.symm hs
 have f1 : IntKind.i64.wrap ((n : Int) + 1) = (n : Int) + 1 := by simp only [IntKind.wrap_i64]; omega
 have f2 : IntKind.i64.wrap ((st : Int) + 1) = (st : Int) + 1 := by simp only [IntKind.wrap_i64]; omega
 have f3 : IntKind.i64.wrap ((n2 : Int) + 1) = (n2 : Int) + 1 := by simp only [IntKind.wrap_i64]; omega
 clear S0 h0 i0 hn hst
 go_enter Try.func100, Try.ntmps100
 go_wp2_with fail
 go_quiet (fail)
 go_wp2_with fail
 go_region
 go_wp2_with fail
 go_ret
 exact ⟨rfl, ((((((Qt.drewN _ _).set _ _).set _ _).set _ _).set _ _).set _ _).trans (Qt.drew _)⟩

end Go.Proofs.Ytdpbhbpcpnlbkaa
