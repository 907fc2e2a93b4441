import Derived.Test.YtdpbhbpcpnlbkaaaCs1
set_option maxHeartbeats 2000000
namespace Go.Proofs.Ytdpbhbpcpnlbkaa
open Go.RowKit Go.Maps
set_option linter.unusedVariables false
set_option maxRecDepth 100000
theorem sp_hand (qb sb hb nb o N S i sh hm B H j H2 : Nat) (k : Int × Int) (w : World) (h : Ss w qb sb hb nb o N S k 2 i) (hk : keyOk k.1 k.2)
 (es : ((k.1 + 5200) * 7 + k.2).tmod (N : Int) = (sh : Int)) (eh : (k.1 + 5200 + 3 * k.2).tmod (S : Int) = (hm : Int)) (hsh : sh < N) (hhm : hm < S) (hB : sh * S = B) (hj : (hm + i) % S = j) (hH : B + j = H) (full mk : Bool) (kk : Int × Int) (st : Nat) (t0 : w.cell? ⟨sb, H2 * 5, none⟩ = some (.bool full)) (t1 : w.cell? ⟨sb, H2 * 5 + 1, none⟩ = some (.int .i64 kk.1)) (t2 : w.cell? ⟨sb, H2 * 5 + 2, none⟩ = some (.int .i64 kk.2)) (t3 : w.cell? ⟨sb, H2 * 5 + 3, none⟩ = some (.bool mk)) (t4 : w.cell? ⟨sb, H2 * 5 + 4, none⟩ = some (.int .i64 st)) (hi : ¬ i < S) (hd nx : Nat) (hhd : hd < S) (hH2 : B + hd = H2) (hnx : (hd + 1) % S = nx) (c0 : w.cell? ⟨hb, sh, none⟩ = some (.int .i64 hd)) (R : Int → World → Prop) (r1 : mk = true → ∀ v w', Below w.heap.size w v → Qt ((v.setCell ⟨hb, sh, none⟩ (.int .i64 nx)).setCell ⟨sb, H2 * 5 + 3, none⟩ (.bool false)) w' → R 0 w') (r2 : mk = false → ∀ v w', Below w.heap.size w v → Qt ((((v.setCell ⟨hb, sh, none⟩ (.int .i64 nx)).setCell ⟨nb, o + 4, none⟩ (.int .i64 H2)).setCell ⟨nb, o + 5, none⟩ (.int .i64 st)).setCell ⟨nb, o + 2, none⟩ (.int .i64 3)) w' → R 0 w') :
 Calls Try.prog 36 #[.pointer (some ⟨qb, 0, none⟩), .pointer (some ⟨nb, o, none⟩)] w fun e w' => ∃ x : Int, e = .returned (.int .i64 x) ∧ R x w' := by
 have hcfg : cfgOk (N : Int) (S : Int) := by have := h.dN; have := h.dS; refine ⟨?_, ?_, ?_, ?_⟩ <;> omega
 have kS := fun u : World => sshard_any (N : Int) (S : Int) k.1 k.2 u
 have kH := fun u : World => shome_any (N : Int) (S : Int) k.1 k.2 u
 rw [if_pos ⟨hcfg, hk⟩, es] at kS
 rw [if_pos ⟨hcfg, hk⟩, eh] at kH
 have HH : Hid _ := h
 have dS := h.dS; have dN := h.dN; have di := h.di
 have hBle : B ≤ 1024 := by rw [← hB]; exact Nat.le_trans (Nat.mul_le_mul (Nat.le_of_lt hsh) dS.2) (by omega)
 have jlt : j < S := by rw [← hj]; exact Nat.mod_lt _ (by omega)
 have hHl : H < N * S := by
  rw [← hH, ← hB]
  have : (sh + 1) * S ≤ N * S := Nat.mul_le_mul (by omega) (Nat.le_refl _)
  rw [Nat.add_mul] at this; omega
 have f1 : IntKind.i64.wrap ((sh : Int) * (S : Int)) = (B : Int) := by rw [← hB] at *; simp only [IntKind.wrap_i64]; omega
 have f2 : IntKind.i64.wrap ((hm : Int) + (i : Int)) = ((hm + i : Nat) : Int) := by simp only [IntKind.wrap_i64]; omega
 have f3 : ((hm + i : Nat) : Int) % (S : Int) = (j : Int) := by rw [← hj]; simp
 have f3a : Int.tmod ((hm + i : Nat) : Int) (S : Int) = (j : Int) := by rw [Int.tmod_eq_emod_of_nonneg (by omega)]; exact f3
 have f3b : IntKind.i64.wrap (j : Int) = (j : Int) := by simp only [IntKind.wrap_i64]; omega
 have f4 : IntKind.i64.wrap ((B : Int) + (j : Int)) = (H : Int) := by simp only [IntKind.wrap_i64]; omega
 have f5 : ¬ (S : Int) = 0 := by omega
 have f5a : ((S : Int) == 0) = false := by simp only [beq_eq_false_iff_ne]; exact f5
 have f5b : decide ((S : Int) = 0) = false := decide_eq_false f5
 have f5c : ¬ S = 0 := by omega
 have f6 : ((H : Int) < ((N * S : Nat) : Int)) := by omega
 generalize (hm + i : Nat) = hi at f2 f3 f3a
 generalize hNS : N * S = M at *
 have hH2l : H2 < M := by
  rw [← hH2, ← hB, ← hNS]
  have : (sh + 1) * S ≤ N * S := Nat.mul_le_mul (by omega) (Nat.le_refl _)
  rw [Nat.add_mul] at this; omega
 have R1 : Hid _ := r1
 have R2 : Hid _ := r2
 clear r1 r2
 clear es eh hcfg hk hB hj hH dS dN di
 obtain ⟨q0, q1, q2, q3, n0, n1, n2, n3, ⟨x4, n4⟩, ⟨x5, n5⟩, zq, zs, zh, zn, lq, ls, lh, ln, qs, qh, qn, s_h, sn, hn, dN, dS, di⟩ := h
 go_enter Try.func36, Try.ntmps36
 go_upto_region 1 with fail
 have KB : ∀ u : World, Below w.heap.size w u → (fun u : World => Below w.heap.size w u ∧ u.cell? ⟨qb, 0, none⟩ = some (.int .i64 N) ∧ u.cell? ⟨qb, 1, none⟩ = some (.int .i64 S) ∧ u.cell? ⟨nb, o, none⟩ = some (.int .i64 k.1) ∧ u.cell? ⟨nb, o + 1, none⟩ = some (.int .i64 k.2) ∧ u.cell? ⟨nb, o + 3, none⟩ = some (.int .i64 i)) u := fun u b => by
  have hh := HH.out.below b
  exact ⟨b, hh.q0, hh.q1, hh.n0, hh.n1, hh.n3⟩
 have A0 : Below w.heap.size w w.drew := (Below.refl _ _).drew
 go_region_held3 (fun u : World => Below w.heap.size w u ∧ u.cell? ⟨qb, 0, none⟩ = some (.int .i64 N) ∧ u.cell? ⟨qb, 1, none⟩ = some (.int .i64 S) ∧ u.cell? ⟨nb, o, none⟩ = some (.int .i64 k.1) ∧ u.cell? ⟨nb, o + 1, none⟩ = some (.int .i64 k.2) ∧ u.cell? ⟨nb, o + 3, none⟩ = some (.int .i64 i)) (first | with_reducible exact KB _ A0 | with_reducible exact KB _ B1)
  (first | (go_at_call 61; refine (kS _).mono ?_; rintro e u1 ⟨rfl, hb1⟩; have B1 := A0.trans (hb1.mono A0.size); clear hb1))
 have G1 := HH.out.below B1
 have g1 := G1.q1
 go_upto_region 3 with fail
 have A1 : Below w.heap.size w u1.drew := B1.drew
 go_region_held3 (fun u : World => Below w.heap.size w u ∧ u.cell? ⟨qb, 0, none⟩ = some (.int .i64 N) ∧ u.cell? ⟨qb, 1, none⟩ = some (.int .i64 S) ∧ u.cell? ⟨nb, o, none⟩ = some (.int .i64 k.1) ∧ u.cell? ⟨nb, o + 1, none⟩ = some (.int .i64 k.2) ∧ u.cell? ⟨nb, o + 3, none⟩ = some (.int .i64 i)) (first | with_reducible exact KB _ A1 | with_reducible exact KB _ B2)
  (first | (go_at_call 62; refine (kH _).mono ?_; rintro e u2 ⟨rfl, hb2⟩; have B2 := A1.trans (hb2.mono A1.size); clear hb2))
 clear G1 g1 KB A0 A1 kS kH f1 f2 f3 f3a f3b f4 q0 q1 q2 q3 n0 n1 n2 n3 n4 n5 zq zs zh zn x4 x5
 have G2 := HH.out.below B2
 obtain ⟨q0, q1, q2, q3, n0, n1, n2, n3, ⟨x4, n4⟩, ⟨x5, n5⟩, zq, zs, zh, zn, -, -, -, -, -⟩ := G2
 rw [hNS] at q2
 have s0 := (B2.cell (p := ⟨sb, H2 * 5, none⟩) ls).trans t0
 have s1 := (B2.cell (p := ⟨sb, H2 * 5 + 1, none⟩) ls).trans t1
 have s2 := (B2.cell (p := ⟨sb, H2 * 5 + 2, none⟩) ls).trans t2
 have s3 := (B2.cell (p := ⟨sb, H2 * 5 + 3, none⟩) ls).trans t3
 have s4 := (B2.cell (p := ⟨sb, H2 * 5 + 4, none⟩) ls).trans t4
 clear t0 t1 t2 t3 t4
 have c1 := (B2.cell (p := ⟨hb, sh, none⟩) lh).trans c0
 have hi' : ¬ (i : Int) < (S : Int) := by omega
 have hi'' : decide ((i : Int) < (S : Int)) = false := decide_eq_false hi'
 have g1 : IntKind.i64.wrap ((B : Int) + (hd : Int)) = (H2 : Int) := by simp only [IntKind.wrap_i64]; omega
 have g2 : IntKind.i64.wrap ((hd : Int) + 1) = ((hd + 1 : Nat) : Int) := by simp only [IntKind.wrap_i64]; omega
 have g3 : ((hd + 1 : Nat) : Int) % (S : Int) = (nx : Int) := by rw [← hnx]; simp
 have g3a : Int.tmod ((hd + 1 : Nat) : Int) (S : Int) = (nx : Int) := by rw [Int.tmod_eq_emod_of_nonneg (by omega)]; exact g3
 have g4 : ((sh : Int) < (N : Int)) := by omega
 have g5 : ((H2 : Int) < (M : Int)) := by omega
 generalize (hd + 1 : Nat) = hd1 at g2 g3 g3a
 clear c0 hH2 hnx
 obtain rfl | rfl : mk = true ∨ mk = false := by cases mk <;> simp
 · go_wp2_with fail
   go_quiet (fail)
   go_wp2_with fail
   go_region
   go_wp2_with fail
   go_ret
   refine ⟨_, rfl, R1.out (by trivial) u2 _ B2 ?_⟩
   (repeat (first | with_reducible exact Qt.refl _ | with_reducible exact Qt.drewN _ _ | with_reducible refine Qt.set ?_ _ _ | with_reducible refine Qt.trans ?_ (Qt.drewN _ _)))
 · go_wp2_with fail
   go_quiet (fail)
   go_wp2_with fail
   go_region
   go_wp2_with fail
   go_ret
   refine ⟨_, rfl, R2.out (by trivial) u2 _ B2 ?_⟩
   (repeat (first | with_reducible exact Qt.refl _ | with_reducible exact Qt.drewN _ _ | with_reducible refine Qt.set ?_ _ _ | with_reducible refine Qt.trans ?_ (Qt.drewN _ _)))

end Go.Proofs.Ytdpbhbpcpnlbkaa
