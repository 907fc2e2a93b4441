import Derived.Deep.RegionHeld3
import Derived.BigRegion
import Derived.Test.YtdpbhbpcpnlbkaaaSh1
import Derived.Test.YtdpbhbpcpnlbkaaaCa1
set_option maxHeartbeats 2000000
namespace Go.Proofs.Ytdpbhbpcpnlbkaa
open Go.RowKit Go.Maps
set_option linter.unusedVariables false
set_option maxRecDepth 100000
structure Ss (w : World) (qb sb hb nb o N S : Nat) (k : Int × Int) (ph i : Nat) : Prop where
 q0 : w.cell? ⟨qb, 0, none⟩ = some (.int .i64 N)
 q1 : w.cell? ⟨qb, 1, none⟩ = some (.int .i64 S)
 q2 : w.cell? ⟨qb, 2, none⟩ = some (.slice (some ⟨sb, 0, none⟩) (N * S) (N * S))
 q3 : w.cell? ⟨qb, 3, none⟩ = some (.slice (some ⟨hb, 0, none⟩) N N)
 n0 : w.cell? ⟨nb, o, none⟩ = some (.int .i64 k.1)
 n1 : w.cell? ⟨nb, o + 1, none⟩ = some (.int .i64 k.2)
 n2 : w.cell? ⟨nb, o + 2, none⟩ = some (.int .i64 ph)
 n3 : w.cell? ⟨nb, o + 3, none⟩ = some (.int .i64 i)
 n4 : ∃ x, w.cell? ⟨nb, o + 4, none⟩ = some x
 n5 : ∃ x, w.cell? ⟨nb, o + 5, none⟩ = some x
 zq : ∀ a, w.frozen? ⟨qb, a, none⟩ = false
 zs : ∀ a, w.frozen? ⟨sb, a, none⟩ = false
 zh : ∀ a, w.frozen? ⟨hb, a, none⟩ = false
 zn : ∀ a, w.frozen? ⟨nb, a, none⟩ = false
 lq : qb < w.heap.size
 ls : sb < w.heap.size
 lh : hb < w.heap.size
 ln : nb < w.heap.size
 qs : qb ≠ sb
 qh : qb ≠ hb
 qn : qb ≠ nb
 sh : sb ≠ hb
 sn : sb ≠ nb
 hn : hb ≠ nb
 dN : 0 < N ∧ N ≤ 16
 dS : 0 < S ∧ S ≤ 64
 di : i ≤ 64

theorem Ss.below {w v : World} {qb sb hb nb o N S : Nat} {k : Int × Int} {ph i : Nat} (h : Ss w qb sb hb nb o N S k ph i) (b : Below w.heap.size w v) : Ss v qb sb hb nb o N S k ph i := by
 obtain ⟨q0, q1, q2, q3, n0, n1, n2, n3, ⟨x4, n4⟩, ⟨x5, n5⟩, zq, zs, zh, zn, lq, ls, lh, ln, r1, r2, r3, r4, r5, r6, r7, r8, r9⟩ := h
 have c := fun (g a : Nat) (hg : g < w.heap.size) => b.cell (p := ⟨g, a, none⟩) hg
 have f : ∀ (g a : Nat) (hg : g < w.heap.size), v.frozen? ⟨g, a, none⟩ = w.frozen? ⟨g, a, none⟩ := fun g a hg => by simp [World.frozen?, b.block g hg]
 exact ⟨(c _ _ lq).trans q0, (c _ _ lq).trans q1, (c _ _ lq).trans q2, (c _ _ lq).trans q3, (c _ _ ln).trans n0, (c _ _ ln).trans n1, (c _ _ ln).trans n2, (c _ _ ln).trans n3, ⟨x4, (c _ _ ln).trans n4⟩, ⟨x5, (c _ _ ln).trans n5⟩, fun a => (f _ _ lq).trans (zq a), fun a => (f _ _ ls).trans (zs a), fun a => (f _ _ lh).trans (zh a), fun a => (f _ _ ln).trans (zn a), Nat.lt_of_lt_of_le lq b.size, Nat.lt_of_lt_of_le ls b.size, Nat.lt_of_lt_of_le lh b.size, Nat.lt_of_lt_of_le ln b.size, r1, r2, r3, r4, r5, r6, r7, r8, r9⟩

theorem sp_make (qb sb hb nb o N S i sh hm B H j : Nat) (k : Int × Int) (w : World) (h : Ss w qb sb hb nb o N S k 1 i) (hk : keyOk k.1 k.2)
 (es : ((k.1 + 5200) * 7 + k.2).tmod (N : Int) = (sh : Int)) (eh : (k.1 + 5200 + 3 * k.2).tmod (S : Int) = (hm : Int)) (hsh : sh < N) (hhm : hm < S) (hB : sh * S = B) (hj : (hm + i) % S = j) (hH : B + j = H) (n : Nat) (hn6 : n < 1000000) (c5 : w.cell? ⟨qb, 5, none⟩ = some (.int .i64 n)) (R : Int → World → Prop) (r1 :  ∀ v w', Below w.heap.size w v → Qt (((v.setCell ⟨qb, 5, none⟩ (.int .i64 ((n : Int) + 1))).setCell ⟨nb, o + 2, none⟩ (.int .i64 2)).setCell ⟨nb, o + 3, none⟩ (.int .i64 0)) w' → R 0 w') :
 Calls Try.prog 36 #[.pointer (some ⟨qb, 0, none⟩), .pointer (some ⟨nb, o, none⟩)] w fun e w' => ∃ x : Int, e = .returned (.int .i64 x) ∧ R x w' := by
 have hcfg : cfgOk (N : Int) (S : Int) := by have := h.dN; have := h.dS; refine ⟨?_, ?_, ?_, ?_⟩ <;> omega
 have kS := fun u : World => sshard_any (N : Int) (S : Int) k.1 k.2 u
 have kH := fun u : World => shome_any (N : Int) (S : Int) k.1 k.2 u
 rw [if_pos ⟨hcfg, hk⟩, es] at kS
 rw [if_pos ⟨hcfg, hk⟩, eh] at kH
 have HH : Hid _ := h
 have dS := h.dS; have dN := h.dN; have di := h.di
 have hBle : B ≤ 1024 := by rw [← hB]; exact Nat.le_trans (Nat.mul_le_mul (Nat.le_of_lt hsh) dS.2) (by omega)
 have jlt : j < S := by rw [← hj]; exact Nat.mod_lt _ (by omega)
 have hHl : H < N * S := by
  rw [← hH, ← hB]
  have : (sh + 1) * S ≤ N * S := Nat.mul_le_mul (by omega) (Nat.le_refl _)
  rw [Nat.add_mul] at this; omega
 have f1 : IntKind.i64.wrap ((sh : Int) * (S : Int)) = (B : Int) := by rw [← hB] at *; simp only [IntKind.wrap_i64]; omega
 have f2 : IntKind.i64.wrap ((hm : Int) + (i : Int)) = ((hm + i : Nat) : Int) := by simp only [IntKind.wrap_i64]; omega
 have f3 : ((hm + i : Nat) : Int) % (S : Int) = (j : Int) := by rw [← hj]; simp
 have f3a : Int.tmod ((hm + i : Nat) : Int) (S : Int) = (j : Int) := by rw [Int.tmod_eq_emod_of_nonneg (by omega)]; exact f3
 have f3b : IntKind.i64.wrap (j : Int) = (j : Int) := by simp only [IntKind.wrap_i64]; omega
 have f4 : IntKind.i64.wrap ((B : Int) + (j : Int)) = (H : Int) := by simp only [IntKind.wrap_i64]; omega
 have f5 : ¬ (S : Int) = 0 := by omega
 have f5a : ((S : Int) == 0) = false := by simp only [beq_eq_false_iff_ne]; exact f5
 have f5b : decide ((S : Int) = 0) = false := decide_eq_false f5
 have f5c : ¬ S = 0 := by omega
 have f6 : ((H : Int) < ((N * S : Nat) : Int)) := by omega
 generalize (hm + i : Nat) = hi at f2 f3 f3a
 generalize hNS : N * S = M at *
 have R1 : Hid _ := r1
 clear r1
 clear es eh hcfg hk hB hj hH dS dN di
 obtain ⟨q0, q1, q2, q3, n0, n1, n2, n3, ⟨x4, n4⟩, ⟨x5, n5⟩, zq, zs, zh, zn, lq, ls, lh, ln, qs, qh, qn, s_h, sn, hn, dN, dS, di⟩ := h
 go_enter Try.func36, Try.ntmps36
 go_upto_region 1 with fail
 have KB : ∀ u : World, Below w.heap.size w u → (fun u : World => Below w.heap.size w u ∧ u.cell? ⟨qb, 0, none⟩ = some (.int .i64 N) ∧ u.cell? ⟨qb, 1, none⟩ = some (.int .i64 S) ∧ u.cell? ⟨nb, o, none⟩ = some (.int .i64 k.1) ∧ u.cell? ⟨nb, o + 1, none⟩ = some (.int .i64 k.2) ∧ u.cell? ⟨nb, o + 3, none⟩ = some (.int .i64 i)) u := fun u b => by
  have hh := HH.out.below b
  exact ⟨b, hh.q0, hh.q1, hh.n0, hh.n1, hh.n3⟩
 have A0 : Below w.heap.size w w.drew := (Below.refl _ _).drew
 go_region_held3 (fun u : World => Below w.heap.size w u ∧ u.cell? ⟨qb, 0, none⟩ = some (.int .i64 N) ∧ u.cell? ⟨qb, 1, none⟩ = some (.int .i64 S) ∧ u.cell? ⟨nb, o, none⟩ = some (.int .i64 k.1) ∧ u.cell? ⟨nb, o + 1, none⟩ = some (.int .i64 k.2) ∧ u.cell? ⟨nb, o + 3, none⟩ = some (.int .i64 i)) (first | with_reducible exact KB _ A0 | with_reducible exact KB _ B1)
  (first | (go_at_call 61; refine (kS _).mono ?_; rintro e u1 ⟨rfl, hb1⟩; have B1 := A0.trans (hb1.mono A0.size); clear hb1))
 have G1 := HH.out.below B1
 have g1 := G1.q1
 go_upto_region 3 with fail
 have A1 : Below w.heap.size w u1.drew := B1.drew
 go_region_held3 (fun u : World => Below w.heap.size w u ∧ u.cell? ⟨qb, 0, none⟩ = some (.int .i64 N) ∧ u.cell? ⟨qb, 1, none⟩ = some (.int .i64 S) ∧ u.cell? ⟨nb, o, none⟩ = some (.int .i64 k.1) ∧ u.cell? ⟨nb, o + 1, none⟩ = some (.int .i64 k.2) ∧ u.cell? ⟨nb, o + 3, none⟩ = some (.int .i64 i)) (first | with_reducible exact KB _ A1 | with_reducible exact KB _ B2)
  (first | (go_at_call 62; refine (kH _).mono ?_; rintro e u2 ⟨rfl, hb2⟩; have B2 := A1.trans (hb2.mono A1.size); clear hb2))
 clear G1 g1 KB A0 A1 kS kH f1 f2 f3 f3a f3b f4 q0 q1 q2 q3 n0 n1 n2 n3 n4 n5 zq zs zh zn x4 x5
 have G2 := HH.out.below B2
 obtain ⟨q0, q1, q2, q3, n0, n1, n2, n3, ⟨x4, n4⟩, ⟨x5, n5⟩, zq, zs, zh, zn, -, -, -, -, -⟩ := G2
 rw [hNS] at q2
 have d5 := (B2.cell (p := ⟨qb, 5, none⟩) lq).trans c5
 have f7 : IntKind.i64.wrap ((n : Int) + 1) = (n : Int) + 1 := by simp only [IntKind.wrap_i64]; omega
 clear c5
 go_wp2_with fail
 go_ret
 refine ⟨_, rfl, R1.out u2 _ B2 ?_⟩
 (repeat (first | with_reducible exact Qt.refl _ | with_reducible exact Qt.drewN _ _ | with_reducible refine Qt.set ?_ _ _ | with_reducible refine Qt.trans ?_ (Qt.drewN _ _)))

end Go.Proofs.Ytdpbhbpcpnlbkaa
