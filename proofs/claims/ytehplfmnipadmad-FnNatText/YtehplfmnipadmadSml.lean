/-
  spec.l1Small: division of a number by a small one.
-/
import Derived.Test.YtehplfmnipadmadW1
import Derived.Test.YtehplfmnipadmadW8a
import Derived.Test.YtehplfmnipadmadCom
import Derived.Test.YtehplfmnipadmadSeg
namespace Go.Proofs.Ytehplfmnipadmad
open Go.RowKit
set_option linter.unusedVariables false
set_option maxRecDepth 100000

theorem X_drop (xs : List Nat) (k : Nat) (h : k < xs.length) : X (xs.drop k) = xs.getD k 0 + 4294967296 * X (xs.drop (k + 1)) := by
  rw [List.drop_eq_getElem_cons h]
  simp [X, M.val, List.getD_eq_getElem?_getD, List.getElem?_eq_getElem h]

theorem small_step {T' T r x q r' d : Nat} {B : Nat} (h : T' * d + r = T) (hq : q * d + r' = r * B + x) : (q + B * T') * d + r' = x + B * T := by
  rw [← h, Nat.add_mul, Nat.mul_add, Nat.mul_assoc, Nat.mul_comm B r]
  omega

set_option maxHeartbeats 1000000 in
theorem l1Small_any (ao : Option Addr) (n cap d a : Nat) (w : World) (hl : (D a).length = n) (hn : n ≤ 4194304) (hd : 0 < d) (hdb : d ≤ 4294967296) (hr : Rd w ao (D a)) :
    Calls Try.prog 85 #[.slice ao n cap, .int .u64 (d : Int)] w fun e w' => ∃ qa qc, e = .returned (.tuple #[.slice qa (D (a / d)).length qc, .int .u64 ((a % d : Nat) : Int)]) ∧ w'.ownsRow w.heap.size 32 1 (.slice qa (D (a / d)).length qc) (D (a / d)).length (U (D (a / d))) ∧ Below w.heap.size w w' := by
  obtain ⟨i0, hi, hz0, hz1, hz2⟩ := info_parts Try.infoU
  have hmk := fun (wx : World) => run_make (P := Try.prog) wx 23 32 i0 (.int .u64 0) Try.underlying23 hi hz0 .i64 .i64 (n : Int) (n : Int) (by omega) (Int.le_refl _) (by rw [hz2]; omega) (by omega)
  have et : ((n : Int)).toNat = n := by omega
  rw [et] at hmk
  go_enter Try.func85, Try.ntmps85
  go_wp2
  go_loopw [7, 8] (fun rs i wr => ∃ (k : Nat) (cur : List Nat) (r : Nat), k ≤ n ∧ i = .int .i64 ((k : Int) - 1) ∧ rs = .int .u64 (r : Int) ∧ r < d ∧ Blk wr w.heap.size cur ∧ cur.length = n ∧ (∀ x ∈ cur, x < 4294967296) ∧ Below w.heap.size w wr ∧ X (cur.drop k) * d + r = X ((D a).drop k)) (fun _ i _ => (intOf i + 1).toNat)
  case atStart =>
    refine ⟨n, List.replicate n 0, 0, Nat.le_refl _, by go_num, rfl, hd, blk_made _ _, by simp, ?_, (Below.refl _ _).alloc (Nat.le_refl _) _, ?_⟩
    · intro x hx; rw [List.eq_of_mem_replicate hx]; omega
    · rw [List.drop_of_length_le (by simp), List.drop_of_length_le (by omega)]; simp [X, M.val]
  case round =>
    obtain ⟨k, cur, r, hk, rfl, rfl, hrd, hB, hcl, hcf, hbl, hv⟩ := hrel
    have HV := hid hv; clear hv
    by_cases hlt : 0 < k
    · obtain ⟨k, rfl⟩ : ∃ k', k = k' + 1 := ⟨k - 1, by omega⟩
      have e1 : (((k + 1 : Nat) : Int) - 1) = (k : Int) := by omega
      rw [e1]
      obtain ⟨b2, o2, hao, hc2⟩ := hr (by omega)
      subst hao
      have hca := (hbl.cell (p := ⟨b2, o2 + k, none⟩) (World.block_lt_of_cell? w _ (hc2 k (by omega)))).trans (hc2 k (by omega))
      clear hc2
      have hcs := hB.cell k (by omega)
      have hfs := hB.frozen k
      have hx1 : (D a).getD k 0 < 4294967296 := (F32_D a).get k
      have hxs := X_drop (D a) k (by omega)
      obtain ⟨x, hxx⟩ : ∃ x : Nat, x = (D a).getD k 0 := ⟨_, rfl⟩
      rw [← hxx] at hca hx1 hxs
      obtain ⟨o, hoo⟩ : ∃ o : Nat, o = cur.getD k 0 := ⟨_, rfl⟩
      rw [← hoo] at hcs
      clear hxx hoo
      have hge : (0 : Int) ≤ (k : Int) := by omega
      have hlt2 : (k : Int) < (n : Int) := by omega
      obtain ⟨s, hs⟩ : ∃ s, s = x + r * 4294967296 := ⟨_, rfl⟩
      have hsb : s < d * 4294967296 := by
        have : (r + 1) * 4294967296 ≤ d * 4294967296 := Nat.mul_le_mul_right _ hrd
        omega
      have hs64 : s < 18446744073709551616 := by omega
      have hor : bits BinOp.or IntKind.u64 ((r : Int) * 4294967296) (x : Int) = (s : Int) := by
        have h1 := or_pair x r hx1 (by omega)
        have h2 : bits BinOp.or IntKind.u64 ((r : Int) * 4294967296) (x : Int) = bits BinOp.or IntKind.u64 (x : Int) ((r : Int) * 4294967296) := by
          simp only [bits]
          rw [BitVec.or_comm]
        rw [h2, h1, hs]
      have hsh : IntKind.u64.wrap ((r : Int) * 4294967296) = (r : Int) * 4294967296 := by rw [IntKind.wrap_u64]; omega
      obtain ⟨Q, hQ⟩ : ∃ Q, Q = s / d := ⟨_, rfl⟩
      obtain ⟨R, hR⟩ : ∃ R, R = s % d := ⟨_, rfl⟩
      have hRd : R < d := by rw [hR]; exact Nat.mod_lt _ hd
      have hsum : Q * d + R = r * 4294967296 + x := by rw [hQ, hR, Nat.mul_comm, Nat.div_add_mod, hs]; omega
      have hQb : Q < 4294967296 := by rw [hQ, Nat.div_lt_iff_lt_mul hd, Nat.mul_comm]; exact hsb
      have hq' : (s : Int).tdiv (d : Int) = (Q : Int) := by rw [hQ]; rfl
      have hr' : (s : Int).tmod (d : Int) = (R : Int) := by rw [hR]; rfl
      have hd0 : ((d : Int) == 0) = false := by simp; omega
      have hd1 : ¬ (d : Int) = 0 := by omega
      have HS := hid hs; have HQ := hid hQ; have HR := hid hR; have HSM := hid hsum; have HB := hid hB; have HBL := hid hbl; have HXS := hid hxs
      clear hs hQ hR hsum hB hbl hxs
      go_wp2_with fail
      go_roundw
      case rel =>
        refine ⟨k, cur.set k Q, R, by omega, rfl, rfl, hRd, HB.out.set k Q _ rfl, by simp [hcl], ?_, HBL.out.setCell (p := ⟨w.heap.size, k, none⟩) (Nat.le_refl _) _, ?_⟩
        · intro y hy
          rcases List.mem_or_eq_of_mem_set hy with h | h
          · exact hcf y h
          · omega
        · rw [X_drop _ k (by simp; omega), M.getD_set_eq _ _ _ (by omega), List.drop_set_of_lt (by omega), HXS.out]
          exact small_step HV.out HSM.out
      case measure => simp [intOf]
    · have hk0 : k = 0 := by omega
      subst hk0
      have hv := HV.out
      rw [List.drop_zero, List.drop_zero, X_D] at hv
      have hq : X cur = a / d := by
        rw [← hv, Nat.mul_comm, Nat.mul_add_div hd, Nat.div_eq_of_lt hrd, Nat.add_zero]
      have hm : a % d = r := by rw [← hv, Nat.mul_comm, Nat.mul_add_mod, Nat.mod_eq_of_lt hrd]
      have kT := l1Trim_any 4294967296 (by omega) (some ⟨w.heap.size, 0, none⟩) n n cur wr hcl (Nat.le_refl _) (by omega) hcf hB.rd0
      have HB := hid hB; have HBL := hid hbl; have HM := hid hm; have HQ := hid hq
      clear hB hbl hm hq hv
      go_wp2_with fail
      refine kT.mono ?_
      rintro e w2 ⟨qa, qc, rfl, ho, hb⟩
      have e1 : M.dig 4294967296 (M.val 4294967296 cur) = D (a / d) := by show D (X cur) = _; rw [HQ.out]
      rw [e1] at ho ⊢
      go_wp2_with fail
      go_ret2
      rw [HM.out]
      exact ⟨qa, qc, rfl, own_base ho HBL.out.size, HBL.out.trans (hb.mono HBL.out.size)⟩

end Go.Proofs.Ytehplfmnipadmad
