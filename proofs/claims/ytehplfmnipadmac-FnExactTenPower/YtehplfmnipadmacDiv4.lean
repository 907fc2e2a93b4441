import Derived.Test.YtehplfmnipadmacDiv2
namespace Go.Proofs.Ytehplfmnipadmac
open Go.RowKit
set_option linter.unusedVariables false
set_option maxRecDepth 100000

theorem M.limb_step {T' T r x q r' d : Nat} {B : Nat} (h : T' * d + r = T) (hq : q * d + r' = r * B + x) : (q + B * T') * d + r' = x + B * T := by
  rw [← h, Nat.add_mul, Nat.mul_add, Nat.mul_assoc, Nat.mul_comm B r]
  omega

theorem M.drop_take_set (cur : List Nat) (N k x : Nat) (hk : k < N) (hl : N ≤ cur.length) : V (((cur.set k x).take N).drop k) = x + 18446744073709551616 * V ((cur.take N).drop (k + 1)) := by
  rw [List.take_set, V_drop _ _ (by simp; omega), M.getD_set_eq _ _ _ (by simp; omega), List.drop_set_of_lt (by omega)]

set_option maxHeartbeats 1000000 in
theorem divLimbIn_any (g N cap d : Nat) (ao : Option Addr) (zs : List Nat) (w : World) (hao : 0 < N → ao = some ⟨g, 0, none⟩) (hB : Blk w g zs) (hz : F64 zs) (ho : N ≤ zs.length) (hN : N ≤ 4194304) (hd : 0 < d) (hdb : d < 18446744073709551616) :
    Calls Try.prog 92 #[.slice ao N cap, .int .u64 (d : Int)] w fun e w' => e = .returned (.int .u64 ((V (zs.take N) % d : Nat) : Int)) ∧ w.grownBy w' (some g) ∧ ∃ cur, Blk w' g cur ∧ M.Wrote 18446744073709551616 zs 0 N cur ∧ V (cur.take N) = V (zs.take N) / d := by
  go_enter Try.func92, Try.ntmps92
  go_wp2_with fail
  go_loopw [5, 6] (fun rs i wr => ∃ (k : Nat) (cur : List Nat) (r : Nat), k ≤ N ∧ i = .int .i64 ((k : Int) - 1) ∧ rs = .int .u64 (r : Int) ∧ r < d ∧ Blk wr g cur ∧ M.Wrote 18446744073709551616 zs 0 N cur ∧ w.grownBy wr (some g) ∧ (∀ j, j < k → cur.getD j 0 = zs.getD j 0) ∧ V ((cur.take N).drop k) * d + r = V ((zs.take N).drop k)) (fun _ i _ => (intOf i + 1).toNat)
  case atStart =>
    refine ⟨N, zs, 0, by omega, by go_num, rfl, hd, hB, M.Wrote.refl hz _ _, World.grownBy.refl _ _, fun _ _ => rfl, ?_⟩
    rw [List.drop_of_length_le (by rw [List.length_take]; omega)]; simp [V, M.val]
  case round =>
    obtain ⟨k, cur, r, hk, rfl, rfl, hrd, hBk, hW, hg, hlow, hv⟩ := hrel
    have HV := hid hv; clear hv
    have HL := hid hlow; clear hlow
    by_cases hlt : 0 < k
    · obtain ⟨k, rfl⟩ : ∃ k', k = k' + 1 := ⟨k - 1, by omega⟩
      have e1 : (((k + 1 : Nat) : Int) - 1) = (k : Int) := by omega
      rw [e1]
      have hao' := hao (by omega)
      have hcs := hBk.cell k (by have := hW.len; omega)
      have hfs := hBk.frozen k
      rw [HL.out k (by omega)] at hcs
      have hx1 : zs.getD k 0 < 18446744073709551616 := F64.get hz k
      obtain ⟨x, hxx⟩ : ∃ x : Nat, x = zs.getD k 0 := ⟨_, rfl⟩
      rw [← hxx] at hcs hx1
      have HX := hid hxx; clear hxx
      have hge : (0 : Int) ≤ (k : Int) := by omega
      have hlt2 : (k : Int) < (N : Int) := by omega
      obtain ⟨Q, hQ⟩ : ∃ Q, Q = (r * 18446744073709551616 + x) / d := ⟨_, rfl⟩
      obtain ⟨R, hR⟩ : ∃ R, R = (r * 18446744073709551616 + x) % d := ⟨_, rfl⟩
      have hRd : R < d := by rw [hR]; exact Nat.mod_lt _ hd
      have hsum : Q * d + R = r * 18446744073709551616 + x := by rw [hQ, hR, Nat.mul_comm]; exact Nat.div_add_mod _ _
      have hQb : Q < 18446744073709551616 := by
        rw [hQ, Nat.div_lt_iff_lt_mul hd]
        have h1 : (r + 1) * 18446744073709551616 ≤ d * 18446744073709551616 := Nat.mul_le_mul_right _ hrd
        rw [Nat.mul_comm 18446744073709551616 d]; omega
      have EQ := hid hQ; have ER := hid hR; have ES := hid hsum
      clear hQ hR hsum
      have HB := hid hBk; clear hBk
      have HG := hid hg; clear hg
      go_wp2_with fail
      refine (div64_any r x d _ hx1 hdb hrd Q R EQ.out ER.out).mono ?_
      rintro e v1 ⟨rfl, q1, hv1⟩
      have hcs1 : v1.cell? ⟨g, k, none⟩ = some (.int .u64 (x : Int)) := by rw [hv1]; exact hcs
      have hfs1 : v1.frozen? ⟨g, k, none⟩ = false := by rw [hv1]; exact hfs
      have hB1 : Blk v1 g cur := by rw [hv1]; exact HB.out.drewN _
      have hg1 : w.grownBy v1 (some g) := by rw [hv1]; exact grown_trans HG.out (grown_drewN _ _ _)
      clear hv1 hcs hfs
      have HB1 := hid hB1; have HG1 := hid hg1
      clear hB1 hg1
      go_wp2_with fail
      have hW3 := hW.set k Q (by omega) hQb
      rw [Nat.zero_add] at hW3
      go_roundw
      case rel =>
        have R : ∃ (k1 : Nat) (cur1 : List Nat) (r1 : Nat), k1 ≤ N ∧ Value.int .i64 ((k : Int) - 1) = .int .i64 ((k1 : Int) - 1) ∧ Value.int .u64 (R : Int) = .int .u64 (r1 : Int) ∧ r1 < d ∧ Blk (v1.setCell ⟨g, k, none⟩ (.int .u64 (Q : Int))) g cur1 ∧ M.Wrote 18446744073709551616 zs 0 N cur1 ∧ w.grownBy (v1.setCell ⟨g, k, none⟩ (.int .u64 (Q : Int))) (some g) ∧ (∀ j, j < k1 → cur1.getD j 0 = zs.getD j 0) ∧ V ((cur1.take N).drop k1) * d + r1 = V ((zs.take N).drop k1) := by
          refine ⟨k, cur.set k Q, R, by omega, rfl, rfl, hRd, HB1.out.set _ _ _ rfl, hW3, grown_trans HG1.out (grown_setCell _ _ _ _), fun j hj => ?_, ?_⟩
          · rw [M.getD_set_ne _ _ _ _ (by omega)]; exact HL.out j (by omega)
          · rw [M.drop_take_set _ _ _ _ (by omega) (by have := hW.len; omega), V_drop (zs.take N) k (by simp; omega)]
            have e2 : (zs.take N).getD k 0 = x := by rw [HX.out]; simp [List.getD_eq_getElem?_getD, List.getElem?_take]; rw [if_pos (by omega)]
            rw [e2]
            exact M.limb_step HV.out ES.out
        first | exact R | ((repeat apply Exists.intro); exact ⟨R, rfl⟩) | ((repeat apply Exists.intro); exact ⟨R, by rw [hao']⟩)
      case measure => simp [intOf] <;> omega
    · have e : k = 0 := by omega
      subst e
      have HBk := hid hBk; clear hBk
      have HG := hid hg; clear hg
      have hge : ¬ (0 : Int) ≤ ((0 : Nat) : Int) - 1 := by omega
      go_wp2_with fail
      go_ret
      have h1 := HV.out
      simp only [List.drop_zero] at h1
      have h2 : V (zs.take N) % d = r := by rw [← h1, Nat.mul_comm, Nat.mul_add_mod, Nat.mod_eq_of_lt hrd]
      have h3 : V (zs.take N) / d = V (cur.take N) := by rw [← h1, Nat.mul_comm, Nat.mul_add_div hd, Nat.div_eq_of_lt hrd, Nat.add_zero]
      have h4 : ((V (zs.take N) : Nat) : Int) % (d : Int) = (r : Int) := by rw [← Int.natCast_emod, h2]
      exact ⟨by rw [h4]; rfl, HG.out, cur, HBk.out, hW, h3.symm⟩

end Go.Proofs.Ytehplfmnipadmac
