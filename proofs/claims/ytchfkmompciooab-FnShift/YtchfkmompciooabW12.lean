import Derived.Test.YtchfkmompciooabMulM
import Derived.Test.YtchfkmompciooabCom
import Derived.Test.YtchfkmompciooabW8a
namespace Go.Proofs.Ytchfkmompciooab
open Go.RowKit
set_option linter.unusedVariables false

theorem wrapMul (x y p : Nat) (hp : p = x * y) (hb : p < 18446744073709551616) : IntKind.u64.wrap ((x : Int) * (y : Int)) = (p : Int) := by
  have := wrapU p
  rw [Nat.mod_eq_of_lt hb] at this
  rw [← this, hp]; congr 1

theorem wrapAdd (x y p : Nat) (hp : p = x + y) (hb : p < 18446744073709551616) : IntKind.u64.wrap ((x : Int) + (y : Int)) = (p : Int) :=
  wrapU2 x y p (by omega)

/-- One place of a product of digits of 32 bits. -/
theorem M.mul32 (x y z c : Nat) (hx : x < 4294967296) (hy : y < 4294967296) (hz : z < 4294967296) (hc : c < 4294967296) :
    ∃ p p2 s : Nat, p = x * y ∧ p < 18446744073709551616 ∧ p2 = p + z ∧ p2 < 18446744073709551616 ∧ s = p2 + c ∧ s < 18446744073709551616 ∧ s / 4294967296 < 4294967296 ∧ s % 4294967296 + 4294967296 * (s / 4294967296) = z + y * x + c := by
  have hb : x * y ≤ 4294967295 * 4294967295 := Nat.mul_le_mul (by omega) (by omega)
  refine ⟨_, _, _, rfl, by omega, rfl, by omega, rfl, by omega, by omega, ?_⟩
  rw [Nat.mul_comm y x]
  generalize x * y = q at *
  omega

theorem M.inner {V V' V0 T c c' Pk Pj B x y z o : Nat} (h : V + c * (Pk * Pj) = V0 + (x * Pk) * T) (hv : V' + Pk * Pj * z = V + Pk * Pj * o) (hs : o + B * c' = z + y * x + c) : V' + c' * (Pk * Pj * B) = V0 + (x * Pk) * (T + Pj * y) := by
  have e2 : (x * Pk) * (Pj * y) = Pk * Pj * (y * x) := by
    simp only [Nat.mul_comm, Nat.mul_left_comm]
  rw [Nat.mul_add, e2]
  generalize Pk * Pj = P at *
  have e : P * (o + B * c') = P * (z + y * x + c) := by rw [hs]
  simp only [Nat.mul_add] at e
  rw [Nat.mul_comm c' (P * B), Nat.mul_assoc]
  rw [Nat.mul_comm c P] at h
  omega

set_option maxHeartbeats 2000000 in
theorem l1Mul_any (ao bo : Option Addr) (n m c d : Nat) (a b : Nat) (w : World) (hl : (D a).length = n) (hm : (D b).length = m) (hn : n ≤ 1048576) (hn2 : m ≤ 1048576) (hr : Rd w ao (D a)) (hr2 : Rd w bo (D b)) :
    Calls Try.prog 46 #[.slice ao n c, .slice bo m d] w fun e w' => Ret w w' e (D (a * b)) := by
  obtain ⟨i0, hi, hz0, hz1, hz2⟩ := info_parts Try.infoU
  have hmk := fun (wx : World) => run_make (P := Try.prog) wx 22 34 i0 (.int .u64 0) Try.underlying22 hi hz0 .i64 .i64 ((n + m + 1 : Nat) : Int) ((n + m + 1 : Nat) : Int) (by omega) (Int.le_refl _) (by rw [hz2]; omega) (by omega)
  have es : ((n + m + 1 : Nat) : Int) = (n : Int) + (m : Int) + 1 := by omega
  rw [es] at hmk
  have et : ((n : Int) + (m : Int) + 1).toNat = n + m + 1 := by omega
  rw [et] at hmk
  clear es et
  have fa := F32_D a
  have fb := F32_D b
  go_enter Try.func46, Try.ntmps46
  go_wp2_with fail
  go_loopw [6] (fun i wr => ∃ (k : Nat) (cur : List Nat), k ≤ n ∧ i = .int .i64 k ∧ Blk wr w.heap.size cur ∧ cur.length = n + m + 1 ∧ F32 cur ∧ (∀ j, m + k ≤ j → cur.getD j 0 = 0) ∧ X cur = b * X ((D a).take k) ∧ Below w.heap.size w wr) (fun i _ => n - (intOf i).toNat)
  case atStart =>
    refine ⟨0, List.replicate (n + m + 1) 0, by omega, rfl, blk_made w (n + m + 1), by simp, fun x hx => by simp at hx; omega, fun j _ => ?_, ?_, (Below.refl _ _).alloc (Nat.le_refl _) _⟩
    · rw [List.getD_eq_getElem?_getD, List.getElem?_replicate]; split <;> rfl
    · unfold X; rw [M.val_replicate]; simp [M.val]
  case round =>
    obtain ⟨k, cur, hk, rfl, hBk, hcl, hcf, hz, hv, hbl⟩ := hrel
    clear hmk
    have HZ := hid hz; clear hz
    have HV := hid hv; clear hv
    have HCL := hid hcl; clear hcl
    by_cases hlt : k < n
    · have hx1 := fa.get k
      obtain ⟨x, hxx⟩ : ∃ x : Nat, x = (D a).getD k 0 := ⟨_, rfl⟩
      rw [← hxx] at hx1
      have HX := hid hxx; clear hxx
      have hlt' : (k : Int) < (n : Int) := by omega
      obtain ⟨wo, hwo⟩ : ∃ wo : World, wo = wr := ⟨_, rfl⟩
      rw [← hwo] at hBk hbl ⊢
      clear hwo
      have HBk := hid hBk; clear hBk
      have HBl := hid hbl; clear hbl
      go_wp2_with fail
      go_loopw [7, 8, 9] (fun cy i s9 wr => ∃ (j : Nat) (cu : List Nat) (cc : Nat), j ≤ m ∧ i = .int .i64 j ∧ cy = .int .u64 cc ∧ cc < 4294967296 ∧ Blk wr w.heap.size cu ∧ cu.length = n + m + 1 ∧ F32 cu ∧ (∀ i, m + k ≤ i → cu.getD i 0 = 0) ∧ X cu + cc * 4294967296 ^ (k + j) = X cur + (x * 4294967296 ^ k) * X ((D b).take j) ∧ Below w.heap.size w wr) (fun _ i _ _ => m - (intOf i).toNat)
      case atStart => exact ⟨0, cur, 0, by omega, rfl, rfl, by omega, HBk.out, HCL.out, hcf, HZ.out, by simp [X, M.val], HBl.out⟩
      case round =>
        obtain ⟨j, cu, cc, hj, rfl, rfl, hcc, hBu, hul, huf, huz, huv, hub⟩ := hrel
        have HUZ := hid huz; clear huz
        have HUV := hid huv; clear huv
        have HUL := hid hul; clear hul
        by_cases hlt2 : j < m
        · obtain ⟨b1, o1, hao, hcA⟩ := (hr.below hub) (by omega)
          have hckA := hcA k (by omega)
          rw [← HX.out] at hckA
          clear hcA
          obtain ⟨b2, o2, hbo, hcB⟩ := (hr2.below hub) (by omega)
          have hckB := hcB j (by omega)
          clear hcB
          have hy1 := fb.get j
          obtain ⟨y, hyy⟩ : ∃ y : Nat, y = (D b).getD j 0 := ⟨_, rfl⟩
          rw [← hyy] at hckB hy1
          have HY := hid hyy; clear hyy
          have hcz := hBu.cell (k + j) (by have := HUL.out; omega)
          have hfz := hBu.frozen (k + j)
          have hz1 := huf.get (k + j)
          obtain ⟨z, hzz⟩ : ∃ z : Nat, z = cu.getD (k + j) 0 := ⟨_, rfl⟩
          rw [← hzz] at hcz hz1
          have HZZ := hid hzz; clear hzz
          obtain ⟨p, p2, s, ep, bp, ep2, bp2, es, bs, bs2, hs⟩ := M.mul32 x y z cc hx1 hy1 hz1 hcc
          have w1 := wrapMul x y p ep bp
          have w2 := wrapAdd p z p2 ep2 bp2
          have w3 := wrapAdd p2 cc s es bs
          have hlow : bits BinOp.and IntKind.u64 (s : Int) 4294967295 = ((s % 4294967296 : Nat) : Int) := by
            rw [and_low32 _ (by omega) (by omega)]; omega
          have hslo : s % 4294967296 < 4294967296 := by omega
          obtain ⟨so, eso⟩ : ∃ so : Nat, so = s % 4294967296 := ⟨_, rfl⟩
          rw [← eso] at hlow hs hslo
          have E1 := hid hs; have E2 := hid bs2; have E3 := hid hslo; have E4 := hid eso
          clear hs bs2 hslo eso ep bp ep2 bp2 es bs
          have HBu := hid hBu; clear hBu
          have hltj : (j : Int) < (m : Int) := by omega
          have hltk : (k : Int) + (j : Int) < ((n + m + 1 : Nat) : Int) := by omega
          go_wp2_with fail
          go_quiet (fail)
          go_wp2_with fail
          go_roundw
          case rel =>
            have R : ∃ (j1 : Nat) (cu1 : List Nat) (cc1 : Nat), j1 ≤ m ∧ Value.int .i64 ((j : Int) + 1) = .int .i64 j1 ∧ Value.int .u64 ((s : Int) / 4294967296) = .int .u64 cc1 ∧ cc1 < 4294967296 ∧ Blk ((wr.setCell ⟨w.heap.size, k + j, none⟩ (.int .u64 (so : Int))).drewN nq) w.heap.size cu1 ∧ cu1.length = n + m + 1 ∧ F32 cu1 ∧ (∀ i, m + k ≤ i → cu1.getD i 0 = 0) ∧ X cu1 + cc1 * 4294967296 ^ (k + j1) = X cur + (x * 4294967296 ^ k) * X ((D b).take j1) ∧ Below w.heap.size w ((wr.setCell ⟨w.heap.size, k + j, none⟩ (.int .u64 (so : Int))).drewN nq) := by
              refine ⟨j + 1, cu.set (k + j) so, s / 4294967296, by omega, by go_num, by go_num, E2.out, (HBu.out.set _ _ _ rfl).drewN _, by rw [List.length_set]; exact HUL.out, ?_, ?_, ?_, below_drewN (hub.setCell (Nat.le_refl _) _) _⟩
              · intro v hv
                rcases List.mem_or_eq_of_mem_set hv with hv | rfl
                · exact huf v hv
                · exact E3.out
              · intro i hi
                rw [M.getD_set_ne _ _ _ _ (by omega)]; exact HUZ.out i hi
              · have h1 := M.val_set 4294967296 (k + j) cu so (by have := HUL.out; omega)
                rw [← HZZ.out] at h1
                have h2 := HUV.out
                unfold X at *
                rw [M.val_take_succ, ← HY.out, show k + (j + 1) = k + j + 1 by omega, Nat.pow_succ]
                rw [Nat.pow_add] at h1 h2 ⊢
                exact M.inner h2 h1 E1.out
            first | exact R | ((repeat apply Exists.intro); exact ⟨R, rfl⟩) | ((repeat apply Exists.intro); exact ⟨R, by rw [hao, hbo]⟩)
          case measure => simp [intOf]; omega
        · have e : j = m := by omega
          subst e
          have hcz := hBu.cell (k + j) (by have := HUL.out; omega)
          have hfz := hBu.frozen (k + j)
          have hz0 := HUZ.out (k + j) (by omega)
          rw [hz0] at hcz
          have HZ0 := hid hz0; clear hz0
          have HBu := hid hBu; clear hBu
          have hltk : (k : Int) + (j : Int) < ((n + j + 1 : Nat) : Int) := by omega
          have hltj : ¬ (j : Int) < (j : Int) := by omega
          go_wp2_with fail
          go_roundw
          case rel =>
            have R : ∃ (k1 : Nat) (cur1 : List Nat), k1 ≤ n ∧ Value.int .i64 ((k : Int) + 1) = .int .i64 k1 ∧ Blk (wr.setCell ⟨w.heap.size, k + j, none⟩ (.int .u64 (cc : Int))) w.heap.size cur1 ∧ cur1.length = n + j + 1 ∧ F32 cur1 ∧ (∀ i, j + k1 ≤ i → cur1.getD i 0 = 0) ∧ X cur1 = b * X ((D a).take k1) ∧ Below w.heap.size w (wr.setCell ⟨w.heap.size, k + j, none⟩ (.int .u64 (cc : Int))) := by
              refine ⟨k + 1, cu.set (k + j) cc, by omega, by go_num, HBu.out.set _ _ _ rfl, by rw [List.length_set]; exact HUL.out, ?_, ?_, ?_, hub.setCell (Nat.le_refl _) _⟩
              · intro v hv
                rcases List.mem_or_eq_of_mem_set hv with hv | rfl
                · exact huf v hv
                · exact hcc
              · intro i hi
                rw [M.getD_set_ne _ _ _ _ (by omega)]; exact HUZ.out i (by omega)
              · have h1 := M.val_set 4294967296 (k + j) cu cc (by have := HUL.out; omega)
                rw [HZ0.out, Nat.mul_zero, Nat.add_zero] at h1
                have h2 := HUV.out
                rw [List.take_of_length_le (by omega), X_D] at h2
                have h3 := HV.out
                unfold X at *
                rw [M.val_take_succ, ← HX.out, h1, Nat.mul_add, ← h3, Nat.mul_comm (4294967296 ^ (k + j)) cc, h2]
                rw [Nat.mul_comm x (4294967296 ^ k), Nat.mul_comm b]
            first | exact R | ((repeat apply Exists.intro); exact ⟨R, rfl⟩)
          case measure => simp [intOf]; omega
    · have e : k = n := by omega
      subst e
      go_wp2_with fail
      have hfin : M.val 4294967296 cur = a * b := by
        have := HV.out
        rw [List.take_of_length_le (by omega), X_D, Nat.mul_comm] at this
        exact this
      refine (l1Trim_any 4294967296 (by omega) _ (k + m + 1) (k + m + 1) cur _ HCL.out (Nat.le_refl _) (by omega) hcf hBk.rd0).mono ?_
      rw [hfin]
      rintro e w3 ⟨ao', cap', rfl, ho', hb'⟩
      go_wp2_with fail
      go_ret
      exact ⟨ao', cap', rfl, own_base ho' hbl.size, hbl.trans (hb'.mono hbl.size)⟩

end Go.Proofs.Ytchfkmompciooab
