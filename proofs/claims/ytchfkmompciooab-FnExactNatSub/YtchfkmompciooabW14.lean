import Derived.Test.YtchfkmompciooabW8b
import Derived.Test.YtchfkmompciooabSubM
namespace Go.Proofs.Ytchfkmompciooab
open Go.RowKit
set_option linter.unusedVariables false

/-- What subIn leaves: the view holds the difference but for a borrow beyond it. -/
def SubInPost (w w' : World) (g : Nat) (zs : List Nat) (off N : Nat) (t : Nat) : Prop :=
  w.grownBy w' (some g) ∧ ∃ cur c, Blk w' g cur ∧ M.Wrote 18446744073709551616 zs off N cur ∧ c ≤ 1 ∧ V (M.seg cur off N) + t = V (M.seg zs off N) + c * 18446744073709551616 ^ N

set_option maxHeartbeats 1000000 in
theorem subIn_any (g off N cap : Nat) (ao bo : Option Addr) (m d : Nat) (zs ys : List Nat) (w : World) (hao : 0 < N → ao = some ⟨g, off, none⟩) (hB : Blk w g zs) (hz : F64 zs) (ho : off + N ≤ zs.length) (hN : N ≤ 4194304) (hm : ys.length = m) (hmN : m ≤ N) (hy : F64 ys) (hr : Rd w bo ys) (hsep : 0 < ys.length → ∀ b2 o2, bo = some ⟨b2, o2, none⟩ → b2 ≠ g) :
    Calls Try.prog 53 #[.slice ao N cap, .slice bo m d] w fun e w' => e = .returned (.tuple #[]) ∧ SubInPost w w' g zs off N (V ys) := by
  go_enter Try.func53, Try.ntmps53
  go_wp2_with fail
  go_loopw [4, 13] (fun cy i wr => ∃ (k : Nat) (cur : List Nat) (c : Nat), k ≤ m ∧ i = .int .i64 k ∧ cy = .int .u64 c ∧ c ≤ 1 ∧ Blk wr g cur ∧ M.Wrote 18446744073709551616 zs off N cur ∧ w.grownBy wr (some g) ∧ V (M.seg cur off N) + V (ys.take k) = V (M.seg zs off N) + c * 18446744073709551616 ^ k) (fun _ i _ => m - (intOf i).toNat)
  case atStart => exact ⟨0, zs, 0, by omega, rfl, rfl, by omega, hB, M.Wrote.refl hz _ _, World.grownBy.refl _ _, by simp [V, M.val]⟩
  case round =>
    obtain ⟨k, cur, c, hk, rfl, rfl, hc, hBk, hW, hg, hv⟩ := hrel
    have HV := hid hv; clear hv
    by_cases hlt : k < m
    · have hao' := hao (by omega)
      obtain ⟨b2, o2, hbo, hcl⟩ := hr (by omega)
      have hck : wr.cell? ⟨b2, o2 + k, none⟩ = some (.int .u64 ((ys.getD k 0 : Nat) : Int)) := hg.cell (hcl k (by omega)) (by simpa using hsep (by omega) b2 o2 hbo)
      clear hcl
      have hy1 := hy.get k
      obtain ⟨y, hyy⟩ : ∃ y : Nat, y = ys.getD k 0 := ⟨_, rfl⟩
      rw [← hyy] at hck hy1
      have HY := hid hyy; clear hyy
      have hca := hBk.cell (off + k) (by have := hW.len; omega)
      have hfa := hBk.frozen (off + k)
      have hx1 : cur.getD (off + k) 0 < 18446744073709551616 := M.getD_lt (by omega) hW.lt _
      obtain ⟨x, hxx⟩ : ∃ x : Nat, x = cur.getD (off + k) 0 := ⟨_, rfl⟩
      rw [← hxx] at hca hx1
      have HX := hid hxx; clear hxx
      have hlt' : (k : Int) < (m : Int) := by omega
      have hlt2 : (k : Int) < (N : Int) := by omega
      have HB := hid hBk; clear hBk
      have HG := hid hg; clear hg
      obtain ⟨p, hp⟩ : ∃ p : Nat, p = (x + 18446744073709551616 - y) % 18446744073709551616 := ⟨_, rfl⟩
      have hwp := wrapSub x y p hp (by omega)
      obtain ⟨o, hoo⟩ : ∃ o : Nat, o = (p + 18446744073709551616 - c) % 18446744073709551616 := ⟨_, rfl⟩
      have hwo := wrapSub p c o hoo (by omega)
      obtain ⟨r1, hr1⟩ : ∃ r : Nat, r = if (x : Int) < (y : Int) then 1 else 0 := ⟨_, rfl⟩
      obtain ⟨r2, hr2⟩ : ∃ r : Nat, r = if (p : Int) < (c : Int) then 1 else 0 := ⟨_, rfl⟩
      have hsum : o + y + c = x + 18446744073709551616 * (r1 + r2) ∧ r1 + r2 ≤ 1 ∧ o < 18446744073709551616 := by
        split at hr1 <;> split at hr2 <;> omega
      have hle1 : r1 ≤ 1 := by omega
      have hle2 : r2 ≤ 1 := by omega
      have HP := hid hp; clear hp
      have HO := hid hoo; clear hoo
      have HR1 := hid hr1; clear hr1
      have HR2 := hid hr2; clear hr2
      have HS := hid hsum; clear hsum
      go_wp2_with fail
      refine (less_any _ _ _ r1 HR1.out).mono ?_
      rintro e v1 ⟨rfl, rfl⟩
      go_wp2_with fail
      refine (less_any _ _ _ r2 HR2.out).mono ?_
      rintro e v2 ⟨rfl, rfl⟩
      go_wp2_with fail
      have hW3 := hW.set k o (by omega) HS.out.2.2
      go_roundw
      case rel =>
        have R : ∃ (k1 : Nat) (cur1 : List Nat) (c1 : Nat), k1 ≤ m ∧ Value.int .i64 ((k : Int) + 1) = .int .i64 k1 ∧ Value.int .u64 ((r1 : Int) + (r2 : Int)) = .int .u64 c1 ∧ c1 ≤ 1 ∧ Blk (v2.setCell ⟨g, off + k, none⟩ (.int .u64 (o : Int))) g cur1 ∧ M.Wrote 18446744073709551616 zs off N cur1 ∧ w.grownBy (v2.setCell ⟨g, off + k, none⟩ (.int .u64 (o : Int))) (some g) ∧ V (M.seg cur1 off N) + V (ys.take k1) = V (M.seg zs off N) + c1 * 18446744073709551616 ^ k1 := by
          refine ⟨k + 1, cur.set (off + k) o, r1 + r2, by omega, by go_num, by go_num, HS.out.2.1, HB.out.set _ _ _ rfl, hW3, grown_trans HG.out (grown_setCell _ _ _ _), ?_⟩
          unfold V
          rw [M.val_take_succ, ← HY.out, Nat.pow_succ]
          have h2 := M.val_seg_set 18446744073709551616 cur off N k o (by omega) (by have := hW.len; omega)
          rw [← HX.out] at h2
          exact M.sub_over HV.out h2 HS.out.1
        first | exact R | ((repeat apply Exists.intro); exact ⟨R, rfl⟩) | ((repeat apply Exists.intro); exact ⟨R, by rw [hao', hbo]⟩)
      case measure => simp [intOf]; omega
    · have e : k = m := by omega
      subst e
      have hv : V (M.seg cur off N) + V ys = V (M.seg zs off N) + c * 18446744073709551616 ^ k := by
        have := HV.out
        rwa [List.take_of_length_le (by omega)] at this
      clear HV
      have HBk := hid hBk; clear hBk
      have HG := hid hg; clear hg
      have HV := hid hv; clear hv
      obtain ⟨wo, hwo⟩ : ∃ wo : World, wo = wr := ⟨_, rfl⟩
      rw [← hwo] at HBk HG ⊢
      clear hwo
      go_wp2_with fail
      go_loopw [4, 9] (fun cy i wr => ∃ (j : Nat) (cur : List Nat) (c : Nat), j ≤ N ∧ i = .int .i64 j ∧ cy = .int .u64 c ∧ c ≤ 1 ∧ Blk wr g cur ∧ M.Wrote 18446744073709551616 zs off N cur ∧ w.grownBy wr (some g) ∧ V (M.seg cur off N) + V ys = V (M.seg zs off N) + c * 18446744073709551616 ^ j) (fun _ i _ => N - (intOf i).toNat)
      case atStart => exact ⟨k, cur, c, by omega, rfl, rfl, hc, HBk.out, hW, HG.out, HV.out⟩
      case round =>
        clear HBk HG HV hW hc
        obtain ⟨j, cur2, c2, hj, rfl, rfl, hc, hBk, hW, hg, hv⟩ := hrel
        have HV := hid hv; clear hv
        by_cases hcc : c2 = 0
        · subst hcc
          have hgt : ¬ (0 : Int) < ((0 : Nat) : Int) := by omega
          have HBk := hid hBk; clear hBk
          have HG := hid hg; clear hg
          go_wp2_with fail
          go_end0
          refine ⟨rfl, HG.out, cur2, 0, HBk.out, hW, by omega, ?_⟩
          have := HV.out
          simpa using this
        · have hc1 : c2 = 1 := by omega
          have hc0 : (0 : Int) < (c2 : Int) := by omega
          have HC1 := hid hc1; clear hc1
          by_cases hlt : j < N
          · have hao' := hao (by omega)
            have hca := hBk.cell (off + j) (by have := hW.len; omega)
            have hfa := hBk.frozen (off + j)
            have hx1 : cur2.getD (off + j) 0 < 18446744073709551616 := M.getD_lt (by omega) hW.lt _
            obtain ⟨x, hxx⟩ : ∃ x : Nat, x = cur2.getD (off + j) 0 := ⟨_, rfl⟩
            rw [← hxx] at hca hx1
            have HX := hid hxx; clear hxx
            have hlt2 : (j : Int) < (N : Int) := by omega
            obtain ⟨o, hoo⟩ : ∃ o : Nat, o = (x + 18446744073709551616 - c2) % 18446744073709551616 := ⟨_, rfl⟩
            have hwo := wrapSub x c2 o hoo (by omega)
            obtain ⟨r2, hr2⟩ : ∃ r : Nat, r = if (x : Int) < (c2 : Int) then 1 else 0 := ⟨_, rfl⟩
            have hsum : o + 0 + c2 = x + 18446744073709551616 * r2 ∧ r2 ≤ 1 ∧ o < 18446744073709551616 := by
              split at hr2 <;> omega
            have HO := hid hoo; clear hoo
            have HR2 := hid hr2; clear hr2
            have HS := hid hsum; clear hsum
            have HB := hid hBk; clear hBk
            have HG := hid hg; clear hg
            go_wp2_with fail
            refine (less_any _ _ _ r2 HR2.out).mono ?_
            rintro e w3 ⟨rfl, rfl⟩
            have hW3 := hW.set j o (by omega) HS.out.2.2
            go_wp2_with fail
            go_roundw
            case rel =>
              have R : ∃ (j1 : Nat) (cur1 : List Nat) (c1 : Nat), j1 ≤ N ∧ Value.int .i64 ((j : Int) + 1) = .int .i64 j1 ∧ Value.int .u64 (r2 : Int) = .int .u64 c1 ∧ c1 ≤ 1 ∧ Blk (w3.setCell ⟨g, off + j, none⟩ (.int .u64 (o : Int))) g cur1 ∧ M.Wrote 18446744073709551616 zs off N cur1 ∧ w.grownBy (w3.setCell ⟨g, off + j, none⟩ (.int .u64 (o : Int))) (some g) ∧ V (M.seg cur1 off N) + V ys = V (M.seg zs off N) + c1 * 18446744073709551616 ^ j1 := by
                refine ⟨j + 1, cur2.set (off + j) o, r2, by omega, by go_num, rfl, HS.out.2.1, HB.out.set _ _ _ rfl, hW3, grown_trans HG.out (grown_setCell _ _ _ _), ?_⟩
                unfold V
                rw [Nat.pow_succ]
                have h2 := M.val_seg_set 18446744073709551616 cur2 off N j o (by omega) (by have := hW.len; omega)
                rw [← HX.out] at h2
                exact M.sub_over (y := 0) HV.out h2 HS.out.1
              first | exact R | ((repeat apply Exists.intro); exact ⟨R, rfl⟩) | ((repeat apply Exists.intro); exact ⟨R, by rw [hao']⟩)
            case measure => simp [intOf]; omega
          · have hlt2 : ¬ (j : Int) < (N : Int) := by omega
            have e : j = N := by omega
            subst e
            have HBk := hid hBk; clear hBk
            have HG := hid hg; clear hg
            go_wp2_with fail
            go_end0
            exact ⟨rfl, HG.out, cur2, c2, HBk.out, hW, by omega, HV.out⟩

set_option maxHeartbeats 1000000 in
theorem sub_any (ao bo : Option Addr) (n m c d : Nat) (a b : Nat) (w : World) (hl : (L a).length = n) (hm : (L b).length = m) (hba : b ≤ a) (hn : n ≤ 1048576) (hr : Rd w ao (L a)) (hr2 : Rd w bo (L b)) :
    Calls Try.prog 33 #[.slice ao n c, .slice bo m d] w fun e w' => Ret w w' e (L (a - b)) := by
  have hmn : m ≤ n := by
    rcases Nat.lt_or_ge n m with h | h
    · have : a < b := M.lt_of_length (B := 18446744073709551616) (by omega) (by unfold L at hl hm; omega)
      omega
    · exact h
  have hsep : 0 < (L b).length → ∀ b2 o2, bo = some ⟨b2, o2, none⟩ → b2 ≠ w.heap.size := by
    intro hp b2 o2 e
    obtain ⟨b3, o3, e3, hc⟩ := hr2 hp
    rw [e] at e3
    simp only [Option.some.injEq, Addr.mk.injEq] at e3
    have := World.block_lt_of_cell? w _ (hc 0 hp)
    simp at this
    omega
  have HSep := hid hsep; clear hsep
  go_enter Try.func33, Try.ntmps33
  go_wp2_with fail
  refine (clone_any ao n c 0 (L a) _ hl (by omega) (by omega) hr).mono ?_
  rw [List.replicate_zero, List.append_nil]
  rintro e w1 ⟨rfl, hB1, hb1⟩
  go_wp2_with fail
  refine (subIn_any w.heap.size 0 n n _ bo m d (L a) (L b) _ (fun _ => rfl) hB1 (F64_L a) (by omega) (by omega) hm hmn (F64_L b) (hr2.below hb1) HSep.out).mono ?_
  rintro e w2 ⟨rfl, hg, cur, cc, hB2, hW, hc1, hv⟩
  have hb2 : Below w.heap.size w w2 := hb1.trans ((Below.refl _ _).grown hg hb1.size (fun _ h => by cases h; exact Nat.le_refl _))
  have hlen : cur.length = n := by rw [hW.len]; exact hl
  have hfv : V cur = a - b := by
    rw [M.seg_all cur n hlen, M.seg_all (L a) n hl, V_L, V_L] at hv
    have h1 := M.val_lt (B := 18446744073709551616) (by omega) cur hW.lt
    rw [hlen] at h1
    exact (M.no_borrow hv h1 hba).2
  have hf : F64 cur := hW.lt
  clear hv hg hW hB1
  have HFV := hid hfv; clear hfv
  have HLen := hid hlen; clear hlen
  go_wp2_with fail
  refine (trim_any _ n n cur _ HLen.out (Nat.le_refl _) (by omega) hf hB2.rd0).mono ?_
  rw [HFV.out]
  rintro e w3 ⟨rfl, rfl⟩
  go_wp2_with fail
  go_ret
  have h1 := L_len cur hf
  have h2 := L_take cur hf
  rw [HFV.out] at h1 h2
  have h3 := hB2.ownPre (base := w.heap.size) (Nat.le_refl _) h1 HLen.out (by unfold maxLen; omega)
  rw [h2] at h3
  exact ⟨_, _, rfl, h3, hb2⟩

end Go.Proofs.Ytchfkmompciooab
