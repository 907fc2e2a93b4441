import Derived.Test.YtchfkmompciooabW6
import Derived.Test.YtchfkmompciooabSeg
import Derived.Test.YtchfkmompciooabW8b
namespace Go.Proofs.Ytchfkmompciooab
open Go.RowKit
set_option linter.unusedVariables false

/-- What addIn leaves: the view holds the sum but for a carry beyond it. -/
def AddInPost (w w' : World) (g : Nat) (zs : List Nat) (off N : Nat) (t : Nat) : Prop :=
  w.grownBy w' (some g) ∧ ∃ cur c, Blk w' g cur ∧ M.Wrote 18446744073709551616 zs off N cur ∧ c ≤ 1 ∧ V (M.seg cur off N) + c * 18446744073709551616 ^ N = V (M.seg zs off N) + t

set_option maxHeartbeats 400000 in
theorem addIn_any (g off N cap : Nat) (bo : Option Addr) (m d : Nat) (zs ys : List Nat) (w : World) (hB : Blk w g zs) (hz : F64 zs) (ho : off + N ≤ zs.length) (hN : N ≤ 4194304) (hm : ys.length = m) (hmN : m ≤ N) (hy : F64 ys) (hr : Rd w bo ys) (hsep : 0 < ys.length → ∀ b2 o2, bo = some ⟨b2, o2, none⟩ → b2 ≠ g) :
    Calls Try.prog 50 #[.slice (some ⟨g, off, none⟩) N cap, .slice bo m d] w fun e w' => e = .returned (.tuple #[]) ∧ AddInPost w w' g zs off N (V ys) := by
  go_enter Try.func50, Try.ntmps50
  go_wp2_with fail
  go_loopw [4, 11] (fun cy i wr => ∃ (k : Nat) (cur : List Nat) (c : Nat), k ≤ m ∧ i = .int .i64 k ∧ cy = .int .u64 c ∧ c ≤ 1 ∧ Blk wr g cur ∧ M.Wrote 18446744073709551616 zs off N cur ∧ w.grownBy wr (some g) ∧ V (M.seg cur off N) + c * 18446744073709551616 ^ k = V (M.seg zs off N) + V (ys.take k)) (fun _ i _ => m - (intOf i).toNat)
  case atStart => exact ⟨0, zs, 0, by omega, rfl, rfl, by omega, hB, M.Wrote.refl hz _ _, World.grownBy.refl _ _, by simp [V, M.val]⟩
  case round =>
    obtain ⟨k, cur, c, hk, rfl, rfl, hc, hBk, hW, hg, hv⟩ := hrel
    have HV := hid hv; clear hv
    by_cases hlt : k < m
    · obtain ⟨b2, o2, hbo, hcl⟩ := hr (by omega)
      have hck : wr.cell? ⟨b2, o2 + k, none⟩ = some (.int .u64 ((ys.getD k 0 : Nat) : Int)) := hg.cell (hcl k (by omega)) (by simpa using hsep (by omega) b2 o2 hbo)
      clear hcl
      have hy1 := hy.get k
      obtain ⟨y, hyy⟩ : ∃ y : Nat, y = ys.getD k 0 := ⟨_, rfl⟩
      rw [← hyy] at hck hy1
      have HY := hid hyy; clear hyy
      have hca := hBk.cell (off + k) (by have := hW.len; omega)
      have hfa := hBk.frozen (off + k)
      have hx1 : cur.getD (off + k) 0 < 18446744073709551616 := M.getD_lt (by omega) hW.lt _
      obtain ⟨x, hxx⟩ : ∃ x : Nat, x = cur.getD (off + k) 0 := ⟨_, rfl⟩
      rw [← hxx] at hca hx1
      have HX := hid hxx; clear hxx
      have hlt' : (k : Int) < (m : Int) := by omega
      have hlt2 : (k : Int) < (N : Int) := by omega
      have HB := hid hBk; clear hBk
      have HG := hid hg; clear hg
      obtain ⟨p, hp⟩ : ∃ p : Nat, p = (x + y) % 18446744073709551616 := ⟨_, rfl⟩
      have hwp := wrapU2 x y p hp
      obtain ⟨o, hoo⟩ : ∃ o : Nat, o = (p + c) % 18446744073709551616 := ⟨_, rfl⟩
      have hwo := wrapU2 p c o hoo
      obtain ⟨r1, hr1⟩ : ∃ r : Nat, r = if (p : Int) < (y : Int) then 1 else 0 := ⟨_, rfl⟩
      obtain ⟨r2, hr2⟩ : ∃ r : Nat, r = if (o : Int) < (c : Int) then 1 else 0 := ⟨_, rfl⟩
      have hsum : o + 18446744073709551616 * (r1 + r2) = x + y + c ∧ r1 + r2 ≤ 1 ∧ o < 18446744073709551616 := by
        split at hr1 <;> split at hr2 <;> omega
      have hle1 : r1 ≤ 1 := by omega
      have hle2 : r2 ≤ 1 := by omega
      have HP := hid hp; clear hp
      have HO := hid hoo; clear hoo
      have HR1 := hid hr1; clear hr1
      have HR2 := hid hr2; clear hr2
      have HS := hid hsum; clear hsum
      go_wp2_with fail
      generalize hwy : wr.setCell ⟨g, off + k, none⟩ (.int .u64 (o : Int)) = wy
      have hBy : Blk wy g (cur.set (off + k) o) := by rw [← hwy]; exact HB.out.set _ _ _ rfl
      have hgy : w.grownBy wy (some g) := by rw [← hwy]; exact grown_trans HG.out (grown_setCell _ _ _ _)
      have hWy := hW.set k o (by omega) HS.out.2.2
      have hcy := hBy.cell (off + k) (by rw [List.length_set]; have := hW.len; omega)
      rw [M.getD_set_eq _ _ _ (by have := hW.len; omega)] at hcy
      have HBy := hid hBy; clear hBy
      have HGy := hid hgy; clear hgy
      clear hwy hca hfa hck
      go_quiet ((first | (go_at_call_of 56 p; exact Calls.quiet_of_same (less_any _ _ _ r1 HR1.out)) | (go_at_call_of 56 o; exact Calls.quiet_of_same (less_any _ _ _ r2 HR2.out))))
      go_wp2_with fail
      go_roundw
      case rel =>
        have R : ∃ (k1 : Nat) (cur1 : List Nat) (c1 : Nat), k1 ≤ m ∧ Value.int .i64 ((k : Int) + 1) = .int .i64 k1 ∧ Value.int .u64 ((r1 : Int) + (r2 : Int)) = .int .u64 c1 ∧ c1 ≤ 1 ∧ Blk (wy.drewN nq) g cur1 ∧ M.Wrote 18446744073709551616 zs off N cur1 ∧ w.grownBy (wy.drewN nq) (some g) ∧ V (M.seg cur1 off N) + c1 * 18446744073709551616 ^ k1 = V (M.seg zs off N) + V (ys.take k1) := by
          refine ⟨k + 1, cur.set (off + k) o, r1 + r2, by omega, by go_num, by go_num, HS.out.2.1, HBy.out.drewN _, hWy, grown_trans HGy.out (grown_drewN _ _ _), ?_⟩
          unfold V
          rw [M.val_take_succ, ← HY.out, Nat.pow_succ]
          have h2 := M.val_seg_set 18446744073709551616 cur off N k o (by omega) (by have := hW.len; omega)
          rw [← HX.out] at h2
          exact M.add_over HV.out h2 HS.out.1
        first | exact R | ((repeat apply Exists.intro); exact ⟨R, rfl⟩) | ((repeat apply Exists.intro); exact ⟨R, by rw [hbo]⟩)
      case measure => simp [intOf]; omega
    · have e : k = m := by omega
      subst e
      have hv : V (M.seg cur off N) + c * 18446744073709551616 ^ k = V (M.seg zs off N) + V ys := by
        have := HV.out
        rwa [List.take_of_length_le (by omega)] at this
      clear HV
      have HBk := hid hBk; clear hBk
      have HG := hid hg; clear hg
      have HV := hid hv; clear hv
      obtain ⟨wo, hwo⟩ : ∃ wo : World, wo = wr := ⟨_, rfl⟩
      rw [← hwo] at HBk HG ⊢
      clear hwo
      go_wp2_with fail
      go_loopw [4, 8] (fun cy i wr => ∃ (j : Nat) (cur : List Nat) (c : Nat), j ≤ N ∧ i = .int .i64 j ∧ cy = .int .u64 c ∧ c ≤ 1 ∧ Blk wr g cur ∧ M.Wrote 18446744073709551616 zs off N cur ∧ w.grownBy wr (some g) ∧ V (M.seg cur off N) + c * 18446744073709551616 ^ j = V (M.seg zs off N) + V ys) (fun _ i _ => N - (intOf i).toNat)
      case atStart => exact ⟨k, cur, c, by omega, rfl, rfl, hc, HBk.out, hW, HG.out, HV.out⟩
      case round =>
        clear HBk HG HV hW hc
        obtain ⟨j, cur2, c2, hj, rfl, rfl, hc, hBk, hW, hg, hv⟩ := hrel
        have HV := hid hv; clear hv
        by_cases hcc : c2 = 0
        · subst hcc
          have hgt : ¬ (0 : Int) < ((0 : Nat) : Int) := by omega
          have HBk := hid hBk; clear hBk
          have HG := hid hg; clear hg
          go_wp2_with fail
          go_end0
          refine ⟨rfl, HG.out, cur2, 0, HBk.out, hW, by omega, ?_⟩
          have := HV.out
          simpa using this
        · have hc1 : c2 = 1 := by omega
          have hc0 : (0 : Int) < (c2 : Int) := by omega
          have HC1 := hid hc1; clear hc1
          by_cases hlt : j < N
          · have hca := hBk.cell (off + j) (by have := hW.len; omega)
            have hfa := hBk.frozen (off + j)
            have hx1 : cur2.getD (off + j) 0 < 18446744073709551616 := M.getD_lt (by omega) hW.lt _
            obtain ⟨x, hxx⟩ : ∃ x : Nat, x = cur2.getD (off + j) 0 := ⟨_, rfl⟩
            rw [← hxx] at hca hx1
            have HX := hid hxx; clear hxx
            have hlt2 : (j : Int) < (N : Int) := by omega
            obtain ⟨o, hoo⟩ : ∃ o : Nat, o = (x + c2) % 18446744073709551616 := ⟨_, rfl⟩
            have hwo := wrapU2 x c2 o hoo
            obtain ⟨r2, hr2⟩ : ∃ r : Nat, r = if (o : Int) < (c2 : Int) then 1 else 0 := ⟨_, rfl⟩
            have hsum : o + 18446744073709551616 * r2 = x + 0 + c2 ∧ r2 ≤ 1 ∧ o < 18446744073709551616 := by
              split at hr2 <;> omega
            have HO := hid hoo; clear hoo
            have HR2 := hid hr2; clear hr2
            have HS := hid hsum; clear hsum
            have HB := hid hBk; clear hBk
            have HG := hid hg; clear hg
            go_wp2_with fail
            refine (less_any _ _ _ r2 HR2.out).mono ?_
            rintro e w3 ⟨rfl, hw3⟩
            have hB3 : Blk w3 g (cur2.set (off + j) o) := by rw [hw3]; exact HB.out.set _ _ _ rfl
            have hg3 : w.grownBy w3 (some g) := by rw [hw3]; exact grown_trans HG.out (grown_setCell _ _ _ _)
            have hW3 := hW.set j o (by omega) HS.out.2.2
            have HB3 := hid hB3; clear hB3
            have HG3 := hid hg3; clear hg3
            clear hw3 hca hfa
            go_wp2_with fail
            go_roundw
            case rel =>
              have R : ∃ (j1 : Nat) (cur1 : List Nat) (c1 : Nat), j1 ≤ N ∧ Value.int .i64 ((j : Int) + 1) = .int .i64 j1 ∧ Value.int .u64 (r2 : Int) = .int .u64 c1 ∧ c1 ≤ 1 ∧ Blk w3 g cur1 ∧ M.Wrote 18446744073709551616 zs off N cur1 ∧ w.grownBy w3 (some g) ∧ V (M.seg cur1 off N) + c1 * 18446744073709551616 ^ j1 = V (M.seg zs off N) + V ys := by
                refine ⟨j + 1, cur2.set (off + j) o, r2, by omega, by go_num, rfl, HS.out.2.1, HB3.out, hW3, HG3.out, ?_⟩
                unfold V
                rw [Nat.pow_succ]
                have h2 := M.val_seg_set 18446744073709551616 cur2 off N j o (by omega) (by have := hW.len; omega)
                rw [← HX.out] at h2
                exact M.add_over (y := 0) HV.out h2 HS.out.1
              first | exact R | ((repeat apply Exists.intro); exact ⟨R, rfl⟩)
            case measure => simp [intOf]; omega
          · have hlt2 : ¬ (j : Int) < (N : Int) := by omega
            have e : j = N := by omega
            subst e
            have HBk := hid hBk; clear hBk
            have HG := hid hg; clear hg
            go_wp2_with fail
            go_end0
            exact ⟨rfl, HG.out, cur2, c2, HBk.out, hW, by omega, HV.out⟩

end Go.Proofs.Ytchfkmompciooab
