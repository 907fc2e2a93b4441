import Derived.Test.YtehplfmnipadmadW6
import Derived.Test.YtehplfmnipadmadSeg
import Derived.Test.YtehplfmnipadmadW8b
import Derived.Test.YtehplfmnipadmadW7
import Derived.Test.YtehplfmnipadmadCom
namespace Go.Proofs.Ytehplfmnipadmad
open Go.RowKit
set_option linter.unusedVariables false
set_option maxRecDepth 100000

/-- What addIn leaves: the view holds the sum but for a carry beyond it. -/
def AddInPost (w w' : World) (g : Nat) (zs : List Nat) (off N : Nat) (t : Nat) : Prop :=
  w.grownBy w' (some g) ∧ ∃ cur c, Blk w' g cur ∧ M.Wrote 18446744073709551616 zs off N cur ∧ c ≤ 1 ∧ V (M.seg cur off N) + c * 18446744073709551616 ^ N = V (M.seg zs off N) + t

set_option maxHeartbeats 400000 in
theorem addIn_any (g off N cap : Nat) (bo : Option Addr) (m d : Nat) (zs ys : List Nat) (w : World) (hB : Blk w g zs) (hz : F64 zs) (ho : off + N ≤ zs.length) (hN : N ≤ 4194304) (hm : ys.length = m) (hmN : m ≤ N) (hy : F64 ys) (hr : Rd w bo ys) (hsep : 0 < ys.length → ∀ b2 o2, bo = some ⟨b2, o2, none⟩ → b2 ≠ g) :
    Calls Try.prog 96 #[.slice (some ⟨g, off, none⟩) N cap, .slice bo m d] w fun e w' => e = .returned (.tuple #[]) ∧ AddInPost w w' g zs off N (V ys) := by
  go_enter Try.func96, Try.ntmps96
  go_wp2_with fail
  go_loopw [4, 11] (fun cy i wr => ∃ (k : Nat) (cur : List Nat) (c : Nat), k ≤ m ∧ i = .int .i64 k ∧ cy = .int .u64 c ∧ c ≤ 1 ∧ Blk wr g cur ∧ M.Wrote 18446744073709551616 zs off N cur ∧ w.grownBy wr (some g) ∧ V (M.seg cur off N) + c * 18446744073709551616 ^ k = V (M.seg zs off N) + V (ys.take k)) (fun _ i _ => m - (intOf i).toNat)
  case atStart => exact ⟨0, zs, 0, by omega, rfl, rfl, by omega, hB, M.Wrote.refl hz _ _, World.grownBy.refl _ _, by simp [V, M.val]⟩
  case round =>
    obtain ⟨k, cur, c, hk, rfl, rfl, hc, hBk, hW, hg, hv⟩ := hrel
    have HV := hid hv; clear hv
    by_cases hlt : k < m
    · obtain ⟨b2, o2, hbo, hcl⟩ := hr (by omega)
      have hck : wr.cell? ⟨b2, o2 + k, none⟩ = some (.int .u64 ((ys.getD k 0 : Nat) : Int)) := hg.cell (hcl k (by omega)) (by simpa using hsep (by omega) b2 o2 hbo)
      clear hcl
      have hy1 := hy.get k
      obtain ⟨y, hyy⟩ : ∃ y : Nat, y = ys.getD k 0 := ⟨_, rfl⟩
      rw [← hyy] at hck hy1
      have HY := hid hyy; clear hyy
      have hca := hBk.cell (off + k) (by have := hW.len; omega)
      have hfa := hBk.frozen (off + k)
      have hx1 : cur.getD (off + k) 0 < 18446744073709551616 := M.getD_lt (by omega) hW.lt _
      obtain ⟨x, hxx⟩ : ∃ x : Nat, x = cur.getD (off + k) 0 := ⟨_, rfl⟩
      rw [← hxx] at hca hx1
      have HX := hid hxx; clear hxx
      have hlt' : (k : Int) < (m : Int) := by omega
      have hlt2 : (k : Int) < (N : Int) := by omega
      have HB := hid hBk; clear hBk
      have HG := hid hg; clear hg
      obtain ⟨p, hp⟩ : ∃ p : Nat, p = (x + y) % 18446744073709551616 := ⟨_, rfl⟩
      have hwp := wrapU2 x y p hp
      obtain ⟨o, hoo⟩ : ∃ o : Nat, o = (p + c) % 18446744073709551616 := ⟨_, rfl⟩
      have hwo := wrapU2 p c o hoo
      obtain ⟨r1, hr1⟩ : ∃ r : Nat, r = if (p : Int) < (y : Int) then 1 else 0 := ⟨_, rfl⟩
      obtain ⟨r2, hr2⟩ : ∃ r : Nat, r = if (o : Int) < (c : Int) then 1 else 0 := ⟨_, rfl⟩
      have hsum : o + 18446744073709551616 * (r1 + r2) = x + y + c ∧ r1 + r2 ≤ 1 ∧ o < 18446744073709551616 := by
        split at hr1 <;> split at hr2 <;> omega
      have hle1 : r1 ≤ 1 := by omega
      have hle2 : r2 ≤ 1 := by omega
      have HP := hid hp; clear hp
      have HO := hid hoo; clear hoo
      have HR1 := hid hr1; clear hr1
      have HR2 := hid hr2; clear hr2
      have HS := hid hsum; clear hsum
      go_wp2_with fail
      generalize hwy : wr.setCell ⟨g, off + k, none⟩ (.int .u64 (o : Int)) = wy
      have hBy : Blk wy g (cur.set (off + k) o) := by rw [← hwy]; exact HB.out.set _ _ _ rfl
      have hgy : w.grownBy wy (some g) := by rw [← hwy]; exact grown_trans HG.out (grown_setCell _ _ _ _)
      have hWy := hW.set k o (by omega) HS.out.2.2
      have hcy := hBy.cell (off + k) (by rw [List.length_set]; have := hW.len; omega)
      rw [M.getD_set_eq _ _ _ (by have := hW.len; omega)] at hcy
      have HBy := hid hBy; clear hBy
      have HGy := hid hgy; clear hgy
      clear hwy hca hfa hck
      go_quiet ((first | (go_at_call_of 115 p; exact Calls.quiet_of_same (less_any _ _ _ r1 HR1.out)) | (go_at_call_of 115 o; exact Calls.quiet_of_same (less_any _ _ _ r2 HR2.out))))
      go_wp2_with fail
      go_roundw
      case rel =>
        have R : ∃ (k1 : Nat) (cur1 : List Nat) (c1 : Nat), k1 ≤ m ∧ Value.int .i64 ((k : Int) + 1) = .int .i64 k1 ∧ Value.int .u64 ((r1 : Int) + (r2 : Int)) = .int .u64 c1 ∧ c1 ≤ 1 ∧ Blk (wy.drewN nq) g cur1 ∧ M.Wrote 18446744073709551616 zs off N cur1 ∧ w.grownBy (wy.drewN nq) (some g) ∧ V (M.seg cur1 off N) + c1 * 18446744073709551616 ^ k1 = V (M.seg zs off N) + V (ys.take k1) := by
          refine ⟨k + 1, cur.set (off + k) o, r1 + r2, by omega, by go_num, by go_num, HS.out.2.1, HBy.out.drewN _, hWy, grown_trans HGy.out (grown_drewN _ _ _), ?_⟩
          unfold V
          rw [M.val_take_succ, ← HY.out, Nat.pow_succ]
          have h2 := M.val_seg_set 18446744073709551616 cur off N k o (by omega) (by have := hW.len; omega)
          rw [← HX.out] at h2
          exact M.add_over HV.out h2 HS.out.1
        first | exact R | ((repeat apply Exists.intro); exact ⟨R, rfl⟩) | ((repeat apply Exists.intro); exact ⟨R, by rw [hbo]⟩)
      case measure => simp [intOf]; omega
    · have e : k = m := by omega
      subst e
      have hv : V (M.seg cur off N) + c * 18446744073709551616 ^ k = V (M.seg zs off N) + V ys := by
        have := HV.out
        rwa [List.take_of_length_le (by omega)] at this
      clear HV
      have HBk := hid hBk; clear hBk
      have HG := hid hg; clear hg
      have HV := hid hv; clear hv
      obtain ⟨wo, hwo⟩ : ∃ wo : World, wo = wr := ⟨_, rfl⟩
      rw [← hwo] at HBk HG ⊢
      clear hwo
      go_wp2_with fail
      go_loopw [4, 8] (fun cy i wr => ∃ (j : Nat) (cur : List Nat) (c : Nat), j ≤ N ∧ i = .int .i64 j ∧ cy = .int .u64 c ∧ c ≤ 1 ∧ Blk wr g cur ∧ M.Wrote 18446744073709551616 zs off N cur ∧ w.grownBy wr (some g) ∧ V (M.seg cur off N) + c * 18446744073709551616 ^ j = V (M.seg zs off N) + V ys) (fun _ i _ => N - (intOf i).toNat)
      case atStart => exact ⟨k, cur, c, by omega, rfl, rfl, hc, HBk.out, hW, HG.out, HV.out⟩
      case round =>
        clear HBk HG HV hW hc
        obtain ⟨j, cur2, c2, hj, rfl, rfl, hc, hBk, hW, hg, hv⟩ := hrel
        have HV := hid hv; clear hv
        by_cases hcc : c2 = 0
        · subst hcc
          have hgt : ¬ (0 : Int) < ((0 : Nat) : Int) := by omega
          have HBk := hid hBk; clear hBk
          have HG := hid hg; clear hg
          go_wp2_with fail
          go_end0
          refine ⟨rfl, HG.out, cur2, 0, HBk.out, hW, by omega, ?_⟩
          have := HV.out
          simpa using this
        · have hc1 : c2 = 1 := by omega
          have hc0 : (0 : Int) < (c2 : Int) := by omega
          have HC1 := hid hc1; clear hc1
          by_cases hlt : j < N
          · have hca := hBk.cell (off + j) (by have := hW.len; omega)
            have hfa := hBk.frozen (off + j)
            have hx1 : cur2.getD (off + j) 0 < 18446744073709551616 := M.getD_lt (by omega) hW.lt _
            obtain ⟨x, hxx⟩ : ∃ x : Nat, x = cur2.getD (off + j) 0 := ⟨_, rfl⟩
            rw [← hxx] at hca hx1
            have HX := hid hxx; clear hxx
            have hlt2 : (j : Int) < (N : Int) := by omega
            obtain ⟨o, hoo⟩ : ∃ o : Nat, o = (x + c2) % 18446744073709551616 := ⟨_, rfl⟩
            have hwo := wrapU2 x c2 o hoo
            obtain ⟨r2, hr2⟩ : ∃ r : Nat, r = if (o : Int) < (c2 : Int) then 1 else 0 := ⟨_, rfl⟩
            have hsum : o + 18446744073709551616 * r2 = x + 0 + c2 ∧ r2 ≤ 1 ∧ o < 18446744073709551616 := by
              split at hr2 <;> omega
            have HO := hid hoo; clear hoo
            have HR2 := hid hr2; clear hr2
            have HS := hid hsum; clear hsum
            have HB := hid hBk; clear hBk
            have HG := hid hg; clear hg
            go_wp2_with fail
            refine (less_any _ _ _ r2 HR2.out).mono ?_
            rintro e w3 ⟨rfl, hw3⟩
            have hB3 : Blk w3 g (cur2.set (off + j) o) := by rw [hw3]; exact HB.out.set _ _ _ rfl
            have hg3 : w.grownBy w3 (some g) := by rw [hw3]; exact grown_trans HG.out (grown_setCell _ _ _ _)
            have hW3 := hW.set j o (by omega) HS.out.2.2
            have HB3 := hid hB3; clear hB3
            have HG3 := hid hg3; clear hg3
            clear hw3 hca hfa
            go_wp2_with fail
            go_roundw
            case rel =>
              have R : ∃ (j1 : Nat) (cur1 : List Nat) (c1 : Nat), j1 ≤ N ∧ Value.int .i64 ((j : Int) + 1) = .int .i64 j1 ∧ Value.int .u64 (r2 : Int) = .int .u64 c1 ∧ c1 ≤ 1 ∧ Blk w3 g cur1 ∧ M.Wrote 18446744073709551616 zs off N cur1 ∧ w.grownBy w3 (some g) ∧ V (M.seg cur1 off N) + c1 * 18446744073709551616 ^ j1 = V (M.seg zs off N) + V ys := by
                refine ⟨j + 1, cur2.set (off + j) o, r2, by omega, by go_num, rfl, HS.out.2.1, HB3.out, hW3, HG3.out, ?_⟩
                unfold V
                rw [Nat.pow_succ]
                have h2 := M.val_seg_set 18446744073709551616 cur2 off N j o (by omega) (by have := hW.len; omega)
                rw [← HX.out] at h2
                exact M.add_over (y := 0) HV.out h2 HS.out.1
              first | exact R | ((repeat apply Exists.intro); exact ⟨R, rfl⟩)
            case measure => simp [intOf]; omega
          · have hlt2 : ¬ (j : Int) < (N : Int) := by omega
            have e : j = N := by omega
            subst e
            have HBk := hid hBk; clear hBk
            have HG := hid hg; clear hg
            go_wp2_with fail
            go_end0
            exact ⟨rfl, HG.out, cur2, c2, HBk.out, hW, by omega, HV.out⟩

end Go.Proofs.Ytehplfmnipadmad

namespace Go.Proofs.Ytehplfmnipadmad
open Go.RowKit
set_option linter.unusedVariables false
set_option maxRecDepth 100000

theorem V_snoc0 (xs : List Nat) : V (xs ++ List.replicate 1 0) = V xs := by
  unfold V; rw [M.val_append]; simp [M.val]

set_option maxHeartbeats 1000000 in
theorem add_ge (ao bo : Option Addr) (n m c d : Nat) (a b : Nat) (w : World) (sw : Bool) (hl : (L a).length = n) (hm : (L b).length = m) (hnm : m ≤ n) (hn : n ≤ 1048576) (hr : Rd w ao (L a)) (hr2 : Rd w bo (L b)) (hsw : sw = true → m < n) :
    Calls Try.prog 53 (if sw then #[.slice bo m d, .slice ao n c] else #[.slice ao n c, .slice bo m d]) w fun e w' => Ret w w' e (L (a + b)) := by
  have fin : ∀ (w1 w2 : World), Blk w1 w.heap.size (L a ++ List.replicate 1 0) → Below w.heap.size w w1 → AddInPost w1 w2 w.heap.size (L a ++ List.replicate 1 0) 0 (n + 1) (V (L b)) →
      ∃ cur, Blk w2 w.heap.size cur ∧ cur.length = n + 1 ∧ F64 cur ∧ V cur = a + b ∧ Below w.heap.size w w2 := by
    intro w1 w2 hB hb hp
    obtain ⟨hg, cur, cc, hBc, hW, hc1, hv⟩ := hp
    have hlen : cur.length = n + 1 := by rw [hW.len]; simp [hl]
    refine ⟨cur, hBc, hlen, hW.lt, ?_, hb.trans ((Below.refl _ _).grown hg hb.size (fun _ h => by cases h; exact Nat.le_refl _))⟩
    rw [M.seg_all cur _ hlen, M.seg_all _ _ (by simp [hl]), V_snoc0, V_L, V_L] at hv
    have h1 := L_lt a n (by omega)
    have h2 := L_lt b n (by omega)
    exact (M.no_carry hv (by rw [Nat.pow_succ]; omega)).2
  have hsep : ∀ b2 o2, 0 < (L b).length → bo = some ⟨b2, o2, none⟩ → b2 ≠ w.heap.size := by
    intro b2 o2 hp e
    obtain ⟨b3, o3, e3, hc⟩ := hr2 hp
    rw [e] at e3
    simp only [Option.some.injEq, Addr.mk.injEq] at e3
    have := World.block_lt_of_cell? w _ (hc 0 hp)
    simp at this
    omega
  cases sw
  · have hlt : ¬ (n : Int) < (m : Int) := by omega
    simp only [Bool.false_eq_true, if_false]
    go_enter Try.func53, Try.ntmps53
    go_wp2_with fail
    refine (clone_any ao n c 1 (L a) _ hl (by omega) (by omega) hr).mono ?_
    rintro e w1 ⟨rfl, hB1, hb1⟩
    go_wp2_with fail
    refine (addIn_any w.heap.size 0 (n + 1) (n + 1) bo m d _ (L b) _ hB1 (fun x hx => ?_) (by simp [hl]) (by omega) hm (by omega) (F64_L b) (hr2.below hb1) (fun hp b2 o2 => hsep b2 o2 hp)).mono ?_
    · rcases List.mem_append.1 hx with hx | hx
      · exact F64_L a x hx
      · simp at hx; omega
    rintro e w2 ⟨rfl, hp⟩
    obtain ⟨cur, hB2, hlen, hf, hv, hb2⟩ := fin w1 w2 hB1 hb1 hp
    clear hp fin hB1
    go_wp2_with fail
    refine (trim_any _ (n + 1) (n + 1) cur _ hlen (Nat.le_refl _) (by omega) hf hB2.rd0).mono ?_
    rw [hv]
    rintro e w3 ⟨rfl, rfl⟩
    go_wp2_with fail
    go_ret
    have h1 := L_len cur hf
    have h2 := L_take cur hf
    rw [hv] at h1 h2
    have h3 := hB2.ownPre (base := w.heap.size) (Nat.le_refl _) h1 hlen (by unfold maxLen; omega)
    rw [h2] at h3
    exact ⟨_, _, rfl, h3, hb2⟩
  · have hlt : (m : Int) < (n : Int) := by have := hsw rfl; omega
    simp only [if_true]
    go_enter Try.func53, Try.ntmps53
    go_wp2_with fail
    refine (clone_any ao n c 1 (L a) _ hl (by omega) (by omega) hr).mono ?_
    rintro e w1 ⟨rfl, hB1, hb1⟩
    go_wp2_with fail
    refine (addIn_any w.heap.size 0 (n + 1) (n + 1) bo m d _ (L b) _ hB1 (fun x hx => ?_) (by simp [hl]) (by omega) hm (by omega) (F64_L b) (hr2.below hb1) (fun hp b2 o2 => hsep b2 o2 hp)).mono ?_
    · rcases List.mem_append.1 hx with hx | hx
      · exact F64_L a x hx
      · simp at hx; omega
    rintro e w2 ⟨rfl, hp⟩
    obtain ⟨cur, hB2, hlen, hf, hv, hb2⟩ := fin w1 w2 hB1 hb1 hp
    clear hp fin hB1
    go_wp2_with fail
    refine (trim_any _ (n + 1) (n + 1) cur _ hlen (Nat.le_refl _) (by omega) hf hB2.rd0).mono ?_
    rw [hv]
    rintro e w3 ⟨rfl, rfl⟩
    go_wp2_with fail
    go_ret
    have h1 := L_len cur hf
    have h2 := L_take cur hf
    rw [hv] at h1 h2
    have h3 := hB2.ownPre (base := w.heap.size) (Nat.le_refl _) h1 hlen (by unfold maxLen; omega)
    rw [h2] at h3
    exact ⟨_, _, rfl, h3, hb2⟩

theorem add_any (ao bo : Option Addr) (n m c d : Nat) (a b : Nat) (w : World) (hl : (L a).length = n) (hm : (L b).length = m) (hn : n ≤ 1048576) (hm2 : m ≤ 1048576) (hr : Rd w ao (L a)) (hr2 : Rd w bo (L b)) :
    Calls Try.prog 53 #[.slice ao n c, .slice bo m d] w fun e w' => Ret w w' e (L (a + b)) := by
  by_cases h : m ≤ n
  · exact add_ge ao bo n m c d a b w false hl hm h hn hr hr2 (fun h => by cases h)
  · have := add_ge bo ao m n d c b a w true hm hl (by omega) (by omega) hr2 hr (fun _ => by omega)
    rw [Nat.add_comm b a] at this
    exact this

/-- What NatAdd is to answer. -/
def addDoc (xs ys : List Nat) : List Nat := if xs.length ≤ 1200 ∧ ys.length ≤ 1200 then L (V xs + V ys) else []

theorem addDoc_len (xs ys : List Nat) (hx : F64 xs) (hy : F64 ys) : (addDoc xs ys).length ≤ 2400 := by
  unfold addDoc
  split
  · next h =>
    have h1 := L_len xs hx
    have h2 := L_len ys hy
    have := M.len_add (B := 18446744073709551616) (by omega) (V xs) (V ys) 1200 (show (L (V xs)).length ≤ 1200 by omega) (show (L (V ys)).length ≤ 1200 by omega)
    exact Nat.le_trans this (by omega)
  · simp

set_option maxHeartbeats 1000000 in
theorem implNatAdd_any (ao bo : Option Addr) (n m c d : Nat) (xs ys : List Nat) (w : World) (hl : xs.length = n) (hm : ys.length = m) (hc : n ≤ c) (hd : m ≤ d) (hn : n ≤ 1048576) (hn2 : m ≤ 1048576) (hx : F64 xs) (hy : F64 ys) (hr : Rd w ao xs) (hr2 : Rd w bo ys) :
    Calls Try.prog 18 #[.slice ao n c, .slice bo m d] w fun e w' => Ret w w' e (addDoc xs ys) := by
  by_cases h1 : n ≤ 1200 ∧ m ≤ 1200
  · have hdoc : addDoc xs ys = L (V xs + V ys) := by unfold addDoc; rw [if_pos (by omega)]
    rw [hdoc]
    have hall : true = [n, m].all (fun x => decide (x ≤ 1200)) := by simp [h1]
    have hall' := hid hall; clear hall
    go_enter Try.func18, Try.ntmps18
    go_wp2_with fail
    refine (short_any _ 2 [n, m] true _ rfl (by omega) (by simp; omega) hall'.out (two_cells _ _ _ _ _ _ _ _)).mono ?_
    rintro e w1 ⟨rfl, hw1⟩
    have hb1 : Below w.heap.size w w1 := by rw [hw1]; exact (Below.refl _ _).alloc (Nat.le_refl _) _
    clear hw1
    go_wp2_with fail
    refine (trim_any ao n c xs _ hl hc (by omega) hx (hr.below hb1)).mono ?_
    rintro e w2 ⟨rfl, rfl⟩
    go_wp2_with fail
    refine (trim_any bo m d ys _ hm hd (by omega) hy (hr2.below hb1)).mono ?_
    rintro e w3 ⟨rfl, rfl⟩
    go_wp2_with fail
    have s1 := L_len xs hx
    have s2 := L_len ys hy
    refine (add_any ao bo _ _ c d (V xs) (V ys) _ rfl rfl (by omega) (by omega) ((hr.below hb1).trim hx) ((hr2.below hb1).trim hy)).mono ?_
    rintro e w4 hret
    obtain ⟨ao', cap', rfl, ho, hb⟩ := hret.later hb1
    go_wp2_with fail
    go_ret
    exact ⟨ao', cap', rfl, ho, hb⟩
  · have hdoc : addDoc xs ys = [] := by unfold addDoc; rw [if_neg (by omega)]
    rw [hdoc]
    have hall : false = [n, m].all (fun x => decide (x ≤ 1200)) := by simp; omega
    have hall' := hid hall; clear hall
    go_enter Try.func18, Try.ntmps18
    go_wp2_with fail
    refine (short_any _ 2 [n, m] false _ rfl (by omega) (by simp; omega) hall'.out (two_cells _ _ _ _ _ _ _ _)).mono ?_
    rintro e w1 ⟨rfl, hw1⟩
    have hb1 : Below w.heap.size w w1 := by rw [hw1]; exact (Below.refl _ _).alloc (Nat.le_refl _) _
    clear hw1
    go_wp2_with fail
    go_ret
    exact Ret.nil hb1

set_option maxHeartbeats 1000000 in
theorem specNatAdd_any (ao bo : Option Addr) (n m c d : Nat) (xs ys : List Nat) (w : World) (hl : xs.length = n) (hm : ys.length = m) (hn : n ≤ 1048576) (hn2 : m ≤ 1048576) (hx : F64 xs) (hy : F64 ys) (hr : Rd w ao xs) (hr2 : Rd w bo ys) :
    Calls Try.prog 13 #[.slice ao n c, .slice bo m d] w fun e w' => Ret w w' e (addDoc xs ys) := by
  by_cases h1 : n ≤ 1200
  · by_cases h2 : m ≤ 1200
    · have hdoc : addDoc xs ys = L (V xs + V ys) := by unfold addDoc; rw [if_pos (by omega)]
      rw [hdoc]
      have d1 : decide (n ≤ 1200) = true := by simpa using h1
      have d2 : decide (m ≤ 1200) = true := by simpa using h2
      go_enter Try.func13, Try.ntmps13
      go_wp2_with fail
      refine (l1Fits_any ao n c _ (by omega)).mono ?_
      rintro e w1 ⟨rfl, rfl⟩
      rw [d1]
      go_wp2_with fail
      refine (l1Fits_any bo m d _ (by omega)).mono ?_
      rintro e w2 ⟨rfl, rfl⟩
      rw [d2]
      go_wp2_with fail
      refine (l1In_any ao n c xs _ hl (by omega) hx hr).mono ?_
      rintro e w3 ⟨ao1, cap1, rfl, ho1, hb1⟩
      go_wp2_with fail
      refine (l1In_any bo m d ys _ hm (by omega) hy (hr2.below hb1)).mono ?_
      rintro e w4 ⟨ao2, cap2, rfl, ho2, hb2⟩
      go_wp2_with fail
      have hs1 := D_len xs hx
      have hs2 := D_len ys hy
      refine (l1Add_any ao1 ao2 _ _ cap1 cap2 (V xs) (V ys) _ rfl rfl (by omega) (by omega) ((Rd.own ho1).below hb2) (Rd.own ho2)).mono ?_
      rintro e w5 ⟨ao3, cap3, rfl, ho3, hb3⟩
      have b3 := (hb1.trans (hb2.mono hb1.size)).trans (hb3.mono (Nat.le_trans hb1.size hb2.size))
      go_wp2_with fail
      have hs3 : (D (V xs + V ys)).length ≤ 2400 + 1 := M.len_add (by omega) (V xs) (V ys) 2400 (show (D (V xs)).length ≤ 2400 by omega) (show (D (V ys)).length ≤ 2400 by omega)
      refine (l1Out_any ao3 _ cap3 (V xs + V ys) _ rfl (by omega) (Rd.own ho3)).mono ?_
      rintro e w6 ⟨ao4, cap4, rfl, ho4, hb4⟩
      go_wp2_with fail
      go_ret
      exact ⟨ao4, cap4, rfl, own_base ho4 b3.size, b3.trans (hb4.mono b3.size)⟩
    · have hdoc : addDoc xs ys = [] := by unfold addDoc; rw [if_neg (by omega)]
      rw [hdoc]
      have d1 : decide (n ≤ 1200) = true := by simpa using h1
      have d2 : decide (m ≤ 1200) = false := by simpa using h2
      go_enter Try.func13, Try.ntmps13
      go_wp2_with fail
      refine (l1Fits_any ao n c _ (by omega)).mono ?_
      rintro e w1 ⟨rfl, rfl⟩
      rw [d1]
      go_wp2_with fail
      refine (l1Fits_any bo m d _ (by omega)).mono ?_
      rintro e w2 ⟨rfl, rfl⟩
      rw [d2]
      go_wp2_with fail
      go_ret
      exact Ret.nil (Below.refl _ _)
  · have hdoc : addDoc xs ys = [] := by unfold addDoc; rw [if_neg (by omega)]
    rw [hdoc]
    have d1 : decide (n ≤ 1200) = false := by simpa using h1
    go_enter Try.func13, Try.ntmps13
    go_wp2_with fail
    refine (l1Fits_any ao n c _ (by omega)).mono ?_
    rintro e w1 ⟨rfl, rfl⟩
    rw [d1]
    go_wp2_with fail
    go_ret
    exact Ret.nil (Below.refl _ _)

end Go.Proofs.Ytehplfmnipadmad
