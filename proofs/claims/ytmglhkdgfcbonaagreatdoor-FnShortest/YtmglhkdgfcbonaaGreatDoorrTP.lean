import Derived.Test.YtmglhkdgfcbonaaGreatDoorrBW
import Derived.Test.YtmglhkdgfcbonaaGreatDoorrBX
set_option maxHeartbeats 2000000
set_option maxRecDepth 100000
namespace Go.Proofs.YtmglhkdgfcbonaaGreatDoor
open Go.RowKit
set_option linter.unusedVariables false
set_option maxRecDepth 100000
def SubInPost (w w' : World) (g : Nat) (zs : List Nat) (off N : Nat) (t : Nat) : Prop :=
 w.grownBy w' (some g) ∧ ∃ cur c, Blk w' g cur ∧ M.Wrote 18446744073709551616 zs off N cur ∧ c ≤ 1 ∧ V (M.seg cur off N) + t = V (M.seg zs off N) + c * 18446744073709551616 ^ N

theorem subIn_any (g off N cap : Nat) (ao bo : Option Addr) (m d : Nat) (zs ys : List Nat) (w : World) (hao : 0 < N → ao = some ⟨g, off, none⟩) (hB : Blk w g zs) (hz : F64 zs) (ho : off + N ≤ zs.length) (hN : N ≤ 4194304) (hm : ys.length = m) (hmN : m ≤ N) (hy : F64 ys) (hr : Rd w bo ys) (hsep : 0 < ys.length → ∀ b2 o2, bo = some ⟨b2, o2, none⟩ → b2 ≠ g) :
 Calls Tryz.prog 117 #[.slice ao N cap, .slice bo m d] w fun e w' => e = .returned (.tuple #[]) ∧ SubInPost w w' g zs off N (V ys) := by
 go_enter Tryz.func117, Tryz.ntmps117
 go_wp2_with fail
 go_loopw [4, 13] (fun cy i wr => ∃ (k : Nat) (cur : List Nat) (c : Nat), k ≤ m ∧ i = .int .i64 k ∧ cy = .int .u64 c ∧ c ≤ 1 ∧ Blk wr g cur ∧ M.Wrote 18446744073709551616 zs off N cur ∧ w.grownBy wr (some g) ∧ V (M.seg cur off N) + V (ys.take k) = V (M.seg zs off N) + c * 18446744073709551616 ^ k) (fun _ i _ => m - (intOf i).toNat)
 case atStart => exact ⟨0, zs, 0, by omega, rfl, rfl, by omega, hB, M.Wrote.refl hz _ _, World.grownBy.refl _ _, by simp [V, M.val]⟩
 case round =>
  obtain ⟨k, cur, c, hk, rfl, rfl, hc, hBk, hW, hg, hv⟩ := hrel
  have HV := hid hv; clear hv
  by_cases hlt : k < m
  · have hao' := hao (by omega)
    obtain ⟨b2, o2, hbo, hcl⟩ := hr (by omega)
    have hck : wr.cell? ⟨b2, o2 + k, none⟩ = some (.int .u64 ((ys.getD k 0 : Nat) : Int)) := hg.cell (hcl k (by omega)) (by simpa using hsep (by omega) b2 o2 hbo)
    clear hcl
    have hy1 := hy.get k
    obtain ⟨y, hyy⟩ : ∃ y : Nat, y = ys.getD k 0 := ⟨_, rfl⟩
    rw [← hyy] at hck hy1
    have HY := hid hyy; clear hyy
    have hca := hBk.cell (off + k) (by have := hW.len; omega)
    have hfa := hBk.frozen (off + k)
    have hx1 : cur.getD (off + k) 0 < 18446744073709551616 := M.getD_lt (by omega) hW.lt _
    obtain ⟨x, hxx⟩ : ∃ x : Nat, x = cur.getD (off + k) 0 := ⟨_, rfl⟩
    rw [← hxx] at hca hx1
    have HX := hid hxx; clear hxx
    have hlt' : (k : Int) < (m : Int) := by omega
    have hlt2 : (k : Int) < (N : Int) := by omega
    have HB := hid hBk; clear hBk
    have HG := hid hg; clear hg
    obtain ⟨p, hp⟩ : ∃ p : Nat, p = (x + 18446744073709551616 - y) % 18446744073709551616 := ⟨_, rfl⟩
    have hwp := wrapSub x y p hp (by omega)
    obtain ⟨o, hoo⟩ : ∃ o : Nat, o = (p + 18446744073709551616 - c) % 18446744073709551616 := ⟨_, rfl⟩
    have hwo := wrapSub p c o hoo (by omega)
    obtain ⟨r1, hr1⟩ : ∃ r : Nat, r = if (x : Int) < (y : Int) then 1 else 0 := ⟨_, rfl⟩
    obtain ⟨r2, hr2⟩ : ∃ r : Nat, r = if (p : Int) < (c : Int) then 1 else 0 := ⟨_, rfl⟩
    have hsum : o + y + c = x + 18446744073709551616 * (r1 + r2) ∧ r1 + r2 ≤ 1 ∧ o < 18446744073709551616 := by
     split at hr1 <;> split at hr2 <;> omega
    have hle1 : r1 ≤ 1 := by omega
    have hle2 : r2 ≤ 1 := by omega
    have HP := hid hp; clear hp
    have HO := hid hoo; clear hoo
    have HR1 := hid hr1; clear hr1
    have HR2 := hid hr2; clear hr2
    have HS := hid hsum; clear hsum
    go_wp2_with fail
    refine (less_any _ _ _ r1 HR1.out).mono ?_
    rintro e v1 ⟨rfl, rfl⟩
    go_wp2_with fail
    refine (less_any _ _ _ r2 HR2.out).mono ?_
    rintro e v2 ⟨rfl, rfl⟩
    go_wp2_with fail
    have hW3 := hW.set k o (by omega) HS.out.2.2
    go_roundw
    case rel =>
     have R : ∃ (k1 : Nat) (cur1 : List Nat) (c1 : Nat), k1 ≤ m ∧ Value.int .i64 ((k : Int) + 1) = .int .i64 k1 ∧ Value.int .u64 ((r1 : Int) + (r2 : Int)) = .int .u64 c1 ∧ c1 ≤ 1 ∧ Blk (v2.setCell ⟨g, off + k, none⟩ (.int .u64 (o : Int))) g cur1 ∧ M.Wrote 18446744073709551616 zs off N cur1 ∧ w.grownBy (v2.setCell ⟨g, off + k, none⟩ (.int .u64 (o : Int))) (some g) ∧ V (M.seg cur1 off N) + V (ys.take k1) = V (M.seg zs off N) + c1 * 18446744073709551616 ^ k1 := by
      refine ⟨k + 1, cur.set (off + k) o, r1 + r2, by omega, by go_num, by go_num, HS.out.2.1, HB.out.set _ _ _ rfl, hW3, grown_trans HG.out (grown_setCell _ _ _ _), ?_⟩
      unfold V
      rw [M.val_take_succ, ← HY.out, Nat.pow_succ]
      have h2 := M.val_seg_set 18446744073709551616 cur off N k o (by omega) (by have := hW.len; omega)
      rw [← HX.out] at h2
      exact M.sub_over HV.out h2 HS.out.1
     first | exact R | ((repeat apply Exists.intro); exact ⟨R, rfl⟩) | ((repeat apply Exists.intro); exact ⟨R, by rw [hao', hbo]⟩)
    case measure => simp [intOf]; omega
  · have e : k = m := by omega
    subst e
    have hv : V (M.seg cur off N) + V ys = V (M.seg zs off N) + c * 18446744073709551616 ^ k := by
     have := HV.out
     rwa [List.take_of_length_le (by omega)] at this
    clear HV
    have HBk := hid hBk; clear hBk
    have HG := hid hg; clear hg
    have HV := hid hv; clear hv
    obtain ⟨wo, hwo⟩ : ∃ wo : World, wo = wr := ⟨_, rfl⟩
    rw [← hwo] at HBk HG ⊢
    clear hwo
    go_wp2_with fail
    go_loopw [4, 9] (fun cy i wr => ∃ (j : Nat) (cur : List Nat) (c : Nat), j ≤ N ∧ i = .int .i64 j ∧ cy = .int .u64 c ∧ c ≤ 1 ∧ Blk wr g cur ∧ M.Wrote 18446744073709551616 zs off N cur ∧ w.grownBy wr (some g) ∧ V (M.seg cur off N) + V ys = V (M.seg zs off N) + c * 18446744073709551616 ^ j) (fun _ i _ => N - (intOf i).toNat)
    case atStart => exact ⟨k, cur, c, by omega, rfl, rfl, hc, HBk.out, hW, HG.out, HV.out⟩
    case round =>
     clear HBk HG HV hW hc
     obtain ⟨j, cur2, c2, hj, rfl, rfl, hc, hBk, hW, hg, hv⟩ := hrel
     have HV := hid hv; clear hv
     by_cases hcc : c2 = 0
     · subst hcc
       have hgt : ¬ (0 : Int) < ((0 : Nat) : Int) := by omega
       have HBk := hid hBk; clear hBk
       have HG := hid hg; clear hg
       go_wp2_with fail
       go_end0
       refine ⟨rfl, HG.out, cur2, 0, HBk.out, hW, by omega, ?_⟩
       have := HV.out
       simpa using this
     · have hc1 : c2 = 1 := by omega
       have hc0 : (0 : Int) < (c2 : Int) := by omega
       have HC1 := hid hc1; clear hc1
       by_cases hlt : j < N
       · have hao' := hao (by omega)
         have hca := hBk.cell (off + j) (by have := hW.len; omega)
         have hfa := hBk.frozen (off + j)
         have hx1 : cur2.getD (off + j) 0 < 18446744073709551616 := M.getD_lt (by omega) hW.lt _
         obtain ⟨x, hxx⟩ : ∃ x : Nat, x = cur2.getD (off + j) 0 := ⟨_, rfl⟩
         rw [← hxx] at hca hx1
         have HX := hid hxx; clear hxx
         have hlt2 : (j : Int) < (N : Int) := by omega
         obtain ⟨o, hoo⟩ : ∃ o : Nat, o = (x + 18446744073709551616 - c2) % 18446744073709551616 := ⟨_, rfl⟩
         have hwo := wrapSub x c2 o hoo (by omega)
         obtain ⟨r2, hr2⟩ : ∃ r : Nat, r = if (x : Int) < (c2 : Int) then 1 else 0 := ⟨_, rfl⟩
         have hsum : o + 0 + c2 = x + 18446744073709551616 * r2 ∧ r2 ≤ 1 ∧ o < 18446744073709551616 := by
          split at hr2 <;> omega
         have HO := hid hoo; clear hoo
         have HR2 := hid hr2; clear hr2
         have HS := hid hsum; clear hsum
         have HB := hid hBk; clear hBk
         have HG := hid hg; clear hg
         go_wp2_with fail
         refine (less_any _ _ _ r2 HR2.out).mono ?_
         rintro e w3 ⟨rfl, rfl⟩
         have hW3 := hW.set j o (by omega) HS.out.2.2
         go_wp2_with fail
         go_roundw
         case rel =>
          have R : ∃ (j1 : Nat) (cur1 : List Nat) (c1 : Nat), j1 ≤ N ∧ Value.int .i64 ((j : Int) + 1) = .int .i64 j1 ∧ Value.int .u64 (r2 : Int) = .int .u64 c1 ∧ c1 ≤ 1 ∧ Blk (w3.setCell ⟨g, off + j, none⟩ (.int .u64 (o : Int))) g cur1 ∧ M.Wrote 18446744073709551616 zs off N cur1 ∧ w.grownBy (w3.setCell ⟨g, off + j, none⟩ (.int .u64 (o : Int))) (some g) ∧ V (M.seg cur1 off N) + V ys = V (M.seg zs off N) + c1 * 18446744073709551616 ^ j1 := by
           refine ⟨j + 1, cur2.set (off + j) o, r2, by omega, by go_num, rfl, HS.out.2.1, HB.out.set _ _ _ rfl, hW3, grown_trans HG.out (grown_setCell _ _ _ _), ?_⟩
           unfold V
           rw [Nat.pow_succ]
           have h2 := M.val_seg_set 18446744073709551616 cur2 off N j o (by omega) (by have := hW.len; omega)
           rw [← HX.out] at h2
           exact M.sub_over (y := 0) HV.out h2 HS.out.1
          first | exact R | ((repeat apply Exists.intro); exact ⟨R, rfl⟩) | ((repeat apply Exists.intro); exact ⟨R, by rw [hao']⟩)
         case measure => simp [intOf]; omega
       · have hlt2 : ¬ (j : Int) < (N : Int) := by omega
         have e : j = N := by omega
         subst e
         have HBk := hid hBk; clear hBk
         have HG := hid hg; clear hg
         go_wp2_with fail
         go_end0
         exact ⟨rfl, HG.out, cur2, c2, HBk.out, hW, by omega, HV.out⟩

theorem sub_any (ao bo : Option Addr) (n m c d : Nat) (a b : Nat) (w : World) (hl : (L a).length = n) (hm : (L b).length = m) (hba : b ≤ a) (hn : n ≤ 1048576) (hr : Rd w ao (L a)) (hr2 : Rd w bo (L b)) :
 Calls Tryz.prog 90 #[.slice ao n c, .slice bo m d] w fun e w' => Ret w w' e (L (a - b)) := by
 have hmn : m ≤ n := by
  rcases Nat.lt_or_ge n m with h | h
  · have : a < b := M.lt_of_length (B := 18446744073709551616) (by omega) (by unfold L at hl hm; omega)
    omega
  · exact h
 have hsep : 0 < (L b).length → ∀ b2 o2, bo = some ⟨b2, o2, none⟩ → b2 ≠ w.heap.size := by
  intro hp b2 o2 e
  obtain ⟨b3, o3, e3, hc⟩ := hr2 hp
  rw [e] at e3
  simp only [Option.some.injEq, Addr.mk.injEq] at e3
  have := World.block_lt_of_cell? w _ (hc 0 hp)
  simp at this
  omega
 have HSep := hid hsep; clear hsep
 go_enter Tryz.func90, Tryz.ntmps90
 go_wp2_with fail
 refine (clone_any ao n c 0 (L a) _ hl (by omega) (by omega) hr).mono ?_
 rw [List.replicate_zero, List.append_nil]
 rintro e w1 ⟨rfl, hB1, hb1⟩
 go_wp2_with fail
 refine (subIn_any w.heap.size 0 n n _ bo m d (L a) (L b) _ (fun _ => rfl) hB1 (F64_L a) (by omega) (by omega) hm hmn (F64_L b) (hr2.below hb1) HSep.out).mono ?_
 rintro e w2 ⟨rfl, hg, cur, cc, hB2, hW, hc1, hv⟩
 have hb2 : Below w.heap.size w w2 := hb1.trans ((Below.refl _ _).grown hg hb1.size (fun _ h => by cases h; exact Nat.le_refl _))
 have hlen : cur.length = n := by rw [hW.len]; exact hl
 have hfv : V cur = a - b := by
  rw [M.seg_all cur n hlen, M.seg_all (L a) n hl, V_L, V_L] at hv
  have h1 := M.val_lt (B := 18446744073709551616) (by omega) cur hW.lt
  rw [hlen] at h1
  exact (M.no_borrow hv h1 hba).2
 have hf : F64 cur := hW.lt
 clear hv hg hW hB1
 have HFV := hid hfv; clear hfv
 have HLen := hid hlen; clear hlen
 go_wp2_with fail
 refine (trim_any _ n n cur _ HLen.out (Nat.le_refl _) (by omega) hf hB2.rd0).mono ?_
 rw [HFV.out]
 rintro e w3 ⟨rfl, rfl⟩
 go_wp2_with fail
 go_ret
 have h1 := L_len cur hf
 have h2 := L_take cur hf
 rw [HFV.out] at h1 h2
 have h3 := hB2.ownPre (base := w.heap.size) (Nat.le_refl _) h1 HLen.out (by unfold maxLen; omega)
 rw [h2] at h3
 exact ⟨_, _, rfl, h3, hb2⟩

theorem number_any (X : Nat) (hX : X < 2 ^ 128) (w : World) :
 Calls Tryz.prog 85 #[.agg #[.int .u64 (M.hiN X : Int), .int .u64 (M.loN X : Int)]] w fun e w' => ∃ ao c, e = .returned (.slice ao (L X).length c) ∧ Rd w' ao (L X) ∧ (L X).length ≤ c ∧ Below w.heap.size w w' := by
 go_enter Tryz.func85, Tryz.ntmps85
 go_wp2_with fail
 have hv : V [M.loN X, M.hiN X] = X := by rw [V2]; exact (M.hl X).symm
 have hf : F64 [M.loN X, M.hiN X] := by intro y hy; simp at hy; have := M.loLt X; have := M.hiLt hX; omega
 have b0 : Below w.heap.size w ((w.alloc (.cells #[.int .u64 (M.hiN X : Int), .int .u64 (M.loN X : Int)] 29)).alloc (.cells #[.int .u64 (M.loN X : Int), .int .u64 (M.hiN X : Int)] 22)) := ((Below.refl _ _).alloc (Nat.le_refl _) _).alloc (by simp) _
 have hr : Rd ((w.alloc (.cells #[.int .u64 (M.hiN X : Int), .int .u64 (M.loN X : Int)] 29)).alloc (.cells #[.int .u64 (M.loN X : Int), .int .u64 (M.hiN X : Int)] 22)) (some ⟨w.heap.size + 1, 0, none⟩) [M.loN X, M.hiN X] := by
  intro _
  refine ⟨w.heap.size + 1, 0, rfl, fun i hi => ?_⟩
  have : i = 0 ∨ i = 1 := by simp at hi; omega
  rcases this with rfl | rfl <;> simp [go_sem]
 refine (trim_any _ 2 2 [M.loN X, M.hiN X] _ rfl (Nat.le_refl _) (by omega) hf hr).mono ?_
 rw [hv]
 rintro e v1 ⟨rfl, rfl⟩
 have hq := hr.trim hf
 rw [hv] at hq
 have hl : (L X).length ≤ 2 := by rw [← hv]; exact L_len _ hf
 have HQ := hid hq
 have HL := hid hl
 clear hq hr hl hf hv
 go_wp2_with fail
 go_ret
 exact ⟨_, _, rfl, HQ.out, HL.out, b0⟩

theorem and_one (z : Int) (h0 : 0 ≤ z) (h1 : z < 18446744073709551616) : bits .and .u64 z 1 = z % 2 := by go_bits2

theorem even_any (X : Nat) (w : World) :
 Calls Tryz.prog 92 #[.agg #[.int .u64 (M.hiN X : Int), .int .u64 (M.loN X : Int)]] w fun e w' => e = .returned (.bool (decide (X % 2 = 0))) ∧ Below w.heap.size w w' := by
 go_enter Tryz.func92, Tryz.ntmps92
 have hb : (bits BinOp.and IntKind.u64 (M.loN X : Int) 1 == 0) = decide (X % 2 = 0) := by
  have e : bits BinOp.and IntKind.u64 (M.loN X : Int) 1 = ((M.loN X % 2 : Nat) : Int) := by
   have := M.loLt X
   rw [and_one _ (by omega) (by omega)]; omega
  rw [e]
  have : M.loN X % 2 = X % 2 := by unfold M.loN; omega
  rw [this]
  by_cases h : X % 2 = 0
  · simp [h]
  · have h2 : X % 2 = 1 := by omega
    simp [h2]
 go_wp2_with fail
 go_ret
 exact ⟨by rw [← hb]; rfl, (Below.refl _ _).alloc (Nat.le_refl _) _⟩

theorem rdivMod_any (a b : Option Addr) (c d n m N De : Nat) (w : World) (hl : (L N).length = n) (hm : (L De).length = m) (h0 : 0 < De) (hn : n ≤ 1048576) (hn2 : m ≤ 1048576) (ra : Rd w a (L N)) (rb : Rd w b (L De)) :
 Calls Tryz.prog 88 #[.agg #[.slice a n c, .slice b m d]] w fun e w' => ∃ a1 c1 a2 c2, e = .returned (.tuple #[.slice a1 (L (N / De)).length c1, .slice a2 (L (N % De)).length c2]) ∧ Rd w' a1 (L (N / De)) ∧ Below w.heap.size w w' := by
 have bn : Below w.heap.size w (w.alloc (.cells #[.slice a n c, .slice b m d] 82)) := (Below.refl _ _).alloc (Nat.le_refl _) _
 obtain ⟨t0, t1, t2, t3⟩ := two_new w 82 (.slice a n c) (.slice b m d)
 have kd := divMod_any a b n m c d N De _ hl hm h0 hn hn2 (ra.below bn) (rb.below bn)
 go_enter Tryz.func88, Tryz.ntmps88
 go_wp2_with fail
 refine kd.mono ?_
 rintro e w1 ⟨a1, c1, a2, c2, mid, rfl, g1, g2, o1, o2, hb⟩
 go_wp2_with fail
 go_ret2
 exact ⟨a1, c1, a2, c2, rfl, o1.rd, bn.trans (hb.mono bn.size)⟩

theorem times_any (a b a' b' : Option Addr) (c d n m c' d' n' m' N De N' De' : Nat) (w : World) (hl : (L N).length = n) (hm : (L De).length = m) (hl' : (L N').length = n') (hm' : (L De').length = m') (hn : n ≤ 1048576) (hn2 : m ≤ 1048576) (hn' : n' ≤ 1048576) (hn2' : m' ≤ 1048576)
 (ra : Rd w a (L N)) (rb : Rd w b (L De)) (ra' : Rd w a' (L N')) (rb' : Rd w b' (L De')) :
 Calls Tryz.prog 87 #[.agg #[.slice a n c, .slice b m d], .agg #[.slice a' n' c', .slice b' m' d']] w fun e w' => RR w w' e (N * N') (De * De') := by
 go_enter Tryz.func87, Tryz.ntmps87
 go_wp2_with fail
 have b1 : Below w.heap.size w (((w.alloc (.cells #[.slice a n c, .slice b m d] 82)).alloc (.cells #[.slice a' n' c', .slice b' m' d'] 82)).alloc (.cells #[.slice none 0 0, .slice none 0 0] 82)) := (((Below.refl _ _).alloc (Nat.le_refl _) _).alloc (by simp) _).alloc (by simp; omega) _
 generalize hw1 : (((w.alloc (.cells #[.slice a n c, .slice b m d] 82)).alloc (.cells #[.slice a' n' c', .slice b' m' d'] 82)).alloc (.cells #[.slice none 0 0, .slice none 0 0] 82)) = w1 at *
 have c0 : w1.cell? ⟨w.heap.size, 0, none⟩ = some (.slice a n c) := by rw [← hw1]; simp [go_sem]
 have c1 : w1.cell? ⟨w.heap.size, 1, none⟩ = some (.slice b m d) := by rw [← hw1]; simp [go_sem]
 have c2 : w1.cell? ⟨w.heap.size + 1, 0, none⟩ = some (.slice a' n' c') := by rw [← hw1]; simp [go_sem]
 have c3 : w1.cell? ⟨w.heap.size + 1, 1, none⟩ = some (.slice b' m' d') := by rw [← hw1]; simp [go_sem]
 have r0 : w1.cell? ⟨w.heap.size + 1 + 1, 0, none⟩ = some (.slice none 0 0) := by rw [← hw1]; simp [go_sem]
 have r1 : w1.cell? ⟨w.heap.size + 1 + 1, 1, none⟩ = some (.slice none 0 0) := by rw [← hw1]; simp [go_sem]
 have z0 : w1.frozen? ⟨w.heap.size + 1 + 1, 0, none⟩ = false := by rw [← hw1]; simp [go_sem]
 have z1 : w1.frozen? ⟨w.heap.size + 1 + 1, 1, none⟩ = false := by rw [← hw1]; simp [go_sem]
 have n1 : w.heap.size + 3 ≤ w1.heap.size := by rw [← hw1]; simp
 clear hw1
 have k1 : ∀ v, Below w1.heap.size w1 v → Calls Tryz.prog 113 #[.slice a n c, .slice a' n' c'] v fun e v' => ∃ a1 c1, e = .returned (.slice a1 (L (N * N')).length c1) ∧ v'.ownsRow w1.heap.size 22 1 (.slice a1 (L (N * N')).length c1) (L (N * N')).length (U (L (N * N'))) ∧ Below w1.heap.size w1 v' := fun v hv => (mul_any a a' n n' c c' N N' v hl hl' hn hn' ((ra.below b1).below hv) ((ra'.below b1).below hv)).mono fun e v' ⟨a1, c1, he, ho, hb⟩ => ⟨a1, c1, he, own_base ho hv.size, keepC1 hv hb⟩
 have k2 : ∀ v a1 c1, Below w1.heap.size w1 v → v.ownsRow w1.heap.size 22 1 (.slice a1 (L (N * N')).length c1) (L (N * N')).length (U (L (N * N'))) → Calls Tryz.prog 113 #[.slice b m d, .slice b' m' d'] v fun e v' => ∃ a2 c2, e = .returned (.slice a2 (L (De * De')).length c2) ∧ (∀ x y, Rd ((v'.setCell ⟨w.heap.size + 1 + 1, 0, none⟩ x).setCell ⟨w.heap.size + 1 + 1, 1, none⟩ y) a1 (L (N * N')) ∧ Rd ((v'.setCell ⟨w.heap.size + 1 + 1, 0, none⟩ x).setCell ⟨w.heap.size + 1 + 1, 1, none⟩ y) a2 (L (De * De'))) ∧ v'.cell? ⟨w.heap.size + 1 + 1, 0, none⟩ = some (.slice none 0 0) ∧ v'.cell? ⟨w.heap.size + 1 + 1, 1, none⟩ = some (.slice none 0 0) ∧ v'.frozen? ⟨w.heap.size + 1 + 1, 0, none⟩ = false ∧ v'.frozen? ⟨w.heap.size + 1 + 1, 1, none⟩ = false ∧ Below w1.heap.size w1 v' := fun v a1 c1 hv ho1 => (mul_any b b' m m' d d' De De' v hm hm' hn2 hn2' ((rb.below b1).below hv) ((rb'.below b1).below hv)).mono fun e v' ⟨a2, c2, he, ho, hb⟩ => ⟨a2, c2, he, fun x y => ⟨own_two (own_below ho1 hb) (by omega) x y, own_two ho (by have := hv.size; omega) x y⟩, ((keepC1 hv hb).cell (by simp only; omega)).trans r0, ((keepC1 hv hb).cell (by simp only; omega)).trans r1, ((keepC1 hv hb).frozen (by simp only; omega)).trans z0, ((keepC1 hv hb).frozen (by simp only; omega)).trans z1, keepC1 hv hb⟩
 have D1 : ∀ v, Below w1.heap.size w1 v → (fun v => v.cell? ⟨w.heap.size, 0, none⟩ = some (.slice a n c) ∧ v.cell? ⟨w.heap.size, 1, none⟩ = some (.slice b m d) ∧ v.cell? ⟨w.heap.size + 1, 0, none⟩ = some (.slice a' n' c') ∧ v.cell? ⟨w.heap.size + 1, 1, none⟩ = some (.slice b' m' d')) v := fun v hv => ⟨(hv.cell (by simp only; omega)).trans c0, (hv.cell (by simp only; omega)).trans c1, (hv.cell (by simp only; omega)).trans c2, (hv.cell (by simp only; omega)).trans c3⟩
 have D2 : ∀ v x y, Below w1.heap.size w1 v → (fun v => v.cell? ⟨w.heap.size, 0, none⟩ = some (.slice a n c) ∧ v.cell? ⟨w.heap.size, 1, none⟩ = some (.slice b m d) ∧ v.cell? ⟨w.heap.size + 1, 0, none⟩ = some (.slice a' n' c') ∧ v.cell? ⟨w.heap.size + 1, 1, none⟩ = some (.slice b' m' d')) ((v.setCell ⟨w.heap.size + 1 + 1, 0, none⟩ x).setCell ⟨w.heap.size + 1 + 1, 1, none⟩ y) := fun v x y hv => ⟨((far2' v x y (by omega)).trans (hv.cell (by simp only; omega))).trans c0, ((far2' v x y (by omega)).trans (hv.cell (by simp only; omega))).trans c1, ((far2' v x y (by omega)).trans (hv.cell (by simp only; omega))).trans c2, ((far2' v x y (by omega)).trans (hv.cell (by simp only; omega))).trans c3⟩
 clear c0 c1 c2 c3 r0 r1 z0 z1 ra rb ra' rb' hl hm hl' hm'
 go_region_held3 (fun v => v.cell? ⟨w.heap.size, 0, none⟩ = some (.slice a n c) ∧ v.cell? ⟨w.heap.size, 1, none⟩ = some (.slice b m d) ∧ v.cell? ⟨w.heap.size + 1, 0, none⟩ = some (.slice a' n' c') ∧ v.cell? ⟨w.heap.size + 1, 1, none⟩ = some (.slice b' m' d')) (first | exact D1 _ (by assumption) | exact D1 _ ((Below.refl _ _).drew) | exact D2 _ _ _ (by assumption))
  (first | (have hq := hb1; go_at_call 113; refine (k2 _ _ _ hq ho1).mono ?_; rintro e w' ⟨ao2, ca2, rfl, hRd, f0, f1, f2, f3, hb2⟩; clear hb1 hq ho1) | (go_at_call 113; refine (k1 _ (Below.refl _ _).drew).mono ?_; rintro e w' ⟨ao1, ca1, rfl, ho1, hb1⟩))
 all_goals go_wp2_with fail
 all_goals exact bodyPost_ret (v := .agg #[.slice ao1 (L (N * N')).length ca1, .slice ao2 (L (De * De')).length ca2]) (by simp [results, Tryz.results87, go_sem, f0, f1]) rfl ⟨ao1, ca1, ao2, ca2, rfl, (hRd _ _).1, (hRd _ _).2, ((b1.trans (hb2.mono b1.size)).setCell (by simp only; omega) _).setCell (by simp only; omega) _⟩

end Go.Proofs.YtmglhkdgfcbonaaGreatDoor
