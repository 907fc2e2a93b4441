import Derived.Test.YtdfljbpcjkbflaaGreatDoorrHAB
set_option maxHeartbeats 1000000
namespace Go.Proofs.YtdfljbpcjkbflaaGreatDoor
open Go.RowKit
set_option linter.unusedVariables false
set_option maxRecDepth 100000
def qG (w w' : World) (g : Nat) (zs : List Nat) (off N : Nat) (t : Nat) : Prop :=
 w.grownBy w' (some g) ∧ ∃ cur c, Blk w' g cur ∧ M.Wrote 18446744073709551616 zs off N cur ∧ c ≤ 1 ∧ V (M.seg cur off N) + c * 18446744073709551616 ^ N = V (M.seg zs off N) + t

theorem mH (g off N cap : Nat) (bo : Option Addr) (m d : Nat) (zs ys : List Nat) (w : World) (hB : Blk w g zs) (hz : F64 zs) (ho : off + N ≤ zs.length) (hN : N ≤ 4194304) (hm : ys.length = m) (hmN : m ≤ N) (hy : F64 ys) (hr : Rd w bo ys) (hsep : 0 < ys.length → ∀ b2 o2, bo = some ⟨b2, o2, none⟩ → b2 ≠ g) :
 Calls Tryz.prog 105 #[.slice (some ⟨g, off, none⟩) N cap, .slice bo m d] w fun e w' => e = .returned (.tuple #[]) ∧ qG w w' g zs off N (V ys) := by
 go_enter Tryz.func105, Tryz.ntmps105
 go_wp2_with fail
 go_loopw [4, 11] (fun cy i wr => ∃ (k : Nat) (cur : List Nat) (c : Nat), k ≤ m ∧ i = .int .i64 k ∧ cy = .int .u64 c ∧ c ≤ 1 ∧ Blk wr g cur ∧ M.Wrote 18446744073709551616 zs off N cur ∧ w.grownBy wr (some g) ∧ V (M.seg cur off N) + c * 18446744073709551616 ^ k = V (M.seg zs off N) + V (ys.take k)) (fun _ i _ => m - (intOf i).toNat)
 case atStart => exact ⟨0, zs, 0, by omega, rfl, rfl, by omega, hB, M.Wrote.refl hz _ _, World.grownBy.refl _ _, by simp [V, M.val]⟩
 case round =>
  obtain ⟨k, cur, c, hk, rfl, rfl, hc, hBk, hW, hg, hv⟩ := hrel
  have HV := hid hv; clear hv
  by_cases hlt : k < m
  · obtain ⟨b2, o2, hbo, hcl⟩ := hr (by omega)
    have hck : wr.cell? ⟨b2, o2 + k, none⟩ = some (.int .u64 ((ys.getD k 0 : Nat) : Int)) := hg.cell (hcl k (by omega)) (by simpa using hsep (by omega) b2 o2 hbo)
    clear hcl
    have hy1 := hy.get k
    obtain ⟨y, hyy⟩ : ∃ y : Nat, y = ys.getD k 0 := ⟨_, rfl⟩
    rw [← hyy] at hck hy1
    have HY := hid hyy; clear hyy
    have hca := hBk.cell (off + k) (by have := hW.len; omega)
    have hfa := hBk.frozen (off + k)
    have hx1 : cur.getD (off + k) 0 < 18446744073709551616 := M.bK (by omega) hW.lt _
    obtain ⟨x, hxx⟩ : ∃ x : Nat, x = cur.getD (off + k) 0 := ⟨_, rfl⟩
    rw [← hxx] at hca hx1
    have HX := hid hxx; clear hxx
    have hlt' : (k : Int) < (m : Int) := by omega
    have hlt2 : (k : Int) < (N : Int) := by omega
    have HB := hid hBk; clear hBk
    have HG := hid hg; clear hg
    obtain ⟨p, hp⟩ : ∃ p : Nat, p = (x + y) % 18446744073709551616 := ⟨_, rfl⟩
    have hwp := eE x y p hp
    obtain ⟨o, hoo⟩ : ∃ o : Nat, o = (p + c) % 18446744073709551616 := ⟨_, rfl⟩
    have hwo := eE p c o hoo
    obtain ⟨r1, hr1⟩ : ∃ r : Nat, r = if (p : Int) < (y : Int) then 1 else 0 := ⟨_, rfl⟩
    obtain ⟨r2, hr2⟩ : ∃ r : Nat, r = if (o : Int) < (c : Int) then 1 else 0 := ⟨_, rfl⟩
    have hsum : o + 18446744073709551616 * (r1 + r2) = x + y + c ∧ r1 + r2 ≤ 1 ∧ o < 18446744073709551616 := by
     split at hr1 <;> split at hr2 <;> omega
    have hle1 : r1 ≤ 1 := by omega
    have hle2 : r2 ≤ 1 := by omega
    have HP := hid hp; clear hp
    have HO := hid hoo; clear hoo
    have HR1 := hid hr1; clear hr1
    have HR2 := hid hr2; clear hr2
    have HS := hid hsum; clear hsum
    go_wp2_with fail
    generalize hwy : wr.setCell ⟨g, off + k, none⟩ (.int .u64 (o : Int)) = wy
    have hBy : Blk wy g (cur.set (off + k) o) := by rw [← hwy]; exact HB.out.set _ _ _ rfl
    have hgy : w.grownBy wy (some g) := by rw [← hwy]; exact aA HG.out (aE _ _ _ _)
    have hWy := hW.set k o (by omega) HS.out.2.2
    have hcy := hBy.cell (off + k) (by rw [List.length_set]; have := hW.len; omega)
    rw [M.aY _ _ _ (by have := hW.len; omega)] at hcy
    have HBy := hid hBy; clear hBy
    have HGy := hid hgy; clear hgy
    clear hwy hca hfa hck
    go_quiet ((first | (go_at_call_of 99 p; exact Calls.quiet_of_same (cC _ _ _ r1 HR1.out)) | (go_at_call_of 99 o; exact Calls.quiet_of_same (cC _ _ _ r2 HR2.out))))
    go_wp2_with fail
    go_roundw
    case rel =>
     have R : ∃ (k1 : Nat) (cur1 : List Nat) (c1 : Nat), k1 ≤ m ∧ Value.int .i64 ((k : Int) + 1) = .int .i64 k1 ∧ Value.int .u64 ((r1 : Int) + (r2 : Int)) = .int .u64 c1 ∧ c1 ≤ 1 ∧ Blk (wy.drewN nq) g cur1 ∧ M.Wrote 18446744073709551616 zs off N cur1 ∧ w.grownBy (wy.drewN nq) (some g) ∧ V (M.seg cur1 off N) + c1 * 18446744073709551616 ^ k1 = V (M.seg zs off N) + V (ys.take k1) := by
      refine ⟨k + 1, cur.set (off + k) o, r1 + r2, by omega, by go_num, by go_num, HS.out.2.1, HBy.out.drewN _, hWy, aA HGy.out (bM _ _ _), ?_⟩
      unfold V
      rw [M.aH, ← HY.out, Nat.pow_succ]
      have h2 := M.dL 18446744073709551616 cur off N k o (by omega) (by have := hW.len; omega)
      rw [← HX.out] at h2
      exact M.tX HV.out h2 HS.out.1
     first | exact R | ((repeat apply Exists.intro); exact ⟨R, rfl⟩) | ((repeat apply Exists.intro); exact ⟨R, by rw [hbo]⟩)
    case measure => simp [intOf]; omega
  · have e : k = m := by omega
    subst e
    have hv : V (M.seg cur off N) + c * 18446744073709551616 ^ k = V (M.seg zs off N) + V ys := by
     have := HV.out
     rwa [List.take_of_length_le (by omega)] at this
    clear HV
    have HBk := hid hBk; clear hBk
    have HG := hid hg; clear hg
    have HV := hid hv; clear hv
    obtain ⟨wo, hwo⟩ : ∃ wo : World, wo = wr := ⟨_, rfl⟩
    rw [← hwo] at HBk HG ⊢
    clear hwo
    go_wp2_with fail
    go_loopw [4, 8] (fun cy i wr => ∃ (j : Nat) (cur : List Nat) (c : Nat), j ≤ N ∧ i = .int .i64 j ∧ cy = .int .u64 c ∧ c ≤ 1 ∧ Blk wr g cur ∧ M.Wrote 18446744073709551616 zs off N cur ∧ w.grownBy wr (some g) ∧ V (M.seg cur off N) + c * 18446744073709551616 ^ j = V (M.seg zs off N) + V ys) (fun _ i _ => N - (intOf i).toNat)
    case atStart => exact ⟨k, cur, c, by omega, rfl, rfl, hc, HBk.out, hW, HG.out, HV.out⟩
    case round =>
     clear HBk HG HV hW hc
     obtain ⟨j, cur2, c2, hj, rfl, rfl, hc, hBk, hW, hg, hv⟩ := hrel
     have HV := hid hv; clear hv
     by_cases hcc : c2 = 0
     · subst hcc
       have hgt : ¬ (0 : Int) < ((0 : Nat) : Int) := by omega
       have HBk := hid hBk; clear hBk
       have HG := hid hg; clear hg
       go_wp2_with fail
       go_end0
       refine ⟨rfl, HG.out, cur2, 0, HBk.out, hW, by omega, ?_⟩
       have := HV.out
       simpa using this
     · have hc1 : c2 = 1 := by omega
       have hc0 : (0 : Int) < (c2 : Int) := by omega
       have HC1 := hid hc1; clear hc1
       by_cases hlt : j < N
       · have hca := hBk.cell (off + j) (by have := hW.len; omega)
         have hfa := hBk.frozen (off + j)
         have hx1 : cur2.getD (off + j) 0 < 18446744073709551616 := M.bK (by omega) hW.lt _
         obtain ⟨x, hxx⟩ : ∃ x : Nat, x = cur2.getD (off + j) 0 := ⟨_, rfl⟩
         rw [← hxx] at hca hx1
         have HX := hid hxx; clear hxx
         have hlt2 : (j : Int) < (N : Int) := by omega
         obtain ⟨o, hoo⟩ : ∃ o : Nat, o = (x + c2) % 18446744073709551616 := ⟨_, rfl⟩
         have hwo := eE x c2 o hoo
         obtain ⟨r2, hr2⟩ : ∃ r : Nat, r = if (o : Int) < (c2 : Int) then 1 else 0 := ⟨_, rfl⟩
         have hsum : o + 18446744073709551616 * r2 = x + 0 + c2 ∧ r2 ≤ 1 ∧ o < 18446744073709551616 := by
          split at hr2 <;> omega
         have HO := hid hoo; clear hoo
         have HR2 := hid hr2; clear hr2
         have HS := hid hsum; clear hsum
         have HB := hid hBk; clear hBk
         have HG := hid hg; clear hg
         go_wp2_with fail
         refine (cC _ _ _ r2 HR2.out).mono ?_
         rintro e w3 ⟨rfl, hw3⟩
         have hB3 : Blk w3 g (cur2.set (off + j) o) := by rw [hw3]; exact HB.out.set _ _ _ rfl
         have hg3 : w.grownBy w3 (some g) := by rw [hw3]; exact aA HG.out (aE _ _ _ _)
         have hW3 := hW.set j o (by omega) HS.out.2.2
         have HB3 := hid hB3; clear hB3
         have HG3 := hid hg3; clear hg3
         clear hw3 hca hfa
         go_wp2_with fail
         go_roundw
         case rel =>
          have R : ∃ (j1 : Nat) (cur1 : List Nat) (c1 : Nat), j1 ≤ N ∧ Value.int .i64 ((j : Int) + 1) = .int .i64 j1 ∧ Value.int .u64 (r2 : Int) = .int .u64 c1 ∧ c1 ≤ 1 ∧ Blk w3 g cur1 ∧ M.Wrote 18446744073709551616 zs off N cur1 ∧ w.grownBy w3 (some g) ∧ V (M.seg cur1 off N) + c1 * 18446744073709551616 ^ j1 = V (M.seg zs off N) + V ys := by
           refine ⟨j + 1, cur2.set (off + j) o, r2, by omega, by go_num, rfl, HS.out.2.1, HB3.out, hW3, HG3.out, ?_⟩
           unfold V
           rw [Nat.pow_succ]
           have h2 := M.dL 18446744073709551616 cur2 off N j o (by omega) (by have := hW.len; omega)
           rw [← HX.out] at h2
           exact M.tX (y := 0) HV.out h2 HS.out.1
          first | exact R | ((repeat apply Exists.intro); exact ⟨R, rfl⟩)
         case measure => simp [intOf]; omega
       · have hlt2 : ¬ (j : Int) < (N : Int) := by omega
         have e : j = N := by omega
         subst e
         have HBk := hid hBk; clear hBk
         have HG := hid hg; clear hg
         go_wp2_with fail
         go_end0
         exact ⟨rfl, HG.out, cur2, c2, HBk.out, hW, by omega, HV.out⟩

theorem F7 (xs : List Nat) : V (xs ++ List.replicate 1 0) = V xs := by
 unfold V; rw [M.cQ]; simp [M.val]

theorem CK (ao bo : Option Addr) (n m c d : Nat) (a b : Nat) (w : World) (sw : Bool) (hl : (L a).length = n) (hm : (L b).length = m) (hnm : m ≤ n) (hn : n ≤ 1048576) (hr : Rd w ao (L a)) (hr2 : Rd w bo (L b)) (hsw : sw = true → m < n) :
 Calls Tryz.prog 75 (if sw then #[.slice bo m d, .slice ao n c] else #[.slice ao n c, .slice bo m d]) w fun e w' => Ret w w' e (L (a + b)) := by
 have fin : ∀ (w1 w2 : World), Blk w1 w.heap.size (L a ++ List.replicate 1 0) → Below w.heap.size w w1 → qG w1 w2 w.heap.size (L a ++ List.replicate 1 0) 0 (n + 1) (V (L b)) →
  ∃ cur, Blk w2 w.heap.size cur ∧ cur.length = n + 1 ∧ F64 cur ∧ V cur = a + b ∧ Below w.heap.size w w2 := by
  intro w1 w2 hB hb hp
  obtain ⟨hg, cur, cc, hBc, hW, hc1, hv⟩ := hp
  have hlen : cur.length = n + 1 := by rw [hW.len]; simp [hl]
  refine ⟨cur, hBc, hlen, hW.lt, ?_, hb.trans ((Below.refl _ _).grown hg hb.size (fun _ h => by cases h; exact Nat.le_refl _))⟩
  rw [M.jF cur _ hlen, M.jF _ _ (by simp [hl]), F7, V_L, V_L] at hv
  have h1 := iL a n (by omega)
  have h2 := iL b n (by omega)
  exact (M.nU hv (by rw [Nat.pow_succ]; omega)).2
 have hsep : ∀ b2 o2, 0 < (L b).length → bo = some ⟨b2, o2, none⟩ → b2 ≠ w.heap.size := by
  intro b2 o2 hp e
  obtain ⟨b3, o3, e3, hc⟩ := hr2 hp
  rw [e] at e3
  simp only [Option.some.injEq, Addr.mk.injEq] at e3
  have := World.block_lt_of_cell? w _ (hc 0 hp)
  simp at this
  omega
 cases sw
 · have hlt : ¬ (n : Int) < (m : Int) := by omega
   simp only [Bool.false_eq_true, if_false]
   go_enter Tryz.func75, Tryz.ntmps75
   go_wp2_with fail
   refine (eY ao n c 1 (L a) _ hl (by omega) (by omega) hr).mono ?_
   rintro e w1 ⟨rfl, hB1, hb1⟩
   go_wp2_with fail
   refine (mH w.heap.size 0 (n + 1) (n + 1) bo m d _ (L b) _ hB1 (fun x hx => ?_) (by simp [hl]) (by omega) hm (by omega) (eN b) (hr2.below hb1) (fun hp b2 o2 => hsep b2 o2 hp)).mono ?_
   · rcases List.mem_append.1 hx with hx | hx
     · exact eN a x hx
     · simp at hx; omega
   rintro e w2 ⟨rfl, hp⟩
   obtain ⟨cur, hB2, hlen, hf, hv, hb2⟩ := fin w1 w2 hB1 hb1 hp
   clear hp fin hB1
   go_wp2_with fail
   refine (cE _ (n + 1) (n + 1) cur _ hlen (Nat.le_refl _) (by omega) hf hB2.rd0).mono ?_
   rw [hv]
   rintro e w3 ⟨rfl, rfl⟩
   go_wp2_with fail
   go_ret
   have h1 := iX cur hf
   have h2 := gK cur hf
   rw [hv] at h1 h2
   have h3 := hB2.ownPre (base := w.heap.size) (Nat.le_refl _) h1 hlen (by unfold maxLen; omega)
   rw [h2] at h3
   exact ⟨_, _, rfl, h3, hb2⟩
 · have hlt : (m : Int) < (n : Int) := by have := hsw rfl; omega
   simp only [if_true]
   go_enter Tryz.func75, Tryz.ntmps75
   go_wp2_with fail
   refine (eY ao n c 1 (L a) _ hl (by omega) (by omega) hr).mono ?_
   rintro e w1 ⟨rfl, hB1, hb1⟩
   go_wp2_with fail
   refine (mH w.heap.size 0 (n + 1) (n + 1) bo m d _ (L b) _ hB1 (fun x hx => ?_) (by simp [hl]) (by omega) hm (by omega) (eN b) (hr2.below hb1) (fun hp b2 o2 => hsep b2 o2 hp)).mono ?_
   · rcases List.mem_append.1 hx with hx | hx
     · exact eN a x hx
     · simp at hx; omega
   rintro e w2 ⟨rfl, hp⟩
   obtain ⟨cur, hB2, hlen, hf, hv, hb2⟩ := fin w1 w2 hB1 hb1 hp
   clear hp fin hB1
   go_wp2_with fail
   refine (cE _ (n + 1) (n + 1) cur _ hlen (Nat.le_refl _) (by omega) hf hB2.rd0).mono ?_
   rw [hv]
   rintro e w3 ⟨rfl, rfl⟩
   go_wp2_with fail
   go_ret
   have h1 := iX cur hf
   have h2 := gK cur hf
   rw [hv] at h1 h2
   have h3 := hB2.ownPre (base := w.heap.size) (Nat.le_refl _) h1 hlen (by unfold maxLen; omega)
   rw [h2] at h3
   exact ⟨_, _, rfl, h3, hb2⟩

theorem sH (ao bo : Option Addr) (n m c d : Nat) (a b : Nat) (w : World) (hl : (L a).length = n) (hm : (L b).length = m) (hn : n ≤ 1048576) (hm2 : m ≤ 1048576) (hr : Rd w ao (L a)) (hr2 : Rd w bo (L b)) :
 Calls Tryz.prog 75 #[.slice ao n c, .slice bo m d] w fun e w' => Ret w w' e (L (a + b)) := by
 by_cases h : m ≤ n
 · exact CK ao bo n m c d a b w false hl hm h hn hr hr2 (fun h => by cases h)
 · have := CK bo ao m n d c b a w true hm hl (by omega) (by omega) hr2 hr (fun _ => by omega)
   rw [Nat.add_comm b a] at this
   exact this

end Go.Proofs.YtdfljbpcjkbflaaGreatDoor
namespace Go.Proofs.YtdfljbpcjkbflaaGreatDoor.M
set_option linter.unusedVariables false
set_option maxRecDepth 100000
theorem E8 {q r u y1 y0 y C : Nat} (hy : y = y1 * C + y0) (h : q * y1 + r = u) : q * y + C * r = u * C + q * y0 := by
 rw [hy, ← h, Nat.mul_add, Nat.add_mul, Nat.mul_assoc, Nat.mul_comm C r]
 omega

structure Kn (C u d y1 y0 y q r : Nat) : Prop where
 sum : q * y1 + r = u
 ge : (u * C + d) / y ≤ q
 le : q ≤ C + 1

theorem Kn.first {C u d y1 y0 y : Nat} (hC : 0 < C) (hy : y = y1 * C + y0) (hd : d < C) (hu : u < y) (h0 : y0 < C) (hn : C ≤ 2 * y1) : Kn C u d y1 y0 y (u / y1) (u % y1) := by
 have hy1 : 0 < y1 := by omega
 have hyp : 0 < y := by omega
 refine ⟨by rw [Nat.mul_comm]; exact Nat.div_add_mod u y1, ?_, ?_⟩
 · rw [Nat.le_div_iff_mul_le hy1]
   have h1 := Nat.div_mul_le_self (u * C + d) y
   generalize (u * C + d) / y = q at *
   have h2 : q * y1 * C ≤ q * y := by rw [hy, Nat.mul_add, Nat.mul_assoc]; omega
   have h3 : q * y1 * C < (u + 1) * C := by rw [Nat.add_mul]; omega
   have := Nat.lt_of_mul_lt_mul_right h3
   omega
 · have h1 := Nat.div_mul_le_self u y1
   rcases Nat.lt_or_ge (C + 1) (u / y1) with h | h
   · have h2 : (C + 2) * y1 ≤ u / y1 * y1 := Nat.mul_le_mul_right _ h
     rw [Nat.add_mul, Nat.mul_comm C y1] at h2
     omega
   · exact h

theorem Kn.stop {C u d y1 y0 y q r : Nat} (h : Kn C u d y1 y0 y q r) (hy : y = y1 * C + y0) (hyp : 0 < y) (ht : q * y0 ≤ C * r + d) : q = (u * C + d) / y := by
 have e := E8 hy h.sum
 refine Nat.le_antisymm ?_ h.ge
 rw [Nat.le_div_iff_mul_le hyp]
 omega

theorem Kn.down {C u d y1 y0 y q r : Nat} (h : Kn C u d y1 y0 y q r) (hy : y = y1 * C + y0) (hyp : 0 < y) (hu : u < y) (hd : d < C) (ht : C ≤ q ∨ C * r + d < q * y0) : 1 ≤ q ∧ Kn C u d y1 y0 y (q - 1) (r + y1) := by
 have e := E8 hy h.sum
 have hlt : (u * C + d) / y < q := by
  rcases ht with ht | ht
  · have : (u * C + d) / y < C := by
     rw [Nat.div_lt_iff_lt_mul hyp]
     have h1 : (u + 1) * C ≤ y * C := Nat.mul_le_mul_right _ hu
     rw [Nat.add_mul] at h1
     rw [Nat.mul_comm C y]; omega
    exact Nat.lt_of_lt_of_le this ht
  · rw [Nat.div_lt_iff_lt_mul hyp]; omega
 have hq1 : 1 ≤ q := Nat.lt_of_le_of_lt (Nat.zero_le _) hlt
 refine ⟨hq1, ?_, Nat.le_sub_one_of_lt hlt, by have := h.le; omega⟩
 have := h.sum
 obtain ⟨m, rfl⟩ : ∃ m, q = m + 1 := ⟨q - 1, by omega⟩
 rw [Nat.add_sub_cancel]
 rw [Nat.add_mul, Nat.one_mul] at this
 omega

theorem Kn.wide {C u d y1 y0 y q r : Nat} (h : Kn C u d y1 y0 y q r) (hy : y = y1 * C + y0) (hyp : 0 < y) (h0 : y0 < C) (hq : q ≤ C) (hr : C ≤ r) : q = (u * C + d) / y := by
 refine h.stop hy hyp ?_
 have h1 : q * y0 ≤ C * y0 := Nat.mul_le_mul_right _ hq
 have h2 : C * y0 ≤ C * r := Nat.mul_le_mul_left _ (by omega)
 omega

theorem FG {C u d1 d0 y q1 u2 q0 : Nat} (hyp : 0 < y) (h1 : q1 = (u * C + d1) / y) (h2 : u2 = (u * C + d1) % y) (h0 : q0 = (u2 * C + d0) / y) :
 q1 * C + q0 = (u * (C * C) + (d1 * C + d0)) / y ∧ (u2 * C + d0) % y = (u * (C * C) + (d1 * C + d0)) % y := by
 have e1 := Nat.div_add_mod (u * C + d1) y
 rw [← h1, ← h2] at e1
 have e : u * (C * C) + (d1 * C + d0) = u2 * C + d0 + y * (q1 * C) := by
  have h3 : (y * q1 + u2) * C = (u * C + d1) * C := by rw [e1]
  rw [Nat.add_mul, Nat.add_mul, Nat.mul_assoc, Nat.mul_assoc] at h3
  omega
 constructor
 · rw [e, Nat.add_mul_div_left _ _ hyp, ← h0]; omega
 · rw [e, Nat.add_mul_mod_self_left]

end Go.Proofs.YtdfljbpcjkbflaaGreatDoor.M
