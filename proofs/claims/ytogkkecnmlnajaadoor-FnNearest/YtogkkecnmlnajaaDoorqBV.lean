import Derived.Lib.Mul64
import Derived.Shelf.Bits.Mul64
import Derived.Test.YtogkkecnmlnajaaDoorqBC
set_option maxHeartbeats 2000000
namespace Go.Proofs.YtogkkecnmlnajaaDoor
open Go.RowKit
set_option linter.unusedVariables false
set_option maxRecDepth 100000
theorem wrapMul (x y p : Nat) (hp : p = x * y) (hb : p < 18446744073709551616) : IntKind.u64.wrap ((x : Int) * (y : Int)) = (p : Int) := by
 have := wrapU p
 rw [Nat.mod_eq_of_lt hb] at this
 rw [← this, hp]; congr 1

theorem wrapAdd (x y p : Nat) (hp : p = x + y) (hb : p < 18446744073709551616) : IntKind.u64.wrap ((x : Int) + (y : Int)) = (p : Int) :=
 wrapU2 x y p (by omega)

theorem M.mul32 (x y z c : Nat) (hx : x < 4294967296) (hy : y < 4294967296) (hz : z < 4294967296) (hc : c < 4294967296) :
 ∃ p p2 s : Nat, p = x * y ∧ p < 18446744073709551616 ∧ p2 = p + z ∧ p2 < 18446744073709551616 ∧ s = p2 + c ∧ s < 18446744073709551616 ∧ s / 4294967296 < 4294967296 ∧ s % 4294967296 + 4294967296 * (s / 4294967296) = z + y * x + c := by
 have hb : x * y ≤ 4294967295 * 4294967295 := Nat.mul_le_mul (by omega) (by omega)
 refine ⟨_, _, _, rfl, by omega, rfl, by omega, rfl, by omega, by omega, ?_⟩
 rw [Nat.mul_comm y x]
 generalize x * y = q at *
 omega

theorem M.inner {V V' V0 T c c' Pk Pj B x y z o : Nat} (h : V + c * (Pk * Pj) = V0 + (x * Pk) * T) (hv : V' + Pk * Pj * z = V + Pk * Pj * o) (hs : o + B * c' = z + y * x + c) : V' + c' * (Pk * Pj * B) = V0 + (x * Pk) * (T + Pj * y) := by
 have e2 : (x * Pk) * (Pj * y) = Pk * Pj * (y * x) := by
  simp only [Nat.mul_comm, Nat.mul_left_comm]
 rw [Nat.mul_add, e2]
 generalize Pk * Pj = P at *
 have e : P * (o + B * c') = P * (z + y * x + c) := by rw [hs]
 simp only [Nat.mul_add] at e
 rw [Nat.mul_comm c' (P * B), Nat.mul_assoc]
 rw [Nat.mul_comm c P] at h
 omega

theorem l1Mul_any (ao bo : Option Addr) (n m c d : Nat) (a b : Nat) (w : World) (hl : (D a).length = n) (hm : (D b).length = m) (hn : n ≤ 1048576) (hn2 : m ≤ 1048576) (hr : Rd w ao (D a)) (hr2 : Rd w bo (D b)) :
 Calls Tryd.prog 38 #[.slice ao n c, .slice bo m d] w fun e w' => Ret w w' e (D (a * b)) := by
 obtain ⟨i0, hi, hz0, hz1, hz2⟩ := info_parts Tryd.infoU
 have hmk := fun (wx : World) => run_make (P := Tryd.prog) wx 23 26 i0 (.int .u64 0) Tryd.underlying23 hi hz0 .i64 .i64 ((n + m + 1 : Nat) : Int) ((n + m + 1 : Nat) : Int) (by omega) (Int.le_refl _) (by rw [hz2]; omega) (by omega)
 have es : ((n + m + 1 : Nat) : Int) = (n : Int) + (m : Int) + 1 := by omega
 rw [es] at hmk
 have et : ((n : Int) + (m : Int) + 1).toNat = n + m + 1 := by omega
 rw [et] at hmk
 clear es et
 have fa := F32_D a
 have fb := F32_D b
 go_enter Tryd.func38, Tryd.ntmps38
 go_wp2_with fail
 go_loopw [6] (fun i wr => ∃ (k : Nat) (cur : List Nat), k ≤ n ∧ i = .int .i64 k ∧ Blk wr w.heap.size cur ∧ cur.length = n + m + 1 ∧ F32 cur ∧ (∀ j, m + k ≤ j → cur.getD j 0 = 0) ∧ X cur = b * X ((D a).take k) ∧ Below w.heap.size w wr) (fun i _ => n - (intOf i).toNat)
 case atStart =>
  refine ⟨0, List.replicate (n + m + 1) 0, by omega, rfl, blk_made w (n + m + 1), by simp, fun x hx => by simp at hx; omega, fun j _ => ?_, ?_, (Below.refl _ _).alloc (Nat.le_refl _) _⟩
  · rw [List.getD_eq_getElem?_getD, List.getElem?_replicate]; split <;> rfl
  · unfold X; rw [M.val_replicate]; simp [M.val]
 case round =>
  obtain ⟨k, cur, hk, rfl, hBk, hcl, hcf, hz, hv, hbl⟩ := hrel
  clear hmk
  have HZ := hid hz; clear hz
  have HV := hid hv; clear hv
  have HCL := hid hcl; clear hcl
  by_cases hlt : k < n
  · have hx1 := fa.get k
    obtain ⟨x, hxx⟩ : ∃ x : Nat, x = (D a).getD k 0 := ⟨_, rfl⟩
    rw [← hxx] at hx1
    have HX := hid hxx; clear hxx
    have hlt' : (k : Int) < (n : Int) := by omega
    obtain ⟨wo, hwo⟩ : ∃ wo : World, wo = wr := ⟨_, rfl⟩
    rw [← hwo] at hBk hbl ⊢
    clear hwo
    have HBk := hid hBk; clear hBk
    have HBl := hid hbl; clear hbl
    go_wp2_with fail
    go_loopw [7, 8, 9] (fun cy i s9 wr => ∃ (j : Nat) (cu : List Nat) (cc : Nat), j ≤ m ∧ i = .int .i64 j ∧ cy = .int .u64 cc ∧ cc < 4294967296 ∧ Blk wr w.heap.size cu ∧ cu.length = n + m + 1 ∧ F32 cu ∧ (∀ i, m + k ≤ i → cu.getD i 0 = 0) ∧ X cu + cc * 4294967296 ^ (k + j) = X cur + (x * 4294967296 ^ k) * X ((D b).take j) ∧ Below w.heap.size w wr) (fun _ i _ _ => m - (intOf i).toNat)
    case atStart => exact ⟨0, cur, 0, by omega, rfl, rfl, by omega, HBk.out, HCL.out, hcf, HZ.out, by simp [X, M.val], HBl.out⟩
    case round =>
     obtain ⟨j, cu, cc, hj, rfl, rfl, hcc, hBu, hul, huf, huz, huv, hub⟩ := hrel
     have HUZ := hid huz; clear huz
     have HUV := hid huv; clear huv
     have HUL := hid hul; clear hul
     by_cases hlt2 : j < m
     · obtain ⟨b1, o1, hao, hcA⟩ := (hr.below hub) (by omega)
       have hckA := hcA k (by omega)
       rw [← HX.out] at hckA
       clear hcA
       obtain ⟨b2, o2, hbo, hcB⟩ := (hr2.below hub) (by omega)
       have hckB := hcB j (by omega)
       clear hcB
       have hy1 := fb.get j
       obtain ⟨y, hyy⟩ : ∃ y : Nat, y = (D b).getD j 0 := ⟨_, rfl⟩
       rw [← hyy] at hckB hy1
       have HY := hid hyy; clear hyy
       have hcz := hBu.cell (k + j) (by have := HUL.out; omega)
       have hfz := hBu.frozen (k + j)
       have hz1 := huf.get (k + j)
       obtain ⟨z, hzz⟩ : ∃ z : Nat, z = cu.getD (k + j) 0 := ⟨_, rfl⟩
       rw [← hzz] at hcz hz1
       have HZZ := hid hzz; clear hzz
       obtain ⟨p, p2, s, ep, bp, ep2, bp2, es, bs, bs2, hs⟩ := M.mul32 x y z cc hx1 hy1 hz1 hcc
       have w1 := wrapMul x y p ep bp
       have w2 := wrapAdd p z p2 ep2 bp2
       have w3 := wrapAdd p2 cc s es bs
       have hlow : bits BinOp.and IntKind.u64 (s : Int) 4294967295 = ((s % 4294967296 : Nat) : Int) := by
        rw [and_low32 _ (by omega) (by omega)]; omega
       have hslo : s % 4294967296 < 4294967296 := by omega
       obtain ⟨so, eso⟩ : ∃ so : Nat, so = s % 4294967296 := ⟨_, rfl⟩
       rw [← eso] at hlow hs hslo
       have E1 := hid hs; have E2 := hid bs2; have E3 := hid hslo; have E4 := hid eso
       clear hs bs2 hslo eso ep bp ep2 bp2 es bs
       have HBu := hid hBu; clear hBu
       have hltj : (j : Int) < (m : Int) := by omega
       have hltk : (k : Int) + (j : Int) < ((n + m + 1 : Nat) : Int) := by omega
       go_wp2_with fail
       go_quiet (fail)
       go_wp2_with fail
       go_roundw
       case rel =>
        have R : ∃ (j1 : Nat) (cu1 : List Nat) (cc1 : Nat), j1 ≤ m ∧ Value.int .i64 ((j : Int) + 1) = .int .i64 j1 ∧ Value.int .u64 ((s : Int) / 4294967296) = .int .u64 cc1 ∧ cc1 < 4294967296 ∧ Blk ((wr.setCell ⟨w.heap.size, k + j, none⟩ (.int .u64 (so : Int))).drewN nq) w.heap.size cu1 ∧ cu1.length = n + m + 1 ∧ F32 cu1 ∧ (∀ i, m + k ≤ i → cu1.getD i 0 = 0) ∧ X cu1 + cc1 * 4294967296 ^ (k + j1) = X cur + (x * 4294967296 ^ k) * X ((D b).take j1) ∧ Below w.heap.size w ((wr.setCell ⟨w.heap.size, k + j, none⟩ (.int .u64 (so : Int))).drewN nq) := by
         refine ⟨j + 1, cu.set (k + j) so, s / 4294967296, by omega, by go_num, by go_num, E2.out, (HBu.out.set _ _ _ rfl).drewN _, by rw [List.length_set]; exact HUL.out, ?_, ?_, ?_, below_drewN (hub.setCell (Nat.le_refl _) _) _⟩
         · intro v hv
           rcases List.mem_or_eq_of_mem_set hv with hv | rfl
           · exact huf v hv
           · exact E3.out
         · intro i hi
           rw [M.getD_set_ne _ _ _ _ (by omega)]; exact HUZ.out i hi
         · have h1 := M.val_set 4294967296 (k + j) cu so (by have := HUL.out; omega)
           rw [← HZZ.out] at h1
           have h2 := HUV.out
           unfold X at *
           rw [M.val_take_succ, ← HY.out, show k + (j + 1) = k + j + 1 by omega, Nat.pow_succ]
           rw [Nat.pow_add] at h1 h2 ⊢
           exact M.inner h2 h1 E1.out
        first | exact R | ((repeat apply Exists.intro); exact ⟨R, rfl⟩) | ((repeat apply Exists.intro); exact ⟨R, by rw [hao, hbo]⟩)
       case measure => simp [intOf]; omega
     · have e : j = m := by omega
       subst e
       have hcz := hBu.cell (k + j) (by have := HUL.out; omega)
       have hfz := hBu.frozen (k + j)
       have hz0 := HUZ.out (k + j) (by omega)
       rw [hz0] at hcz
       have HZ0 := hid hz0; clear hz0
       have HBu := hid hBu; clear hBu
       have hltk : (k : Int) + (j : Int) < ((n + j + 1 : Nat) : Int) := by omega
       have hltj : ¬ (j : Int) < (j : Int) := by omega
       go_wp2_with fail
       go_roundw
       case rel =>
        have R : ∃ (k1 : Nat) (cur1 : List Nat), k1 ≤ n ∧ Value.int .i64 ((k : Int) + 1) = .int .i64 k1 ∧ Blk (wr.setCell ⟨w.heap.size, k + j, none⟩ (.int .u64 (cc : Int))) w.heap.size cur1 ∧ cur1.length = n + j + 1 ∧ F32 cur1 ∧ (∀ i, j + k1 ≤ i → cur1.getD i 0 = 0) ∧ X cur1 = b * X ((D a).take k1) ∧ Below w.heap.size w (wr.setCell ⟨w.heap.size, k + j, none⟩ (.int .u64 (cc : Int))) := by
         refine ⟨k + 1, cu.set (k + j) cc, by omega, by go_num, HBu.out.set _ _ _ rfl, by rw [List.length_set]; exact HUL.out, ?_, ?_, ?_, hub.setCell (Nat.le_refl _) _⟩
         · intro v hv
           rcases List.mem_or_eq_of_mem_set hv with hv | rfl
           · exact huf v hv
           · exact hcc
         · intro i hi
           rw [M.getD_set_ne _ _ _ _ (by omega)]; exact HUZ.out i (by omega)
         · have h1 := M.val_set 4294967296 (k + j) cu cc (by have := HUL.out; omega)
           rw [HZ0.out, Nat.mul_zero, Nat.add_zero] at h1
           have h2 := HUV.out
           rw [List.take_of_length_le (by omega), X_D] at h2
           have h3 := HV.out
           unfold X at *
           rw [M.val_take_succ, ← HX.out, h1, Nat.mul_add, ← h3, Nat.mul_comm (4294967296 ^ (k + j)) cc, h2]
           rw [Nat.mul_comm x (4294967296 ^ k), Nat.mul_comm b]
        first | exact R | ((repeat apply Exists.intro); exact ⟨R, rfl⟩)
       case measure => simp [intOf]; omega
  · have e : k = n := by omega
    subst e
    go_wp2_with fail
    have hfin : M.val 4294967296 cur = a * b := by
     have := HV.out
     rw [List.take_of_length_le (by omega), X_D, Nat.mul_comm] at this
     exact this
    refine (l1Trim_any 4294967296 (by omega) _ (k + m + 1) (k + m + 1) cur _ HCL.out (Nat.le_refl _) (by omega) hcf hBk.rd0).mono ?_
    rw [hfin]
    rintro e w3 ⟨ao', cap', rfl, ho', hb'⟩
    go_wp2_with fail
    go_ret
    exact ⟨ao', cap', rfl, own_base ho' hbl.size, hbl.trans (hb'.mono hbl.size)⟩

theorem mul64_any (x y : Nat) (w : World) (hx : x < 18446744073709551616) (hy : y < 18446744073709551616) (h l : Nat) (hh : h = x * y / 18446744073709551616) (hl : l = x * y % 18446744073709551616) :
 Calls Tryd.prog 93 #[.int .u64 (x : Int), .int .u64 (y : Int)] w fun e w' => e = .returned (.tuple #[.int .u64 (h : Int), .int .u64 (l : Int)]) ∧ w' = w := by
 subst hh hl
 obtain ⟨bd, bt, bw, hhi⟩ := Lib.mul64_hi x y hx hy
 have ba := Lib.half_mul_le (a := x / 4294967296) (b := y / 4294967296) (by omega) (by omega)
 have bb := Lib.half_mul_le (a := x / 4294967296) (b := y % 4294967296) (by omega) (by omega)
 have bc := Lib.half_mul_le (a := x % 4294967296) (b := y / 4294967296) (by omega) (by omega)
 have ba' : x / 4294967296 * (y / 4294967296) < 18446744073709551616 := by omega
 have bb' : x / 4294967296 * (y % 4294967296) < 18446744073709551616 := by omega
 have bc' : x % 4294967296 * (y / 4294967296) < 18446744073709551616 := by omega
 have bh1 : x / 4294967296 * (y / 4294967296) + (x / 4294967296 * (y % 4294967296) + x % 4294967296 * (y % 4294967296) / 4294967296) / 4294967296 < 18446744073709551616 := by omega
 have bh : x / 4294967296 * (y / 4294967296) + (x / 4294967296 * (y % 4294967296) + x % 4294967296 * (y % 4294967296) / 4294967296) / 4294967296 + ((x / 4294967296 * (y % 4294967296) + x % 4294967296 * (y % 4294967296) / 4294967296) % 4294967296 + x % 4294967296 * (y / 4294967296)) / 4294967296 < 18446744073709551616 := by omega
 go_enter Tryd.func93, Tryd.ntmps93
 go_wp2
 simp only [Mul64.maskN x hx, Mul64.maskN y hy, Mul64.divN, Mul64.mulN, Mul64.addN, Mul64.wrapN _ bd, Mul64.wrapN _ bb', Mul64.wrapN _ bt, Mul64.maskN _ bt, Mul64.wrapN _ bc', Mul64.wrapN _ bw, Mul64.wrapN _ ba', Mul64.wrapN _ bh1, Mul64.wrapN _ bh, Mul64.wrapM (x * y)]
 rw [hhi]
 go_ret2
 exact ⟨rfl, rfl⟩

theorem wrapU_in (x y p : Nat) (hp : p = x + y) (hb : p < 18446744073709551616) : IntKind.u64.wrap ((x : Int) + (y : Int)) = (p : Int) :=
 wrapU2 x y p (by omega)

theorem M.len_mul {B : Nat} (hB : 1 < B) (a b K K' : Nat) (ha : (M.dig B a).length ≤ K) (hb : (M.dig B b).length ≤ K') : (M.dig B (a * b)).length ≤ K + K' := by
 refine M.len_of_lt hB _ _ ?_
 have h1 := Nat.lt_of_lt_of_le (M.lt_dig hB a) (Nat.pow_le_pow_right (by omega) ha)
 have h2 := Nat.lt_of_lt_of_le (M.lt_dig hB b) (Nat.pow_le_pow_right (by omega) hb)
 rw [Nat.pow_add]
 exact Nat.mul_lt_mul'' h1 h2

def mulDoc (xs ys : List Nat) : List Nat := if xs.length ≤ 1200 ∧ ys.length ≤ 1200 then L (V xs * V ys) else []

theorem specNatMul_any (ao bo : Option Addr) (n m c d : Nat) (xs ys : List Nat) (w : World) (hl : xs.length = n) (hm : ys.length = m) (hn : n ≤ 1048576) (hn2 : m ≤ 1048576) (hx : F64 xs) (hy : F64 ys) (hr : Rd w ao xs) (hr2 : Rd w bo ys) :
 Calls Tryd.prog 10 #[.slice ao n c, .slice bo m d] w fun e w' => Ret w w' e (mulDoc xs ys) := by
 by_cases h1 : n ≤ 1200
 · by_cases h2 : m ≤ 1200
   · have hdoc : mulDoc xs ys = L (V xs * V ys) := by unfold mulDoc; rw [if_pos (by omega)]
     rw [hdoc]
     have d1 : decide (n ≤ 1200) = true := by simpa using h1
     have d2 : decide (m ≤ 1200) = true := by simpa using h2
     go_enter Tryd.func10, Tryd.ntmps10
     go_wp2_with fail
     refine (l1Fits_any ao n c _ (by omega)).mono ?_
     rintro e w1 ⟨rfl, rfl⟩
     rw [d1]
     go_wp2_with fail
     refine (l1Fits_any bo m d _ (by omega)).mono ?_
     rintro e w2 ⟨rfl, rfl⟩
     rw [d2]
     go_wp2_with fail
     refine (l1In_any ao n c xs _ hl (by omega) hx hr).mono ?_
     rintro e w3 ⟨ao1, cap1, rfl, ho1, hb1⟩
     go_wp2_with fail
     refine (l1In_any bo m d ys _ hm (by omega) hy (hr2.below hb1)).mono ?_
     rintro e w4 ⟨ao2, cap2, rfl, ho2, hb2⟩
     go_wp2_with fail
     have hs1 := D_len xs hx
     have hs2 := D_len ys hy
     refine (l1Mul_any ao1 ao2 _ _ cap1 cap2 (V xs) (V ys) _ rfl rfl (by omega) (by omega) ((Rd.own ho1).below hb2) (Rd.own ho2)).mono ?_
     rintro e w5 ⟨ao3, cap3, rfl, ho3, hb3⟩
     have b3 := (hb1.trans (hb2.mono hb1.size)).trans (hb3.mono (Nat.le_trans hb1.size hb2.size))
     go_wp2_with fail
     have hs3 : (D (V xs * V ys)).length ≤ 2400 + 2400 := M.len_mul (by omega) (V xs) (V ys) 2400 2400 (show (D (V xs)).length ≤ 2400 by omega) (show (D (V ys)).length ≤ 2400 by omega)
     refine (l1Out_any ao3 _ cap3 (V xs * V ys) _ rfl (by omega) (Rd.own ho3)).mono ?_
     rintro e w6 ⟨ao4, cap4, rfl, ho4, hb4⟩
     go_wp2_with fail
     go_ret
     exact ⟨ao4, cap4, rfl, own_base ho4 b3.size, b3.trans (hb4.mono b3.size)⟩
   · have hdoc : mulDoc xs ys = [] := by unfold mulDoc; rw [if_neg (by omega)]
     rw [hdoc]
     have d1 : decide (n ≤ 1200) = true := by simpa using h1
     have d2 : decide (m ≤ 1200) = false := by simpa using h2
     go_enter Tryd.func10, Tryd.ntmps10
     go_wp2_with fail
     refine (l1Fits_any ao n c _ (by omega)).mono ?_
     rintro e w1 ⟨rfl, rfl⟩
     rw [d1]
     go_wp2_with fail
     refine (l1Fits_any bo m d _ (by omega)).mono ?_
     rintro e w2 ⟨rfl, rfl⟩
     rw [d2]
     go_wp2_with fail
     go_ret
     exact Ret.nil (Below.refl _ _)
 · have hdoc : mulDoc xs ys = [] := by unfold mulDoc; rw [if_neg (by omega)]
   rw [hdoc]
   have d1 : decide (n ≤ 1200) = false := by simpa using h1
   go_enter Tryd.func10, Tryd.ntmps10
   go_wp2_with fail
   refine (l1Fits_any ao n c _ (by omega)).mono ?_
   rintro e w1 ⟨rfl, rfl⟩
   rw [d1]
   go_wp2_with fail
   go_ret
   exact Ret.nil (Below.refl _ _)

def AddInPost (w w' : World) (g : Nat) (zs : List Nat) (off N : Nat) (t : Nat) : Prop :=
 w.grownBy w' (some g) ∧ ∃ cur c, Blk w' g cur ∧ M.Wrote 18446744073709551616 zs off N cur ∧ c ≤ 1 ∧ V (M.seg cur off N) + c * 18446744073709551616 ^ N = V (M.seg zs off N) + t

theorem addIn_any (g off N cap : Nat) (bo : Option Addr) (m d : Nat) (zs ys : List Nat) (w : World) (hB : Blk w g zs) (hz : F64 zs) (ho : off + N ≤ zs.length) (hN : N ≤ 4194304) (hm : ys.length = m) (hmN : m ≤ N) (hy : F64 ys) (hr : Rd w bo ys) (hsep : 0 < ys.length → ∀ b2 o2, bo = some ⟨b2, o2, none⟩ → b2 ≠ g) :
 Calls Tryd.prog 95 #[.slice (some ⟨g, off, none⟩) N cap, .slice bo m d] w fun e w' => e = .returned (.tuple #[]) ∧ AddInPost w w' g zs off N (V ys) := by
 go_enter Tryd.func95, Tryd.ntmps95
 go_wp2_with fail
 go_loopw [4, 11] (fun cy i wr => ∃ (k : Nat) (cur : List Nat) (c : Nat), k ≤ m ∧ i = .int .i64 k ∧ cy = .int .u64 c ∧ c ≤ 1 ∧ Blk wr g cur ∧ M.Wrote 18446744073709551616 zs off N cur ∧ w.grownBy wr (some g) ∧ V (M.seg cur off N) + c * 18446744073709551616 ^ k = V (M.seg zs off N) + V (ys.take k)) (fun _ i _ => m - (intOf i).toNat)
 case atStart => exact ⟨0, zs, 0, by omega, rfl, rfl, by omega, hB, M.Wrote.refl hz _ _, World.grownBy.refl _ _, by simp [V, M.val]⟩
 case round =>
  obtain ⟨k, cur, c, hk, rfl, rfl, hc, hBk, hW, hg, hv⟩ := hrel
  have HV := hid hv; clear hv
  by_cases hlt : k < m
  · obtain ⟨b2, o2, hbo, hcl⟩ := hr (by omega)
    have hck : wr.cell? ⟨b2, o2 + k, none⟩ = some (.int .u64 ((ys.getD k 0 : Nat) : Int)) := hg.cell (hcl k (by omega)) (by simpa using hsep (by omega) b2 o2 hbo)
    clear hcl
    have hy1 := hy.get k
    obtain ⟨y, hyy⟩ : ∃ y : Nat, y = ys.getD k 0 := ⟨_, rfl⟩
    rw [← hyy] at hck hy1
    have HY := hid hyy; clear hyy
    have hca := hBk.cell (off + k) (by have := hW.len; omega)
    have hfa := hBk.frozen (off + k)
    have hx1 : cur.getD (off + k) 0 < 18446744073709551616 := M.getD_lt (by omega) hW.lt _
    obtain ⟨x, hxx⟩ : ∃ x : Nat, x = cur.getD (off + k) 0 := ⟨_, rfl⟩
    rw [← hxx] at hca hx1
    have HX := hid hxx; clear hxx
    have hlt' : (k : Int) < (m : Int) := by omega
    have hlt2 : (k : Int) < (N : Int) := by omega
    have HB := hid hBk; clear hBk
    have HG := hid hg; clear hg
    obtain ⟨p, hp⟩ : ∃ p : Nat, p = (x + y) % 18446744073709551616 := ⟨_, rfl⟩
    have hwp := wrapU2 x y p hp
    obtain ⟨o, hoo⟩ : ∃ o : Nat, o = (p + c) % 18446744073709551616 := ⟨_, rfl⟩
    have hwo := wrapU2 p c o hoo
    obtain ⟨r1, hr1⟩ : ∃ r : Nat, r = if (p : Int) < (y : Int) then 1 else 0 := ⟨_, rfl⟩
    obtain ⟨r2, hr2⟩ : ∃ r : Nat, r = if (o : Int) < (c : Int) then 1 else 0 := ⟨_, rfl⟩
    have hsum : o + 18446744073709551616 * (r1 + r2) = x + y + c ∧ r1 + r2 ≤ 1 ∧ o < 18446744073709551616 := by
     split at hr1 <;> split at hr2 <;> omega
    have hle1 : r1 ≤ 1 := by omega
    have hle2 : r2 ≤ 1 := by omega
    have HP := hid hp; clear hp
    have HO := hid hoo; clear hoo
    have HR1 := hid hr1; clear hr1
    have HR2 := hid hr2; clear hr2
    have HS := hid hsum; clear hsum
    go_wp2_with fail
    generalize hwy : wr.setCell ⟨g, off + k, none⟩ (.int .u64 (o : Int)) = wy
    have hBy : Blk wy g (cur.set (off + k) o) := by rw [← hwy]; exact HB.out.set _ _ _ rfl
    have hgy : w.grownBy wy (some g) := by rw [← hwy]; exact grown_trans HG.out (grown_setCell _ _ _ _)
    have hWy := hW.set k o (by omega) HS.out.2.2
    have hcy := hBy.cell (off + k) (by rw [List.length_set]; have := hW.len; omega)
    rw [M.getD_set_eq _ _ _ (by have := hW.len; omega)] at hcy
    have HBy := hid hBy; clear hBy
    have HGy := hid hgy; clear hgy
    clear hwy hca hfa hck
    go_quiet ((first | (go_at_call_of 72 p; exact Calls.quiet_of_same (less_any _ _ _ r1 HR1.out)) | (go_at_call_of 72 o; exact Calls.quiet_of_same (less_any _ _ _ r2 HR2.out))))
    go_wp2_with fail
    go_roundw
    case rel =>
     have R : ∃ (k1 : Nat) (cur1 : List Nat) (c1 : Nat), k1 ≤ m ∧ Value.int .i64 ((k : Int) + 1) = .int .i64 k1 ∧ Value.int .u64 ((r1 : Int) + (r2 : Int)) = .int .u64 c1 ∧ c1 ≤ 1 ∧ Blk (wy.drewN nq) g cur1 ∧ M.Wrote 18446744073709551616 zs off N cur1 ∧ w.grownBy (wy.drewN nq) (some g) ∧ V (M.seg cur1 off N) + c1 * 18446744073709551616 ^ k1 = V (M.seg zs off N) + V (ys.take k1) := by
      refine ⟨k + 1, cur.set (off + k) o, r1 + r2, by omega, by go_num, by go_num, HS.out.2.1, HBy.out.drewN _, hWy, grown_trans HGy.out (grown_drewN _ _ _), ?_⟩
      unfold V
      rw [M.val_take_succ, ← HY.out, Nat.pow_succ]
      have h2 := M.val_seg_set 18446744073709551616 cur off N k o (by omega) (by have := hW.len; omega)
      rw [← HX.out] at h2
      exact M.add_over HV.out h2 HS.out.1
     first | exact R | ((repeat apply Exists.intro); exact ⟨R, rfl⟩) | ((repeat apply Exists.intro); exact ⟨R, by rw [hbo]⟩)
    case measure => simp [intOf]; omega
  · have e : k = m := by omega
    subst e
    have hv : V (M.seg cur off N) + c * 18446744073709551616 ^ k = V (M.seg zs off N) + V ys := by
     have := HV.out
     rwa [List.take_of_length_le (by omega)] at this
    clear HV
    have HBk := hid hBk; clear hBk
    have HG := hid hg; clear hg
    have HV := hid hv; clear hv
    obtain ⟨wo, hwo⟩ : ∃ wo : World, wo = wr := ⟨_, rfl⟩
    rw [← hwo] at HBk HG ⊢
    clear hwo
    go_wp2_with fail
    go_loopw [4, 8] (fun cy i wr => ∃ (j : Nat) (cur : List Nat) (c : Nat), j ≤ N ∧ i = .int .i64 j ∧ cy = .int .u64 c ∧ c ≤ 1 ∧ Blk wr g cur ∧ M.Wrote 18446744073709551616 zs off N cur ∧ w.grownBy wr (some g) ∧ V (M.seg cur off N) + c * 18446744073709551616 ^ j = V (M.seg zs off N) + V ys) (fun _ i _ => N - (intOf i).toNat)
    case atStart => exact ⟨k, cur, c, by omega, rfl, rfl, hc, HBk.out, hW, HG.out, HV.out⟩
    case round =>
     clear HBk HG HV hW hc
     obtain ⟨j, cur2, c2, hj, rfl, rfl, hc, hBk, hW, hg, hv⟩ := hrel
     have HV := hid hv; clear hv
     by_cases hcc : c2 = 0
     · subst hcc
       have hgt : ¬ (0 : Int) < ((0 : Nat) : Int) := by omega
       have HBk := hid hBk; clear hBk
       have HG := hid hg; clear hg
       go_wp2_with fail
       go_end0
       refine ⟨rfl, HG.out, cur2, 0, HBk.out, hW, by omega, ?_⟩
       have := HV.out
       simpa using this
     · have hc1 : c2 = 1 := by omega
       have hc0 : (0 : Int) < (c2 : Int) := by omega
       have HC1 := hid hc1; clear hc1
       by_cases hlt : j < N
       · have hca := hBk.cell (off + j) (by have := hW.len; omega)
         have hfa := hBk.frozen (off + j)
         have hx1 : cur2.getD (off + j) 0 < 18446744073709551616 := M.getD_lt (by omega) hW.lt _
         obtain ⟨x, hxx⟩ : ∃ x : Nat, x = cur2.getD (off + j) 0 := ⟨_, rfl⟩
         rw [← hxx] at hca hx1
         have HX := hid hxx; clear hxx
         have hlt2 : (j : Int) < (N : Int) := by omega
         obtain ⟨o, hoo⟩ : ∃ o : Nat, o = (x + c2) % 18446744073709551616 := ⟨_, rfl⟩
         have hwo := wrapU2 x c2 o hoo
         obtain ⟨r2, hr2⟩ : ∃ r : Nat, r = if (o : Int) < (c2 : Int) then 1 else 0 := ⟨_, rfl⟩
         have hsum : o + 18446744073709551616 * r2 = x + 0 + c2 ∧ r2 ≤ 1 ∧ o < 18446744073709551616 := by
          split at hr2 <;> omega
         have HO := hid hoo; clear hoo
         have HR2 := hid hr2; clear hr2
         have HS := hid hsum; clear hsum
         have HB := hid hBk; clear hBk
         have HG := hid hg; clear hg
         go_wp2_with fail
         refine (less_any _ _ _ r2 HR2.out).mono ?_
         rintro e w3 ⟨rfl, hw3⟩
         have hB3 : Blk w3 g (cur2.set (off + j) o) := by rw [hw3]; exact HB.out.set _ _ _ rfl
         have hg3 : w.grownBy w3 (some g) := by rw [hw3]; exact grown_trans HG.out (grown_setCell _ _ _ _)
         have hW3 := hW.set j o (by omega) HS.out.2.2
         have HB3 := hid hB3; clear hB3
         have HG3 := hid hg3; clear hg3
         clear hw3 hca hfa
         go_wp2_with fail
         go_roundw
         case rel =>
          have R : ∃ (j1 : Nat) (cur1 : List Nat) (c1 : Nat), j1 ≤ N ∧ Value.int .i64 ((j : Int) + 1) = .int .i64 j1 ∧ Value.int .u64 (r2 : Int) = .int .u64 c1 ∧ c1 ≤ 1 ∧ Blk w3 g cur1 ∧ M.Wrote 18446744073709551616 zs off N cur1 ∧ w.grownBy w3 (some g) ∧ V (M.seg cur1 off N) + c1 * 18446744073709551616 ^ j1 = V (M.seg zs off N) + V ys := by
           refine ⟨j + 1, cur2.set (off + j) o, r2, by omega, by go_num, rfl, HS.out.2.1, HB3.out, hW3, HG3.out, ?_⟩
           unfold V
           rw [Nat.pow_succ]
           have h2 := M.val_seg_set 18446744073709551616 cur2 off N j o (by omega) (by have := hW.len; omega)
           rw [← HX.out] at h2
           exact M.add_over (y := 0) HV.out h2 HS.out.1
          first | exact R | ((repeat apply Exists.intro); exact ⟨R, rfl⟩)
         case measure => simp [intOf]; omega
       · have hlt2 : ¬ (j : Int) < (N : Int) := by omega
         have e : j = N := by omega
         subst e
         have HBk := hid hBk; clear hBk
         have HG := hid hg; clear hg
         go_wp2_with fail
         go_end0
         exact ⟨rfl, HG.out, cur2, c2, HBk.out, hW, by omega, HV.out⟩

end Go.Proofs.YtogkkecnmlnajaaDoor
