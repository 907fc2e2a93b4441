import Derived.Test.YtdfljbpcjkbflaaGreatDoorrHAD
import Derived.Test.YtdfljbpcjkbflaaGreatDoorrHAJ
import Derived.Test.YtdfljbpcjkbflaaGreatDoorrLenA
set_option maxHeartbeats 4000000
set_option maxRecDepth 100000
namespace Go.Proofs.YtdfljbpcjkbflaaGreatDoor
open Go.RowKit
set_option linter.unusedVariables false
set_option maxRecDepth 100000
theorem mJ (x : Nat) (w : World) (h : x < 18446744073709551616) (b : Nat) (hb : b = aC x) :
 Calls Tryz.prog 145 #[.int .u64 (x : Int)] w fun e w' => e = .returned (.int .i64 (b : Int)) ∧ w' = w := by
 have := zY (x : Int) w (by omega) (by omega)
 rw [Int.toNat_natCast, A5 x h, ← hb] at this
 exact this

theorem CT (x : Nat) (w : World) (h : x < 18446744073709551616) (s : Nat) (hs : s = 64 - aC x) :
 Calls Tryz.prog 128 #[.int .u64 (x : Int)] w fun e w' => e = .returned (.int .i64 (s : Int)) ∧ w' = w := by
 obtain ⟨b, eb⟩ : ∃ b : Nat, b = aC x := ⟨_, rfl⟩
 have hb : b ≤ 64 := by rw [eb]; exact bW x 64 h
 have hsI : (64 : Int) - (b : Int) = (s : Int) := by rw [hs, ← eb]; omega
 have EB := hid eb
 clear eb hs
 go_enter Tryz.func128, Tryz.ntmps128
 go_wp2_with fail
 refine (mJ x _ h b EB.out).mono ?_
 rintro e w1 ⟨rfl, rfl⟩
 go_wp2_with fail
 go_ret
 exact ⟨rfl, rfl⟩

theorem nT (y s : Nat) (hy : 0 < y) (hyb : y < 18446744073709551616) (hs : s = 64 - aC y) : s < 64 ∧ y * 2 ^ s < 18446744073709551616 ∧ 9223372036854775808 ≤ y * 2 ^ s := by
 have h1 := eH y
 have h2 := gD y hy
 have h3 := fT y hy
 have h4 : aC y ≤ 64 := bW y 64 hyb
 refine ⟨by omega, ?_, ?_⟩
 · have : y * 2 ^ s < 2 ^ aC y * 2 ^ s := Nat.mul_lt_mul_of_pos_right h1 (Nat.pow_pos (by omega))
   rw [← Nat.pow_add, show aC y + s = 64 by omega] at this
   exact this
 · have : 2 ^ (aC y - 1) * 2 ^ s ≤ y * 2 ^ s := Nat.mul_le_mul_right _ h2
   rw [← Nat.pow_add, show aC y - 1 + s = 63 by omega] at this
   exact this

theorem AO (hi lo s y : Nat) (hs : s < 64) (hlo : lo < 18446744073709551616) (hlt : hi < y) (hyb : y * 2 ^ s < 18446744073709551616) :
 bits BinOp.or IntKind.u64 (IntKind.u64.wrap ((hi : Int) * 2 ^ s)) ((lo : Int) / 2 ^ (64 - s)) = ((hi * 2 ^ s + lo / 2 ^ (64 - s) : Nat) : Int) ∧ hi * 2 ^ s + lo / 2 ^ (64 - s) < y * 2 ^ s ∧
  (hi * 2 ^ s + lo / 2 ^ (64 - s)) * 18446744073709551616 + lo * 2 ^ s % 18446744073709551616 = (hi * 18446744073709551616 + lo) * 2 ^ s := by
 have hKP : 2 ^ (64 - s) * 2 ^ s = 18446744073709551616 := M.dK s 64 (by omega)
 have h1 : lo / 2 ^ (64 - s) < 2 ^ s := Nat.div_lt_of_lt_mul (by omega)
 have h2 : (hi + 1) * 2 ^ s ≤ y * 2 ^ s := Nat.mul_le_mul_right _ hlt
 rw [Nat.add_mul, Nat.one_mul] at h2
 have hp0 : 0 < 2 ^ s := Nat.pow_pos (by omega)
 refine ⟨?_, by omega, ?_⟩
 · have e1 : IntKind.u64.wrap ((hi : Int) * 2 ^ s) = ((hi * 2 ^ s : Nat) : Int) := by
    rw [eI, ← Int.natCast_mul, gE, Nat.mod_eq_of_lt (by omega)]
   rw [e1, bX, bQ _ _ (by omega) (by omega), iG _ hi s h1, Nat.add_comm]
 · have e : lo * 2 ^ s % 18446744073709551616 + 18446744073709551616 * (lo / 2 ^ (64 - s)) = lo * 2 ^ s := by
    have h5 : lo * 2 ^ s / 18446744073709551616 = lo / 2 ^ (64 - s) := by
     rw [← hKP, Nat.mul_div_mul_right _ _ (Nat.pow_pos (by omega))]
    have := Nat.mod_add_div (lo * 2 ^ s) 18446744073709551616
    rw [h5] at this
    exact this
   rw [Nat.add_mul, Nat.add_mul, Nat.mul_right_comm hi]
   omega

theorem p8 (u d q y p1 p2 p3 r : Nat) (hy : y < 18446744073709551616) (hyp : 0 < y) (hq : q = (u * 4294967296 + d) / y) (h1 : p1 = u * 4294967296 % 18446744073709551616) (h2 : p2 = (p1 + d) % 18446744073709551616) (h3 : p3 = q * y % 18446744073709551616) (hr : r = (u * 4294967296 + d) % y) :
 r = (p2 + 18446744073709551616 - p3) % 18446744073709551616 := by
 have e := Nat.div_add_mod (u * 4294967296 + d) y
 rw [← hq, ← hr, Nat.mul_comm] at e
 have hrl : r < y := by rw [hr]; exact Nat.mod_lt _ hyp
 generalize q * y = t at *
 omega

theorem i7 (x y p : Nat) (hp : p = x * y) (hb : p < 18446744073709551616) : IntKind.u64.wrap ((x : Int) * (y : Int)) = (p : Int) := by
 have := gE p
 rw [Nat.mod_eq_of_lt hb] at this
 rw [← this, hp]; congr 1

theorem rJ (x y p : Nat) (hp : p = x + y) (hb : p < 18446744073709551616) : IntKind.u64.wrap ((x : Int) + (y : Int)) = (p : Int) :=
 eE x y p (by omega)

theorem M.mul32 (x y z c : Nat) (hx : x < 4294967296) (hy : y < 4294967296) (hz : z < 4294967296) (hc : c < 4294967296) :
 ∃ p p2 s : Nat, p = x * y ∧ p < 18446744073709551616 ∧ p2 = p + z ∧ p2 < 18446744073709551616 ∧ s = p2 + c ∧ s < 18446744073709551616 ∧ s / 4294967296 < 4294967296 ∧ s % 4294967296 + 4294967296 * (s / 4294967296) = z + y * x + c := by
 have hb : x * y ≤ 4294967295 * 4294967295 := Nat.mul_le_mul (by omega) (by omega)
 refine ⟨_, _, _, rfl, by omega, rfl, by omega, rfl, by omega, by omega, ?_⟩
 rw [Nat.mul_comm y x]
 generalize x * y = q at *
 omega

theorem M.inner {V V' V0 T c c' Pk Pj B x y z o : Nat} (h : V + c * (Pk * Pj) = V0 + (x * Pk) * T) (hv : V' + Pk * Pj * z = V + Pk * Pj * o) (hs : o + B * c' = z + y * x + c) : V' + c' * (Pk * Pj * B) = V0 + (x * Pk) * (T + Pj * y) := by
 have e2 : (x * Pk) * (Pj * y) = Pk * Pj * (y * x) := by
  simp only [Nat.mul_comm, Nat.mul_left_comm]
 rw [Nat.mul_add, e2]
 generalize Pk * Pj = P at *
 have e : P * (o + B * c') = P * (z + y * x + c) := by rw [hs]
 simp only [Nat.mul_add] at e
 rw [Nat.mul_comm c' (P * B), Nat.mul_assoc]
 rw [Nat.mul_comm c P] at h
 omega

theorem cX (ao bo : Option Addr) (n m c d : Nat) (a b : Nat) (w : World) (hl : (D a).length = n) (hm : (D b).length = m) (hn : n ≤ 1048576) (hn2 : m ≤ 1048576) (hr : Rd w ao (D a)) (hr2 : Rd w bo (D b)) :
 Calls Tryz.prog 41 #[.slice ao n c, .slice bo m d] w fun e w' => Ret w w' e (D (a * b)) := by
 obtain ⟨i0, hi, hz0, hz1, hz2⟩ := info_parts Tryz.infoU
 have hmk := fun (wx : World) => run_make (P := Tryz.prog) wx 53 23 i0 (.int .u64 0) Tryz.underlying53 hi hz0 .i64 .i64 ((n + m + 1 : Nat) : Int) ((n + m + 1 : Nat) : Int) (by omega) (Int.le_refl _) (by rw [hz2]; omega) (by omega)
 have es : ((n + m + 1 : Nat) : Int) = (n : Int) + (m : Int) + 1 := by omega
 rw [es] at hmk
 have et : ((n : Int) + (m : Int) + 1).toNat = n + m + 1 := by omega
 rw [et] at hmk
 clear es et
 have fa := fS a
 have fb := fS b
 go_enter Tryz.func41, Tryz.ntmps41
 go_wp2_with fail
 go_loopw [6] (fun i wr => ∃ (k : Nat) (cur : List Nat), k ≤ n ∧ i = .int .i64 k ∧ Blk wr w.heap.size cur ∧ cur.length = n + m + 1 ∧ F32 cur ∧ (∀ j, m + k ≤ j → cur.getD j 0 = 0) ∧ X cur = b * X ((D a).take k) ∧ Below w.heap.size w wr) (fun i _ => n - (intOf i).toNat)
 case atStart =>
  refine ⟨0, List.replicate (n + m + 1) 0, by omega, rfl, dQ w (n + m + 1), by simp, fun x hx => by simp at hx; omega, fun j _ => ?_, ?_, (Below.refl _ _).alloc (Nat.le_refl _) _⟩
  · rw [List.getD_eq_getElem?_getD, List.getElem?_replicate]; split <;> rfl
  · unfold X; rw [M.cM]; simp [M.val]
 case round =>
  obtain ⟨k, cur, hk, rfl, hBk, hcl, hcf, hz, hv, hbl⟩ := hrel
  clear hmk
  have HZ := hid hz; clear hz
  have HV := hid hv; clear hv
  have HCL := hid hcl; clear hcl
  by_cases hlt : k < n
  · have hx1 := fa.get k
    obtain ⟨x, hxx⟩ : ∃ x : Nat, x = (D a).getD k 0 := ⟨_, rfl⟩
    rw [← hxx] at hx1
    have HX := hid hxx; clear hxx
    have hlt' : (k : Int) < (n : Int) := by omega
    obtain ⟨wo, hwo⟩ : ∃ wo : World, wo = wr := ⟨_, rfl⟩
    rw [← hwo] at hBk hbl ⊢
    clear hwo
    have HBk := hid hBk; clear hBk
    have HBl := hid hbl; clear hbl
    go_wp2_with fail
    go_loopw [7, 8, 9] (fun cy i s9 wr => ∃ (j : Nat) (cu : List Nat) (cc : Nat), j ≤ m ∧ i = .int .i64 j ∧ cy = .int .u64 cc ∧ cc < 4294967296 ∧ Blk wr w.heap.size cu ∧ cu.length = n + m + 1 ∧ F32 cu ∧ (∀ i, m + k ≤ i → cu.getD i 0 = 0) ∧ X cu + cc * 4294967296 ^ (k + j) = X cur + (x * 4294967296 ^ k) * X ((D b).take j) ∧ Below w.heap.size w wr) (fun _ i _ _ => m - (intOf i).toNat)
    case atStart => exact ⟨0, cur, 0, by omega, rfl, rfl, by omega, HBk.out, HCL.out, hcf, HZ.out, by simp [X, M.val], HBl.out⟩
    case round =>
     obtain ⟨j, cu, cc, hj, rfl, rfl, hcc, hBu, hul, huf, huz, huv, hub⟩ := hrel
     have HUZ := hid huz; clear huz
     have HUV := hid huv; clear huv
     have HUL := hid hul; clear hul
     by_cases hlt2 : j < m
     · obtain ⟨b1, o1, hao, hcA⟩ := (hr.below hub) (by omega)
       have hckA := hcA k (by omega)
       rw [← HX.out] at hckA
       clear hcA
       obtain ⟨b2, o2, hbo, hcB⟩ := (hr2.below hub) (by omega)
       have hckB := hcB j (by omega)
       clear hcB
       have hy1 := fb.get j
       obtain ⟨y, hyy⟩ : ∃ y : Nat, y = (D b).getD j 0 := ⟨_, rfl⟩
       rw [← hyy] at hckB hy1
       have HY := hid hyy; clear hyy
       have hcz := hBu.cell (k + j) (by have := HUL.out; omega)
       have hfz := hBu.frozen (k + j)
       have hz1 := huf.get (k + j)
       obtain ⟨z, hzz⟩ : ∃ z : Nat, z = cu.getD (k + j) 0 := ⟨_, rfl⟩
       rw [← hzz] at hcz hz1
       have HZZ := hid hzz; clear hzz
       obtain ⟨p, p2, s, ep, bp, ep2, bp2, es, bs, bs2, hs⟩ := M.mul32 x y z cc hx1 hy1 hz1 hcc
       have w1 := i7 x y p ep bp
       have w2 := rJ p z p2 ep2 bp2
       have w3 := rJ p2 cc s es bs
       have hlow : bits BinOp.and IntKind.u64 (s : Int) 4294967295 = ((s % 4294967296 : Nat) : Int) := by
        rw [and_low32 _ (by omega) (by omega)]; omega
       have hslo : s % 4294967296 < 4294967296 := by omega
       obtain ⟨so, eso⟩ : ∃ so : Nat, so = s % 4294967296 := ⟨_, rfl⟩
       rw [← eso] at hlow hs hslo
       have E1 := hid hs; have E2 := hid bs2; have E3 := hid hslo; have E4 := hid eso
       clear hs bs2 hslo eso ep bp ep2 bp2 es bs
       have HBu := hid hBu; clear hBu
       have hltj : (j : Int) < (m : Int) := by omega
       have hltk : (k : Int) + (j : Int) < ((n + m + 1 : Nat) : Int) := by omega
       go_wp2_with fail
       go_quiet (fail)
       go_wp2_with fail
       go_roundw
       case rel =>
        have R : ∃ (j1 : Nat) (cu1 : List Nat) (cc1 : Nat), j1 ≤ m ∧ Value.int .i64 ((j : Int) + 1) = .int .i64 j1 ∧ Value.int .u64 ((s : Int) / 4294967296) = .int .u64 cc1 ∧ cc1 < 4294967296 ∧ Blk ((wr.setCell ⟨w.heap.size, k + j, none⟩ (.int .u64 (so : Int))).drewN nq) w.heap.size cu1 ∧ cu1.length = n + m + 1 ∧ F32 cu1 ∧ (∀ i, m + k ≤ i → cu1.getD i 0 = 0) ∧ X cu1 + cc1 * 4294967296 ^ (k + j1) = X cur + (x * 4294967296 ^ k) * X ((D b).take j1) ∧ Below w.heap.size w ((wr.setCell ⟨w.heap.size, k + j, none⟩ (.int .u64 (so : Int))).drewN nq) := by
         refine ⟨j + 1, cu.set (k + j) so, s / 4294967296, by omega, by go_num, by go_num, E2.out, (HBu.out.set _ _ _ rfl).drewN _, by rw [List.length_set]; exact HUL.out, ?_, ?_, ?_, below_drewN (hub.setCell (Nat.le_refl _) _) _⟩
         · intro v hv
           rcases List.mem_or_eq_of_mem_set hv with hv | rfl
           · exact huf v hv
           · exact E3.out
         · intro i hi
           rw [M.aX _ _ _ _ (by omega)]; exact HUZ.out i hi
         · have h1 := M.gT 4294967296 (k + j) cu so (by have := HUL.out; omega)
           rw [← HZZ.out] at h1
           have h2 := HUV.out
           unfold X at *
           rw [M.aH, ← HY.out, show k + (j + 1) = k + j + 1 by omega, Nat.pow_succ]
           rw [Nat.pow_add] at h1 h2 ⊢
           exact M.inner h2 h1 E1.out
        first | exact R | ((repeat apply Exists.intro); exact ⟨R, rfl⟩) | ((repeat apply Exists.intro); exact ⟨R, by rw [hao, hbo]⟩)
       case measure => simp [intOf]; omega
     · have e : j = m := by omega
       subst e
       have hcz := hBu.cell (k + j) (by have := HUL.out; omega)
       have hfz := hBu.frozen (k + j)
       have hz0 := HUZ.out (k + j) (by omega)
       rw [hz0] at hcz
       have HZ0 := hid hz0; clear hz0
       have HBu := hid hBu; clear hBu
       have hltk : (k : Int) + (j : Int) < ((n + j + 1 : Nat) : Int) := by omega
       have hltj : ¬ (j : Int) < (j : Int) := by omega
       go_wp2_with fail
       go_roundw
       case rel =>
        have R : ∃ (k1 : Nat) (cur1 : List Nat), k1 ≤ n ∧ Value.int .i64 ((k : Int) + 1) = .int .i64 k1 ∧ Blk (wr.setCell ⟨w.heap.size, k + j, none⟩ (.int .u64 (cc : Int))) w.heap.size cur1 ∧ cur1.length = n + j + 1 ∧ F32 cur1 ∧ (∀ i, j + k1 ≤ i → cur1.getD i 0 = 0) ∧ X cur1 = b * X ((D a).take k1) ∧ Below w.heap.size w (wr.setCell ⟨w.heap.size, k + j, none⟩ (.int .u64 (cc : Int))) := by
         refine ⟨k + 1, cu.set (k + j) cc, by omega, by go_num, HBu.out.set _ _ _ rfl, by rw [List.length_set]; exact HUL.out, ?_, ?_, ?_, hub.setCell (Nat.le_refl _) _⟩
         · intro v hv
           rcases List.mem_or_eq_of_mem_set hv with hv | rfl
           · exact huf v hv
           · exact hcc
         · intro i hi
           rw [M.aX _ _ _ _ (by omega)]; exact HUZ.out i (by omega)
         · have h1 := M.gT 4294967296 (k + j) cu cc (by have := HUL.out; omega)
           rw [HZ0.out, Nat.mul_zero, Nat.add_zero] at h1
           have h2 := HUV.out
           rw [List.take_of_length_le (by omega), X_D] at h2
           have h3 := HV.out
           unfold X at *
           rw [M.aH, ← HX.out, h1, Nat.mul_add, ← h3, Nat.mul_comm (4294967296 ^ (k + j)) cc, h2]
           rw [Nat.mul_comm x (4294967296 ^ k), Nat.mul_comm b]
        first | exact R | ((repeat apply Exists.intro); exact ⟨R, rfl⟩)
       case measure => simp [intOf]; omega
  · have e : k = n := by omega
    subst e
    go_wp2_with fail
    have hfin : M.val 4294967296 cur = a * b := by
     have := HV.out
     rw [List.take_of_length_le (by omega), X_D, Nat.mul_comm] at this
     exact this
    refine (aZ 4294967296 (by omega) _ (k + m + 1) (k + m + 1) cur _ HCL.out (Nat.le_refl _) (by omega) hcf hBk.rd0).mono ?_
    rw [hfin]
    rintro e w3 ⟨ao', cap', rfl, ho', hb'⟩
    go_wp2_with fail
    go_ret
    exact ⟨ao', cap', rfl, aO ho' hbl.size, hbl.trans (hb'.mono hbl.size)⟩

theorem oR (x y : Nat) : (x : Int) / (y : Int) = ((x / y : Nat) : Int) := (Int.natCast_ediv x y).symm

theorem DM (x y : Nat) : (x : Int) % (y : Int) = ((x % y : Nat) : Int) := (Int.natCast_emod x y).symm

theorem mD (x y p : Nat) (hp : p = x * y % 18446744073709551616) : IntKind.u64.wrap ((x : Int) * (y : Int)) = (p : Int) := by
 rw [hp, ← gE, Int.natCast_mul]

theorem qI (hi lo y : Nat) (w : World) (hlo : lo < 18446744073709551616) (hyb : y < 18446744073709551616) (hlt : hi < y) (Q R : Nat) (hQ : Q = (hi * 18446744073709551616 + lo) / y) (hR : R = (hi * 18446744073709551616 + lo) % y) :
 Calls Tryz.prog 146 #[.int .u64 (hi : Int), .int .u64 (lo : Int), .int .u64 (y : Int)] w fun e w' => e = .returned (.tuple #[.int .u64 (Q : Int), .int .u64 (R : Int)]) ∧ ∃ q, w' = w.drewN q := by
 have hyp : 0 < y := by omega
 have t0 : ((y : Int) == 0) = false := by simp; omega
 have t1 : ¬ (y : Int) ≤ (hi : Int) := by omega
 by_cases hh : hi = 0
 · have t2 : ((hi : Int) == 0) = true := by simp; omega
   have hQ' : Q = lo / y := by rw [hQ, hh]; simp
   have hR' : R = lo % y := by rw [hR, hh]; simp
   have q1 := oR lo y
   have q2 := DM lo y
   rw [← hQ'] at q1
   rw [← hR'] at q2
   have hQb : Q < 18446744073709551616 := by rw [hQ']; exact Nat.lt_of_le_of_lt (Nat.div_le_self _ _) hlo
   have hRb : R < 18446744073709551616 := by rw [hR']; exact Nat.lt_of_le_of_lt (Nat.mod_le _ _) hlo
   clear hQ hR hQ' hR' hh
   go_enter Tryz.func146, Tryz.ntmps146
   go_wp2_with fail
   go_quiet (fail)
   go_wp2_with fail
   go_ret2
   exact ⟨by rw [← q2]; rfl, _, rfl⟩
 · have t2 : ((hi : Int) == 0) = false := by simp; omega
   obtain ⟨s, es⟩ : ∃ s : Nat, s = 64 - aC y := ⟨_, rfl⟩
   obtain ⟨hs64, hyn, hyn2⟩ := nT y s hyp hyb es
   obtain ⟨hu1, hu2, hu3⟩ := AO hi lo s y hs64 hlo hlt hyn
   obtain ⟨u, eu⟩ : ∃ u : Nat, u = hi * 2 ^ s + lo / 2 ^ (64 - s) := ⟨_, rfl⟩
   obtain ⟨v, ev⟩ : ∃ v : Nat, v = lo * 2 ^ s % 18446744073709551616 := ⟨_, rfl⟩
   obtain ⟨yn, eyn⟩ : ∃ yn : Nat, yn = y * 2 ^ s := ⟨_, rfl⟩
   rw [← eu] at hu1 hu2 hu3
   rw [← ev] at hu3
   rw [← eyn] at hyn hyn2 hu2
   have wyn : IntKind.u64.wrap ((y : Int) * 2 ^ s) = (yn : Int) := by
    rw [eI, ← Int.natCast_mul, gE, ← eyn, Nat.mod_eq_of_lt hyn]
   have wv : IntKind.u64.wrap ((lo : Int) * 2 ^ s) = (v : Int) := by
    rw [eI, ← Int.natCast_mul, gE, ← ev]
   have hQ2 : Q = (u * 18446744073709551616 + v) / yn := by rw [hu3, eyn, Nat.mul_div_mul_right _ _ (Nat.pow_pos (by omega)), hQ]
   have hR2 : R * 2 ^ s = (u * 18446744073709551616 + v) % yn := by rw [hu3, eyn, Nat.mul_mod_mul_right, hR]
   have hvb : v < 18446744073709551616 := by rw [ev]; exact Nat.mod_lt _ (by omega)
   obtain ⟨y1, e1⟩ : ∃ y1 : Nat, y1 = yn / 4294967296 := ⟨_, rfl⟩
   obtain ⟨y0, e0⟩ : ∃ y0 : Nat, y0 = yn % 4294967296 := ⟨_, rfl⟩
   have hyy : yn = y1 * 4294967296 + y0 := by omega
   have hy0 : y0 < 4294967296 := by omega
   have hy1 : 4294967296 ≤ 2 * y1 := by omega
   have hy1b : y1 < 4294967296 := by omega
   have wy1 : (yn : Int) / 4294967296 = (y1 : Int) := by omega
   have wy0 : bits BinOp.and IntKind.u64 (yn : Int) 4294967295 = (y0 : Int) := by rw [and_low32 _ (by omega) (by omega)]; omega
   obtain ⟨d1, ed1⟩ : ∃ d1 : Nat, d1 = v / 4294967296 := ⟨_, rfl⟩
   obtain ⟨d0, ed0⟩ : ∃ d0 : Nat, d0 = v % 4294967296 := ⟨_, rfl⟩
   have hvv : v = d1 * 4294967296 + d0 := by omega
   have hd1 : d1 < 4294967296 := by omega
   have hd0 : d0 < 4294967296 := by omega
   have wd1 : (v : Int) / 4294967296 = (d1 : Int) := by omega
   have wd0 : bits BinOp.and IntKind.u64 (v : Int) 4294967295 = (d0 : Int) := by rw [and_low32 _ (by omega) (by omega)]; omega
   have hynp : 0 < yn := by omega
   have tq : ((y1 : Int) == 0) = false := by simp; omega
   have hub : u < 18446744073709551616 := by omega
   have K1 := M.Kn.first (C := 4294967296) (u := u) (d := d1) (by omega) hyy hd1 hu2 hy0 hy1
   obtain ⟨g1, eg1⟩ : ∃ g : Nat, g = u / y1 := ⟨_, rfl⟩
   obtain ⟨r1, er1⟩ : ∃ r : Nat, r = u % y1 := ⟨_, rfl⟩
   rw [← eg1, ← er1] at K1
   have wg1 : (u : Int) / (y1 : Int) = (g1 : Int) := by rw [oR, ← eg1]
   have hr1l : r1 < 4294967296 := by rw [er1]; have := Nat.mod_lt u (show 0 < y1 by omega); omega
   have hg1b : g1 < 18446744073709551616 := by have := K1.le; omega
   have wm1 : IntKind.u64.wrap ((g1 : Int) * (y1 : Int)) = ((g1 * y1 : Nat) : Int) := i7 g1 y1 _ rfl (by have := K1.sum; omega)
   obtain ⟨gy1, egy1⟩ : ∃ t : Nat, t = g1 * y1 := ⟨_, rfl⟩
   rw [← egy1] at wm1
   have ws1 : (u : Int) - (gy1 : Int) = (r1 : Int) := by have := K1.sum; rw [← egy1] at this; omega
   obtain ⟨q1, eq1⟩ : ∃ q : Nat, q = (u * 4294967296 + d1) / yn := ⟨_, rfl⟩
   obtain ⟨u2, eu2⟩ : ∃ q : Nat, q = (u * 4294967296 + d1) % yn := ⟨_, rfl⟩
   have ES := hid es; have HK1 := hid K1; have HQ2 := hid hQ2; have HR2 := hid hR2; have EQ1 := hid eq1; have EU2 := hid eu2; have HYY := hid hyy; have HVV := hid hvv
   clear es K1 hQ2 hR2 eq1 eu2 hyy hvv eu ev eyn e1 e0 ed1 ed0 eg1 er1 egy1 hQ hR hu3
   go_enter Tryz.func146, Tryz.ntmps146
   go_wp2_with fail
   refine (CT y _ hyb s ES.out).mono ?_
   rintro e w1 ⟨rfl, rfl⟩
   go_upto_block 0 with fail
   go_cut [16, 15] (fun r q wc => q = .int .u64 (q1 : Int) ∧ (∃ r' : Nat, r = .int .u64 (r' : Int)) ∧ wc = w1)
   case first =>
    go_wp2_with fail
    go_loopw [16, 15] (fun r q wr => ∃ (g r0 : Nat), q = .int .u64 g ∧ r = .int .u64 r0 ∧ M.Kn 4294967296 u d1 y1 y0 yn g r0 ∧ r0 < 4294967296 ∧ wr = w1) (fun _ q _ => (intOf q).toNat)
    case atStart => exact ⟨g1, r1, rfl, rfl, HK1.out, hr1l, rfl⟩
    case round =>
     obtain ⟨g, r0, rfl, rfl, hK, hr0, rfl⟩ := hrel
     have hgb0 : g < 18446744073709551616 := by have := hK.le; omega
     by_cases hge : 4294967296 ≤ g
     · have hge' : (4294967296 : Int) ≤ (g : Int) := by omega
       obtain ⟨hg0, hK2⟩ := hK.down HYY.out hynp hu2 hd1 (Or.inl hge)
       obtain ⟨g', eg'⟩ : ∃ t : Nat, t = g - 1 := ⟨_, rfl⟩
       obtain ⟨r', er'⟩ : ∃ t : Nat, t = r0 + y1 := ⟨_, rfl⟩
       rw [← eg', ← er'] at hK2
       have wg' : (g : Int) - 1 = (g' : Int) := by omega
       have wr' : (r0 : Int) + (y1 : Int) = (r' : Int) := by omega
       have hgb : g' < 18446744073709551616 := by have := hK2.le; omega
       have hrb : r' < 18446744073709551616 := by omega
       have hgC : g' ≤ 4294967296 := by have := hK.le; omega
       have HG := hid eg'; have HR := hid er'
       clear eg' er'
       by_cases hw : 4294967296 ≤ r'
       · have hw' : (4294967296 : Int) ≤ (r' : Int) := by omega
         have hfin : g' = q1 := by rw [EQ1.out]; exact hK2.wide HYY.out hynp hy0 hgC hw
         have HF := hid hfin; have HK2 := hid hK2; clear hfin hK hK2
         go_wp2_with fail
         go_meet
         case rel => rw [HF.out]; exact ⟨rfl, ⟨r', rfl⟩, by first | rfl | trivial⟩
       · have hw' : ¬ (4294967296 : Int) ≤ (r' : Int) := by omega
         have HK2 := hid hK2; clear hK hK2
         go_wp2_with fail
         go_roundw
         case rel =>
          first | exact ⟨g', r', rfl, rfl, HK2.out, by omega, by first | rfl | trivial⟩ | (refine ⟨g', r', rfl, rfl, HK2.out, by omega, ?_⟩; trace_state; rfl)
         case measure => simp [intOf]; have := HG.out; omega
     · have hge' : ¬ (4294967296 : Int) ≤ (g : Int) := by omega
       obtain ⟨p, ep⟩ : ∃ t : Nat, t = g * y0 := ⟨_, rfl⟩
       obtain ⟨c0, ec0⟩ : ∃ t : Nat, t = 4294967296 * r0 := ⟨_, rfl⟩
       obtain ⟨t0', et0⟩ : ∃ t : Nat, t = c0 + d1 := ⟨_, rfl⟩
       have hpb : p < 18446744073709551616 := by
        rw [ep]; exact Nat.lt_of_le_of_lt (Nat.mul_le_mul (show g ≤ 4294967295 by omega) (show y0 ≤ 4294967295 by omega)) (by omega)
       have wp : IntKind.u64.wrap ((g : Int) * (y0 : Int)) = (p : Int) := i7 g y0 p ep hpb
       have wc0 : (4294967296 : Int) * (r0 : Int) = (c0 : Int) := by omega
       have wt0 : (c0 : Int) + (d1 : Int) = (t0' : Int) := by omega
       have hc0b : c0 < 18446744073709551616 := by omega
       have ht0b : t0' < 18446744073709551616 := by omega
       have hlt1 : 4294967296 * r0 + d1 = t0' := by omega
       have EP := hid ep; have EC := hid ec0; have ET := hid et0
       by_cases htp : t0' < p
       · have htp' : (t0' : Int) < (p : Int) := by omega
         have hlt : 4294967296 * r0 + d1 < g * y0 := by rw [hlt1, ← ep]; exact htp
         clear ep ec0 et0 hlt1
         obtain ⟨hg0, hK2⟩ := hK.down HYY.out hynp hu2 hd1 (Or.inr hlt)
         obtain ⟨g', eg'⟩ : ∃ t : Nat, t = g - 1 := ⟨_, rfl⟩
         obtain ⟨r', er'⟩ : ∃ t : Nat, t = r0 + y1 := ⟨_, rfl⟩
         rw [← eg', ← er'] at hK2
         have wg' : (g : Int) - 1 = (g' : Int) := by omega
         have wr' : (r0 : Int) + (y1 : Int) = (r' : Int) := by omega
         have hgb : g' < 18446744073709551616 := by have := hK2.le; omega
         have hrb : r' < 18446744073709551616 := by omega
         have hgC : g' ≤ 4294967296 := by have := hK.le; omega
         have HG := hid eg'; have HR := hid er'
         clear eg' er'
         by_cases hw : 4294967296 ≤ r'
         · have hw' : (4294967296 : Int) ≤ (r' : Int) := by omega
           have hfin : g' = q1 := by rw [EQ1.out]; exact hK2.wide HYY.out hynp hy0 hgC hw
           have HF := hid hfin; have HK2 := hid hK2; clear hfin hK hK2
           go_wp2_with fail
           go_meet
           case rel => rw [HF.out]; exact ⟨rfl, ⟨r', rfl⟩, by first | rfl | trivial⟩
         · have hw' : ¬ (4294967296 : Int) ≤ (r' : Int) := by omega
           have HK2 := hid hK2; clear hK hK2
           go_wp2_with fail
           go_roundw
           case rel =>
            first | exact ⟨g', r', rfl, rfl, HK2.out, by omega, by first | rfl | trivial⟩ | (refine ⟨g', r', rfl, rfl, HK2.out, by omega, ?_⟩; trace_state; rfl)
           case measure => simp [intOf]; have := HG.out; omega
       · have htp' : ¬ (t0' : Int) < (p : Int) := by omega
         have hfin : g = q1 := by rw [EQ1.out]; exact hK.stop HYY.out hynp (by rw [hlt1, ← ep]; omega)
         have HF := hid hfin; clear hfin hK ep ec0 et0 hlt1
         go_wp2_with fail
         go_meet
         case rel => rw [HF.out]; exact ⟨rfl, ⟨r0, rfl⟩, by first | rfl | trivial⟩
   case rest =>
    obtain ⟨rfl, ⟨rz0, rfl⟩, rfl⟩ := hcut
    rename World => wz
    have hqC : q1 < 4294967296 := by
     rw [EQ1.out, Nat.div_lt_iff_lt_mul hynp]
     have h1 : (u + 1) * 4294967296 ≤ yn * 4294967296 := Nat.mul_le_mul_right _ hu2
     rw [Nat.mul_comm 4294967296 yn]; omega
    have hu2l : u2 < yn := by rw [EU2.out]; exact Nat.mod_lt _ hynp
    have hu2b : u2 < 18446744073709551616 := by omega
    obtain ⟨p1, ep1⟩ : ∃ p : Nat, p = u * 4294967296 % 18446744073709551616 := ⟨_, rfl⟩
    obtain ⟨p2, ep2⟩ : ∃ p : Nat, p = (p1 + d1) % 18446744073709551616 := ⟨_, rfl⟩
    obtain ⟨p3, ep3⟩ : ∃ p : Nat, p = q1 * yn % 18446744073709551616 := ⟨_, rfl⟩
    have hp1b : p1 < 18446744073709551616 := by omega
    have hp2b : p2 < 18446744073709551616 := by omega
    have hp3b : p3 < 18446744073709551616 := by omega
    have wp1 : IntKind.u64.wrap ((u : Int) * 4294967296) = (p1 : Int) := mD u 4294967296 p1 ep1
    have wp2 : IntKind.u64.wrap ((p1 : Int) + (d1 : Int)) = (p2 : Int) := by rw [ep2, ← gE, Int.natCast_add]
    have wp3 : IntKind.u64.wrap ((q1 : Int) * (yn : Int)) = (p3 : Int) := mD q1 yn p3 ep3
    have wu2 : IntKind.u64.wrap ((p2 : Int) - (p3 : Int)) = (u2 : Int) := dS p2 p3 u2 (p8 u d1 q1 yn p1 p2 p3 u2 hyn hynp EQ1.out ep1 ep2 ep3 EU2.out) (by omega)
    have K2 := M.Kn.first (C := 4294967296) (u := u2) (d := d0) (by omega) HYY.out hd0 hu2l hy0 hy1
    obtain ⟨g2, eg2⟩ : ∃ g : Nat, g = u2 / y1 := ⟨_, rfl⟩
    obtain ⟨r2, er2⟩ : ∃ r : Nat, r = u2 % y1 := ⟨_, rfl⟩
    rw [← eg2, ← er2] at K2
    have wg2 : (u2 : Int) / (y1 : Int) = (g2 : Int) := by rw [oR, ← eg2]
    have hr2l : r2 < 4294967296 := by rw [er2]; have := Nat.mod_lt u2 (show 0 < y1 by omega); omega
    have hg2b : g2 < 18446744073709551616 := by have := K2.le; omega
    have wm2 : IntKind.u64.wrap ((g2 : Int) * (y1 : Int)) = ((g2 * y1 : Nat) : Int) := i7 g2 y1 _ rfl (by have := K2.sum; omega)
    obtain ⟨gy2, egy2⟩ : ∃ t : Nat, t = g2 * y1 := ⟨_, rfl⟩
    rw [← egy2] at wm2
    have ws2 : (u2 : Int) - (gy2 : Int) = (r2 : Int) := by have := K2.sum; rw [← egy2] at this; omega
    obtain ⟨q0, eq0⟩ : ∃ q : Nat, q = (u2 * 4294967296 + d0) / yn := ⟨_, rfl⟩
    obtain ⟨hw1, hw2⟩ := M.FG hynp EQ1.out EU2.out eq0
    obtain ⟨t1', et1⟩ : ∃ p : Nat, p = u2 * 4294967296 % 18446744073709551616 := ⟨_, rfl⟩
    obtain ⟨t2', et2⟩ : ∃ p : Nat, p = (t1' + d0) % 18446744073709551616 := ⟨_, rfl⟩
    obtain ⟨t3', et3⟩ : ∃ p : Nat, p = q0 * yn % 18446744073709551616 := ⟨_, rfl⟩
    obtain ⟨R2, eR2⟩ : ∃ p : Nat, p = R * 2 ^ s := ⟨_, rfl⟩
    have hR3 : R2 = (u2 * 4294967296 + d0) % yn := by
     rw [hw2, eR2, HR2.out, HVV.out]
    have ht1b : t1' < 18446744073709551616 := by omega
    have ht2b : t2' < 18446744073709551616 := by omega
    have ht3b : t3' < 18446744073709551616 := by omega
    have hR2b : R2 < 18446744073709551616 := by rw [hR3]; have := Nat.mod_lt (u2 * 4294967296 + d0) hynp; omega
    have wt1 : IntKind.u64.wrap ((u2 : Int) * 4294967296) = (t1' : Int) := mD u2 4294967296 t1' et1
    have wt2 : IntKind.u64.wrap ((t1' : Int) + (d0 : Int)) = (t2' : Int) := by rw [et2, ← gE, Int.natCast_add]
    have wt3 : IntKind.u64.wrap ((q0 : Int) * (yn : Int)) = (t3' : Int) := mD q0 yn t3' et3
    have wR2 : IntKind.u64.wrap ((t2' : Int) - (t3' : Int)) = (R2 : Int) := dS t2' t3' R2 (p8 u2 d0 q0 yn t1' t2' t3' R2 hyn hynp eq0 et1 et2 et3 hR3) (by omega)
    have wR : (R2 : Int) / 2 ^ s = (R : Int) := by rw [bX, eR2, Nat.mul_div_cancel _ (Nat.pow_pos (by omega))]
    obtain ⟨m1, em1⟩ : ∃ p : Nat, p = q1 * 4294967296 := ⟨_, rfl⟩
    have wm1' : (q1 : Int) * 4294967296 = (m1 : Int) := by omega
    have hm1b : m1 < 18446744073709551616 := by omega
    have hQ3 : Q = m1 + q0 := by rw [em1, hw1, HQ2.out, HVV.out]
    have wQ : (m1 : Int) + (q0 : Int) = (Q : Int) := by omega
    have hq0C : q0 < 4294967296 := by
     rw [eq0, Nat.div_lt_iff_lt_mul hynp]
     have h1 : (u2 + 1) * 4294967296 ≤ yn * 4294967296 := Nat.mul_le_mul_right _ hu2l
     rw [Nat.mul_comm 4294967296 yn]; omega
    have hQb : Q < 18446744073709551616 := by omega
    have hRb : R < 18446744073709551616 := by
     have h2 : R * 1 ≤ R * 2 ^ s := Nat.mul_le_mul_left _ (Nat.pow_pos (by omega))
     omega
    have HK2 := hid K2; have EQ0 := hid eq0
    clear K2 eq0 hw1 hw2 et1 et2 et3 eR2 hR3 em1 hQ3 ep1 ep2 ep3 eg2 er2 egy2
    go_upto_block 2 with fail
    go_cut [16, 18] (fun r q wc => q = .int .u64 (q0 : Int) ∧ (∃ r' : Nat, r = .int .u64 (r' : Int)) ∧ wc = wz)
    case first =>
     go_wp2_with fail
     go_loopw [16, 18] (fun r q wr => ∃ (g r0 : Nat), q = .int .u64 g ∧ r = .int .u64 r0 ∧ M.Kn 4294967296 u2 d0 y1 y0 yn g r0 ∧ r0 < 4294967296 ∧ wr = wz) (fun _ q _ => (intOf q).toNat)
     case atStart => exact ⟨g2, r2, rfl, rfl, HK2.out, hr2l, rfl⟩
     case round =>
      obtain ⟨g, r0, rfl, rfl, hK, hr0, rfl⟩ := hrel
      have hgb0 : g < 18446744073709551616 := by have := hK.le; omega
      by_cases hge : 4294967296 ≤ g
      · have hge' : (4294967296 : Int) ≤ (g : Int) := by omega
        obtain ⟨hg0, hK2⟩ := hK.down HYY.out hynp hu2l hd0 (Or.inl hge)
        obtain ⟨g', eg'⟩ : ∃ t : Nat, t = g - 1 := ⟨_, rfl⟩
        obtain ⟨r', er'⟩ : ∃ t : Nat, t = r0 + y1 := ⟨_, rfl⟩
        rw [← eg', ← er'] at hK2
        have wg' : (g : Int) - 1 = (g' : Int) := by omega
        have wr' : (r0 : Int) + (y1 : Int) = (r' : Int) := by omega
        have hgb : g' < 18446744073709551616 := by have := hK2.le; omega
        have hrb : r' < 18446744073709551616 := by omega
        have hgC : g' ≤ 4294967296 := by have := hK.le; omega
        have HG := hid eg'; have HR := hid er'
        clear eg' er'
        by_cases hw : 4294967296 ≤ r'
        · have hw' : (4294967296 : Int) ≤ (r' : Int) := by omega
          have hfin : g' = q0 := by rw [EQ0.out]; exact hK2.wide HYY.out hynp hy0 hgC hw
          have HF := hid hfin; have HK2 := hid hK2; clear hfin hK hK2
          go_wp2_with fail
          go_meet
          case rel => rw [HF.out]; exact ⟨rfl, ⟨r', rfl⟩, by first | rfl | trivial⟩
        · have hw' : ¬ (4294967296 : Int) ≤ (r' : Int) := by omega
          have HK2 := hid hK2; clear hK hK2
          go_wp2_with fail
          go_roundw
          case rel =>
           first | exact ⟨g', r', rfl, rfl, HK2.out, by omega, by first | rfl | trivial⟩ | (refine ⟨g', r', rfl, rfl, HK2.out, by omega, ?_⟩; trace_state; rfl)
          case measure => simp [intOf]; have := HG.out; omega
      · have hge' : ¬ (4294967296 : Int) ≤ (g : Int) := by omega
        obtain ⟨p, ep⟩ : ∃ t : Nat, t = g * y0 := ⟨_, rfl⟩
        obtain ⟨c0, ec0⟩ : ∃ t : Nat, t = 4294967296 * r0 := ⟨_, rfl⟩
        obtain ⟨t0', et0⟩ : ∃ t : Nat, t = c0 + d0 := ⟨_, rfl⟩
        have hpb : p < 18446744073709551616 := by
         rw [ep]; exact Nat.lt_of_le_of_lt (Nat.mul_le_mul (show g ≤ 4294967295 by omega) (show y0 ≤ 4294967295 by omega)) (by omega)
        have wp : IntKind.u64.wrap ((g : Int) * (y0 : Int)) = (p : Int) := i7 g y0 p ep hpb
        have wc0 : (4294967296 : Int) * (r0 : Int) = (c0 : Int) := by omega
        have wt0 : (c0 : Int) + (d0 : Int) = (t0' : Int) := by omega
        have hc0b : c0 < 18446744073709551616 := by omega
        have ht0b : t0' < 18446744073709551616 := by omega
        have hlt1 : 4294967296 * r0 + d0 = t0' := by omega
        have EP := hid ep; have EC := hid ec0; have ET := hid et0
        by_cases htp : t0' < p
        · have htp' : (t0' : Int) < (p : Int) := by omega
          have hlt : 4294967296 * r0 + d0 < g * y0 := by rw [hlt1, ← ep]; exact htp
          clear ep ec0 et0 hlt1
          obtain ⟨hg0, hK2⟩ := hK.down HYY.out hynp hu2l hd0 (Or.inr hlt)
          obtain ⟨g', eg'⟩ : ∃ t : Nat, t = g - 1 := ⟨_, rfl⟩
          obtain ⟨r', er'⟩ : ∃ t : Nat, t = r0 + y1 := ⟨_, rfl⟩
          rw [← eg', ← er'] at hK2
          have wg' : (g : Int) - 1 = (g' : Int) := by omega
          have wr' : (r0 : Int) + (y1 : Int) = (r' : Int) := by omega
          have hgb : g' < 18446744073709551616 := by have := hK2.le; omega
          have hrb : r' < 18446744073709551616 := by omega
          have hgC : g' ≤ 4294967296 := by have := hK.le; omega
          have HG := hid eg'; have HR := hid er'
          clear eg' er'
          by_cases hw : 4294967296 ≤ r'
          · have hw' : (4294967296 : Int) ≤ (r' : Int) := by omega
            have hfin : g' = q0 := by rw [EQ0.out]; exact hK2.wide HYY.out hynp hy0 hgC hw
            have HF := hid hfin; have HK2 := hid hK2; clear hfin hK hK2
            go_wp2_with fail
            go_meet
            case rel => rw [HF.out]; exact ⟨rfl, ⟨r', rfl⟩, by first | rfl | trivial⟩
          · have hw' : ¬ (4294967296 : Int) ≤ (r' : Int) := by omega
            have HK2 := hid hK2; clear hK hK2
            go_wp2_with fail
            go_roundw
            case rel =>
             first | exact ⟨g', r', rfl, rfl, HK2.out, by omega, by first | rfl | trivial⟩ | (refine ⟨g', r', rfl, rfl, HK2.out, by omega, ?_⟩; trace_state; rfl)
            case measure => simp [intOf]; have := HG.out; omega
        · have htp' : ¬ (t0' : Int) < (p : Int) := by omega
          have hfin : g = q0 := by rw [EQ0.out]; exact hK.stop HYY.out hynp (by rw [hlt1, ← ep]; omega)
          have HF := hid hfin; clear hfin hK ep ec0 et0 hlt1
          go_wp2_with fail
          go_meet
          case rel => rw [HF.out]; exact ⟨rfl, ⟨r0, rfl⟩, by first | rfl | trivial⟩
    case rest =>
     obtain ⟨rfl, ⟨rz2, rfl⟩, rfl⟩ := hcut
     go_wp2_with fail
     go_ret2
     exact ⟨rfl, 0, rfl⟩

theorem M.limb_step {T' T r x q r' d : Nat} {B : Nat} (h : T' * d + r = T) (hq : q * d + r' = r * B + x) : (q + B * T') * d + r' = x + B * T := by
 rw [← h, Nat.add_mul, Nat.mul_add, Nat.mul_assoc, Nat.mul_comm B r]
 omega

theorem M.drop_take_set (cur : List Nat) (N k x : Nat) (hk : k < N) (hl : N ≤ cur.length) : V (((cur.set k x).take N).drop k) = x + 18446744073709551616 * V ((cur.take N).drop (k + 1)) := by
 rw [List.take_set, oI _ _ (by simp; omega), M.aY _ _ _ (by simp; omega), List.drop_set_of_lt (by omega)]

theorem jO (g N cap d : Nat) (ao : Option Addr) (zs : List Nat) (w : World) (hao : 0 < N → ao = some ⟨g, 0, none⟩) (hB : Blk w g zs) (hz : F64 zs) (ho : N ≤ zs.length) (hN : N ≤ 4194304) (hd : 0 < d) (hdb : d < 18446744073709551616) :
 Calls Tryz.prog 127 #[.slice ao N cap, .int .u64 (d : Int)] w fun e w' => e = .returned (.int .u64 ((V (zs.take N) % d : Nat) : Int)) ∧ w.grownBy w' (some g) ∧ ∃ cur, Blk w' g cur ∧ M.Wrote 18446744073709551616 zs 0 N cur ∧ V (cur.take N) = V (zs.take N) / d := by
 go_enter Tryz.func127, Tryz.ntmps127
 go_wp2_with fail
 go_loopw [5, 6] (fun rs i wr => ∃ (k : Nat) (cur : List Nat) (r : Nat), k ≤ N ∧ i = .int .i64 ((k : Int) - 1) ∧ rs = .int .u64 (r : Int) ∧ r < d ∧ Blk wr g cur ∧ M.Wrote 18446744073709551616 zs 0 N cur ∧ w.grownBy wr (some g) ∧ (∀ j, j < k → cur.getD j 0 = zs.getD j 0) ∧ V ((cur.take N).drop k) * d + r = V ((zs.take N).drop k)) (fun _ i _ => (intOf i + 1).toNat)
 case atStart =>
  refine ⟨N, zs, 0, by omega, by go_num, rfl, hd, hB, M.Wrote.refl hz _ _, World.grownBy.refl _ _, fun _ _ => rfl, ?_⟩
  rw [List.drop_of_length_le (by rw [List.length_take]; omega)]; simp [V, M.val]
 case round =>
  obtain ⟨k, cur, r, hk, rfl, rfl, hrd, hBk, hW, hg, hlow, hv⟩ := hrel
  have HV := hid hv; clear hv
  have HL := hid hlow; clear hlow
  by_cases hlt : 0 < k
  · obtain ⟨k, rfl⟩ : ∃ k', k = k' + 1 := ⟨k - 1, by omega⟩
    have e1 : (((k + 1 : Nat) : Int) - 1) = (k : Int) := by omega
    rw [e1]
    have hao' := hao (by omega)
    have hcs := hBk.cell k (by have := hW.len; omega)
    have hfs := hBk.frozen k
    rw [HL.out k (by omega)] at hcs
    have hx1 : zs.getD k 0 < 18446744073709551616 := F64.get hz k
    obtain ⟨x, hxx⟩ : ∃ x : Nat, x = zs.getD k 0 := ⟨_, rfl⟩
    rw [← hxx] at hcs hx1
    have HX := hid hxx; clear hxx
    have hge : (0 : Int) ≤ (k : Int) := by omega
    have hlt2 : (k : Int) < (N : Int) := by omega
    obtain ⟨Q, hQ⟩ : ∃ Q, Q = (r * 18446744073709551616 + x) / d := ⟨_, rfl⟩
    obtain ⟨R, hR⟩ : ∃ R, R = (r * 18446744073709551616 + x) % d := ⟨_, rfl⟩
    have hRd : R < d := by rw [hR]; exact Nat.mod_lt _ hd
    have hsum : Q * d + R = r * 18446744073709551616 + x := by rw [hQ, hR, Nat.mul_comm]; exact Nat.div_add_mod _ _
    have hQb : Q < 18446744073709551616 := by
     rw [hQ, Nat.div_lt_iff_lt_mul hd]
     have h1 : (r + 1) * 18446744073709551616 ≤ d * 18446744073709551616 := Nat.mul_le_mul_right _ hrd
     rw [Nat.mul_comm 18446744073709551616 d]; omega
    have EQ := hid hQ; have ER := hid hR; have ES := hid hsum
    clear hQ hR hsum
    have HB := hid hBk; clear hBk
    have HG := hid hg; clear hg
    go_wp2_with fail
    refine (qI r x d _ hx1 hdb hrd Q R EQ.out ER.out).mono ?_
    rintro e v1 ⟨rfl, q1, hv1⟩
    have hcs1 : v1.cell? ⟨g, k, none⟩ = some (.int .u64 (x : Int)) := by rw [hv1]; exact hcs
    have hfs1 : v1.frozen? ⟨g, k, none⟩ = false := by rw [hv1]; exact hfs
    have hB1 : Blk v1 g cur := by rw [hv1]; exact HB.out.drewN _
    have hg1 : w.grownBy v1 (some g) := by rw [hv1]; exact aA HG.out (bM _ _ _)
    clear hv1 hcs hfs
    have HB1 := hid hB1; have HG1 := hid hg1
    clear hB1 hg1
    go_wp2_with fail
    have hW3 := hW.set k Q (by omega) hQb
    rw [Nat.zero_add] at hW3
    go_roundw
    case rel =>
     have R : ∃ (k1 : Nat) (cur1 : List Nat) (r1 : Nat), k1 ≤ N ∧ Value.int .i64 ((k : Int) - 1) = .int .i64 ((k1 : Int) - 1) ∧ Value.int .u64 (R : Int) = .int .u64 (r1 : Int) ∧ r1 < d ∧ Blk (v1.setCell ⟨g, k, none⟩ (.int .u64 (Q : Int))) g cur1 ∧ M.Wrote 18446744073709551616 zs 0 N cur1 ∧ w.grownBy (v1.setCell ⟨g, k, none⟩ (.int .u64 (Q : Int))) (some g) ∧ (∀ j, j < k1 → cur1.getD j 0 = zs.getD j 0) ∧ V ((cur1.take N).drop k1) * d + r1 = V ((zs.take N).drop k1) := by
      refine ⟨k, cur.set k Q, R, by omega, rfl, rfl, hRd, HB1.out.set _ _ _ rfl, hW3, aA HG1.out (aE _ _ _ _), fun j hj => ?_, ?_⟩
      · rw [M.aX _ _ _ _ (by omega)]; exact HL.out j (by omega)
      · rw [M.drop_take_set _ _ _ _ (by omega) (by have := hW.len; omega), oI (zs.take N) k (by simp; omega)]
        have e2 : (zs.take N).getD k 0 = x := by rw [HX.out]; simp [List.getD_eq_getElem?_getD, List.getElem?_take]; rw [if_pos (by omega)]
        rw [e2]
        exact M.limb_step HV.out ES.out
     first | exact R | ((repeat apply Exists.intro); exact ⟨R, rfl⟩) | ((repeat apply Exists.intro); exact ⟨R, by rw [hao']⟩)
    case measure => simp [intOf] <;> omega
  · have e : k = 0 := by omega
    subst e
    have HBk := hid hBk; clear hBk
    have HG := hid hg; clear hg
    have hge : ¬ (0 : Int) ≤ ((0 : Nat) : Int) - 1 := by omega
    go_wp2_with fail
    go_ret
    have h1 := HV.out
    simp only [List.drop_zero] at h1
    have h2 : V (zs.take N) % d = r := by rw [← h1, Nat.mul_comm, Nat.mul_add_mod, Nat.mod_eq_of_lt hrd]
    have h3 : V (zs.take N) / d = V (cur.take N) := by rw [← h1, Nat.mul_comm, Nat.mul_add_div hd, Nat.div_eq_of_lt hrd, Nat.add_zero]
    have h4 : ((V (zs.take N) : Nat) : Int) % (d : Int) = (r : Int) := by rw [← Int.natCast_emod, h2]
    exact ⟨by rw [h4]; rfl, HG.out, cur, HBk.out, hW, h3.symm⟩

end Go.Proofs.YtdfljbpcjkbflaaGreatDoor
namespace Go.Proofs.YtdfljbpcjkbflaaGreatDoor.M
set_option linter.unusedVariables false
set_option maxRecDepth 100000
structure Es (B t s W x g l : Nat) : Prop where
 sum : g * t + l = W
 lt : g < B
 ge : ∀ q, q < B → q * (t * B + s) ≤ W * B + x → q ≤ g
 small : l < 2 * B

theorem DE {B t s W x g l : Nat} (h : g * t + l = W) : g * (t * B + s) + l * B = W * B + g * s := by
 rw [← h, Nat.mul_add, Nat.add_mul, Nat.mul_assoc]; omega

theorem Es.start {B t s W x g l : Nat} (h : g * t + l = W) (hg : g < B) (hl : l < 2 * B) (hx : x < B) (hge : ∀ q, q < B → q * t ≤ W → q ≤ g) : Es B t s W x g l := by
 refine ⟨h, hg, fun q hq h1 => hge q hq ?_, hl⟩
 have h2 : q * t * B ≤ q * (t * B + s) := by rw [Nat.mul_add, Nat.mul_assoc]; omega
 have h3 : q * t * B < (W + 1) * B := by rw [Nat.add_mul]; omega
 have := Nat.lt_of_mul_lt_mul_right h3
 omega

theorem Es.stop {B t s W x g l : Nat} (h : Es B t s W x g l) (hs : g * s ≤ l * B + x) : g * (t * B + s) ≤ W * B + x := by
 have := DE (B := B) (s := s) (x := x) h.sum
 omega

theorem Es.wide {B t s W x g l : Nat} (h : Es B t s W x g l) (hs : s < B) (hl : B ≤ l) : g * (t * B + s) ≤ W * B + x := by
 refine h.stop ?_
 have h1 : g * s ≤ B * B := Nat.mul_le_mul (Nat.le_of_lt h.lt) (Nat.le_of_lt hs)
 have h2 : B * B ≤ l * B := Nat.mul_le_mul_right _ hl
 omega

theorem Es.down {B t s W x g l : Nat} (h : Es B t s W x g l) (ht : t < B) (hl : l < B) (hs : l * B + x < g * s) : 1 ≤ g ∧ Es B t s W x (g - 1) (l + t) := by
 have e := DE (B := B) (s := s) (x := x) h.sum
 have hg1 : 1 ≤ g := by
  rcases Nat.eq_zero_or_pos g with rfl | h0
  · simp at hs
  · exact h0
 refine ⟨hg1, ?_, by have := h.lt; omega, fun q hq h1 => ?_, by omega⟩
 · have := h.sum
   obtain ⟨m, rfl⟩ : ∃ m, g = m + 1 := ⟨g - 1, by omega⟩
   rw [Nat.add_sub_cancel]
   rw [Nat.add_mul, Nat.one_mul] at this
   omega
 · have h2 := h.ge q hq h1
   rcases Nat.lt_or_ge q g with h3 | h3
   · omega
   · have : q = g := by omega
     subst this
     omega

theorem BJ {P D2 d0 W3 w0 q : Nat} (hw : w0 < P) (h : q * (D2 * P + d0) ≤ W3 * P + w0) : q * D2 ≤ W3 := by
 have h2 : q * D2 * P ≤ q * (D2 * P + d0) := by rw [Nat.mul_add, Nat.mul_assoc]; omega
 have h3 : q * D2 * P < (W3 + 1) * P := by rw [Nat.add_mul]; omega
 have := Nat.lt_of_mul_lt_mul_right h3
 omega

theorem CO {P D2 d0 W3 w0 m : Nat} (hd : d0 < P) (hm : m ≤ D2) (h : (m + 1) * D2 ≤ W3) : m * (D2 * P + d0) ≤ W3 * P + w0 := by
 have h1 : m * (D2 * P + d0) ≤ m * (D2 * P + P) := Nat.mul_le_mul_left _ (by omega)
 have h2 : m * (D2 * P + P) = (m * D2 + m) * P := by rw [Nat.mul_add, ← Nat.mul_assoc, Nat.add_mul]
 have h3 : (m * D2 + m) * P ≤ W3 * P := Nat.mul_le_mul_right _ (by rw [Nat.add_mul] at h; omega)
 omega

theorem wK {S S1 c z Bn g D W q : Nat} (hW : W = S + Bn * z) (hs : S1 + g * D = S + c * Bn) (hfit : c ≤ z) (hlt : ∀ q, q * D ≤ W → q ≤ g) (hD : 0 < D) :
 S1 + Bn * (z - c) + g * D = W ∧ S1 + Bn * (z - c) < D := by
 obtain ⟨e, rfl⟩ : ∃ e, z = c + e := ⟨z - c, by omega⟩
 rw [Nat.add_sub_cancel_left]
 rw [Nat.mul_add, Nat.mul_comm Bn c] at hW
 have e1 : S1 + Bn * e + g * D = W := by omega
 refine ⟨e1, ?_⟩
 rcases Nat.lt_or_ge (S1 + Bn * e) D with h | h
 · exact h
 · have := hlt (g + 1) (by rw [Nat.add_mul]; omega)
   omega

theorem vZ {S S1 c z Bn g D W B S2 c2 : Nat} (hW : W = S + Bn * z) (hs : S1 + g * D = S + c * Bn) (hfit : z < c) (hcB : c ≤ B + z) (hS : S < Bn) (hS1 : S1 < Bn) (hg : (g - 1) * D ≤ W) (hg1 : 1 ≤ g)
 (h2 : S2 + c2 * (Bn * B) = S1 + Bn * (z + B - c) + D) (hS2 : S2 < Bn * B) (hDB : D ≤ Bn) (hD : 0 < D) : S2 + (g - 1) * D = W ∧ S2 < D := by
 obtain ⟨m, rfl⟩ : ∃ m, g = m + 1 := ⟨g - 1, by omega⟩
 rw [Nat.add_sub_cancel] at *
 rw [Nat.add_mul, Nat.one_mul] at hs
 obtain ⟨e, rfl⟩ : ∃ e, B = e + (c - z) := ⟨B - (c - z), by omega⟩
 obtain ⟨f, rfl⟩ : ∃ f, c = z + f := ⟨c - z, by omega⟩
 have e1 : z + (e + (z + f - z)) - (z + f) = e := by omega
 have e3 : z + f - z = f := by omega
 rw [e1, e3] at h2
 rw [e3] at hS2
 rw [Nat.add_mul] at hs
 rw [Nat.mul_add Bn e f] at h2 hS2
 have hf : 1 ≤ f := by omega
 have e4 : Bn * f = f * Bn := Nat.mul_comm _ _
 have e5 : Bn * z = z * Bn := Nat.mul_comm _ _
 rw [e4] at h2 hS2
 rw [e5] at hW
 have hfB : Bn ≤ f * Bn := Nat.le_mul_of_pos_left _ hf
 have hc2 : c2 = 1 := by
  rcases Nat.eq_zero_or_pos c2 with rfl | h0
  · simp only [Nat.zero_mul, Nat.add_zero] at h2
    omega
  · rcases Nat.lt_or_ge c2 2 with h | h
    · omega
    · have h6 : 2 * (Bn * e + f * Bn) ≤ c2 * (Bn * e + f * Bn) := Nat.mul_le_mul_right _ h
      omega
 subst hc2
 rw [Nat.one_mul] at h2
 constructor <;> omega

theorem cY (B : Nat) (xs : List Nat) (off j : Nat) : val B (seg xs off (j + 1)) = val B (seg xs off j) + B ^ j * xs.getD (off + j) 0 := by
 unfold seg
 rw [aH]
 congr 2
 simp [List.getD_eq_getElem?_getD]

theorem tQ (P B S a b c : Nat) : S + P * a + P * B * b + P * B * B * c = ((c * B + b) * B + a) * P + S := by
 have e1 : P * B * b = b * B * P := by rw [Nat.mul_comm (P * B) b, Nat.mul_comm P B, Nat.mul_assoc]
 have e2 : P * B * B * c = c * B * B * P := by rw [Nat.mul_comm (P * B * B) c, Nat.mul_comm P B, Nat.mul_comm (B * P) B, Nat.mul_assoc, Nat.mul_assoc]
 rw [e1, e2, Nat.add_mul, Nat.add_mul, Nat.add_mul, Nat.mul_comm P a]
 omega

theorem zN (P B S a b : Nat) : S + P * a + P * B * b = (b * B + a) * P + S := by
 have e1 : P * B * b = b * B * P := by rw [Nat.mul_comm (P * B) b, Nat.mul_comm P B, Nat.mul_assoc]
 rw [e1, Nat.add_mul, Nat.mul_comm P a]
 omega

theorem AM {B : Nat} (hB : 1 < B) (cur ys : List Nat) (p n2 N : Nat) (hc : ∀ x ∈ cur, x < B) (hy : ∀ x ∈ ys, x < B) (hl : cur.length = N) (hyl : ys.length = n2 + 2) (hp : p + (n2 + 2) + 1 ≤ N) (hlt : val B cur < val B ys * B ^ (p + 1)) :
 ∃ S w0 d0 W : Nat, W = val B (seg cur p (n2 + 2 + 1)) ∧ S = val B (seg cur p (n2 + 2)) ∧ W = S + B ^ (n2 + 2) * cur.getD (p + (n2 + 2)) 0 ∧ S < B ^ (n2 + 2) ∧
   W = ((cur.getD (p + (n2 + 2)) 0 * B + cur.getD (p + (n2 + 1)) 0) * B + cur.getD (p + n2) 0) * B ^ n2 + w0 ∧ w0 < B ^ n2 ∧
   val B ys = (ys.getD (n2 + 1) 0 * B + ys.getD n2 0) * B ^ n2 + d0 ∧ d0 < B ^ n2 ∧ W < val B ys * B ∧ cur.getD (p + (n2 + 2)) 0 ≤ ys.getD (n2 + 1) 0 ∧ val B (cur.drop (p + (n2 + 2 + 1))) = 0 := by
 have hPp : 0 < B ^ p := Nat.pow_pos (by omega)
 have hP2 : 0 < B ^ n2 := Nat.pow_pos (by omega)
 have s1 := cY B cur p (n2 + 2)
 have s2 := cY B cur p (n2 + 1)
 have s3 := cY B cur p n2
 have y1 := aH B ys (n2 + 1)
 have y2 := aH B ys n2
 rw [List.take_of_length_le (show ys.length ≤ n2 + 1 + 1 by omega)] at y1
 have l0 := eT hB (seg cur p n2) (sR hc p n2)
 rw [dD cur p n2 (by omega)] at l0
 have l1 := eT hB (seg cur p (n2 + 2)) (sR hc p (n2 + 2))
 rw [dD cur p (n2 + 2) (by omega)] at l1
 have l2 := eT hB (ys.take n2) (fun x hx => hy x (List.mem_of_mem_take hx))
 rw [show (ys.take n2).length = n2 by simp; omega] at l2
 have ld := eT hB ys hy
 rw [hyl] at ld
 have hsp := i8 B cur p (n2 + 2 + 1) (by omega)
 have hW : val B (seg cur p (n2 + 2 + 1)) < val B ys * B := by
  have h1 : val B (seg cur p (n2 + 2 + 1)) * B ^ p ≤ val B cur := by
   rw [hsp, Nat.mul_comm _ (B ^ p), Nat.mul_add]; omega
  have h2 : val B (seg cur p (n2 + 2 + 1)) * B ^ p < val B ys * B * B ^ p := by
   have h3 : val B ys * B * B ^ p = val B ys * B ^ (p + 1) := by rw [Nat.mul_assoc, Nat.pow_succ, Nat.mul_comm B]
   rw [h3]; exact Nat.lt_of_le_of_lt h1 hlt
  exact Nat.lt_of_mul_lt_mul_right h2
 have hD : val B ys = (ys.getD (n2 + 1) 0 * B + ys.getD n2 0) * B ^ n2 + val B (ys.take n2) := by
  rw [y1, y2, Nat.pow_succ]; exact zN _ _ _ _ _
 refine ⟨_, _, _, _, rfl, rfl, s1, l1, ?_, l0, hD, l2, hW, ?_, ?_⟩
 · rw [s1, s2, s3, Nat.pow_succ, Nat.pow_succ]; exact tQ _ _ _ _ _ _
 · generalize cur.getD (p + (n2 + 2)) 0 = wn at *
   generalize ys.getD (n2 + 1) 0 = top at *
   have hs : ys.getD n2 0 < B := bK hB hy _
   generalize ys.getD n2 0 = sec at *
   have h1 : wn * (B ^ n2 * B * B) < (top + 1) * (B ^ n2 * B * B) := by
    have h2 : val B ys < (top * B + sec + 1) * B ^ n2 := by rw [hD, Nat.add_mul (top * B + sec) 1]; omega
    have h3 : (top * B + sec + 1) * B ^ n2 ≤ (top + 1) * B * B ^ n2 := Nat.mul_le_mul_right _ (by rw [Nat.add_mul top 1]; omega)
    have h4 : val B ys * B < (top + 1) * B * B ^ n2 * B := Nat.mul_lt_mul_of_pos_right (by omega) (by omega)
    have h5 : (top + 1) * B * B ^ n2 * B = (top + 1) * (B ^ n2 * B * B) := by
     rw [Nat.mul_assoc (top + 1) B, Nat.mul_comm B (B ^ n2), Nat.mul_assoc (top + 1)]
    have h6 : wn * (B ^ n2 * B * B) ≤ val B (seg cur p (n2 + 2 + 1)) := by
     rw [s1, Nat.pow_succ, Nat.pow_succ, Nat.mul_comm wn]; omega
    omega
   have := Nat.lt_of_mul_lt_mul_right h1
   omega
 · rcases Nat.eq_zero_or_pos (val B (cur.drop (p + (n2 + 2 + 1)))) with h | h
   · exact h
   · have h1 : B ^ p * (B ^ (n2 + 2 + 1) * 1) ≤ B ^ p * (B ^ (n2 + 2 + 1) * val B (cur.drop (p + (n2 + 2 + 1)))) := Nat.mul_le_mul_left _ (Nat.mul_le_mul_left _ h)
     have h2 : B ^ p * (B ^ (n2 + 2 + 1) * 1) ≤ val B cur := by rw [hsp, Nat.mul_add]; omega
     have h3 : val B ys * B ^ (p + 1) < B ^ (n2 + 2) * B ^ (p + 1) := Nat.mul_lt_mul_of_pos_right ld (Nat.pow_pos (by omega))
     have h4 : B ^ (n2 + 2) * B ^ (p + 1) = B ^ p * (B ^ (n2 + 2 + 1) * 1) := by
      rw [Nat.mul_one, ← Nat.pow_add, ← Nat.pow_add]; congr 1; omega
     omega

theorem uY {B : Nat} (hB : 1 < B) (cur cur' : List Nat) (p n1 N D Q A W W' q : Nat) (hl : cur.length = N) (hp : p + n1 ≤ N) (hw : Wrote B cur p n1 cur') (hW : W = val B (seg cur p n1)) (hW' : W' = val B (seg cur' p n1)) (h0 : val B (cur.drop (p + n1)) = 0)
 (hq : W' + q * D = W) (hlt : W' < D) (hI : val B cur + D * (B ^ (p + 1) * Q) = A) :
 val B cur' + D * (B ^ p * (q + B * Q)) = A ∧ val B cur' < D * B ^ p := by
 have h1 := pX hw (by omega)
 rw [← hW, ← hW'] at h1
 have hsp := i8 B cur' p n1 (by rw [hw.len]; omega)
 rw [← hW', oU cur' cur (p + n1) hw.len (fun j hj => hw.out j (by omega)), h0, Nat.mul_zero, Nat.add_zero] at hsp
 have l0 := eT hB (cur'.take p) (fun x hx => hw.lt x (List.mem_of_mem_take hx))
 rw [show (cur'.take p).length = p by simp; rw [hw.len]; omega] at l0
 constructor
 · have e1 : D * (B ^ p * (q + B * Q)) = B ^ p * (q * D) + D * (B ^ (p + 1) * Q) := by
    rw [Nat.mul_add, Nat.mul_add, Nat.pow_succ, Nat.mul_assoc (B ^ p) B Q, Nat.mul_left_comm D, Nat.mul_comm D q]
   have e2 : B ^ p * W = B ^ p * W' + B ^ p * (q * D) := by rw [← hq, Nat.mul_add]
   rw [e1]
   omega
 · have h2 : B ^ p * (W' + 1) ≤ B ^ p * D := Nat.mul_le_mul_left _ hlt
   rw [Nat.mul_add, Nat.mul_one] at h2
   rw [hsp, Nat.mul_comm D]
   omega

end Go.Proofs.YtdfljbpcjkbflaaGreatDoor.M
