import Derived.WalkMore
import Derived.Test.YtfdgkleoaehjaaaGreatDoorsGAI
set_option maxHeartbeats 4000000
set_option maxRecDepth 100000
namespace Go.Proofs.YtfdgkleoaehjaaaGreatDoor
open Go.RowKit
set_option linter.unusedVariables false
set_option maxRecDepth 100000
def IN (w w' : World) (g : Nat) (N M : Nat) (A D : Nat) : Prop :=
 w.grownBy w' (some g) /\ ∃ qs cur, Blk w' w.heap.size qs /\ qs.length = M /\ F64 qs /\ V qs = A / D /\ Blk w' g cur /\ cur.length = N /\ F64 cur /\ V cur = A % D

theorem F64.set {xs : List Nat} (h : F64 xs) (i : Nat) {x : Nat} (hx : x < 18446744073709551616) : F64 (xs.set i x) := by
 intro v hv;rcases List.mem_or_eq_of_mem_set hv with hv | rfl
 . exact h v hv
 . exact hx

theorem mD {w w1 : World} {row : Option Nat} (h : w.grownBy w1 row) (gq i : Nat) (v : Value) (hq : w.heap.size <= gq) : w.grownBy (w1.setCell ⟨gq, i, none⟩ v) row :=
 ⟨h.os, h.tape, h.output, by simp [World.setCell]; exact h.size, fun k hk hne => (Below.heap_setCell _ _ _ _ (by simp; omega)).trans (h.block k hk hne)⟩

theorem A8 (g N n Mq : Nat) (bo : Option Addr) (d : Nat) (zs ys : List Nat) (w : World) (hB : Blk w g zs) (hz : F64 zs) (hN : zs.length = N) (hNb : N <= 2097152) (hm : ys.length = n) (hn2 : 2 <= n) (hMN : N = n + Mq) (hM1 : 1 <= Mq) (hy : F64 ys) (hr : Rd w bo ys) (hsep : 0 < ys.length -> ∀ b2 o2, bo = some ⟨b2, o2, none⟩ -> b2 ≠ g) (htop : 9223372036854775808 <= ys.getD (n - 1) 0) (hlt : V zs < V ys * 18446744073709551616 ^ Mq) :
 Calls Tryz.prog 168 #[.slice (some ⟨g, 0, none⟩) N N, .slice bo n d] w fun e w' => e = .returned (.slice (some ⟨w.heap.size, 0, none⟩) Mq Mq) /\ IN w w' g N Mq (V zs) (V ys) := by
 obtain ⟨i0, hi, hz0, hz1, hz2⟩ := info_parts Tryz.infoU
 have hmk := fun (wx : World) => run_make (P := Tryz.prog) wx 87 25 i0 (.int .u64 0) Tryz.underlying87 hi hz0 .i64 .i64 ((Mq : Nat) : Int) ((Mq : Nat) : Int) (by omega) (Int.le_refl _) (by rw [hz2]; omega) (by omega)
 have et : ((Mq : Nat) : Int).toNat = Mq := by omega
 rw [et] at hmk;clear et;have hNM : (N : Int) - (n : Int) = (Mq : Int) := by omega
 obtain ⟨b2, o2, hbo, hcl⟩ := hr (by omega);have hb2 : b2 ≠ g := hsep (by omega) b2 o2 hbo;subst hbo;have htc := hcl (n - 1) (by omega);have hsc := hcl (n - 2) (by omega);have htb : ys.getD (n - 1) 0 < 18446744073709551616 := F64.get hy _;have hsb : ys.getD (n - 2) 0 < 18446744073709551616 := F64.get hy _;obtain ⟨top, etop⟩ : ∃ t, t = ys.getD (n - 1) 0 := ⟨_, rfl⟩;obtain ⟨sec, esec⟩ : ∃ t, t = ys.getD (n - 2) 0 := ⟨_, rfl⟩;rw [<- etop] at htc htop htb;rw [<- esec] at hsc hsb;have hg := hB.lt;have hsep' : ∀ b3 o3, some (⟨b2, o2, none⟩ : Addr) = some ⟨b3, o3, none⟩ -> b3 ≠ g := by intro b3 o3 h; cases h; exact hb2
 have HLT := hid hlt; have ETOP := hid etop; have ESEC := hid esec;obtain ⟨n1, en1⟩ : ∃ t, t = n - 1 := ⟨_, rfl⟩;obtain ⟨n2, en2⟩ : ∃ t, t = n - 2 := ⟨_, rfl⟩;rw [<- en1] at htc;rw [<- en2] at hsc;have i1 : (n : Int) - 1 = (n1 : Int) := by omega
 have i2 : (n : Int) - 2 = (n2 : Int) := by omega
 have j1 : (n1 : Int) < (n : Int) := by omega
 have j2 : (n2 : Int) < (n : Int) := by omega
 have EN1 := hid en1; have EN2 := hid en2; have HMN := hid hMN;clear en1 en2 hMN;clear hlt etop esec hcl;go_enter Tryz.func168, Tryz.ntmps168
 ((go_wp2_with fail); repeat (go_step3; go_wp2_with fail))
 go_quiet (fail)
 ((go_wp2_with fail); repeat (go_step3; go_wp2_with fail))
 obtain ⟨gq, egq⟩ : ∃ gq, gq = w.heap.size := ⟨_, rfl⟩;have EGQ := hid egq;have hgq : g ≠ gq := by omega
 have hb2q : b2 < gq := by
  have : b2 < w.heap.size := World.block_lt_of_cell? w _ htc;omega
 go_loopw [9] (fun i wr => ∃ (k : Nat) (qs cur : List Nat), k <= Mq /\ i = .int .i64 ((k : Int) - 1) /\ Blk wr w.heap.size qs /\ qs.length = Mq /\ F64 qs /\ Blk wr g cur /\ cur.length = N /\ F64 cur /\ w.grownBy wr (some g) /\ V cur + V ys * (18446744073709551616 ^ k * V (qs.drop k)) = V zs /\ V cur < V ys * 18446744073709551616 ^ k) (fun i _ => (intOf i + 1).toNat)
 case atStart =>
  refine ⟨Mq, List.replicate Mq 0, zs, by omega, by go_num, fC _ Mq, by simp, fun x hx => by simp at hx; omega, ?_, hN, hz, ?_, ?_, HLT.out⟩
  . exact (hB.drewN _).keep ((Below.refl _ _).alloc (Nat.le_refl _) _)
  . exact aB (cZ _ _ _) (World.grownBy_alloc _ _ _)
  . rw [List.drop_of_length_le (by simp)]; simp [V, M.val]
 case round =>
  obtain ⟨k, qs, cur, hk, rfl, hBq, hql, hqf, hBc, hcl, hcf, hgr, hI, hI2⟩ := hrel
  by_cases hk0 : 0 < k
  . obtain ⟨p, rfl⟩ : ∃ k', k = k' + 1 := ⟨k - 1, by omega⟩;have e1 : (((p + 1 : Nat) : Int) - 1) = (p : Int) := by omega
    rw [e1];clear hmk;have hpN : (p : Int) + (n : Int) + 1 <= (N : Int) := by have := HMN.out; omega
    have hpN' : p + n + 1 <= N := by omega
    have hpM : (p : Int) < (Mq : Int) := by omega
    have hp0 : (0 : Int) <= (p : Int) := by omega
    obtain ⟨S, w0, d0, W, eW, eS, hWS, hSb, hW3, hw0, hD, hd0, hWlt, hwt, hdr⟩ : ∃ S w0 d0 W : Nat, W = V (M.seg cur p (n + 1)) /\ S = V (M.seg cur p n) /\ W = S + 18446744073709551616 ^ n * cur.getD (p + n) 0 /\ S < 18446744073709551616 ^ n /\
     W = ((cur.getD (p + n) 0 * 18446744073709551616 + cur.getD (p + n1) 0) * 18446744073709551616 + cur.getD (p + n2) 0) * 18446744073709551616 ^ n2 + w0 /\ w0 < 18446744073709551616 ^ n2 /\
     V ys = (top * 18446744073709551616 + sec) * 18446744073709551616 ^ n2 + d0 /\ d0 < 18446744073709551616 ^ n2 /\ W < V ys * 18446744073709551616 /\ cur.getD (p + n) 0 <= top /\ V (cur.drop (p + (n + 1))) = 0 := by
     have h1 := EN1.out; have h2 := EN2.out; have h3 := ETOP.out; have h4 := ESEC.out;obtain rfl : n = n2 + 2 := by omega
     obtain rfl : n1 = n2 + 1 := by omega
     rw [h3, h4];exact M.BR (by omega) cur ys p n2 N hcf hy hcl hm hpN' hI2
    have hc0 := hBc.cell (p + n) (by omega);have hc1 := hBc.cell (p + n1) (by omega);have hc2 := hBc.cell (p + n2) (by omega);have hf0 := hBc.frozen (p + n);have b0 : cur.getD (p + n) 0 < 18446744073709551616 := F64.get hcf _;have b1 : cur.getD (p + n1) 0 < 18446744073709551616 := F64.get hcf _;have b2' : cur.getD (p + n2) 0 < 18446744073709551616 := F64.get hcf _;obtain ⟨wn, ewn⟩ : ∃ x, x = cur.getD (p + n) 0 := ⟨_, rfl⟩;obtain ⟨wn1, ewn1⟩ : ∃ x, x = cur.getD (p + n1) 0 := ⟨_, rfl⟩;obtain ⟨wn2, ewn2⟩ : ∃ x, x = cur.getD (p + n2) 0 := ⟨_, rfl⟩;rw [<- ewn] at hc0 b0 hwt hWS;rw [<- ewn1] at hc1 b1;rw [<- ewn2] at hc2 b2';rw [<- ewn, <- ewn1, <- ewn2] at hW3;have hcq := hBq.cell p (by omega);have hfq := hBq.frozen p;obtain ⟨qv, eqv⟩ : ∃ x, x = qs.getD p 0 := ⟨_, rfl⟩;rw [<- eqv] at hcq;have HI := hid hI; have HI2 := hid hI2; have HBc := hid hBc; have HBq := hid hBq; have HGR := hid hgr;have EW := hid eW; have ES := hid eS; have HWS := hid hWS; have HW3 := hid hW3; have HD := hid hD; have HWL := hid hWlt; have HDR := hid hdr; have HSb := hid hSb; have Hw0 := hid hw0; have Hd0 := hid hd0;have EWN := hid ewn;clear hI hI2 hBc hBq hgr eW eS hWS hW3 hD hWlt hdr hSb hw0 hd0 ewn ewn1 ewn2 eqv;have hln : p + n + 1 - p = n + 1 := by omega
    have k0 : (n : Int) < ((n + 1 : Nat) : Int) := by omega
    have k1 : (n1 : Int) < ((n + 1 : Nat) : Int) := by omega
    have k2 : (n2 : Int) < ((n + 1 : Nat) : Int) := by omega
    obtain ⟨hes1, hes2, hes3, hes4⟩ := CI wn wn1 top b1 htb htop hwt;obtain ⟨gs, egs⟩ : ∃ x, x = tW wn wn1 top := ⟨_, rfl⟩;obtain ⟨l', el'⟩ : ∃ x, x = oB wn wn1 top % 18446744073709551616 := ⟨_, rfl⟩;obtain ⟨sm, esm⟩ : ∃ x, x = decide (oB wn wn1 top < 18446744073709551616) := ⟨_, rfl⟩;have hEs := M.Es.start (s := sec) (x := wn2) hes1 hes2 hes3 b2' hes4;have HEs := hid hEs; have EGS := hid egs; have EL' := hid el'; have ESM := hid esm;clear hes1 hes2 hes3 hes4 hEs egs el' esm
    ((go_wp2_with fail); repeat (go_step3; go_wp2_with fail))
    go_quiet ((go_at_call 186; exact Calls.quiet_of (sQ wn wn1 top _ b1 htb htop hwt gs l' sm EGS.out EL'.out ESM.out)))
    generalize hwx : wr.drewN nq = wx;have hc0x : wx.cell? ⟨g, p + n, none⟩ = some (.int .u64 (wn : Int)) := by rw [<- hwx]; exact hc0
    have hc2x : wx.cell? ⟨g, p + n2, none⟩ = some (.int .u64 (wn2 : Int)) := by rw [<- hwx]; exact hc2
    have hf0x : wx.frozen? ⟨g, p + n, none⟩ = false := by rw [<- hwx]; exact hf0
    have hcqx : wx.cell? ⟨w.heap.size, p, none⟩ = some (.int .u64 (qv : Int)) := by rw [<- hwx]; exact hcq
    have hfqx : wx.frozen? ⟨w.heap.size, p, none⟩ = false := by rw [<- hwx]; exact hfq
    have HBcx : Hid (Blk wx g cur) := hid (by rw [<- hwx]; exact HBc.out.drewN _);have HBqx : Hid (Blk wx w.heap.size qs) := hid (by rw [<- hwx]; exact HBq.out.drewN _);have HGRx : Hid (w.grownBy wx (some g)) := hid (by rw [<- hwx]; exact aB HGR.out (cZ _ _ _));clear hwx HBc HBq HGR hc0 hc1 hc2 hf0 hcq hfq;go_upto_block 2 with fail
    repeat (go_step3; go_upto_block 2 with fail)
    simp only [hln]
    go_cut [11, 12, 13] (fun gx lx sx wc => ∃ (gg lc : Nat) (sb : Bool), gx = .int .u64 gg /\ lx = .int .u64 lc /\ sx = .bool sb /\ gg < 18446744073709551616 /\ gg * (top * 18446744073709551616 + sec) <= (wn * 18446744073709551616 + wn1) * 18446744073709551616 + wn2 /\ (∀ q, q < 18446744073709551616 -> q * (top * 18446744073709551616 + sec) <= (wn * 18446744073709551616 + wn1) * 18446744073709551616 + wn2 -> q <= gg) /\ wc = wx)
    case first =>
     ((go_wp2_with fail); repeat (go_step3; go_wp2_with fail))
     go_loopw [11, 12, 13] (fun gx lx sx wv => ∃ (gg l lc : Nat) (sb : Bool), gx = .int .u64 gg /\ lx = .int .u64 lc /\ sx = .bool sb /\ M.Es 18446744073709551616 top sec (wn * 18446744073709551616 + wn1) wn2 gg l /\ lc = l % 18446744073709551616 /\ sb = decide (l < 18446744073709551616) /\ wv = wx) (fun gx _ _ _ => (intOf gx).toNat)
     case atStart => exact ⟨gs, oB wn wn1 top, l', sm, rfl, rfl, rfl, by rw [EGS.out]; exact HEs.out, EL'.out, ESM.out, rfl⟩
     case round =>
      rename World => wv
      obtain ⟨gg, l, lc, sb, rfl, rfl, rfl, hEs, elc, esb, hwv⟩ := hrel;subst hwv;clear hc0x hcqx hf0x hfqx;have hggb : gg < 18446744073709551616 := hEs.lt
      by_cases hsm : l < 18446744073709551616
      . have e2 : sb = true := by rw [esb]; exact decide_eq_true hsm
        have e3 : l = lc := by rw [elc]; exact (Nat.mod_eq_of_lt hsm).symm
        subst e2 e3;clear elc esb;obtain ⟨hh, ehh⟩ : ∃ x : Nat, x = gg * sec / 18446744073709551616 := ⟨_, rfl⟩;obtain ⟨ll, ell⟩ : ∃ x : Nat, x = gg * sec % 18446744073709551616 := ⟨_, rfl⟩;have hsum : gg * sec = hh * 18446744073709551616 + ll := by omega
        have hllb : ll < 18446744073709551616 := by omega
        have EHH := hid ehh; have ELL := hid ell;clear ehh ell
        ((go_wp2_with fail); repeat (go_step3; go_wp2_with fail))
        refine (j4 gg sec _ hggb hsb hh ll EHH.out ELL.out).mono ?_;rintro e wm ⟨rfl, rfl⟩
        by_cases hA : hh < l
        . have hA' : (hh : Int) < (l : Int) := by omega
          have hle : gg * sec <= l * 18446744073709551616 + wn2 := by
           have : (hh + 1) * 18446744073709551616 <= l * 18446744073709551616 := Nat.mul_le_mul_right _ hA;omega
          clear hsum;have hfin := hEs.stop hle;have HF := hid hfin; have HEs' := hid hEs; clear hfin hEs hle
          ((go_wp2_with fail); repeat (go_step3; go_wp2_with fail))
          go_meet
          case rel => exact ⟨gg, _, true, rfl, rfl, rfl, HEs'.out.lt, HF.out, HEs'.out.ge, by first | rfl | trivial⟩
        . have hA' : ¬ (hh : Int) < (l : Int) := by omega
          by_cases hB : hh = l
          . have hB' : ((hh : Int) == (l : Int)) = true := by simp; omega
            by_cases hC : ll <= wn2
            . have hC' : (ll : Int) <= (wn2 : Int) := by omega
              have hle : gg * sec <= l * 18446744073709551616 + wn2 := by rw [hsum, hB]; omega
              clear hsum;have hfin := hEs.stop hle;have HF := hid hfin; have HEs' := hid hEs; clear hfin hEs hle
              ((go_wp2_with fail); repeat (go_step3; go_wp2_with fail))
              go_meet
              case rel => exact ⟨gg, _, true, rfl, rfl, rfl, HEs'.out.lt, HF.out, HEs'.out.ge, by first | rfl | trivial⟩
            . have hC' : ¬ (ll : Int) <= (wn2 : Int) := by omega
              have hgt : l * 18446744073709551616 + wn2 < gg * sec := by rw [hsum, hB]; omega
              clear hsum;obtain ⟨hg1, hEs2⟩ := hEs.down htb hsm hgt;obtain ⟨g', eg'⟩ : ∃ t : Nat, t = gg - 1 := ⟨_, rfl⟩;obtain ⟨lc', elc'⟩ : ∃ t : Nat, t = (l + top) % 18446744073709551616 := ⟨_, rfl⟩;have wg' : (gg : Int) - 1 = (g' : Int) := by omega
              have wl' : IntKind.u64.wrap ((l : Int) + (top : Int)) = (lc' : Int) := fA l top lc' elc'
              have hsd : decide (top <= lc') = decide (l + top < 18446744073709551616) := by
               congr 1; apply propext; omega
              rw [<- eg'] at hEs2;have HES2 := hid hEs2; have EG' := hid eg'; have ELC := hid elc'; have HSD := hid hsd;have hgb' : g' < 18446744073709551616 := hEs2.lt;clear hEs hEs2 eg' elc' hsd hgt
              ((go_wp2_with fail); repeat (go_step3; go_wp2_with fail))
              go_roundw
              case rel =>
               exact ⟨g', l + top, lc', _, rfl, rfl, rfl, HES2.out, ELC.out, HSD.out, by first | rfl | trivial⟩
              case measure => simp [intOf]; have := EG'.out; omega
          . have hB' : ((hh : Int) == (l : Int)) = false := by simp; omega
            have hgt : l * 18446744073709551616 + wn2 < gg * sec := by
             have : (l + 1) * 18446744073709551616 <= hh * 18446744073709551616 := Nat.mul_le_mul_right _ (by omega);omega
            clear hsum;obtain ⟨hg1, hEs2⟩ := hEs.down htb hsm hgt;obtain ⟨g', eg'⟩ : ∃ t : Nat, t = gg - 1 := ⟨_, rfl⟩;obtain ⟨lc', elc'⟩ : ∃ t : Nat, t = (l + top) % 18446744073709551616 := ⟨_, rfl⟩;have wg' : (gg : Int) - 1 = (g' : Int) := by omega
            have wl' : IntKind.u64.wrap ((l : Int) + (top : Int)) = (lc' : Int) := fA l top lc' elc'
            have hsd : decide (top <= lc') = decide (l + top < 18446744073709551616) := by
             congr 1; apply propext; omega
            rw [<- eg'] at hEs2;have HES2 := hid hEs2; have EG' := hid eg'; have ELC := hid elc'; have HSD := hid hsd;have hgb' : g' < 18446744073709551616 := hEs2.lt;clear hEs hEs2 eg' elc' hsd hgt
            ((go_wp2_with fail); repeat (go_step3; go_wp2_with fail))
            go_roundw
            case rel =>
             exact ⟨g', l + top, lc', _, rfl, rfl, rfl, HES2.out, ELC.out, HSD.out, by first | rfl | trivial⟩
            case measure => simp [intOf]; have := EG'.out; omega
      . have e2 : sb = false := by rw [esb]; exact decide_eq_false hsm
        subst e2;have hfin := hEs.wide hsb (by omega);have HF := hid hfin; have HEs' := hid hEs; clear hfin hEs
        ((go_wp2_with fail); repeat (go_step3; go_wp2_with fail))
        go_meet
        case rel => exact ⟨gg, lc, false, rfl, rfl, rfl, HEs'.out.lt, HF.out, HEs'.out.ge, by first | rfl | trivial⟩
    case rest =>
     obtain ⟨gg, lc, sb, rfl, rfl, rfl, hggb, hgle, hgge, hwc⟩ := hcut;subst hwc;have hBs : Blk (wc.setCell ⟨w.heap.size, p, none⟩ (.int .u64 (gg : Int))) g cur := HBcx.out.set_other _ (by simp; omega) _;have hqs : Blk (wc.setCell ⟨w.heap.size, p, none⟩ (.int .u64 (gg : Int))) w.heap.size (qs.set p gg) := HBqx.out.set _ _ _ rfl;have hgs : w.grownBy (wc.setCell ⟨w.heap.size, p, none⟩ (.int .u64 (gg : Int))) (some g) := mD HGRx.out _ _ _ (Nat.le_refl _);have HGE := hid hgge; have HGLE := hid hgle;have HBs := hid hBs; have HQs := hid hqs; have HGs := hid hgs;clear hgge hgle hBs hqs hgs
     ((go_wp2_with fail); repeat (go_step3; go_wp2_with fail))
     have hBs := HBs.out; have hqs := HQs.out; have hgs := HGs.out;generalize wc.setCell ⟨w.heap.size, p, none⟩ (.int .u64 (gg : Int)) = ws at hBs hqs hgs |-;clear HBs HQs HGs HBcx HBqx HGRx hc0x hc2x hf0x hcqx hfqx
     refine (o9 g p n (N - p) _ _ d gg cur ys _ (fun _ => rfl) hBs hcf (by omega) (by omega) hm hy hggb (hr.other hgs hsep') hsep).mono ?_
     rintro e w1 ⟨c, rfl, hg1, hcb, cur1, hB1, hW1, hv1⟩;have hq1 : Blk w1 w.heap.size (qs.set p gg) := hqs.grown hg1 (by simp; omega);have hgr1 : w.grownBy w1 (some g) := aB hgs hg1;have hl1 : cur1.length = N := by rw [hW1.len]; exact hcl
     have hcz : cur1.getD (p + n) 0 = wn := by rw [hW1.out (p + n) (by omega)]; exact EWN.out.symm
     have hc0' := hB1.cell (p + n) (by omega);rw [hcz] at hc0';have hf0' := hB1.frozen (p + n);obtain ⟨z, ez⟩ : ∃ z : Nat, z = (wn + 18446744073709551616 - c) % 18446744073709551616 := ⟨_, rfl⟩;have wz := iD wn c z ez (by omega);have hzb : z < 18446744073709551616 := by omega
     have hB2 : Blk (w1.setCell ⟨g, p + n, none⟩ (.int .u64 (z : Int))) g (cur1.set (p + n) z) := hB1.set _ _ _ rfl;have hq2 : Blk (w1.setCell ⟨g, p + n, none⟩ (.int .u64 (z : Int))) w.heap.size (qs.set p gg) := hq1.set_other _ (by simp; omega) _;have hgr2 : w.grownBy (w1.setCell ⟨g, p + n, none⟩ (.int .u64 (z : Int))) (some g) := aB hgr1 (aE _ _ _ _)
     have hW2 : M.Wrote 18446744073709551616 cur p (n + 1) (cur1.set (p + n) z) := by
      refine (M.Wrote.set ⟨hW1.len, hW1.lt, fun j hj => hW1.out j (by omega)⟩ n z (by omega) hzb)
     have hv2 : V (M.seg (cur1.set (p + n) z) p (n + 1)) = V (M.seg cur1 p n) + 18446744073709551616 ^ n * z := by
      unfold V;rw [M.dV, M.cJ _ _ _ (by omega)]
      congr 2
      unfold M.seg;rw [List.drop_set, if_neg (by omega), List.take_set_of_le (by omega)]
     have hS1 : V (M.seg cur1 p n) < 18446744073709551616 ^ n := by
      have h := M.fU (B := 18446744073709551616) (by omega) (M.seg cur1 p n) (M.sJ hW1.lt p n)
      rwa [M.dF _ _ _ (by omega)] at h
     have hge : ∀ q, q * V ys <= W -> q <= gg := by
      intro q hq;refine HGE.out q ?_ ?_
      . have h1 : q * V ys < 18446744073709551616 * V ys := by have := HWL.out; rw [Nat.mul_comm 18446744073709551616]; omega
        exact Nat.lt_of_mul_lt_mul_right h1
      . have h1 := HD.out;have h2 := HW3.out;rw [h1, h2] at hq;exact M.EG Hw0.out hq
     have hDp : 0 < V ys := by
      have h1 := HD.out;have h2 : 0 < 18446744073709551616 ^ n2 := Nat.pow_pos (by omega);have h3 : 1 * 18446744073709551616 ^ n2 <= (top * 18446744073709551616 + sec) * 18446744073709551616 ^ n2 := Nat.mul_le_mul_right _ (by omega);omega
     have hqd : ∀ q, V ((qs.set p q).drop p) = q + 18446744073709551616 * V (qs.drop (p + 1)) := by
      intro q;rw [pH _ _ (by simp; omega), M.cJ _ _ _ (by omega), List.drop_set_of_lt (by omega)]
     have HB1 := hid hB1; have HQ1 := hid hq1; have HGR1 := hid hgr1; have HB2 := hid hB2; have HQ2 := hid hq2; have HGR2 := hid hgr2; have HV1 := hid hv1; have HV2 := hid hv2; have HGE2 := hid hge; have HDp := hid hDp; have HQD := hid hqd; have HS1 := hid hS1; have EZ := hid ez;clear hB1 hq1 hgr1 hB2 hq2 hgr2 hv1 hv2 hge hDp hqd hS1 ez hBs hqs hgs hg1
     by_cases hfit : c <= wn
     . have hfit' : (c : Int) <= (wn : Int) := by omega
       ((go_wp2_with fail); repeat (go_step3; go_wp2_with fail))
       simp only [Exit.noGoto_exit, Exit.inBlock, Exit.then]
       ((go_wp2_with fail); repeat (go_step3; go_wp2_with fail))
       go_roundw
       case rel =>
        have R : ∃ (k : Nat) (qs cur : List Nat), k <= Mq /\ Value.int .i64 ((p : Int) - 1) = .int .i64 ((k : Int) - 1) /\ Blk (w1.setCell ⟨g, p + n, none⟩ (.int .u64 (z : Int))) w.heap.size qs /\ qs.length = Mq /\ F64 qs /\ Blk (w1.setCell ⟨g, p + n, none⟩ (.int .u64 (z : Int))) g cur /\ cur.length = N /\ F64 cur /\ w.grownBy (w1.setCell ⟨g, p + n, none⟩ (.int .u64 (z : Int))) (some g) /\ V cur + V ys * (18446744073709551616 ^ k * V (qs.drop k)) = V zs /\ V cur < V ys * 18446744073709551616 ^ k := by
         have hp := M.wX (z := wn) (Bn := 18446744073709551616 ^ n) (c := c) HWS.out (by rw [ES.out]; exact HV1.out) hfit HGE2.out HDp.out (q := 0);have ez : z = wn - c := by rw [EZ.out]; omega
         rw [<- ez, <- HV2.out] at hp;obtain ⟨h1, h2⟩ := M.vM (B := 18446744073709551616) (by omega) cur (cur1.set (p + n) z) p (n + 1) N (V ys) (V (qs.drop (p + 1))) (V zs) W _ gg hcl (by omega) hW2 EW.out rfl HDR.out hp.1 hp.2 HI.out;exact ⟨p, qs.set p gg, _, by omega, rfl, HQ2.out, by rw [List.length_set]; exact hql, F64.set hqf p hggb, HB2.out, by rw [List.length_set]; exact hl1, hW2.lt, HGR2.out, by rw [HQD.out]; exact h1, h2⟩
        first | exact R | ((repeat apply Exists.intro); exact ⟨R, rfl⟩)
       case measure => simp [intOf] <;> omega
     . have hfit' : ¬ (c : Int) <= (wn : Int) := by omega
       have hcq2 := HQ2.out.cell p (by rw [List.length_set]; omega);rw [M.cJ _ _ _ (by omega)] at hcq2;have hfq2 := HQ2.out.frozen p
       have hgg1 : 1 <= gg := by
        rcases Nat.eq_zero_or_pos gg with h | h
        . have h1 := HV1.out;rw [h, Nat.zero_mul, Nat.add_zero] at h1;have h2 := HS1.out;have h3 : 1 * 18446744073709551616 ^ n <= c * 18446744073709551616 ^ n := Nat.mul_le_mul_right _ (by omega);omega
        . exact h
       obtain ⟨m, em⟩ : ∃ m : Nat, m = gg - 1 := ⟨_, rfl⟩;have wm : (gg : Int) - 1 = (m : Int) := by omega
       have hmb : m < 18446744073709551616 := by omega
       have hB3 : Blk ((w1.setCell ⟨g, p + n, none⟩ (.int .u64 (z : Int))).setCell ⟨w.heap.size, p, none⟩ (.int .u64 (m : Int))) g (cur1.set (p + n) z) := HB2.out.set_other _ (by simp; omega) _;have hq3 : Blk ((w1.setCell ⟨g, p + n, none⟩ (.int .u64 (z : Int))).setCell ⟨w.heap.size, p, none⟩ (.int .u64 (m : Int))) w.heap.size ((qs.set p gg).set p m) := HQ2.out.set _ _ _ rfl;rw [List.set_set] at hq3;have hgr3 : w.grownBy ((w1.setCell ⟨g, p + n, none⟩ (.int .u64 (z : Int))).setCell ⟨w.heap.size, p, none⟩ (.int .u64 (m : Int))) (some g) := mD HGR2.out _ _ _ (Nat.le_refl _);have HB3 := hid hB3; have HQ3 := hid hq3; have HGR3 := hid hgr3; have EM := hid em;clear hB3 hq3 hgr3 em
       ((go_wp2_with fail); repeat (go_step3; go_wp2_with fail))
       have hB3 := HB3.out; have hq3 := HQ3.out; have hgr3 := HGR3.out;generalize (w1.setCell ⟨g, p + n, none⟩ (.int .u64 (z : Int))).setCell ⟨w.heap.size, p, none⟩ (.int .u64 (m : Int)) = ws at hB3 hq3 hgr3 |-;clear HB3 HQ3 HGR3 hcq2 hfq2 hc0' hf0';refine (CF g p (n + 1) (N - p) _ n d (cur1.set (p + n) z) ys _ hB3 hW2.lt (by rw [List.length_set]; omega) (by omega) hm (by omega) hy (hr.other hgr3 hsep') hsep).mono ?_;rintro e w4 ⟨rfl, hg4, cur3, c3, hB4, hW4, hc3, hv4⟩;have hq4 : Blk w4 w.heap.size (qs.set p m) := hq3.grown hg4 (by simp; omega);have hgr4 : w.grownBy w4 (some g) := aB hgr3 hg4
       have hW5 : M.Wrote 18446744073709551616 cur p (n + 1) cur3 := ⟨by rw [hW4.len, hW2.len], hW4.lt, fun j hj => by rw [hW4.out j hj, hW2.out j hj]⟩
       have HB4 := hid hB4; have HQ4 := hid hq4; have HGR4 := hid hgr4; have HV4 := hid hv4;clear hB4 hq4 hgr4 hv4 hB3 hq3 hgr3 hg4
       ((go_wp2_with fail); repeat (go_step3; go_wp2_with fail))
       simp only [Exit.noGoto_normal, Exit.inBlock, Exit.then]
       ((go_wp2_with fail); repeat (go_step3; go_wp2_with fail))
       go_roundw
       case rel =>
        have R : ∃ (k : Nat) (qs cur : List Nat), k <= Mq /\ Value.int .i64 ((p : Int) - 1) = .int .i64 ((k : Int) - 1) /\ Blk w4 w.heap.size qs /\ qs.length = Mq /\ F64 qs /\ Blk w4 g cur /\ cur.length = N /\ F64 cur /\ w.grownBy w4 (some g) /\ V cur + V ys * (18446744073709551616 ^ k * V (qs.drop k)) = V zs /\ V cur < V ys * 18446744073709551616 ^ k := by
         have hS2 : V (M.seg cur3 p (n + 1)) < 18446744073709551616 ^ n * 18446744073709551616 := by
          have h := M.fU (B := 18446744073709551616) (by omega) (M.seg cur3 p (n + 1)) (M.sJ hW5.lt p (n + 1))
          rwa [M.dF _ _ _ (by rw [hW5.len]; omega), Nat.pow_succ] at h
         have hDB : V ys <= 18446744073709551616 ^ n := by
          have h := M.fU (B := 18446744073709551616) (by omega) ys hy;rw [hm] at h;exact Nat.le_of_lt h
         have ez : z = wn + 18446744073709551616 - c := by rw [EZ.out]; exact Nat.mod_eq_of_lt (by omega)
         have hv4 := HV4.out;rw [HV2.out, ez, Nat.pow_succ] at hv4
         have hgm : (gg - 1) * V ys <= W := by
          rw [HD.out, HW3.out];refine M.DT Hd0.out (by have : 9223372036854775808 * 18446744073709551616 <= top * 18446744073709551616 := Nat.mul_le_mul_right _ htop; omega) ?_;rw [Nat.sub_add_cancel hgg1];exact HGLE.out
         have hp := M.zD (B := 18446744073709551616) (Bn := 18446744073709551616 ^ n) (c := c) HWS.out (by rw [ES.out]; exact HV1.out) (by omega) (by omega) HSb.out HS1.out hgm hgg1 hv4 hS2 hDB HDp.out;rw [<- EM.out] at hp;obtain ⟨h1, h2⟩ := M.vM (B := 18446744073709551616) (by omega) cur cur3 p (n + 1) N (V ys) (V (qs.drop (p + 1))) (V zs) W _ m hcl (by omega) hW5 EW.out rfl HDR.out hp.1 hp.2 HI.out;exact ⟨p, qs.set p m, _, by omega, rfl, HQ4.out, by rw [List.length_set]; exact hql, F64.set hqf p hmb, HB4.out, by rw [hW5.len]; exact hcl, hW5.lt, HGR4.out, by rw [HQD.out]; exact h1, h2⟩
        first | exact R | ((repeat apply Exists.intro); exact ⟨R, rfl⟩)
       case measure => simp [intOf] <;> omega
  . have e : k = 0 := by omega
    subst e;have hge : ¬ (0 : Int) <= ((0 : Nat) : Int) - 1 := by omega
    have HBc := hid hBc; have HBq := hid hBq; have HGR := hid hgr; have HI := hid hI; have HI2 := hid hI2;clear hBc hBq hgr hI hI2
    ((go_wp2_with fail); repeat (go_step3; go_wp2_with fail))
    go_ret;refine ⟨rfl, HGR.out, qs, cur, HBq.out, hql, hqf, ?_, HBc.out, hcl, hcf, ?_⟩
    . have h1 := HI.out;have h2 := HI2.out;rw [Nat.pow_zero, Nat.mul_one] at h2;rw [Nat.pow_zero, Nat.one_mul, List.drop_zero] at h1;rw [<- h1, Nat.add_mul_div_left _ _ (by omega), Nat.div_eq_of_lt h2, Nat.zero_add]
    . have h1 := HI.out;have h2 := HI2.out;rw [Nat.pow_zero, Nat.mul_one] at h2;rw [<- h1, Nat.add_mul_mod_self_left, Nat.mod_eq_of_lt h2]

theorem oC (ao bo : Option Addr) (n m c d : Nat) (a b : Nat) (w : World) (hl : (L a).length = n) (hm : (L b).length = m) (hn : n <= 1048576) (hn2 : m <= 1048576) (hr : Rd w ao (L a)) (hr2 : Rd w bo (L b)) :
 Calls Tryz.prog 99 #[.slice ao n c, .slice bo m d] w fun e w' => Ret w w' e (L (a * b)) := by
 obtain ⟨i0, hi, hz0, hz1, hz2⟩ := info_parts Tryz.infoU
 have hmk := fun (wx : World) => run_make (P := Tryz.prog) wx 87 25 i0 (.int .u64 0) Tryz.underlying87 hi hz0 .i64 .i64 ((n + m : Nat) : Int) ((n + m : Nat) : Int) (by omega) (Int.le_refl _) (by rw [hz2]; omega) (by omega)
 have es : ((n + m : Nat) : Int) = (n : Int) + (m : Int) := by omega
 rw [es] at hmk;have et : ((n : Int) + (m : Int)).toNat = n + m := by omega
 rw [et] at hmk;clear es et;have fb := jO b
 have hsepA : 0 < (L a).length -> ∀ b2 o2, ao = some ⟨b2, o2, none⟩ -> b2 ≠ w.heap.size := by
  intro hp b2 o2 e;obtain ⟨b3, o3, e3, hc⟩ := hr hp;rw [e] at e3;simp only [Option.some.injEq, Addr.mk.injEq] at e3;have := World.block_lt_of_cell? w _ (hc 0 hp)
  simp at this
  omega
 have HSep := hid hsepA; clear hsepA;go_enter Tryz.func99, Tryz.ntmps99;go_wp2_with fail
 go_loopw [16] (fun i wr => ∃ (k : Nat) (cur : List Nat), k <= m /\ i = .int .i64 k /\ Blk wr w.heap.size cur /\ cur.length = n + m /\ F64 cur /\ (∀ j, n + k <= j -> cur.getD j 0 = 0) /\ V cur = a * V ((L b).take k) /\ Below w.heap.size w wr) (fun i _ => m - (intOf i).toNat)
 case atStart =>
  refine ⟨0, List.replicate (n + m) 0, by omega, rfl, fC w (n + m), by simp, fun x hx => by simp at hx; omega, fun j _ => ?_, ?_, (Below.refl _ _).alloc (Nat.le_refl _) _⟩
  . rw [List.getD_eq_getElem?_getD, List.getElem?_replicate]; split <;> rfl
  . unfold V; rw [M.dM]; simp [M.val]
 case round =>
  obtain ⟨k, cur, hk, rfl, hBk, hcl, hcf, hz, hv, hbl⟩ := hrel;clear hmk;have HZ := hid hz; clear hz;have HV := hid hv; clear hv;have HCL := hid hcl; clear hcl
  by_cases hlt : k < m
  . obtain ⟨b2, o2, hbo, hcc⟩ := (hr2.below hbl) (by omega);have hck := hcc k (by omega);clear hcc;have hy1 := fb.get k;obtain ⟨y, hyy⟩ : ∃ y : Nat, y = (L b).getD k 0 := ⟨_, rfl⟩;rw [<- hyy] at hck hy1;have HY := hid hyy; clear hyy;have hlt' : (k : Int) < (m : Int) := by omega
    have hne : ¬ n + m = k := by omega
    have hlt3 : (k : Int) + (n : Int) < ((n + m : Nat) : Int) := by omega
    go_wp2_with fail
    refine (pN w.heap.size k n (n + m - k) _ ao c y cur (L a) _ (fun _ => rfl) hBk hcf (by have := HCL.out; omega) (by omega) hl (jO a) hy1 (hr.below hbl) HSep.out).mono ?_
    rintro e w1 ⟨cc, rfl, hg1, hcc1, cur1, hB1, hW1, hv1⟩
    have hb1 : Below w.heap.size w w1 := hbl.grown hg1 hbl.size (fun _ h => by cases h; exact Nat.le_refl _)
    have hl1 : cur1.length = n + m := by rw [hW1.len]; exact HCL.out
    have hcs := hB1.cell (k + n) (by omega);have hfs := hB1.frozen (k + n);have hz1 : cur1.getD (k + n) 0 = 0 := by rw [hW1.out (k + n) (by omega)]; exact HZ.out _ (by omega)
    rw [hz1] at hcs;have HB1 := hid hB1; clear hB1;have HV1 := hid hv1; clear hv1;have HL1 := hid hl1; clear hl1;have HZ1 := hid hz1; clear hz1;clear hck hBk hg1;go_wp2_with fail;go_roundw
    case rel =>
     have R : ∃ (k1 : Nat) (cur2 : List Nat), k1 <= m /\ Value.int .i64 ((k : Int) + 1) = .int .i64 k1 /\ Blk (w1.setCell ⟨w.heap.size, k + n, none⟩ (.int .u64 (cc : Int))) w.heap.size cur2 /\ cur2.length = n + m /\ F64 cur2 /\ (∀ j, n + k1 <= j -> cur2.getD j 0 = 0) /\ V cur2 = a * V ((L b).take k1) /\ Below w.heap.size w (w1.setCell ⟨w.heap.size, k + n, none⟩ (.int .u64 (cc : Int))) := by
      refine ⟨k + 1, cur1.set (k + n) cc, by omega, by go_num, HB1.out.set _ _ _ rfl, by rw [List.length_set]; exact HL1.out, ?_, ?_, ?_, hb1.setCell (Nat.le_refl _) _⟩
      . intro x hx;rcases List.mem_or_eq_of_mem_set hx with hx | rfl
        . exact hW1.lt x hx
        . exact hcc1
      . intro j hj;rw [M.cH _ _ _ _ (by omega), hW1.out j (by omega)];exact HZ.out j (by omega)
      . have e1 := M.qO hW1 (by have := HCL.out; omega);have e2 := M.iU 18446744073709551616 (k + n) cur1 cc (by have := HL1.out; omega);rw [HZ1.out, Nat.mul_zero, Nat.add_zero, Nat.pow_add] at e2;unfold V at *;rw [M.aK, <- HY.out];refine M.IB HV.out e1 ?_ e2;have := HV1.out;rw [show M.val 18446744073709551616 (L a) = a from V_L a] at this;exact this
     first | exact R | ((repeat apply Exists.intro); exact ⟨R, rfl⟩) | ((repeat apply Exists.intro); exact ⟨R, by rw [hbo]⟩)
    case measure => simp [intOf]; omega
  . have e : k = m := by omega
    subst e;go_wp2_with fail
    have hfin : V cur = a * b := by
     have := HV.out
     rwa [List.take_of_length_le (by omega), V_L] at this
    refine (fP _ (n + k) (n + k) cur _ HCL.out (Nat.le_refl _) (by omega) hcf hBk.rd0).mono ?_;rw [hfin];rintro e w3 ⟨rfl, rfl⟩;go_wp2_with fail;go_ret;have h1 := qP cur hcf;have h2 := pB cur hcf;rw [hfin] at h1 h2;have h3 := hBk.ownPre (base := w.heap.size) (Nat.le_refl _) h1 HCL.out (by unfold maxLen; omega);rw [h2] at h3;exact ⟨_, _, rfl, h3, hbl⟩

theorem IG (x : Nat) (w : World) (h : x < 18446744073709551616) (b : Nat) (hb : b = aA x) :
 Calls Tryz.prog 132 #[.int .u64 (x : Int)] w fun e w' => e = .returned (.int .i64 (b : Int)) /\ w' = w := by
 have HB := hid hb; clear hb;go_enter Tryz.func132, Tryz.ntmps132;go_wp2_with fail;refine (nF x _ h b HB.out).mono ?_;rintro e w1 ⟨rfl, rfl⟩;go_wp2_with fail;go_ret;exact ⟨rfl, rfl⟩

structure Own (w : World) (lo hi : Nat) (ao : Option Addr) (cap : Nat) (r : List Nat) : Prop where
 row : w.ownsRow 0 25 1 (.slice ao r.length cap) r.length (U r)
 place : ∀ k, (Value.slice ao r.length cap).ownBlock = some k -> lo <= k /\ k < hi

theorem Own.of {w : World} {base : Nat} {ao : Option Addr} {cap : Nat} {r : List Nat} (h : w.ownsRow base 25 1 (.slice ao r.length cap) r.length (U r)) : Own w base w.heap.size ao cap r :=
 ⟨aP h (Nat.zero_le _), fun k hk => h.lt k hk⟩

theorem Own.rd {w : World} {lo hi : Nat} {ao : Option Addr} {cap : Nat} {r : List Nat} (h : Own w lo hi ao cap r) : Rd w ao r := Rd.own h.row

theorem Own.keep {w w' : World} {lo hi : Nat} {ao : Option Addr} {cap : Nat} {r : List Nat} (h : Own w lo hi ao cap r) (hb : Below w.heap.size w w') : Own w' lo hi ao cap r := ⟨eL h.row hb, h.place⟩

theorem Blk.toOwn {w : World} {g : Nat} {zs : List Nat} (h : Blk w g zs) (hm : zs.length <= 4194304) : Own w g (g + 1) (some ⟨g, 0, none⟩) zs.length zs :=
 ⟨h.own (Nat.zero_le _) rfl (by unfold maxLen; omega), fun k hk => by simp [Value.ownBlock] at hk; omega⟩

def FG (w w' : World) (e : Ending) (q r : List Nat) : Prop :=
 ∃ ao ca bo cb mid, e = .returned (.tuple #[.slice ao q.length ca, .slice bo r.length cb]) /\ w.heap.size <= mid /\ mid <= w'.heap.size /\ Own w' w.heap.size mid ao ca q /\ Own w' mid w'.heap.size bo cb r /\ Below w.heap.size w w'

theorem Own.widen {w : World} {lo hi lo' hi' : Nat} {ao : Option Addr} {cap : Nat} {r : List Nat} (h : Own w lo hi ao cap r) (h1 : lo' <= lo) (h2 : hi <= hi') : Own w lo' hi' ao cap r :=
 ⟨h.row, fun k hk => by have := h.place k hk; omega⟩

theorem Own.nil (w : World) (lo hi : Nat) : Own w lo hi none 0 [] := ⟨World.ownsRow_nil _ _ _ _, fun k hk => by simp [Value.ownBlock] at hk⟩

theorem Blk.ownTrim {w : World} {g : Nat} {zs : List Nat} (h : Blk w g zs) (hz : F64 zs) (hm : zs.length <= 4194304) : Own w g (g + 1) (some ⟨g, 0, none⟩) zs.length (L (V zs)) := by
 have h3 := h.ownPre (base := 0) (c := zs.length) (Nat.zero_le _) (qP _ hz) rfl (by unfold maxLen; omega);rw [pB _ hz] at h3
 exact ⟨h3, fun k hk => by simp [Value.ownBlock] at hk; omega⟩

theorem L7 (b : Nat) (h : (L b).length = 1) : L b = [b] := by
 have h1 : b < 18446744073709551616 ^ 1 := tD b 1 (by omega)
 have hp : 0 < b := by
  rcases Nat.eq_zero_or_pos b with rfl | hp
  . have : L 0 = [] := M.aG _;rw [this] at h; simp at h
  . exact hp
 unfold L;rw [M.aR (by omega) hp, Nat.mod_eq_of_lt (by omega), Nat.div_eq_of_lt (by omega), M.aG]

theorem BS (ao bo : Option Addr) (n m c d : Nat) (a b : Nat) (w : World) (hl : (L a).length = n) (hm : (L b).length = m) (hab : a < b) (hn : n <= 1048576) (hn2 : m <= 1048576) (hr : Rd w ao (L a)) (hr2 : Rd w bo (L b)) :
 Calls Tryz.prog 148 #[.slice ao n c, .slice bo m d] w fun e w' => FG w w' e (L (a / b)) (L (a % b)) := by
 rw [Nat.div_eq_of_lt hab, Nat.mod_eq_of_lt hab, show L 0 = [] from M.aG _];have hcmp := tO hab;go_enter Tryz.func148, Tryz.ntmps148;go_wp2_with fail;refine (fM ao bo n m c d a b _ hl hm (by omega) (by omega) hr hr2).mono ?_;rintro e w1 ⟨rfl, q1, rfl⟩;have hb1 := below_drewN (Below.refl w.heap.size w) q1;generalize w.drewN q1 = w1 at hb1 |-;go_wp2_with fail;refine (nH ao n c 0 (L a) _ hl (by omega) (by omega) (hr.below hb1)).mono ?_;rw [List.replicate_zero, List.append_nil];rintro e w2 ⟨rfl, hB2, hb2⟩;go_wp2_with fail
 go_ret2
 have ho := hB2.toOwn (by omega);rw [hl] at ho;refine ⟨none, 0, some ⟨w1.heap.size, 0, none⟩, n, w1.heap.size, ?_, hb1.size, hb2.size, Own.nil _ _ _, ho.widen (Nat.le_refl _) (by have := hB2.lt; omega), hb1.trans (hb2.mono hb1.size)⟩;rw [hl]
 rfl

theorem xD (ao bo : Option Addr) (n c d : Nat) (a b : Nat) (w : World) (hl : (L a).length = n) (hm : (L b).length = 1) (hab : b <= a) (hn : n <= 1048576) (hr : Rd w ao (L a)) (hr2 : Rd w bo (L b)) :
 Calls Tryz.prog 148 #[.slice ao n c, .slice bo 1 d] w fun e w' => FG w w' e (L (a / b)) (L (a % b)) := by
 have hcmp := jK hab;have hb1 := L7 b hm;have hbb : b < 18446744073709551616 := by have := tD b 1 (by omega); omega
 have hb0 : 0 < b := by
  rcases Nat.eq_zero_or_pos b with rfl | hp
  . rw [show L 0 = [] from M.aG _] at hm; simp at hm
  . exact hp
 obtain ⟨qq, eqq⟩ : ∃ x, x = a / b := ⟨_, rfl⟩;obtain ⟨rr, err⟩ : ∃ x, x = a % b := ⟨_, rfl⟩;have hrr : rr < 18446744073709551616 := by rw [err]; exact Nat.lt_trans (Nat.mod_lt _ hb0) hbb
 rw [<- eqq, <- err];have EQ := hid eqq; have ER := hid err;clear eqq err;go_enter Tryz.func148, Tryz.ntmps148;go_wp2_with fail;refine (fM ao bo n 1 c d a b _ hl hm (by omega) (by omega) hr hr2).mono ?_;rintro e w1 ⟨rfl, q1, rfl⟩;have hbl1 := below_drewN (Below.refl w.heap.size w) q1;generalize w.drewN q1 = w1 at hbl1 |-;go_wp2_with fail;refine (nH ao n c 0 (L a) _ hl (by omega) (by omega) (hr.below hbl1)).mono ?_;rw [List.replicate_zero, List.append_nil];rintro e w2 ⟨rfl, hB2, hbl2⟩;have hblw2 := hbl1.trans (hbl2.mono hbl1.size);obtain ⟨bb, oo, hbo, hcl⟩ := (hr2.below hblw2) (by omega);have hc0 := hcl 0 (by omega);rw [hb1] at hc0;simp only [List.getD_cons_zero, Nat.add_zero] at hc0;clear hcl;have HB2 := hid hB2; clear hB2;go_wp2_with fail
 refine (pP w1.heap.size n n b _ (L a) _ (fun _ => rfl) HB2.out (jO a) (by omega) (by omega) hb0 hbb).mono ?_
 rw [List.take_of_length_le (by omega), V_L, <- EQ.out, <- ER.out];rintro e w3 ⟨rfl, hg3, cur, hB3, hW3, hv3⟩;have hcl3 : cur.length = n := by rw [hW3.len]; exact hl
 rw [List.take_of_length_le (by omega)] at hv3
 have hblw3 : Below w.heap.size w w3 := hblw2.grown hg3 hblw2.size (fun k h => by cases h; exact hbl1.size)
 have hlit := mN w3 [rr];have hU1 : (U [rr]).toArray = #[Value.int .u64 (rr : Int)] := rfl;have hbl4 : Below w3.heap.size w3 (w3.alloc (.cells (U [rr]).toArray 25)) := (Below.refl _ _).alloc (Nat.le_refl _) _;rw [hU1] at hlit hbl4;have hB4 := hB3.keep hbl4;have hf1 : F64 [rr] := by intro y hy; simp at hy; omega
 have hv1 : V [rr] = rr := by simp [V, M.val]
 have hblw4 := hblw3.trans (hbl4.mono hblw3.size);have hg1lt : w1.heap.size < w3.heap.size := hB3.lt;have HB4 := hid hB4; have HLIT := hid hlit; have HBL4 := hid hblw4; have HV1 := hid hv1; have HV3 := hid hv3; have HB3 := hid hB3;clear hB4 hlit hblw4 hv1 hv3 hB3 hU1 hbl4 hc0 HB2;go_wp2_with fail;have hB4 := HB4.out; have hlit := HLIT.out; have hblw4 := HBL4.out;generalize w3.alloc (.cells #[Value.int .u64 (rr : Int)] 25) = w4 at hB4 hlit hblw4 |-;refine (fP _ n n cur _ hcl3 (Nat.le_refl _) (by omega) hW3.lt hB4.rd0).mono ?_;rw [HV3.out];rintro e w5 ⟨rfl, rfl⟩;go_wp2_with fail;refine (fP _ 1 1 [rr] _ rfl (Nat.le_refl _) (by omega) hf1 hlit.rd0).mono ?_;rw [HV1.out];rintro e w6 ⟨rfl, rfl⟩;go_wp2_with fail
 go_ret2
 have o1 := hB4.ownTrim hW3.lt (by omega);have o2 := hlit.ownTrim hf1 (by simp);rw [HV3.out, hcl3] at o1;rw [HV1.out] at o2;exact ⟨_, _, _, _, w3.heap.size, rfl, hblw3.size, (by have := hlit.lt; omega), o1.widen hbl1.size (by omega), o2.widen (Nat.le_refl _) (by have := hlit.lt; omega), hblw4⟩

end Go.Proofs.YtfdgkleoaehjaaaGreatDoor
