import Derived.OwnWalk
import Derived.Test.YtfdgkleoaehjaaaGreatDoorsGAH
set_option maxHeartbeats 1000000
namespace Go.Proofs.YtfdgkleoaehjaaaGreatDoor
open Go.RowKit
set_option linter.unusedVariables false
set_option maxRecDepth 100000
theorem M.less_place (x y f c p : Nat) (hp : p = y * f) (hx : x < 18446744073709551616) (hy : y < 18446744073709551616) (hf : f < 18446744073709551616) (hc : c < 18446744073709551616) :
 ∃ l2 r1 h2 o r2 c' : Nat, l2 = (p % 18446744073709551616 + c) % 18446744073709551616 /\ r1 = (if (l2 : Int) < (c : Int) then 1 else 0) /\ h2 = p / 18446744073709551616 + r1 /\ h2 < 18446744073709551616 /\
   o = (x + 18446744073709551616 - l2) % 18446744073709551616 /\ r2 = (if (x : Int) < (l2 : Int) then 1 else 0) /\ c' = h2 + r2 /\ c' < 18446744073709551616 /\ o < 18446744073709551616 /\ l2 < 18446744073709551616 /\ o + p + c = x + 18446744073709551616 * c' := by
 have hb : p <= 18446744073709551615 * 18446744073709551615 := by rw [hp]; exact Nat.mul_le_mul (by omega) (by omega)
 refine ⟨_, _, _, _, _, _, rfl, rfl, rfl, ?_, rfl, rfl, rfl, ?_, ?_, ?_, ?_⟩
 . split <;> omega
 . split <;> split <;> omega
 . omega
 . omega
 . split <;> split <;> omega

theorem M.less_over {V V' V0 T c c' P B x y o f : Nat} (h : V + f * T = V0 + c * P) (hv : V' + P * x = V + P * o) (hs : o + y * f + c = x + B * c') : V' + f * (T + P * y) = V0 + c' * (P * B) := by
 have e : P * (o + y * f + c) = P * (x + B * c') := by rw [hs]
 simp only [Nat.mul_add] at e |-;rw [Nat.mul_comm c' (P * B), Nat.mul_assoc];rw [Nat.mul_comm c P] at h;have e2 : f * (P * y) = P * (y * f) := by rw [Nat.mul_comm f, Nat.mul_assoc]
 rw [e2];omega

def FC (w w' : World) (g : Nat) (zs : List Nat) (off N : Nat) (t : Nat) (c : Nat) : Prop :=
 w.grownBy w' (some g) /\ c < 18446744073709551616 /\ ∃ cur, Blk w' g cur /\ M.Wrote 18446744073709551616 zs off N cur /\ V (M.seg cur off N) + t = V (M.seg zs off N) + c * 18446744073709551616 ^ N

theorem o9 (g off N cap : Nat) (ao bo : Option Addr) (d f : Nat) (zs ys : List Nat) (w : World) (hao : 0 < N -> ao = some ⟨g, off, none⟩) (hB : Blk w g zs) (hz : F64 zs) (ho : off + N <= zs.length) (hN : N <= 4194304) (hm : ys.length = N) (hy : F64 ys) (hf : f < 18446744073709551616) (hr : Rd w bo ys) (hsep : 0 < ys.length -> ∀ b2 o2, bo = some ⟨b2, o2, none⟩ -> b2 ≠ g) :
 Calls Tryz.prog 187 #[.slice ao N cap, .slice bo N d, .int .u64 (f : Int)] w fun e w' => ∃ c : Nat, e = .returned (.int .u64 (c : Int)) /\ FC w w' g zs off N (f * V ys) c := by
 go_enter Tryz.func187, Tryz.ntmps187;go_wp2_with fail
 go_loopw [7, 14] (fun cy i wr => ∃ (k : Nat) (cur : List Nat) (c : Nat), k <= N /\ i = .int .i64 k /\ cy = .int .u64 c /\ c < 18446744073709551616 /\ Blk wr g cur /\ M.Wrote 18446744073709551616 zs off N cur /\ w.grownBy wr (some g) /\ V (M.seg cur off N) + f * V (ys.take k) = V (M.seg zs off N) + c * 18446744073709551616 ^ k) (fun _ i _ => N - (intOf i).toNat)
 case atStart => exact ⟨0, zs, 0, by omega, rfl, rfl, by omega, hB, M.Wrote.refl hz _ _, World.grownBy.refl _ _, by simp [V, M.val]⟩
 case round =>
  obtain ⟨k, cur, c, hk, rfl, rfl, hc, hBk, hW, hg, hv⟩ := hrel;have HV := hid hv; clear hv
  by_cases hlt : k < N
  . have hao' := hao (by omega);obtain ⟨b2, o2, hbo, hcl⟩ := hr (by omega);have hck : wr.cell? ⟨b2, o2 + k, none⟩ = some (.int .u64 ((ys.getD k 0 : Nat) : Int)) := hg.cell (hcl k (by omega)) (by simpa using hsep (by omega) b2 o2 hbo);clear hcl;have hy1 := hy.get k;obtain ⟨y, hyy⟩ : ∃ y : Nat, y = ys.getD k 0 := ⟨_, rfl⟩;rw [<- hyy] at hck hy1;have HY := hid hyy; clear hyy;have hca := hBk.cell (off + k) (by have := hW.len; omega);have hfa := hBk.frozen (off + k);have hx1 : cur.getD (off + k) 0 < 18446744073709551616 := M.aZ (by omega) hW.lt _;obtain ⟨x, hxx⟩ : ∃ x : Nat, x = cur.getD (off + k) 0 := ⟨_, rfl⟩;rw [<- hxx] at hca hx1;have HX := hid hxx; clear hxx;have hlt' : (k : Int) < (N : Int) := by omega
    have HB := hid hBk; clear hBk;have HG := hid hg; clear hg;obtain ⟨l2, r1, h2, o, r2, c', el2, er1, eh2, bh2, eo, er2, ec', bc', bo', bl2, hs⟩ := M.less_place x y f c (y * f) rfl hx1 hy1 hf hc;obtain ⟨hi, ehi⟩ : ∃ h : Nat, h = y * f / 18446744073709551616 := ⟨_, rfl⟩;obtain ⟨lo, elo⟩ : ∃ h : Nat, h = y * f % 18446744073709551616 := ⟨_, rfl⟩;rw [<- elo] at el2;rw [<- ehi] at eh2;have w1 := fA lo c l2 el2;have w2 := jJ hi r1 h2 eh2 bh2;have w3 := iD x l2 o eo (by omega);have w4 := jJ h2 r2 c' ec' bc';have E1 := hid ehi; have E2 := hid elo; have E3 := hid er1; have E4 := hid er2; have E5 := hid hs; have E6 := hid bc'; have E7 := hid bo';clear ehi elo er1 er2 hs bc' bo' el2 eh2 bh2 eo ec';go_wp2_with fail;refine (j4 y f _ hy1 hf hi lo E1.out E2.out).mono ?_;rintro e v1 ⟨rfl, rfl⟩;go_wp2_with fail;refine (dZ _ _ _ r1 E3.out).mono ?_;rintro e v2 ⟨rfl, rfl⟩;go_wp2_with fail;refine (dZ _ _ _ r2 E4.out).mono ?_;rintro e w3' ⟨rfl, rfl⟩;go_wp2_with fail;have hW3 := hW.set k o (by omega) E7.out;go_roundw
    case rel =>
     have R : ∃ (k1 : Nat) (cur1 : List Nat) (c1 : Nat), k1 <= N /\ Value.int .i64 ((k : Int) + 1) = .int .i64 k1 /\ Value.int .u64 (c' : Int) = .int .u64 c1 /\ c1 < 18446744073709551616 /\ Blk (w3'.setCell ⟨g, off + k, none⟩ (.int .u64 (o : Int))) g cur1 /\ M.Wrote 18446744073709551616 zs off N cur1 /\ w.grownBy (w3'.setCell ⟨g, off + k, none⟩ (.int .u64 (o : Int))) (some g) /\ V (M.seg cur1 off N) + f * V (ys.take k1) = V (M.seg zs off N) + c1 * 18446744073709551616 ^ k1 := by
      refine ⟨k + 1, cur.set (off + k) o, c', by omega, by go_num, rfl, E6.out, HB.out.set _ _ _ rfl, hW3, aB HG.out (aE _ _ _ _), ?_⟩;unfold V;rw [M.aK, <- HY.out, Nat.pow_succ];have h2 := M.iC 18446744073709551616 cur off N k o (by omega) (by have := hW.len; omega);rw [<- HX.out] at h2;exact M.less_over HV.out h2 E5.out
     first | exact R | ((repeat apply Exists.intro); exact ⟨R, rfl⟩) | ((repeat apply Exists.intro); exact ⟨R, by rw [hao', hbo]⟩)
    case measure => simp [intOf]; omega
  . have e : k = N := by omega
    subst e;have HBk := hid hBk; clear hBk;have HG := hid hg; clear hg;go_wp2_with fail;go_ret;refine ⟨c, rfl, HG.out, hc, cur, HBk.out, hW, ?_⟩;have := HV.out
    rwa [List.take_of_length_le (by omega)] at this

theorem M.est_ge {hi lo top q g : Nat} (ht : 0 < top) (hg : g = (hi * 18446744073709551616 + lo) / top) (h : q * top <= hi * 18446744073709551616 + lo) : q <= g := by
 rw [hg]; exact (Nat.le_div_iff_mul_le ht).2 h

def tW (hi lo top : Nat) : Nat := if hi < top then (hi * 18446744073709551616 + lo) / top else 18446744073709551615

def oB (hi lo top : Nat) : Nat := if hi < top then (hi * 18446744073709551616 + lo) % top else lo + top

theorem CI (hi lo top : Nat) (hlo : lo < 18446744073709551616) (htb : top < 18446744073709551616) (ht : 9223372036854775808 <= top) (hht : hi <= top) :
 tW hi lo top * top + oB hi lo top = hi * 18446744073709551616 + lo /\ tW hi lo top < 18446744073709551616 /\ oB hi lo top < 2 * 18446744073709551616 /\ ∀ q, q < 18446744073709551616 -> q * top <= hi * 18446744073709551616 + lo -> q <= tW hi lo top := by
 unfold tW oB;split
 . next h =>
   refine ⟨by rw [Nat.mul_comm]; exact Nat.div_add_mod _ _, ?_, by have := Nat.mod_lt (hi * 18446744073709551616 + lo) (show 0 < top by omega); omega, fun q _ h => M.est_ge (by omega) rfl h⟩
   rw [Nat.div_lt_iff_lt_mul (by omega)];have h1 : (hi + 1) * 18446744073709551616 <= top * 18446744073709551616 := Nat.mul_le_mul_right _ h;rw [Nat.mul_comm 18446744073709551616 top]; omega
 . next h =>
   have e : hi = top := by omega
   subst e
   exact ⟨by omega, by omega, by omega, fun q h _ => by omega⟩

theorem sQ (hi lo top : Nat) (w : World) (hlo : lo < 18446744073709551616) (htb : top < 18446744073709551616) (ht : 9223372036854775808 <= top) (hht : hi <= top) (g l' : Nat) (sm : Bool) (hg : g = tW hi lo top) (hl' : l' = oB hi lo top % 18446744073709551616) (hsm : sm = decide (oB hi lo top < 18446744073709551616)) :
 Calls Tryz.prog 186 #[.int .u64 (hi : Int), .int .u64 (lo : Int), .int .u64 (top : Int)] w fun e w' => e = .returned (.tuple #[.int .u64 (g : Int), .int .u64 (l' : Int), .bool sm]) /\ ∃ q, w' = w.drewN q := by
 by_cases hlt : hi < top
 . have hlt' : ¬ (top : Int) <= (hi : Int) := by omega
   have hQ : g = (hi * 18446744073709551616 + lo) / top := by rw [hg]; unfold tW; rw [if_pos hlt]
   have hR0 : oB hi lo top = (hi * 18446744073709551616 + lo) % top := by unfold oB; rw [if_pos hlt]
   have hRt := Nat.mod_lt (hi * 18446744073709551616 + lo) (show 0 < top by omega);rw [<- hR0] at hRt;rw [Nat.mod_eq_of_lt (by omega), hR0] at hl';have hsm' : sm = true := by rw [hsm]; exact decide_eq_true (by omega)
   rw [hsm'];have EQ := hid hQ; have ER := hid hl';clear hQ hR0 hRt hl' hsm hsm' hg;go_enter Tryz.func186, Tryz.ntmps186;go_wp2_with fail;refine (qS hi lo top _ hlo htb hlt g l' EQ.out ER.out).mono ?_;rintro e w1 ⟨rfl, q1, rfl⟩;go_wp2_with fail
   go_ret3
   exact ⟨rfl, _, rfl⟩
 . have e : hi = top := by omega
   subst e;have hlt' : (hi : Int) <= (hi : Int) := by omega
   have hg' : g = 18446744073709551615 := by rw [hg]; unfold tW; rw [if_neg hlt]
   have hl0 : oB hi lo hi = lo + hi := by unfold oB; rw [if_neg hlt]
   rw [hl0] at hl' hsm;rw [hg'];have hmod : ((lo : Int) + (hi : Int)) % 18446744073709551616 = (l' : Int) := by omega
   have e1 : sm = decide ((hi : Int) <= ((lo : Int) + (hi : Int)) % 18446744073709551616) := by
    rw [hsm]; congr 1; apply propext; omega
   have HM := hid hmod; have E1 := hid e1;clear hg hg' hl0 hl' hsm hmod e1;go_enter Tryz.func186, Tryz.ntmps186;go_wp2_with fail
   go_ret3
   refine ⟨?_, 0, rfl⟩;rw [E1.out, <- HM.out]
   rfl

def BK (w w' : World) (g : Nat) (zs : List Nat) (off N : Nat) (t : Nat) : Prop :=
 w.grownBy w' (some g) /\ ∃ cur c, Blk w' g cur /\ M.Wrote 18446744073709551616 zs off N cur /\ c <= 1 /\ V (M.seg cur off N) + c * 18446744073709551616 ^ N = V (M.seg zs off N) + t

theorem CF (g off N cap : Nat) (bo : Option Addr) (m d : Nat) (zs ys : List Nat) (w : World) (hB : Blk w g zs) (hz : F64 zs) (ho : off + N <= zs.length) (hN : N <= 4194304) (hm : ys.length = m) (hmN : m <= N) (hy : F64 ys) (hr : Rd w bo ys) (hsep : 0 < ys.length -> ∀ b2 o2, bo = some ⟨b2, o2, none⟩ -> b2 ≠ g) :
 Calls Tryz.prog 139 #[.slice (some ⟨g, off, none⟩) N cap, .slice bo m d] w fun e w' => e = .returned (.tuple #[]) /\ BK w w' g zs off N (V ys) := by
 go_enter Tryz.func139, Tryz.ntmps139;go_wp2_with fail
 go_loopw [4, 11] (fun cy i wr => ∃ (k : Nat) (cur : List Nat) (c : Nat), k <= m /\ i = .int .i64 k /\ cy = .int .u64 c /\ c <= 1 /\ Blk wr g cur /\ M.Wrote 18446744073709551616 zs off N cur /\ w.grownBy wr (some g) /\ V (M.seg cur off N) + c * 18446744073709551616 ^ k = V (M.seg zs off N) + V (ys.take k)) (fun _ i _ => m - (intOf i).toNat)
 case atStart => exact ⟨0, zs, 0, by omega, rfl, rfl, by omega, hB, M.Wrote.refl hz _ _, World.grownBy.refl _ _, by simp [V, M.val]⟩
 case round =>
  obtain ⟨k, cur, c, hk, rfl, rfl, hc, hBk, hW, hg, hv⟩ := hrel;have HV := hid hv; clear hv
  by_cases hlt : k < m
  . obtain ⟨b2, o2, hbo, hcl⟩ := hr (by omega);have hck : wr.cell? ⟨b2, o2 + k, none⟩ = some (.int .u64 ((ys.getD k 0 : Nat) : Int)) := hg.cell (hcl k (by omega)) (by simpa using hsep (by omega) b2 o2 hbo);clear hcl;have hy1 := hy.get k;obtain ⟨y, hyy⟩ : ∃ y : Nat, y = ys.getD k 0 := ⟨_, rfl⟩;rw [<- hyy] at hck hy1;have HY := hid hyy; clear hyy;have hca := hBk.cell (off + k) (by have := hW.len; omega);have hfa := hBk.frozen (off + k);have hx1 : cur.getD (off + k) 0 < 18446744073709551616 := M.aZ (by omega) hW.lt _;obtain ⟨x, hxx⟩ : ∃ x : Nat, x = cur.getD (off + k) 0 := ⟨_, rfl⟩;rw [<- hxx] at hca hx1;have HX := hid hxx; clear hxx;have hlt' : (k : Int) < (m : Int) := by omega
    have hlt2 : (k : Int) < (N : Int) := by omega
    have HB := hid hBk; clear hBk;have HG := hid hg; clear hg;obtain ⟨p, hp⟩ : ∃ p : Nat, p = (x + y) % 18446744073709551616 := ⟨_, rfl⟩;have hwp := fA x y p hp;obtain ⟨o, hoo⟩ : ∃ o : Nat, o = (p + c) % 18446744073709551616 := ⟨_, rfl⟩;have hwo := fA p c o hoo;obtain ⟨r1, hr1⟩ : ∃ r : Nat, r = if (p : Int) < (y : Int) then 1 else 0 := ⟨_, rfl⟩;obtain ⟨r2, hr2⟩ : ∃ r : Nat, r = if (o : Int) < (c : Int) then 1 else 0 := ⟨_, rfl⟩
    have hsum : o + 18446744073709551616 * (r1 + r2) = x + y + c /\ r1 + r2 <= 1 /\ o < 18446744073709551616 := by
     split at hr1 <;> split at hr2 <;> omega
    have hle1 : r1 <= 1 := by omega
    have hle2 : r2 <= 1 := by omega
    have HP := hid hp; clear hp;have HO := hid hoo; clear hoo;have HR1 := hid hr1; clear hr1;have HR2 := hid hr2; clear hr2;have HS := hid hsum; clear hsum;go_wp2_with fail;generalize hwy : wr.setCell ⟨g, off + k, none⟩ (.int .u64 (o : Int)) = wy;have hBy : Blk wy g (cur.set (off + k) o) := by rw [<- hwy]; exact HB.out.set _ _ _ rfl
    have hgy : w.grownBy wy (some g) := by rw [<- hwy]; exact aB HG.out (aE _ _ _ _)
    have hWy := hW.set k o (by omega) HS.out.2.2;have hcy := hBy.cell (off + k) (by rw [List.length_set]; have := hW.len; omega);rw [M.cJ _ _ _ (by have := hW.len; omega)] at hcy;have HBy := hid hBy; clear hBy;have HGy := hid hgy; clear hgy;clear hwy hca hfa hck
    go_quiet ((first | (go_at_call_of 106 p; exact Calls.quiet_of_same (dZ _ _ _ r1 HR1.out)) | (go_at_call_of 106 o; exact Calls.quiet_of_same (dZ _ _ _ r2 HR2.out))))
    go_wp2_with fail;go_roundw
    case rel =>
     have R : ∃ (k1 : Nat) (cur1 : List Nat) (c1 : Nat), k1 <= m /\ Value.int .i64 ((k : Int) + 1) = .int .i64 k1 /\ Value.int .u64 ((r1 : Int) + (r2 : Int)) = .int .u64 c1 /\ c1 <= 1 /\ Blk (wy.drewN nq) g cur1 /\ M.Wrote 18446744073709551616 zs off N cur1 /\ w.grownBy (wy.drewN nq) (some g) /\ V (M.seg cur1 off N) + c1 * 18446744073709551616 ^ k1 = V (M.seg zs off N) + V (ys.take k1) := by
      refine ⟨k + 1, cur.set (off + k) o, r1 + r2, by omega, by go_num, by go_num, HS.out.2.1, HBy.out.drewN _, hWy, aB HGy.out (cZ _ _ _), ?_⟩;unfold V;rw [M.aK, <- HY.out, Nat.pow_succ];have h2 := M.iC 18446744073709551616 cur off N k o (by omega) (by have := hW.len; omega);rw [<- HX.out] at h2;exact M.uA HV.out h2 HS.out.1
     first | exact R | ((repeat apply Exists.intro); exact ⟨R, rfl⟩) | ((repeat apply Exists.intro); exact ⟨R, by rw [hbo]⟩)
    case measure => simp [intOf]; omega
  . have e : k = m := by omega
    subst e
    have hv : V (M.seg cur off N) + c * 18446744073709551616 ^ k = V (M.seg zs off N) + V ys := by
     have := HV.out
     rwa [List.take_of_length_le (by omega)] at this
    clear HV;have HBk := hid hBk; clear hBk;have HG := hid hg; clear hg;have HV := hid hv; clear hv;obtain ⟨wo, hwo⟩ : ∃ wo : World, wo = wr := ⟨_, rfl⟩;rw [<- hwo] at HBk HG |-;clear hwo;go_wp2_with fail
    go_loopw [4, 8] (fun cy i wr => ∃ (j : Nat) (cur : List Nat) (c : Nat), j <= N /\ i = .int .i64 j /\ cy = .int .u64 c /\ c <= 1 /\ Blk wr g cur /\ M.Wrote 18446744073709551616 zs off N cur /\ w.grownBy wr (some g) /\ V (M.seg cur off N) + c * 18446744073709551616 ^ j = V (M.seg zs off N) + V ys) (fun _ i _ => N - (intOf i).toNat)
    case atStart => exact ⟨k, cur, c, by omega, rfl, rfl, hc, HBk.out, hW, HG.out, HV.out⟩
    case round =>
     clear HBk HG HV hW hc;obtain ⟨j, cur2, c2, hj, rfl, rfl, hc, hBk, hW, hg, hv⟩ := hrel;have HV := hid hv; clear hv
     by_cases hcc : c2 = 0
     . subst hcc;have hgt : ¬ (0 : Int) < ((0 : Nat) : Int) := by omega
       have HBk := hid hBk; clear hBk;have HG := hid hg; clear hg;go_wp2_with fail
       go_end0
       refine ⟨rfl, HG.out, cur2, 0, HBk.out, hW, by omega, ?_⟩;have := HV.out
       simpa using this
     . have hc1 : c2 = 1 := by omega
       have hc0 : (0 : Int) < (c2 : Int) := by omega
       have HC1 := hid hc1; clear hc1
       by_cases hlt : j < N
       . have hca := hBk.cell (off + j) (by have := hW.len; omega);have hfa := hBk.frozen (off + j);have hx1 : cur2.getD (off + j) 0 < 18446744073709551616 := M.aZ (by omega) hW.lt _;obtain ⟨x, hxx⟩ : ∃ x : Nat, x = cur2.getD (off + j) 0 := ⟨_, rfl⟩;rw [<- hxx] at hca hx1;have HX := hid hxx; clear hxx;have hlt2 : (j : Int) < (N : Int) := by omega
         obtain ⟨o, hoo⟩ : ∃ o : Nat, o = (x + c2) % 18446744073709551616 := ⟨_, rfl⟩;have hwo := fA x c2 o hoo;obtain ⟨r2, hr2⟩ : ∃ r : Nat, r = if (o : Int) < (c2 : Int) then 1 else 0 := ⟨_, rfl⟩
         have hsum : o + 18446744073709551616 * r2 = x + 0 + c2 /\ r2 <= 1 /\ o < 18446744073709551616 := by
          split at hr2 <;> omega
         have HO := hid hoo; clear hoo;have HR2 := hid hr2; clear hr2;have HS := hid hsum; clear hsum;have HB := hid hBk; clear hBk;have HG := hid hg; clear hg;go_wp2_with fail;refine (dZ _ _ _ r2 HR2.out).mono ?_;rintro e w3 ⟨rfl, hw3⟩;have hB3 : Blk w3 g (cur2.set (off + j) o) := by rw [hw3]; exact HB.out.set _ _ _ rfl
         have hg3 : w.grownBy w3 (some g) := by rw [hw3]; exact aB HG.out (aE _ _ _ _)
         have hW3 := hW.set j o (by omega) HS.out.2.2;have HB3 := hid hB3; clear hB3;have HG3 := hid hg3; clear hg3;clear hw3 hca hfa;go_wp2_with fail;go_roundw
         case rel =>
          have R : ∃ (j1 : Nat) (cur1 : List Nat) (c1 : Nat), j1 <= N /\ Value.int .i64 ((j : Int) + 1) = .int .i64 j1 /\ Value.int .u64 (r2 : Int) = .int .u64 c1 /\ c1 <= 1 /\ Blk w3 g cur1 /\ M.Wrote 18446744073709551616 zs off N cur1 /\ w.grownBy w3 (some g) /\ V (M.seg cur1 off N) + c1 * 18446744073709551616 ^ j1 = V (M.seg zs off N) + V ys := by
           refine ⟨j + 1, cur2.set (off + j) o, r2, by omega, by go_num, rfl, HS.out.2.1, HB3.out, hW3, HG3.out, ?_⟩;unfold V;rw [Nat.pow_succ];have h2 := M.iC 18446744073709551616 cur2 off N j o (by omega) (by have := hW.len; omega);rw [<- HX.out] at h2;exact M.uA (y := 0) HV.out h2 HS.out.1
          first | exact R | ((repeat apply Exists.intro); exact ⟨R, rfl⟩)
         case measure => simp [intOf]; omega
       . have hlt2 : ¬ (j : Int) < (N : Int) := by omega
         have e : j = N := by omega
         subst e;have HBk := hid hBk; clear hBk;have HG := hid hg; clear hg;go_wp2_with fail
         go_end0
         exact ⟨rfl, HG.out, cur2, c2, HBk.out, hW, by omega, HV.out⟩

end Go.Proofs.YtfdgkleoaehjaaaGreatDoor
