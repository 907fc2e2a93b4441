import Derived.Deep.RegionHeld3
import Derived.Lib.BitFns
import Derived.Test.YtfdgkleoaehjaaaGreatDoorsGAC
set_option maxHeartbeats 1000000
namespace Go.Proofs.YtfdgkleoaehjaaaGreatDoor
open Go.RowKit
set_option linter.unusedVariables false
set_option maxRecDepth 100000
theorem M.shl32 (x p cc : Nat) (hp : p < 32) (hx : x < 4294967296) (hc : cc < 2 ^ p) :
 x * 2 ^ p + cc < 9223372036854775808 /\ (x * 2 ^ p + cc) / 4294967296 < 2 ^ p := by
 have h1 : 2 ^ p <= 2 ^ 31 := Nat.pow_le_pow_right (by omega) (by omega);have h2 : (x + 1) * 2 ^ p <= 4294967296 * 2 ^ p := Nat.mul_le_mul_right _ hx;rw [Nat.add_mul] at h2
 constructor
 . have : 4294967296 * 2 ^ p <= 4294967296 * 2 ^ 31 := Nat.mul_le_mul_left _ h1;omega
 . exact Nat.div_lt_of_lt_mul (by omega)

theorem zL (x p cc : Nat) (hp : p < 32) (hx : x < 4294967296) (hc : cc < 2 ^ p) :
 bits BinOp.or IntKind.u64 (IntKind.u64.wrap ((x : Int) * 2 ^ p)) (cc : Int) = ((x * 2 ^ p + cc : Nat) : Int) := by
 have hb := (M.shl32 x p cc hp hx hc).1
 have e1 : IntKind.u64.wrap ((x : Int) * 2 ^ p) = ((x * 2 ^ p : Nat) : Int) := by
  rw [eZ, <- Int.natCast_mul, fW, Nat.mod_eq_of_lt (by omega)]
 have h1 : 2 ^ p <= 2 ^ 31 := Nat.pow_le_pow_right (by omega) (by omega);rw [e1, cI _ _ (by omega) (by omega), i8 cc x p hc, Nat.add_comm]

theorem mS (s : Nat) (hs : s < 18446744073709551616) : bits BinOp.and IntKind.u64 (s : Int) 4294967295 = ((s % 4294967296 : Nat) : Int) := by
 rw [and_low32 _ (by omega) (by omega)]; omega

theorem aT (ao : Option Addr) (n c s : Nat) (a : Nat) (w : World) (hl : (D a).length = n) (hn : n <= 1048576) (hs : s <= 100000) (hr : Rd w ao (D a)) :
 Calls Tryz.prog 42 #[.slice ao n c, .int .i64 (s : Int)] w fun e w' => Ret w w' e (D (a * 2 ^ s)) := by
 obtain ⟨i0, hi, hz0, hz1, hz2⟩ := info_parts Tryz.infoU;obtain ⟨q, hq⟩ : ∃ q : Nat, q = s / 32 := ⟨_, rfl⟩;obtain ⟨p, hp⟩ : ∃ p : Nat, p = s % 32 := ⟨_, rfl⟩;have hqI : (s : Int) / 32 = (q : Int) := by omega
 have hpI : (s : Int) % 32 = (p : Int) := by omega
 have hpb : p < 32 := by omega
 have hqb : q <= 100000 := by omega
 have HQ := hid hq; clear hq;have HP := hid hp; clear hp
 have hsq : 2 ^ s = 4294967296 ^ q * 2 ^ p := by
  rw [show (4294967296 : Nat) = 2 ^ 32 from rfl, <- Nat.pow_mul, <- Nat.pow_add]
  congr 1
  have := HQ.out; have := HP.out; omega
 have HSQ := hid hsq; clear hsq
 have hmk := fun (wx : World) => run_make (P := Tryz.prog) wx 56 25 i0 (.int .u64 0) Tryz.underlying56 hi hz0 .i64 .i64 (q : Int) (q : Int) (by omega) (Int.le_refl _) (by rw [hz2]; omega) (by omega)
 have fa := gO a;go_enter Tryz.func42, Tryz.ntmps42;go_wp2_with fail
 go_loopw [5, 6, 7] (fun v cy i wr => ∃ (k : Nat) (os : List Nat) (cc : Nat), k <= n + 1 /\ i = .int .i64 k /\ cy = .int .u64 cc /\ cc < 2 ^ p /\ wr.ownsRow w.heap.size 25 1 v (q + k) (U os) /\ F32 os /\ os.length = q + k /\ X os + cc * 4294967296 ^ (q + k) = (4294967296 ^ q * 2 ^ p) * X ((D a).take k) /\ Below w.heap.size w wr) (fun _ _ i _ => n + 1 - (intOf i).toNat)
 case atStart =>
  refine ⟨0, List.replicate q 0, 0, by omega, rfl, rfl, Nat.pow_pos (by omega), ?_, fun x hx => by simp at hx; omega, by simp, ?_, (Below.refl _ _).alloc (Nat.le_refl _) _⟩
  . exact (fC w q).own (Nat.le_refl _) (by simp) (by unfold maxLen; omega)
  . unfold X; rw [M.dM]; simp [M.val]
 case round =>
  obtain ⟨k, os, cc, hk, rfl, rfl, hcc, hown, hf, hlen, hv, hbl⟩ := hrel;clear hmk;have HV := hid hv; clear hv;have HLen := hid hlen; clear hlen
  by_cases hlt : k <= n
  . obtain ⟨x, hxx⟩ : ∃ x : Nat, x = (D a).getD k 0 := ⟨_, rfl⟩;have hx1 := fa.get k;rw [<- hxx] at hx1;have HX := hid hxx; clear hxx;have hlt' : (k : Int) <= (n : Int) := by omega
    have hwo := zL x p cc hpb hx1 hcc;have hbb := M.shl32 x p cc hpb hx1 hcc;obtain ⟨t, ht⟩ : ∃ t : Nat, t = x * 2 ^ p + cc := ⟨_, rfl⟩;rw [<- ht] at hwo hbb;have hlow := mS t (by omega);have hhi : (t : Int) / 4294967296 = ((t / 4294967296 : Nat) : Int) := by omega
    obtain ⟨o, eo⟩ : ∃ o : Nat, o = t % 4294967296 := ⟨_, rfl⟩;rw [<- eo] at hlow;have hsum : o + 4294967296 * (t / 4294967296) = x * 2 ^ p + cc /\ o < 4294967296 := by omega
    have E1 := hid hsum; have E2 := hid hbb; have E3 := hid ht; have E4 := hid eo; have E5 := hid hhi;clear hsum hbb ht eo hhi hcc;go_wp2_with fail;refine (cO ao _ c k (D a) _ hl (by omega) (by omega) (hr.below hbl) x HX.out).mono ?_;rintro e w2 ⟨rfl, rfl⟩
    go_wp2_with (at_builtin; refine wpList_append_own _ rfl _ _ 56 rfl w.heap.size 25 i0 (.int .u64 0) 1 8 Tryz.underlying56 hi hz0 hz1 hz2 rfl (by decide) _ _ _ rfl (hown.alloc _) ⟨w2.heap.size, 0, none⟩ 1 1 (U [o]) rfl rfl ?c1 ?c2 ?c3 ?c4 ?c5 ?_)
    case c1 =>
     intro j u hj
     match j, hj with
     | 0, hj => simp [U] at hj; subst hj; simp [Addr.add]
    case c2 => exact iE _
    case c3 => unfold maxLen; omega
    case c4 => omega
    case c5 => have := hbl.size; simp; omega
    intro v' w1 hown' hgrow hnn;clear hnn
    have hb1 : Below w.heap.size w w1 := (hbl.alloc hbl.size _).grown hgrow (by have := hbl.size; simp; omega) (fun k' hk' => (hown.lt k' hk').1)
    clear hown hgrow;go_wp2_with fail;go_roundw
    case rel =>
     have R : ∃ (k1 : Nat) (os1 : List Nat) (cc1 : Nat), k1 <= n + 1 /\ Value.int .i64 ((k : Int) + 1) = .int .i64 k1 /\ Value.int .u64 ((t : Int) / 4294967296) = .int .u64 cc1 /\ cc1 < 2 ^ p /\ w1.ownsRow w.heap.size 25 1 v' (q + k1) (U os1) /\ F32 os1 /\ os1.length = q + k1 /\ X os1 + cc1 * 4294967296 ^ (q + k1) = (4294967296 ^ q * 2 ^ p) * X ((D a).take k1) /\ Below w.heap.size w w1 := by
      refine ⟨k + 1, os ++ [o], t / 4294967296, by omega, by go_num, by rw [E5.out], E2.out.2, ?_, ?_, by simp [HLen.out]; omega, ?_, hb1⟩
      . rw [dI]; exact hown'
      . intro z hz;rcases List.mem_append.1 hz with hz | hz
        . exact hf z hz
        . simp at hz; have := E1.out.2; omega
      . have e3 := HV.out;unfold X at *;rw [M.aK, <- HX.out, show q + (k + 1) = q + k + 1 by omega, Nat.pow_succ, M.gP, HLen.out];rw [Nat.pow_add] at e3 |-;exact M.uX e3 rfl E1.out.1
     first | exact R | ((repeat apply Exists.intro); exact ⟨R, rfl⟩)
    case measure => simp [intOf]; omega
  . have e : k = n + 1 := by omega
    have hfin : X os = a * 2 ^ s := by
     have h1 := HV.out;rw [jU a k (by omega), <- HSQ.out] at h1;have h2 := lY a n (by omega);rw [Nat.mul_comm a];refine (M.uC h1 ?_).2;rw [HSQ.out, e, show q + (n + 1) = q + 1 + n by omega, Nat.pow_add, Nat.pow_succ];have h3 : 2 ^ p <= 4294967296 := Nat.le_trans (Nat.pow_le_pow_right (by omega) (show p <= 32 by omega)) (by omega);have h4 : 4294967296 ^ q * 2 ^ p <= 4294967296 ^ q * 4294967296 := Nat.mul_le_mul_left _ h3;exact Nat.lt_of_lt_of_le (Nat.mul_lt_mul_of_pos_left h2 (Nat.mul_pos (Nat.pow_pos (by omega)) (Nat.pow_pos (by omega)))) (Nat.mul_le_mul_right _ h4)
    have hv := eT hown;obtain ⟨ao1, cap1, hv⟩ := hv;rw [hv];rw [hv] at hown;have hlt' : ¬ (k : Int) <= (n : Int) := by omega
    clear e hv hcc;have HF := hid hfin; clear hfin;go_wp2_with fail;have hrd := Rd.own hown;refine (bO 4294967296 (by omega) ao1 _ cap1 os _ HLen.out (dC hown) (by omega) hf hrd).mono ?_;have hfin : M.val 4294967296 os = a * 2 ^ s := HF.out;rw [hfin];rintro e w1 ⟨ao', cap', rfl, ho, hb⟩;go_wp2_with fail;go_ret;exact ⟨ao', cap', rfl, aP ho hbl.size, hbl.trans (hb.mono hbl.size)⟩

theorem M.shr_digit {C P Q A k : Nat} (hC : 0 < C) (hP : 0 < P) (hCP : C = Q * P) : ((A / C ^ k) % (C * C) / P) % C = A / P / C ^ k % C := by
 have e1 : C * C = P * (Q * C) := by rw [<- Nat.mul_assoc, Nat.mul_comm P Q, <- hCP]
 rw [e1, Nat.mod_mul_right_div_self, Nat.mod_mul_left_mod, Nat.div_div_eq_div_mul, Nat.div_div_eq_div_mul, Nat.mul_comm]

theorem M.two_digits (C Z : Nat) (hC : 0 < C) : Z % C + (Z / C) % C * C = Z % (C * C) := by
 rw [Nat.mod_mul, Nat.mul_comm C]

theorem M.dig_get {B : Nat} (hB : 1 < B) (k : Nat) : ∀ n, (M.dig B n).getD k 0 = n / B ^ k % B := by
 induction k with
 | zero =>
   intro n
   by_cases hn : 0 < n
   . rw [M.aR hB hn]; simp
   . have : n = 0 := by omega
     subst this; simp [M.aG]
 | succ k ih =>
   intro n
   by_cases hn : 0 < n
   . rw [M.aR hB hn, List.getD_cons_succ, ih, Nat.div_div_eq_div_mul, Nat.pow_succ, Nat.mul_comm B]
   . have : n = 0 := by omega
     subst this; simp [M.aG]

theorem uP (a k : Nat) : (D a).getD k 0 = a / 4294967296 ^ k % 4294967296 := M.dig_get (by omega) k a

theorem fL (ao : Option Addr) (n c s : Nat) (a : Nat) (w : World) (hl : (D a).length = n) (hn : n <= 1048576) (hs : s <= 100000) (hr : Rd w ao (D a)) :
 Calls Tryz.prog 61 #[.slice ao n c, .int .i64 (s : Int)] w fun e w' => Ret w w' e (D (a / 2 ^ s)) := by
 obtain ⟨i0, hi, hz0, hz1, hz2⟩ := info_parts Tryz.infoU;obtain ⟨q, hq⟩ : ∃ q : Nat, q = s / 32 := ⟨_, rfl⟩;obtain ⟨p, hp⟩ : ∃ p : Nat, p = s % 32 := ⟨_, rfl⟩;have hqI : (s : Int) / 32 = (q : Int) := by omega
 have hpI : (s : Int) % 32 = (p : Int) := by omega
 have hpb : p < 32 := by omega
 have hqb : q <= 100000 := by omega
 have HQ := hid hq; clear hq;have HP := hid hp; clear hp
 have hsq : 2 ^ s = 4294967296 ^ q * 2 ^ p := by
  rw [show (4294967296 : Nat) = 2 ^ 32 from rfl, <- Nat.pow_mul, <- Nat.pow_add]
  congr 1
  have := HQ.out; have := HP.out; omega
 have HSQ := hid hsq; clear hsq;have fa := gO a;obtain ⟨A, hA⟩ : ∃ A : Nat, A = a / 4294967296 ^ q := ⟨_, rfl⟩;have HA := hid hA; clear hA;go_enter Tryz.func61, Tryz.ntmps61;go_wp2_with fail
 go_loopw [5, 6] (fun v i wr => ∃ (k : Nat) (os : List Nat), (k = 0 \/ q + k <= n) /\ i = .int .i64 ((q : Int) + (k : Int)) /\ wr.ownsRow w.heap.size 25 1 v k (U os) /\ F32 os /\ os.length = k /\ X os = A / 2 ^ p % 4294967296 ^ k /\ Below w.heap.size w wr) (fun _ i _ => n - (intOf i).toNat)
 case atStart => exact ⟨0, [], Or.inl rfl, by simp, World.ownsRow_nil _ _ _ _, fun x hx => by simp at hx, rfl, by simp [X, M.val, Nat.mod_one], Below.refl _ _⟩
 case round =>
  obtain ⟨k, os, hk, rfl, hown, hf, hlen, hv, hbl⟩ := hrel;have HV := hid hv; clear hv;have HLen := hid hlen; clear hlen;have HK := hid hk; clear hk
  by_cases hlt : q + k < n
  . obtain ⟨x, hxx⟩ : ∃ x : Nat, x = (D a).getD (q + k) 0 := ⟨_, rfl⟩;obtain ⟨y, hyy⟩ : ∃ y : Nat, y = (D a).getD (q + k + 1) 0 := ⟨_, rfl⟩;have hx1 := fa.get (q + k);have hy1 := fa.get (q + k + 1);rw [<- hxx] at hx1;rw [<- hyy] at hy1;have hdx : x = A / 4294967296 ^ k % 4294967296 := by rw [hxx, uP, HA.out, Nat.div_div_eq_div_mul, Nat.pow_add]
    have hdy : y = A / 4294967296 ^ k / 4294967296 % 4294967296 := by rw [hyy, uP, HA.out, Nat.div_div_eq_div_mul, Nat.div_div_eq_div_mul, Nat.pow_succ, Nat.pow_add, Nat.mul_assoc]
    have hlt' : (q : Int) + (k : Int) < (n : Int) := by omega
    have hwo := sG x y hx1 hy1;obtain ⟨t, ht⟩ : ∃ t : Nat, t = x + y * 4294967296 := ⟨_, rfl⟩;rw [<- ht] at hwo;have hdt : t = A / 4294967296 ^ k % (4294967296 * 4294967296) := by rw [ht, hdx, hdy, M.two_digits _ _ (by omega)]
    have hdc := cN t p;have hlow := mS (t / 2 ^ p) (Nat.lt_of_le_of_lt (Nat.div_le_self _ _) (by omega));obtain ⟨o, eo⟩ : ∃ o : Nat, o = t / 2 ^ p % 4294967296 := ⟨_, rfl⟩;rw [<- eo] at hlow
    have hdo : o = A / 2 ^ p / 4294967296 ^ k % 4294967296 := by
     rw [eo, hdt];exact M.shr_digit (Q := 2 ^ (32 - p)) (by omega) (Nat.pow_pos (by omega)) (by rw [M.eP p 32 (by omega)])
    have hob : o < 4294967296 := by rw [eo]; omega
    have HX := hid hxx; have HY := hid hyy; have E1 := hid hdo; have E2 := hid hob;clear hxx hyy hdx hdy hdt ht eo hdo hob;generalize t / 2 ^ p = u at hdc hlow;go_wp2_with fail;refine (cO ao _ c (q + k) (D a) _ hl (by omega) (by omega) (hr.below hbl) x HX.out).mono ?_;rintro e w2 ⟨rfl, rfl⟩;go_wp2_with fail;refine (cO ao _ c (q + k + 1) (D a) _ hl (by omega) (by omega) (hr.below hbl) y HY.out).mono ?_;rintro e w3 ⟨rfl, rfl⟩
    go_wp2_with (at_builtin; refine wpList_append_own _ rfl _ _ 56 rfl w.heap.size 25 i0 (.int .u64 0) 1 8 Tryz.underlying56 hi hz0 hz1 hz2 rfl (by decide) _ _ _ rfl (hown.alloc _) ⟨w3.heap.size, 0, none⟩ 1 1 (U [o]) rfl rfl ?c1 ?c2 ?c3 ?c4 ?c5 ?_)
    case c1 =>
     intro j u hj
     match j, hj with
     | 0, hj => simp [U] at hj; subst hj; simp [Addr.add]
    case c2 => exact iE _
    case c3 => unfold maxLen; omega
    case c4 => omega
    case c5 => have := hbl.size; simp; omega
    intro v' w1 hown' hgrow hnn;clear hnn
    have hb1 : Below w.heap.size w w1 := (hbl.alloc hbl.size _).grown hgrow (by have := hbl.size; simp; omega) (fun k' hk' => (hown.lt k' hk').1)
    clear hown hgrow;go_wp2_with fail;go_roundw
    case rel =>
     have R : ∃ (k1 : Nat) (os1 : List Nat), (k1 = 0 \/ q + k1 <= n) /\ Value.int .i64 ((q : Int) + (k : Int) + 1) = .int .i64 ((q : Int) + (k1 : Int)) /\ w1.ownsRow w.heap.size 25 1 v' k1 (U os1) /\ F32 os1 /\ os1.length = k1 /\ X os1 = A / 2 ^ p % 4294967296 ^ k1 /\ Below w.heap.size w w1 := by
      refine ⟨k + 1, os ++ [o], Or.inr (by omega), by go_num, ?_, ?_, by simp [HLen.out], ?_, hb1⟩
      . rw [dI]; exact hown'
      . intro z hz;rcases List.mem_append.1 hz with hz | hz
        . exact hf z hz
        . simp at hz; have := E2.out; omega
      . have e3 := HV.out;unfold X at *;rw [M.gP, HLen.out, e3, Nat.mod_pow_succ, <- E1.out]
     first | exact R | ((repeat apply Exists.intro); exact ⟨R, rfl⟩)
    case measure => simp [intOf]; omega
  . have hfin : X os = a / 2 ^ s := by
     rw [HV.out, HSQ.out, <- Nat.div_div_eq_div_mul, <- HA.out]
     apply Nat.mod_eq_of_lt
     refine Nat.lt_of_le_of_lt (Nat.div_le_self _ _) ?_;have h2 := lY a n (by omega);rw [HA.out]
     apply Nat.div_lt_of_lt_mul
     rw [<- Nat.pow_add];exact Nat.lt_of_lt_of_le h2 (Nat.pow_le_pow_right (by omega) (by have := HK.out; omega))
    have hkb : k <= 1048576 := by have := HK.out; omega
    have hv := eT hown;obtain ⟨ao1, cap1, hv⟩ := hv;rw [hv];rw [hv] at hown;have hlt' : ¬ (q : Int) + (k : Int) < (n : Int) := by omega
    clear hv;have HF := hid hfin; clear hfin;go_wp2_with fail;have hrd := Rd.own hown;refine (bO 4294967296 (by omega) ao1 _ cap1 os _ HLen.out (dC hown) (by omega) hf hrd).mono ?_;have hfin : M.val 4294967296 os = a / 2 ^ s := HF.out;rw [hfin];rintro e w1 ⟨ao', cap', rfl, ho, hb⟩;go_wp2_with fail;go_ret;exact ⟨ao', cap', rfl, aP ho hbl.size, hbl.trans (hb.mono hbl.size)⟩

end Go.Proofs.YtfdgkleoaehjaaaGreatDoor
namespace Go.Proofs.YtfdgkleoaehjaaaGreatDoor.M
set_option linter.unusedVariables false
set_option maxRecDepth 100000
def hiN (X : Nat) : Nat := X / 18446744073709551616

def loN (X : Nat) : Nat := X % 18446744073709551616

theorem hl (X : Nat) : X = hiN X * 18446744073709551616 + loN X := by unfold hiN loN; omega

theorem iS (X : Nat) : loN X < 18446744073709551616 := by unfold loN; omega

theorem jC {X : Nat} (h : X < 2 ^ 128) : hiN X < 18446744073709551616 := by unfold hiN; omega

theorem AI {X Y : Nat} (h1 : hiN X = hiN Y) (h2 : loN X = loN Y) : X = Y := by rw [hl X, hl Y, h1, h2]

theorem iK {X : Nat} (h : X < 18446744073709551616) : hiN X = 0 := by unfold hiN; omega

theorem iR {X : Nat} (h : X < 18446744073709551616) : loN X = X := by unfold loN; omega

theorem C9 (X n : Nat) (h : X < 2 ^ 128) (hn : n < 64) :
 hiN (X * 2 ^ n % 2 ^ 128) = (hiN X * 2 ^ n) % 18446744073709551616 + loN X / 2 ^ (64 - n) /\ loN (X * 2 ^ n % 2 ^ 128) = loN X * 2 ^ n % 18446744073709551616 /\
 loN X / 2 ^ (64 - n) < 2 ^ n /\ ∃ k, (hiN X * 2 ^ n) % 18446744073709551616 = k * 2 ^ n := by
 have hp : 0 < 2 ^ n := Nat.pow_pos (by omega);have hq : 0 < 2 ^ (64 - n) := Nat.pow_pos (by omega);have hB : 2 ^ (64 - n) * 2 ^ n = 18446744073709551616 := by rw [<- Nat.pow_add, show 64 - n + n = 64 by omega]
 have hX := hl X;have h1 := iS X;have h2 := jC h;generalize hiN X = a at *;generalize loN X = b at *;generalize 2 ^ n = P at *;generalize 2 ^ (64 - n) = Q at *;have e1 : b * P / 18446744073709551616 = b / Q := by rw [<- hB, Nat.mul_div_mul_right _ _ hp]
 have c3 : b / Q < P := by apply Nat.div_lt_of_lt_mul; rw [hB]; exact h1
 have e2 : X * P = a * P * 18446744073709551616 + b * P := by
  rw [hX, Nat.add_mul, Nat.mul_right_comm]
 have e3 : X * P / 18446744073709551616 = a * P + b / Q := by
  rw [e2, Nat.add_comm, Nat.add_mul_div_right _ _ (by omega), e1, Nat.add_comm]
 have e4 : a * P % 18446744073709551616 = (a % Q) * P := by rw [<- hB, Nat.mul_mod_mul_right]
 have c4 : (a % Q) * P + P <= 18446744073709551616 := by
  rw [<- hB];have : a % Q + 1 <= Q := Nat.mod_lt _ hq;have := Nat.mul_le_mul_right P this;rw [Nat.add_mul] at this;omega
 refine ⟨?_, ?_, c3, a % Q, e4⟩
 . unfold hiN;rw [show (2 : Nat) ^ 128 = 18446744073709551616 * 18446744073709551616 from rfl, Nat.mod_mul_right_div_self, e3, Nat.add_mod, e4];have h5 : b / Q % 18446744073709551616 = b / Q := Nat.mod_eq_of_lt (by have := Nat.div_le_self b Q; omega);rw [h5, Nat.mod_eq_of_lt (by omega)]
 . unfold loN;rw [show (2 : Nat) ^ 128 = 18446744073709551616 * 18446744073709551616 from rfl, Nat.mod_mul_right_mod, e2, Nat.mul_add_mod_self_right]

theorem C7 (X n : Nat) (h : X < 2 ^ 128) (hn : 64 <= n) (hm : n < 128) :
 hiN (X * 2 ^ n % 2 ^ 128) = loN X * 2 ^ (n - 64) % 18446744073709551616 /\ loN (X * 2 ^ n % 2 ^ 128) = 0 := by
 have hX := hl X
 have hB : 2 ^ n = 2 ^ (n - 64) * 18446744073709551616 := by
  rw [show (18446744073709551616 : Nat) = 2 ^ 64 from rfl, <- Nat.pow_add]; congr 1; omega
 rw [hB];generalize hiN X = a at *;generalize loN X = b at *;generalize 2 ^ (n - 64) = P at *
 have e : X * (P * 18446744073709551616) % 2 ^ 128 = (b * P % 18446744073709551616) * 18446744073709551616 := by
  rw [<- Nat.mul_assoc, show (2 : Nat) ^ 128 = 18446744073709551616 * 18446744073709551616 from rfl, Nat.mul_mod_mul_right, hX, Nat.add_mul, Nat.mul_right_comm, Nat.mul_add_mod_self_right]
 rw [e];unfold hiN loN;omega

theorem CO (X n : Nat) (h : X < 2 ^ 128) (hn : n < 64) :
 hiN (X / 2 ^ n) = hiN X / 2 ^ n /\ loN (X / 2 ^ n) = loN X / 2 ^ n + hiN X * 2 ^ (64 - n) % 18446744073709551616 /\
 loN X / 2 ^ n < 2 ^ (64 - n) /\ ∃ k, hiN X * 2 ^ (64 - n) % 18446744073709551616 = k * 2 ^ (64 - n) := by
 have hp : 0 < 2 ^ n := Nat.pow_pos (by omega);have hq : 0 < 2 ^ (64 - n) := Nat.pow_pos (by omega);have hB : 2 ^ (64 - n) * 2 ^ n = 18446744073709551616 := by rw [<- Nat.pow_add, show 64 - n + n = 64 by omega]
 have hX := hl X;have h1 := iS X;have h2 := jC h
 have e0 : hiN (X / 2 ^ n) = hiN X / 2 ^ n := by
  unfold hiN; rw [Nat.div_div_eq_div_mul, Nat.div_div_eq_div_mul, Nat.mul_comm]
 refine ⟨e0, ?_⟩;unfold loN at h1 |-;generalize hiN X = a at *;change _ = a * 18446744073709551616 + X % 18446744073709551616 at hX;generalize X % 18446744073709551616 = b at *;generalize 2 ^ n = P at *;generalize 2 ^ (64 - n) = Q at *
 have e1 : X / P = a * Q + b / P := by
  rw [hX, <- hB, <- Nat.mul_assoc, Nat.add_comm, Nat.add_mul_div_right _ _ hp, Nat.add_comm]
 have c3 : b / P < Q := by apply Nat.div_lt_of_lt_mul; rw [Nat.mul_comm, hB]; exact h1
 have e4 : a * Q % 18446744073709551616 = (a % P) * Q := by rw [<- hB, Nat.mul_comm Q P, Nat.mul_mod_mul_right]
 have c4 : (a % P) * Q + Q <= 18446744073709551616 := by
  rw [<- hB, Nat.mul_comm Q P];have : a % P + 1 <= P := Nat.mod_lt _ hp;have := Nat.mul_le_mul_right Q this;rw [Nat.add_mul] at this;omega
 refine ⟨?_, c3, a % P, e4⟩;rw [e1, Nat.add_mod, e4];have h5 : b / P % 18446744073709551616 = b / P := Nat.mod_eq_of_lt (by have := Nat.div_le_self b P; omega);rw [h5, Nat.mod_eq_of_lt (by omega), Nat.add_comm]

theorem BJ (X n : Nat) (h : X < 2 ^ 128) (hn : 64 <= n) (hm : n < 128) :
 hiN (X / 2 ^ n) = 0 /\ loN (X / 2 ^ n) = hiN X / 2 ^ (n - 64) := by
 have h2 := jC h
 have hB : 2 ^ n = 18446744073709551616 * 2 ^ (n - 64) := by
  rw [show (18446744073709551616 : Nat) = 2 ^ 64 from rfl, <- Nat.pow_add]; congr 1; omega
 have e : X / 2 ^ n = hiN X / 2 ^ (n - 64) := by unfold hiN; rw [hB, Nat.div_div_eq_div_mul]
 have h3 : hiN X / 2 ^ (n - 64) <= hiN X := Nat.div_le_self _ _;rw [e, iK (by omega), iR (by omega)];exact ⟨rfl, rfl⟩

theorem IR (X Y : Nat) (hX : X < 2 ^ 128) (hY : Y < 2 ^ 128) :
 loN ((X + Y) % 2 ^ 128) = (loN X + loN Y) % 18446744073709551616 /\
 hiN ((X + Y) % 2 ^ 128) = (hiN X + hiN Y + (if (loN X + loN Y) % 18446744073709551616 < loN Y then 1 else 0)) % 18446744073709551616 := by
 have a := hl X;have b := hl Y;have a1 := iS X;have b1 := iS Y;have a2 := jC hX;have b2 := jC hY;generalize hiN X = xh at *;generalize loN X = xl at *;generalize hiN Y = yh at *;generalize loN Y = yl at *;unfold hiN loN
 by_cases h : (xl + yl) % 18446744073709551616 < yl
 . simp only [h, if_true]; omega
 . simp only [h, if_false]; omega

theorem GI (X Y : Nat) (hX : X < 2 ^ 128) (hY : Y < 2 ^ 128) :
 loN ((X + (2 ^ 128 - Y)) % 2 ^ 128) = (loN X + 18446744073709551616 - loN Y) % 18446744073709551616 /\
 hiN ((X + (2 ^ 128 - Y)) % 2 ^ 128) = (hiN X + 36893488147419103232 - hiN Y - (if loN X < loN Y then 1 else 0)) % 18446744073709551616 := by
 have a := hl X;have b := hl Y;have a1 := iS X;have b1 := iS Y;have a2 := jC hX;have b2 := jC hY;generalize hiN X = xh at *;generalize loN X = xl at *;generalize hiN Y = yh at *;generalize loN Y = yl at *;unfold hiN loN
 by_cases h : xl < yl
 . simp only [h, if_true]; omega
 . simp only [h, if_false]; omega

end Go.Proofs.YtfdgkleoaehjaaaGreatDoor.M
namespace Go.Proofs.YtfdgkleoaehjaaaGreatDoor
open Go.RowKit
set_option linter.unusedVariables false
set_option maxRecDepth 100000
theorem dO (a : Nat) (h : a < 2 ^ 192) : (D a).length <= 6 := by
 apply M.len_of_lt (by omega)
 rw [show (4294967296 : Nat) = 2 ^ 32 from rfl, <- Nat.pow_mul];exact h

theorem JJ (a k : Nat) : (L a).getD k 0 = a / 18446744073709551616 ^ k % 18446744073709551616 := M.dig_get (by omega) k a

theorem qM (xs : List Nat) (k : Nat) : (xs ++ [0, 0]).getD k 0 = xs.getD k 0 := by
 rcases Nat.lt_or_ge k xs.length with h | h
 . simp [List.getD_eq_getElem?_getD, List.getElem?_append_left h]
 . rw [List.getD_eq_getElem?_getD, List.getD_eq_getElem?_getD, List.getElem?_append_right h, List.getElem?_eq_none (by omega : xs.length <= k)]
   rcases k - xs.length with _ | _ | m <;> simp

theorem fI (ao : Option Addr) (n c : Nat) (a : Nat) (w : World) (hl : (D a).length = n) (ha : a < 2 ^ 128) (hr : Rd w ao (D a)) :
 Calls Tryz.prog 62 #[.slice ao n c] w fun e w' => e = .returned (.agg #[.int .u64 (M.hiN a : Int), .int .u64 (M.loN a : Int)]) /\ Below w.heap.size w w' := by
 obtain ⟨i0, hi, hz0, hz1, hz2⟩ := info_parts Tryz.infoU;have hn : n <= 6 := by rw [<- hl]; exact dO a (by omega)
 have hL : (L a).length <= 4 := M.len_of_lt (by omega) _ _ (by omega);have g0 : (L a ++ [0, 0]).getD 0 0 = M.loN a := by rw [qM, JJ]; simp [M.loN]
 have g1 : (L a ++ [0, 0]).getD 1 0 = M.hiN a := by rw [qM, JJ]; have := M.jC ha; unfold M.hiN at *; simp; omega
 have G0 := hid g0; have G1 := hid g1;clear g0 g1;generalize M.hiN a = h at *;generalize M.loN a = l at *;go_enter Tryz.func62, Tryz.ntmps62;go_wp2_with fail;have b0 : Below w.heap.size w (w.alloc (.cells #[.int .u64 0, .int .u64 0] 27)) := (Below.refl _ _).alloc (Nat.le_refl _) _;refine (C5 ao n c a _ hl (by omega) (hr.below b0)).mono ?_;rintro e w1 ⟨ao1, cap1, rfl, ho1, hb1⟩;have hc1 := (cU hb1).1;have hf1 := (cU hb1).2;have b1 := b0.trans (hb1.mono b0.size);have hz : w.heap.size < w1.heap.size := by have := hb1.size; simp at this; omega
 go_wp2_with (at_builtin; refine wpList_append_own _ rfl _ _ 56 rfl (w.heap.size + 1) 25 i0 (.int .u64 0) 1 8 Tryz.underlying56 hi hz0 hz1 hz2 rfl (by decide) _ _ _ rfl ((aP ho1 (by simp)).alloc _) ⟨w1.heap.size, 0, none⟩ 2 2 (U [0, 0]) rfl rfl ?c1 ?c2 ?c3 ?c4 ?c5 ?_)
 case c1 =>
  intro j u hj
  match j, hj with
  | 0, hj => simp [U] at hj; subst hj; simp [Addr.add]
  | 1, hj => simp [U] at hj; subst hj; simp [Addr.add]
 case c2 => exact iE _
 case c3 => unfold maxLen; omega
 case c4 => omega
 case c5 => have := hb1.size; simp at this |-; omega
 intro v' w2 hown' hgrow hnn;clear hnn
 have hb2 : Below (w.alloc (.cells #[.int .u64 0, .int .u64 0] 27)).heap.size (w.alloc (.cells #[.int .u64 0, .int .u64 0] 27)) w2 :=
  (hb1.alloc hb1.size _).grown hgrow (by have := hb1.size; simp at this |-; omega) (fun k hk => (ho1.lt k hk).1)
 have b2 := b0.trans (hb2.mono b0.size);rw [<- dI] at hown';obtain ⟨ao2, cap2, hv⟩ := eT hown';subst hv;have hcap := dC hown';have hrd := Rd.own hown';obtain ⟨b, off, hao, hcl⟩ := hrd (by simp);subst hao;have hbge : w.heap.size + 1 <= b := (hown'.lt b rfl).1;have k0 := hcl 0 (by simp);have k1 := hcl 1 (by simp);rw [G0.out] at k0;rw [G1.out] at k1;rw [Nat.add_zero] at k0;have hne : w.heap.size ≠ b := by omega
 have hlt : b < w2.heap.size := World.block_lt_of_cell? w2 ⟨b, off, none⟩ k0;have r0 : w2.cell? ⟨w.heap.size, 0, none⟩ = some (.int .u64 0) := (hb2.cell (by simp)).trans (by simp [go_sem]);have r1 : w2.cell? ⟨w.heap.size, 1, none⟩ = some (.int .u64 0) := (hb2.cell (by simp)).trans (by simp [go_sem]);have z0 : w2.frozen? ⟨w.heap.size, 0, none⟩ = false := (hb2.frozen (by simp)).trans (by simp [go_sem]);have z1 : w2.frozen? ⟨w.heap.size, 1, none⟩ = false := (hb2.frozen (by simp)).trans (by simp [go_sem]);clear hown' hgrow hrd hcl ho1 hb1 hb2 hc1 hf1 b1 hz;generalize (L a).length = m at *;have m1 : (1 : Int) < (m : Int) + 2 := by omega
 have m0 : (0 : Int) < (m : Int) + 2 := by omega
 go_wp2_with fail
 go_region_held3 (fun v => v.cell? ⟨b, off, none⟩ = some (.int .u64 (l : Int)) /\ v.cell? ⟨b, off + 1, none⟩ = some (.int .u64 (h : Int))) (go_keep) (fail)
 go_wp2_with fail;exact bodyPost_ret (v := .agg #[.int .u64 (h : Int), .int .u64 (l : Int)]) (by simp [results, Tryz.results62, go_sem, r0, r1]) rfl ⟨rfl, ((b2.setCell (p := ⟨w.heap.size, 0, none⟩) (Nat.le_refl _) _).setCell (p := ⟨w.heap.size, 1, none⟩) (Nat.le_refl _) _).drew⟩

def aA (n : Nat) : Nat := (M.dig 2 n).length

theorem eB (n : Nat) : n < 2 ^ aA n := M.jN (by omega) n

theorem fZ (n : Nat) (h : 0 < n) : 2 ^ (aA n - 1) <= n := M.nG (by omega) n h

theorem eX : aA 0 = 0 := by simp [aA, M.aG]

theorem gM (n : Nat) (h : 0 < n) : 0 < aA n := by
 unfold aA; rw [M.aR (by omega) h]; simp

theorem rV (n : Nat) (h : 0 < n) : aA n = 1 + aA (n / 2) := by
 unfold aA; rw [M.aR (by omega) h]; simp; omega

theorem n5 (n k : Nat) (h1 : 2 ^ (k - 1) <= n) (h2 : n < 2 ^ k) (hk : 0 < k) : aA n = k := by
 have hn : 0 < n := Nat.lt_of_lt_of_le (Nat.pow_pos (by omega)) h1;have h3 := eB n;have h4 := fZ n hn;have h5 := gM n hn;rcases Nat.lt_trichotomy (aA n) k with h | h | h
 . have : 2 ^ aA n <= 2 ^ (k - 1) := Nat.pow_le_pow_right (by omega) (by omega);omega
 . exact h
 . have : 2 ^ k <= 2 ^ (aA n - 1) := Nat.pow_le_pow_right (by omega) (by omega);omega

theorem CQ : ∀ (k n : Nat), n < 2 ^ k -> k <= 64 -> Lib.bitLen n = aA n := by
 intro k
 induction k with
 | zero =>
   intro n h _;have : n = 0 := by simpa using h
   subst this;rw [eX]; rfl
 | succ k ih =>
   intro n h hk
   by_cases hn : n = 0
   . subst hn; rw [eX]; rfl
   . rw [rV n (by omega), Lib.bitLen_half n hn (Nat.lt_of_lt_of_le h (Nat.pow_le_pow_right (by omega) hk)), ih (n / 2) (by rw [Nat.pow_succ] at h; omega) (by omega)]

theorem CB (n : Nat) (h : n < 18446744073709551616) : Lib.bitLen n = aA n := CQ 64 n h (by omega)

theorem oR (k n : Nat) (h : 2 ^ k <= n) : aA n = k + aA (n / 2 ^ k) := by
 have hq : 0 < n / 2 ^ k := Nat.div_pos h (Nat.pow_pos (by omega));have h1 := eB (n / 2 ^ k);have h2 := fZ (n / 2 ^ k) hq;have h3 := gM _ hq;refine n5 n _ ?_ ?_ (by omega)
 . rw [show k + aA (n / 2 ^ k) - 1 = (aA (n / 2 ^ k) - 1) + k by omega, Nat.pow_add];exact Nat.le_trans (Nat.mul_le_mul_right _ h2) (Nat.div_mul_le_self n _)
 . rw [Nat.pow_add]
   exact (Nat.div_lt_iff_lt_mul (Nat.pow_pos (by omega))).1 h1 |> fun h => by rwa [Nat.mul_comm] at h

theorem bZ (n k : Nat) (h : n < 2 ^ k) : aA n <= k := M.len_of_lt (by omega) n k h

theorem KU (a : Nat) (h : 0 < a) : aA a = 32 * ((D a).length - 1) + aA ((D a).getD ((D a).length - 1) 0) := by
 have h1 := M.nG (B := 4294967296) (by omega) a h;have h2 := M.jN (B := 4294967296) (by omega) a;have hl : (D a).length ≠ 0 := by unfold D; rw [M.aR (by omega) h]; simp
 obtain ⟨m, hm⟩ : ∃ m, (D a).length = m + 1 := ⟨(D a).length - 1, by omega⟩;have hm' : (M.dig 4294967296 a).length = m + 1 := hm;rw [hm'] at h1 h2;rw [hm, Nat.add_sub_cancel] at *;have e : (4294967296 : Nat) ^ m = 2 ^ (32 * m) := by rw [show (4294967296 : Nat) = 2 ^ 32 from rfl, <- Nat.pow_mul]
 have hg : (D a).getD m 0 = a / 4294967296 ^ m := by
  have hh : (M.dig 4294967296 a).getD m 0 = a / 4294967296 ^ m % 4294967296 := by
   have : ∀ k n, (M.dig 4294967296 n).getD k 0 = n / 4294967296 ^ k % 4294967296 := by
    intro k
    induction k with
    | zero =>
      intro n
      by_cases hn : 0 < n
      . rw [M.aR (by omega) hn]; simp
      . have : n = 0 := by omega
        subst this; simp [M.aG]
    | succ k ih =>
      intro n
      by_cases hn : 0 < n
      . rw [M.aR (by omega) hn, List.getD_cons_succ, ih, Nat.div_div_eq_div_mul, Nat.pow_succ, Nat.mul_comm 4294967296]
      . have : n = 0 := by omega
        subst this; simp [M.aG]
   exact this m a
  unfold D;rw [hh]
  apply Nat.mod_eq_of_lt
  apply Nat.div_lt_of_lt_mul
  rw [<- Nat.pow_succ]; exact h2
 rw [hg, e];exact oR (32 * m) a (by rw [<- e]; exact h1)

theorem mN (w : World) (xs : List Nat) : Blk (w.alloc (.cells (U xs).toArray 25)) w.heap.size xs := heap_alloc_new w _

theorem bQ (x : Nat) (w : World) (h : x < 18446744073709551616) :
 Calls Tryz.prog 21 #[.int .u64 (x : Int)] w fun e w' => Ret w w' e (D x) := by
 have hlow : bits BinOp.and IntKind.u64 (x : Int) 4294967295 = ((x % 4294967296 : Nat) : Int) := by
  rw [and_low32 _ (by omega) (by omega)]; omega
 have hhi : (x : Int) / 4294967296 = ((x / 4294967296 : Nat) : Int) := by omega
 have hB := mN w [x % 4294967296, x / 4294967296];have hb : Below w.heap.size w (w.alloc (.cells (U [x % 4294967296, x / 4294967296]).toArray 25)) := (Below.refl _ _).alloc (Nat.le_refl _) _;have hU : (U [x % 4294967296, x / 4294967296]).toArray = #[Value.int .u64 ((x % 4294967296 : Nat) : Int), Value.int .u64 ((x / 4294967296 : Nat) : Int)] := rfl;rw [hU] at hB hb;have hv : M.val 4294967296 [x % 4294967296, x / 4294967296] = x := by simp [M.val]; omega
 have hf : F32 [x % 4294967296, x / 4294967296] := by intro y hy; simp at hy; omega
 obtain ⟨lo, elo⟩ : ∃ lo : Nat, lo = x % 4294967296 := ⟨_, rfl⟩;obtain ⟨hi, ehi⟩ : ∃ hi : Nat, hi = x / 4294967296 := ⟨_, rfl⟩;rw [<- elo, <- ehi] at hB hb hv hf;rw [<- elo] at hlow;rw [<- ehi] at hhi;have HV := hid hv;clear hv hU elo ehi;go_enter Tryz.func21, Tryz.ntmps21;go_wp2_with fail;refine (bO 4294967296 (by omega) _ 2 2 [lo, hi] _ rfl (by omega) (by omega) hf hB.rd0).mono ?_;rw [HV.out];rintro e w1 ⟨ao', cap', rfl, ho, hb'⟩;go_wp2_with fail;go_ret;exact ⟨ao', cap', rfl, aP ho hb.size, hb.trans (hb'.mono hb.size)⟩

theorem bG (ao : Option Addr) (n c : Nat) (a : Nat) (w : World) (hl : (D a).length = n) (hn : n <= 1048576) (hr : Rd w ao (D a)) (b : Nat) (hb : b = aA a) :
 Calls Tryz.prog 56 #[.slice ao n c] w fun e w' => e = .returned (.int .i64 (b : Int)) /\ w' = w := by
 by_cases h0 : n = 0
 . subst h0
   have ha : a = 0 := by
    rcases Nat.eq_zero_or_pos a with h | h
    . exact h
    . unfold D at hl; rw [M.aR (by omega) h] at hl; simp at hl
   have hb0 : b = 0 := by rw [hb, ha, eX]
   subst hb0;clear hb ha hl hr;go_enter Tryz.func56, Tryz.ntmps56;go_wp2_with fail;go_ret;exact ⟨rfl, rfl⟩
 . obtain ⟨m, rfl⟩ : ∃ m, n = m + 1 := ⟨n - 1, by omega⟩
   have ha : 0 < a := by
    rcases Nat.eq_zero_or_pos a with h | h
    . rw [h] at hl; simp [D, M.aG] at hl
    . exact h
   have hbl := KU a ha;rw [hl, Nat.add_sub_cancel] at hbl;obtain ⟨b1, o1, hao, hcl⟩ := hr (by omega);have hck := hcl m (by omega);clear hcl;have ht := (gO a).get m;obtain ⟨t, htt⟩ : ∃ t : Nat, t = (D a).getD m 0 := ⟨_, rfl⟩;rw [<- htt] at hck ht hbl;rw [<- hb] at hbl;have hne : (((m : Int) + 1) == 0) = false := by simp; omega
   have e1 : ((m + 1 : Nat) : Int) = (m : Int) + 1 := by omega
   have hltm : (m : Int) < (m : Int) + 1 := by omega
   have HBL := hid hbl; have HT := hid htt;clear hbl htt hb;go_enter Tryz.func56, Tryz.ntmps56;go_wp2_with fail
   go_loop [3, 4] (fun cn x => ∃ k y : Nat, cn = .int .i64 (32 * (m : Int) + (k : Int)) /\ x = .int .u64 (y : Int) /\ y < 4294967296 /\ aA t = k + aA y /\ k <= 32) (fun _ x => (intOf x).toNat)
   case atStart => exact ⟨0, t, by simp, rfl, ht, by omega, by omega⟩
   case round =>
    obtain ⟨k, y, rfl, rfl, hy, hk, hk2⟩ := hrel;have HK := hid hk; clear hk
    by_cases hy0 : 0 < y
    . have hy0' : (0 : Int) < (y : Int) := by omega
      have hk3 : k < 32 := by
       have h1 := bZ t 32 ht;have h2 := HK.out;have h3 := gM y hy0;omega
      go_wp2_with fail
      go_round
      case rel =>
       refine ⟨k + 1, y / 2, by go_num, by go_num, by omega, ?_, by omega⟩;have h1 := HK.out;rw [rV y hy0] at h1;omega
      case measure => simp [intOf]; omega
    . have : y = 0 := by omega
      subst this;have hy0' : ¬ (0 : Int) < ((0 : Nat) : Int) := by omega
      go_wp2_with fail;go_ret;refine ⟨cE ?_, rfl⟩;have h1 := HK.out;rw [eX] at h1;have h2 := HBL.out;rw [<- HT.out] at *;omega

theorem iD (x y p : Nat) (hp : p = (x + 18446744073709551616 - y) % 18446744073709551616) (hy : y <= 18446744073709551616) : IntKind.u64.wrap ((x : Int) - (y : Int)) = (p : Int) := by
 rw [IntKind.wrap_u64]; omega

theorem M.no_borrow {S c P t a : Nat} (h : S + t = a + c * P) (hS : S < P) (ht : t <= a) : c = 0 /\ S = a - t := by
 rcases Nat.eq_zero_or_pos c with rfl | hc
 . simp at h; exact ⟨rfl, by omega⟩
 . have := Nat.le_mul_of_pos_left P hc; omega

theorem M.sub_place {S c P B A A' x y o c' : Nat} (h : S + A' = A + c * P) (hs : o + y + c = x + B * c') : S + P * o + (A' + P * y) = A + P * x + c' * (P * B) := by
 have e : P * (o + y + c) = P * (x + B * c') := by rw [hs]
 simp only [Nat.mul_add] at e;rw [Nat.mul_comm c' (P * B), Nat.mul_assoc];rw [Nat.mul_comm c P] at h;omega

theorem Rd.drewN {w : World} {ao : Option Addr} {xs : List Nat} (h : Rd w ao xs) (q : Nat) : Rd (w.drewN q) ao xs := h

theorem gJ (ao bo : Option Addr) (n m c d : Nat) (a b : Nat) (w : World) (hl : (D a).length = n) (hm : (D b).length = m) (hba : b <= a) (hn : n <= 2097152) (hr : Rd w ao (D a)) (hr2 : Rd w bo (D b)) :
 Calls Tryz.prog 101 #[.slice ao n c, .slice bo m d] w fun e w' => Ret w w' e (D (a - b)) := by
 obtain ⟨i0, hi, hz0, hz1, hz2⟩ := info_parts Tryz.infoU;have fa := gO a;have fb := gO b
 have hmn : m <= n := by
  rcases Nat.lt_or_ge n m with h | h
  . have : a < b := M.dG (B := 4294967296) (by omega) (by unfold D at hl hm; omega);omega
  . exact h
 go_enter Tryz.func101, Tryz.ntmps101;go_wp2_with fail
 go_loopw [5, 6, 7] (fun v cy i wr => ∃ (k : Nat) (os : List Nat) (cc : Nat), k <= n /\ i = .int .i64 k /\ cy = .int .u64 cc /\ cc <= 1 /\ wr.ownsRow w.heap.size 25 1 v k (U os) /\ F32 os /\ os.length = k /\ X os + X ((D b).take k) = X ((D a).take k) + cc * 4294967296 ^ k /\ Below w.heap.size w wr) (fun _ _ i _ => n - (intOf i).toNat)
 case atStart => exact ⟨0, [], 0, by omega, rfl, rfl, by omega, World.ownsRow_nil _ _ _ _, fun x hx => by simp at hx, rfl, by simp [X, M.val], Below.refl _ _⟩
 case round =>
  obtain ⟨k, os, cc, hk, rfl, rfl, hcc, hown, hf, hlen, hv, hbl⟩ := hrel;have HV := hid hv; clear hv;have HLen := hid hlen; clear hlen
  by_cases hlt : k < n
  . obtain ⟨b1, o1, hao, hcA⟩ := (hr.below hbl) (by omega);have hck := hcA k (by omega);clear hcA;obtain ⟨x, hxx⟩ : ∃ x : Nat, x = (D a).getD k 0 := ⟨_, rfl⟩;obtain ⟨y, hyy⟩ : ∃ y : Nat, y = (D b).getD k 0 := ⟨_, rfl⟩;have hx1 := fa.get k;have hy1 := fb.get k;rw [<- hxx] at hx1 hck;rw [<- hyy] at hy1;have HX := hid hxx; clear hxx;have HY := hid hyy; clear hyy;have hlt' : (k : Int) < (n : Int) := by omega
    obtain ⟨s, hs0⟩ : ∃ s : Nat, s = 4294967296 + x - y - cc := ⟨_, rfl⟩;have w2 : (4294967296 : Int) + (x : Int) - (y : Int) - (cc : Int) = (s : Int) := by omega
    have hlow : bits BinOp.and IntKind.u64 (s : Int) 4294967295 = ((s % 4294967296 : Nat) : Int) := by
     rw [and_low32 _ (by omega) (by omega)]; omega
    have hsb : s < 8589934592 := by omega
    obtain ⟨o, eo⟩ : ∃ o : Nat, o = s % 4294967296 := ⟨_, rfl⟩;rw [<- eo] at hlow;obtain ⟨c', ec'⟩ : ∃ c' : Nat, c' = 1 - s / 4294967296 := ⟨_, rfl⟩;have hsum : o + y + cc = x + 4294967296 * c' /\ c' <= 1 /\ o < 4294967296 /\ (1 : Int) - (s : Int) / 4294967296 = (c' : Int) := by omega
    have E0 := hid hs0; have E1 := hid hsum; have E2 := hid eo; have E3 := hid ec';clear hs0 hsum eo ec';go_wp2_with fail
    go_quiet ((go_at_call 60; exact Calls.quiet_of_same (cO bo _ d k (D b) _ hm (by omega) (by omega) (Rd.drewN (hr2.below hbl) _) y HY.out)))
    have hown2 : (wr.drewN nq).ownsRow w.heap.size 25 1 _ k (U os) := hown;have hbl2 := below_drewN hbl nq;generalize wr.drewN nq = wq at hown2 hbl2 |-;clear hown hck
    go_wp2_with (at_builtin; refine wpList_append_own _ rfl _ _ 56 rfl w.heap.size 25 i0 (.int .u64 0) 1 8 Tryz.underlying56 hi hz0 hz1 hz2 rfl (by decide) _ _ _ rfl (hown2.alloc _) ⟨wq.heap.size, 0, none⟩ 1 1 (U [o]) rfl rfl ?c1 ?c2 ?c3 ?c4 ?c5 ?_)
    case c1 =>
     intro j u hj
     match j, hj with
     | 0, hj => simp [U] at hj; subst hj; simp [Addr.add]
    case c2 => exact iE _
    case c3 => unfold maxLen; omega
    case c4 => omega
    case c5 => have := hbl2.size; simp; omega
    intro v' w1 hown' hgrow hnn;clear hnn
    have hb1 : Below w.heap.size w w1 := (hbl2.alloc hbl2.size _).grown hgrow (by have := hbl2.size; simp; omega) (fun k' hk' => (hown2.lt k' hk').1)
    clear hown2 hgrow;go_wp2_with fail;go_roundw
    case rel =>
     have R : ∃ (k1 : Nat) (os1 : List Nat) (cc1 : Nat), k1 <= n /\ Value.int .i64 ((k : Int) + 1) = .int .i64 k1 /\ Value.int .u64 ((1 : Int) - (s : Int) / 4294967296) = .int .u64 cc1 /\ cc1 <= 1 /\ w1.ownsRow w.heap.size 25 1 v' k1 (U os1) /\ F32 os1 /\ os1.length = k1 /\ X os1 + X ((D b).take k1) = X ((D a).take k1) + cc1 * 4294967296 ^ k1 /\ Below w.heap.size w w1 := by
      refine ⟨k + 1, os ++ [o], c', by omega, by go_num, by rw [E1.out.2.2.2], E1.out.2.1, ?_, ?_, by simp [HLen.out], ?_, hb1⟩
      . rw [dI]; exact hown'
      . intro z hz;rcases List.mem_append.1 hz with hz | hz
        . exact hf z hz
        . simp at hz; have := E1.out.2.2.1; omega
      . unfold X at *;rw [M.gP, HLen.out, M.aK, M.aK, <- HX.out, <- HY.out, Nat.pow_succ];exact M.sub_place HV.out E1.out.1
     first | exact R | ((repeat apply Exists.intro); exact ⟨R, rfl⟩) | ((repeat apply Exists.intro); exact ⟨R, by rw [hao]⟩)
    case measure => simp [intOf]; omega
  . have e : k = n := by omega
    subst e
    have hfin : X os = a - b := by
     have h1 := HV.out;rw [jU a k (by omega), jU b k (by omega)] at h1;have h2 := M.fU (B := 4294967296) (by omega) os hf;rw [HLen.out] at h2;exact (M.no_borrow h1 h2 hba).2
    have hv := eT hown;obtain ⟨ao1, cap1, hv⟩ := hv;rw [hv];rw [hv] at hown;clear hv;have HF := hid hfin; clear hfin;go_wp2_with fail;have hrd := Rd.own hown;refine (bO 4294967296 (by omega) ao1 _ cap1 os _ HLen.out (dC hown) (by omega) hf hrd).mono ?_;have hfin : M.val 4294967296 os = a - b := HF.out;rw [hfin];rintro e w1 ⟨ao', cap', rfl, ho, hb⟩;go_wp2_with fail;go_ret;exact ⟨ao', cap', rfl, aP ho hbl.size, hbl.trans (hb.mono hbl.size)⟩

theorem tO {a b : Nat} (h : a < b) : aY (a : Int) (b : Int) < 0 := by rw [eO h]; omega

theorem jK {a b : Nat} (h : b <= a) : ¬ aY (a : Int) (b : Int) < 0 := by
 rcases Nat.lt_or_ge b a with h1 | h1
 . rw [eV h1]; omega
 . rw [nX (by omega)]; omega

end Go.Proofs.YtfdgkleoaehjaaaGreatDoor
