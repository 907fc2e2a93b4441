import Derived.Test.YtogkkecnmlnajaaDoorqWA
import Derived.Test.YtogkkecnmlnajaaDoorqBG
import Derived.Test.YtogkkecnmlnajaaDoorqBV
set_option maxHeartbeats 8000000
set_option maxRecDepth 100000
namespace Go.Proofs.YtogkkecnmlnajaaDoor
open Go.RowKit
set_option linter.unusedVariables false
set_option maxRecDepth 100000
def Sp3 (w w' : World) (e : Ending) (A B C : Nat) : Prop :=
 ∃ (a : Option Addr) (ca : Nat) (b : Option Addr) (cb : Nat) (c : Option Addr) (cc : Nat), e = .returned (.tuple #[.slice a (D A).length ca, .slice b (D B).length cb, .slice c (D C).length cc]) ∧ Rd w' a (D A) ∧ Rd w' b (D B) ∧ Rd w' c (D C) ∧ Below w.heap.size w w'

structure Cv (w v : World) (gd : Nat) (e0 e1 e2 e3 e4 : Int) (e5 : Bool) (T : M.Pt) : Prop where
 b : Below w.heap.size w v
 d : D6 v gd e0 e1 e2 e3 e4 e5
 p : P5 v w.heap.size T

theorem Cv.below {w v v' : World} {gd : Nat} {e0 e1 e2 e3 e4 : Int} {e5 : Bool} {T : M.Pt} (h : Cv w v gd e0 e1 e2 e3 e4 e5 T) (hb : Below v.heap.size v v') : Cv w v' gd e0 e1 e2 e3 e4 e5 T :=
 ⟨h.b.trans (hb.mono h.b.size), h.d.below hb, h.p.below hb⟩

theorem M.times32 (x y cc : Nat) (hx : x < 4294967296) (hy : y < 4294967296) (hc : cc < 4294967296) : y * x + cc < 18446744073709551616 ∧ (y * x + cc) / 4294967296 < 4294967296 := by
 have h : y * x ≤ 4294967295 * 4294967295 := Nat.mul_le_mul (by omega) (by omega)
 constructor <;> omega

theorem M.times32_over {S c c' P C o y x T : Nat} (h : S + c * P = x * T) (hs : o + C * c' = y * x + c) : S + P * o + c' * (P * C) = x * (T + P * y) := by
 have e : P * (o + C * c') = P * (y * x + c) := by rw [hs]
 simp only [Nat.mul_add] at e ⊢
 rw [Nat.mul_comm c' (P * C), Nat.mul_assoc]
 rw [Nat.mul_comm c P] at h
 have e2 : x * (P * y) = P * (y * x) := by rw [Nat.mul_comm x, Nat.mul_assoc]
 rw [e2]
 omega

theorem l1Times_any (ao : Option Addr) (n c x : Nat) (a : Nat) (w : World) (hl : (D a).length = n) (hn : n ≤ 1048576) (hx : x < 4294967296) (hr : Rd w ao (D a)) :
 Calls Tryd.prog 23 #[.slice ao n c, .int .u64 (x : Int)] w fun e w' => Ret w w' e (D (a * x)) := by
 obtain ⟨i0, hi, hz0, hz1, hz2⟩ := info_parts Tryd.infoU
 have fa := F32_D a
 go_enter Tryd.func23, Tryd.ntmps23
 go_wp2_with fail
 go_loopw [5, 6, 7] (fun v cy i wr => ∃ (k : Nat) (os : List Nat) (cc : Nat), k ≤ n ∧ i = .int .i64 k ∧ cy = .int .u64 cc ∧ cc < 4294967296 ∧ wr.ownsRow w.heap.size 26 1 v k (U os) ∧ F32 os ∧ os.length = k ∧ X os + cc * 4294967296 ^ k = x * X ((D a).take k) ∧ Below w.heap.size w wr) (fun _ _ i _ => n - (intOf i).toNat)
 case atStart =>
  refine ⟨0, [], 0, by omega, rfl, rfl, by omega, World.ownsRow_nil _ _ _ _, fun x hx => by simp at hx, rfl, by simp [X, M.val], Below.refl _ _⟩
 case round =>
  obtain ⟨k, os, cc, hk, rfl, rfl, hcc, hown, hf, hlen, hv, hbl⟩ := hrel
  have HV := hid hv; clear hv
  have HLen := hid hlen; clear hlen
  by_cases hlt : k < n
  · obtain ⟨b2, o2, hbo, hc2⟩ := (hr.below hbl) (by omega)
    have hck := hc2 k (by omega)
    clear hc2
    have hy1 := fa.get k
    obtain ⟨y, hyy⟩ : ∃ y : Nat, y = (D a).getD k 0 := ⟨_, rfl⟩
    rw [← hyy] at hck hy1
    have HY := hid hyy; clear hyy
    have hlt' : (k : Int) < (n : Int) := by omega
    have hbb := M.times32 x y cc hx hy1 hcc
    obtain ⟨p, ep⟩ : ∃ p : Nat, p = y * x := ⟨_, rfl⟩
    rw [← ep] at hbb
    have wp := wrapMul y x p ep (by omega)
    obtain ⟨t, et⟩ : ∃ t : Nat, t = p + cc := ⟨_, rfl⟩
    rw [← et] at hbb
    have wt := wrapAdd p cc t et (by omega)
    have htI : (p : Int) + (cc : Int) = (t : Int) := by omega
    have hlow := low_mask t (by omega)
    obtain ⟨o, eo⟩ : ∃ o : Nat, o = t % 4294967296 := ⟨_, rfl⟩
    rw [← eo] at hlow
    obtain ⟨h, eh⟩ : ∃ h : Nat, h = t / 4294967296 := ⟨_, rfl⟩
    have hhi : (t : Int) / 4294967296 = (h : Int) := by omega
    have htb : t < 18446744073709551616 := hbb.1
    have hsum : o + 4294967296 * h = y * x + cc ∧ o < 4294967296 ∧ h < 4294967296 := by rw [← ep]; omega
    have E1 := hid hsum; have E2 := hid hbb; have E3 := hid et; have E4 := hid eo; have E5 := hid eh; have E6 := hid ep
    clear hsum hbb et eo eh ep hcc
    go_wp2_with (at_builtin; refine wpList_append_own _ rfl _ _ 23 rfl w.heap.size 26 i0 (.int .u64 0) 1 8 Tryd.underlying23 hi hz0 hz1 hz2 rfl (by decide) _ _ _ rfl (hown.alloc _) ⟨wr.heap.size, 0, none⟩ 1 1 (U [o]) rfl rfl ?c1 ?c2 ?c3 ?c4 ?c5 ?_)
    case c1 =>
     intro j u hj
     match j, hj with
     | 0, hj => simp [U] at hj; subst hj; simp [Addr.add]
    case c2 => exact U_one _
    case c3 => unfold maxLen; omega
    case c4 => omega
    case c5 => have := hbl.size; simp; omega
    intro v' w1 hown' hgrow hnn
    clear hnn
    have hb1 : Below w.heap.size w w1 := (hbl.alloc hbl.size _).grown hgrow (by have := hbl.size; simp; omega) (fun k' hk' => (hown.lt k' hk').1)
    clear hgrow
    clear hown
    go_wp2_with fail
    go_roundw
    case rel =>
     have R : ∃ (k1 : Nat) (os1 : List Nat) (cc1 : Nat), k1 ≤ n ∧ Value.int .i64 ((k : Int) + 1) = .int .i64 k1 ∧ Value.int .u64 (h : Int) = .int .u64 cc1 ∧ cc1 < 4294967296 ∧ w1.ownsRow w.heap.size 26 1 v' k1 (U os1) ∧ F32 os1 ∧ os1.length = k1 ∧ X os1 + cc1 * 4294967296 ^ k1 = x * X ((D a).take k1) ∧ Below w.heap.size w w1 := by
      refine ⟨k + 1, os ++ [o], h, by omega, by go_num, rfl, E1.out.2.2, ?_, ?_, by simp [HLen.out], ?_, hb1⟩
      · rw [U_append]; exact hown'
      · intro z hz
        rcases List.mem_append.1 hz with hz | hz
        · exact hf z hz
        · simp at hz; have := E1.out.2.1; omega
      · have e3 := HV.out
        unfold X at *
        rw [M.val_take_succ, ← HY.out, Nat.pow_succ, M.val_snoc, HLen.out]
        exact M.times32_over e3 E1.out.1
     first | exact R | ((repeat apply Exists.intro); exact ⟨R, rfl⟩) | ((repeat apply Exists.intro); exact ⟨R, by rw [hbo]⟩)
    case measure => simp [intOf]; omega
  · have e : k = n := by omega
    subst e
    have hv1 : X os + cc * 4294967296 ^ k = a * x := by
     have := HV.out
     rw [X_takeD a k (by omega), Nat.mul_comm x] at this
     exact this
    have hlt' : ¬ (k : Int) < (k : Int) := by omega
    clear HV
    have HV := hid hv1; clear hv1
    have HLen0 := HLen
    go_wp2_with fail
    go_loopw [5, 6] (fun v cy wq => ∃ (j : Nat) (os : List Nat) (cc : Nat), j ≤ k + 1 ∧ (j = k + 1 → cc = 0) ∧ cy = .int .u64 cc ∧ cc < 4294967296 ∧ wq.ownsRow w.heap.size 26 1 v j (U os) ∧ F32 os ∧ os.length = j ∧ X os + cc * 4294967296 ^ j = a * x ∧ Below w.heap.size w wq) (fun _ cy _ => (intOf cy).toNat)
    case atStart => exact ⟨k, os, cc, by omega, by omega, rfl, hcc, hown, hf, HLen.out, HV.out, hbl⟩
    case round =>
     clear HV HLen HLen0 hcc hown hf hbl
     rename World => wq
     obtain ⟨j, os2, c2, hj, hj2, rfl, hc2, hown, hf, hlen, hv, hbl⟩ := hrel
     have HV := hid hv; clear hv
     have HLen := hid hlen; clear hlen
     by_cases hc0 : 0 < c2
     · have hc0' : (0 : Int) < (c2 : Int) := by omega
       have hjk : j ≤ k := by omega
       have hlow := low_mask c2 (by omega)
       rw [Nat.mod_eq_of_lt hc2] at hlow
       have hhi : (c2 : Int) / 4294967296 = ((0 : Nat) : Int) := by omega
       go_wp2_with (at_builtin; refine wpList_append_own _ rfl _ _ 23 rfl w.heap.size 26 i0 (.int .u64 0) 1 8 Tryd.underlying23 hi hz0 hz1 hz2 rfl (by decide) _ _ _ rfl (hown.alloc _) ⟨wq.heap.size, 0, none⟩ 1 1 (U [c2]) rfl rfl ?c1 ?c2 ?c3 ?c4 ?c5 ?_)
       case c1 =>
        intro j u hj
        match j, hj with
        | 0, hj => simp [U] at hj; subst hj; simp [Addr.add]
       case c2 => exact U_one _
       case c3 => unfold maxLen; omega
       case c4 => omega
       case c5 => have := hbl.size; simp; omega
       intro v' w1 hown' hgrow hnn
       clear hnn
       have hb1 : Below w.heap.size w w1 := (hbl.alloc hbl.size _).grown hgrow (by have := hbl.size; simp; omega) (fun k' hk' => (hown.lt k' hk').1)
       clear hgrow
       clear hown
       go_wp2_with fail
       go_roundw
       case rel =>
        have R : ∃ (j1 : Nat) (os1 : List Nat) (cc1 : Nat), j1 ≤ k + 1 ∧ (j1 = k + 1 → cc1 = 0) ∧ Value.int .u64 ((0 : Nat) : Int) = .int .u64 cc1 ∧ cc1 < 4294967296 ∧ w1.ownsRow w.heap.size 26 1 v' j1 (U os1) ∧ F32 os1 ∧ os1.length = j1 ∧ X os1 + cc1 * 4294967296 ^ j1 = a * x ∧ Below w.heap.size w w1 := by
         refine ⟨j + 1, os2 ++ [c2], 0, by omega, fun _ => rfl, rfl, by omega, ?_, ?_, by simp [HLen.out], ?_, hb1⟩
         · rw [U_append]; exact hown'
         · intro z hz
           rcases List.mem_append.1 hz with hz | hz
           · exact hf z hz
           · simp at hz; omega
         · have e3 := HV.out
           unfold X at *
           rw [M.val_snoc, HLen.out, Nat.zero_mul, Nat.add_zero, Nat.mul_comm _ c2]
           exact e3
        first | exact R | ((repeat apply Exists.intro); exact ⟨R, rfl⟩)
       case measure => simp [intOf]; omega
     · have e0 : c2 = 0 := by omega
       subst e0
       have hfin : X os2 = a * x := by
        have := HV.out
        rwa [Nat.zero_mul, Nat.add_zero] at this
       have hv := own_shape hown
       obtain ⟨ao1, cap1, hv⟩ := hv
       rw [hv]
       rw [hv] at hown
       have hlt' : ¬ (0 : Int) < ((0 : Nat) : Int) := by omega
       clear hv
       have HF := hid hfin; clear hfin
       go_wp2_with fail
       have hrd := Rd.own hown
       refine (l1Trim_any 4294967296 (by omega) ao1 _ cap1 os2 _ HLen.out (own_cap hown) (by omega) hf hrd).mono ?_
       have hfin : M.val 4294967296 os2 = a * x := HF.out
       rw [hfin]
       rintro e w1 ⟨ao', cap', rfl, ho, hb⟩
       go_wp2_with fail
       go_ret
       exact ⟨ao', cap', rfl, own_base ho hbl.size, hbl.trans (hb.mono hbl.size)⟩

def drI (bs : List Nat) : Nat := adv bs (adv bs (adv bs 0))

def drN (bs : List Nat) : Bool := decide (rdB bs (adv bs 0) % 2 = 1)

def drK (bs : List Nat) : Nat := rdB bs (adv bs (adv bs 0))

def drS (k A B : Nat) : Nat := if k % 3 = 1 then A else B

def drA (k S : Nat) : Nat := if k % 5 = 1 then S * 2 ^ 70 + 1 else if k % 5 = 2 then S * 2 ^ 70 - 1 else if k % 5 = 3 then S * 7 else if k % 5 = 4 then S + k % 3 else S

def drC (k C : Nat) : Nat := if k % 5 = 1 then C * 2 ^ 70 else if k % 5 = 2 then C * 2 ^ 70 else if k % 5 = 3 then C * 7 else C

def drXs (bs : List Nat) (j k : Nat) (c : Int) (A B : Nat) : List Nat := if k % 4 = 0 ∨ ¬ (c = 3 ∨ c = 2) then (limbsAll bs j).1 else L (drA k (drS k A B))

def drYs (bs : List Nat) (j k : Nat) (c : Int) (C : Nat) : List Nat :=
 if k % 4 = 0 ∨ ¬ (c = 3 ∨ c = 2) then (if k % 8 = 0 ∧ (limbsAll bs (limbsAll bs j).2).1.length = 0 then [3] else (limbsAll bs (limbsAll bs j).2).1) else L (drC k C)

def DrR (w w' : World) (e : Ending) (f : Int) (ng : Bool) (xs ys : List Nat) : Prop :=
 ∃ ra ca rb cb, e = .returned (.tuple #[.int .i64 f, .bool ng, .slice ra xs.length ca, .slice rb ys.length cb]) ∧ Rd w' ra xs ∧ Rd w' rb ys ∧ xs.length ≤ ca ∧ ys.length ≤ cb ∧ Below w.heap.size w w'

def DrG (xs ys : List Nat) : Prop := F64 xs ∧ F64 ys ∧ xs.length ≤ 1201 ∧ ys.length ≤ 1201

theorem L_of_D {x u : Nat} (h : (D x).length ≤ u) : (L x).length ≤ u :=
 M.len_of_lt (B := 18446744073709551616) (by omega) _ _ (Nat.lt_of_lt_of_le (D_lt _ u h) (Nat.pow_le_pow_left (by omega) u))

theorem D_bits {x u : Nat} (h : x < 2 ^ (32 * u)) : (D x).length ≤ u := M.len_of_lt (B := 4294967296) (by omega) _ _ (by rw [show (4294967296 : Nat) = 2 ^ 32 by rfl, ← Nat.pow_mul]; exact h)

theorem limbsP {w0 v : World} {ao : Option Addr} {n c i : Nat} {bs : List Nat} (hl : bs.length = n) (hn : n ≤ 1048576) (hb : RdB w0 ao bs) (h : Rp w0 v ao n c i) :
 Calls Tryd.prog 17 #[.pointer (some ⟨w0.heap.size, 0, none⟩)] v fun e v' => ∃ ro rc, e = .returned (.slice ro (limbsAll bs i).1.length rc) ∧ v'.ownsRow v.heap.size 26 1 (.slice ro (limbsAll bs i).1.length rc) (limbsAll bs i).1.length (U (limbsAll bs i).1) ∧ Rp w0 v' ao n c (limbsAll bs i).2 ∧ v.grownBy v' (some w0.heap.size) := by
 obtain ⟨h1, h2, h3⟩ := h
 refine (limbs_any w0.heap.size ao n c i bs v hl hn h1 h2 (hb.below h3) (sep0 hb)).mono ?_
 rintro e v' ⟨ro, rc, rfl, ho, hR, hg⟩
 exact ⟨ro, rc, rfl, ho, ⟨(limbsAll_facts bs i n hl h1 hb.1).1, hR, h3.grown hg h3.size (fun _ e => by cases e; exact Nat.le_refl _)⟩, hg⟩

theorem drr_key (f : Int) (X j A B C : Nat) (T : M.Pt) (ao : Option Addr) (n c : Nat) (bs : List Nat) (w : World) (hl : bs.length = n) (hn : n ≤ 1048576) (hb : RdB w ao bs) (hf : f = fmtF bs 0)
 (kW : ∀ v : World, Rp w v ao n c (drI bs) → Calls Tryd.prog 16 #[.pointer (some ⟨w.heap.size, 0, none⟩), .int .i64 f] v fun e v' => e = .returned (.agg #[.int .u64 (M.hiN X : Int), .int .u64 (M.loN X : Int)]) ∧ X < 2 ^ 128 ∧ Rp w v' ao n c j)
 (kU : X < 2 ^ 128 → ∀ v : World, Calls Tryd.prog 15 #[.int .i64 f, .agg #[.int .u64 (M.hiN X : Int), .int .u64 (M.loN X : Int)]] v fun e v' => e = .returned (.agg #[.int .i64 T.c, .bool T.n, .int .u64 (M.hiN T.s : Int), .int .u64 (M.loN T.s : Int), .int .i64 T.q]) ∧ Below v.heap.size v v')
 (kS : T.c = 3 ∨ T.c = 2 → ∀ v : World, Calls Tryd.prog 18 #[.int .i64 f, .agg #[.int .i64 T.c, .bool T.n, .int .u64 (M.hiN T.s : Int), .int .u64 (M.loN T.s : Int), .int .i64 T.q]] v fun e v' => Sp3 v v' e A B C)
 (hAB : T.c = 3 ∨ T.c = 2 → 0 < A ∧ 0 < B ∧ (D A).length ≤ 600 ∧ (D B).length ≤ 600 ∧ (D C).length ≤ 600) :
 Calls Tryd.prog 4 #[.slice ao n c] w fun e w' => DrR w w' e f (drN bs) (drXs bs j (drK bs) T.c A B) (drYs bs j (drK bs) T.c C) ∧ DrG (drXs bs j (drK bs) T.c A B) (drYs bs j (drK bs) T.c C) := by
 have HF := hid hf; clear hf
 go_enter Tryd.func4, Tryd.ntmps4
 go_wp2_with fail
 have s0 : Rp w (w.alloc (.cells #[.slice ao n c, .int .i64 0] 45)) ao n c 0 := ⟨by omega, heap_alloc_new w _, (Below.refl _ _).alloc (Nat.le_refl _) _⟩
 generalize w.alloc (.cells #[.slice ao n c, .int .i64 0] 45) = v0 at s0 ⊢
 refine (format_at hl hn hb s0).mono ?_
 rw [← HF.out]
 rintro e v1 ⟨rfl, s1⟩
 clear s0
 go_wp2_with fail
 refine (nextP hl hn hb s1).mono ?_
 rintro e v2 ⟨x, i2, HX, hx, rfl, s2, _⟩
 clear s1
 obtain ⟨ng, hng⟩ : ∃ ng : Bool, ((x : Int) % 2 == 1) = ng := ⟨_, rfl⟩
 have HNG : Hid (drN bs = ng) := hid (by
  unfold drN
  rw [← hng, ← (HX.out).1]
  by_cases g : x % 2 = 1
  · rw [decide_eq_true g]; symm; simp; omega
  · rw [decide_eq_false g]; symm; simp; omega)
 have x2 : (x : Int).tmod 2 = (x : Int) % 2 := Int.tmod_eq_emod_of_nonneg (by omega)
 go_wp2_with fail
 refine (nextP hl hn hb s2).mono ?_
 rintro e v3 ⟨k, i3, HK, hk, rfl, s3, _⟩
 clear s2
 have HKK : Hid (drK bs = k ∧ i3 = drI bs) := hid (by
  have a := HX.out; have b := HK.out
  unfold drK drI
  rw [← a.2, ← b.1, ← b.2]; exact ⟨rfl, rfl⟩)
 rw [HKK.out.2] at s3
 clear HX HK hng x2
 go_wp2_with fail
 refine (kW _ s3).mono ?_
 rintro e v4 ⟨rfl, hX8, s4⟩
 clear s3 kW
 go_wp2_with fail
 refine (kU hX8 _).mono ?_
 rintro e v5 ⟨rfl, b5⟩
 have s5 := s4.keep b5
 clear s4 b5 kU hX8
 go_upto_region 6 with fail
 obtain ⟨bP, hbP⟩ : ∃ bP, bP = v5.heap.size := ⟨_, rfl⟩
 have p6 : Cls (v5.alloc (.cells #[.int .i64 T.c, .bool T.n, .int .u64 (M.hiN T.s : Int), .int .u64 (M.loN T.s : Int), .int .i64 T.q] 33)) bP #[.int .i64 T.c, .bool T.n, .int .u64 (M.hiN T.s : Int), .int .u64 (M.loN T.s : Int), .int .i64 T.q] 33 := by rw [hbP]; exact Cls.new _ _ _
 have s6 := s5.alloc (.cells #[.int .i64 T.c, .bool T.n, .int .u64 (M.hiN T.s : Int), .int .u64 (M.loN T.s : Int), .int .i64 T.q] 33)
 rw [← hbP]
 generalize v5.alloc (.cells #[.int .i64 T.c, .bool T.n, .int .u64 (M.hiN T.s : Int), .int .u64 (M.loN T.s : Int), .int .i64 T.q] 33) = v6 at *
 clear hbP s5
 have k4 : (k : Int).tmod 4 = ((k % 4 : Nat) : Int) := by rw [Int.tmod_eq_emod_of_nonneg (by omega)]; omega
 obtain ⟨cn, hcn⟩ : ∃ cn : Bool, cn = decide (k % 4 = 0 ∨ ¬ (T.c = 3 ∨ T.c = 2)) := ⟨_, rfl⟩
 have HC := hid hcn; clear hcn
 go_cut [45] (fun z wx => z = .bool cn ∧ v6 = wx)
 case first =>
  have c0 := p6.cell 0 rfl
  by_cases g4 : k % 4 = 0
  · have e4 : ((k : Int) % 4 == 0) = true := by simp; omega
    have e4' : (k : Int) % 4 = 0 := by omega
    have HCt : Hid (cn = true) := hid (by rw [HC.out]; simp [g4])
    go_wp2_with fail
    go_meet
    case rel => exact ⟨by rw [HCt.out], rfl⟩
  · have e4 : ((k : Int) % 4 == 0) = false := by simp; omega
    have e4' : ¬ (k : Int) % 4 = 0 := by omega
    by_cases g3 : T.c = 3
    · have HCt : Hid (cn = false) := hid (by rw [HC.out]; simp [g4, g3])
      have g3' : (T.c != 3) = false := by simp [g3]
      go_wp2_with fail
      go_meet
      case rel => exact ⟨by rw [HCt.out], rfl⟩
    · have g3' : (T.c != 3) = true := by simp [g3]
      by_cases g2 : T.c = 2
      · have HCt : Hid (cn = false) := hid (by rw [HC.out]; simp [g4, g2])
        have g2' : (T.c != 2) = false := by simp [g2]
        go_wp2_with fail
        go_meet
        case rel => exact ⟨by rw [HCt.out], rfl⟩
      · have HCt : Hid (cn = true) := hid (by rw [HC.out]; simp [g3, g2])
        have g2' : (T.c != 2) = true := by simp [g2]
        go_wp2_with fail
        go_meet
        case rel => exact ⟨by rw [HCt.out], rfl⟩
 case rest =>
 obtain ⟨rfl, rfl⟩ := hcut
 obtain rfl | rfl : cn = true ∨ cn = false := by cases cn <;> simp
 · have hq : k % 4 = 0 ∨ ¬ (T.c = 3 ∨ T.c = 2) := of_decide_eq_true HC.out.symm
   have HX1 : Hid (drXs bs j (drK bs) T.c A B = (limbsAll bs j).1) := hid (by rw [HKK.out.1]; unfold drXs; rw [if_pos hq])
   have HY1 : Hid (drYs bs j (drK bs) T.c C = if k % 8 = 0 ∧ (limbsAll bs (limbsAll bs j).2).1.length = 0 then [3] else (limbsAll bs (limbsAll bs j).2).1) := hid (by rw [HKK.out.1]; unfold drYs; rw [if_pos hq])
   clear kS hAB p6 HC
   go_wp2_with fail
   refine (limbsP hl hn hb s6).mono ?_
   rintro e v7 ⟨ra, ca, rfl, o7, s7, g7⟩
   have z6 := s6.lt
   have j0 := s6.1
   have z7 := s7.lt
   clear s6
   go_wp2_with fail
   refine (limbsP hl hn hb s7).mono ?_
   rintro e v8 ⟨rb, cb, rfl, o8, s8, g8⟩
   have o78 := own_grown o7 g8 z6
   have r7 := Rd.own o78
   have r8 := Rd.own o8
   have q7 := own_cap o78
   have q8 := own_cap o8
   have b8 := s8.below
   have f7 := limbsAll_facts bs j n hl j0 hb.1
   have f8 := limbsAll_facts bs _ n hl f7.1 hb.1
   clear o7 o8 o78 g7 g8 s7 s8 z6 z7
   obtain ⟨xs, exs⟩ : ∃ xs, xs = (limbsAll bs j).1 := ⟨_, rfl⟩
   obtain ⟨ys, eys⟩ : ∃ ys, ys = (limbsAll bs (limbsAll bs j).2).1 := ⟨_, rfl⟩
   rw [← exs] at r7 q7 f7 ⊢
   rw [← eys] at r8 q8 f8 ⊢
   have EXS := hid exs; have EYS := hid eys
   clear exs eys
   have k8 : (k : Int).tmod 8 = ((k % 8 : Nat) : Int) := by rw [Int.tmod_eq_emod_of_nonneg (by omega)]; omega
   go_upto_region 9 with fail
   obtain ⟨c8, hc8⟩ : ∃ c8 : Bool, c8 = decide (k % 8 = 0 ∧ ys.length = 0) := ⟨_, rfl⟩
   have H8 := hid hc8; clear hc8
   go_cut [57] (fun z wx => z = .bool c8 ∧ v8 = wx)
   case first =>
    by_cases g8 : k % 8 = 0
    · have e8 : ((k : Int) % 8 == 0) = true := by simp; omega
      have e8' : (k : Int) % 8 = 0 := by omega
      by_cases gy : ys.length = 0
      · have HCt : Hid (c8 = true) := hid (by rw [H8.out]; simp [g8, gy])
        have gy' : ((ys.length : Int) == 0) = true := by simp [gy]
        go_wp2_with fail
        go_meet
        case rel => exact ⟨by rw [HCt.out], rfl⟩
      · have HCt : Hid (c8 = false) := hid (by rw [H8.out]; simp [gy])
        have gy' : ((ys.length : Int) == 0) = false := by simp [gy]
        go_wp2_with fail
        go_meet
        case rel => exact ⟨by rw [HCt.out], rfl⟩
    · have e8 : ((k : Int) % 8 == 0) = false := by simp; omega
      have e8' : ¬ (k : Int) % 8 = 0 := by omega
      have HCt : Hid (c8 = false) := hid (by rw [H8.out]; simp [g8])
      go_wp2_with fail
      go_meet
      case rel => exact ⟨by rw [HCt.out], rfl⟩
   case rest =>
   obtain ⟨rfl, rfl⟩ := hcut
   obtain rfl | rfl : c8 = true ∨ c8 = false := by cases c8 <;> simp
   · have hz : k % 8 = 0 ∧ ys.length = 0 := of_decide_eq_true H8.out.symm
     have HZ : Hid ((if k % 8 = 0 ∧ ys.length = 0 then [3] else ys) = [3]) := hid (by rw [if_pos hz])
     clear hz H8
     go_wp2_with fail
     rw [HX1.out, HY1.out, ← EXS.out, ← EYS.out, HZ.out, HNG.out]
     have bz := (Below.refl v8.heap.size v8).alloc (Nat.le_refl _) (.cells #[.int .u64 3] 26)
     have hB : Blk (v8.alloc (.cells #[.int .u64 3] 26)) v8.heap.size [3] := heap_alloc_new v8 _
     exact bodyPost_ret (v := .tuple #[.int .i64 f, .bool ng, .slice ra xs.length ca, .slice (some ⟨v8.heap.size, 0, none⟩) 1 1]) (by simp [results, Tryd.results4, go_sem]) rfl ⟨⟨ra, ca, _, 1, rfl, r7.below bz, hB.rd0, q7, by simp, b8.trans (bz.mono b8.size)⟩, f7.2.1, by intro z hz; simp at hz; omega, f7.2.2, by simp⟩
   · have hz : ¬ (k % 8 = 0 ∧ ys.length = 0) := of_decide_eq_false H8.out.symm
     have HZ : Hid ((if k % 8 = 0 ∧ ys.length = 0 then [3] else ys) = ys) := hid (by rw [if_neg hz])
     clear hz H8
     go_wp2_with fail
     rw [HX1.out, HY1.out, ← EXS.out, ← EYS.out, HZ.out, HNG.out]
     exact bodyPost_ret (v := .tuple #[.int .i64 f, .bool ng, .slice ra xs.length ca, .slice rb ys.length cb]) (by simp [results, Tryd.results4, go_sem]) rfl ⟨⟨ra, ca, rb, cb, rfl, r7, r8, q7, q8, b8⟩, f7.2.1, f8.2.1, f7.2.2, f8.2.2⟩
 · have hq : ¬ (k % 4 = 0 ∨ ¬ (T.c = 3 ∨ T.c = 2)) := of_decide_eq_false HC.out.symm
   have hc23 : T.c = 3 ∨ T.c = 2 := by omega
   have HX1 : Hid (drXs bs j (drK bs) T.c A B = L (drA k (drS k A B))) := hid (by rw [HKK.out.1]; unfold drXs; rw [if_neg hq])
   have HY1 : Hid (drYs bs j (drK bs) T.c C = L (drC k C)) := hid (by rw [HKK.out.1]; unfold drYs; rw [if_neg hq])
   obtain ⟨hA0, hB0, hA1, hB1, lC⟩ := hAB hc23
   have kS' := kS hc23
   clear kS hAB HC hq
   have c0 := p6.cell 0 rfl
   have c1 := p6.cell 1 rfl
   have c2 := p6.cell 2 rfl
   have c3 := p6.cell 3 rfl
   have c4 := p6.cell 4 rfl
   go_wp2_with fail
   refine (kS' _).mono ?_
   rintro e v7 ⟨a, ca, b, cb, d, cd, rfl, rA, rB, rC, b7⟩
   have bw := s6.below.trans (b7.mono s6.below.size)
   clear s6 b7 c0 c1 c2 c3 c4 p6 kS'
   have k3 : (k : Int).tmod 3 = ((k % 3 : Nat) : Int) := by rw [Int.tmod_eq_emod_of_nonneg (by omega)]; omega
   go_upto_if 73 with fail
   go_cut [16] (fun z wx => ∃ (S : Nat) (ra : Option Addr) (cs : Nat), Hid (S = drS k A B) ∧ 0 < S ∧ (D S).length ≤ 600 ∧ z = .slice ra (D S).length cs ∧ Rd wx ra (D S) ∧ v7 = wx)
   case first =>
    by_cases g3 : k % 3 = 1
    · have e3 : ((k : Int) % 3 == 1) = true := by simp; omega
      have e3' : (k : Int) % 3 = 1 := by omega
      have HSS : Hid (A = drS k A B) := hid (by unfold drS; rw [if_pos g3])
      clear g3
      go_wp2_with fail
      go_meet
      case rel => exact ⟨A, a, ca, HSS, hA0, hA1, rfl, rA, rfl⟩
    · have e3 : ((k : Int) % 3 == 1) = false := by simp; omega
      have e3' : ¬ (k : Int) % 3 = 1 := by omega
      have HSS : Hid (B = drS k A B) := hid (by unfold drS; rw [if_neg g3])
      clear g3
      go_wp2_with fail
      go_meet
      case rel => exact ⟨B, b, cb, HSS, hB0, hB1, rfl, rB, rfl⟩
   case rest =>
   obtain ⟨S, ra, cs, HS, hS0, lS, rfl, rS, rfl⟩ := hcut
   clear rA rB hA0 hA1 hB0 hB1
   have l1 : (D 1).length ≤ 1 := D_bits (by omega)
   have k5 : (k : Int).tmod 5 = ((k % 5 : Nat) : Int) := by rw [Int.tmod_eq_emod_of_nonneg (by omega)]; omega
   obtain ⟨r, hr⟩ : ∃ r : Nat, r = k % 5 := ⟨_, rfl⟩
   rw [← hr] at k5
   have k5' : (k : Int) % 5 = (r : Int) := by omega
   have hr5 : r < 5 := by omega
   have HR := hid hr; clear hr
   go_upto_block 0 with fail
   go_cut [15, 16] (fun zc zn wx => ∃ (N Q : Nat) (na : Option Addr) (cna : Nat) (qa : Option Addr) (cqa : Nat), Hid (N = drA k S ∧ Q = drC k C) ∧ (D N).length ≤ 700 ∧ (D Q).length ≤ 700 ∧ zn = .slice na (D N).length cna ∧ zc = .slice qa (D Q).length cqa ∧ Rd wx na (D N) ∧ Rd wx qa (D Q) ∧ Below v7.heap.size v7 wx)
   case first =>
    obtain ⟨E, hE⟩ : ∃ E : Nat, E = S * 2 ^ 70 := ⟨_, rfl⟩
    obtain ⟨G, hG⟩ : ∃ G : Nat, G = C * 2 ^ 70 := ⟨_, rfl⟩
    have h70 : (D E).length ≤ 604 := by rw [hE]; exact Nat.le_trans (M.len_mul (B := 4294967296) (by omega) _ _ 600 4 lS (D_bits (by omega))) (by omega)
    have c70 : (D G).length ≤ 604 := by rw [hG]; exact Nat.le_trans (M.len_mul (B := 4294967296) (by omega) _ _ 600 4 lC (D_bits (by omega))) (by omega)
    have kE : ∀ v : World, Rd v ra (D S) → Calls Tryd.prog 20 #[.slice ra (D S).length cs, .int .i64 70] v fun e w' => Ret v w' e (D E) := fun v h => by rw [hE]; exact l1Left_any ra _ cs 70 S v rfl (by omega) (by omega) h
    have kG : ∀ v : World, Rd v d (D C) → Calls Tryd.prog 20 #[.slice d (D C).length cd, .int .i64 70] v fun e w' => Ret v w' e (D G) := fun v h => by rw [hG]; exact l1Left_any d _ cd 70 C v rfl (by omega) (by omega) h
    have hp : 1 ≤ E := by rw [hE]; exact Nat.mul_pos hS0 (Nat.pow_pos (by omega))
    have HEG := hid (And.intro hE hG); clear hE hG
    rcases (show r = 0 ∨ r = 1 ∨ r = 2 ∨ r = 3 ∨ r = 4 by omega) with rfl | rfl | rfl | rfl | rfl
    · have HNQ : Hid (S = drA k S ∧ C = drC k C) := hid (by have := HR.out; unfold drA drC; constructor <;> rw [if_neg (by omega), if_neg (by omega), if_neg (by omega)] ; rw [if_neg (by omega)])
      go_wp2_with fail
      go_meet
      case rel => exact ⟨S, C, ra, cs, d, cd, HNQ, by omega, by omega, rfl, rfl, rS, rC, Below.refl _ _⟩
    · have HNQ : Hid (E + 1 = drA k S ∧ G = drC k C) := hid (by have := HR.out; rw [HEG.out.1, HEG.out.2]; unfold drA drC; constructor <;> rw [if_pos (by omega)])
      go_wp2_with fail
      refine (kE _ rS).mono ?_
      rintro e u1 ⟨a1, d1, rfl, o1, b1⟩
      go_wp2_with fail
      refine (l1Of_any 1 _ (by omega)).mono ?_
      rintro e u2 ⟨a2, d2, rfl, o2, b2⟩
      go_wp2_with fail
      refine (l1Add_any a1 a2 _ _ d1 d2 E 1 _ rfl rfl (by omega) (by omega) ((Rd.own o1).below b2) (Rd.own o2)).mono ?_
      rintro e u3 ⟨a3, d3, rfl, o3, b3⟩
      go_wp2_with fail
      refine (kG _ (((rC.below b1).below b2).below b3)).mono ?_
      rintro e u4 ⟨a4, d4, rfl, o4, b4⟩
      have l3 : (D (E + 1)).length ≤ 700 := Nat.le_trans (M.len_add (B := 4294967296) (by omega) _ _ 604 h70 (Nat.le_trans l1 (by omega))) (by omega)
      have c1 := b1.trans (b2.mono b1.size)
      have c2 := c1.trans (b3.mono c1.size)
      have c3 := c2.trans (b4.mono c2.size)
      have r3 := (Rd.own o3).below b4
      have r4 := Rd.own o4
      clear o1 o2 o3 o4 b1 b2 b3 b4 c1 c2
      go_wp2_with fail
      go_meet
      case rel => exact ⟨_, _, a3, d3, a4, d4, HNQ, l3, by omega, rfl, rfl, r3, r4, c3⟩
    · have HNQ : Hid (E - 1 = drA k S ∧ G = drC k C) := hid (by have := HR.out; rw [HEG.out.1, HEG.out.2]; unfold drA drC; constructor <;> rw [if_neg (by omega), if_pos (by omega)])
      go_wp2_with fail
      refine (kE _ rS).mono ?_
      rintro e u1 ⟨a1, d1, rfl, o1, b1⟩
      go_wp2_with fail
      refine (l1Of_any 1 _ (by omega)).mono ?_
      rintro e u2 ⟨a2, d2, rfl, o2, b2⟩
      go_wp2_with fail
      refine (l1Sub_any a1 a2 _ _ d1 d2 E 1 _ rfl rfl hp (by omega) ((Rd.own o1).below b2) (Rd.own o2)).mono ?_
      rintro e u3 ⟨a3, d3, rfl, o3, b3⟩
      go_wp2_with fail
      refine (kG _ (((rC.below b1).below b2).below b3)).mono ?_
      rintro e u4 ⟨a4, d4, rfl, o4, b4⟩
      have l3 : (D (E - 1)).length ≤ 700 := M.len_of_lt (B := 4294967296) (by omega) _ _ (Nat.lt_of_le_of_lt (Nat.sub_le _ _) (D_lt _ 700 (by omega)))
      have c1 := b1.trans (b2.mono b1.size)
      have c2 := c1.trans (b3.mono c1.size)
      have c3 := c2.trans (b4.mono c2.size)
      have r3 := (Rd.own o3).below b4
      have r4 := Rd.own o4
      clear o1 o2 o3 o4 b1 b2 b3 b4 c1 c2
      go_wp2_with fail
      go_meet
      case rel => exact ⟨_, _, a3, d3, a4, d4, HNQ, l3, by omega, rfl, rfl, r3, r4, c3⟩
    · have HNQ : Hid (S * 7 = drA k S ∧ C * 7 = drC k C) := hid (by have := HR.out; unfold drA drC; constructor <;> rw [if_neg (by omega), if_neg (by omega), if_pos (by omega)])
      have l1' : (D (S * 7)).length ≤ 601 := Nat.le_trans (M.len_mul (B := 4294967296) (by omega) _ _ 600 1 lS (D_bits (by omega))) (by omega)
      have l2' : (D (C * 7)).length ≤ 601 := Nat.le_trans (M.len_mul (B := 4294967296) (by omega) _ _ 600 1 lC (D_bits (by omega))) (by omega)
      go_wp2_with fail
      refine (l1Times_any ra _ cs 7 S _ rfl (by omega) (by omega) rS).mono ?_
      rintro e u1 ⟨a1, d1, rfl, o1, b1⟩
      go_wp2_with fail
      refine (l1Times_any d _ cd 7 C _ rfl (by omega) (by omega) (rC.below b1)).mono ?_
      rintro e u2 ⟨a2, d2, rfl, o2, b2⟩
      have c1 := b1.trans (b2.mono b1.size)
      have r3 := (Rd.own o1).below b2
      have r4 := Rd.own o2
      clear o1 o2 b1 b2
      go_wp2_with fail
      go_meet
      case rel => exact ⟨_, _, a1, d1, a2, d2, HNQ, by omega, by omega, rfl, rfl, r3, r4, c1⟩
    · obtain ⟨t, ht⟩ : ∃ t : Nat, t = k % 3 := ⟨_, rfl⟩
      have HNQ : Hid (S + t = drA k S ∧ C = drC k C) := hid (by
       have := HR.out
       unfold drA drC
       constructor
       · rw [if_neg (by omega), if_neg (by omega), if_neg (by omega), if_pos (by omega), ht]
       · rw [if_neg (by omega), if_neg (by omega), if_neg (by omega)])
      have ht3 : t < 3 := by omega
      have ktI : (k : Int) % 3 = (t : Int) := by omega
      have lt : (D t).length ≤ 1 := D_bits (by omega)
      rw [← ht] at k3
      clear ht
      go_wp2_with fail
      refine (l1Of_any t _ (by omega)).mono ?_
      rintro e u1 ⟨a1, d1, rfl, o1, b1⟩
      go_wp2_with fail
      refine (l1Add_any ra a1 _ _ cs d1 S t _ rfl rfl (by omega) (by omega) (rS.below b1) (Rd.own o1)).mono ?_
      rintro e u2 ⟨a2, d2, rfl, o2, b2⟩
      have l3 : (D (S + t)).length ≤ 700 := Nat.le_trans (M.len_add (B := 4294967296) (by omega) _ _ 600 lS (Nat.le_trans lt (by omega))) (by omega)
      have c1 := b1.trans (b2.mono b1.size)
      have r3 := Rd.own o2
      have r4 := (rC.below b1).below b2
      clear o1 o2 b1 b2
      go_wp2_with fail
      go_meet
      case rel => exact ⟨_, _, a2, d2, d, cd, HNQ, l3, by omega, rfl, rfl, r3, r4, c1⟩
   case rest =>
   obtain ⟨N, Q, na, cna, qa, cqa, HNQ, lN, lQ, rfl, rfl, rN, rQ, b8⟩ := hcut
   rename World => v8
   have bw8 := bw.trans (b8.mono bw.size)
   go_wp2_with fail
   refine (l1Out_any na _ cna N _ rfl (by omega) rN).mono ?_
   rintro e v9 ⟨xa, xc, rfl, o9, b9⟩
   go_wp2_with fail
   refine (l1Out_any qa _ cqa Q _ rfl (by omega) (rQ.below b9)).mono ?_
   rintro e v10 ⟨ya, yc, rfl, o10, b10⟩
   have bw9 := bw8.trans (b9.mono bw8.size)
   have bw10 := bw9.trans (b10.mono bw9.size)
   have o9' := own_below o9 b10
   clear o9 rS rC
   go_wp2_with fail
   rw [HX1.out, HY1.out, HNG.out, ← HS.out, ← HNQ.out.1, ← HNQ.out.2]
   exact bodyPost_ret (v := .tuple #[.int .i64 f, .bool ng, .slice xa (L N).length xc, .slice ya (L Q).length yc]) (by simp [results, Tryd.results4, go_sem]) rfl ⟨⟨xa, xc, ya, yc, rfl, Rd.own o9', Rd.own o10, own_cap o9', own_cap o10, bw10⟩, F64_L _, F64_L _, Nat.le_trans (L_of_D lN) (by omega), Nat.le_trans (L_of_D lQ) (by omega)⟩

end Go.Proofs.YtogkkecnmlnajaaDoor
