import Derived.Test.YtmglhkdgfcbonaaGreatDoorrNN
import Derived.Test.YtmglhkdgfcbonaaGreatDoorrBnZ
set_option maxHeartbeats 4000000
namespace Go.Proofs.YtmglhkdgfcbonaaGreatDoor
open Go.RowKit
set_option linter.unusedVariables false
set_option maxRecDepth 100000
def Sn (w w' : World) (e : Ending) (N : Nat) : Prop := ∃ ao cap, e = .returned (.slice ao (L N).length cap) ∧ Rd w' ao (L N) ∧ Below w.heap.size w w'

theorem Ret.sn {w w' : World} {e : Ending} {N : Nat} (h : Ret w w' e (L N)) : Sn w w' e N := by
 obtain ⟨ao, cap, he, ho, hb⟩ := h
 exact ⟨ao, cap, he, Rd.own ho, hb⟩

theorem natMul (A B : Nat) (ao bo : Option Addr) (c d : Nat) (v : World) (h1 : (L A).length ≤ 1200) (h2 : (L B).length ≤ 1200) (r1 : Rd v ao (L A)) (r2 : Rd v bo (L B)) :
 Calls Tryz.prog 22 #[.slice ao (L A).length c, .slice bo (L B).length d] v fun e w' => Sn v w' e (A * B) := by
 refine (specNatMul_any ao bo _ _ c d (L A) (L B) v rfl rfl (by omega) (by omega) (F64_L _) (F64_L _) r1 r2).mono ?_
 intro e w' h
 have e1 : mulDoc (L A) (L B) = L (A * B) := by unfold mulDoc; rw [if_pos ⟨h1, h2⟩, V_L, V_L]
 rw [e1] at h
 exact h.sn

theorem natAdd (A B : Nat) (ao bo : Option Addr) (c d : Nat) (v : World) (h1 : (L A).length ≤ 1200) (h2 : (L B).length ≤ 1200) (r1 : Rd v ao (L A)) (r2 : Rd v bo (L B)) :
 Calls Tryz.prog 25 #[.slice ao (L A).length c, .slice bo (L B).length d] v fun e w' => Sn v w' e (A + B) := by
 refine (specNatAdd_any ao bo _ _ c d (L A) (L B) v rfl rfl (by omega) (by omega) (F64_L _) (F64_L _) r1 r2).mono ?_
 intro e w' h
 have e1 : addDoc (L A) (L B) = L (A + B) := by unfold addDoc; rw [if_pos ⟨h1, h2⟩, V_L, V_L]
 rw [e1] at h
 exact h.sn

theorem natCmp (A B : Nat) (ao bo : Option Addr) (c d : Nat) (v : World) (h1 : (L A).length ≤ 1200) (h2 : (L B).length ≤ 1200) (r1 : Rd v ao (L A)) (r2 : Rd v bo (L B)) :
 Calls Tryz.prog 27 #[.slice ao (L A).length c, .slice bo (L B).length d] v fun e w' => e = .returned (.int .i64 (cmpI (A : Int) (B : Int))) ∧ Below v.heap.size v w' := by
 have := specNatCmp_any ao bo _ _ c d (L A) (L B) v rfl rfl (by omega) (by omega) (F64_L _) (F64_L _) r1 r2
 have e1 : cmpDoc (L A) (L B) = cmpI (A : Int) (B : Int) := by unfold cmpDoc; rw [if_pos ⟨h1, h2⟩, V_L, V_L]
 rwa [e1] at this

theorem natShl (A s : Nat) (ao : Option Addr) (c : Nat) (v : World) (hs : s ≤ 80000) (h1 : (L A).length ≤ 1200) (r1 : Rd v ao (L A)) :
 Calls Tryz.prog 64 #[.slice ao (L A).length c, .int .i64 (s : Int)] v fun e w' => Sn v w' e (A * 2 ^ s) := by
 refine (specNatShift_any ao _ c (L A) (s : Int) v rfl (by omega) (F64_L _) r1).mono ?_
 intro e w' h
 have e1 : shDoc (L A) (s : Int) = L (A * 2 ^ s) := by unfold shDoc; rw [if_pos ⟨h1, by omega, by omega⟩, V_L, shVal_left]
 rw [e1] at h
 exact h.sn

theorem natSub (A B : Nat) (ao bo : Option Addr) (c d : Nat) (v : World) (h1 : (L A).length ≤ 1200) (h2 : (L B).length ≤ 1200) (r1 : Rd v ao (L A)) (r2 : Rd v bo (L B)) :
 Calls Tryz.prog 26 #[.slice ao (L A).length c, .slice bo (L B).length d] v fun e w' => ∃ x cap, e = .returned (.tuple #[.slice x (if B ≤ A then L (A - B) else []).length cap, .bool (decide (B ≤ A))]) ∧ Rd w' x (if B ≤ A then L (A - B) else []) ∧ Below v.heap.size v w' := by
 refine (specNatSub_any ao bo _ _ c d (L A) (L B) v rfl rfl (by omega) (by omega) (F64_L _) (F64_L _) r1 r2).mono ?_
 intro e w' h
 have e1 : subOk (L A) (L B) = decide (B ≤ A) := by unfold subOk; rw [V_L, V_L]; simp [h1, h2]
 have e2 : subDoc (L A) (L B) = if B ≤ A then L (A - B) else [] := by
  unfold subDoc
  rw [e1, V_L, V_L]
  by_cases g : B ≤ A <;> simp [g]
 rw [e1, e2] at h
 obtain ⟨x, cap, he, ho, hb⟩ := h
 exact ⟨x, cap, he, Rd.own ho, hb⟩

theorem natDiv (A B : Nat) (hB : 0 < B) (ao bo : Option Addr) (c d : Nat) (v : World) (h1 : (L A).length ≤ 1200) (h2 : (L B).length ≤ 1200) (r1 : Rd v ao (L A)) (r2 : Rd v bo (L B)) :
 Calls Tryz.prog 24 #[.slice ao (L A).length c, .slice bo (L B).length d] v fun e w' => ∃ x cx y cy, e = .returned (.tuple #[.slice x (L (A / B)).length cx, .slice y (L (A % B)).length cy, .bool true]) ∧ Rd w' x (L (A / B)) ∧ Rd w' y (L (A % B)) ∧ Below v.heap.size v w' := by
 refine (specNatDivMod_any ao bo _ _ c d (L A) (L B) v rfl rfl (by omega) (by omega) (F64_L _) (F64_L _) r1 r2).mono ?_
 intro e w' h
 have e0 : divOk (L A) (L B) = true := by unfold divOk; rw [V_L]; simp [h1, h2, hB]
 have e1 : divQ (L A) (L B) = L (A / B) := by unfold divQ; rw [e0, V_L, V_L]; rfl
 have e2 : divR (L A) (L B) = L (A % B) := by unfold divR; rw [e0, V_L, V_L]; rfl
 rw [e0, e1, e2] at h
 obtain ⟨x, cx, y, cy, m, he, _, _, o1, o2, hb⟩ := h
 exact ⟨x, cx, y, cy, he, o1.rd, o2.rd, hb⟩

theorem ten_any (z : Nat) (hz : z ≤ 6000) (w : World) :
 Calls Tryz.prog 65 #[.int .i64 (z : Int)] w fun e w' => Sn w w' e (10 ^ z) := by
 have e1 : powDoc 10 (z : Int) = L (10 ^ z) := by
  unfold powDoc
  rw [if_pos ⟨by omega, by omega, by rw [show blen 10 = 4 by decide]; simp; omega⟩]; simp
 have k := specNatPow_any 10 (z : Int) w (by omega)
 rw [e1] at k
 go_enter Tryz.func65, Tryz.ntmps65
 go_wp2_with fail
 refine k.mono ?_
 intro e w' h
 have hs := h.sn
 obtain ⟨ao, cap, rfl, ho, hb⟩ := h
 go_wp2_with fail
 go_ret
 exact hs

def wJ (A lo hi : Nat) (cl : Bool) : Bool := (decide (cmpI (A : Int) (lo : Int) = 1) || decide (cmpI (A : Int) (lo : Int) = 0) && cl) && (decide (cmpI (A : Int) (hi : Int) = -1) || decide (cmpI (A : Int) (hi : Int) = 0) && cl)

theorem wJ_eq (A lo hi : Nat) (cl : Bool) : wJ A lo hi cl = if cl then decide (lo ≤ A ∧ A ≤ hi) else decide (lo < A ∧ A < hi) := by
 have c1 : ∀ a b : Nat, (cmpI (a : Int) (b : Int) = 1 ↔ b < a) ∧ (cmpI (a : Int) (b : Int) = 0 ↔ a = b) ∧ (cmpI (a : Int) (b : Int) = -1 ↔ a < b) := by
  intro a b
  unfold cmpI
  split
  · refine ⟨?_, ?_, ?_⟩ <;> constructor <;> intro h <;> omega
  · split
    · refine ⟨?_, ?_, ?_⟩ <;> constructor <;> intro h <;> omega
    · refine ⟨?_, ?_, ?_⟩ <;> constructor <;> intro h <;> omega
 obtain ⟨a1, a2, -⟩ := c1 A lo
 obtain ⟨-, b2, b3⟩ := c1 A hi
 unfold wJ
 simp only [a1, a2, b2, b3]
 rw [Bool.eq_iff_iff]
 cases cl <;> simp <;> omega

theorem cmpI_or (a b : Int) : cmpI a b = -1 ∨ cmpI a b = 0 ∨ cmpI a b = 1 := by
 unfold cmpI
 split
 · simp
 · split <;> simp

theorem within_any (A lo hi : Nat) (cl : Bool) (ao bo ho : Option Addr) (c d g : Nat) (v : World) (h1 : (L A).length ≤ 1200) (h2 : (L lo).length ≤ 1200) (h3 : (L hi).length ≤ 1200) (r1 : Rd v ao (L A)) (r2 : Rd v bo (L lo)) (r3 : Rd v ho (L hi)) :
 Calls Tryz.prog 23 #[.slice ao (L A).length c, .slice bo (L lo).length d, .slice ho (L hi).length g, .bool cl] v fun e w' => e = .returned (.bool (wJ A lo hi cl)) ∧ Below v.heap.size v w' := by
 have k1 := natCmp A lo ao bo c d v h1 h2 r1 r2
 have k2 := fun (u : World) (hu : Below v.heap.size v u) => natCmp A hi ao ho c g u h1 h3 (r1.below hu) (r3.below hu)
 have o1 := cmpI_or (A : Int) (lo : Int)
 have o2 := cmpI_or (A : Int) (hi : Int)
 unfold wJ
 generalize cmpI (A : Int) (lo : Int) = x at *
 generalize cmpI (A : Int) (hi : Int) = y at *
 clear r1 r2 r3
 rcases o1 with rfl | rfl | rfl <;> rcases o2 with rfl | rfl | rfl <;> cases cl
 all_goals
  go_enter Tryz.func23, Tryz.ntmps23
  go_wp2_with fail
  refine k1.mono ?_
  rintro e v1 ⟨rfl, hb1⟩
  go_wp2_with fail
  refine (k2 v1 hb1).mono ?_
  rintro e v2 ⟨rfl, hb2⟩
  go_wp2_with fail
  go_ret
  exact ⟨rfl, hb1.trans (hb2.mono hb1.size)⟩

theorem apart_any (A B : Nat) (ao bo : Option Addr) (c d : Nat) (v : World) (h1 : (L A).length ≤ 1200) (h2 : (L B).length ≤ 1200) (r1 : Rd v ao (L A)) (r2 : Rd v bo (L B)) :
 Calls Tryz.prog 28 #[.slice ao (L A).length c, .slice bo (L B).length d] v fun e w' => Sn v w' e (if B ≤ A then A - B else B - A) := by
 have k1 := natSub A B ao bo c d v h1 h2 r1 r2
 have k2 := fun (u : World) (hu : Below v.heap.size v u) => natSub B A bo ao d c u h2 h1 (r2.below hu) (r1.below hu)
 clear r1 r2
 by_cases g : B ≤ A
 · simp only [g, decide_true] at k1 ⊢
   go_enter Tryz.func28, Tryz.ntmps28
   go_wp2_with fail
   refine k1.mono ?_
   rintro e v1 ⟨x, cap, rfl, rx, hb1⟩
   go_wp2_with fail
   go_ret
   exact ⟨x, cap, rfl, rx, hb1⟩
 · have g2 : A ≤ B := by omega
   simp only [g, decide_false] at k1 ⊢
   simp only [g2, decide_true] at k2
   go_enter Tryz.func28, Tryz.ntmps28
   go_wp2_with fail
   refine k1.mono ?_
   rintro e v1 ⟨x, cap, rfl, rx, hb1⟩
   go_wp2_with fail
   refine (k2 v1 hb1).mono ?_
   rintro e v2 ⟨y, cay, rfl, ry, hb2⟩
   go_wp2_with fail
   go_ret
   exact ⟨y, cay, rfl, ry, hb1.trans (hb2.mono hb1.size)⟩

def S4 (w w' : World) (e : Ending) (A B M U : Nat) : Prop :=
 ∃ a ca b cb m cm u cu, e = .returned (.tuple #[.slice a (L A).length ca, .slice b (L B).length cb, .slice m (L M).length cm, .slice u (L U).length cu]) ∧ Rd w' a (L A) ∧ Rd w' b (L B) ∧ Rd w' m (L M) ∧ Rd w' u (L U) ∧ Below w.heap.size w w'

theorem scaledP (f x y tc tq : Int) (tn : Bool) (s A B C Md : Nat) (cl : Bool) (w : World) (hs : s < 2 ^ 128) (hq : -17000 ≤ tq ∧ tq ≤ 17000) (hMd : Md = 4 * s * 2 ^ (tq - 2).toNat) (z : Nat) (hz : z ≤ 6000) (lA : (L A).length ≤ 600) (lB : (L B).length ≤ 600) (lC : (L C).length ≤ 600) (lM : (L Md).length ≤ 600) (lS : (L (s * 4)).length ≤ 600) (lT : (L (10 ^ z)).length ≤ 600)
 (kB : ∀ v : World, Calls Tryz.prog 20 #[.int .i64 f, .agg #[.int .u64 x, .int .u64 y]] v fun e w' => Iv v w' e A B C cl)
 (kU : ∀ v : World, Calls Tryz.prog 18 #[.int .i64 f, .agg #[.int .u64 x, .int .u64 y]] v fun e w' => e = .returned (.agg #[.int .i64 tc, .bool tn, .int .u64 (M.hiN s : Int), .int .u64 (M.loN s : Int), .int .i64 tq]) ∧ Below v.heap.size v w') :
 Calls Tryz.prog 21 #[.int .i64 f, .agg #[.int .u64 x, .int .u64 y], .int .i64 (z : Int)] w fun e w' => S4 w w' e A B Md (C * 10 ^ z) := by
 have hF : F64 [M.loN s, M.hiN s] := by
  intro v hv
  simp only [List.mem_cons, List.not_mem_nil, or_false] at hv
  rcases hv with rfl | rfl
  · unfold M.loN; omega
  · unfold M.hiN; omega
 have hV : V [M.loN s, M.hiN s] = s := by
  simp only [V, M.val]
  unfold M.loN M.hiN
  omega
 have kSh : ∀ (v : World) (ao : Option Addr) (c : Nat), Rd v ao [M.loN s, M.hiN s] → Calls Tryz.prog 64 #[.slice ao 2 c, .int .i64 2] v fun e w' => Sn v w' e (s * 4) := fun v ao c hr => by
  refine (specNatShift_any ao 2 c _ 2 v rfl (by omega) hF hr).mono ?_
  intro e w' h
  have e1 : shDoc [M.loN s, M.hiN s] 2 = L (s * 4) := by unfold shDoc; rw [if_pos ⟨by simp, by omega, by omega⟩, hV]; exact congrArg L (shVal_left s 2)
  rw [e1] at h
  exact h.sn
 have b0 := (Below.refl w.heap.size w).alloc (Nat.le_refl _) (.cells #[.int .u64 x, .int .u64 y] 29)
 have cw := Cls.new w #[.int .u64 x, .int .u64 y] 29
 have HQ := hid hq; have HMd := hid hMd; have HF := hid hF; have HV := hid hV; have HS := hid hs
 clear hq hMd hF hV hs
 have x0 := cw.cell 0 rfl
 have x1 := cw.cell 1 rfl
 go_enter Tryz.func21, Tryz.ntmps21
 go_wp2_with fail
 refine (kB _).mono ?_
 rintro e v1 ⟨a, ca, b, cb, c, cc, m1, m2, rfl, _, _, _, oA, oB, oC, hb⟩
 have rA := oA.rd
 have rB := oB.rd
 have rC := oC.rd
 replace cw := cw.below hb
 replace b0 := b0.trans (hb.mono b0.size)
 clear hb x0 x1 oA oB oC
 go_upto_region 2 with fail
 have bA := (Below.refl v1.heap.size v1).alloc (Nat.le_refl _) (.cells #[.slice a (L A).length ca, .slice b (L B).length cb, .slice c (L C).length cc, .bool cl, .bool true] 48)
 have ci := Cls.new v1 #[.slice a (L A).length ca, .slice b (L B).length cb, .slice c (L C).length cc, .bool cl, .bool true] 48
 replace cw := cw.below bA
 replace rA := rA.below bA
 replace rB := rB.below bA
 replace rC := rC.below bA
 replace b0 := b0.trans (bA.mono b0.size)
 clear bA
 generalize v1.alloc (.cells #[.slice a (L A).length ca, .slice b (L B).length cb, .slice c (L C).length cc, .bool cl, .bool true] 48) = v2 at *
 obtain ⟨gi, hgi⟩ : ∃ gi, gi = v1.heap.size := ⟨_, rfl⟩
 rw [← hgi] at ci ⊢
 clear hgi
 have x0 := cw.cell 0 rfl
 have x1 := cw.cell 1 rfl
 go_wp2_with fail
 refine (kU _).mono ?_
 rintro e v3 ⟨rfl, hb⟩
 replace ci := ci.below hb
 replace rA := rA.below hb
 replace rB := rB.below hb
 replace rC := rC.below hb
 replace b0 := b0.trans (hb.mono b0.size)
 clear hb x0 x1 cw
 go_upto_region 3 with fail
 have bA := (Below.refl v3.heap.size v3).alloc (Nat.le_refl _) (.cells #[.int .i64 tc, .bool tn, .int .u64 (M.hiN s : Int), .int .u64 (M.loN s : Int), .int .i64 tq] 42)
 have cp := Cls.new v3 #[.int .i64 tc, .bool tn, .int .u64 (M.hiN s : Int), .int .u64 (M.loN s : Int), .int .i64 tq] 42
 replace ci := ci.below bA
 replace rA := rA.below bA
 replace rB := rB.below bA
 replace rC := rC.below bA
 replace b0 := b0.trans (bA.mono b0.size)
 clear bA
 generalize v3.alloc (.cells #[.int .i64 tc, .bool tn, .int .u64 (M.hiN s : Int), .int .u64 (M.loN s : Int), .int .i64 tq] 42) = v4 at *
 obtain ⟨gp, hgp⟩ : ∃ gp, gp = v3.heap.size := ⟨_, rfl⟩
 rw [← hgp] at cp ⊢
 clear hgp
 have p2 := cp.cell 2 rfl
 have p3 := cp.cell 3 rfl
 go_wp2_with fail
 have bA := (Below.refl v4.heap.size v4).alloc (Nat.le_refl _) (.cells #[.int .u64 (M.loN s : Int), .int .u64 (M.hiN s : Int)] 22)
 have rl : Rd (v4.alloc (.cells #[.int .u64 (M.loN s : Int), .int .u64 (M.hiN s : Int)] 22)) (some ⟨v4.heap.size, 0, none⟩) [M.loN s, M.hiN s] := (blk_lit v4 [M.loN s, M.hiN s]).rd0
 refine (kSh _ _ _ rl).mono ?_
 rintro e v5 ⟨sa, sc, rfl, rs, hb⟩
 replace bA := bA.trans (hb.mono bA.size)
 replace ci := ci.below bA
 replace cp := cp.below bA
 replace rA := rA.below bA
 replace rB := rB.below bA
 replace rC := rC.below bA
 replace b0 := b0.trans (bA.mono b0.size)
 clear bA hb rl p2 p3
 have p4 := cp.cell 4 rfl
 go_upto_if 30 with fail
 go_cut [12] (fun zz wx => ∃ ma mc, zz = .slice ma (L Md).length mc ∧ Rd wx ma (L Md) ∧ Below v5.heap.size v5 wx)
 case first =>
  by_cases hq2 : 2 < tq
  · obtain ⟨k, hk⟩ : ∃ k : Nat, tq - 2 = (k : Int) := ⟨(tq - 2).toNat, by omega⟩
    have hw : IntKind.i64.wrap (tq - 2) = (k : Int) := by rw [IntKind.wrap_i64]; have := HQ.out; omega
    have eM : s * 4 * 2 ^ k = Md := by rw [HMd.out, hk, Int.toNat_natCast, Nat.mul_comm s 4]
    have HEM := hid eM; have HK := hid hk; clear eM hk
    go_wp2_with fail
    refine (natShl (s * 4) k sa sc v5 (by have := HQ.out; have := HK.out; omega) (by omega) rs).mono ?_
    rintro e v6 ⟨ma, mc, rfl, rm, hb6⟩
    rw [HEM.out] at rm
    have e6 : (L (s * 4 * 2 ^ k)).length = (L Md).length := by rw [HEM.out]
    have HE6 := hid e6; clear e6
    go_wp2_with fail
    go_meet
    case rel => exact ⟨ma, mc, by rw [HE6.out], rm, hb6⟩
  · have hq3 : ¬ 2 < tq := hq2
    have eM : s * 4 = Md := by rw [HMd.out, show (tq - 2).toNat = 0 by omega, Nat.pow_zero, Nat.mul_one, Nat.mul_comm]
    have HEM := hid eM; clear eM
    go_wp2_with fail
    go_meet
    case rel => exact ⟨sa, sc, by rw [HEM.out], by rw [← HEM.out]; exact rs, Below.refl _ _⟩
 case rest =>
 rename World => v6
 obtain ⟨ma, mc, rfl, rM, hb⟩ := hcut
 replace ci := ci.below hb
 replace rA := rA.below hb
 replace rB := rB.below hb
 replace rC := rC.below hb
 replace b0 := b0.trans (hb.mono b0.size)
 clear hb rs p4 cp kSh
 have Kof : ∀ v, Below v6.heap.size v6 v → (fun v : World => v.cell? ⟨gi, 0, none⟩ = some (.slice a (L A).length ca) ∧ v.cell? ⟨gi, 1, none⟩ = some (.slice b (L B).length cb) ∧ v.cell? ⟨gi, 2, none⟩ = some (.slice c (L C).length cc)) v := fun v hv => ⟨(ci.below hv).cell 0 rfl, (ci.below hv).cell 1 rfl, (ci.below hv).cell 2 rfl⟩
 have A0 : Below v6.heap.size v6 v6.drew := (Below.refl _ _).drew
 have z0 : (0 : Int) ≤ (z : Int) := by omega
 have kT := fun v : World => ten_any z hz v
 have kM : ∀ (v : World) (t : Option Addr) (ct : Nat), Below v6.heap.size v6 v → Rd v t (L (10 ^ z)) → Calls Tryz.prog 22 #[.slice c (L C).length cc, .slice t (L (10 ^ z)).length ct] v fun e w' => Sn v w' e (C * 10 ^ z) := fun v t ct hv ht => natMul C (10 ^ z) c t cc ct v (by omega) (by omega) (rC.below hv) ht
 go_wp2_with fail
 go_region_held3 (fun v : World => v.cell? ⟨gi, 0, none⟩ = some (.slice a (L A).length ca) ∧ v.cell? ⟨gi, 1, none⟩ = some (.slice b (L B).length cb) ∧ v.cell? ⟨gi, 2, none⟩ = some (.slice c (L C).length cc)) (first | with_reducible exact Kof _ A0 | with_reducible exact Kof _ B1 | with_reducible exact Kof _ B2)
  (first | (go_at_call 65; refine (kT _).mono ?_; rintro e u1 ⟨ta, tc1, rfl, rt, hb1⟩; have B1 := A0.trans (hb1.mono A0.size)) | (go_at_call 22; refine (kM _ _ _ B1 rt).mono ?_; rintro e u2 ⟨ua, uc, rfl, ru, hb2⟩; have B2 := B1.trans (hb2.mono B1.size)))
 all_goals go_wp2_with fail
 all_goals
  refine bodyPost_ret (v := .tuple #[.slice a (L A).length ca, .slice b (L B).length cb, .slice ma (L Md).length mc, .slice ua (L (C * 10 ^ z)).length uc]) (by simp [results, Tryz.results21, go_sem]) rfl ?_
  exact ⟨a, ca, b, cb, ma, mc, ua, uc, rfl, rA.below B2, rB.below B2, rM.below B2, ru, b0.trans (B2.mono b0.size)⟩

theorem scaledN (f x y tc tq : Int) (tn : Bool) (s A B C Md : Nat) (cl : Bool) (w : World) (hs : s < 2 ^ 128) (hq : -17000 ≤ tq ∧ tq ≤ 17000) (hMd : Md = 4 * s * 2 ^ (tq - 2).toNat) (z : Nat) (z0 : 0 < z) (hz : z ≤ 6000) (lA : (L A).length ≤ 600) (lB : (L B).length ≤ 600) (lC : (L C).length ≤ 600) (lM : (L Md).length ≤ 600) (lS : (L (s * 4)).length ≤ 600) (lT : (L (10 ^ z)).length ≤ 600)
 (kB : ∀ v : World, Calls Tryz.prog 20 #[.int .i64 f, .agg #[.int .u64 x, .int .u64 y]] v fun e w' => Iv v w' e A B C cl)
 (kU : ∀ v : World, Calls Tryz.prog 18 #[.int .i64 f, .agg #[.int .u64 x, .int .u64 y]] v fun e w' => e = .returned (.agg #[.int .i64 tc, .bool tn, .int .u64 (M.hiN s : Int), .int .u64 (M.loN s : Int), .int .i64 tq]) ∧ Below v.heap.size v w') :
 Calls Tryz.prog 21 #[.int .i64 f, .agg #[.int .u64 x, .int .u64 y], .int .i64 (-(z : Int))] w fun e w' => S4 w w' e (A * 10 ^ z) (B * 10 ^ z) (Md * 10 ^ z) C := by
 have hF : F64 [M.loN s, M.hiN s] := by
  intro v hv
  simp only [List.mem_cons, List.not_mem_nil, or_false] at hv
  rcases hv with rfl | rfl
  · unfold M.loN; omega
  · unfold M.hiN; omega
 have hV : V [M.loN s, M.hiN s] = s := by
  simp only [V, M.val]
  unfold M.loN M.hiN
  omega
 have kSh : ∀ (v : World) (ao : Option Addr) (c : Nat), Rd v ao [M.loN s, M.hiN s] → Calls Tryz.prog 64 #[.slice ao 2 c, .int .i64 2] v fun e w' => Sn v w' e (s * 4) := fun v ao c hr => by
  refine (specNatShift_any ao 2 c _ 2 v rfl (by omega) hF hr).mono ?_
  intro e w' h
  have e1 : shDoc [M.loN s, M.hiN s] 2 = L (s * 4) := by unfold shDoc; rw [if_pos ⟨by simp, by omega, by omega⟩, hV]; exact congrArg L (shVal_left s 2)
  rw [e1] at h
  exact h.sn
 have b0 := (Below.refl w.heap.size w).alloc (Nat.le_refl _) (.cells #[.int .u64 x, .int .u64 y] 29)
 have cw := Cls.new w #[.int .u64 x, .int .u64 y] 29
 have HQ := hid hq; have HMd := hid hMd; have HF := hid hF; have HV := hid hV; have HS := hid hs
 clear hq hMd hF hV hs
 have x0 := cw.cell 0 rfl
 have x1 := cw.cell 1 rfl
 go_enter Tryz.func21, Tryz.ntmps21
 go_wp2_with fail
 refine (kB _).mono ?_
 rintro e v1 ⟨a, ca, b, cb, c, cc, m1, m2, rfl, _, _, _, oA, oB, oC, hb⟩
 have rA := oA.rd
 have rB := oB.rd
 have rC := oC.rd
 replace cw := cw.below hb
 replace b0 := b0.trans (hb.mono b0.size)
 clear hb x0 x1 oA oB oC
 go_upto_region 2 with fail
 have bA := (Below.refl v1.heap.size v1).alloc (Nat.le_refl _) (.cells #[.slice a (L A).length ca, .slice b (L B).length cb, .slice c (L C).length cc, .bool cl, .bool true] 48)
 have ci := Cls.new v1 #[.slice a (L A).length ca, .slice b (L B).length cb, .slice c (L C).length cc, .bool cl, .bool true] 48
 replace cw := cw.below bA
 replace rA := rA.below bA
 replace rB := rB.below bA
 replace rC := rC.below bA
 replace b0 := b0.trans (bA.mono b0.size)
 clear bA
 generalize v1.alloc (.cells #[.slice a (L A).length ca, .slice b (L B).length cb, .slice c (L C).length cc, .bool cl, .bool true] 48) = v2 at *
 obtain ⟨gi, hgi⟩ : ∃ gi, gi = v1.heap.size := ⟨_, rfl⟩
 rw [← hgi] at ci ⊢
 clear hgi
 have x0 := cw.cell 0 rfl
 have x1 := cw.cell 1 rfl
 go_wp2_with fail
 refine (kU _).mono ?_
 rintro e v3 ⟨rfl, hb⟩
 replace ci := ci.below hb
 replace rA := rA.below hb
 replace rB := rB.below hb
 replace rC := rC.below hb
 replace b0 := b0.trans (hb.mono b0.size)
 clear hb x0 x1 cw
 go_upto_region 3 with fail
 have bA := (Below.refl v3.heap.size v3).alloc (Nat.le_refl _) (.cells #[.int .i64 tc, .bool tn, .int .u64 (M.hiN s : Int), .int .u64 (M.loN s : Int), .int .i64 tq] 42)
 have cp := Cls.new v3 #[.int .i64 tc, .bool tn, .int .u64 (M.hiN s : Int), .int .u64 (M.loN s : Int), .int .i64 tq] 42
 replace ci := ci.below bA
 replace rA := rA.below bA
 replace rB := rB.below bA
 replace rC := rC.below bA
 replace b0 := b0.trans (bA.mono b0.size)
 clear bA
 generalize v3.alloc (.cells #[.int .i64 tc, .bool tn, .int .u64 (M.hiN s : Int), .int .u64 (M.loN s : Int), .int .i64 tq] 42) = v4 at *
 obtain ⟨gp, hgp⟩ : ∃ gp, gp = v3.heap.size := ⟨_, rfl⟩
 rw [← hgp] at cp ⊢
 clear hgp
 have p2 := cp.cell 2 rfl
 have p3 := cp.cell 3 rfl
 go_wp2_with fail
 have bA := (Below.refl v4.heap.size v4).alloc (Nat.le_refl _) (.cells #[.int .u64 (M.loN s : Int), .int .u64 (M.hiN s : Int)] 22)
 have rl : Rd (v4.alloc (.cells #[.int .u64 (M.loN s : Int), .int .u64 (M.hiN s : Int)] 22)) (some ⟨v4.heap.size, 0, none⟩) [M.loN s, M.hiN s] := (blk_lit v4 [M.loN s, M.hiN s]).rd0
 refine (kSh _ _ _ rl).mono ?_
 rintro e v5 ⟨sa, sc, rfl, rs, hb⟩
 replace bA := bA.trans (hb.mono bA.size)
 replace ci := ci.below bA
 replace cp := cp.below bA
 replace rA := rA.below bA
 replace rB := rB.below bA
 replace rC := rC.below bA
 replace b0 := b0.trans (bA.mono b0.size)
 clear bA hb rl p2 p3
 have p4 := cp.cell 4 rfl
 go_upto_if 30 with fail
 go_cut [12] (fun zz wx => ∃ ma mc, zz = .slice ma (L Md).length mc ∧ Rd wx ma (L Md) ∧ Below v5.heap.size v5 wx)
 case first =>
  by_cases hq2 : 2 < tq
  · obtain ⟨k, hk⟩ : ∃ k : Nat, tq - 2 = (k : Int) := ⟨(tq - 2).toNat, by omega⟩
    have hw : IntKind.i64.wrap (tq - 2) = (k : Int) := by rw [IntKind.wrap_i64]; have := HQ.out; omega
    have eM : s * 4 * 2 ^ k = Md := by rw [HMd.out, hk, Int.toNat_natCast, Nat.mul_comm s 4]
    have HEM := hid eM; have HK := hid hk; clear eM hk
    go_wp2_with fail
    refine (natShl (s * 4) k sa sc v5 (by have := HQ.out; have := HK.out; omega) (by omega) rs).mono ?_
    rintro e v6 ⟨ma, mc, rfl, rm, hb6⟩
    rw [HEM.out] at rm
    have e6 : (L (s * 4 * 2 ^ k)).length = (L Md).length := by rw [HEM.out]
    have HE6 := hid e6; clear e6
    go_wp2_with fail
    go_meet
    case rel => exact ⟨ma, mc, by rw [HE6.out], rm, hb6⟩
  · have hq3 : ¬ 2 < tq := hq2
    have eM : s * 4 = Md := by rw [HMd.out, show (tq - 2).toNat = 0 by omega, Nat.pow_zero, Nat.mul_one, Nat.mul_comm]
    have HEM := hid eM; clear eM
    go_wp2_with fail
    go_meet
    case rel => exact ⟨sa, sc, by rw [HEM.out], by rw [← HEM.out]; exact rs, Below.refl _ _⟩
 case rest =>
 rename World => v6
 obtain ⟨ma, mc, rfl, rM, hb⟩ := hcut
 replace ci := ci.below hb
 replace rA := rA.below hb
 replace rB := rB.below hb
 replace rC := rC.below hb
 replace b0 := b0.trans (hb.mono b0.size)
 clear hb rs p4 cp kSh
 have Kof : ∀ v, Below v6.heap.size v6 v → (fun v : World => v.cell? ⟨gi, 0, none⟩ = some (.slice a (L A).length ca) ∧ v.cell? ⟨gi, 1, none⟩ = some (.slice b (L B).length cb) ∧ v.cell? ⟨gi, 2, none⟩ = some (.slice c (L C).length cc)) v := fun v hv => ⟨(ci.below hv).cell 0 rfl, (ci.below hv).cell 1 rfl, (ci.below hv).cell 2 rfl⟩
 have A0 : Below v6.heap.size v6 v6.drew := (Below.refl _ _).drew
 have z1 : ¬ (0 : Int) ≤ -(z : Int) := by omega
 have hw : IntKind.i64.wrap (- -(z : Int)) = (z : Int) := by rw [IntKind.wrap_i64]; omega
 clear Kof A0
 go_wp2_with fail
 refine (ten_any z hz v6).mono ?_
 rintro e v7 ⟨ta, tcc, rfl, rT, hb⟩
 replace ci := ci.below hb
 replace rA := rA.below hb
 replace rB := rB.below hb
 replace rC := rC.below hb
 replace rM := rM.below hb
 replace b0 := b0.trans (hb.mono b0.size)
 clear hb
 have Kof : ∀ v, Below v7.heap.size v7 v → (fun v : World => v.cell? ⟨gi, 0, none⟩ = some (.slice a (L A).length ca) ∧ v.cell? ⟨gi, 1, none⟩ = some (.slice b (L B).length cb) ∧ v.cell? ⟨gi, 2, none⟩ = some (.slice c (L C).length cc)) v := fun v hv => ⟨(ci.below hv).cell 0 rfl, (ci.below hv).cell 1 rfl, (ci.below hv).cell 2 rfl⟩
 have A0 : Below v7.heap.size v7 v7.drew := (Below.refl _ _).drew
 go_wp2_with fail
 go_region_held3 (fun v : World => v.cell? ⟨gi, 0, none⟩ = some (.slice a (L A).length ca) ∧ v.cell? ⟨gi, 1, none⟩ = some (.slice b (L B).length cb) ∧ v.cell? ⟨gi, 2, none⟩ = some (.slice c (L C).length cc)) (first | with_reducible exact Kof _ A0 | with_reducible exact Kof _ (by assumption))
  (first
    | (go_at_call 22; refine Calls.mono (natMul _ _ _ _ _ _ _ (by omega) (by omega) (by with_reducible exact rA.below (by assumption)) (by with_reducible exact rT.below (by assumption))) ?_; rintro e u1 ⟨xa, xca, rfl, rx, hb⟩; have B1 := keepC (w1 := v7) (by assumption) hb; (try replace ry := ry.below hb); (try replace rz := rz.below hb); clear hb)
    | (go_at_call 22; refine Calls.mono (natMul _ _ _ _ _ _ _ (by omega) (by omega) (by with_reducible exact rB.below (by assumption)) (by with_reducible exact rT.below (by assumption))) ?_; rintro e u2 ⟨ya, yca, rfl, ry, hb⟩; have B2 := keepC (w1 := v7) (by assumption) hb; (try replace rx := rx.below hb); (try replace rz := rz.below hb); clear hb)
    | (go_at_call 22; refine Calls.mono (natMul _ _ _ _ _ _ _ (by omega) (by omega) (by with_reducible exact rM.below (by assumption)) (by with_reducible exact rT.below (by assumption))) ?_; rintro e u3 ⟨za, zca, rfl, rz, hb⟩; have B3 := keepC (w1 := v7) (by assumption) hb; (try replace rx := rx.below hb); (try replace ry := ry.below hb); clear hb))
 all_goals go_wp2_with fail
 all_goals
  refine bodyPost_ret (v := .tuple #[.slice xa (L (A * 10 ^ z)).length xca, .slice ya (L (B * 10 ^ z)).length yca, .slice za (L (Md * 10 ^ z)).length zca, .slice c (L C).length cc]) (by simp [results, Tryz.results21, go_sem]) rfl ?_
  first | exact ⟨xa, xca, ya, yca, za, zca, c, cc, rfl, rx, ry, rz, rC.below B1, b0.trans (B1.mono b0.size)⟩ | exact ⟨xa, xca, ya, yca, za, zca, c, cc, rfl, rx, ry, rz, rC.below B2, b0.trans (B2.mono b0.size)⟩ | exact ⟨xa, xca, ya, yca, za, zca, c, cc, rfl, rx, ry, rz, rC.below B3, b0.trans (B3.mono b0.size)⟩

end Go.Proofs.YtmglhkdgfcbonaaGreatDoor
