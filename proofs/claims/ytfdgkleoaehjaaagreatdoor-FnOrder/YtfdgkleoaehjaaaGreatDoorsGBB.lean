import Derived.Deep.AppendLies
import Derived.ArgAppend
import Derived.Deep.MidRow
import Derived.Lib.ConvBytes
import Derived.Test.YtfdgkleoaehjaaaGreatDoorsGBA
set_option maxHeartbeats 4000000
namespace Go.Proofs.YtfdgkleoaehjaaaGreatDoor.M
set_option linter.unusedVariables false
set_option maxRecDepth 100000
def Fm.decT (F : Fm) (d : Dec) : Pt := if d.digits.length = 0 then ⟨1, d.neg, 0, 0⟩ else F.rPt d.neg (dec d.digits * 10 ^ (aL d.exp d.digits.length).toNat) (10 ^ (-(aL d.exp d.digits.length)).toNat)

def fV (a b : Dec) : Prop := (a.digits.length : Int) + a.exp < (b.digits.length : Int) + b.exp \/ ((a.digits.length : Int) + a.exp = (b.digits.length : Int) + b.exp /\ lx a.digits b.digits)

def dP (a b : Dec) : Prop :=
 if a.digits.length = 0 /\ b.digits.length = 0 then False else if a.digits.length = 0 then b.neg = false else if b.digits.length = 0 then a.neg = true
 else if a.neg ≠ b.neg then a.neg = true else if a.neg = true then fV b a else fV a b

structure qQ (d : Dec) : Prop where
 dig : Dig d.digits
 big : 0 < d.digits.length -> 10 ^ (d.digits.length - 1) <= dec d.digits

theorem FV : ∀ (a b : List Nat), lx a b \/ a = b \/ lx b a
 | [], [] => .inr (.inl rfl)
 | [], _ :: _ => .inl trivial
 | _ :: _, [] => .inr (.inr trivial)
 | x :: r, y :: s => by
   rcases Nat.lt_trichotomy x y with h | h | h
   . exact .inl (.inl h)
   . subst h;rcases FV r s with g | g | g
     . exact .inl (.inr ⟨rfl, g⟩)
     . exact .inr (.inl (by rw [g]))
     . exact .inr (.inr (.inr ⟨rfl, g⟩))
   . exact .inr (.inr (.inl h))

theorem Fm.Ok.decT_facts {F : Fm} (h : F.Ok) {d : Dec} (g : qQ d) : (F.decT d).n = d.neg /\ ((F.decT d).c = 1 \/ (F.decT d).c = 2 \/ (F.decT d).c = 3 \/ (F.decT d).c = 4) /\ ((F.decT d).c = 1 ↔ F.rank (F.decT d) = 0) := by
 unfold Fm.decT
 by_cases c : d.digits.length = 0
 . rw [if_pos c];exact ⟨rfl, .inl rfl, by unfold Fm.rank; simp⟩
 . rw [if_neg c];have pa : 0 < dec d.digits := Nat.lt_of_lt_of_le (Nat.pow_pos (by omega)) (g.big (by omega));have hN : 0 < dec d.digits * 10 ^ (aL d.exp d.digits.length).toNat := Nat.mul_pos pa (Nat.pow_pos (by omega));have hd : 0 < 10 ^ (-(aL d.exp d.digits.length)).toNat := Nat.pow_pos (by omega);generalize dec d.digits * 10 ^ (aL d.exp d.digits.length).toNat = N at *;generalize 10 ^ (-(aL d.exp d.digits.length)).toNat = De at *;have lp := h.leadPos;have tp := h.top2;have : 0 < F.top * F.lead := Nat.mul_pos (by omega) lp;unfold Fm.rPt
   by_cases c1 : F.rSig N De = 0
   . rw [if_pos c1]; exact ⟨rfl, .inl rfl, by unfold Fm.rank; simp⟩
   rw [if_neg c1]
   by_cases c2 : F.rSig N De < F.lead
   . rw [if_pos c2]; exact ⟨rfl, .inr (.inl rfl), by unfold Fm.rank; simp; omega⟩
   rw [if_neg c2]
   by_cases c3 : (F.emax : Int) < F.rExp N De + F.p - 1
   . rw [if_pos c3]; exact ⟨rfl, .inr (.inr (.inr rfl)), by unfold Fm.rank; simp; omega⟩
   . rw [if_neg c3]; exact ⟨rfl, .inr (.inr (.inl rfl)), by unfold Fm.rank; simp; omega⟩

theorem Fm.Ok.decT_below {F : Fm} (h : F.Ok) {a b : Dec} (ga : qQ a) (gb : qQ b) (ca : a.digits.length ≠ 0) (cb : b.digits.length ≠ 0) (hl : fV a b) : F.rank (F.decT a) <= F.rank (F.decT b) := by
 unfold Fm.decT;rw [if_neg ca, if_neg cb];exact h.rank_ahead ga.dig gb.dig (by omega) (by omega) (ga.big (by omega)) (gb.big (by omega)) hl _ _

theorem vY (x y : Nat) : (cG x y = -1 /\ x < y) \/ (cG x y = 1 /\ y < x) \/ (cG x y = 0 /\ x = y) := by
 unfold cG
 by_cases g : x < y
 . rw [if_pos g]; exact .inl ⟨rfl, g⟩
 . rw [if_neg g]
   by_cases g2 : y < x
   . rw [if_pos g2]; exact .inr (.inl ⟨rfl, g2⟩)
   . rw [if_neg g2]; exact .inr (.inr ⟨rfl, by omega⟩)

theorem Fm.Ok.order_less {F : Fm} (h : F.Ok) {a b : Dec} (ga : qQ a) (gb : qQ b) :
 (dP a b -> F.orderP (F.decT a) (F.decT b) = -1 \/ F.orderP (F.decT a) (F.decT b) = 0) /\
 (dP b a -> F.orderP (F.decT a) (F.decT b) = 1 \/ F.orderP (F.decT a) (F.decT b) = 0) /\
 (¬ dP a b -> ¬ dP b a -> F.orderP (F.decT a) (F.decT b) = 0) := by
 obtain ⟨na, ka, ra⟩ := h.decT_facts ga;obtain ⟨nb, kb, rb⟩ := h.decT_facts gb
 have za : a.digits.length = 0 -> (F.decT a).c = 1 := fun c => by unfold Fm.decT; rw [if_pos c]
 have zb : b.digits.length = 0 -> (F.decT b).c = 1 := fun c => by unfold Fm.decT; rw [if_pos c]
 have same : a.neg = b.neg -> a.digits = b.digits -> a.exp = b.exp -> F.decT a = F.decT b := fun e1 e2 e3 => by unfold Fm.decT; rw [e1, e2, e3]
 have lab := fun c1 c2 => h.decT_below ga gb c1 c2
 have lba := fun c1 c2 => h.decT_below gb ga c1 c2
 have tri := FV a.digits b.digits
 have hP : F.orderP (F.decT a) (F.decT b) = if (F.decT a).n = true /\ (F.decT a).c ≠ 1 then (if (F.decT b).n = true /\ (F.decT b).c ≠ 1 then cG (F.rank (F.decT b)) (F.rank (F.decT a)) else -1) else if (F.decT b).n = true /\ (F.decT b).c ≠ 1 then 1 else cG (F.rank (F.decT a)) (F.rank (F.decT b)) := by
  unfold Fm.orderP;rw [if_neg (by omega)]
 have t1 := vY (F.rank (F.decT a)) (F.rank (F.decT b));have t2 := vY (F.rank (F.decT b)) (F.rank (F.decT a))
 have sr : F.decT a = F.decT b -> F.rank (F.decT a) = F.rank (F.decT b) := fun e => by rw [e]
 rw [na, nb] at hP;generalize F.orderP (F.decT a) (F.decT b) = o at *;generalize hS : F.rank (F.decT a) = x at *;generalize hT : F.rank (F.decT b) = y at *;generalize (F.decT a).c = u at *;generalize (F.decT b).c = v at *;generalize cG x y = p at *;generalize cG y x = q at *
 have sm : a.neg = b.neg -> (a.digits.length : Int) + a.exp = (b.digits.length : Int) + b.exp -> a.digits = b.digits -> x = y := fun e1 e2 e3 => sr (same e1 e3 (by rw [e3] at e2; omega))
 clear same sr hS hT na nb;unfold dP
 by_cases c1 : a.digits.length = 0 <;> by_cases c2 : b.digits.length = 0
 . have e1 := za c1;have e2 := zb c2;simp only [c1, c2, and_self, if_true];rw [if_neg (by omega), if_neg (by omega)] at hP;omega
 . have e1 := za c1;simp only [c1, c2, and_false, false_and, if_false, if_true];rw [if_neg (by omega)] at hP;cases hb : b.neg
   . rw [hb] at hP;simp only [Bool.false_eq_true, false_and, if_false] at hP;simp only [Bool.false_eq_true, not_true_eq_false, true_implies, false_implies, and_true];omega
   . rw [hb] at hP;simp only [true_and] at hP;simp only [Bool.true_eq_false, not_true_eq_false, true_implies, false_implies, and_true, implies_true, true_and]
     split at hP <;> omega
 . have e2 := zb c2;simp only [c1, c2, and_false, false_and, if_false, if_true];rw [if_neg (c := b.neg = true /\ v ≠ 1) (by omega), if_neg (c := b.neg = true /\ v ≠ 1) (by omega)] at hP;cases ha : a.neg
   . rw [ha] at hP;simp only [Bool.false_eq_true, false_and, if_false] at hP;simp only [Bool.false_eq_true, not_true_eq_false, true_implies, false_implies, and_true, implies_true, true_and];omega
   . rw [ha] at hP;simp only [true_and] at hP;simp only [Bool.true_eq_false, not_true_eq_false, true_implies, false_implies, and_true]
     split at hP <;> omega
 . have l1 := lab c1 c2;have l2 := lba c2 c1;simp only [c1, c2, and_self, if_false]
   have tr : fV a b \/ fV b a \/ ((a.digits.length : Int) + a.exp = (b.digits.length : Int) + b.exp /\ a.digits = b.digits) := by
    unfold fV;rcases Int.lt_trichotomy ((a.digits.length : Int) + a.exp) ((b.digits.length : Int) + b.exp) with g | g | g
    . exact .inl (.inl g)
    . rcases tri with k | k | k
      . exact .inl (.inr ⟨g, k⟩)
      . exact .inr (.inr ⟨g, k⟩)
      . exact .inr (.inl (.inr ⟨g.symm, k⟩))
    . exact .inr (.inl (.inl g))
   generalize fV a b = A at *;generalize fV b a = B at *
   have eqn : a.neg = b.neg -> ¬ A -> ¬ B -> x = y := fun e n1 n2 => by
    rcases tr with g | g | g
    . exact absurd g n1
    . exact absurd g n2
    . exact sm e g.1 g.2
   clear tr sm tri lab lba za zb
   cases ha : a.neg <;> cases hb : b.neg <;> rw [ha, hb] at hP eqn
   . simp only [Bool.false_eq_true, false_and, if_false] at hP;simp only [ne_eq, not_true_eq_false, if_false, Bool.false_eq_true]
     refine ⟨fun g => ?_, fun g => ?_, fun g1 g2 => ?_⟩
     . have := l1 g; omega
     . have := l2 g; omega
     . have := eqn rfl g1 g2; omega
   . simp only [Bool.false_eq_true, false_and, if_false, true_and] at hP;simp only [ne_eq, Bool.false_eq_true, Bool.true_eq_false, not_false_eq_true, if_true, not_true_eq_false, true_implies, false_implies, and_true, implies_true, true_and]
     split at hP <;> omega
   . simp only [Bool.false_eq_true, false_and, if_false, true_and] at hP;simp only [ne_eq, Bool.false_eq_true, Bool.true_eq_false, not_false_eq_true, if_true, not_true_eq_false, true_implies, false_implies, and_true]
     split at hP <;> omega
   . simp only [true_and] at hP;simp only [ne_eq, not_true_eq_false, if_false, if_true]
     refine ⟨fun g => ?_, fun g => ?_, fun g1 g2 => ?_⟩
     . have := l2 g; split at hP <;> (try split at hP) <;> omega
     . have := l1 g; split at hP <;> (try split at hP) <;> omega
     . have := eqn rfl g2 g1; split at hP <;> (try split at hP) <;> omega

end Go.Proofs.YtfdgkleoaehjaaaGreatDoor.M
namespace Go.Proofs.YtfdgkleoaehjaaaGreatDoor
open Go.Op Go.RowKit
set_option linter.unusedVariables false
set_option maxRecDepth 100000
theorem tZ : ∀ (a b : List UInt8), bytesLess a b = true ↔ M.lx (a.map (·.toNat)) (b.map (·.toNat))
 | [], [] => by simp [bytesLess, M.lx]
 | [], _ :: _ => by simp [bytesLess, M.lx]
 | _ :: _, [] => by simp [bytesLess, M.lx]
 | x :: r, y :: s => by
   have ih := tZ r s;rw [bytesLess, List.map_cons, List.map_cons, M.lx, <- ih, Bool.or_eq_true, Bool.and_eq_true, decide_eq_true_iff, beq_iff_eq, UInt8.lt_iff_toNat_lt, <- UInt8.toNat_inj]

theorem GV (a b : List Nat) (ha : ∀ x ∈ a, x < 256) (hb : ∀ x ∈ b, x < 256) : bytesLess (pK a).toList (pK b).toList = true ↔ M.lx a b := by
 have h1 : (pK a).toList.map (·.toNat) = a := by rw [ByteArray.toList_eq]; exact iJ a ha
 have h2 : (pK b).toList.map (·.toNat) = b := by rw [ByteArray.toList_eq]; exact iJ b hb
 rw [tZ, h1, h2]

theorem oK (w : World) (xs ys : Array Value) (t : TypeId) (v0 : World) (h : v0 = (w.alloc (.cells xs t)).alloc (.cells ys t)) : Cls v0 w.heap.size xs t /\ Cls v0 (w.heap.size + 1) ys t /\ Below w.heap.size w v0 := by
 subst h;have h1 : (w.alloc (.cells xs t)).heap.size = w.heap.size + 1 := by simp
 refine ⟨(Cls.new w _ _).below ((Below.refl _ _).alloc (Nat.le_refl _) _), ?_, ((Below.refl w.heap.size w).alloc (Nat.le_refl _) _).alloc (by simp) _⟩;rw [<- h1];exact Cls.new _ _ _

theorem oN (d e : M.Dec) (a1 a2 : Option Addr) (c1 c2 : Nat) (w : World) (n1 : d.digits.length <= 10000) (n2 : e.digits.length <= 10000) (x1 : -10000000 <= d.exp) (x2 : d.exp <= 10000000) (y1 : -10000000 <= e.exp) (y2 : e.exp <= 10000000)
 (h1 : RdB w a1 d.digits) (h2 : RdB w a2 e.digits) :
 Calls Tryz.prog 33 #[.agg #[.int .i64 d.kind, .bool d.neg, .slice a1 d.digits.length c1, .int .i64 d.exp], .agg #[.int .i64 e.kind, .bool e.neg, .slice a2 e.digits.length c2, .int .i64 e.exp]] w fun r w' => ∃ b : Bool, r = .returned (.bool b) /\ (b = true ↔ M.fV d e) /\ Below w.heap.size w w' := by
 obtain ⟨v0, hV⟩ : ∃ v0, v0 = (w.alloc (.cells #[.int .i64 d.kind, .bool d.neg, .slice a1 d.digits.length c1, .int .i64 d.exp] 32)).alloc (.cells #[.int .i64 e.kind, .bool e.neg, .slice a2 e.digits.length c2, .int .i64 e.exp] 32) := ⟨_, rfl⟩;obtain ⟨hA, hB, b0⟩ := oK w _ _ _ v0 hV;have p2 := hA.cell 2 (x := .slice a1 d.digits.length c1) rfl;have p3 := hA.cell 3 (x := .int .i64 d.exp) rfl;have q2 := hB.cell 2 (x := .slice a2 e.digits.length c2) rfl;have q3 := hB.cell 3 (x := .int .i64 e.exp) rfl;have k1 := mP a1 _ c1 d.digits v0 rfl (h1.below b0);have k2 := mP a2 _ c2 e.digits v0 rfl (h2.below b0);have B0 := hid b0;have HD : M.fV d e ↔ ((d.digits.length : Int) + d.exp < (e.digits.length : Int) + e.exp \/ ((d.digits.length : Int) + d.exp = (e.digits.length : Int) + e.exp /\ M.lx d.digits e.digits)) := Iff.rfl;have HS := GV d.digits e.digits h1.1 h2.1;have HD' := hid HD; have HS' := hid HS;clear HD HS h1 h2 hA hB b0
 by_cases c : (d.digits.length : Int) + d.exp = (e.digits.length : Int) + e.exp
 . have cb : ((d.digits.length : Int) + d.exp != (e.digits.length : Int) + e.exp) = false := by simp [c]
   go_enter Tryz.func33, Tryz.ntmps33;go_upto_region 1 with fail;rw [<- hV];clear hV;go_wp2_with fail;go_ret;refine ⟨_, rfl, ?_, B0.out⟩;have := HD'.out;rw [HS'.out, this]
   exact ⟨fun g => .inr ⟨c, g⟩, fun g => g.elim (fun k => by omega) (·.2)⟩
 . have cb : ((d.digits.length : Int) + d.exp != (e.digits.length : Int) + e.exp) = true := by simp [c]
   go_enter Tryz.func33, Tryz.ntmps33;go_upto_region 1 with fail;rw [<- hV];clear hV;go_wp2_with fail;go_ret;refine ⟨_, rfl, ?_, B0.out⟩;have := HD'.out;rw [this];simp only [decide_eq_true_iff];omega

theorem DB {d e : M.Dec} (c1 : d.digits.length ≠ 0) (c2 : e.digits.length ≠ 0) (h : d.neg = e.neg) (hn : d.neg = true) : M.dP d e ↔ M.fV e d := by
 unfold M.dP
 rw [if_neg (fun g => c1 g.1), if_neg c1, if_neg c2, if_neg (fun g => g h), if_pos hn]

theorem CU {d e : M.Dec} (c1 : d.digits.length ≠ 0) (c2 : e.digits.length ≠ 0) (h : d.neg = e.neg) (hn : d.neg = false) : M.dP d e ↔ M.fV d e := by
 unfold M.dP
 rw [if_neg (fun g => c1 g.1), if_neg c1, if_neg c2, if_neg (fun g => g h), if_neg (by rw [hn]; simp)]

theorem vZ {d e : M.Dec} (c1 : d.digits.length ≠ 0) (c2 : e.digits.length ≠ 0) (h : d.neg ≠ e.neg) : M.dP d e ↔ d.neg = true := by
 unfold M.dP
 rw [if_neg (fun g => c1 g.1), if_neg c1, if_neg c2, if_pos h]

theorem DY {d e : M.Dec} (c1 : d.digits.length = 0) (c2 : e.digits.length = 0) : M.dP d e ↔ False := by
 unfold M.dP;rw [if_pos ⟨c1, c2⟩]

theorem zI {d e : M.Dec} (c1 : d.digits.length = 0) (c2 : e.digits.length ≠ 0) : M.dP d e ↔ e.neg = false := by
 unfold M.dP
 rw [if_neg (fun g => c2 g.2), if_pos c1]

theorem vQ {d e : M.Dec} (c1 : d.digits.length ≠ 0) (c2 : e.digits.length = 0) : M.dP d e ↔ d.neg = true := by
 unfold M.dP
 rw [if_neg (fun g => c1 g.1), if_neg c1, if_pos c2]

theorem qD (d e : M.Dec) (a1 a2 : Option Addr) (c1 c2 : Nat) (w : World) (n1 : d.digits.length <= 10000) (n2 : e.digits.length <= 10000) (x1 : -10000000 <= d.exp) (x2 : d.exp <= 10000000) (y1 : -10000000 <= e.exp) (y2 : e.exp <= 10000000)
 (h1 : RdB w a1 d.digits) (h2 : RdB w a2 e.digits) :
 Calls Tryz.prog 11 #[.agg #[.int .i64 d.kind, .bool d.neg, .slice a1 d.digits.length c1, .int .i64 d.exp], .agg #[.int .i64 e.kind, .bool e.neg, .slice a2 e.digits.length c2, .int .i64 e.exp]] w fun r w' => ∃ b : Bool, r = .returned (.bool b) /\ (b = true ↔ M.dP d e) /\ Below w.heap.size w w' := by
 obtain ⟨v0, hV⟩ : ∃ v0, v0 = (w.alloc (.cells #[.int .i64 d.kind, .bool d.neg, .slice a1 d.digits.length c1, .int .i64 d.exp] 32)).alloc (.cells #[.int .i64 e.kind, .bool e.neg, .slice a2 e.digits.length c2, .int .i64 e.exp] 32) := ⟨_, rfl⟩;obtain ⟨hA, hB, b0⟩ := oK w _ _ _ v0 hV;have p0 := hA.cell 0 (x := .int .i64 d.kind) rfl;have p1 := hA.cell 1 (x := .bool d.neg) rfl;have p2 := hA.cell 2 (x := .slice a1 d.digits.length c1) rfl;have p3 := hA.cell 3 (x := .int .i64 d.exp) rfl;have q0 := hB.cell 0 (x := .int .i64 e.kind) rfl;have q1 := hB.cell 1 (x := .bool e.neg) rfl;have q2 := hB.cell 2 (x := .slice a2 e.digits.length c2) rfl;have q3 := hB.cell 3 (x := .int .i64 e.exp) rfl;have k1 := oN d e a1 a2 c1 c2 v0 n1 n2 x1 x2 y1 y2 (h1.below b0) (h2.below b0);have k2 := oN e d a2 a1 c2 c1 v0 n2 n1 y1 y2 x1 x2 (h2.below b0) (h1.below b0);have B0 := hid b0;have L1 := hid (@DB d e); have L2 := hid (@CU d e); have L3 := hid (@vZ d e); have L4 := hid (@DY d e); have L5 := hid (@zI d e); have L6 := hid (@vQ d e);clear h1 h2 hA hB b0
 by_cases cn : d.digits.length = 0
 . have z1 : ((d.digits.length : Int) == 0) = true := by simp [cn]
   have CN := hid cn; clear cn
   by_cases cm : e.digits.length = 0
   . have z2 : ((e.digits.length : Int) == 0) = true := by simp [cm]
     have CM := hid cm; clear cm;go_enter Tryz.func11, Tryz.ntmps11;go_upto_region 1 with fail;rw [<- hV];clear hV;go_wp2_with fail;go_ret;exact ⟨_, rfl, by rw [L4.out CN.out CM.out]; simp, B0.out⟩
   . have z2 : ((e.digits.length : Int) == 0) = false := by simp [cm]
     have CM := hid cm; clear cm;go_enter Tryz.func11, Tryz.ntmps11;go_upto_region 1 with fail;rw [<- hV];clear hV;go_wp2_with fail;go_ret
     exact ⟨_, rfl, by rw [L5.out CN.out CM.out]; cases e.neg <;> simp, B0.out⟩
 . have z1 : ((d.digits.length : Int) == 0) = false := by simp [cn]
   have CN := hid cn; clear cn
   by_cases cm : e.digits.length = 0
   . have z2 : ((e.digits.length : Int) == 0) = true := by simp [cm]
     have CM := hid cm; clear cm;go_enter Tryz.func11, Tryz.ntmps11;go_upto_region 1 with fail;rw [<- hV];clear hV;go_wp2_with fail;go_ret;exact ⟨_, rfl, by rw [L6.out CN.out CM.out], B0.out⟩
   . have z2 : ((e.digits.length : Int) == 0) = false := by simp [cm]
     have CM := hid cm; clear cm
     by_cases cs : d.neg = e.neg
     . have CS := hid cs; clear cs
       by_cases ct : d.neg = true
       . have CT := hid ct; clear ct;go_enter Tryz.func11, Tryz.ntmps11;go_upto_region 1 with fail;rw [<- hV];clear hV;have ct := CT.out;have ce := CS.out.symm.trans ct;rw [ct, ce] at k2;go_wp2_with fail;refine k2.mono ?_;rintro r v1 ⟨b, rfl, hb, b1⟩;have HB := hid hb; have B1 := hid b1; clear hb b1;go_wp2_with fail;go_ret;exact ⟨_, rfl, HB.out.trans (L1.out CN.out CM.out CS.out CT.out).symm, B0.out.trans (B1.out.mono B0.out.size)⟩
       . have CT := hid (show d.neg = false by simpa using ct); clear ct;go_enter Tryz.func11, Tryz.ntmps11;go_upto_region 1 with fail;rw [<- hV];clear hV;have ct := CT.out;have ce := CS.out.symm.trans ct;rw [ct, ce] at k1;go_wp2_with fail;refine k1.mono ?_;rintro r v1 ⟨b, rfl, hb, b1⟩;have HB := hid hb; have B1 := hid b1; clear hb b1;go_wp2_with fail;go_ret;exact ⟨_, rfl, HB.out.trans (L2.out CN.out CM.out CS.out CT.out).symm, B0.out.trans (B1.out.mono B0.out.size)⟩
     . have z3 : (d.neg == e.neg) = false := by simp [cs]
       have CS := hid cs; clear cs;go_enter Tryz.func11, Tryz.ntmps11;go_upto_region 1 with fail;rw [<- hV];clear hV;go_wp2_with fail;go_ret;exact ⟨_, rfl, by rw [L3.out CN.out CM.out CS.out], B0.out⟩

def Tx (B : Nat) (w0 w : World) (ra : Option Addr) (n rc : Nat) (xs : List Nat) : Prop :=
 xs.length = n /\ w.ownsRow B 5 1 (.slice ra n rc) n (UB xs) /\ Below B w0 w /\ B <= w.heap.size

theorem Tx.nil (w : World) : Tx w.heap.size w w none 0 0 [] := ⟨rfl, World.ownsRow_nil _ _ _ _, Below.refl _ _, Nat.le_refl _⟩

theorem Tx.alloc {B n rc : Nat} {w0 w : World} {ra : Option Addr} {xs : List Nat} (h : Tx B w0 w ra n rc xs) (o : Obj) : Tx B w0 (w.alloc o) ra n rc xs :=
 ⟨h.1, h.2.1.alloc o, h.2.2.1.alloc h.2.2.2 o, by rw [World.size_alloc]; exact Nat.le_succ_of_le h.2.2.2⟩

theorem Tx.src {ops : Array Oper} {rest : List Oper} {o : Oper} {a : Act} {Q : Exit -> Act -> World -> Prop} {B n rc : Nat} {w0 w : World} {ra : Option Addr} {xs : List Nat} (h : Tx B w0 w ra n rc xs) (hgd : o.guard = none) (s x : Operand)
 (ho : o.op = .call { callee := .builtin .append, args := #[s, x], argTypes := #[22, 22] }) (hs : a.eval s = .slice ra n rc) (ao : Option Addr) (m c : Nat) (ys : List Nat) (hx : a.eval x = .slice ao m c) (hl : ys.length = m)
 (hno : ao = none -> c = 0) (hr : RdB w ao ys) (hn : n + m <= 1000000)
 (k : ∀ ra' rc' w', Tx B w0 w' ra' (n + m) rc' (xs ++ ys) -> wpList Tryz.prog ops Q rest (a.put o.dst (.slice ra' (n + m) rc')) w') : wpList Tryz.prog ops Q (o :: rest) a w := by
 obtain ⟨h1, h2, h3, h4⟩ := h;refine dD hgd s x ho w B _ n xs hs h2 ao m c ys hx hl hno hr hn h4 ?_;intro ra' rc' w' ho hg
 exact k ra' rc' w' ⟨by rw [List.length_append, h1, hl], ho, h3.grown hg h4 (fun j e => bM h2 e), Nat.le_trans h4 hg.size⟩

theorem oG (w : World) (c : Nat) (hc : c < 256) : RdB (w.alloc (.cells #[.int .u8 (c : Int)] 5)) (some ⟨w.heap.size, 0, none⟩) [c] := by
 refine ⟨fun x hx => by simp at hx; omega, fun _ => ⟨w.heap.size, 0, rfl, fun i hi => ?_⟩⟩
 obtain rfl : i = 0 := by simp at hi; exact hi
 exact (Cls.new w #[.int .u8 (c : Int)] 5).cell 0 (x := .int .u8 (c : Int)) rfl

theorem Tx.one {ops : Array Oper} {rest : List Oper} {o : Oper} {a : Act} {Q : Exit -> Act -> World -> Prop} {B n rc : Nat} {w0 w : World} {ra : Option Addr} {xs : List Nat} (h : Tx B w0 w ra n rc xs) (ci : Int) (c : Nat) (hci : ci = (c : Int)) (hc : c < 256) (hgd : o.guard = none) (s x : Operand)
 (ho : o.op = .call { callee := .builtin .append, args := #[s, x], argTypes := #[22, 22] }) (hs : a.eval s = .slice ra n rc) (hx : a.eval x = .slice (some ⟨w.heap.size, 0, none⟩) 1 1) (hn : n + 1 <= 1000000)
 (k : ∀ ra' rc' w', Tx B w0 w' ra' (n + 1) rc' (xs ++ [c]) -> wpList Tryz.prog ops Q rest (a.put o.dst (.slice ra' (n + 1) rc')) w') : wpList Tryz.prog ops Q (o :: rest) a (w.alloc (.cells #[.int .u8 ci] 5)) := by
 subst hci
 exact (h.alloc _).src hgd s x ho hs _ 1 1 [c] hx rfl (fun e => by cases e) (oG w c hc) hn k

theorem Tx.str {ops : Array Oper} {rest : List Oper} {o : Oper} {a : Act} {Q : Exit -> Act -> World -> Prop} {B n rc : Nat} {w0 w : World} {ra : Option Addr} {xs : List Nat} (h : Tx B w0 w ra n rc xs) (hgd : o.guard = none) (s x : Operand)
 (ho : o.op = .call { callee := .builtin .append, args := #[s, x], argTypes := #[22, 9] }) (hs : a.eval s = .slice ra n rc) (st : ByteArray) (m : Nat) (ys : List Nat) (hx : a.eval x = .string st) (hm : st.size = m) (hy : aV st = ys) (hn : n + m <= 1000000)
 (k : ∀ ra' rc' w', Tx B w0 w' ra' (n + m) rc' (xs ++ ys) -> wpList Tryz.prog ops Q rest (a.put o.dst (.slice ra' (n + m) rc')) w') : wpList Tryz.prog ops Q (o :: rest) a w := by
 subst hm;subst hy;obtain ⟨h1, h2, h3, h4⟩ := h;refine oP hgd s x ho w B _ n xs hs h2 st hx hn h4 ?_;intro ra' rc' w' ho hg;have hl := fO ho
 exact k ra' rc' w' ⟨hl, ho, h3.grown hg h4 (fun j e => bM h2 e), Nat.le_trans h4 hg.size⟩

theorem Tx.below {B n rc : Nat} {w0 w w' : World} {ra : Option Addr} {xs : List Nat} (h : Tx B w0 w ra n rc xs) (hb : Below w.heap.size w w') : Tx B w0 w' ra n rc xs := by
 obtain ⟨h1, h2, h3, h4⟩ := h;refine ⟨h1, ⟨h2.1, ?_⟩, h3.trans (hb.mono h4), Nat.le_trans h4 hb.size⟩;rcases h2.2 with e | ⟨g, cap, cur, e1, e2, e3, e4⟩
 . exact .inl e
 . exact .inr ⟨g, cap, cur, e1, e2, (hb.block g (Array.getElem?_eq_some_iff.1 e3).1).trans e3, e4⟩

theorem Tx.drew {B n rc : Nat} {w0 w : World} {ra : Option Addr} {xs : List Nat} (h : Tx B w0 w ra n rc xs) : Tx B w0 w.drew ra n rc xs := h.below (Below.refl _ _).drew

theorem Tx.step {ops : Array Oper} {o : Oper} {a : Act} {K : Act -> World -> Prop} {Q : Exit -> Act -> World -> Prop} {E : Prop} {B n rc : Nat} {w0 w : World} {ra : Option Addr} {xs : List Nat} (h : Tx B w0 w ra n rc xs) (hgd : o.guard = none) (s x : Operand)
 (ho : o.op = .call { callee := .builtin .append, args := #[s, x], argTypes := #[22, 22] }) (hs : a.eval s = .slice ra n rc) (ad : Addr) (m c : Nat) (ys : List Nat) (hx : a.eval x = .slice (some ad) m c) (hl : ys.length = m) (hm : 0 < m)
 (hr : RdB w (some ad) ys) (hn : n + m <= 1000000)
 (k : ∀ g rc' w', Tx B w0 w' (some ⟨g, 0, none⟩) (n + m) rc' (xs ++ ys) -> w.grownBy w' (Value.ownBlock (.slice ra n rc)) -> K (a.put o.dst (.slice (some ⟨g, 0, none⟩) (n + m) rc')) w') :
 if Region.wanted o (yielded ops a.tmps) = true then Oper.wp Tryz.prog o a w K Q else E := by
 obtain ⟨i0, hi, hz0, hz1, hz2⟩ := info_parts Tryz.infoY;obtain ⟨h1, h2, h3, h4⟩ := h;refine step_append_lies w hgd s x 22 ho B 5 i0 (.int .u8 0) 1 1 Tryz.underlying22 hi hz0 hz1 hz2 rfl (by decide) (.slice ra n rc) n (UB xs) hs h2 ad m c (UB ys) hx (by rw [aN, hl, Nat.mul_one]) ?_ (gQ _) hm (by unfold maxLen; omega) (by omega) h4 w.heap.size rfl ?_
 . intro j u hj
   have hjl : j < ys.length := by
    rcases Nat.lt_or_ge j ys.length with k | k
    . exact k
    . rw [List.getElem?_eq_none (by rw [aN]; exact k)] at hj; cases hj
   obtain ⟨b, off, e2, hc⟩ := hr.2 (by omega);cases e2;rw [eH ys j hjl] at hj;cases hj;rw [Addr.add_lit];exact hc j hjl
 . intro g cap w' ho' hg _ _;rw [<- cQ] at ho'
   exact k g cap w' ⟨by rw [List.length_append, h1, hl], ho', h3.grown hg h4 (fun j e => bM h2 e), Nat.le_trans h4 hg.size⟩ hg

theorem tX {ops : Array Oper} {rest : List Oper} {o : Oper} {a : Act} {Q : Exit -> Act -> World -> Prop} (hgd : o.guard = none) (s x : Operand)
 (ho : o.op = .call { callee := .builtin .append, args := #[s, x], argTypes := #[22, 22] }) (w : World) (ad : Addr) (n : Nat) (xs : List Nat) (hs : a.eval s = .slice (some ad) n n) (hxl : xs.length = n) (hn0 : 0 < n) (hrs : RdB w (some ad) xs)
 (ao : Addr) (m c : Nat) (ys : List Nat) (hx : a.eval x = .slice (some ao) m c) (hl : ys.length = m) (hm : 0 < m) (hr : RdB w (some ao) ys) (hn : n + m <= 1000000)
 (k : ∀ ra rc w', w'.ownsRow w.heap.size 5 1 (.slice ra (n + m) rc) (n + m) (UB (xs ++ ys)) -> Below w.heap.size w w' -> wpList Tryz.prog ops Q rest (a.put o.dst (.slice ra (n + m) rc)) w') : wpList Tryz.prog ops Q (o :: rest) a w := by
 obtain ⟨i0, hi, hz0, hz1, hz2⟩ := info_parts Tryz.infoY
 have reads : ∀ (p : Addr) (zs : List Nat), 0 < zs.length -> RdB w (some p) zs -> ∀ j u, (UB zs)[j]? = some u -> w.cell? (p.add j) = some u := by
  intro p zs h0 hz j u hj
  have hjl : j < zs.length := by
   rcases Nat.lt_or_ge j zs.length with k | k
   . exact k
   . rw [List.getElem?_eq_none (by rw [aN]; exact k)] at hj; cases hj
  obtain ⟨b, off, e2, hc⟩ := hz.2 h0;cases e2;rw [eH zs j hjl] at hj;cases hj;rw [Addr.add_lit];exact hc j hjl
 have hr' := run_append_grow (P := Tryz.prog) w 22 o.type 5 i0 (.int .u8 0) Tryz.underlying22 hi hz0 ad n n (UB xs) (by rw [aN, hxl, hz1, Nat.mul_one]) (reads ad xs (by omega) hrs) ao m c (UB ys) (by rw [aN, hl, hz1, Nat.mul_one]) (reads ao ys (by omega) hr) (by omega) (by omega) (growslice_fits (by omega) (by rw [hz2]; omega))
 refine wpList_plain hgd fun _ hK => ?_
 unfold Oper.wp execOp;simp only [ho, resolve, invoke, builtin, Sem.run_bind, Sem.run_pure, Result.andThen_ok, List.map_toArray, List.map_cons, List.map_nil, hs, hx, hr'];have hge := grownCap_ge w (n + m) n 5
 refine hK _ _ (k _ _ _ ⟨by rw [aN, List.length_append, hxl, hl, Nat.mul_one], .inr ⟨w.heap.size, _, _, rfl, Nat.le_refl _, heap_alloc_new w.drew _, hge, grownCap_le_maxLen w (n + m) n 5 (by unfold maxLen; omega), ?_, ?_⟩⟩ ⟨rfl, rfl, rfl, by simp, fun k hk => heap_alloc_old w.drew _ hk⟩)
 . simp only [Array.size_append, List.size_toArray, size_zeroCells, aN, hxl, hl]
   show n + m + (grownCap w (n + m) n 5 - (n + m)) * 1 = _
   omega
 . rw [cQ];simp only [Array.toList_append, List.append_assoc];rw [<- List.append_assoc];have : (n + m) * 1 = (UB xs ++ UB ys).length := by rw [List.length_append, aN, aN, hxl, hl]; omega
   rw [this];exact List.take_left

theorem JI {w : World} {g j : Nat} {cs : Array Value} {t : TypeId} {fz : Nat × Nat} (hg : w.heap[g]? = some (.cells cs t fz)) (h : fz.2 <= j \/ j < fz.1) : w.frozen? ⟨g, j, none⟩ = false := by
 obtain ⟨p, q⟩ := fz
 simp [World.frozen?, hg]
 intro h1;rcases h with h | h
 . exact h
 . exact absurd h1 (by simp at h; omega)

def Tw (w : World) (lo : Nat) (ra : Option Addr) (n rc : Nat) : Prop :=
 n <= 100000 /\ n <= rc /\ ((ra = none /\ rc = 0) \/ ∃ b, ra = some ⟨b, 0, none⟩ /\ lo <= b /\ b < w.heap.size /\ (∀ i, i < rc -> (w.cell? ⟨b, i, none⟩).isSome = true /\ w.frozen? ⟨b, i, none⟩ = false) /\ ∀ i, i < n -> ∃ x : Nat, x < 256 /\ w.cell? ⟨b, i, none⟩ = some (.int .u8 (x : Int)))

theorem Tw.nil (w : World) (lo : Nat) : Tw w lo none 0 0 := ⟨by omega, by omega, .inl ⟨rfl, rfl⟩⟩

theorem Tw.kept {w w' : World} {lo n rc : Nat} {ra : Option Addr} (h : Tw w lo ra n rc) (hs : w.heap.size <= w'.heap.size) (k : ∀ b, lo <= b -> b < w.heap.size -> w'.heap[b]? = w.heap[b]?) : Tw w' lo ra n rc := by
 obtain ⟨h1, h2, h3⟩ := h;refine ⟨h1, h2, ?_⟩;rcases h3 with e | ⟨b, e1, e2, e3, e4, e5⟩
 . exact .inl e
 . have hk := k b e2 e3
   exact .inr ⟨b, e1, e2, by omega, fun i hi => ⟨by rw [World.cell?_of_block hk]; exact (e4 i hi).1, by rw [World.frozen?_of_block hk]; exact (e4 i hi).2⟩, fun i hi => by rw [World.cell?_of_block hk]; exact e5 i hi⟩

theorem Tw.low {w : World} {lo lo' n rc : Nat} {ra : Option Addr} (h : Tw w lo ra n rc) (hl : lo' <= lo) : Tw w lo' ra n rc := by
 obtain ⟨h1, h2, h3⟩ := h;refine ⟨h1, h2, ?_⟩;rcases h3 with e | ⟨b, e1, e2, e3⟩
 . exact .inl e
 . exact .inr ⟨b, e1, by omega, e3⟩

theorem pL (f : Nat -> Nat) (n i : Nat) (h : i < n) : ((List.range n).map f).getD i 0 = f i := by simp [List.getD_eq_getElem?_getD, h]

theorem Tw.read {w : World} {lo n rc : Nat} {ra : Option Addr} (h : Tw w lo ra n rc) : ∃ xs : List Nat, xs.length = n /\ n <= rc /\ (ra = none -> rc = 0) /\ RdB w ra xs := by
 obtain ⟨h1, h2, h3⟩ := h;rcases h3 with ⟨e1, e2⟩ | ⟨b, e1, e2, e3, e4, e5⟩
 . exact ⟨[], by simp; omega, h2, fun _ => e2, by simp, fun hp => by simp at hp⟩
 . have hf : ∀ i, ∃ x : Nat, x < 256 /\ (i < n -> w.cell? ⟨b, i, none⟩ = some (.int .u8 (x : Int))) := fun i => by
    by_cases hi : i < n
    . obtain ⟨x, hx, hc⟩ := e5 i hi
      exact ⟨x, hx, fun _ => hc⟩
    . exact ⟨0, by omega, fun k => absurd k hi⟩
   obtain ⟨f, hf⟩ := Classical.axiomOfChoice hf
   refine ⟨(List.range n).map f, by simp, h2, fun e => (by rw [e] at e1; cases e1), fun x hx => ?_, fun _ => ⟨b, 0, e1, fun i hi => ?_⟩⟩
   . obtain ⟨i, _, rfl⟩ := List.mem_map.1 hx;exact (hf i).1
   . have hi' : i < n := by simpa using hi
     rw [pL f n i hi', Nat.zero_add];exact (hf i).2 hi'

theorem Tw.place {w : World} {lo n rc : Nat} {ra : Option Addr} (h : Tw w lo ra n rc) (hn : 0 < n) : ∃ b, ra = some ⟨b, 0, none⟩ /\ lo <= b /\ b < w.heap.size := by
 obtain ⟨h1, h2, h3⟩ := h;rcases h3 with ⟨e1, e2⟩ | ⟨b, e1, e2, e3, e4⟩
 . omega
 . exact ⟨b, e1, e2, e3⟩

theorem Tw.cell {w : World} {lo n rc b : Nat} (h : Tw w lo (some ⟨b, 0, none⟩) n rc) (i : Nat) (hi : i < n) : (∃ x : Nat, w.cell? ⟨b, i, none⟩ = some (.int .u8 (x : Int))) /\ w.frozen? ⟨b, i, none⟩ = false := by
 obtain ⟨h1, h2, h3⟩ := h;rcases h3 with ⟨e1, e2⟩ | ⟨b', e1, e2, e3, e4, e5⟩
 . cases e1
 . cases e1;obtain ⟨x, _, hx⟩ := e5 i hi;exact ⟨⟨x, hx⟩, (e4 i (by omega)).2⟩

theorem Tw.put {w : World} {lo n rc b : Nat} (h : Tw w lo (some ⟨b, 0, none⟩) n rc) (i : Nat) (v : Int) (x : Nat) (hv : v = (x : Int)) (hx : x < 256) : Tw (w.setCell ⟨b, i, none⟩ (.int .u8 v)) lo (some ⟨b, 0, none⟩) n rc := by
 subst hv;obtain ⟨h1, h2, h3⟩ := h;refine ⟨h1, h2, ?_⟩;rcases h3 with ⟨e1, e2⟩ | ⟨b', e1, e2, e3, e4, e5⟩
 . cases e1
 . cases e1
   refine .inr ⟨b, rfl, e2, by simpa [World.setCell] using e3, fun j hj => ⟨?_, by rw [World.frozen?_setCell]; exact (e4 j hj).2⟩, fun j hj => ?_⟩
   . exact World.isSome_setCells b [.int .u8 (x : Int)] i w _ (e4 j hj).1
   . obtain ⟨y, hy, hc⟩ := e5 j hj
     by_cases e : i = j
     . subst e;exact ⟨x, hx, World.cell?_setCell_same _ _ _ hc⟩
     . exact ⟨y, hy, by rw [World.cell?_setCell_other _ _ _ _ (by intro e2; cases e2; exact e rfl)]; exact hc⟩

theorem Tw.of_own {w : World} {lo n rc : Nat} {ra : Option Addr} {xs : List Nat} (h : w.ownsRow lo 5 1 (.slice ra n rc) n (UB xs)) (hn : n <= 100000) (hx : ∀ x ∈ xs, x < 256) : Tw w lo ra n rc := by
 refine ⟨hn, iL h, ?_⟩;have hl := fO h;rcases h.2 with ⟨e, h0⟩ | ⟨g, cap, cur, e, g2, g3, g4, g5, g6, g7⟩
 . simp at e; exact .inl ⟨e.1, e.2.2⟩
 . simp only [Value.slice.injEq] at e;obtain ⟨rfl, _, rfl⟩ := e
   refine .inr ⟨g, rfl, g2, (Array.getElem?_eq_some_iff.1 g3).1, fun i hi => ⟨?_, frozen_of_row _ _ _ _ _ g3⟩, fun i hi => ?_⟩
   . rw [cell_of_row w g i _ _ _ g3, Array.getElem?_eq_getElem (by omega)]; rfl
   . have := h.cellAt i (by omega);rw [eH xs i (by omega)] at this;exact ⟨_, M.aZ (by omega) hx i, this⟩

theorem jH {lo b : Nat} {w : World} (hb : lo <= b) : ∀ (vs : List Value) (o : Nat) (v : World), Below lo w v -> Below lo w (v.setCells b o vs)
 | [], _, _, h => h
 | x :: r, o, v, h => jH hb r (o + 1) _ (h.setCell (p := ⟨b, o, none⟩) hb x)

theorem I4 {ys : List Nat} (h : ∀ y ∈ ys, y < 256) (j : Nat) (hj : j < (UB ys).length) : ∃ x : Nat, x < 256 /\ (UB ys)[j] = .int .u8 (x : Int) := by
 rw [aN] at hj;refine ⟨_, M.aZ (by omega) h j, ?_⟩;have := eH ys j hj;rw [List.getElem?_eq_getElem (by rw [aN]; exact hj)] at this;exact Option.some.inj this

theorem Tw.run {w : World} {lo n rc : Nat} {ra : Option Addr} (h : Tw w lo ra n rc) (hlo : lo <= w.heap.size) (ad : Addr) (m c : Nat) (ys : List Nat) (hl : ys.length = m) (hm : 0 < m) (hr : RdB w (some ad) ys) (hn : n + m <= 100000) (ty : TypeId) :
 ∃ g cap w', (Builtin.append_ #[22, 22] ty #[.slice ra n rc, .slice (some ad) m c]).run Tryz.prog w = .ok (.slice (some ⟨g, 0, none⟩) (n + m) cap) w' /\ Tw w' lo (some ⟨g, 0, none⟩) (n + m) cap /\ Below lo w w' := by
 obtain ⟨i0, hi, hz0, hz1, hz2⟩ := info_parts Tryz.infoY;have h0 := h;obtain ⟨xs, x1, x2, x3, rx⟩ := h.read;obtain ⟨h1, h2, h3⟩ := h
 have reads : ∀ (p : Addr) (zs : List Nat), RdB w (some p) zs -> ∀ j u, (UB zs)[j]? = some u -> w.cell? (p.add j) = some u := by
  intro p zs hz j u hj
  have hjl : j < zs.length := by
   rcases Nat.lt_or_ge j zs.length with k | k
   . exact k
   . rw [List.getElem?_eq_none (by rw [aN]; exact k)] at hj; cases hj
  obtain ⟨b, off, e2, hc⟩ := hz.2 (by omega);cases e2;rw [eH zs j hjl] at hj;cases hj;rw [Addr.add_lit];exact hc j hjl
 have h256 : ∀ x ∈ xs ++ ys, x < 256 := fun x hx => (List.mem_append.1 hx).elim (rx.1 x) (hr.1 x)
 have hyl : (UB ys).length = m * 1 := by rw [aN, hl, Nat.mul_one]
 rcases h3 with ⟨rfl, rfl⟩ | ⟨b, rfl, e2, e3, e4, e5⟩
 . obtain rfl : n = 0 := by omega
   obtain ⟨g, cap, w', e, o', G, _, _⟩ := run_append_lies (P := Tryz.prog) w 22 ty lo 5 i0 (.int .u8 0) 1 1 Tryz.underlying22 hi hz0 hz1 hz2 rfl (by decide) (.slice none 0 0) 0 [] (World.ownsRow_nil _ _ _ _) ad m c (UB ys) hyl (reads ad ys hr) (gQ _) hm (by unfold maxLen; omega) (by omega) hlo w.heap.size rfl;rw [List.nil_append] at o'
   exact ⟨g, cap, w', e, Tw.of_own o' hn hr.1, (Below.refl _ _).grown G hlo (fun j ej => by cases ej)⟩
 . by_cases hroom : n + m <= rc
   . have hl1 : (UB ys).length = m * i0.size := by rw [hz1]; exact hyl
     have e := run_append_room_cells (P := Tryz.prog) w 22 ty 5 i0 Tryz.underlying22 hi b 0 n rc ad m c (UB ys) hl1 (reads ad ys hr) (gQ _) hroom (fun j hj => by rw [hz1, Nat.mul_one, Nat.zero_add]; exact (e4 (n + j) (by rw [hyl] at hj; omega)).1) (fun j hj => by rw [hz1, Nat.mul_one, Nat.zero_add]; exact (e4 (n + j) (by rw [hyl] at hj; omega)).2)
     rw [hz1, Nat.mul_one, Nat.zero_add] at e;have hB := jH (w := w) e2 (UB ys) n w (Below.refl _ _)
     refine ⟨b, rc, _, e, ⟨hn, hroom, .inr ⟨b, rfl, e2, Nat.lt_of_lt_of_le e3 hB.size, fun i hi => ⟨World.isSome_setCells b _ n w _ (e4 i hi).1, by rw [World.frozen?_setCells]; exact (e4 i hi).2⟩, fun i hi => ?_⟩⟩, hB⟩
     by_cases hin : i < n
     . obtain ⟨x, hx, hc⟩ := e5 i hin
       exact ⟨x, hx, by rw [World.cell?_setCells_out b _ n w _ (fun _ _ => .inl hin)]; exact hc⟩
     . obtain ⟨j, rfl⟩ : ∃ j, i = n + j := ⟨i - n, by omega⟩;have hj : j < (UB ys).length := by rw [hyl]; omega
       obtain ⟨x, hx, hu⟩ := I4 hr.1 j hj
       exact ⟨x, hx, by rw [World.cell?_setCells_in b _ n w (fun j hj => (e4 (n + j) (by rw [hyl] at hj; omega)).1) j hj, hu]⟩
   . obtain ⟨v', w', e, o', G⟩ := run_append_arg_grows (P := Tryz.prog) w 22 ty 5 i0 (.int .u8 0) 1 1 Tryz.underlying22 hi hz0 hz1 hz2 rfl (by decide) ⟨b, 0, none⟩ n rc (UB xs) (by rw [aN, x1, Nat.mul_one]) (reads _ xs rx) ad m c (UB ys) hyl (reads ad ys hr) (by omega) (by unfold maxLen; omega) (by omega);obtain ⟨g, cap, rfl, _, _⟩ := o'.form (by omega);rw [<- cQ] at o'
     exact ⟨g, cap, w', e, (Tw.of_own o' hn h256).low hlo, (Below.refl _ _).grown G hlo (fun j ej => by cases ej)⟩

theorem Tw.of_str (w : World) (s : ByteArray) (hs : s.size <= 100000) : Tw (Lib.bytesWorld w 5 s) w.heap.size (some ⟨w.heap.size, 0, none⟩) s.size (grownCap w s.size 0 5) /\ Below w.heap.size w (Lib.bytesWorld w 5 s) := by
 have hge := grownCap_ge w s.size 0 5
 have hsz : (Lib.bytesCells w 5 s).size = grownCap w s.size 0 5 := by
  unfold Lib.bytesCells;simp only [Array.size_append, Array.size_map, Array.size_replicate]
  show s.size + _ = _
  omega
 have hB := Lib.bytesWorld_at_new w 5 s
 refine ⟨⟨hs, hge, .inr ⟨w.heap.size, rfl, Nat.le_refl _, by rw [Lib.bytesWorld_size]; omega, fun i hi => ⟨?_, JI hB (.inr (by show i < _; omega))⟩, fun i hi => ⟨_, ?_, Lib.bytesWorld_cell w 5 s i hi⟩⟩⟩, ⟨?_, ?_, ?_, by rw [Lib.bytesWorld_size]; omega, fun k hk => Lib.bytesWorld_at_old w 5 s k hk⟩⟩
 . rw [cell_of_row _ _ i _ _ _ hB, Array.getElem?_eq_getElem (by omega)]; rfl
 . exact UInt8.toNat_lt _
 . simp [Lib.bytesWorld, World.freeze]; rfl
 . simp [Lib.bytesWorld, World.freeze]
 . simp [Lib.bytesWorld, World.freeze]; rfl

theorem Tw.of_const (w : World) (ys : List Nat) (n : Nat) (hl : ys.length = n) (hn : n <= 100000) (hy : ∀ y ∈ ys, y < 256) (cs : Array Value) (hc : cs = (UB ys).toArray) (q : Nat) : Tw (w.alloc (.cells cs 5 (n, q))) w.heap.size (some ⟨w.heap.size, 0, none⟩) n n := by
 subst hc;have hB : (w.alloc (.cells (UB ys).toArray 5 (n, q))).heap[w.heap.size]? = some (.cells (UB ys).toArray 5 (n, q)) := heap_alloc_new w _
 refine ⟨hn, Nat.le_refl _, .inr ⟨w.heap.size, rfl, Nat.le_refl _, by simp, fun i hi => ⟨?_, JI hB (.inr hi)⟩, fun i hi => ⟨_, M.aZ (by omega) hy i, ?_⟩⟩⟩
 . rw [cell_of_row _ _ i _ _ _ hB, List.getElem?_toArray, eH ys i (by omega)]; rfl
 . rw [cell_of_row _ _ i _ _ _ hB, List.getElem?_toArray, eH ys i (by omega)]

def Nt (w0 v : World) (ao : Option Addr) (n c : Nat) (ra : Option Addr) (m rc : Nat) : Prop := Rs w0 v ao n c /\ Tw v (w0.heap.size + 1) ra m rc

theorem Rs.lows {w0 v v' : World} {ao : Option Addr} {n c : Nat} (h : Rs w0 v ao n c) (hb : Below (w0.heap.size + 1) v v') : Rs w0 v' ao n c := by
 obtain ⟨i, h1, h2, h3⟩ := h;exact ⟨i, h1, (hb.block _ (Nat.lt_succ_self _)).trans h2, h3.trans (hb.mono (Nat.le_succ _))⟩

theorem Nt.nil {w0 v : World} {ao : Option Addr} {n c : Nat} (h : Rs w0 v ao n c) : Nt w0 v ao n c none 0 0 := ⟨h, Tw.nil _ _⟩

theorem Nt.sx {w0 v v' : World} {ao ra : Option Addr} {n c m rc : Nat} (h : Nt w0 v ao n c ra m rc) (hr : Rs w0 v' ao n c) (hx : Sx w0.heap.size v v') : Nt w0 v' ao n c ra m rc := ⟨hr, h.2.kept hx.1 (fun b h1 h2 => hx.2 b h2 (by omega))⟩

theorem Nt.keep {w0 v v' : World} {ao ra : Option Addr} {n c m rc : Nat} (h : Nt w0 v ao n c ra m rc) (hb : Below v.heap.size v v') : Nt w0 v' ao n c ra m rc := ⟨h.1.keep hb, h.2.kept hb.size (fun b _ h2 => hb.block b h2)⟩

theorem Nt.alloc {w0 v : World} {ao ra : Option Addr} {n c m rc : Nat} (h : Nt w0 v ao n c ra m rc) (o : Obj) : Nt w0 (v.alloc o) ao n c ra m rc := h.keep ((Below.refl _ _).alloc (Nat.le_refl _) _)

theorem Nt.drew {w0 v : World} {ao ra : Option Addr} {n c m rc : Nat} (h : Nt w0 v ao n c ra m rc) : Nt w0 v.drew ao n c ra m rc := h.keep (Below.refl _ _).drew

theorem Nt.next {w0 v : World} {ao ra : Option Addr} {n c m rc : Nat} {bs : List Nat} (h : Nt w0 v ao n c ra m rc) (hl : bs.length = n) (hn : n <= 1048576) (hb : RdB w0 ao bs) :
 Calls Tryz.prog 44 #[.pointer (some ⟨w0.heap.size, 0, none⟩)] v fun e v' => ∃ x : Nat, x < 256 /\ e = .returned (.int .i64 (x : Int)) /\ Nt w0 v' ao n c ra m rc :=
 (cV hl hn hb h.1).mono (fun e v' ⟨x, hx, he, hr, hs⟩ => ⟨x, hx, he, h.sx hr hs⟩)

theorem Nt.app {ops : Array Oper} {rest : List Oper} {o : Oper} {a : Act} {Q : Exit -> Act -> World -> Prop} {w0 v : World} {ao ra : Option Addr} {n c m rc : Nat} (h : Nt w0 v ao n c ra m rc) (hgd : o.guard = none) (s x : Operand)
 (ho : o.op = .call { callee := .builtin .append, args := #[s, x], argTypes := #[22, 22] }) (hs : a.eval s = .slice ra m rc) (ad : Addr) (k c' : Nat) (ys : List Nat) (hx : a.eval x = .slice (some ad) k c') (hl : ys.length = k) (hm : 0 < k) (hr : RdB v (some ad) ys) (hn : m + k <= 100000)
 (K : ∀ g rc' v', Nt w0 v' ao n c (some ⟨g, 0, none⟩) (m + k) rc' -> wpList Tryz.prog ops Q rest (a.put o.dst (.slice (some ⟨g, 0, none⟩) (m + k) rc')) v') : wpList Tryz.prog ops Q (o :: rest) a v := by
 obtain ⟨g, cap, v', e, T, B⟩ := h.2.run h.1.lt ad k c' ys hl hm hr hn o.type
 refine wpList_plain hgd fun _ hK => ?_
 unfold Oper.wp execOp;simp only [ho, resolve, invoke, builtin, Sem.run_bind, Sem.run_pure, Result.andThen_ok, List.map_toArray, List.map_cons, List.map_nil, hs, hx, e];exact hK _ _ (K g cap v' ⟨h.1.lows B, T⟩)

theorem Nt.one {ops : Array Oper} {rest : List Oper} {o : Oper} {a : Act} {Q : Exit -> Act -> World -> Prop} {w0 v : World} {ao ra : Option Addr} {n c m rc : Nat} (h : Nt w0 v ao n c ra m rc) (ci : Int) (cn : Nat) (hci : ci = (cn : Int)) (hc : cn < 256) (hgd : o.guard = none) (s x : Operand)
 (ho : o.op = .call { callee := .builtin .append, args := #[s, x], argTypes := #[22, 22] }) (hs : a.eval s = .slice ra m rc) (hx : a.eval x = .slice (some ⟨v.heap.size, 0, none⟩) 1 1) (hn : m + 1 <= 100000)
 (K : ∀ g rc' v', Nt w0 v' ao n c (some ⟨g, 0, none⟩) (m + 1) rc' -> wpList Tryz.prog ops Q rest (a.put o.dst (.slice (some ⟨g, 0, none⟩) (m + 1) rc')) v') : wpList Tryz.prog ops Q (o :: rest) a (v.alloc (.cells #[.int .u8 ci] 5)) := by
 subst hci;exact (h.alloc _).app hgd s x ho hs _ 1 1 [cn] hx rfl (by omega) (oG v cn hc) hn K

def PrP (v w' : World) (e : Ending) : Prop :=
 ∃ ra n rc k, e = .returned (.agg #[.slice ra n rc, .int .i64 k]) /\ n <= 99999 /\ Tw w' v.heap.size ra n rc /\ Below v.heap.size v w'

theorem iX {w v2 v5 : World} {n rc : Nat} {ra : Option Addr} {xs : List Nat} (T : Tx v2.heap.size v2 v5 ra n rc xs) (h : ∀ x ∈ xs, x < 256) (b0 : Below w.heap.size w v2) (hlt : w.heap.size + 1 < v2.heap.size) (k : Int) (hn : n <= 99999) :
 PrP w ((v5.setCell ⟨w.heap.size + 1, 0, none⟩ (.slice ra n rc)).setCell ⟨w.heap.size + 1, 1, none⟩ (.int .i64 k)) (.returned (.agg #[.slice ra n rc, .int .i64 k])) := by
 obtain ⟨h1, h2, h3, h4⟩ := T;have t : Tw v5 v2.heap.size ra n rc := Tw.of_own h2 (by omega) h
 refine ⟨ra, n, rc, k, rfl, hn, (t.kept (by simp) (fun b hb _ => ?_)).low b0.size, (((b0.trans (h3.mono b0.size)).setCell (p := ⟨w.heap.size + 1, 0, none⟩) (Nat.le_succ _) _).setCell (p := ⟨w.heap.size + 1, 1, none⟩) (Nat.le_succ _) _)⟩
 exact (Below.heap_setCell _ _ _ _ (by simp only; omega)).trans (Below.heap_setCell _ _ _ _ (by simp only; omega))

theorem IV {w v : World} (b0 : Below w.heap.size w v) (hlt : w.heap.size + 1 < v.heap.size) (x y : Value) :
 PrP w (((v.setCell ⟨w.heap.size + 1, 0, none⟩ x).setCell ⟨w.heap.size + 1, 1, none⟩ y).alloc (.cells #[.int .u8 78, .int .u8 97, .int .u8 78] 5 (3, 4))) (.returned (.agg #[.slice (some ⟨v.heap.size, 0, none⟩) 3 3, .int .i64 0])) := by
 have b1 := (b0.setCell (p := ⟨w.heap.size + 1, 0, none⟩) (Nat.le_succ _) x).setCell (p := ⟨w.heap.size + 1, 1, none⟩) (Nat.le_succ _) y;have hs : ((v.setCell ⟨w.heap.size + 1, 0, none⟩ x).setCell ⟨w.heap.size + 1, 1, none⟩ y).heap.size = v.heap.size := by simp
 refine ⟨some ⟨v.heap.size, 0, none⟩, 3, 3, 0, rfl, by omega, ?_, b1.alloc b1.size _⟩;rw [<- hs];exact (Tw.of_const _ [78, 97, 78] 3 rfl (by omega) (by simp) _ rfl 4).low (by rw [hs]; exact b0.size)

end Go.Proofs.YtfdgkleoaehjaaaGreatDoor
