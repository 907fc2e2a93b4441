import Derived.Test.YtehplfmnipadmaeDoorUnA
import Derived.Test.YtehplfmnipadmaeDoorW1
import Derived.Test.YtehplfmnipadmaeDoorCom
import Derived.Test.YtehplfmnipadmaeDoorSp1
import Derived.Deep.RegionHeld3
import Derived.Test.YtehplfmnipadmaeDoorFmM
import Derived.Test.YtehplfmnipadmaeDoorBitM
import Derived.Test.YtehplfmnipadmaeDoorZBA
import Derived.Test.YtehplfmnipadmaeDoorAtR
import Derived.Test.YtehplfmnipadmaeDoorW16
import Derived.Test.YtehplfmnipadmaeDoorW15a
import Derived.Deep.CutBlock
import Derived.Deep.DeepCutAuto
import Derived.Test.YtehplfmnipadmaeDoorWdM
import Derived.Test.YtehplfmnipadmaeDoorPk6
import Derived.Test.YtehplfmnipadmaeDoorW17
import Derived.Test.YtehplfmnipadmaeDoorW4
import Derived.Test.YtehplfmnipadmaeDoorPkB
import Derived.Test.YtehplfmnipadmaeDoorIU
import Derived.OpenShut
import Derived.Test.YtehplfmnipadmaeDoorCards
import Derived.Test.YtehplfmnipadmaeDoorTie
import Derived.Test.YtehplfmnipadmaeDoorFd1
import Derived.ProofKit
import Derived.Deep.DeepHandedRow
import Derived.Lib.LaidTab
import Derived.Lib.LaidU8
import Derived.ChangeOld
import Derived.Below
namespace Go.Proofs.YtehplfmnipadmaeDoor
open Go.RowKit
set_option linter.unusedVariables false
set_option maxRecDepth 100000

set_option maxRecDepth 100000 in
set_option maxHeartbeats 1000000 in
theorem number_any (X : Nat) (hX : X < 2 ^ 128) (w : World) :
    Calls Tryd.prog 76 #[.agg #[.int .u64 (M.hiN X : Int), .int .u64 (M.loN X : Int)]] w fun e w' => ∃ ao c, e = .returned (.slice ao (L X).length c) ∧ Rd w' ao (L X) ∧ (L X).length ≤ c ∧ Below w.heap.size w w' := by
  go_enter Tryd.func76, Tryd.ntmps76
  go_wp2_with fail
  have hv : V [M.loN X, M.hiN X] = X := by rw [V2]; exact (M.hl X).symm
  have hf : F64 [M.loN X, M.hiN X] := by intro y hy; simp at hy; have := M.loLt X; have := M.hiLt hX; omega
  have b0 : Below w.heap.size w ((w.alloc (.cells #[.int .u64 (M.hiN X : Int), .int .u64 (M.loN X : Int)] 25)).alloc (.cells #[.int .u64 (M.loN X : Int), .int .u64 (M.hiN X : Int)] 22)) := ((Below.refl _ _).alloc (Nat.le_refl _) _).alloc (by simp) _
  have hr : Rd ((w.alloc (.cells #[.int .u64 (M.hiN X : Int), .int .u64 (M.loN X : Int)] 25)).alloc (.cells #[.int .u64 (M.loN X : Int), .int .u64 (M.hiN X : Int)] 22)) (some ⟨w.heap.size + 1, 0, none⟩) [M.loN X, M.hiN X] := by
    intro _
    refine ⟨w.heap.size + 1, 0, rfl, fun i hi => ?_⟩
    have : i = 0 ∨ i = 1 := by simp at hi; omega
    rcases this with rfl | rfl <;> simp [go_sem]
  refine (trim_any _ 2 2 [M.loN X, M.hiN X] _ rfl (Nat.le_refl _) (by omega) hf hr).mono ?_
  rw [hv]
  rintro e v1 ⟨rfl, rfl⟩
  have hq := hr.trim hf
  rw [hv] at hq
  have hl : (L X).length ≤ 2 := by rw [← hv]; exact L_len _ hf
  have HQ := hid hq
  have HL := hid hl
  clear hq hr hl hf hv
  go_wp2_with fail
  go_ret
  exact ⟨_, _, rfl, HQ.out, HL.out, b0⟩

theorem and_one (z : Int) (h0 : 0 ≤ z) (h1 : z < 18446744073709551616) : bits .and .u64 z 1 = z % 2 := by go_bits2

set_option maxRecDepth 100000 in
set_option maxHeartbeats 1000000 in
theorem even_any (X : Nat) (w : World) :
    Calls Tryd.prog 78 #[.agg #[.int .u64 (M.hiN X : Int), .int .u64 (M.loN X : Int)]] w fun e w' => e = .returned (.bool (decide (X % 2 = 0))) ∧ Below w.heap.size w w' := by
  go_enter Tryd.func78, Tryd.ntmps78
  have hb : (bits BinOp.and IntKind.u64 (M.loN X : Int) 1 == 0) = decide (X % 2 = 0) := by
    have e : bits BinOp.and IntKind.u64 (M.loN X : Int) 1 = ((M.loN X % 2 : Nat) : Int) := by
      have := M.loLt X
      rw [and_one _ (by omega) (by omega)]; omega
    rw [e]
    have : M.loN X % 2 = X % 2 := by unfold M.loN; omega
    rw [this]
    by_cases h : X % 2 = 0
    · simp [h]
    · have h2 : X % 2 = 1 := by omega
      simp [h2]
  go_wp2_with fail
  go_ret
  exact ⟨by rw [← hb]; rfl, (Below.refl _ _).alloc (Nat.le_refl _) _⟩

end Go.Proofs.YtehplfmnipadmaeDoor

namespace Go.Proofs.YtehplfmnipadmaeDoor.M
set_option linter.unusedVariables false
set_option maxRecDepth 100000

/-- Is N / De below 2^e? -/
def lt2 (N De : Nat) (e : Int) : Prop := N * 2 ^ (-e).toNat < De * 2 ^ e.toNat

instance (N De : Nat) (e : Int) : Decidable (lt2 N De e) := by unfold lt2; infer_instance

theorem lt2_iff (N De : Nat) (e : Int) (K : Nat) (h : 0 ≤ (K : Int) + e) : lt2 N De e ↔ N * 2 ^ K < De * 2 ^ ((K : Int) + e).toNat := by
  unfold lt2
  rcases Int.le_total 0 e with he | he
  · rw [show (-e).toNat = 0 by omega, show ((K : Int) + e).toNat = e.toNat + K by omega, Nat.pow_add, ← Nat.mul_assoc, Nat.pow_zero, Nat.mul_one]
    exact (Nat.mul_lt_mul_right (Nat.pow_pos (by omega))).symm
  · rw [show e.toNat = 0 by omega]
    have e1 : K = (-e).toNat + ((K : Int) + e).toNat := by omega
    generalize ((K : Int) + e).toNat = J at *
    rw [e1, Nat.pow_add, ← Nat.mul_assoc, Nat.pow_zero, Nat.mul_one]
    exact (Nat.mul_lt_mul_right (Nat.pow_pos (by omega))).symm

theorem lt2_mono {N De : Nat} {e e' : Int} (hd : 0 < De) (h : lt2 N De e) (he : e ≤ e') : lt2 N De e' := by
  rw [lt2_iff N De e (e.natAbs + e'.natAbs) (by omega)] at h
  rw [lt2_iff N De e' (e.natAbs + e'.natAbs) (by omega)]
  refine Nat.lt_of_lt_of_le h (Nat.mul_le_mul_left _ (Nat.pow_le_pow_right (by omega) ?_))
  omega

/-- The exponent that the lengths say, put right. -/
def rE (N De : Nat) : Int := if lt2 N De ((blen N : Int) - blen De) then (blen N : Int) - blen De - 1 else (blen N : Int) - blen De

theorem rE_ok (N De : Nat) (hN : 0 < N) (hd : 0 < De) : ¬ lt2 N De (rE N De) ∧ lt2 N De (rE N De + 1) := by
  have a1 := lt_blen N
  have a2 := blen_le N hN
  have a3 := blen_pos N hN
  have b1 := lt_blen De
  have b2 := blen_le De hd
  have b3 := blen_pos De hd
  have hi : lt2 N De ((blen N : Int) - blen De + 1) := by
    rw [lt2_iff N De _ (blen De - 1) (by omega), show (((blen De - 1 : Nat) : Int) + ((blen N : Int) - blen De + 1)).toNat = blen N by omega]
    have h1 : N * 2 ^ (blen De - 1) < 2 ^ blen N * 2 ^ (blen De - 1) := (Nat.mul_lt_mul_right (Nat.pow_pos (by omega))).2 a1
    have h2 : 2 ^ (blen De - 1) * 2 ^ blen N ≤ De * 2 ^ blen N := Nat.mul_le_mul_right _ b2
    rw [Nat.mul_comm] at h2
    omega
  have lo : ¬ lt2 N De ((blen N : Int) - blen De - 1) := by
    rw [lt2_iff N De _ (blen De) (by omega), show ((blen De : Int) + ((blen N : Int) - blen De - 1)).toNat = blen N - 1 by omega]
    have h1 : De * 2 ^ (blen N - 1) ≤ 2 ^ blen De * 2 ^ (blen N - 1) := Nat.mul_le_mul_right _ (by omega)
    have h2 : 2 ^ blen De * 2 ^ (blen N - 1) ≤ 2 ^ blen De * N := Nat.mul_le_mul_left _ a2
    rw [Nat.mul_comm _ N] at h2
    omega
  unfold rE
  by_cases h : lt2 N De ((blen N : Int) - blen De)
  · rw [if_pos h]
    exact ⟨lo, by rw [show (blen N : Int) - blen De - 1 + 1 = (blen N : Int) - blen De by omega]; exact h⟩
  · rw [if_neg h]
    exact ⟨h, hi⟩

/-- The unit's exponent, the ratio in units, the quotient rounded. -/
def Fm.rQ (F : Fm) (N De : Nat) : Int := max (rE N De - F.p + 1) F.qmin
def Fm.rN (F : Fm) (N De : Nat) : Nat := N * 2 ^ (-(F.rQ N De)).toNat
def Fm.rM (F : Fm) (N De : Nat) : Nat := De * 2 ^ (F.rQ N De).toNat
def rUp (n m : Nat) : Nat := if m < 2 * (n % m) ∨ (2 * (n % m) = m ∧ n / m % 2 = 1) then 1 else 0
def Fm.rS (F : Fm) (N De : Nat) : Nat := F.rN N De / F.rM N De + rUp (F.rN N De) (F.rM N De)

/-- The Sig and the exponent behind the carry. -/
def Fm.rSig (F : Fm) (N De : Nat) : Nat := if F.rS N De = 2 ^ F.p then F.lead else F.rS N De
def Fm.rExp (F : Fm) (N De : Nat) : Int := if F.rS N De = 2 ^ F.p then F.rQ N De + 1 else F.rQ N De

/-- The parts and the flags of a rounding; N above zero. -/
def Fm.rPt (F : Fm) (n : Bool) (N De : Nat) : Pt :=
  if F.rSig N De = 0 then ⟨1, n, 0, 0⟩ else if F.rSig N De < F.lead then ⟨2, n, F.rSig N De, F.rExp N De⟩
  else if (F.emax : Int) < F.rExp N De + F.p - 1 then ⟨4, n, 0, 0⟩ else ⟨3, n, F.rSig N De, F.rExp N De⟩
def Fm.rFl (F : Fm) (N De : Nat) (tiny range : Int) : Int :=
  if F.rSig N De = 0 then tiny else if F.rSig N De < F.lead then tiny
  else if (F.emax : Int) < F.rExp N De + F.p - 1 then range else 0

theorem Fm.Ok.rS_ok {F : Fm} (h : F.Ok) (N De : Nat) (hN : 0 < N) (hd : 0 < De) :
    0 < F.rM N De ∧ F.rN N De / F.rM N De < 2 ^ F.p ∧ (F.qmin < F.rQ N De → F.lead ≤ F.rN N De / F.rM N De) := by
  have hp := h.p1
  obtain ⟨e1, e2⟩ := rE_ok N De hN hd
  have hM : 0 < F.rM N De := Nat.mul_pos hd (Nat.pow_pos (by omega))
  have hq : F.rQ N De = max (rE N De - F.p + 1) F.qmin := rfl
  refine ⟨hM, ?_, fun hlt => ?_⟩
  · rw [Nat.div_lt_iff_lt_mul hM]
    have k := lt2_mono (e' := F.rQ N De + F.p) hd e2 (by omega)
    rw [lt2_iff N De _ (-(F.rQ N De)).toNat (by omega), show (((-(F.rQ N De)).toNat : Int) + (F.rQ N De + F.p)).toNat = F.p + (F.rQ N De).toNat by omega, Nat.pow_add] at k
    show N * 2 ^ (-(F.rQ N De)).toNat < 2 ^ F.p * (De * 2 ^ (F.rQ N De).toNat)
    rw [Nat.mul_left_comm]
    exact k
  · have k : ¬ lt2 N De (F.rQ N De + F.p - 1) := by
      rw [show F.rQ N De + F.p - 1 = rE N De by omega]; exact e1
    rw [Nat.le_div_iff_mul_le hM]
    rw [lt2_iff N De _ (-(F.rQ N De)).toNat (by omega), show (((-(F.rQ N De)).toNat : Int) + (F.rQ N De + F.p - 1)).toNat = (F.p - 1) + (F.rQ N De).toNat by omega, Nat.pow_add] at k
    show 2 ^ (F.p - 1) * (De * 2 ^ (F.rQ N De).toNat) ≤ N * 2 ^ (-(F.rQ N De)).toNat
    rw [Nat.mul_left_comm]
    omega

theorem Fm.Ok.two_lead {F : Fm} (h : F.Ok) : 2 ^ F.p = 2 * F.lead := by
  have p1 := h.p1
  unfold Fm.lead
  rw [Nat.mul_comm, ← Nat.pow_succ]; congr 1; omega

theorem rUp_le (n m : Nat) : rUp n m ≤ 1 := by unfold rUp; split <;> omega

theorem Fm.Ok.rS_le {F : Fm} (h : F.Ok) (N De : Nat) (hN : 0 < N) (hd : 0 < De) : F.rS N De ≤ 2 ^ F.p := by
  have := h.rS_ok N De hN hd
  have := rUp_le (F.rN N De) (F.rM N De)
  unfold Fm.rS
  omega

theorem Fm.Ok.rSig_lt {F : Fm} (h : F.Ok) (N De : Nat) (hN : 0 < N) (hd : 0 < De) : F.rSig N De < 2 * F.lead := by
  have h1 := h.rS_le N De hN hd
  have h2 := h.two_lead
  have h3 := h.leadPos
  unfold Fm.rSig
  split <;> omega

/-- Below the leading bit the unit is the least. -/
theorem Fm.Ok.rLow {F : Fm} (h : F.Ok) (N De : Nat) (hN : 0 < N) (hd : 0 < De) (hs : F.rSig N De < F.lead) : F.rExp N De = F.qmin ∧ F.rSig N De = F.rS N De ∧ F.rS N De ≠ 2 ^ F.p := by
  have h1 := h.rS_ok N De hN hd
  have h3 := h.leadPos
  have h2 := h.two_lead
  unfold Fm.rSig at hs
  by_cases hc : F.rS N De = 2 ^ F.p
  · rw [if_pos hc] at hs; omega
  · rw [if_neg hc] at hs
    refine ⟨?_, by unfold Fm.rSig; rw [if_neg hc], hc⟩
    unfold Fm.rExp
    rw [if_neg hc]
    have hq : F.rQ N De = max (rE N De - F.p + 1) F.qmin := rfl
    have hle : F.rN N De / F.rM N De ≤ F.rS N De := by unfold Fm.rS; omega
    by_cases hlt : F.qmin < F.rQ N De
    · have := h1.2.2 hlt; omega
    · omega

theorem Fm.Ok.rPt_proper {F : Fm} (h : F.Ok) (n : Bool) (N De : Nat) (hN : 0 < N) (hd : 0 < De) : F.Proper (F.rPt n N De) := by
  have h1 := h.rSig_lt N De hN hd
  have h2 := h.rLow N De hN hd
  have h3 := h.top2
  have h4 : F.qmin ≤ F.rExp N De := by
    have hq : F.rQ N De = max (rE N De - F.p + 1) F.qmin := rfl
    unfold Fm.rExp; split <;> omega
  have h5 : F.qmin = 2 - (F.emax : Int) - (F.p : Int) := rfl
  unfold Fm.rPt
  by_cases c1 : F.rSig N De = 0
  · rw [if_pos c1]; exact .inl ⟨rfl, rfl, rfl⟩
  · rw [if_neg c1]
    by_cases c2 : F.rSig N De < F.lead
    · rw [if_pos c2]
      exact .inr (.inr (.inr (.inl ⟨rfl, by simp only; omega, c2, (h2 c2).1⟩)))
    · rw [if_neg c2]
      by_cases c3 : (F.emax : Int) < F.rExp N De + F.p - 1
      · rw [if_pos c3]; exact .inr (.inl ⟨rfl, rfl, rfl⟩)
      · rw [if_neg c3]
        exact .inr (.inr (.inr (.inr ⟨rfl, by simp only; omega, h1, by simp only; omega, by simp only; omega⟩)))

end Go.Proofs.YtehplfmnipadmaeDoor.M

namespace Go.Proofs.YtehplfmnipadmaeDoor
open Go.RowKit
set_option linter.unusedVariables false
set_option maxRecDepth 100000

/-- The rounding's variable: the description, the two numbers, the word, the exponent. -/
def Rb (v : World) (g : Nat) (e0 e1 e2 e3 e4 : Int) (e5 : Bool) (a : Option Addr) (n c : Nat) (b : Option Addr) (m d : Nat) (Z : Nat) (q : Int) : Prop :=
  Cls v g #[.int .i64 e0, .int .i64 e1, .int .i64 e2, .int .i64 e3, .int .i64 e4, .bool e5, .slice a n c, .slice b m d, .int .u64 (M.hiN Z : Int), .int .u64 (M.loN Z : Int), .int .i64 q] 99

theorem Rb.below {v v' : World} {g : Nat} {e0 e1 e2 e3 e4 : Int} {e5 : Bool} {a b : Option Addr} {n c m d Z : Nat} {q : Int} (h : Rb v g e0 e1 e2 e3 e4 e5 a n c b m d Z q) (hb : Below v.heap.size v v') : Rb v' g e0 e1 e2 e3 e4 e5 a n c b m d Z q := Cls.below h hb

theorem cmpI_lt1 (a b : Nat) : decide (cmpI (a : Int) (b : Int) < 0) = decide (a < b) := by
  unfold cmpI
  rw [Bool.eq_iff_iff]
  simp only [decide_eq_true_eq]
  split
  · omega
  · split <;> omega

theorem keepDq {w1 W v : World} {q : Nat} (h : Below w1.heap.size w1 W) (e : v = W.drewN q) : Below w1.heap.size w1 v := by
  subst e
  exact ⟨h.os, h.tape, h.output, h.size, h.block⟩

theorem belDr (v : World) (q : Nat) : Below v.heap.size v (v.drewN q) := ⟨rfl, rfl, rfl, Nat.le_refl _, fun _ _ => rfl⟩

set_option maxRecDepth 100000 in
set_option maxHeartbeats 4000000 in
theorem iexp_key (g : Nat) (e0 e1 e2 e3 e4 : Int) (e5 : Bool) (a b : Option Addr) (c d N De Z : Nat) (q : Int) (w : World) (hB : Rb w g e0 e1 e2 e3 e4 e5 a (L N).length c b (L De).length d Z q) (ra : Rd w a (L N)) (rb : Rd w b (L De))
    (bN bD : Nat) (hbN : bN ≤ 90000) (hbD : bD ≤ 90000) (kN : ∀ v : World, Rd v a (L N) → Calls Tryd.prog 97 #[.slice a (L N).length c] v fun e w' => e = .returned (.int .i64 (bN : Int)) ∧ w' = v)
    (kD : ∀ v : World, Rd v b (L De) → Calls Tryd.prog 97 #[.slice b (L De).length d] v fun e w' => e = .returned (.int .i64 (bD : Int)) ∧ w' = v)
    (t s1 s2 : Int) (ht : t = (bN : Int) - bD) (hs1 : max (-t) 0 = s1) (hs2 : max t 0 = s2) (X Y : Nat)
    (kX : ∀ v : World, Rd v a (L N) → Calls Tryd.prog 77 #[.slice a (L N).length c, .int .i64 s1] v fun e w' => Ret v w' e (L X))
    (kY : ∀ v : World, Rd v b (L De) → Calls Tryd.prog 77 #[.slice b (L De).length d, .int .i64 s2] v fun e w' => Ret v w' e (L Y))
    (cz : Int) (kC : ∀ (v : World) (ao bo : Option Addr) (c d : Nat), Rd v ao (L X) → Rd v bo (L Y) → Calls Tryd.prog 95 #[.slice ao (L X).length c, .slice bo (L Y).length d] v fun e w' => e = .returned (.int .i64 cz) ∧ ∃ q, w' = v.drewN q)
    (E : Int) (hE : E = if cz < 0 then t - 1 else t) :
    Calls Tryd.prog 92 #[.pointer (some ⟨g, 0, none⟩)] w fun e w' => e = .returned (.int .i64 E) ∧ Below w.heap.size w w' := by
  have w1 : IntKind.i64.wrap ((bN : Int) - (bD : Int)) = t := by rw [IntKind.wrap_i64]; omega
  have w1' : (bN : Int) - (bD : Int) = t := by omega
  have w2 : IntKind.i64.wrap (-t) = -t := by rw [IntKind.wrap_i64]; omega
  have w3 : IntKind.i64.wrap (t - 1) = t - 1 := by rw [IntKind.wrap_i64]; omega
  have w4 : IntKind.i64.wrap t = t := by rw [IntKind.wrap_i64]; omega
  have HT := hid ht; clear ht
  have hs1' : (if -t < 0 then 0 else -t) = s1 := by split <;> omega
  have hs2' : (if t < 0 then 0 else t) = s2 := by split <;> omega
  have HE := hid hE; clear hE
  have c6 := Cls.cell hB 6 rfl
  have c7 := Cls.cell hB 7 rfl
  go_enter Tryd.func92, Tryd.ntmps92
  go_upto_region 1 with fail
  go_quiet ((go_at_call 97; first | (with_reducible show Calls _ _ #[Value.slice a _ _] _ _; exact Calls.quiet_of_same (kN _ (Rd.drewN ra _))) | exact Calls.quiet_of_same (kD _ (Rd.drewN rb _))))
  replace hB := hB.below (belDr _ nq)
  replace ra := ra.below (belDr _ nq)
  replace rb := rb.below (belDr _ nq)
  have b0 := belDr w nq
  generalize w.drewN nq = v1 at *
  clear c6 c7 kN kD w1 w1'
  go_upto_region 2 with fail
  go_cut [31] (fun z wx => z = .bool (decide (cz < 0)) ∧ Below v1.heap.size v1 wx)
  case first =>
    have A0 : Below v1.heap.size v1 v1.drew := (Below.refl _ _).drew
    have KB : ∀ v, Below v1.heap.size v1 v → (fun v => v.cell? ⟨g, 6, none⟩ = some (.slice a (L N).length c) ∧ v.cell? ⟨g, 7, none⟩ = some (.slice b (L De).length d)) v := fun v hv => ⟨Cls.cell (hB.below hv) 6 rfl, Cls.cell (hB.below hv) 7 rfl⟩
    go_region_held3 (fun v => v.cell? ⟨g, 6, none⟩ = some (.slice a (L N).length c) ∧ v.cell? ⟨g, 7, none⟩ = some (.slice b (L De).length d)) (first | with_reducible exact KB _ hb3 | with_reducible exact KB _ hb2 | with_reducible exact KB _ hb1 | with_reducible exact KB _ A0)
      (first | (have hq := hb2; clear hq; go_at_call 95; refine (kC _ _ _ _ _ r1 r2).mono ?_; rintro e u3 ⟨rfl, qq, hu3⟩; have hb3 := keepDq (w1 := v1) hb2 hu3; clear hu3) | (have hq := hb1; clear hq; go_at_call 77; refine (kY _ (rb.below hb1)).mono ?_; rintro e u2 ⟨x2, k2, rfl, o2, hb0⟩; have hb2 := keepC (w1 := v1) hb1 hb0; have r2 := Rd.own o2; replace r1 := r1.below hb0; clear hb0 o2) | (go_at_call 77; refine (kX _ (ra.below A0)).mono ?_; rintro e u1 ⟨x1, k1, rfl, o1, hb0⟩; have hb1 := keepC (w1 := v1) A0 hb0; have r1 := Rd.own o1; clear hb0 o1))
    all_goals go_wp2_with fail
    all_goals go_meet
    all_goals exact ⟨rfl, hb3⟩
  case rest =>
  obtain ⟨rfl, hbx⟩ := hcut
  replace b0 := b0.trans (hbx.mono b0.size)
  have HB0 := hid b0
  clear b0 hbx hB ra rb kX kY kC hs1 hs2 hs1' hs2'
  have h := HE.out
  by_cases hz : cz < 0
  · rw [if_pos hz] at h
    have hd : decide (cz < 0) = true := decide_eq_true hz
    have H := hid h; clear h
    go_wp2_with fail
    go_ret
    exact ⟨by rw [H.out]; rfl, HB0.out⟩
  · rw [if_neg hz] at h
    have hd : decide (cz < 0) = false := decide_eq_false hz
    have H := hid h; clear h
    go_wp2_with fail
    go_ret
    exact ⟨by rw [H.out]; rfl, HB0.out⟩

end Go.Proofs.YtehplfmnipadmaeDoor

namespace Go.Proofs.YtehplfmnipadmaeDoor
open Go.RowKit
set_option linter.unusedVariables false
set_option maxRecDepth 100000

theorem grown_of_below {w w' : World} (h : Below w.heap.size w w') (row : Option Nat) : w.grownBy w' row := ⟨h.os, h.tape, h.output, h.size, fun k hk _ => h.block k hk⟩

theorem Rd.gb {w w' : World} {ao : Option Addr} {xs : List Nat} {g : Nat} (h : Rd w ao xs) (hs : Apart ao xs g) (hg : w.grownBy w' (some g)) : Rd w' ao xs := h.apart hg hs

set_option maxRecDepth 100000 in
set_option maxHeartbeats 4000000 in
theorem iscale_key (g : Nat) (e0 e1 e2 e3 e4 : Int) (e5 : Bool) (a b : Option Addr) (c d N De Z : Nat) (q : Int) (w : World) (hB : Rb w g e0 e1 e2 e3 e4 e5 a (L N).length c b (L De).length d Z q) (ra : Rd w a (L N)) (rb : Rd w b (L De)) (sa : Apart a (L N) g) (sb : Apart b (L De) g)
    (E qm Q : Int) (he0 : 0 ≤ e0) (he0' : e0 ≤ 200) (hE1 : -100000 ≤ E) (hE2 : E ≤ 100000) (hQ : max (E - e0 + 1) qm = Q) (hQ1 : -100000 ≤ Q) (hQ2 : Q ≤ 100000)
    (kE : ∀ v : World, Rb v g e0 e1 e2 e3 e4 e5 a (L N).length c b (L De).length d Z q → Rd v a (L N) → Rd v b (L De) → Calls Tryd.prog 92 #[.pointer (some ⟨g, 0, none⟩)] v fun e w' => e = .returned (.int .i64 E) ∧ Below v.heap.size v w')
    (kQ : ∀ v : World, Calls Tryd.prog 74 #[.agg #[.int .i64 e0, .int .i64 e1, .int .i64 e2, .int .i64 e3, .int .i64 e4, .bool e5]] v fun e w' => e = .returned (.int .i64 qm) ∧ Below v.heap.size v w')
    (s1 s2 : Int) (hs1 : max (-Q) 0 = s1) (hs2 : max Q 0 = s2) (X Y : Nat)
    (kX : ∀ v : World, Rd v a (L N) → Calls Tryd.prog 77 #[.slice a (L N).length c, .int .i64 s1] v fun e w' => Ret v w' e (L X))
    (kY : ∀ v : World, Rd v b (L De) → Calls Tryd.prog 77 #[.slice b (L De).length d, .int .i64 s2] v fun e w' => Ret v w' e (L Y)) :
    Calls Tryd.prog 82 #[.pointer (some ⟨g, 0, none⟩)] w fun e w' => (∃ v, e = .returned v) ∧ ∃ (a1 : Option Addr) (c1 : Nat) (a2 : Option Addr) (c2 : Nat), Rb w' g e0 e1 e2 e3 e4 e5 a1 (L X).length c1 a2 (L Y).length c2 Z Q ∧ Rd w' a1 (L X) ∧ Rd w' a2 (L Y) ∧ Apart a1 (L X) g ∧ Apart a2 (L Y) g ∧ w.grownBy w' (some g) := by
  have w1 : IntKind.i64.wrap (E - e0) = E - e0 := by rw [IntKind.wrap_i64]; omega
  have w2 : IntKind.i64.wrap (E - e0 + 1) = E - e0 + 1 := by rw [IntKind.wrap_i64]; omega
  have w3 : IntKind.i64.wrap (-Q) = -Q := by rw [IntKind.wrap_i64]; omega
  have hQ' : (if E - e0 + 1 < qm then qm else E - e0 + 1) = Q := by split <;> omega
  have hs1' : (if -Q < 0 then 0 else -Q) = s1 := by split <;> omega
  have hs2' : (if Q < 0 then 0 else Q) = s2 := by split <;> omega
  have lg : g < w.heap.size := Cls.lt hB
  go_enter Tryd.func82, Tryd.ntmps82
  go_upto_region 0 with fail
  go_cut [18] (fun x wx => x = .pointer (some ⟨g, 0, none⟩) ∧ Rb wx g e0 e1 e2 e3 e4 e5 a (L N).length c b (L De).length d Z Q ∧ w.grownBy wx (some g))
  case first =>
    have A0 : Below w.heap.size w w.drew := (Below.refl _ _).drew

    have KB : ∀ v, Below w.heap.size w v → (fun v => v.cell? ⟨g, 0, none⟩ = some (.int .i64 e0) ∧ v.cell? ⟨g, 1, none⟩ = some (.int .i64 e1) ∧ v.cell? ⟨g, 2, none⟩ = some (.int .i64 e2) ∧ v.cell? ⟨g, 3, none⟩ = some (.int .i64 e3) ∧ v.cell? ⟨g, 4, none⟩ = some (.int .i64 e4) ∧ v.cell? ⟨g, 5, none⟩ = some (.bool e5)) v := fun v hv => ⟨Cls.cell (hB.below hv) 0 rfl, Cls.cell (hB.below hv) 1 rfl, Cls.cell (hB.below hv) 2 rfl, Cls.cell (hB.below hv) 3 rfl, Cls.cell (hB.below hv) 4 rfl, Cls.cell (hB.below hv) 5 rfl⟩
    have KS : ∀ v x, Below w.heap.size w v → (fun v => v.cell? ⟨g, 0, none⟩ = some (.int .i64 e0) ∧ v.cell? ⟨g, 1, none⟩ = some (.int .i64 e1) ∧ v.cell? ⟨g, 2, none⟩ = some (.int .i64 e2) ∧ v.cell? ⟨g, 3, none⟩ = some (.int .i64 e3) ∧ v.cell? ⟨g, 4, none⟩ = some (.int .i64 e4) ∧ v.cell? ⟨g, 5, none⟩ = some (.bool e5)) (v.setCell ⟨g, 10, none⟩ x) := fun v x hv => by
      have h := Cls.set (hB.below hv) 10 x _ rfl
      exact ⟨h.cell 0 rfl, h.cell 1 rfl, h.cell 2 rfl, h.cell 3 rfl, h.cell 4 rfl, h.cell 5 rfl⟩
    go_region_held3 (fun v => v.cell? ⟨g, 0, none⟩ = some (.int .i64 e0) ∧ v.cell? ⟨g, 1, none⟩ = some (.int .i64 e1) ∧ v.cell? ⟨g, 2, none⟩ = some (.int .i64 e2) ∧ v.cell? ⟨g, 3, none⟩ = some (.int .i64 e3) ∧ v.cell? ⟨g, 4, none⟩ = some (.int .i64 e4) ∧ v.cell? ⟨g, 5, none⟩ = some (.bool e5)) (first | with_reducible exact KB _ hb2 | with_reducible exact KB _ hb1 | with_reducible exact KB _ A0 | with_reducible exact KS _ _ hb2)
      (first | (have hq := hb1; clear hq; go_at_call 74; refine (kQ _).mono ?_; rintro e u2 ⟨rfl, hb0⟩; have hb2 := keepC (w1 := w) hb1 hb0; clear hb0; have b10 := Cls.cell (hB.below hb2) 10 rfl; have f10 := Cls.frozen (hB.below hb2) 10) | (go_at_call 92; refine (kE _ (hB.below A0) (ra.below A0) (rb.below A0)).mono ?_; rintro e u1 ⟨rfl, hb0⟩; have hb1 := keepC (w1 := w) A0 hb0; clear hb0))
    all_goals go_wp2_with fail
    all_goals go_meet
    all_goals exact ⟨rfl, Cls.set (hB.below hb2) 10 _ _ rfl, grown_trans (grown_of_below hb2 _) (grown_setCell _ _ _ _)⟩
  case rest =>
  obtain ⟨rfl, hB1, hg1⟩ := hcut
  replace ra := ra.gb sa hg1
  replace rb := rb.gb sb hg1
  clear hB kE kQ
  have lg1 : g < wc.heap.size := Cls.lt hB1
  go_upto_region 1 with fail
  go_cut [32] (fun x wx => x = .pointer (some ⟨g, 0, none⟩) ∧ ∃ (a1 : Option Addr) (c1 : Nat), Rb wx g e0 e1 e2 e3 e4 e5 a1 (L X).length c1 b (L De).length d Z Q ∧ Rd wx a1 (L X) ∧ Apart a1 (L X) g ∧ wc.grownBy wx (some g))
  case first =>
    have A0 : Below wc.heap.size wc wc.drew := (Below.refl _ _).drew
    have c6 := Cls.cell (hB1.below A0) 6 rfl
    have c10 := Cls.cell (hB1.below A0) 10 rfl
    have d6 := Cls.cell hB1 6 rfl
    have d10 := Cls.cell hB1 10 rfl
    go_region_with (first | (go_at_call 77; refine (kX _ (ra.below A0)).mono ?_; rintro e u1 ⟨x1, k1, rfl, o1, hb0⟩; have hb1 := keepC (w1 := wc) A0 hb0; clear hb0; have b6 := Cls.cell (hB1.below hb1) 6 rfl; have f6 := Cls.frozen (hB1.below hb1) 6))
    all_goals go_wp2_with fail
    all_goals go_meet
    all_goals (have ap := apart_own (g := g) o1 lg1; exact ⟨rfl, x1, k1, Cls.set (hB1.below hb1) 6 _ _ rfl, (Rd.own o1).apart (grown_setCell u1 g 6 _) ap, ap, grown_trans (grown_of_below hb1 _) (grown_setCell _ _ _ _)⟩)
  case rest =>
  rename_i wd
  obtain ⟨rfl, x1, k1, hB2, rx, sx, hg2⟩ := hcut
  replace rb := rb.gb sb hg2
  have hg12 := grown_trans hg1 hg2
  clear hB1 kX ra sa hg1 hg2
  have lg2 : g < wc.heap.size := Cls.lt hB2
  go_upto_region 2 with fail
  have A0 : Below wc.heap.size wc wc.drew := (Below.refl _ _).drew
  have c7 := Cls.cell (hB2.below A0) 7 rfl
  have c10 := Cls.cell (hB2.below A0) 10 rfl
  have d7 := Cls.cell hB2 7 rfl
  have d10 := Cls.cell hB2 10 rfl
  go_region_with (first | (go_at_call 77; refine (kY _ (rb.below A0)).mono ?_; rintro e u1 ⟨x2, k2, rfl, o1, hb0⟩; have hb1 := keepC (w1 := wc) A0 hb0; clear hb0; have b7 := Cls.cell (hB2.below hb1) 7 rfl; have f7 := Cls.frozen (hB2.below hb1) 7))
  all_goals go_wp2_with fail
  all_goals go_end0
  all_goals (have ap := apart_own (g := g) o1 lg2; have gg := grown_trans (grown_of_below hb1 _) (grown_setCell u1 g 7 (.slice x2 (L Y).length k2)); exact ⟨⟨_, rfl⟩, x1, k1, x2, k2, Cls.set (hB2.below hb1) 7 _ _ rfl, rx.gb sx gg, (Rd.own o1).apart (grown_setCell u1 g 7 _) ap, sx, ap, grown_trans hg12 gg⟩)

end Go.Proofs.YtehplfmnipadmaeDoor

namespace Go.Proofs.YtehplfmnipadmaeDoor
open Go.RowKit
set_option linter.unusedVariables false
set_option maxRecDepth 100000

theorem Own.away {w : World} {lo hi : Nat} {ao : Option Addr} {cap : Nat} {r : List Nat} {g : Nat} (h : Own w lo hi ao cap r) (hg : g < lo) : Apart ao r g := by
  intro hp b2 o2 e
  obtain ⟨g', e', _⟩ := own_addr h.row hp
  rw [e] at e'
  simp only [Option.some.injEq, Addr.mk.injEq] at e'
  obtain ⟨rfl, rfl, _⟩ := e'
  have := (h.place b2 (by rw [e]; rfl)).1
  omega

theorem Rb.set2 {v : World} {g : Nat} {e0 e1 e2 e3 e4 : Int} {e5 : Bool} {a b : Option Addr} {n c m d Z : Nat} {q : Int} (h : Rb v g e0 e1 e2 e3 e4 e5 a n c b m d Z q) (Y : Nat) : Rb ((v.setCell ⟨g, 8, none⟩ (.int .u64 (M.hiN Y : Int))).setCell ⟨g, 9, none⟩ (.int .u64 (M.loN Y : Int))) g e0 e1 e2 e3 e4 e5 a n c b m d Y q :=
  Cls.set (Cls.set h 8 _ _ rfl) 9 _ _ rfl

theorem grown2 (v : World) (g i j : Nat) (x y : Value) : v.grownBy ((v.setCell ⟨g, i, none⟩ x).setCell ⟨g, j, none⟩ y) (some g) := grown_trans (grown_setCell _ _ _ _) (grown_setCell _ _ _ _)

set_option maxRecDepth 100000 in
set_option maxHeartbeats 4000000 in
theorem inear_key (g : Nat) (e0 e1 e2 e3 e4 : Int) (e5 : Bool) (a b : Option Addr) (c d N De Z : Nat) (q : Int) (w : World) (hB : Rb w g e0 e1 e2 e3 e4 e5 a (L N).length c b (L De).length d Z q) (ra : Rd w a (L N)) (rb : Rd w b (L De)) (sa : Apart a (L N) g) (sb : Apart b (L De) g)
    (S0 R0 : Nat) (kD : ∀ v : World, Rd v a (L N) → Rd v b (L De) → Calls Tryd.prog 93 #[.slice a (L N).length c, .slice b (L De).length d] v fun e w' => RetD v w' e (L S0) (L R0))
    (kW : ∀ (v : World) (ao : Option Addr) (cc : Nat), Rd v ao (L S0) → Calls Tryd.prog 94 #[.slice ao (L S0).length cc] v fun e w' => e = .returned (.agg #[.int .u64 (M.hiN S0 : Int), .int .u64 (M.loN S0 : Int)]) ∧ Below v.heap.size v w')
    (kS : ∀ (v : World) (ao : Option Addr) (cc : Nat), Rd v ao (L R0) → Calls Tryd.prog 77 #[.slice ao (L R0).length cc, .int .i64 1] v fun e w' => Ret v w' e (L (R0 * 2)))
    (cz : Int) (kC : ∀ (v : World) (ao : Option Addr) (cc : Nat), Rd v ao (L (R0 * 2)) → Rd v b (L De) → Calls Tryd.prog 95 #[.slice ao (L (R0 * 2)).length cc, .slice b (L De).length d] v fun e w' => e = .returned (.int .i64 cz) ∧ ∃ q, w' = v.drewN q)
    (kV : ∀ v : World, Calls Tryd.prog 78 #[.agg #[.int .u64 (M.hiN S0 : Int), .int .u64 (M.loN S0 : Int)]] v fun e w' => e = .returned (.bool (decide (S0 % 2 = 0))) ∧ Below v.heap.size v w')
    (kP : ∀ v : World, Calls Tryd.prog 43 #[.agg #[.int .u64 (M.hiN S0 : Int), .int .u64 (M.loN S0 : Int)], .agg #[.int .u64 0, .int .u64 1]] v fun e w' => e = .returned (.agg #[.int .u64 (M.hiN (S0 + 1) : Int), .int .u64 (M.loN (S0 + 1) : Int)]) ∧ Below v.heap.size v w')
    (S1 : Nat) (hS1 : S1 = if 0 < cz ∨ (cz = 0 ∧ S0 % 2 = 1) then S0 + 1 else S0) :
    Calls Tryd.prog 83 #[.pointer (some ⟨g, 0, none⟩)] w fun e w' => (∃ v, e = .returned v) ∧ Rb w' g e0 e1 e2 e3 e4 e5 a (L N).length c b (L De).length d S1 q ∧ w.grownBy w' (some g) := by
  have HS1 := hid hS1; clear hS1
  have lg : g < w.heap.size := Cls.lt hB
  go_enter Tryd.func83, Tryd.ntmps83
  go_upto_region 0 with fail
  go_cut [2, 3] (fun x y wx => ∃ (a1 : Option Addr) (c1 : Nat) (a2 : Option Addr) (c2 : Nat), x = .slice a1 (L S0).length c1 ∧ y = .slice a2 (L R0).length c2 ∧ Rd wx a1 (L S0) ∧ Rd wx a2 (L R0) ∧ Apart a2 (L R0) g ∧ Below w.heap.size w wx)
  case first =>
    have A0 : Below w.heap.size w w.drew := (Below.refl _ _).drew
    have c6 := Cls.cell (hB.below A0) 6 rfl
    have c7 := Cls.cell (hB.below A0) 7 rfl
    have d6 := Cls.cell hB 6 rfl
    have d7 := Cls.cell hB 7 rfl
    go_region_with (first | (go_at_call 93; refine (kD _ (ra.below A0) (rb.below A0)).mono ?_; rintro e u1 ⟨a1, c1, a2, c2, mid, rfl, g1, g2, o1, o2, hb0⟩; have hb1 := keepC (w1 := w) A0 hb0; clear hb0))
    all_goals go_wp2_with fail
    all_goals go_meet
    all_goals exact ⟨a1, c1, a2, c2, rfl, rfl, o1.rd, o2.rd, o2.away (Nat.lt_of_lt_of_le lg g1), hb1⟩
  case rest =>
  obtain ⟨a1, c1, a2, c2, rfl, rfl, r1, r2, s2, hbx⟩ := hcut
  replace hB := hB.below hbx
  replace rb := rb.below hbx
  clear kD ra sa
  go_wp2_with fail
  refine (kW _ _ _ r1).mono ?_
  rintro e v2 ⟨rfl, hb2⟩
  replace hB := hB.below hb2
  replace rb := rb.below hb2
  replace r2 := r2.below hb2
  replace hbx := hbx.trans (hb2.mono hbx.size)
  clear kW r1 hb2
  have b8 := Cls.cell hB 8 rfl
  have b9 := Cls.cell hB 9 rfl
  have f8 := Cls.frozen hB 8
  have f9 := Cls.frozen hB 9
  go_upto_region 2 with fail
  clear b8 b9 f8 f9
  have gg := grown2 v2 g 8 9 (.int .u64 (M.hiN S0 : Int)) (.int .u64 (M.loN S0 : Int))
  replace hB := hB.set2 S0
  replace rb := rb.gb sb gg
  replace r2 := r2.gb s2 gg
  have hg := grown_trans (grown_of_below hbx (some g)) gg
  clear gg hbx
  generalize ((v2.setCell ⟨g, 8, none⟩ (.int .u64 (M.hiN S0 : Int))).setCell ⟨g, 9, none⟩ (.int .u64 (M.loN S0 : Int))) = v3 at *
  go_cut [4] (fun x wx => x = .int .i64 cz ∧ Below v3.heap.size v3 wx)
  case first =>
    have A0 : Below v3.heap.size v3 v3.drew := (Below.refl _ _).drew
    have KB : ∀ v, Below v3.heap.size v3 v → (fun v => v.cell? ⟨g, 7, none⟩ = some (.slice b (L De).length d)) v := fun v hv => Cls.cell (hB.below hv) 7 rfl
    go_region_held3 (fun v => v.cell? ⟨g, 7, none⟩ = some (.slice b (L De).length d)) (first | with_reducible exact KB _ hb2 | with_reducible exact KB _ hb1 | with_reducible exact KB _ A0)
      (first | (have hq := hb1; clear hq; go_at_call 95; refine (kC _ _ _ rt (rb.below hb1)).mono ?_; rintro e u2 ⟨rfl, qq, hu2⟩; have hb2 := keepDq (w1 := v3) hb1 hu2; clear hu2) | (go_at_call 77; refine (kS _ _ _ (r2.below A0)).mono ?_; rintro e u1 ⟨x1, k1, rfl, o1, hb0⟩; have hb1 := keepC (w1 := v3) A0 hb0; have rt := Rd.own o1; clear hb0 o1))
    all_goals go_wp2_with fail
    all_goals go_meet
    all_goals exact ⟨rfl, hb2⟩
  case rest =>
  obtain ⟨rfl, hbx⟩ := hcut
  replace hB := hB.below hbx
  replace hg := grown_trans hg (grown_of_below hbx (some g))
  clear kS kC r2 rb s2 sb hbx
  go_upto_region 3 with fail
  go_cut [42] (fun x wx => x = .bool (decide (0 < cz ∨ (cz = 0 ∧ S0 % 2 = 1))) ∧ Below wc.heap.size wc wx)
  case first =>
    by_cases hp : 0 < cz
    · have e1 : decide (0 < cz ∨ (cz = 0 ∧ S0 % 2 = 1)) = true := decide_eq_true (.inl hp)
      have E1 := hid e1; clear e1
      go_wp2_with fail
      go_meet
      case rel => exact ⟨by rw [E1.out], Below.refl _ _⟩
    · by_cases hz : cz = 0
      · have hzb : (cz == 0) = true := by simp [hz]
        have e1 : decide (0 < cz ∨ (cz = 0 ∧ S0 % 2 = 1)) = !(decide (S0 % 2 = 0)) := by
          rw [Bool.eq_iff_iff]; simp only [decide_eq_true_eq, Bool.not_eq_true', decide_eq_false_iff_not]; omega
        have HZ := hid hz; clear hz
        have E1 := hid e1; clear e1
        have b8 := Cls.cell hB 8 rfl
        have b9 := Cls.cell hB 9 rfl
        generalize hbz : decide (S0 % 2 = 0) = bz at *
        go_wp2_with (go_at_call 78; refine (kV _).mono ?_; rintro e v9 ⟨rfl, hb9⟩)
        go_meet
        case rel => exact ⟨by rw [E1.out], hb9⟩
      · have hzb : (cz == 0) = false := by simp [hz]
        have e1 : decide (0 < cz ∨ (cz = 0 ∧ S0 % 2 = 1)) = false := decide_eq_false (by omega)
        have E1 := hid e1; clear e1
        go_wp2_with fail
        go_meet
        case rel => exact ⟨by rw [E1.out], Below.refl _ _⟩
  case rest =>
  obtain ⟨rfl, hbx⟩ := hcut
  replace hB := hB.below hbx
  replace hg := grown_trans hg (grown_of_below hbx (some g))
  clear kV hbx
  have h := HS1.out
  by_cases hp : 0 < cz ∨ (cz = 0 ∧ S0 % 2 = 1)
  · rw [if_pos hp] at h
    have e1 : decide (0 < cz ∨ (cz = 0 ∧ S0 % 2 = 1)) = true := decide_eq_true hp
    rw [e1]
    have HP := hid hp; have H := hid h; clear hp h e1
    have b8 := Cls.cell hB 8 rfl
    have b9 := Cls.cell hB 9 rfl
    go_wp2_with fail
    refine (kP _).mono ?_
    rintro e v4 ⟨rfl, hb4⟩
    replace hB := hB.below hb4
    replace hg := grown_trans hg (grown_of_below hb4 (some g))
    clear b8 b9 kP hb4
    have b8 := Cls.cell hB 8 rfl
    have b9 := Cls.cell hB 9 rfl
    have f8 := Cls.frozen hB 8
    have f9 := Cls.frozen hB 9
    have HH := hid (And.intro (hB.set2 (S0 + 1)) (grown_trans hg (grown2 v4 g 8 9 (.int .u64 (M.hiN (S0 + 1) : Int)) (.int .u64 (M.loN (S0 + 1) : Int)))))
    clear hB hg
    go_wp2_with fail
    go_end0
    exact ⟨⟨_, rfl⟩, by rw [H.out]; exact HH.out.1, HH.out.2⟩
  · rw [if_neg hp] at h
    have e1 : decide (0 < cz ∨ (cz = 0 ∧ S0 % 2 = 1)) = false := decide_eq_false hp
    rw [e1]
    have HP := hid hp; have H := hid h; clear hp h e1
    have HH := hid (And.intro hB hg)
    clear hB hg
    go_wp2_with fail
    go_end0
    exact ⟨⟨_, rfl⟩, by rw [H.out]; exact HH.out.1, HH.out.2⟩

end Go.Proofs.YtehplfmnipadmaeDoor

namespace Go.Proofs.YtehplfmnipadmaeDoor
open Go.RowKit
set_option linter.unusedVariables false
set_option maxRecDepth 100000

set_option maxRecDepth 100000 in
set_option maxHeartbeats 4000000 in
theorem icarry_key (g : Nat) (e0 e1 e2 e3 e4 : Int) (e5 : Bool) (a b : Option Addr) (n c m d S1 : Nat) (q : Int) (w : World) (hB : Rb w g e0 e1 e2 e3 e4 e5 a n c b m d S1 q)
    (B Ld : Nat) (kA : ∀ v : World, Calls Tryd.prog 91 #[.int .i64 e0] v fun e w' => e = .returned (.agg #[.int .u64 (M.hiN B : Int), .int .u64 (M.loN B : Int)]) ∧ Below v.heap.size v w') (kL : ∀ v : World, Calls Tryd.prog 71 #[.agg #[.int .i64 e0, .int .i64 e1, .int .i64 e2, .int .i64 e3, .int .i64 e4, .bool e5]] v fun e w' => e = .returned (.agg #[.int .u64 (M.hiN Ld : Int), .int .u64 (M.loN Ld : Int)]) ∧ Below v.heap.size v w')
    (hq1 : -100000 ≤ q) (hq2 : q ≤ 100001) (S : Nat) (X : Int) (hS : S = if S1 = B then Ld else S1) (hX : X = if S1 = B then q + 1 else q) :
    Calls Tryd.prog 84 #[.pointer (some ⟨g, 0, none⟩)] w fun e w' => (∃ v, e = .returned v) ∧ Rb w' g e0 e1 e2 e3 e4 e5 a n c b m d S X ∧ w.grownBy w' (some g) := by
  have HS := hid hS; have HX := hid hX; clear hS hX
  have w1 : IntKind.i64.wrap (q + 1) = q + 1 := by rw [IntKind.wrap_i64]; omega
  go_enter Tryd.func84, Tryd.ntmps84
  go_upto_region 0 with fail
  go_cut [12] (fun x wx => x = .bool (decide (S1 = B)) ∧ Below w.heap.size w wx)
  case first =>
    have A0 : Below w.heap.size w w.drew := (Below.refl _ _).drew
    have KB : ∀ v, Below w.heap.size w v → (fun v => v.cell? ⟨g, 8, none⟩ = some (.int .u64 (M.hiN S1 : Int)) ∧ v.cell? ⟨g, 9, none⟩ = some (.int .u64 (M.loN S1 : Int)) ∧ v.cell? ⟨g, 0, none⟩ = some (.int .i64 e0)) v := fun v hv => ⟨Cls.cell (hB.below hv) 8 rfl, Cls.cell (hB.below hv) 9 rfl, Cls.cell (hB.below hv) 0 rfl⟩
    by_cases heq : S1 = B
    · have E1 : Hid (decide (S1 = B) = true) := decide_eq_true heq
      subst heq
      go_region_held3 (fun v => v.cell? ⟨g, 8, none⟩ = some (.int .u64 (M.hiN S1 : Int)) ∧ v.cell? ⟨g, 9, none⟩ = some (.int .u64 (M.loN S1 : Int)) ∧ v.cell? ⟨g, 0, none⟩ = some (.int .i64 e0)) (first | with_reducible exact KB _ hb1 | with_reducible exact KB _ A0) (first | (go_at_call 91; refine (kA _).mono ?_; rintro e u1 ⟨rfl, hb0⟩; have hb1 := keepC (w1 := w) A0 hb0; clear hb0))
      all_goals go_wp2_with fail
      all_goals go_meet
      all_goals exact ⟨by rw [E1.out], hb1⟩
    · have E1 : Hid (decide (S1 = B) = false) := decide_eq_false heq
      by_cases q0 : M.hiN S1 = M.hiN B
      · have q1 : ¬ M.loN S1 = M.loN B := fun hh => heq (M.hl_eq q0 hh)
        have q2 : ((M.loN S1 : Int) == (M.loN B : Int)) = false := by simp; omega
        have q3 : ((M.hiN S1 : Int) == (M.hiN B : Int)) = true := by simp; omega
        have H0 := hid q0; have H1 := hid q1; have H2 := hid heq; clear q0 q1 heq
        go_region_held3 (fun v => v.cell? ⟨g, 8, none⟩ = some (.int .u64 (M.hiN S1 : Int)) ∧ v.cell? ⟨g, 9, none⟩ = some (.int .u64 (M.loN S1 : Int)) ∧ v.cell? ⟨g, 0, none⟩ = some (.int .i64 e0)) (first | with_reducible exact KB _ hb1 | with_reducible exact KB _ A0) (first | (go_at_call 91; refine (kA _).mono ?_; rintro e u1 ⟨rfl, hb0⟩; have hb1 := keepC (w1 := w) A0 hb0; clear hb0))
        all_goals go_wp2_with fail
        all_goals go_meet
        all_goals exact ⟨by rw [E1.out], hb1⟩
      · have q2 : ((M.hiN S1 : Int) == (M.hiN B : Int)) = false := by simp; omega
        have H0 := hid q0; have H2 := hid heq; clear q0 heq
        go_region_held3 (fun v => v.cell? ⟨g, 8, none⟩ = some (.int .u64 (M.hiN S1 : Int)) ∧ v.cell? ⟨g, 9, none⟩ = some (.int .u64 (M.loN S1 : Int)) ∧ v.cell? ⟨g, 0, none⟩ = some (.int .i64 e0)) (first | with_reducible exact KB _ hb1 | with_reducible exact KB _ A0) (first | (go_at_call 91; refine (kA _).mono ?_; rintro e u1 ⟨rfl, hb0⟩; have hb1 := keepC (w1 := w) A0 hb0; clear hb0))
        all_goals go_wp2_with fail
        all_goals go_meet
        all_goals exact ⟨by rw [E1.out], hb1⟩
  case rest =>
  obtain ⟨rfl, hbx⟩ := hcut
  replace hB := hB.below hbx
  have hg := grown_of_below hbx (some g)
  clear hbx kA
  have h1 := HS.out
  have h2 := HX.out
  by_cases heq : S1 = B
  · rw [if_pos heq] at h1 h2
    have e1 : decide (S1 = B) = true := decide_eq_true heq
    rw [e1]
    have H0 := hid heq; have H1 := hid h1; have H2 := hid h2; clear heq h1 h2 e1
    have b0 := Cls.cell hB 0 rfl
    have b1 := Cls.cell hB 1 rfl
    have b2 := Cls.cell hB 2 rfl
    have b3 := Cls.cell hB 3 rfl
    have b4 := Cls.cell hB 4 rfl
    have b5 := Cls.cell hB 5 rfl
    go_wp2_with fail
    refine (kL _).mono ?_
    rintro e v2 ⟨rfl, hb2⟩
    replace hB := hB.below hb2
    replace hg := grown_trans hg (grown_of_below hb2 (some g))
    clear hb2 b0 b1 b2 b3 b4 b5 kL
    have b8 := Cls.cell hB 8 rfl
    have b9 := Cls.cell hB 9 rfl
    have f8 := Cls.frozen hB 8
    have f9 := Cls.frozen hB 9
    go_upto_region 2 with fail
    clear b8 b9 f8 f9
    replace hB := hB.set2 Ld
    replace hg := grown_trans hg (grown2 v2 g 8 9 (.int .u64 (M.hiN Ld : Int)) (.int .u64 (M.loN Ld : Int)))
    generalize ((v2.setCell ⟨g, 8, none⟩ (.int .u64 (M.hiN Ld : Int))).setCell ⟨g, 9, none⟩ (.int .u64 (M.loN Ld : Int))) = v3 at *
    have b10 := Cls.cell hB 10 rfl
    have f10 := Cls.frozen hB 10
    have HH := hid (And.intro (Cls.set hB 10 (.int .i64 (q + 1)) _ rfl) (grown_trans hg (grown_setCell v3 g 10 (.int .i64 (q + 1)))))
    clear hB hg
    go_wp2_with fail
    go_end0
    refine ⟨⟨_, rfl⟩, ?_, HH.out.2⟩
    rw [H1.out, H2.out]
    exact HH.out.1
  · rw [if_neg heq] at h1 h2
    have e1 : decide (S1 = B) = false := decide_eq_false heq
    rw [e1]
    have H0 := hid heq; have H1 := hid h1; have H2 := hid h2; clear heq h1 h2 e1
    have HH := hid (And.intro hB hg)
    clear hB hg
    go_wp2_with fail
    go_end0
    refine ⟨⟨_, rfl⟩, ?_, HH.out.2⟩
    rw [H1.out, H2.out]
    exact HH.out.1

end Go.Proofs.YtehplfmnipadmaeDoor

namespace Go.Proofs.YtehplfmnipadmaeDoor
open Go.RowKit
set_option linter.unusedVariables false
set_option maxRecDepth 100000

set_option maxRecDepth 100000 in
set_option maxHeartbeats 4000000 in
theorem iout_zero (g : Nat) (e0 e1 e2 e3 e4 : Int) (e5 : Bool) (a b : Option Addr) (n c m d : Nat) (q : Int) (w : World) (hB : Rb w g e0 e1 e2 e3 e4 e5 a n c b m d 0 q) :
    Calls Tryd.prog 85 #[.pointer (some ⟨g, 0, none⟩)] w fun e w' => e = .returned (.tuple #[.agg #[.int .i64 1, .bool false, .int .u64 0, .int .u64 0, .int .i64 0], .int .i64 2]) ∧ Below w.heap.size w w' := by
  have b0 : Below w.heap.size w (w.alloc (.cells #[.int .i64 0, .bool false, .int .u64 0, .int .u64 0, .int .i64 0] 49)) := (Below.refl _ _).alloc (Nat.le_refl _) _
  have hP : Cls (w.alloc (.cells #[.int .i64 0, .bool false, .int .u64 0, .int .u64 0, .int .i64 0] 49)) w.heap.size #[.int .i64 0, .bool false, .int .u64 0, .int .u64 0, .int .i64 0] 49 := Cls.new _ _ _
  have lg : g < w.heap.size := Cls.lt hB
  replace hB := hB.below b0
  generalize hV : (w.alloc (.cells #[.int .i64 0, .bool false, .int .u64 0, .int .u64 0, .int .i64 0] 49)) = v0 at *
  go_enter Tryd.func85, Tryd.ntmps85
  go_upto_region 1 with fail
  clear hV
  have b8 := Cls.cell hB 8 rfl
  have b9 := Cls.cell hB 9 rfl
  rw [hi0] at b8
  rw [lo0] at b9
  have p0 := hP.cell 0 rfl
  have g0 := hP.frozen 0
  have p1 := hP.cell 1 rfl
  have g1 := hP.frozen 1
  have p2 := hP.cell 2 rfl
  have g2 := hP.frozen 2
  have p3 := hP.cell 3 rfl
  have g3 := hP.frozen 3
  have p4 := hP.cell 4 rfl
  have g4 := hP.frozen 4
  go_wp2_with fail
  have R4 := Cls.set (Cls.set (Cls.set (Cls.set (Cls.set hP 0 (.int .i64 1) _ rfl) 1 (.bool false) _ rfl) 2 (.int .u64 0) _ rfl) 3 (.int .u64 0) _ rfl) 4 (.int .i64 0) #[.int .i64 1, .bool false, .int .u64 0, .int .u64 0, .int .i64 0] rfl
  have B4 := (((((b0).setCell (p := ⟨w.heap.size, 0, none⟩) (Nat.le_refl _) (.int .i64 1)).setCell (p := ⟨w.heap.size, 1, none⟩) (Nat.le_refl _) (.bool false)).setCell (p := ⟨w.heap.size, 2, none⟩) (Nat.le_refl _) (.int .u64 0)).setCell (p := ⟨w.heap.size, 3, none⟩) (Nat.le_refl _) (.int .u64 0)).setCell (p := ⟨w.heap.size, 4, none⟩) (Nat.le_refl _) (.int .i64 0)
  have R5 := R4
  have B5 := B4
  clear R4 B4
  generalize (((((v0.setCell ⟨w.heap.size, 0, none⟩ (.int .i64 1)).setCell ⟨w.heap.size, 1, none⟩ (.bool false)).setCell ⟨w.heap.size, 2, none⟩ (.int .u64 0)).setCell ⟨w.heap.size, 3, none⟩ (.int .u64 0)).setCell ⟨w.heap.size, 4, none⟩ (.int .i64 0)) = Yw at R5 B5 ⊢
  have q0 := R5.cell 0 rfl
  have q1 := R5.cell 1 rfl
  have q2 := R5.cell 2 rfl
  have q3 := R5.cell 3 rfl
  have q4 := R5.cell 4 rfl
  exact bodyPost_ret (v := .tuple #[.agg #[.int .i64 1, .bool false, .int .u64 0, .int .u64 0, .int .i64 0], .int .i64 2]) (by simp [results, Tryd.results85, go_sem, q0, q1, q2, q3, q4]) rfl ⟨rfl, B5⟩

set_option maxRecDepth 100000 in
set_option maxHeartbeats 4000000 in
theorem iout_sub (g : Nat) (e0 e1 e2 e3 e4 : Int) (e5 : Bool) (a b : Option Addr) (n c m d S : Nat) (q : Int) (w : World) (hB : Rb w g e0 e1 e2 e3 e4 e5 a n c b m d S q) (hS : ¬ S = 0) (Ld : Nat) (cz : Int) (kL : ∀ v : World, Calls Tryd.prog 71 #[.agg #[.int .i64 e0, .int .i64 e1, .int .i64 e2, .int .i64 e3, .int .i64 e4, .bool e5]] v fun e w' => e = .returned (.agg #[.int .u64 (M.hiN Ld : Int), .int .u64 (M.loN Ld : Int)]) ∧ Below v.heap.size v w') (kC : ∀ v : World, Calls Tryd.prog 61 #[.agg #[.int .u64 (M.hiN S : Int), .int .u64 (M.loN S : Int)], .agg #[.int .u64 (M.hiN Ld : Int), .int .u64 (M.loN Ld : Int)]] v fun e w' => e = .returned (.int .i64 cz) ∧ Below v.heap.size v w') (hcz : cz < 0) :
    Calls Tryd.prog 85 #[.pointer (some ⟨g, 0, none⟩)] w fun e w' => e = .returned (.tuple #[.agg #[.int .i64 2, .bool false, .int .u64 (M.hiN S : Int), .int .u64 (M.loN S : Int), .int .i64 q], .int .i64 2]) ∧ Below w.heap.size w w' := by
  have b0 : Below w.heap.size w (w.alloc (.cells #[.int .i64 0, .bool false, .int .u64 0, .int .u64 0, .int .i64 0] 49)) := (Below.refl _ _).alloc (Nat.le_refl _) _
  have hP : Cls (w.alloc (.cells #[.int .i64 0, .bool false, .int .u64 0, .int .u64 0, .int .i64 0] 49)) w.heap.size #[.int .i64 0, .bool false, .int .u64 0, .int .u64 0, .int .i64 0] 49 := Cls.new _ _ _
  have lg : g < w.heap.size := Cls.lt hB
  replace hB := hB.below b0
  generalize hV : (w.alloc (.cells #[.int .i64 0, .bool false, .int .u64 0, .int .u64 0, .int .i64 0] 49)) = v0 at *
  go_enter Tryd.func85, Tryd.ntmps85
  go_upto_region 1 with fail
  clear hV
  have E1 : Hid (¬ S = 0) := hS
  go_cut [4] (fun x wx => x = .bool false ∧ wx = v0)
  case first =>
    have b8 := Cls.cell hB 8 rfl
    have b9 := Cls.cell hB 9 rfl
    by_cases q0 : M.hiN S = 0
    · have q1 : ¬ M.loN S = 0 := fun hh => hS (M.hl_eq (q0.trans hi0.symm) (hh.trans lo0.symm))
      have q2 : ((M.loN S : Int) == 0) = false := by simp; omega
      have q3 : ((M.hiN S : Int) == 0) = true := by simp; omega
      have H0 := hid q0; have H1 := hid q1; clear q0 q1 hS
      go_wp2_with fail
      go_meet
      case rel => exact ⟨rfl, rfl⟩
    · have q2 : ((M.hiN S : Int) == 0) = false := by simp; omega
      have H0 := hid q0; clear q0 hS
      go_wp2_with fail
      go_meet
      case rel => exact ⟨rfl, rfl⟩
  case rest =>
  obtain ⟨rfl, rfl⟩ := hcut
  clear hS
  go_upto_region 3 with fail
  go_cut [12] (fun x wx => x = .bool true ∧ Below wc.heap.size wc wx)
  case first =>
    have A0 : Below wc.heap.size wc wc.drew := (Below.refl _ _).drew
    have KB : ∀ v, Below wc.heap.size wc v → (fun v => v.cell? ⟨g, 8, none⟩ = some (.int .u64 (M.hiN S : Int)) ∧ v.cell? ⟨g, 9, none⟩ = some (.int .u64 (M.loN S : Int)) ∧ v.cell? ⟨g, 0, none⟩ = some (.int .i64 e0) ∧ v.cell? ⟨g, 1, none⟩ = some (.int .i64 e1) ∧ v.cell? ⟨g, 2, none⟩ = some (.int .i64 e2) ∧ v.cell? ⟨g, 3, none⟩ = some (.int .i64 e3) ∧ v.cell? ⟨g, 4, none⟩ = some (.int .i64 e4) ∧ v.cell? ⟨g, 5, none⟩ = some (.bool e5)) v := fun v hv => ⟨Cls.cell (hB.below hv) 8 rfl, Cls.cell (hB.below hv) 9 rfl, Cls.cell (hB.below hv) 0 rfl, Cls.cell (hB.below hv) 1 rfl, Cls.cell (hB.below hv) 2 rfl, Cls.cell (hB.below hv) 3 rfl, Cls.cell (hB.below hv) 4 rfl, Cls.cell (hB.below hv) 5 rfl⟩
    go_region_held3 (fun v => v.cell? ⟨g, 8, none⟩ = some (.int .u64 (M.hiN S : Int)) ∧ v.cell? ⟨g, 9, none⟩ = some (.int .u64 (M.loN S : Int)) ∧ v.cell? ⟨g, 0, none⟩ = some (.int .i64 e0) ∧ v.cell? ⟨g, 1, none⟩ = some (.int .i64 e1) ∧ v.cell? ⟨g, 2, none⟩ = some (.int .i64 e2) ∧ v.cell? ⟨g, 3, none⟩ = some (.int .i64 e3) ∧ v.cell? ⟨g, 4, none⟩ = some (.int .i64 e4) ∧ v.cell? ⟨g, 5, none⟩ = some (.bool e5)) (first | with_reducible exact KB _ hb2 | with_reducible exact KB _ hb1 | with_reducible exact KB _ A0) (first | (have hq := hb1; clear hq; go_at_call 61; refine (kC _).mono ?_; rintro e u2 ⟨rfl, hb0⟩; have hb2 := keepC (w1 := wc) hb1 hb0; clear hb0) | (go_at_call 71; refine (kL _).mono ?_; rintro e u1 ⟨rfl, hb0⟩; have hb1 := keepC (w1 := wc) A0 hb0; clear hb0))
    all_goals go_wp2_with fail
    all_goals go_meet
    all_goals exact ⟨by first | rfl | simp [hcz], hb2⟩
  case rest =>
  obtain ⟨rfl, hbx⟩ := hcut
  replace hB := hB.below hbx
  replace hP := hP.below hbx
  replace b0 := b0.trans (hbx.mono b0.size)
  clear hbx kL kC
  go_upto_region 4 with fail
  have A0 : Below wc.heap.size wc wc.drew := (Below.refl _ _).drew
  have b8 := Cls.cell hB 8 rfl
  have b9 := Cls.cell hB 9 rfl
  have b10 := Cls.cell hB 10 rfl
  have c8 := Cls.cell (hB.below A0) 8 rfl
  have c9 := Cls.cell (hB.below A0) 9 rfl
  have c10 := Cls.cell (hB.below A0) 10 rfl
  have p0 := hP.cell 0 rfl
  have g0 := hP.frozen 0
  have p1 := hP.cell 1 rfl
  have g1 := hP.frozen 1
  have p2 := hP.cell 2 rfl
  have g2 := hP.frozen 2
  have p3 := hP.cell 3 rfl
  have g3 := hP.frozen 3
  have p4 := hP.cell 4 rfl
  have g4 := hP.frozen 4
  have hP' := hP.below A0
  have r0 := hP'.cell 0 rfl
  have s0 := hP'.frozen 0
  have r1 := hP'.cell 1 rfl
  have s1 := hP'.frozen 1
  have r2 := hP'.cell 2 rfl
  have s2 := hP'.frozen 2
  have r3 := hP'.cell 3 rfl
  have s3 := hP'.frozen 3
  have r4 := hP'.cell 4 rfl
  have s4 := hP'.frozen 4
  go_region_with (fail)
  all_goals go_wp2_with fail
  all_goals (
    have R4 := Cls.set (Cls.set (Cls.set (Cls.set (Cls.set hP 0 (.int .i64 2) _ rfl) 1 (.bool false) _ rfl) 2 (.int .u64 (M.hiN S : Int)) _ rfl) 3 (.int .u64 (M.loN S : Int)) _ rfl) 4 (.int .i64 q) #[.int .i64 2, .bool false, .int .u64 (M.hiN S : Int), .int .u64 (M.loN S : Int), .int .i64 q] rfl
    have B4 := (((((b0).setCell (p := ⟨w.heap.size, 0, none⟩) (Nat.le_refl _) (.int .i64 2)).setCell (p := ⟨w.heap.size, 1, none⟩) (Nat.le_refl _) (.bool false)).setCell (p := ⟨w.heap.size, 2, none⟩) (Nat.le_refl _) (.int .u64 (M.hiN S : Int))).setCell (p := ⟨w.heap.size, 3, none⟩) (Nat.le_refl _) (.int .u64 (M.loN S : Int))).setCell (p := ⟨w.heap.size, 4, none⟩) (Nat.le_refl _) (.int .i64 q)
    have R5 := (R4.below (Below.refl _ _).drew)
    have B5 := B4.drew
    clear R4 B4
    generalize (((((wc.setCell ⟨w.heap.size, 0, none⟩ (.int .i64 2)).setCell ⟨w.heap.size, 1, none⟩ (.bool false)).setCell ⟨w.heap.size, 2, none⟩ (.int .u64 (M.hiN S : Int))).setCell ⟨w.heap.size, 3, none⟩ (.int .u64 (M.loN S : Int))).setCell ⟨w.heap.size, 4, none⟩ (.int .i64 q)).drew = Yw at R5 B5 ⊢
    have q0 := R5.cell 0 rfl
    have q1 := R5.cell 1 rfl
    have q2 := R5.cell 2 rfl
    have q3 := R5.cell 3 rfl
    have q4 := R5.cell 4 rfl
    exact bodyPost_ret (v := .tuple #[.agg #[.int .i64 2, .bool false, .int .u64 (M.hiN S : Int), .int .u64 (M.loN S : Int), .int .i64 q], .int .i64 2]) (by simp [results, Tryd.results85, go_sem, q0, q1, q2, q3, q4]) rfl ⟨rfl, B5⟩)

set_option maxRecDepth 100000 in
set_option maxHeartbeats 4000000 in
theorem iout_inf (g : Nat) (e0 e1 e2 e3 e4 : Int) (e5 : Bool) (a b : Option Addr) (n c m d S : Nat) (q : Int) (w : World) (hB : Rb w g e0 e1 e2 e3 e4 e5 a n c b m d S q) (hS : ¬ S = 0) (Ld : Nat) (cz : Int) (kL : ∀ v : World, Calls Tryd.prog 71 #[.agg #[.int .i64 e0, .int .i64 e1, .int .i64 e2, .int .i64 e3, .int .i64 e4, .bool e5]] v fun e w' => e = .returned (.agg #[.int .u64 (M.hiN Ld : Int), .int .u64 (M.loN Ld : Int)]) ∧ Below v.heap.size v w') (kC : ∀ v : World, Calls Tryd.prog 61 #[.agg #[.int .u64 (M.hiN S : Int), .int .u64 (M.loN S : Int)], .agg #[.int .u64 (M.hiN Ld : Int), .int .u64 (M.loN Ld : Int)]] v fun e w' => e = .returned (.int .i64 cz) ∧ Below v.heap.size v w') (hcz : ¬ cz < 0) (hq1 : -100000 ≤ q) (hq2 : q ≤ 200000) (he1 : 0 ≤ e0) (he2 : e0 ≤ 200) (hov : e2 < q + e0 - 1) :
    Calls Tryd.prog 85 #[.pointer (some ⟨g, 0, none⟩)] w fun e w' => e = .returned (.tuple #[.agg #[.int .i64 4, .bool false, .int .u64 0, .int .u64 0, .int .i64 0], .int .i64 1]) ∧ Below w.heap.size w w' := by
  have b0 : Below w.heap.size w (w.alloc (.cells #[.int .i64 0, .bool false, .int .u64 0, .int .u64 0, .int .i64 0] 49)) := (Below.refl _ _).alloc (Nat.le_refl _) _
  have hP : Cls (w.alloc (.cells #[.int .i64 0, .bool false, .int .u64 0, .int .u64 0, .int .i64 0] 49)) w.heap.size #[.int .i64 0, .bool false, .int .u64 0, .int .u64 0, .int .i64 0] 49 := Cls.new _ _ _
  have lg : g < w.heap.size := Cls.lt hB
  replace hB := hB.below b0
  generalize hV : (w.alloc (.cells #[.int .i64 0, .bool false, .int .u64 0, .int .u64 0, .int .i64 0] 49)) = v0 at *
  go_enter Tryd.func85, Tryd.ntmps85
  go_upto_region 1 with fail
  clear hV
  have E1 : Hid (¬ S = 0) := hS
  go_cut [4] (fun x wx => x = .bool false ∧ wx = v0)
  case first =>
    have b8 := Cls.cell hB 8 rfl
    have b9 := Cls.cell hB 9 rfl
    by_cases q0 : M.hiN S = 0
    · have q1 : ¬ M.loN S = 0 := fun hh => hS (M.hl_eq (q0.trans hi0.symm) (hh.trans lo0.symm))
      have q2 : ((M.loN S : Int) == 0) = false := by simp; omega
      have q3 : ((M.hiN S : Int) == 0) = true := by simp; omega
      have H0 := hid q0; have H1 := hid q1; clear q0 q1 hS
      go_wp2_with fail
      go_meet
      case rel => exact ⟨rfl, rfl⟩
    · have q2 : ((M.hiN S : Int) == 0) = false := by simp; omega
      have H0 := hid q0; clear q0 hS
      go_wp2_with fail
      go_meet
      case rel => exact ⟨rfl, rfl⟩
  case rest =>
  obtain ⟨rfl, rfl⟩ := hcut
  clear hS
  go_upto_region 3 with fail
  go_cut [12] (fun x wx => x = .bool false ∧ Below wc.heap.size wc wx)
  case first =>
    have A0 : Below wc.heap.size wc wc.drew := (Below.refl _ _).drew
    have KB : ∀ v, Below wc.heap.size wc v → (fun v => v.cell? ⟨g, 8, none⟩ = some (.int .u64 (M.hiN S : Int)) ∧ v.cell? ⟨g, 9, none⟩ = some (.int .u64 (M.loN S : Int)) ∧ v.cell? ⟨g, 0, none⟩ = some (.int .i64 e0) ∧ v.cell? ⟨g, 1, none⟩ = some (.int .i64 e1) ∧ v.cell? ⟨g, 2, none⟩ = some (.int .i64 e2) ∧ v.cell? ⟨g, 3, none⟩ = some (.int .i64 e3) ∧ v.cell? ⟨g, 4, none⟩ = some (.int .i64 e4) ∧ v.cell? ⟨g, 5, none⟩ = some (.bool e5)) v := fun v hv => ⟨Cls.cell (hB.below hv) 8 rfl, Cls.cell (hB.below hv) 9 rfl, Cls.cell (hB.below hv) 0 rfl, Cls.cell (hB.below hv) 1 rfl, Cls.cell (hB.below hv) 2 rfl, Cls.cell (hB.below hv) 3 rfl, Cls.cell (hB.below hv) 4 rfl, Cls.cell (hB.below hv) 5 rfl⟩
    go_region_held3 (fun v => v.cell? ⟨g, 8, none⟩ = some (.int .u64 (M.hiN S : Int)) ∧ v.cell? ⟨g, 9, none⟩ = some (.int .u64 (M.loN S : Int)) ∧ v.cell? ⟨g, 0, none⟩ = some (.int .i64 e0) ∧ v.cell? ⟨g, 1, none⟩ = some (.int .i64 e1) ∧ v.cell? ⟨g, 2, none⟩ = some (.int .i64 e2) ∧ v.cell? ⟨g, 3, none⟩ = some (.int .i64 e3) ∧ v.cell? ⟨g, 4, none⟩ = some (.int .i64 e4) ∧ v.cell? ⟨g, 5, none⟩ = some (.bool e5)) (first | with_reducible exact KB _ hb2 | with_reducible exact KB _ hb1 | with_reducible exact KB _ A0) (first | (have hq := hb1; clear hq; go_at_call 61; refine (kC _).mono ?_; rintro e u2 ⟨rfl, hb0⟩; have hb2 := keepC (w1 := wc) hb1 hb0; clear hb0) | (go_at_call 71; refine (kL _).mono ?_; rintro e u1 ⟨rfl, hb0⟩; have hb1 := keepC (w1 := wc) A0 hb0; clear hb0))
    all_goals go_wp2_with fail
    all_goals go_meet
    all_goals exact ⟨by first | rfl | simp [hcz], hb2⟩
  case rest =>
  obtain ⟨rfl, hbx⟩ := hcut
  replace hB := hB.below hbx
  replace hP := hP.below hbx
  replace b0 := b0.trans (hbx.mono b0.size)
  clear hbx kL kC
  have w9 : IntKind.i64.wrap (q + e0) = q + e0 := by rw [IntKind.wrap_i64]; omega
  have w10 : IntKind.i64.wrap (q + e0 - 1) = q + e0 - 1 := by rw [IntKind.wrap_i64]; omega
  go_upto_region 5 with fail
  have b10 := Cls.cell hB 10 rfl
  have b0' := Cls.cell hB 0 rfl
  have b2' := Cls.cell hB 2 rfl
  go_quiet (fail)
  replace hB := hB.below (belDr _ nq)
  replace hP := hP.below (belDr _ nq)
  replace b0 := b0.trans ((belDr _ nq).mono b0.size)
  generalize wc.drewN nq = wc at *
  clear b10 b0' b2'
  have p0 := hP.cell 0 rfl
  have g0 := hP.frozen 0
  have p1 := hP.cell 1 rfl
  have g1 := hP.frozen 1
  have p2 := hP.cell 2 rfl
  have g2 := hP.frozen 2
  have p3 := hP.cell 3 rfl
  have g3 := hP.frozen 3
  have p4 := hP.cell 4 rfl
  have g4 := hP.frozen 4
  go_wp2_with fail
  have R4 := Cls.set (Cls.set (Cls.set (Cls.set (Cls.set hP 0 (.int .i64 4) _ rfl) 1 (.bool false) _ rfl) 2 (.int .u64 0) _ rfl) 3 (.int .u64 0) _ rfl) 4 (.int .i64 0) #[.int .i64 4, .bool false, .int .u64 0, .int .u64 0, .int .i64 0] rfl
  have B4 := (((((b0).setCell (p := ⟨w.heap.size, 0, none⟩) (Nat.le_refl _) (.int .i64 4)).setCell (p := ⟨w.heap.size, 1, none⟩) (Nat.le_refl _) (.bool false)).setCell (p := ⟨w.heap.size, 2, none⟩) (Nat.le_refl _) (.int .u64 0)).setCell (p := ⟨w.heap.size, 3, none⟩) (Nat.le_refl _) (.int .u64 0)).setCell (p := ⟨w.heap.size, 4, none⟩) (Nat.le_refl _) (.int .i64 0)
  have R5 := R4
  have B5 := B4
  clear R4 B4
  generalize (((((wc.setCell ⟨w.heap.size, 0, none⟩ (.int .i64 4)).setCell ⟨w.heap.size, 1, none⟩ (.bool false)).setCell ⟨w.heap.size, 2, none⟩ (.int .u64 0)).setCell ⟨w.heap.size, 3, none⟩ (.int .u64 0)).setCell ⟨w.heap.size, 4, none⟩ (.int .i64 0)) = Yw at R5 B5 ⊢
  have q0 := R5.cell 0 rfl
  have q1 := R5.cell 1 rfl
  have q2 := R5.cell 2 rfl
  have q3 := R5.cell 3 rfl
  have q4 := R5.cell 4 rfl
  exact bodyPost_ret (v := .tuple #[.agg #[.int .i64 4, .bool false, .int .u64 0, .int .u64 0, .int .i64 0], .int .i64 1]) (by simp [results, Tryd.results85, go_sem, q0, q1, q2, q3, q4]) rfl ⟨rfl, B5⟩

set_option maxRecDepth 100000 in
set_option maxHeartbeats 4000000 in
theorem iout_norm (g : Nat) (e0 e1 e2 e3 e4 : Int) (e5 : Bool) (a b : Option Addr) (n c m d S : Nat) (q : Int) (w : World) (hB : Rb w g e0 e1 e2 e3 e4 e5 a n c b m d S q) (hS : ¬ S = 0) (Ld : Nat) (cz : Int) (kL : ∀ v : World, Calls Tryd.prog 71 #[.agg #[.int .i64 e0, .int .i64 e1, .int .i64 e2, .int .i64 e3, .int .i64 e4, .bool e5]] v fun e w' => e = .returned (.agg #[.int .u64 (M.hiN Ld : Int), .int .u64 (M.loN Ld : Int)]) ∧ Below v.heap.size v w') (kC : ∀ v : World, Calls Tryd.prog 61 #[.agg #[.int .u64 (M.hiN S : Int), .int .u64 (M.loN S : Int)], .agg #[.int .u64 (M.hiN Ld : Int), .int .u64 (M.loN Ld : Int)]] v fun e w' => e = .returned (.int .i64 cz) ∧ Below v.heap.size v w') (hcz : ¬ cz < 0) (hq1 : -100000 ≤ q) (hq2 : q ≤ 200000) (he1 : 0 ≤ e0) (he2 : e0 ≤ 200) (hov : ¬ e2 < q + e0 - 1) :
    Calls Tryd.prog 85 #[.pointer (some ⟨g, 0, none⟩)] w fun e w' => e = .returned (.tuple #[.agg #[.int .i64 3, .bool false, .int .u64 (M.hiN S : Int), .int .u64 (M.loN S : Int), .int .i64 q], .int .i64 0]) ∧ Below w.heap.size w w' := by
  have b0 : Below w.heap.size w (w.alloc (.cells #[.int .i64 0, .bool false, .int .u64 0, .int .u64 0, .int .i64 0] 49)) := (Below.refl _ _).alloc (Nat.le_refl _) _
  have hP : Cls (w.alloc (.cells #[.int .i64 0, .bool false, .int .u64 0, .int .u64 0, .int .i64 0] 49)) w.heap.size #[.int .i64 0, .bool false, .int .u64 0, .int .u64 0, .int .i64 0] 49 := Cls.new _ _ _
  have lg : g < w.heap.size := Cls.lt hB
  replace hB := hB.below b0
  generalize hV : (w.alloc (.cells #[.int .i64 0, .bool false, .int .u64 0, .int .u64 0, .int .i64 0] 49)) = v0 at *
  go_enter Tryd.func85, Tryd.ntmps85
  go_upto_region 1 with fail
  clear hV
  have E1 : Hid (¬ S = 0) := hS
  go_cut [4] (fun x wx => x = .bool false ∧ wx = v0)
  case first =>
    have b8 := Cls.cell hB 8 rfl
    have b9 := Cls.cell hB 9 rfl
    by_cases q0 : M.hiN S = 0
    · have q1 : ¬ M.loN S = 0 := fun hh => hS (M.hl_eq (q0.trans hi0.symm) (hh.trans lo0.symm))
      have q2 : ((M.loN S : Int) == 0) = false := by simp; omega
      have q3 : ((M.hiN S : Int) == 0) = true := by simp; omega
      have H0 := hid q0; have H1 := hid q1; clear q0 q1 hS
      go_wp2_with fail
      go_meet
      case rel => exact ⟨rfl, rfl⟩
    · have q2 : ((M.hiN S : Int) == 0) = false := by simp; omega
      have H0 := hid q0; clear q0 hS
      go_wp2_with fail
      go_meet
      case rel => exact ⟨rfl, rfl⟩
  case rest =>
  obtain ⟨rfl, rfl⟩ := hcut
  clear hS
  go_upto_region 3 with fail
  go_cut [12] (fun x wx => x = .bool false ∧ Below wc.heap.size wc wx)
  case first =>
    have A0 : Below wc.heap.size wc wc.drew := (Below.refl _ _).drew
    have KB : ∀ v, Below wc.heap.size wc v → (fun v => v.cell? ⟨g, 8, none⟩ = some (.int .u64 (M.hiN S : Int)) ∧ v.cell? ⟨g, 9, none⟩ = some (.int .u64 (M.loN S : Int)) ∧ v.cell? ⟨g, 0, none⟩ = some (.int .i64 e0) ∧ v.cell? ⟨g, 1, none⟩ = some (.int .i64 e1) ∧ v.cell? ⟨g, 2, none⟩ = some (.int .i64 e2) ∧ v.cell? ⟨g, 3, none⟩ = some (.int .i64 e3) ∧ v.cell? ⟨g, 4, none⟩ = some (.int .i64 e4) ∧ v.cell? ⟨g, 5, none⟩ = some (.bool e5)) v := fun v hv => ⟨Cls.cell (hB.below hv) 8 rfl, Cls.cell (hB.below hv) 9 rfl, Cls.cell (hB.below hv) 0 rfl, Cls.cell (hB.below hv) 1 rfl, Cls.cell (hB.below hv) 2 rfl, Cls.cell (hB.below hv) 3 rfl, Cls.cell (hB.below hv) 4 rfl, Cls.cell (hB.below hv) 5 rfl⟩
    go_region_held3 (fun v => v.cell? ⟨g, 8, none⟩ = some (.int .u64 (M.hiN S : Int)) ∧ v.cell? ⟨g, 9, none⟩ = some (.int .u64 (M.loN S : Int)) ∧ v.cell? ⟨g, 0, none⟩ = some (.int .i64 e0) ∧ v.cell? ⟨g, 1, none⟩ = some (.int .i64 e1) ∧ v.cell? ⟨g, 2, none⟩ = some (.int .i64 e2) ∧ v.cell? ⟨g, 3, none⟩ = some (.int .i64 e3) ∧ v.cell? ⟨g, 4, none⟩ = some (.int .i64 e4) ∧ v.cell? ⟨g, 5, none⟩ = some (.bool e5)) (first | with_reducible exact KB _ hb2 | with_reducible exact KB _ hb1 | with_reducible exact KB _ A0) (first | (have hq := hb1; clear hq; go_at_call 61; refine (kC _).mono ?_; rintro e u2 ⟨rfl, hb0⟩; have hb2 := keepC (w1 := wc) hb1 hb0; clear hb0) | (go_at_call 71; refine (kL _).mono ?_; rintro e u1 ⟨rfl, hb0⟩; have hb1 := keepC (w1 := wc) A0 hb0; clear hb0))
    all_goals go_wp2_with fail
    all_goals go_meet
    all_goals exact ⟨by first | rfl | simp [hcz], hb2⟩
  case rest =>
  obtain ⟨rfl, hbx⟩ := hcut
  replace hB := hB.below hbx
  replace hP := hP.below hbx
  replace b0 := b0.trans (hbx.mono b0.size)
  clear hbx kL kC
  have w9 : IntKind.i64.wrap (q + e0) = q + e0 := by rw [IntKind.wrap_i64]; omega
  have w10 : IntKind.i64.wrap (q + e0 - 1) = q + e0 - 1 := by rw [IntKind.wrap_i64]; omega
  go_upto_region 5 with fail
  have b10 := Cls.cell hB 10 rfl
  have b0' := Cls.cell hB 0 rfl
  have b2' := Cls.cell hB 2 rfl
  go_quiet (fail)
  replace hB := hB.below (belDr _ nq)
  replace hP := hP.below (belDr _ nq)
  replace b0 := b0.trans ((belDr _ nq).mono b0.size)
  generalize wc.drewN nq = wc at *
  clear b10 b0' b2'
  go_upto_region 7 with fail
  have A0 : Below wc.heap.size wc wc.drew := (Below.refl _ _).drew
  have b8 := Cls.cell hB 8 rfl
  have b9 := Cls.cell hB 9 rfl
  have b10 := Cls.cell hB 10 rfl
  have c8 := Cls.cell (hB.below A0) 8 rfl
  have c9 := Cls.cell (hB.below A0) 9 rfl
  have c10 := Cls.cell (hB.below A0) 10 rfl
  have p0 := hP.cell 0 rfl
  have g0 := hP.frozen 0
  have p1 := hP.cell 1 rfl
  have g1 := hP.frozen 1
  have p2 := hP.cell 2 rfl
  have g2 := hP.frozen 2
  have p3 := hP.cell 3 rfl
  have g3 := hP.frozen 3
  have p4 := hP.cell 4 rfl
  have g4 := hP.frozen 4
  have hP' := hP.below A0
  have r0 := hP'.cell 0 rfl
  have s0 := hP'.frozen 0
  have r1 := hP'.cell 1 rfl
  have s1 := hP'.frozen 1
  have r2 := hP'.cell 2 rfl
  have s2 := hP'.frozen 2
  have r3 := hP'.cell 3 rfl
  have s3 := hP'.frozen 3
  have r4 := hP'.cell 4 rfl
  have s4 := hP'.frozen 4
  go_region_with (fail)
  all_goals go_wp2_with fail
  all_goals (
    have R4 := Cls.set (Cls.set (Cls.set (Cls.set (Cls.set hP 0 (.int .i64 3) _ rfl) 1 (.bool false) _ rfl) 2 (.int .u64 (M.hiN S : Int)) _ rfl) 3 (.int .u64 (M.loN S : Int)) _ rfl) 4 (.int .i64 q) #[.int .i64 3, .bool false, .int .u64 (M.hiN S : Int), .int .u64 (M.loN S : Int), .int .i64 q] rfl
    have B4 := (((((b0).setCell (p := ⟨w.heap.size, 0, none⟩) (Nat.le_refl _) (.int .i64 3)).setCell (p := ⟨w.heap.size, 1, none⟩) (Nat.le_refl _) (.bool false)).setCell (p := ⟨w.heap.size, 2, none⟩) (Nat.le_refl _) (.int .u64 (M.hiN S : Int))).setCell (p := ⟨w.heap.size, 3, none⟩) (Nat.le_refl _) (.int .u64 (M.loN S : Int))).setCell (p := ⟨w.heap.size, 4, none⟩) (Nat.le_refl _) (.int .i64 q)
    have R5 := (R4.below (Below.refl _ _).drew)
    have B5 := B4.drew
    clear R4 B4
    generalize (((((wc.setCell ⟨w.heap.size, 0, none⟩ (.int .i64 3)).setCell ⟨w.heap.size, 1, none⟩ (.bool false)).setCell ⟨w.heap.size, 2, none⟩ (.int .u64 (M.hiN S : Int))).setCell ⟨w.heap.size, 3, none⟩ (.int .u64 (M.loN S : Int))).setCell ⟨w.heap.size, 4, none⟩ (.int .i64 q)).drew = Yw at R5 B5 ⊢
    have q0 := R5.cell 0 rfl
    have q1 := R5.cell 1 rfl
    have q2 := R5.cell 2 rfl
    have q3 := R5.cell 3 rfl
    have q4 := R5.cell 4 rfl
    exact bodyPost_ret (v := .tuple #[.agg #[.int .i64 3, .bool false, .int .u64 (M.hiN S : Int), .int .u64 (M.loN S : Int), .int .i64 q], .int .i64 0]) (by simp [results, Tryd.results85, go_sem, q0, q1, q2, q3, q4]) rfl ⟨rfl, B5⟩)

end Go.Proofs.YtehplfmnipadmaeDoor

namespace Go.Proofs.YtehplfmnipadmaeDoor
open Go.RowKit
set_option linter.unusedVariables false
set_option maxRecDepth 100000

set_option maxRecDepth 100000 in
set_option maxHeartbeats 4000000 in
theorem iround_zero (ng : Bool) (e0 e1 e2 e3 e4 : Int) (e5 : Bool) (a b : Option Addr) (c m d : Nat) (w : World) (Y : Nat) (kP : ∀ v : World, Calls Tryd.prog 81 #[.agg #[.int .i64 e0, .int .i64 e1, .int .i64 e2, .int .i64 e3, .int .i64 e4, .bool e5], .agg #[.int .i64 1, .bool ng, .int .u64 0, .int .u64 0, .int .i64 0]] v fun e w' => e = .returned (.agg #[.int .u64 (M.hiN Y : Int), .int .u64 (M.loN Y : Int)]) ∧ Below v.heap.size v w') :
    Calls Tryd.prog 55 #[.agg #[.int .i64 e0, .int .i64 e1, .int .i64 e2, .int .i64 e3, .int .i64 e4, .bool e5], .bool ng, .slice a 0 c, .slice b m d] w fun e w' => e = .returned (.agg #[.int .u64 (M.hiN Y : Int), .int .u64 (M.loN Y : Int), .int .i64 0, .bool true]) ∧ Below w.heap.size w w' := by
  have b0 : Below w.heap.size w ((w.alloc (.cells #[.int .i64 e0, .int .i64 e1, .int .i64 e2, .int .i64 e3, .int .i64 e4, .bool e5] 56)).alloc (.cells #[.int .u64 0, .int .u64 0, .int .i64 0, .bool false] 39)) := ((Below.refl _ _).alloc (Nat.le_refl _) _).alloc (by simp) _
  have hD : Cls ((w.alloc (.cells #[.int .i64 e0, .int .i64 e1, .int .i64 e2, .int .i64 e3, .int .i64 e4, .bool e5] 56)).alloc (.cells #[.int .u64 0, .int .u64 0, .int .i64 0, .bool false] 39)) w.heap.size #[.int .i64 e0, .int .i64 e1, .int .i64 e2, .int .i64 e3, .int .i64 e4, .bool e5] 56 := (Cls.new w _ _).below ((Below.refl _ _).alloc (Nat.le_refl _) _)
  have hR : Cls ((w.alloc (.cells #[.int .i64 e0, .int .i64 e1, .int .i64 e2, .int .i64 e3, .int .i64 e4, .bool e5] 56)).alloc (.cells #[.int .u64 0, .int .u64 0, .int .i64 0, .bool false] 39)) (w.heap.size + 1) #[.int .u64 0, .int .u64 0, .int .i64 0, .bool false] 39 := by
    have := Cls.new (w.alloc (.cells #[.int .i64 e0, .int .i64 e1, .int .i64 e2, .int .i64 e3, .int .i64 e4, .bool e5] 56)) #[.int .u64 0, .int .u64 0, .int .i64 0, .bool false] 39
    rwa [World.size_alloc] at this
  generalize hV : ((w.alloc (.cells #[.int .i64 e0, .int .i64 e1, .int .i64 e2, .int .i64 e3, .int .i64 e4, .bool e5] 56)).alloc (.cells #[.int .u64 0, .int .u64 0, .int .i64 0, .bool false] 39)) = v0 at *
  go_enter Tryd.func55, Tryd.ntmps55
  go_upto_region 1 with fail
  clear hV
  have d0 := hD.cell 0 rfl
  have d1 := hD.cell 1 rfl
  have d2 := hD.cell 2 rfl
  have d3 := hD.cell 3 rfl
  have d4 := hD.cell 4 rfl
  have d5 := hD.cell 5 rfl
  go_wp2_with fail
  refine (kP _).mono ?_
  rintro e v1 ⟨rfl, hb1⟩
  replace b0 := b0.trans (hb1.mono b0.size)
  replace hR := hR.below hb1
  clear hb1 d0 d1 d2 d3 d4 d5
  have r0 := hR.cell 0 rfl
  have s0 := hR.frozen 0
  have r1 := hR.cell 1 rfl
  have s1 := hR.frozen 1
  have r2 := hR.cell 2 rfl
  have s2 := hR.frozen 2
  have r3 := hR.cell 3 rfl
  have s3 := hR.frozen 3
  go_wp2_with fail
  have R5 := Cls.set (Cls.set (Cls.set (Cls.set (hR) 0 (.int .u64 (M.hiN Y : Int)) _ rfl) 1 (.int .u64 (M.loN Y : Int)) _ rfl) 2 (.int .i64 0) _ rfl) 3 (.bool true) #[.int .u64 (M.hiN Y : Int), .int .u64 (M.loN Y : Int), .int .i64 0, .bool true] rfl
  have B5 := ((((b0).setCell (p := ⟨w.heap.size + 1, 0, none⟩) (by simp only; omega) (.int .u64 (M.hiN Y : Int))).setCell (p := ⟨w.heap.size + 1, 1, none⟩) (by simp only; omega) (.int .u64 (M.loN Y : Int))).setCell (p := ⟨w.heap.size + 1, 2, none⟩) (by simp only; omega) (.int .i64 0)).setCell (p := ⟨w.heap.size + 1, 3, none⟩) (by simp only; omega) (.bool true)
  generalize ((((v1.setCell ⟨w.heap.size + 1, 0, none⟩ (.int .u64 (M.hiN Y : Int))).setCell ⟨w.heap.size + 1, 1, none⟩ (.int .u64 (M.loN Y : Int))).setCell ⟨w.heap.size + 1, 2, none⟩ (.int .i64 0)).setCell ⟨w.heap.size + 1, 3, none⟩ (.bool true)) = Yw at R5 B5 ⊢
  have q0 := R5.cell 0 rfl
  have q1 := R5.cell 1 rfl
  have q2 := R5.cell 2 rfl
  have q3 := R5.cell 3 rfl
  exact bodyPost_ret (v := .agg #[.int .u64 (M.hiN Y : Int), .int .u64 (M.loN Y : Int), .int .i64 0, .bool true]) (by simp [results, Tryd.results55, go_sem, q0, q1, q2, q3]) rfl ⟨rfl, B5⟩

set_option maxRecDepth 100000 in
set_option maxHeartbeats 4000000 in
theorem iround_key (ng : Bool) (e0 e1 e2 e3 e4 : Int) (e5 : Bool) (a b : Option Addr) (c d N De : Nat) (w : World) (hN : (((L N).length : Int) == 0) = false) (ra : Rd w a (L N)) (rb : Rd w b (L De)) (X Y0 S1 S : Nat) (Q Xq PC PQ FL : Int) (PS Y : Nat)
    (kS : ∀ (v : World) (g : Nat), Rb v g e0 e1 e2 e3 e4 e5 a (L N).length c b (L De).length d 0 0 → Rd v a (L N) → Rd v b (L De) → Apart a (L N) g → Apart b (L De) g →
      Calls Tryd.prog 82 #[.pointer (some ⟨g, 0, none⟩)] v fun e w' => (∃ v, e = .returned v) ∧ ∃ (a1 : Option Addr) (c1 : Nat) (a2 : Option Addr) (c2 : Nat), Rb w' g e0 e1 e2 e3 e4 e5 a1 (L X).length c1 a2 (L Y0).length c2 0 Q ∧ Rd w' a1 (L X) ∧ Rd w' a2 (L Y0) ∧ Apart a1 (L X) g ∧ Apart a2 (L Y0) g ∧ v.grownBy w' (some g))
    (kN : ∀ (v : World) (g : Nat) (a1 : Option Addr) (c1 : Nat) (a2 : Option Addr) (c2 : Nat), Rb v g e0 e1 e2 e3 e4 e5 a1 (L X).length c1 a2 (L Y0).length c2 0 Q → Rd v a1 (L X) → Rd v a2 (L Y0) → Apart a1 (L X) g → Apart a2 (L Y0) g →
      Calls Tryd.prog 83 #[.pointer (some ⟨g, 0, none⟩)] v fun e w' => (∃ v, e = .returned v) ∧ Rb w' g e0 e1 e2 e3 e4 e5 a1 (L X).length c1 a2 (L Y0).length c2 S1 Q ∧ v.grownBy w' (some g))
    (kC : ∀ (v : World) (g : Nat) (a1 : Option Addr) (n1 c1 : Nat) (a2 : Option Addr) (n2 c2 : Nat), Rb v g e0 e1 e2 e3 e4 e5 a1 n1 c1 a2 n2 c2 S1 Q →
      Calls Tryd.prog 84 #[.pointer (some ⟨g, 0, none⟩)] v fun e w' => (∃ v, e = .returned v) ∧ Rb w' g e0 e1 e2 e3 e4 e5 a1 n1 c1 a2 n2 c2 S Xq ∧ v.grownBy w' (some g))
    (kO : ∀ (v : World) (g : Nat) (a1 : Option Addr) (n1 c1 : Nat) (a2 : Option Addr) (n2 c2 : Nat), Rb v g e0 e1 e2 e3 e4 e5 a1 n1 c1 a2 n2 c2 S Xq →
      Calls Tryd.prog 85 #[.pointer (some ⟨g, 0, none⟩)] v fun e w' => e = .returned (.tuple #[.agg #[.int .i64 PC, .bool false, .int .u64 (M.hiN PS : Int), .int .u64 (M.loN PS : Int), .int .i64 PQ], .int .i64 FL]) ∧ Below v.heap.size v w')
    (kP : ∀ v : World, Calls Tryd.prog 81 #[.agg #[.int .i64 e0, .int .i64 e1, .int .i64 e2, .int .i64 e3, .int .i64 e4, .bool e5], .agg #[.int .i64 PC, .bool ng, .int .u64 (M.hiN PS : Int), .int .u64 (M.loN PS : Int), .int .i64 PQ]] v fun e w' => e = .returned (.agg #[.int .u64 (M.hiN Y : Int), .int .u64 (M.loN Y : Int)]) ∧ Below v.heap.size v w') :
    Calls Tryd.prog 55 #[.agg #[.int .i64 e0, .int .i64 e1, .int .i64 e2, .int .i64 e3, .int .i64 e4, .bool e5], .bool ng, .slice a (L N).length c, .slice b (L De).length d] w fun e w' => e = .returned (.agg #[.int .u64 (M.hiN Y : Int), .int .u64 (M.loN Y : Int), .int .i64 FL, .bool true]) ∧ Below w.heap.size w w' := by
  have b0 : Below w.heap.size w ((w.alloc (.cells #[.int .i64 e0, .int .i64 e1, .int .i64 e2, .int .i64 e3, .int .i64 e4, .bool e5] 56)).alloc (.cells #[.int .u64 0, .int .u64 0, .int .i64 0, .bool false] 39)) := ((Below.refl _ _).alloc (Nat.le_refl _) _).alloc (by simp) _
  have hD : Cls ((w.alloc (.cells #[.int .i64 e0, .int .i64 e1, .int .i64 e2, .int .i64 e3, .int .i64 e4, .bool e5] 56)).alloc (.cells #[.int .u64 0, .int .u64 0, .int .i64 0, .bool false] 39)) w.heap.size #[.int .i64 e0, .int .i64 e1, .int .i64 e2, .int .i64 e3, .int .i64 e4, .bool e5] 56 := (Cls.new w _ _).below ((Below.refl _ _).alloc (Nat.le_refl _) _)
  have hR : Cls ((w.alloc (.cells #[.int .i64 e0, .int .i64 e1, .int .i64 e2, .int .i64 e3, .int .i64 e4, .bool e5] 56)).alloc (.cells #[.int .u64 0, .int .u64 0, .int .i64 0, .bool false] 39)) (w.heap.size + 1) #[.int .u64 0, .int .u64 0, .int .i64 0, .bool false] 39 := by
    have := Cls.new (w.alloc (.cells #[.int .i64 e0, .int .i64 e1, .int .i64 e2, .int .i64 e3, .int .i64 e4, .bool e5] 56)) #[.int .u64 0, .int .u64 0, .int .i64 0, .bool false] 39
    rwa [World.size_alloc] at this
  generalize hV : ((w.alloc (.cells #[.int .i64 e0, .int .i64 e1, .int .i64 e2, .int .i64 e3, .int .i64 e4, .bool e5] 56)).alloc (.cells #[.int .u64 0, .int .u64 0, .int .i64 0, .bool false] 39)) = v0 at *
  go_enter Tryd.func55, Tryd.ntmps55
  go_upto_region 1 with fail
  clear hV
  have d0 := hD.cell 0 rfl
  have d1 := hD.cell 1 rfl
  have d2 := hD.cell 2 rfl
  have d3 := hD.cell 3 rfl
  have d4 := hD.cell 4 rfl
  have d5 := hD.cell 5 rfl
  go_upto_region 4 with fail
  have hB : Rb (v0.alloc (.cells #[.int .i64 e0, .int .i64 e1, .int .i64 e2, .int .i64 e3, .int .i64 e4, .bool e5, .slice a (L N).length c, .slice b (L De).length d, .int .u64 0, .int .u64 0, .int .i64 0] 99)) v0.heap.size e0 e1 e2 e3 e4 e5 a (L N).length c b (L De).length d 0 0 := by
    unfold Rb
    rw [hi0, lo0]
    exact Cls.new _ _ _
  have bA : Below v0.heap.size v0 (v0.alloc (.cells #[.int .i64 e0, .int .i64 e1, .int .i64 e2, .int .i64 e3, .int .i64 e4, .bool e5, .slice a (L N).length c, .slice b (L De).length d, .int .u64 0, .int .u64 0, .int .i64 0] 99)) := (Below.refl _ _).alloc (Nat.le_refl _) _
  have lg : w.heap.size + 1 < v0.heap.size := hR.lt
  replace ra := ra.below b0
  replace rb := rb.below b0
  have sa := apart_lt ra (Nat.le_refl _)
  have sb := apart_lt rb (Nat.le_refl _)
  replace ra := ra.below bA
  replace rb := rb.below bA
  replace b0 := b0.trans (bA.mono b0.size)
  replace hR := hR.below bA
  clear bA hD d0 d1 d2 d3 d4 d5
  generalize (v0.alloc (.cells #[.int .i64 e0, .int .i64 e1, .int .i64 e2, .int .i64 e3, .int .i64 e4, .bool e5, .slice a (L N).length c, .slice b (L De).length d, .int .u64 0, .int .u64 0, .int .i64 0] 99)) = v1 at *
  generalize v0.heap.size = g at *
  have BG : ∀ {u v : World}, Below w.heap.size w u → u.grownBy v (some g) → Below w.heap.size w v := fun hb hg => hb.grown hg hb.size (fun k hk => by injection hk with hk; omega)
  go_wp2_with fail
  refine (kS _ _ hB ra rb sa sb).mono ?_
  rintro e v2 ⟨⟨z1, rfl⟩, a1, c1, a2, c2, hB2, r1, r2, s1, s2, hg2⟩
  replace b0 := BG b0 hg2
  replace hR := hR.grown hg2 (by intro e; injection e; omega)
  clear kS hB ra rb sa sb hg2
  go_wp2_with fail
  refine (kN _ _ _ _ _ _ hB2 r1 r2 s1 s2).mono ?_
  rintro e v3 ⟨⟨z2, rfl⟩, hB3, hg3⟩
  replace b0 := BG b0 hg3
  replace hR := hR.grown hg3 (by intro e; injection e; omega)
  clear kN hB2 r1 r2 s1 s2 hg3
  go_wp2_with fail
  refine (kC _ _ _ _ _ _ _ _ hB3).mono ?_
  rintro e v4 ⟨⟨z3, rfl⟩, hB4, hg4⟩
  replace b0 := BG b0 hg4
  replace hR := hR.grown hg4 (by intro e; injection e; omega)
  clear kC hB3 hg4
  go_wp2_with fail
  refine (kO _ _ _ _ _ _ _ _ hB4).mono ?_
  rintro e v5 ⟨rfl, hb5⟩
  replace b0 := b0.trans (hb5.mono b0.size)
  replace hR := hR.below hb5
  replace hB4 := hB4.below hb5
  clear kO hb5 BG
  have lB : g < v5.heap.size := Cls.lt hB4
  go_upto_region 8 with fail
  have hP : Cls (v5.alloc (.cells #[.int .i64 PC, .bool false, .int .u64 (M.hiN PS : Int), .int .u64 (M.loN PS : Int), .int .i64 PQ] 49)) v5.heap.size #[.int .i64 PC, .bool false, .int .u64 (M.hiN PS : Int), .int .u64 (M.loN PS : Int), .int .i64 PQ] 49 := Cls.new _ _ _
  have bA : Below v5.heap.size v5 (v5.alloc (.cells #[.int .i64 PC, .bool false, .int .u64 (M.hiN PS : Int), .int .u64 (M.loN PS : Int), .int .i64 PQ] 49)) := (Below.refl _ _).alloc (Nat.le_refl _) _
  replace b0 := b0.trans (bA.mono b0.size)
  replace hR := hR.below bA
  replace hB4 := hB4.below bA
  clear bA
  generalize (v5.alloc (.cells #[.int .i64 PC, .bool false, .int .u64 (M.hiN PS : Int), .int .u64 (M.loN PS : Int), .int .i64 PQ] 49)) = v6 at *
  generalize v5.heap.size = gp at *
  have p1 := hP.cell 1 rfl
  have g1 := hP.frozen 1
  go_upto_region 9 with fail
  clear p1 g1
  replace hP := Cls.set hP 1 (.bool ng) #[.int .i64 PC, .bool ng, .int .u64 (M.hiN PS : Int), .int .u64 (M.loN PS : Int), .int .i64 PQ] rfl
  replace hR := hR.far ⟨gp, 1, none⟩ (by simp only; omega) (.bool ng)
  replace hB4 : Rb (v6.setCell ⟨gp, 1, none⟩ (.bool ng)) _ _ _ _ _ _ _ _ _ _ _ _ _ _ _ := Cls.far hB4 ⟨gp, 1, none⟩ (by simp only; omega) (.bool ng)
  replace b0 := b0.setCell (p := ⟨gp, 1, none⟩) (by simp only; omega) (.bool ng)
  generalize (v6.setCell ⟨gp, 1, none⟩ (.bool ng)) = v7 at *
  have b0x := Cls.cell hB4 0 rfl
  have b1 := Cls.cell hB4 1 rfl
  have b2 := Cls.cell hB4 2 rfl
  have b3 := Cls.cell hB4 3 rfl
  have b4 := Cls.cell hB4 4 rfl
  have b5 := Cls.cell hB4 5 rfl
  have p0 := hP.cell 0 rfl
  have p1 := hP.cell 1 rfl
  have p2 := hP.cell 2 rfl
  have p3 := hP.cell 3 rfl
  have p4 := hP.cell 4 rfl
  go_wp2_with fail
  refine (kP _).mono ?_
  rintro e v8 ⟨rfl, hb8⟩
  replace b0 := b0.trans (hb8.mono b0.size)
  replace hR := hR.below hb8
  clear hb8 b0x b1 b2 b3 b4 b5 p0 p1 p2 p3 p4 hP hB4 kP
  have r0 := hR.cell 0 rfl
  have s0 := hR.frozen 0
  have r1 := hR.cell 1 rfl
  have s1 := hR.frozen 1
  have r2 := hR.cell 2 rfl
  have s2 := hR.frozen 2
  have r3 := hR.cell 3 rfl
  have s3 := hR.frozen 3
  go_wp2_with fail
  have R5 := Cls.set (Cls.set (Cls.set (Cls.set (hR) 0 (.int .u64 (M.hiN Y : Int)) _ rfl) 1 (.int .u64 (M.loN Y : Int)) _ rfl) 2 (.int .i64 FL) _ rfl) 3 (.bool true) #[.int .u64 (M.hiN Y : Int), .int .u64 (M.loN Y : Int), .int .i64 FL, .bool true] rfl
  have B5 := ((((b0).setCell (p := ⟨w.heap.size + 1, 0, none⟩) (by simp only; omega) (.int .u64 (M.hiN Y : Int))).setCell (p := ⟨w.heap.size + 1, 1, none⟩) (by simp only; omega) (.int .u64 (M.loN Y : Int))).setCell (p := ⟨w.heap.size + 1, 2, none⟩) (by simp only; omega) (.int .i64 FL)).setCell (p := ⟨w.heap.size + 1, 3, none⟩) (by simp only; omega) (.bool true)
  generalize ((((v8.setCell ⟨w.heap.size + 1, 0, none⟩ (.int .u64 (M.hiN Y : Int))).setCell ⟨w.heap.size + 1, 1, none⟩ (.int .u64 (M.loN Y : Int))).setCell ⟨w.heap.size + 1, 2, none⟩ (.int .i64 FL)).setCell ⟨w.heap.size + 1, 3, none⟩ (.bool true)) = Yw at R5 B5 ⊢
  have q0 := R5.cell 0 rfl
  have q1 := R5.cell 1 rfl
  have q2 := R5.cell 2 rfl
  have q3 := R5.cell 3 rfl
  exact bodyPost_ret (v := .agg #[.int .u64 (M.hiN Y : Int), .int .u64 (M.loN Y : Int), .int .i64 FL, .bool true]) (by simp [results, Tryd.results55, go_sem, q0, q1, q2, q3]) rfl ⟨rfl, B5⟩

end Go.Proofs.YtehplfmnipadmaeDoor

namespace Go.Proofs.YtehplfmnipadmaeDoor.M
set_option linter.unusedVariables false
set_option maxRecDepth 100000

theorem rE_le (N De : Nat) (h1 : blen N ≤ 83200) (h2 : blen De ≤ 83200) : -83201 ≤ rE N De ∧ rE N De ≤ 83200 := by
  unfold rE; split <;> omega

theorem Fm.Ok.rQ_le {F : Fm} (h : F.Ok) (N De : Nat) (h1 : blen N ≤ 83200) (h2 : blen De ≤ 83200) : -17000 ≤ F.rQ N De ∧ F.rQ N De ≤ 83200 ∧ F.qmin ≤ F.rQ N De ∧ -17000 ≤ F.qmin ∧ F.qmin < 0 := by
  have a := rE_le N De h1 h2
  have b := h.top2
  have p1 := h.p1
  have p2 := h.p2
  have hq : F.rQ N De = max (rE N De - F.p + 1) F.qmin := rfl
  have hm : F.qmin = 2 - (F.emax : Int) - (F.p : Int) := rfl
  omega

theorem Fm.Ok.rN_le {F : Fm} (h : F.Ok) (N De : Nat) (hN : 0 < N) (hd : 0 < De) (h1 : blen N ≤ 83200) (h2 : blen De ≤ 83200) : (F.rN N De = N ∨ F.rN N De < De * 2 ^ F.p) ∧ (F.rM N De = De ∨ F.rM N De ≤ N) := by
  obtain ⟨q1, q2, q3, q4, q5⟩ := h.rQ_le N De h1 h2
  obtain ⟨e1, e2⟩ := rE_ok N De hN hd
  have p1 := h.p1
  have hq : F.rQ N De = max (rE N De - F.p + 1) F.qmin := rfl
  have eN : F.rN N De = N * 2 ^ (-(F.rQ N De)).toNat := rfl
  have eM : F.rM N De = De * 2 ^ (F.rQ N De).toNat := rfl
  rcases (by omega : 0 ≤ F.rQ N De ∨ F.rQ N De < 0) with hc | hc
  · refine ⟨.inl ?_, .inr ?_⟩
    · rw [eN, show (-(F.rQ N De)).toNat = 0 by omega, Nat.pow_zero, Nat.mul_one]
    · have hE : F.rQ N De = rE N De - F.p + 1 := by omega
      have hz : ¬ lt2 N De (F.rQ N De) := fun hh => e1 (lt2_mono hd hh (by omega))
      unfold lt2 at hz
      rw [show (-(F.rQ N De)).toNat = 0 by omega, Nat.pow_zero, Nat.mul_one] at hz
      rw [eM]; omega
  · refine ⟨.inr ?_, .inl ?_⟩
    · have k := lt2_mono (e' := F.rQ N De + F.p) hd e2 (by omega)
      rw [lt2_iff N De _ (-(F.rQ N De)).toNat (by omega), show (((-(F.rQ N De)).toNat : Int) + (F.rQ N De + F.p)).toNat = F.p by omega] at k
      rw [eN]; exact k
    · rw [eM, show (F.rQ N De).toNat = 0 by omega, Nat.pow_zero, Nat.mul_one]

/-- The carry as the model makes it. -/
theorem Fm.Ok.rCarry {F : Fm} (h : F.Ok) (N De : Nat) (hN : 0 < N) (hd : 0 < De) : F.rSig N De = (if (F.p : Int) < (blen (F.rS N De) : Int) then F.rS N De / 2 else F.rS N De) ∧ F.rExp N De = (if (F.p : Int) < (blen (F.rS N De) : Int) then F.rQ N De + 1 else F.rQ N De) := by
  have h1 := h.rS_le N De hN hd
  have h2 := h.two_lead
  have h3 := h.leadPos
  have key : (F.p : Int) < (blen (F.rS N De) : Int) ↔ F.rS N De = 2 ^ F.p := by
    constructor
    · intro hh
      have h5 : F.rS N De ≠ 0 := by intro e; rw [e, blen_zero] at hh; omega
      have h6 := blen_le (F.rS N De) (by omega)
      have h7 : 2 ^ F.p ≤ 2 ^ (blen (F.rS N De) - 1) := Nat.pow_le_pow_right (by omega) (by omega)
      omega
    · intro hh
      have h6 := lt_blen (F.rS N De)
      rcases Nat.lt_or_ge F.p (blen (F.rS N De)) with h7 | h7
      · omega
      · have : 2 ^ blen (F.rS N De) ≤ 2 ^ F.p := Nat.pow_le_pow_right (by omega) h7
        omega
  unfold Fm.rSig Fm.rExp
  by_cases hc : F.rS N De = 2 ^ F.p
  · rw [if_pos hc, if_pos hc, if_pos (key.2 hc), if_pos (key.2 hc)]
    refine ⟨?_, rfl⟩
    rw [hc, h2]; omega
  · rw [if_neg hc, if_neg hc, if_neg (fun hh => hc (key.1 hh)), if_neg (fun hh => hc (key.1 hh))]
    exact ⟨rfl, rfl⟩

/-- The quotient rounded, by the comparison of twice the rest. -/
theorem rUp_cmp (n m : Nat) : n / m + rUp n m = if 0 < cmpI (((n % m * 2 : Nat)) : Int) (m : Int) ∨ (cmpI (((n % m * 2 : Nat)) : Int) (m : Int) = 0 ∧ n / m % 2 = 1) then n / m + 1 else n / m := by
  unfold rUp
  have e : (m < 2 * (n % m) ∨ (2 * (n % m) = m ∧ n / m % 2 = 1)) ↔ (0 < cmpI (((n % m * 2 : Nat)) : Int) (m : Int) ∨ (cmpI (((n % m * 2 : Nat)) : Int) (m : Int) = 0 ∧ n / m % 2 = 1)) := by
    have h1 : 0 < cmpI (((n % m * 2 : Nat)) : Int) (m : Int) ↔ m < 2 * (n % m) := by
      unfold cmpI; split
      · omega
      · split <;> omega
    have h2 : cmpI (((n % m * 2 : Nat)) : Int) (m : Int) = 0 ↔ 2 * (n % m) = m := by
      unfold cmpI; split
      · omega
      · split <;> omega
    rw [h1, h2]
  by_cases hh : m < 2 * (n % m) ∨ (2 * (n % m) = m ∧ n / m % 2 = 1)
  · rw [if_pos hh, if_pos (e.1 hh)]
  · rw [if_neg hh, if_neg (fun k => hh (e.2 k))]; omega

end Go.Proofs.YtehplfmnipadmaeDoor.M

namespace Go.Proofs.YtehplfmnipadmaeDoor
open Go.RowKit
set_option linter.unusedVariables false
set_option maxRecDepth 100000

/-- The word, the flags and the answer of a rounding. -/
def rY (F : M.Fm) (ng : Bool) (N De : Nat) : Nat := if N = 0 then F.pk ⟨1, ng, 0, 0⟩ else F.pk (F.rPt ng N De)
def rF (F : M.Fm) (N De : Nat) : Int := if N = 0 then 0 else F.rFl N De 2 1
def rv (F : M.Fm) (ng : Bool) (N De : Nat) : Value := .agg #[.int .u64 (M.hiN (rY F ng N De) : Int), .int .u64 (M.loN (rY F ng N De) : Int), .int .i64 (rF F N De), .bool true]

theorem blen_of_L (N K : Nat) (h : (L N).length ≤ K) : blen N ≤ 64 * K := by
  refine blen_le_of N _ ?_
  have := L_lt N K h
  rwa [show (18446744073709551616 : Nat) = 2 ^ 64 by rfl, ← Nat.pow_mul] at this

theorem rPt_n (F : M.Fm) (ng : Bool) (N De : Nat) : (F.rPt ng N De).n = ng := by
  unfold M.Fm.rPt; split
  · rfl
  · split
    · rfl
    · split <;> rfl

theorem pt_eta (t : M.Pt) : t = ⟨t.c, t.n, t.s, t.q⟩ := rfl

set_option maxRecDepth 10000 in
set_option maxHeartbeats 2000000 in
theorem iround_pos (F : M.Fm) (h : F.Ok) (ng : Bool) (a b : Option Addr) (c d N De : Nat) (w : World) (hN : 0 < N) (hd : 0 < De) (lN : (L N).length ≤ 1201) (lD : (L De).length ≤ 1201) (ra : Rd w a (L N)) (rb : Rd w b (L De)) :
    Calls Tryd.prog 55 #[dv F, .bool ng, .slice a (L N).length c, .slice b (L De).length d] w fun e w' => e = .returned (rv F ng N De) ∧ Below w.heap.size w w' := by
  have p1 := h.p1
  have p2 := h.p2
  have t2 := h.top2
  have bN := blen_of_L N _ lN
  have bD := blen_of_L De _ lD
  have e1 := M.rE_le N De (by omega) (by omega)
  obtain ⟨q1, q2, q3, q4, q5⟩ := h.rQ_le N De (by omega) (by omega)
  obtain ⟨m1, m2, m3⟩ := h.rS_ok N De hN hd
  have m4 := h.rS_le N De hN hd
  have m5 := h.rSig_lt N De hN hd
  have tl := h.two_lead
  have pw : 2 ^ F.p ≤ 2 ^ 113 := Nat.pow_le_pow_right (by omega) p2
  have pp := h.rPt_proper ng N De hN hd
  have hne : (((L N).length : Int) == 0) = false := by
    rw [L_zero_iff]; exact decide_eq_false (by omega)
  have o1 : M.hiN 1 = 0 := by decide
  have o2 : M.loN 1 = 1 := by decide
  have kQ := fun v : World => dQmin F h v
  have kL := fun v : World => dLead F h v
  simp only [dv] at kQ kL ⊢
  unfold rv rY rF
  rw [if_neg (by omega), if_neg (by omega)]
  refine iround_key ng _ _ _ _ _ _ a b c d N De w hne ra rb (F.rN N De) (F.rM N De) (F.rS N De) (F.rSig N De) (F.rQ N De) (F.rExp N De) (F.rPt ng N De).c (F.rPt ng N De).q (F.rFl N De 2 1) (F.rPt ng N De).s (F.pk (F.rPt ng N De)) ?_ ?_ ?_ ?_ ?_
  · -- scale
    intro v g hB ra rb sa sb
    refine iscale_key g _ _ _ _ _ _ a b c d N De 0 0 v hB ra rb sa sb (M.rE N De) F.qmin (F.rQ N De) (by omega) (by omega) (by omega) (by omega) rfl (by omega) (by omega) ?_ kQ ((-(F.rQ N De)).toNat : Int) ((F.rQ N De).toNat : Int) (by omega) (by omega) (F.rN N De) (F.rM N De) ?_ ?_
    · intro v hB ra rb
      refine iexp_key g _ _ _ _ _ _ a b c d N De 0 0 v hB ra rb (blen N) (blen De) (by omega) (by omega) (fun v hr => bitLenN_any a _ c N v rfl (by omega) hr _ rfl) (fun v hr => bitLenN_any b _ d De v rfl (by omega) hr _ rfl) ((blen N : Int) - blen De) ((-((blen N : Int) - blen De)).toNat : Int) (((blen N : Int) - blen De).toNat : Int) rfl (by omega) (by omega)
        (N * 2 ^ (-((blen N : Int) - blen De)).toNat) (De * 2 ^ ((blen N : Int) - blen De).toNat) (fun v hr => shiftLeft_any a _ c _ N v rfl (by omega) (by omega) hr) (fun v hr => shiftLeft_any b _ d _ De v rfl (by omega) (by omega) hr) _
        (fun v ao bo c d hr hr2 => compare_any ao bo _ _ c d _ _ v rfl rfl (Nat.le_trans (len_shiftK N _ 1201 1500 lN (by omega)) (by omega)) (Nat.le_trans (len_shiftK De _ 1201 1500 lD (by omega)) (by omega)) hr hr2) _ ?_
      have e2 := cmpI_lt1 (N * 2 ^ (-((blen N : Int) - blen De)).toNat) (De * 2 ^ ((blen N : Int) - blen De).toNat)
      unfold M.rE
      simp only [decide_eq_decide] at e2
      by_cases hc : M.lt2 N De ((blen N : Int) - blen De)
      · rw [if_pos hc, if_pos (e2.2 hc)]
      · rw [if_neg hc, if_neg (fun k => hc (e2.1 k))]
    · exact fun v hr => shiftLeft_any a _ c _ N v rfl (by omega) (by omega) hr
    · exact fun v hr => shiftLeft_any b _ d _ De v rfl (by omega) (by omega) hr
  · -- nearest
    intro v g a1 c1 a2 c2 hB r1 r2 s1 s2
    have l1 : (L (F.rN N De)).length ≤ 2701 := len_shiftK N _ 1201 1500 lN (by omega)
    have l2 : (L (F.rM N De)).length ≤ 2701 := len_shiftK De _ 1201 1500 lD (by omega)
    have hlt : F.rN N De / F.rM N De < 2 ^ 128 := by omega
    have hrm : F.rN N De % F.rM N De < F.rM N De := Nat.mod_lt _ m1
    have l3 : (L (F.rN N De % F.rM N De)).length ≤ 2701 := by
      rcases Nat.lt_or_ge 2701 (L (F.rN N De % F.rM N De)).length with hh | hh
      · have := M.lt_of_length (B := 18446744073709551616) (by omega) (a := F.rM N De) (b := F.rN N De % F.rM N De) (Nat.lt_of_le_of_lt l2 hh)
        omega
      · exact hh
    have kPl := fun v : World => wplus (F.rN N De / F.rM N De) 1 v hlt (by omega) (F.rN N De / F.rM N De + 1) (by rw [Nat.mod_eq_of_lt]; omega)
    rw [o1, o2] at kPl
    have kSh := fun (v : World) (ao : Option Addr) (cc : Nat) (hr : Rd v ao (L (F.rN N De % F.rM N De))) => shiftLeft_any ao _ cc 1 (F.rN N De % F.rM N De) v rfl (by omega) (by omega) hr
    rw [Nat.pow_one] at kSh
    have l4 : (L (F.rN N De % F.rM N De * 2)).length ≤ 2702 := by
      have := len_shiftK (F.rN N De % F.rM N De) 1 2701 1 l3 (by omega)
      rwa [Nat.pow_one] at this
    exact inear_key g _ _ _ _ _ _ a1 a2 c1 c2 _ _ 0 (F.rQ N De) v hB r1 r2 s1 s2 (F.rN N De / F.rM N De) (F.rN N De % F.rM N De) (fun v hr hr2 => divMod_any a1 a2 _ _ c1 c2 _ _ v rfl rfl m1 (by omega) (by omega) hr hr2) (fun v ao cc hr => wordOf_any ao _ cc _ v rfl hlt hr) kSh
      _ (fun v ao cc hr hr2 => compare_any ao a2 _ _ cc c2 _ _ v rfl rfl (by omega) (by omega) hr hr2) (fun v => even_any _ v) kPl (F.rS N De) (M.rUp_cmp _ _)
  · -- carry
    intro v g a1 n1 c1 a2 n2 c2 hB
    exact icarry_key g _ _ _ _ _ _ a1 a2 n1 c1 n2 c2 (F.rS N De) (F.rQ N De) v hB (2 ^ F.p) F.lead (fun v => wbitAt F.p v (by omega) _ rfl) kL (by omega) (by omega) _ _ rfl rfl
  · -- outcome
    intro v g a1 n1 c1 a2 n2 c2 hB
    have kC := fun (cz : Int) (hcz : cz = M.cmpN (F.rSig N De) F.lead) (v : World) => wcmp (F.rSig N De) F.lead v cz hcz
    have hx : -100000 ≤ F.rExp N De ∧ F.rExp N De ≤ 200000 := by unfold M.Fm.rExp; split <;> omega
    unfold M.Fm.rPt M.Fm.rFl
    by_cases k1 : F.rSig N De = 0
    · rw [if_pos k1, if_pos k1]
      rw [k1] at hB
      have := iout_zero g _ _ _ _ _ _ a1 a2 n1 c1 n2 c2 _ v hB
      simp only [hi0, lo0]
      exact this
    · rw [if_neg k1, if_neg k1]
      by_cases k2 : F.rSig N De < F.lead
      · rw [if_pos k2, if_pos k2]
        have hz : M.cmpN (F.rSig N De) F.lead = -1 := by unfold M.cmpN; rw [if_pos k2]
        exact iout_sub g _ _ _ _ _ _ a1 a2 n1 c1 n2 c2 _ _ v hB k1 F.lead (-1) kL (kC _ hz.symm) (by omega)
      · rw [if_neg k2, if_neg k2]
        have hz : ¬ M.cmpN (F.rSig N De) F.lead < 0 := by
          unfold M.cmpN; rw [if_neg k2]; split <;> omega
        by_cases k3 : (F.emax : Int) < F.rExp N De + F.p - 1
        · rw [if_pos k3, if_pos k3]
          have := iout_inf g _ _ _ _ _ _ a1 a2 n1 c1 n2 c2 _ _ v hB k1 F.lead _ kL (kC _ rfl) hz (by omega) (by omega) (by omega) (by omega) k3
          simp only [hi0, lo0]
          exact this
        · rw [if_neg k3, if_neg k3]
          exact iout_norm g _ _ _ _ _ _ a1 a2 n1 c1 n2 c2 (F.rSig N De) (F.rExp N De) v hB k1 F.lead _ kL (kC _ rfl) hz hx.1 hx.2 (by omega) (by omega) k3
  · -- pack
    intro v
    have hs : (F.rPt ng N De).s < 2 ^ 128 := by
      unfold M.Fm.rPt; split
      · simp only; omega
      · split
        · simp only; omega
        · split <;> simp only <;> omega
    have := dpack F h (F.rPt ng N De).c ng (F.rPt ng N De).s (F.rPt ng N De).q hs v
    have e := pki_pk h (F.rPt ng N De) pp
    rw [rPt_n] at e
    rw [e] at this
    exact this

theorem iround_any (F : M.Fm) (h : F.Ok) (ng : Bool) (a b : Option Addr) (c d N De : Nat) (w : World) (hd : 0 < De) (lN : (L N).length ≤ 1201) (lD : (L De).length ≤ 1201) (ra : Rd w a (L N)) (rb : Rd w b (L De)) :
    Calls Tryd.prog 55 #[dv F, .bool ng, .slice a (L N).length c, .slice b (L De).length d] w fun e w' => e = .returned (rv F ng N De) ∧ Below w.heap.size w w' := by
  by_cases hN : N = 0
  · subst hN
    have e0 : (L 0).length = 0 := by simp [L, M.dig_zero]
    rw [e0]
    have kP := fun v : World => dpack F h 1 ng 0 0 (by omega) v
    have e := pki_pk h ⟨1, ng, 0, 0⟩ (.inl ⟨rfl, rfl, rfl⟩)
    simp only at e
    rw [e] at kP
    simp only [hi0, lo0] at kP
    simp only [dv]
    unfold rv rY rF
    rw [if_pos rfl, if_pos rfl]
    exact iround_zero ng _ _ _ _ _ _ a b c _ d w _ kP
  · exact iround_pos F h ng a b c d N De w (by omega) hd lN lD ra rb

end Go.Proofs.YtehplfmnipadmaeDoor

namespace Go.Proofs.YtehplfmnipadmaeDoor
open Go.RowKit
set_option linter.unusedVariables false
set_option maxRecDepth 100000

theorem D_shift (N p K : Nat) (h : (D N).length ≤ K) : (D (N * 2 ^ p)).length ≤ K + (p + 31) / 32 := by
  have h1 := D_lt N K h
  refine M.len_of_lt (B := 4294967296) (by omega) _ _ ?_
  rw [Nat.pow_add]
  have h2 : 2 ^ p ≤ 4294967296 ^ ((p + 31) / 32) := by
    rw [show (4294967296 : Nat) = 2 ^ 32 by rfl, ← Nat.pow_mul]
    exact Nat.pow_le_pow_right (by omega) (by omega)
  exact Nat.lt_of_le_of_lt (Nat.mul_le_mul_left _ h2) (Nat.mul_lt_mul_of_pos_right h1 (Nat.pow_pos (by omega)))

theorem cmpI_lt0 (a b : Nat) : decide (cmpI (a : Int) (b : Int) < 0) = decide (a < b) := by
  unfold cmpI
  rw [Bool.eq_iff_iff]
  simp only [decide_eq_true_eq]
  split
  · omega
  · split <;> omega

set_option maxHeartbeats 1000000 in
theorem l2Below_any (ao bo : Option Addr) (n m c d N De : Nat) (e : Int) (w : World) (hl : (D N).length = n) (hm : (D De).length = m) (hn : n ≤ 2600) (hm2 : m ≤ 2600) (he1 : -90000 ≤ e) (he2 : e ≤ 90000) (hr : Rd w ao (D N)) (hr2 : Rd w bo (D De)) (r : Bool) (hrr : r = decide (M.lt2 N De e)) :
    Calls Tryd.prog 79 #[.slice ao n c, .slice bo m d, .int .i64 e] w fun x w' => x = .returned (.bool r) ∧ Below w.heap.size w w' := by
  rcases (by omega : e < 0 ∨ 0 ≤ e) with h | h
  rotate_left
  · obtain ⟨s, rfl⟩ := Int.eq_ofNat_of_zero_le h
    have hs : s ≤ 100000 := by omega
    have hd := D_shift De s 2600 (by omega)
    have hr' : r = decide (cmpI (N : Int) ((De * 2 ^ s : Nat) : Int) < 0) := by
      rw [hrr, cmpI_lt0]; unfold M.lt2; congr 1
      rw [show (-(s : Int)).toNat = 0 by omega, show ((s : Nat) : Int).toNat = s by omega, Nat.pow_zero, Nat.mul_one]
    have HR := hid hr'; clear hr' hrr
    go_enter Tryd.func79, Tryd.ntmps79
    go_wp2_with fail
    refine (l1Left_any bo m d s De _ hm (by omega) hs hr2).mono ?_
    rintro e v1 ⟨b1, c1, rfl, o1, hb1⟩
    go_wp2_with fail
    refine (l1Cmp_any ao b1 n _ c c1 N (De * 2 ^ s) _ hl rfl (by omega) (by omega) (hr.below hb1) (Rd.own o1)).mono ?_
    rintro e v2 ⟨rfl, rfl⟩
    have HB := hid hb1; clear hb1
    go_wp2_with fail
    go_ret
    exact ⟨by rw [HR.out]; push_cast; rfl, HB.out⟩
  · obtain ⟨s, hs0⟩ : ∃ s : Nat, e = -(s : Int) := ⟨(-e).toNat, by omega⟩
    subst hs0
    have hs : s ≤ 100000 := by omega
    have hd := D_shift N s 2600 (by omega)
    have hng : ¬ (0 : Int) ≤ -(s : Int) := by omega
    have hr' : r = decide (cmpI ((N * 2 ^ s : Nat) : Int) (De : Int) < 0) := by
      rw [hrr, cmpI_lt0]; unfold M.lt2; congr 1
      rw [show (- -(s : Int)).toNat = s by omega, show (-(s : Int)).toNat = 0 by omega, Nat.pow_zero, Nat.mul_one]
    have HR := hid hr'; clear hr' hrr
    have w1 : IntKind.i64.wrap (- -(s : Int)) = (s : Int) := by rw [IntKind.wrap_i64]; omega
    have w2 : IntKind.i64.wrap ((s : Int)) = (s : Int) := by rw [IntKind.wrap_i64]; omega
    go_enter Tryd.func79, Tryd.ntmps79
    go_wp2_with fail
    refine (l1Left_any ao n c s N _ hl (by omega) hs hr).mono ?_
    rintro e v1 ⟨b1, c1, rfl, o1, hb1⟩
    go_wp2_with fail
    refine (l1Cmp_any b1 bo _ m c1 d (N * 2 ^ s) De _ rfl hm (by omega) (by omega) (Rd.own o1) (hr2.below hb1)).mono ?_
    rintro e v2 ⟨rfl, rfl⟩
    have HB := hid hb1; clear hb1
    go_wp2_with fail
    go_ret
    exact ⟨by rw [HR.out]; push_cast; rfl, HB.out⟩

end Go.Proofs.YtehplfmnipadmaeDoor

namespace Go.Proofs.YtehplfmnipadmaeDoor
open Go.RowKit
set_option linter.unusedVariables false
set_option maxRecDepth 100000

/-- The variables of l2Round: the answer's, the description's. -/
structure Rv (w v : World) (gd : Nat) (e0 e1 e2 e3 e4 : Int) (e5 : Bool) : Prop where
  b : Below w.heap.size w v
  r : Cls v w.heap.size #[.int .u64 0, .int .u64 0, .int .i64 0, .bool false] 39
  d : D6 v gd e0 e1 e2 e3 e4 e5
  l : w.heap.size < gd

theorem Rv.below {w v v' : World} {gd : Nat} {e0 e1 e2 e3 e4 : Int} {e5 : Bool} (h : Rv w v gd e0 e1 e2 e3 e4 e5) (hb : Below v.heap.size v v') : Rv w v' gd e0 e1 e2 e3 e4 e5 :=
  ⟨h.b.trans (hb.mono h.b.size), h.r.below hb, h.d.below hb, h.l⟩

theorem rrDrew (v : World) (q : Nat) : Below v.heap.size v (v.drewN q) := ⟨rfl, rfl, rfl, Nat.le_refl _, fun _ _ => rfl⟩

set_option maxRecDepth 100000 in
set_option maxHeartbeats 8000000 in
theorem sround_key (f : Int) (ng : Bool) (N De : Nat) (e0 e1 e2 e3 e4 : Int) (e5 : Bool) (w : World) (ao bo : Option Addr) (c d : Nat) (hcn : (D N).length ≤ c) (ra : Rd w ao (D N)) (rb : Rd w bo (D De))
    (kE : ∀ v : World, Calls Tryd.prog 26 #[.int .i64 f] v fun e w' => e = .returned (.agg #[.int .i64 e0, .int .i64 e1, .int .i64 e2, .int .i64 e3, .int .i64 e4, .bool e5]) ∧ Below v.heap.size v w')
    (bN bD : Nat) (kN : ∀ (v : World) (ao : Option Addr) (cc : Nat), Rd v ao (D N) → Calls Tryd.prog 34 #[.slice ao (D N).length cc] v fun e w' => e = .returned (.int .i64 ((bN : Nat) : Int)) ∧ w' = v)
    (kD : ∀ (v : World) (ao : Option Addr) (cc : Nat), Rd v ao (D De) → Calls Tryd.prog 34 #[.slice ao (D De).length cc] v fun e w' => e = .returned (.int .i64 ((bD : Nat) : Int)) ∧ w' = v)
    (lt : Bool) (kB : ∀ (v : World) (ao bo : Option Addr) (c d : Nat), Rd v ao (D N) → Rd v bo (D De) → Calls Tryd.prog 79 #[.slice ao (D N).length c, .slice bo (D De).length d, .int .i64 ((bN : Int) - (bD : Int))] v fun x w' => x = .returned (.bool lt) ∧ Below v.heap.size v w')
    (E Q qm : Int) (hE : E = if lt then (bN : Int) - bD - 1 else (bN : Int) - bD) (hqm : e1 - e0 + 1 = qm) (hQ : Q = if E - e0 + 1 < qm then qm else E - e0 + 1)
    (hb1 : bN ≤ 90000) (hb2 : bD ≤ 90000) (he0 : 0 ≤ e0) (he0' : e0 ≤ 200) (hqm1 : -20000 ≤ qm) (hqm2 : qm ≤ 0) (he1 : -20000 ≤ e1) (he1' : e1 ≤ 20000)
    (nn mm : Nat) (kM : 0 ≤ Q → nn = N ∧ ∀ (v : World) (ao : Option Addr) (cc : Nat), Rd v ao (D De) → Calls Tryd.prog 36 #[.slice ao (D De).length cc, .int .i64 Q] v fun e w' => Ret v w' e (D (mm))) (kM' : ¬ 0 ≤ Q → mm = De ∧ ∀ (v : World) (ao : Option Addr) (cc : Nat), Rd v ao (D N) → Calls Tryd.prog 36 #[.slice ao (D N).length cc, .int .i64 (-Q)] v fun e w' => Ret v w' e (D (nn)))
    (S0 R0 : Nat) (kV : ∀ (v : World) (ao bo : Option Addr) (c d : Nat), (D nn).length ≤ c → Rd v ao (D nn) → Rd v bo (D mm) → Calls Tryd.prog 80 #[.slice ao (D nn).length c, .slice bo (D mm).length d] v fun e w' => RetM v w' e (D S0) (D R0))
    (kR : ∀ (v : World) (ao : Option Addr) (cc : Nat), Rd v ao (D R0) → Calls Tryd.prog 36 #[.slice ao (D R0).length cc, .int .i64 1] v fun e w' => Ret v w' e (D (R0 * 2)))
    (cz : Int) (kC : ∀ (v : World) (ao bo : Option Addr) (c d : Nat), Rd v ao (D (R0 * 2)) → Rd v bo (D mm) → Calls Tryd.prog 62 #[.slice ao (D (R0 * 2)).length c, .slice bo (D mm).length d] v fun e w' => e = .returned (.int .i64 cz) ∧ w' = v)
    (kA : ∀ (v : World) (ao : Option Addr) (cc : Nat), Rd v ao (D S0) → Calls Tryd.prog 66 #[.slice ao (D S0).length cc, .int .i64 0] v fun e w' => e = .returned (.int .u64 ((S0 % 4294967296 : Nat) : Int)) ∧ w' = v)
    (k1 : ∀ v : World, Calls Tryd.prog 31 #[.int .u64 1] v fun e w' => Ret v w' e (D 1))
    (kP : ∀ (v : World) (ao bo : Option Addr) (c d : Nat), Rd v ao (D S0) → Rd v bo (D 1) → Calls Tryd.prog 33 #[.slice ao (D S0).length c, .slice bo (D 1).length d] v fun e w' => Ret v w' e (D (S0 + 1)))
    (S1 : Nat) (hS1 : S1 = if 0 < cz ∨ (cz = 0 ∧ S0 % 2 = 1) then S0 + 1 else S0)
    (b1 : Nat) (kB1 : ∀ (v : World) (ao : Option Addr) (cc : Nat), Rd v ao (D S1) → Calls Tryd.prog 34 #[.slice ao (D S1).length cc] v fun e w' => e = .returned (.int .i64 ((b1 : Nat) : Int)) ∧ w' = v)
    (kH : ∀ (v : World) (ao : Option Addr) (cc : Nat), Rd v ao (D S1) → Calls Tryd.prog 35 #[.slice ao (D S1).length cc, .int .i64 1] v fun e w' => Ret v w' e (D (S1 / 2)))
    (S : Nat) (X : Int) (hS : S = if e0 < (b1 : Int) then S1 / 2 else S1) (hX : X = if e0 < (b1 : Int) then Q + 1 else Q) (hQ1 : -100000 ≤ Q) (hQ2 : Q ≤ 100000) (he2 : 0 ≤ e2) (he2' : e2 ≤ 20000)
    (b2 : Nat) (kB2 : ∀ (v : World) (ao : Option Addr) (cc : Nat), Rd v ao (D S) → Calls Tryd.prog 34 #[.slice ao (D S).length cc] v fun e w' => e = .returned (.int .i64 ((b2 : Nat) : Int)) ∧ w' = v)
    (kW : ∀ (v : World) (ao : Option Addr) (cc : Nat), Rd v ao (D S) → Calls Tryd.prog 28 #[.slice ao (D S).length cc] v fun e w' => e = .returned (.agg #[.int .u64 (M.hiN S : Int), .int .u64 (M.loN S : Int)]) ∧ Below v.heap.size v w')
    (PC : Int) (PS : Nat) (PQ FL : Int) (hcls : (S = 0 ∧ PC = 1 ∧ PS = 0 ∧ PQ = 0 ∧ FL = 2) ∨ (S ≠ 0 ∧ (b2 : Int) < e0 ∧ PC = 2 ∧ PS = S ∧ PQ = qm ∧ FL = 2) ∨ (S ≠ 0 ∧ ¬ (b2 : Int) < e0 ∧ e2 < X + e0 - 1 ∧ PC = 4 ∧ PS = 0 ∧ PQ = 0 ∧ FL = 1) ∨ (S ≠ 0 ∧ ¬ (b2 : Int) < e0 ∧ ¬ e2 < X + e0 - 1 ∧ PC = 3 ∧ PS = S ∧ PQ = X ∧ FL = 0))
    (Y : Nat) (ok : Bool) (kK : ∀ v : World, Calls Tryd.prog 27 #[.int .i64 f, .agg #[.int .i64 PC, .bool ng, .int .u64 (M.hiN PS : Int), .int .u64 (M.loN PS : Int), .int .i64 PQ]] v fun e w' => e = .returned (.tuple #[.agg #[.int .u64 (M.hiN Y : Int), .int .u64 (M.loN Y : Int)], .bool ok]) ∧ Below v.heap.size v w') :
    Calls Tryd.prog 51 #[.int .i64 f, .bool ng, .slice ao (D N).length c, .slice bo (D De).length d] w fun e w' => e = .returned (.agg #[.int .u64 (M.hiN Y : Int), .int .u64 (M.loN Y : Int), .int .i64 FL, .bool true]) ∧ Below w.heap.size w w' := by
  have b0 : Below w.heap.size w (w.alloc (.cells #[.int .u64 0, .int .u64 0, .int .i64 0, .bool false] 39)) := (Below.refl _ _).alloc (Nat.le_refl _) _
  have R0' : Cls (w.alloc (.cells #[.int .u64 0, .int .u64 0, .int .i64 0, .bool false] 39)) w.heap.size #[.int .u64 0, .int .u64 0, .int .i64 0, .bool false] 39 := Cls.new _ _ _
  generalize hV : (w.alloc (.cells #[.int .u64 0, .int .u64 0, .int .i64 0, .bool false] 39)) = v0 at *
  have KM := hid kM; have KM' := hid kM'; have HS1 := hid hS1; have HE := hid hE; have HQ := hid hQ; have HS := hid hS; have HX := hid hX; have HC := hid hcls; have HM := hid hqm
  clear kM kM' hS1 hE hQ hS hX hcls hqm
  have w1 : IntKind.i64.wrap (e1 - e0) = e1 - e0 := by rw [IntKind.wrap_i64]; omega
  have w2 : IntKind.i64.wrap (e1 - e0 + 1) = qm := by have := HM.out; rw [IntKind.wrap_i64]; omega
  have w3 : IntKind.i64.wrap ((bN : Int) - (bD : Int)) = (bN : Int) - (bD : Int) := by rw [IntKind.wrap_i64]; omega
  go_enter Tryd.func51, Tryd.ntmps51
  go_upto_region 1 with fail
  clear hV
  go_wp2_with fail
  refine (kE _).mono ?_
  rintro e v1 ⟨rfl, hb1'⟩
  replace b0 := b0.trans (hb1'.mono b0.size)
  replace R0' := R0'.below hb1'
  have l0 := R0'.lt
  clear hb1' kE
  go_upto_region 2 with fail
  have bA : Below v1.heap.size v1 (v1.alloc (.cells #[.int .i64 e0, .int .i64 e1, .int .i64 e2, .int .i64 e3, .int .i64 e4, .bool e5] 56)) := (Below.refl _ _).alloc (Nat.le_refl _) _
  have J0 : Rv w (v1.alloc (.cells #[.int .i64 e0, .int .i64 e1, .int .i64 e2, .int .i64 e3, .int .i64 e4, .bool e5] 56)) v1.heap.size e0 e1 e2 e3 e4 e5 := ⟨b0.trans (bA.mono b0.size), R0'.below bA, D6_new v1 _ _ _ _ _ _ _, l0⟩
  clear bA b0 R0' l0
  generalize (v1.alloc (.cells #[.int .i64 e0, .int .i64 e1, .int .i64 e2, .int .i64 e3, .int .i64 e4, .bool e5] 56)) = v2 at *
  generalize v1.heap.size = gd at *
  replace ra := ra.below J0.b
  replace rb := rb.below J0.b
  obtain ⟨d0, d1, d2, d3, d4, d5, -⟩ := id J0.d
  go_wp2_with fail
  refine (kN _ _ _ ra).mono ?_
  rintro e v3 ⟨rfl, rfl⟩
  go_wp2_with fail
  refine (kD _ _ _ rb).mono ?_
  rintro e v4 ⟨rfl, rfl⟩
  clear d0 d1 d2 d3 d4 d5
  go_wp2_with fail
  refine (kB _ _ _ _ _ ra rb).mono ?_
  rintro e v5 ⟨rfl, hb5⟩
  replace J0 := J0.below hb5
  replace ra := ra.below hb5
  replace rb := rb.below hb5
  clear hb5 kB kN kD
  go_upto_if 36 with fail
  go_cut [11] (fun x wx => x = .int .i64 E ∧ wx = v5)
  case first =>
    have w4 : IntKind.i64.wrap ((bN : Int) - (bD : Int) - 1) = (bN : Int) - (bD : Int) - 1 := by rw [IntKind.wrap_i64]; omega
    have h := HE.out
    cases lt
    · go_wp2_with fail
      go_meet
      case rel => exact ⟨by rw [h]; rfl, rfl⟩
    · go_wp2_with fail
      go_meet
      case rel => exact ⟨by rw [h]; rfl, rfl⟩
  case rest =>
  obtain ⟨rfl, rfl⟩ := hcut
  have hEb : -90001 ≤ E ∧ E ≤ 90000 := by
    have h := HE.out
    cases lt
    · simp only [Bool.false_eq_true, if_false] at h; omega
    · simp only [if_true] at h; omega
  have w5 : IntKind.i64.wrap (E - e0) = E - e0 := by rw [IntKind.wrap_i64]; omega
  have w6 : IntKind.i64.wrap (E - e0 + 1) = E - e0 + 1 := by rw [IntKind.wrap_i64]; omega
  obtain ⟨d0, d1, d2, d3, d4, d5, -⟩ := id J0.d
  go_upto_if 46 with fail
  go_cut [12] (fun x wx => x = .int .i64 Q ∧ wx = wc)
  case first =>
    have h := HQ.out
    by_cases hlt : E - e0 + 1 < qm
    · rw [if_pos hlt] at h
      go_wp2_with fail
      go_meet
      case rel => exact ⟨by rw [h], rfl⟩
    · rw [if_neg hlt] at h
      go_wp2_with fail
      go_meet
      case rel => exact ⟨by rw [h], rfl⟩
  case rest =>
  obtain ⟨rfl, rfl⟩ := hcut
  clear d0 d1 d2 d3 d4 d5
  have w7 : IntKind.i64.wrap (-Q) = -Q := by rw [IntKind.wrap_i64]; omega
  go_upto_if 51 with fail
  go_cut [13, 14] (fun x y wx => ∃ (a1 : Option Addr) (c1 : Nat) (a2 : Option Addr) (c2 : Nat), x = .slice a1 (D nn).length c1 ∧ y = .slice a2 (D mm).length c2 ∧ (D nn).length ≤ c1 ∧ Rd wx a1 (D nn) ∧ Rd wx a2 (D mm) ∧ Below wc.heap.size wc wx)
  case first =>
    by_cases hq0 : 0 ≤ Q
    · obtain ⟨hnn, kL⟩ := KM.out hq0
      go_wp2_with fail
      refine (kL _ _ _ rb).mono ?_
      rintro e v6 ⟨a2, c2, rfl, o2, hb6⟩
      go_wp2_with fail
      go_meet
      case rel =>
        subst hnn
        exact ⟨ao, c, a2, c2, rfl, rfl, hcn, ra.below hb6, Rd.own o2, hb6⟩
    · obtain ⟨hmm, kL⟩ := KM'.out (by omega)
      go_wp2_with fail
      refine (kL _ _ _ ra).mono ?_
      rintro e v6 ⟨a1, c1, rfl, o1, hb6⟩
      go_wp2_with fail
      go_meet
      case rel =>
        subst hmm
        exact ⟨a1, c1, bo, d, rfl, rfl, own_cap o1, Rd.own o1, rb.below hb6, hb6⟩
  case rest =>
  rename_i wc1
  obtain ⟨a1, c1, a2, c2, rfl, rfl, hc1, rn, rm, hbx⟩ := hcut
  replace J0 := J0.below hbx
  clear hbx ra rb
  go_wp2_with fail
  refine (kV _ _ _ _ _ hc1 rn rm).mono ?_
  rintro e v6 ⟨q1, cq, r1, cr, rfl, rq, rr, hb6⟩
  replace J0 := J0.below hb6
  replace rm := rm.below hb6
  clear hb6 rn kV hc1
  go_wp2_with fail
  refine (kR _ _ _ rr).mono ?_
  rintro e v7 ⟨r2, cr2, rfl, o2, hb7⟩
  have r2' := Rd.own o2
  replace J0 := J0.below hb7
  replace rm := rm.below hb7
  replace rq := rq.below hb7
  clear hb7 rr kR o2
  go_wp2_with fail
  refine (kC _ _ _ _ _ r2' rm).mono ?_
  rintro e v8 ⟨rfl, rfl⟩
  clear kC r2' rm
  go_upto_region 16 with fail
  go_cut [80] (fun x wx => x = .bool (decide (0 < cz ∨ (cz = 0 ∧ S0 % 2 = 1))) ∧ wx = v8)
  case first =>
    by_cases hp : 0 < cz
    · have e1 : decide (0 < cz ∨ (cz = 0 ∧ S0 % 2 = 1)) = true := decide_eq_true (.inl hp)
      have E1 := hid e1; clear e1
      go_wp2_with fail
      go_meet
      case rel => exact ⟨by rw [E1.out], rfl⟩
    · by_cases hz : cz = 0
      · have hzb : (cz == 0) = true := by simp [hz]
        have e1 : decide (0 < cz ∨ (cz = 0 ∧ S0 % 2 = 1)) = (((S0 % 4294967296 : Nat) : Int) % 2 == 1) := by
          rw [Bool.eq_iff_iff]; simp only [decide_eq_true_eq, beq_iff_eq]; omega
        have HZ := hid hz; clear hz
        have E1 := hid e1; clear e1
        go_wp2_with (go_at_call 66; refine (kA _ _ _ rq).mono ?_; rintro e v9 ⟨rfl, rfl⟩)
        go_meet
        case rel => exact ⟨by rw [E1.out]; first | rfl | simp, rfl⟩
      · have hzb : (cz == 0) = false := by simp [hz]
        have e1 : decide (0 < cz ∨ (cz = 0 ∧ S0 % 2 = 1)) = false := decide_eq_false (by omega)
        have E1 := hid e1; clear e1
        go_wp2_with fail
        go_meet
        case rel => exact ⟨by rw [E1.out], rfl⟩
  case rest =>
  obtain ⟨rfl, rfl⟩ := hcut
  go_upto_if 80 with fail
  go_cut [15] (fun x wx => ∃ (a1 : Option Addr) (c1 : Nat), x = .slice a1 (D S1).length c1 ∧ Rd wx a1 (D S1) ∧ Below wc.heap.size wc wx)
  case first =>
    have h := HS1.out
    by_cases hp : 0 < cz ∨ (cz = 0 ∧ S0 % 2 = 1)
    · rw [if_pos hp] at h
      have e1 : decide (0 < cz ∨ (cz = 0 ∧ S0 % 2 = 1)) = true := decide_eq_true hp
      rw [e1]
      have HP := hid hp; clear hp
      go_wp2_with fail
      refine (k1 _).mono ?_
      rintro e v9 ⟨o1, c1', rfl, oo, hb9⟩
      go_wp2_with fail
      refine (kP _ _ _ _ _ (rq.below hb9) (Rd.own oo)).mono ?_
      rintro e v10 ⟨o2, c2', rfl, oo2, hb10⟩
      go_wp2_with fail
      go_meet
      case rel =>
        subst h
        exact ⟨o2, c2', rfl, Rd.own oo2, hb9.trans (hb10.mono hb9.size)⟩
    · rw [if_neg hp] at h
      have e1 : decide (0 < cz ∨ (cz = 0 ∧ S0 % 2 = 1)) = false := decide_eq_false hp
      rw [e1]
      have HP := hid hp; clear hp
      go_wp2_with fail
      go_meet
      case rel =>
        subst h
        exact ⟨q1, cq, rfl, rq, Below.refl _ _⟩
  case rest =>
  obtain ⟨sa, sc, rfl, rs, hbx⟩ := hcut
  replace J0 := J0.below hbx
  clear hbx rq kA k1 kP
  obtain ⟨d0, d1, d2, d3, d4, d5, -⟩ := id J0.d
  go_upto_region 18 with fail
  go_quiet ((go_at_call 34; exact Calls.quiet_of_same (kB1 _ sa sc (Rd.drewN rs _))))
  replace J0 := J0.below (rrDrew _ nq)
  replace rs := rs.below (rrDrew _ nq)
  generalize hvz : wc.drewN nq = vz at *
  clear hvz d0 d1 d2 d3 d4 d5 kB1
  go_upto_if 88 with fail
  go_cut [15, 12] (fun x y wx => ∃ (a1 : Option Addr) (c1 : Nat), x = .slice a1 (D S).length c1 ∧ y = .int .i64 X ∧ Rd wx a1 (D S) ∧ Below vz.heap.size vz wx)
  case first =>
    have h1 := HS.out
    have h2 := HX.out
    have w8 : IntKind.i64.wrap (Q + 1) = Q + 1 := by rw [IntKind.wrap_i64]; omega
    by_cases hp : e0 < (b1 : Int)
    · rw [if_pos hp] at h1 h2
      go_wp2_with fail
      refine (kH _ _ _ rs).mono ?_
      rintro e v9 ⟨o1, c1', rfl, oo, hb9⟩
      go_wp2_with fail
      go_meet
      case rel =>
        subst h1
        exact ⟨o1, c1', rfl, by rw [h2], Rd.own oo, hb9⟩
    · rw [if_neg hp] at h1 h2
      go_wp2_with fail
      go_meet
      case rel =>
        subst h1
        exact ⟨sa, sc, rfl, by rw [h2], rs, Below.refl _ _⟩
  case rest =>
  obtain ⟨ta, tc, rfl, rfl, rt, hbx⟩ := hcut
  replace J0 := J0.below hbx
  clear hbx rs kH
  go_upto_block 0 with fail
  have bA : Below wc.heap.size wc ((wc.alloc (.cells #[.int .i64 0, .bool ng, .int .u64 0, .int .u64 0, .int .i64 0] 49)).alloc (.cells #[.int .u64 0, .int .u64 0, .int .i64 0, .bool true] 39)) := ((Below.refl _ _).alloc (Nat.le_refl _) _).alloc (by simp) _
  have P0 : Cls ((wc.alloc (.cells #[.int .i64 0, .bool ng, .int .u64 0, .int .u64 0, .int .i64 0] 49)).alloc (.cells #[.int .u64 0, .int .u64 0, .int .i64 0, .bool true] 39)) wc.heap.size #[.int .i64 0, .bool ng, .int .u64 0, .int .u64 0, .int .i64 0] 49 := (Cls.new wc _ _).below ((Below.refl _ _).alloc (Nat.le_refl _) _)
  have O0 : Cls ((wc.alloc (.cells #[.int .i64 0, .bool ng, .int .u64 0, .int .u64 0, .int .i64 0] 49)).alloc (.cells #[.int .u64 0, .int .u64 0, .int .i64 0, .bool true] 39)) (wc.heap.size + 1) #[.int .u64 0, .int .u64 0, .int .i64 0, .bool true] 39 := by
    have := Cls.new (wc.alloc (.cells #[.int .i64 0, .bool ng, .int .u64 0, .int .u64 0, .int .i64 0] 49)) #[.int .u64 0, .int .u64 0, .int .i64 0, .bool true] 39
    rwa [World.size_alloc] at this
  have lg : gd < wc.heap.size := J0.d.2.2.2.2.2.2
  have ap := apart_lt rt (Nat.le_refl _)
  replace J0 := J0.below bA
  replace rt := rt.below bA
  clear bA
  generalize ((wc.alloc (.cells #[.int .i64 0, .bool ng, .int .u64 0, .int .u64 0, .int .i64 0] 49)).alloc (.cells #[.int .u64 0, .int .u64 0, .int .i64 0, .bool true] 39)) = vA at *
  generalize wc.heap.size = gp at *
  have lw := J0.l
  go_cut [12] (fun x wx => x = .int .i64 X ∧ Cls wx gp #[.int .i64 PC, .bool ng, .int .u64 (M.hiN PS : Int), .int .u64 (M.loN PS : Int), .int .i64 PQ] 49 ∧ Cls wx (gp + 1) #[.int .u64 0, .int .u64 0, .int .i64 FL, .bool true] 39 ∧ Cls wx w.heap.size #[.int .u64 0, .int .u64 0, .int .i64 0, .bool false] 39 ∧ Below w.heap.size w wx)
  case first =>
    have hz := D_zero_eq S
    have w9 : IntKind.i64.wrap (X + e0) = X + e0 := by have := HX.out; rw [IntKind.wrap_i64]; split at this <;> omega
    have w10 : IntKind.i64.wrap (X + e0 - 1) = X + e0 - 1 := by have := HX.out; rw [IntKind.wrap_i64]; split at this <;> omega
    rcases HC.out with ⟨hS0, rfl, rfl, rfl, rfl⟩ | ⟨hS0, hlt, rfl, rfl, rfl, rfl⟩ | ⟨hS0, hlt, hov, rfl, rfl, rfl, rfl⟩ | ⟨hS0, hlt, hov, rfl, rfl, rfl, rfl⟩
    · rw [decide_eq_true hS0] at hz
      have HS0 := hid hS0; clear hS0
      have P0c0 := P0.cell 0 rfl
      have P0f0 := P0.frozen 0
      have O0c2 := O0.cell 2 rfl
      have O0f2 := O0.frozen 2
      go_wp2_with fail
      go_meet
      case rel =>
        have jr := J0.r
        have jb := J0.b
        exact ⟨rfl, (P0.set 0 _ _ rfl).far _ (by simp) _, (O0.far _ (by simp) _).set 2 _ _ rfl, (jr.far _ (by simp only; omega) _).far _ (by simp only; omega) _, (jb.setCell (by simp only; omega) _).setCell (by simp only; omega) _⟩
    · rw [decide_eq_false hS0] at hz
      have HS0 := hid hS0; clear hS0
      obtain ⟨d0, d1, d2, d3, d4, d5, -⟩ := id J0.d
      go_upto_region 29 with fail
      go_quiet ((go_at_call 34; exact Calls.quiet_of_same (kB2 _ ta tc (Rd.drewN rt _))))
      replace J0 := J0.below (rrDrew _ nq)
      replace P0 := P0.below (rrDrew _ nq)
      replace O0 := O0.below (rrDrew _ nq)
      replace rt := rt.below (rrDrew _ nq)
      generalize hvz : vA.drewN nq = vB at *
      clear hvz d0 d1 d2 d3 d4 d5
      have P0c0 := P0.cell 0 rfl
      have P0f0 := P0.frozen 0
      go_upto_region 31 with fail
      have P1 : Cls (vB.setCell ⟨gp, 0, none⟩ (.int .i64 2)) gp #[.int .i64 2, .bool ng, .int .u64 0, .int .u64 0, .int .i64 0] 49 := P0.set 0 _ _ rfl
      have O1 := O0.far ⟨gp, 0, none⟩ (by simp) (.int .i64 2)
      have jr := J0.r.far ⟨gp, 0, none⟩ (by simp only; omega) (.int .i64 2)
      have jb := J0.b.setCell (p := ⟨gp, 0, none⟩) (by simp only; omega) (.int .i64 2)
      have rt1 := rt.apart (grown_setCell vB gp 0 (.int .i64 2)) ap
      generalize vB.setCell ⟨gp, 0, none⟩ (.int .i64 2) = vC at *
      clear P0 O0 J0 rt P0c0 P0f0
      go_wp2_with fail
      refine (kW _ _ _ rt1).mono ?_
      rintro e vD ⟨rfl, hbD⟩
      replace P1 := P1.below hbD
      replace O1 := O1.below hbD
      replace jr := jr.below hbD
      replace jb := jb.trans (hbD.mono jb.size)
      clear hbD rt1
      have P1c2 := P1.cell 2 rfl
      have P1f2 := P1.frozen 2
      have P1c3 := P1.cell 3 rfl
      have P1f3 := P1.frozen 3
      have P1c4 := P1.cell 4 rfl
      have P1f4 := P1.frozen 4
      have O1c2 := O1.cell 2 rfl
      have O1f2 := O1.frozen 2
      go_wp2_with fail
      go_meet
      case rel =>
        exact ⟨rfl, (((P1.set 2 _ _ rfl).set 3 _ _ rfl).set 4 _ _ rfl).far _ (by simp) _, (((O1.far _ (by simp) _).far _ (by simp) _).far _ (by simp) _).set 2 _ _ rfl, (((jr.far _ (by simp only; omega) _).far _ (by simp only; omega) _).far _ (by simp only; omega) _).far _ (by simp only; omega) _, (((jb.setCell (by simp only; omega) _).setCell (by simp only; omega) _).setCell (by simp only; omega) _).setCell (by simp only; omega) _⟩
    · rw [decide_eq_false hS0] at hz
      have HS0 := hid hS0; clear hS0
      obtain ⟨d0, d1, d2, d3, d4, d5, -⟩ := id J0.d
      go_upto_region 29 with fail
      go_quiet ((go_at_call 34; exact Calls.quiet_of_same (kB2 _ ta tc (Rd.drewN rt _))))
      replace J0 := J0.below (rrDrew _ nq)
      replace P0 := P0.below (rrDrew _ nq)
      replace O0 := O0.below (rrDrew _ nq)
      replace rt := rt.below (rrDrew _ nq)
      generalize hvz : vA.drewN nq = vB at *
      clear hvz d0 d1 d2 d3 d4 d5
      obtain ⟨d0, d1, d2, d3, d4, d5, -⟩ := id J0.d
      have P0c0 := P0.cell 0 rfl
      have P0f0 := P0.frozen 0
      have O0c2 := O0.cell 2 rfl
      have O0f2 := O0.frozen 2
      have jr := J0.r
      have jb := J0.b
      go_wp2_with fail
      go_meet
      case rel =>
        exact ⟨rfl, (P0.set 0 _ _ rfl).far _ (by simp) _, (O0.far _ (by simp) _).set 2 _ _ rfl, (jr.far _ (by simp only; omega) _).far _ (by simp only; omega) _, (jb.setCell (by simp only; omega) _).setCell (by simp only; omega) _⟩
    · rw [decide_eq_false hS0] at hz
      have HS0 := hid hS0; clear hS0
      obtain ⟨d0, d1, d2, d3, d4, d5, -⟩ := id J0.d
      go_upto_region 29 with fail
      go_quiet ((go_at_call 34; exact Calls.quiet_of_same (kB2 _ ta tc (Rd.drewN rt _))))
      replace J0 := J0.below (rrDrew _ nq)
      replace P0 := P0.below (rrDrew _ nq)
      replace O0 := O0.below (rrDrew _ nq)
      replace rt := rt.below (rrDrew _ nq)
      generalize hvz : vA.drewN nq = vB at *
      clear hvz d0 d1 d2 d3 d4 d5
      obtain ⟨d0, d1, d2, d3, d4, d5, -⟩ := id J0.d
      have P0c0 := P0.cell 0 rfl
      have P0f0 := P0.frozen 0
      go_upto_region 24 with fail
      have P1 : Cls (vB.setCell ⟨gp, 0, none⟩ (.int .i64 3)) gp #[.int .i64 3, .bool ng, .int .u64 0, .int .u64 0, .int .i64 0] 49 := P0.set 0 _ _ rfl
      have O1 := O0.far ⟨gp, 0, none⟩ (by simp) (.int .i64 3)
      have jr := J0.r.far ⟨gp, 0, none⟩ (by simp only; omega) (.int .i64 3)
      have jb := J0.b.setCell (p := ⟨gp, 0, none⟩) (by simp only; omega) (.int .i64 3)
      have rt1 := rt.apart (grown_setCell vB gp 0 (.int .i64 3)) ap
      generalize vB.setCell ⟨gp, 0, none⟩ (.int .i64 3) = vC at *
      clear P0 O0 J0 rt P0c0 P0f0
      go_wp2_with fail
      refine (kW _ _ _ rt1).mono ?_
      rintro e vD ⟨rfl, hbD⟩
      replace P1 := P1.below hbD
      replace O1 := O1.below hbD
      replace jr := jr.below hbD
      replace jb := jb.trans (hbD.mono jb.size)
      clear hbD rt1
      have P1c2 := P1.cell 2 rfl
      have P1f2 := P1.frozen 2
      have P1c3 := P1.cell 3 rfl
      have P1f3 := P1.frozen 3
      have P1c4 := P1.cell 4 rfl
      have P1f4 := P1.frozen 4
      go_wp2_with fail
      go_meet
      case rel =>
        exact ⟨rfl, ((P1.set 2 _ _ rfl).set 3 _ _ rfl).set 4 _ _ rfl, ((O1.far _ (by simp) _).far _ (by simp) _).far _ (by simp) _, ((jr.far _ (by simp only; omega) _).far _ (by simp only; omega) _).far _ (by simp only; omega) _, ((jb.setCell (by simp only; omega) _).setCell (by simp only; omega) _).setCell (by simp only; omega) _⟩
  case rest =>
  obtain ⟨rfl, P2, O2, jr, jb⟩ := hcut
  clear P0 O0 J0 rt ap kW kB2 HC HS HX HS1 HE HQ KM KM' HM
  have P2c0 := P2.cell 0 rfl
  have P2c1 := P2.cell 1 rfl
  have P2c2 := P2.cell 2 rfl
  have P2c3 := P2.cell 3 rfl
  have P2c4 := P2.cell 4 rfl
  go_wp2_with fail
  refine (kK _).mono ?_
  rintro e vK ⟨rfl, hbK⟩
  replace O2 := O2.below hbK
  replace jr := jr.below hbK
  replace jb := jb.trans (hbK.mono jb.size)
  clear hbK P2 P2c0 P2c1 P2c2 P2c3 P2c4 kK
  have O2c0 := O2.cell 0 rfl
  have O2f0 := O2.frozen 0
  have O2c1 := O2.cell 1 rfl
  have O2f1 := O2.frozen 1
  go_upto_region 38 with fail
  have O3 : Cls ((vK.setCell ⟨gp + 1, 0, none⟩ (.int .u64 (M.hiN Y : Int))).setCell ⟨gp + 1, 1, none⟩ (.int .u64 (M.loN Y : Int))) (gp + 1) #[.int .u64 (M.hiN Y : Int), .int .u64 (M.loN Y : Int), .int .i64 FL, .bool true] 39 := (O2.set 0 _ _ rfl).set 1 _ _ rfl
  have jr3 := (jr.far ⟨gp + 1, 0, none⟩ (by simp only; omega) (.int .u64 (M.hiN Y : Int))).far ⟨gp + 1, 1, none⟩ (by simp only; omega) (.int .u64 (M.loN Y : Int))
  have jb3 := (jb.setCell (p := ⟨gp + 1, 0, none⟩) (by simp only; omega) (.int .u64 (M.hiN Y : Int))).setCell (p := ⟨gp + 1, 1, none⟩) (by simp only; omega) (.int .u64 (M.loN Y : Int))
  clear O2 jr jb O2c0 O2c1 O2f0 O2f1
  generalize ((vK.setCell ⟨gp + 1, 0, none⟩ (.int .u64 (M.hiN Y : Int))).setCell ⟨gp + 1, 1, none⟩ (.int .u64 (M.loN Y : Int))) = vL at *
  have O3c0 := O3.cell 0 rfl
  have O3c1 := O3.cell 1 rfl
  have O3c2 := O3.cell 2 rfl
  have O3c3 := O3.cell 3 rfl
  have jr3c0 := jr3.cell 0 rfl
  have jr3f0 := jr3.frozen 0
  have jr3c1 := jr3.cell 1 rfl
  have jr3f1 := jr3.frozen 1
  have jr3c2 := jr3.cell 2 rfl
  have jr3f2 := jr3.frozen 2
  have jr3c3 := jr3.cell 3 rfl
  have jr3f3 := jr3.frozen 3
  go_wp2_with fail
  have R4 := (((jr3.set 0 (.int .u64 (M.hiN Y : Int)) _ rfl).set 1 (.int .u64 (M.loN Y : Int)) _ rfl).set 2 (.int .i64 FL) _ rfl).set 3 (.bool true) #[.int .u64 (M.hiN Y : Int), .int .u64 (M.loN Y : Int), .int .i64 FL, .bool true] rfl
  have B4 := (((jb3.setCell (p := ⟨w.heap.size, 0, none⟩) (Nat.le_refl _) (.int .u64 (M.hiN Y : Int))).setCell (p := ⟨w.heap.size, 1, none⟩) (Nat.le_refl _) (.int .u64 (M.loN Y : Int))).setCell (p := ⟨w.heap.size, 2, none⟩) (Nat.le_refl _) (.int .i64 FL)).setCell (p := ⟨w.heap.size, 3, none⟩) (Nat.le_refl _) (.bool true)
  have q0 := R4.cell 0 rfl
  have q1 := R4.cell 1 rfl
  have q2 := R4.cell 2 rfl
  have q3 := R4.cell 3 rfl
  exact bodyPost_ret (v := .agg #[.int .u64 (M.hiN Y : Int), .int .u64 (M.loN Y : Int), .int .i64 FL, .bool true]) (by simp [results, Tryd.results51, go_sem, q0, q1, q2, q3]) rfl ⟨rfl, B4⟩

end Go.Proofs.YtehplfmnipadmaeDoor

namespace Go.Proofs.YtehplfmnipadmaeDoor
open Go.RowKit
set_option linter.unusedVariables false
set_option maxRecDepth 100000

theorem blen_of_D (N K : Nat) (h : (D N).length ≤ K) : blen N ≤ 32 * K := by
  refine blen_le_of N _ ?_
  have := D_lt N K h
  rwa [show (4294967296 : Nat) = 2 ^ 32 by rfl, ← Nat.pow_mul] at this

theorem D_mono {a b : Nat} (h : a ≤ b) : (D a).length ≤ (D b).length := by
  rcases Nat.lt_or_ge (D b).length (D a).length with hh | hh
  · have := M.lt_of_length (B := 4294967296) (by omega) hh
    omega
  · exact hh

set_option maxRecDepth 10000 in
set_option maxHeartbeats 2000000 in
theorem sround_pos (f : Nat) (hf : f < 4) (ng : Bool) (a b : Option Addr) (c d N De : Nat) (w : World) (hN : 0 < N) (hd : 0 < De) (lN : (D N).length ≤ 2400) (lD : (D De).length ≤ 2400) (hcn : (D N).length ≤ c) (ra : Rd w a (D N)) (rb : Rd w b (D De)) :
    Calls Tryd.prog 51 #[.int .i64 (f : Int), .bool ng, .slice a (D N).length c, .slice b (D De).length d] w fun e w' => e = .returned (.agg #[.int .u64 (M.hiN ((M.fm f).pk ((M.fm f).rPt ng N De)) : Int), .int .u64 (M.loN ((M.fm f).pk ((M.fm f).rPt ng N De)) : Int), .int .i64 ((M.fm f).rFl N De 2 1), .bool true]) ∧ Below w.heap.size w w' := by
  have kE := fun v : World => sdescribe_ok f hf v
  have kK := fun (v : World) (c : Int) (s : Nat) (hs : s < 2 ^ 128) (q : Int) (h1 : -9223372036854775808 ≤ q) (h2 : q < 9223372036854775808) => spack_any f hf c ng s hs q h1 h2 v
  have h := M.fm_ok f
  generalize M.fm f = F at *
  simp only [dv] at kE
  have p1 := h.p1
  have p2 := h.p2
  have t2 := h.top2
  have bN := blen_of_D N _ lN
  have bD := blen_of_D De _ lD
  have e1 := M.rE_le N De (by omega) (by omega)
  obtain ⟨q1, q2, q3, q4, q5⟩ := h.rQ_le N De (by omega) (by omega)
  obtain ⟨m1, m2, m3⟩ := h.rS_ok N De hN hd
  have m4 := h.rS_le N De hN hd
  have m5 := h.rSig_lt N De hN hd
  obtain ⟨n1, n2⟩ := h.rN_le N De hN hd (by omega) (by omega)
  have tl := h.two_lead
  have pw : 2 ^ F.p ≤ 2 ^ 113 := Nat.pow_le_pow_right (by omega) p2
  have pp := h.rPt_proper ng N De hN hd
  have lo := h.rLow N De hN hd
  obtain ⟨g1, g2⟩ := h.rCarry N De hN hd
  have l1 : (D (F.rN N De)).length ≤ 2404 := by
    rcases n1 with n1 | n1
    · rw [n1]; omega
    · have := D_shift De F.p 2400 lD
      have := D_mono (Nat.le_of_lt n1)
      omega
  have l2 : (D (F.rM N De)).length ≤ 2404 := by
    rcases n2 with n2 | n2
    · rw [n2]; omega
    · have := D_mono n2
      omega
  have hlt : F.rN N De / F.rM N De < 2 ^ 128 := by omega
  have hrm : F.rN N De % F.rM N De < F.rM N De := Nat.mod_lt _ m1
  have l3 : (D (F.rN N De % F.rM N De)).length ≤ 2404 := Nat.le_trans (D_mono (Nat.le_of_lt hrm)) l2
  have l4 : (D (F.rN N De % F.rM N De * 2)).length ≤ 2405 := by
    have := D_shift (F.rN N De % F.rM N De) 1 2404 l3
    rw [Nat.pow_one] at this; omega
  have l5 : (D (F.rN N De / F.rM N De)).length ≤ 6 := D_small _ (by omega)
  have l6 : (D (F.rS N De)).length ≤ 6 := D_small _ (by omega)
  have l7 : (D (F.rSig N De)).length ≤ 6 := D_small _ (by omega)
  have hqm : F.qmin = 2 - (F.emax : Int) - (F.p : Int) := rfl
  have hQd : F.rQ N De = max (M.rE N De - F.p + 1) F.qmin := rfl
  have kSh := fun (v : World) (ao : Option Addr) (cc : Nat) (hr : Rd v ao (D (F.rN N De % F.rM N De))) => l1Left_any ao _ cc 1 (F.rN N De % F.rM N De) v rfl (by omega) (by omega) hr
  rw [Nat.pow_one] at kSh
  have kH := fun (v : World) (ao : Option Addr) (cc : Nat) (hr : Rd v ao (D (F.rS N De))) => l1Right_any ao _ cc 1 (F.rS N De) v rfl (by omega) (by omega) hr
  rw [Nat.pow_one] at kH
  have hs : (F.rPt ng N De).s < 2 ^ 128 := by
    unfold M.Fm.rPt; split
    · simp only; omega
    · split
      · simp only; omega
      · split <;> simp only <;> omega
  have hx : -100000 ≤ F.rExp N De ∧ F.rExp N De ≤ 200000 := by rw [g2]; split <;> omega
  have hq : -9223372036854775808 ≤ (F.rPt ng N De).q ∧ (F.rPt ng N De).q < 9223372036854775808 := by
    unfold M.Fm.rPt; split
    · simp only; omega
    · split
      · simp only; omega
      · split <;> simp only <;> omega
  have kP := fun v : World => kK v (F.rPt ng N De).c (F.rPt ng N De).s hs (F.rPt ng N De).q hq.1 hq.2
  have ht : (⟨(F.rPt ng N De).c, ng, (F.rPt ng N De).s, (F.rPt ng N De).q⟩ : M.Pt) = F.rPt ng N De := by
    have : (F.rPt ng N De).n = ng := by
      unfold M.Fm.rPt; split
      · rfl
      · split
        · rfl
        · split <;> rfl
    refine M.Pt.ext' rfl this.symm rfl rfl
  rw [ht, show ansN F (F.rPt ng N De) = F.pk (F.rPt ng N De) from if_pos pp] at kP
  have bl := blen_iff h (F.rSig N De)
  refine sround_key (f : Int) ng N De _ _ _ _ _ _ w a b c d hcn ra rb kE (blen N) (blen De) (fun v ao cc hr => l1Bits_any ao _ cc N v rfl (by omega) hr _ rfl) (fun v ao cc hr => l1Bits_any ao _ cc De v rfl (by omega) hr _ rfl)
    (decide (M.lt2 N De ((blen N : Int) - blen De))) (fun v ao bo c d hr hr2 => l2Below_any ao bo _ _ c d N De _ v rfl rfl (by omega) (by omega) (by omega) (by omega) hr hr2 _ rfl)
    (M.rE N De) (F.rQ N De) F.qmin (by unfold M.rE; simp only [decide_eq_true_eq]) (by omega) (by rw [hQd]; split <;> omega) (by omega) (by omega) (by omega) (by omega) (by omega) (by omega) (by omega) (by omega)
    (F.rN N De) (F.rM N De) ?_ ?_ (F.rN N De / F.rM N De) (F.rN N De % F.rM N De) (fun v ao bo c d hc hr hr2 => l1Div_wide ao bo _ _ c d _ _ v rfl rfl m1 (by omega) (by omega) hc hr hr2) kSh
    (cmpI ((F.rN N De % F.rM N De * 2 : Nat) : Int) (F.rM N De : Int)) (fun v ao bo c d hr hr2 => l1Cmp_any ao bo _ _ c d _ _ v rfl rfl (by omega) (by omega) hr hr2)
    (fun v ao cc hr => l1At_any ao _ cc 0 _ v rfl (by omega) (by omega) hr _ (by rw [D_get]; simp)) (fun v => l1Of_any 1 v (by omega)) (fun v ao bo c d hr hr2 => l1Add_any ao bo _ _ c d _ _ v rfl rfl (by omega) (Nat.le_trans (D_small 1 (by omega)) (by omega)) hr hr2)
    (F.rS N De) (M.rUp_cmp _ _) (blen (F.rS N De)) (fun v ao cc hr => l1Bits_any ao _ cc _ v rfl (by omega) hr _ rfl) kH (F.rSig N De) (F.rExp N De) g1 g2 (by omega) (by omega) (by omega) (by omega)
    (blen (F.rSig N De)) (fun v ao cc hr => l1Bits_any ao _ cc _ v rfl (by omega) hr _ rfl) (fun v ao cc hr => l2Word_any ao _ cc _ v rfl (by omega) hr)
    (F.rPt ng N De).c (F.rPt ng N De).s (F.rPt ng N De).q (F.rFl N De 2 1) ?_ (F.pk (F.rPt ng N De)) _ kP
  · intro hc
    refine ⟨?_, ?_⟩
    · show N * 2 ^ (-(F.rQ N De)).toNat = N
      rw [show (-(F.rQ N De)).toNat = 0 by omega, Nat.pow_zero, Nat.mul_one]
    · intro v ao cc hr
      have := l1Left_any ao _ cc (F.rQ N De).toNat De v rfl (by omega) (by omega) hr
      rw [show (((F.rQ N De).toNat : Nat) : Int) = F.rQ N De by omega] at this
      exact this
  · intro hc
    refine ⟨?_, ?_⟩
    · show De * 2 ^ (F.rQ N De).toNat = De
      rw [show (F.rQ N De).toNat = 0 by omega, Nat.pow_zero, Nat.mul_one]
    · intro v ao cc hr
      have := l1Left_any ao _ cc (-(F.rQ N De)).toNat N v rfl (by omega) (by omega) hr
      rw [show (((-(F.rQ N De)).toNat : Nat) : Int) = -(F.rQ N De) by omega] at this
      exact this
  · unfold M.Fm.rPt M.Fm.rFl
    by_cases k1 : F.rSig N De = 0
    · rw [if_pos k1, if_pos k1]
      exact .inl ⟨k1, rfl, rfl, rfl, rfl⟩
    · rw [if_neg k1, if_neg k1]
      by_cases k2 : F.rSig N De < F.lead
      · rw [if_pos k2, if_pos k2]
        refine .inr (.inl ⟨k1, ?_, rfl, rfl, (lo k2).1, rfl⟩)
        rcases Nat.lt_or_ge (blen (F.rSig N De)) F.p with hh | hh
        · omega
        · have := bl.1.2 hh; omega
      · rw [if_neg k2, if_neg k2]
        have hb : ¬ ((blen (F.rSig N De) : Int) < (F.p : Int)) := by have := bl.1.1 (by omega); omega
        by_cases k3 : (F.emax : Int) < F.rExp N De + F.p - 1
        · rw [if_pos k3, if_pos k3]
          exact .inr (.inr (.inl ⟨k1, hb, k3, rfl, rfl, rfl, rfl⟩))
        · rw [if_neg k3, if_neg k3]
          exact .inr (.inr (.inr ⟨k1, hb, k3, rfl, rfl, rfl, rfl⟩))

end Go.Proofs.YtehplfmnipadmaeDoor

namespace Go.Proofs.YtehplfmnipadmaeDoor
open Go.RowKit
set_option linter.unusedVariables false
set_option maxRecDepth 100000

theorem fld_desc (p a b c d : Int) (x : Bool) (w : World) : (Instr.field 56 (.agg #[.int .i64 p, .int .i64 a, .int .i64 b, .int .i64 c, .int .i64 d, .bool x]) 0).run Tryd.prog w = .ok (.int .i64 p) w := by kernel_rfl

set_option maxRecDepth 100000 in
set_option maxHeartbeats 4000000 in
theorem srr_no (f : Int) (hf : f < 0 ∨ 4 ≤ f) (ng : Bool) (ao bo : Option Addr) (n m c d : Nat) (xs ys : List Nat) (w : World) (hl : xs.length = n) (hm : ys.length = m) (hc : n ≤ c) (hd : m ≤ d) (hn : n ≤ 1048576) (hn2 : m ≤ 1048576) (hx : F64 xs) (hy : F64 ys) (hr : Rd w ao xs) (hr2 : Rd w bo ys) :
    Calls Tryd.prog 16 #[.int .i64 f, .bool ng, .slice ao n c, .slice bo m d] w fun e w' => e = .returned (.agg #[.int .u64 0, .int .u64 0, .int .i64 0, .bool false]) ∧ Below w.heap.size w w' := by
  have hfd := fld_desc
  have b0 : Below w.heap.size w (w.alloc (.cells #[.int .u64 0, .int .u64 0, .int .i64 0, .bool false] 39)) := (Below.refl _ _).alloc (Nat.le_refl _) _
  have hR : Cls (w.alloc (.cells #[.int .u64 0, .int .u64 0, .int .i64 0, .bool false] 39)) w.heap.size #[.int .u64 0, .int .u64 0, .int .i64 0, .bool false] 39 := Cls.new _ _ _
  generalize hV : (w.alloc (.cells #[.int .u64 0, .int .u64 0, .int .i64 0, .bool false] 39)) = v0 at *
  go_enter Tryd.func16, Tryd.ntmps16
  go_upto_region 1 with fail
  clear hV
  go_wp2_with fail
  refine (sdescribeNo f _ hf).mono ?_
  rintro e v1 ⟨rfl, hb1⟩
  replace b0 := b0.trans (hb1.mono b0.size)
  replace hR := hR.below hb1
  have r0 := hR.cell 0 rfl
  have s0 := hR.frozen 0
  have r1 := hR.cell 1 rfl
  have s1 := hR.frozen 1
  have r2 := hR.cell 2 rfl
  have s2 := hR.frozen 2
  have r3 := hR.cell 3 rfl
  have s3 := hR.frozen 3
  go_wp2_with fail
  have R5 := Cls.set (Cls.set (Cls.set (Cls.set (hR) 0 (.int .u64 0) _ rfl) 1 (.int .u64 0) _ rfl) 2 (.int .i64 0) _ rfl) 3 (.bool false) #[.int .u64 0, .int .u64 0, .int .i64 0, .bool false] rfl
  have B5 := ((((b0).setCell (p := ⟨w.heap.size, 0, none⟩) (Nat.le_refl _) (.int .u64 0)).setCell (p := ⟨w.heap.size, 1, none⟩) (Nat.le_refl _) (.int .u64 0)).setCell (p := ⟨w.heap.size, 2, none⟩) (Nat.le_refl _) (.int .i64 0)).setCell (p := ⟨w.heap.size, 3, none⟩) (Nat.le_refl _) (.bool false)
  generalize ((((v1.setCell ⟨w.heap.size, 0, none⟩ (.int .u64 0)).setCell ⟨w.heap.size, 1, none⟩ (.int .u64 0)).setCell ⟨w.heap.size, 2, none⟩ (.int .i64 0)).setCell ⟨w.heap.size, 3, none⟩ (.bool false)) = Yw at R5 B5 ⊢
  have q0 := R5.cell 0 rfl
  have q1 := R5.cell 1 rfl
  have q2 := R5.cell 2 rfl
  have q3 := R5.cell 3 rfl
  exact bodyPost_ret (v := .agg #[.int .u64 0, .int .u64 0, .int .i64 0, .bool false]) (by simp [results, Tryd.results16, go_sem, q0, q1, q2, q3]) rfl ⟨rfl, B5⟩

set_option maxRecDepth 100000 in
set_option maxHeartbeats 4000000 in
theorem srr_long1 (f : Nat) (hf : f < 4) (ng : Bool) (ao bo : Option Addr) (n m c d : Nat) (xs ys : List Nat) (w : World) (hl : xs.length = n) (hm : ys.length = m) (hc : n ≤ c) (hd : m ≤ d) (hn : n ≤ 1048576) (hn2 : m ≤ 1048576) (hx : F64 xs) (hy : F64 ys) (hr : Rd w ao xs) (hr2 : Rd w bo ys) (h1 : ¬ n ≤ 1200) :
    Calls Tryd.prog 16 #[.int .i64 (f : Int), .bool ng, .slice ao n c, .slice bo m d] w fun e w' => e = .returned (.agg #[.int .u64 0, .int .u64 0, .int .i64 0, .bool false]) ∧ Below w.heap.size w w' := by
  have kE := fun v : World => sdescribe_ok f hf v
  have h := M.fm_ok f
  have p1 := h.p1
  have hne : (((M.fm f).p : Int) == 0) = false := by simp; omega
  simp only [dv] at kE
  have kf := fun v : World => l1Fits_any ao n c v (by omega)
  rw [decide_eq_false h1] at kf
  have hfd := fld_desc
  have b0 : Below w.heap.size w (w.alloc (.cells #[.int .u64 0, .int .u64 0, .int .i64 0, .bool false] 39)) := (Below.refl _ _).alloc (Nat.le_refl _) _
  have hR : Cls (w.alloc (.cells #[.int .u64 0, .int .u64 0, .int .i64 0, .bool false] 39)) w.heap.size #[.int .u64 0, .int .u64 0, .int .i64 0, .bool false] 39 := Cls.new _ _ _
  generalize hV : (w.alloc (.cells #[.int .u64 0, .int .u64 0, .int .i64 0, .bool false] 39)) = v0 at *
  go_enter Tryd.func16, Tryd.ntmps16
  go_upto_region 1 with fail
  clear hV
  go_wp2_with fail
  refine (kE _).mono ?_
  rintro e v1 ⟨rfl, hb1⟩
  replace b0 := b0.trans (hb1.mono b0.size)
  replace hR := hR.below hb1
  clear hb1
  go_wp2_with fail
  refine (kf _).mono ?_
  rintro e v2 ⟨rfl, rfl⟩
  have r0 := hR.cell 0 rfl
  have s0 := hR.frozen 0
  have r1 := hR.cell 1 rfl
  have s1 := hR.frozen 1
  have r2 := hR.cell 2 rfl
  have s2 := hR.frozen 2
  have r3 := hR.cell 3 rfl
  have s3 := hR.frozen 3
  go_wp2_with fail
  have R5 := Cls.set (Cls.set (Cls.set (Cls.set (hR) 0 (.int .u64 0) _ rfl) 1 (.int .u64 0) _ rfl) 2 (.int .i64 0) _ rfl) 3 (.bool false) #[.int .u64 0, .int .u64 0, .int .i64 0, .bool false] rfl
  have B5 := ((((b0).setCell (p := ⟨w.heap.size, 0, none⟩) (Nat.le_refl _) (.int .u64 0)).setCell (p := ⟨w.heap.size, 1, none⟩) (Nat.le_refl _) (.int .u64 0)).setCell (p := ⟨w.heap.size, 2, none⟩) (Nat.le_refl _) (.int .i64 0)).setCell (p := ⟨w.heap.size, 3, none⟩) (Nat.le_refl _) (.bool false)
  generalize ((((v2.setCell ⟨w.heap.size, 0, none⟩ (.int .u64 0)).setCell ⟨w.heap.size, 1, none⟩ (.int .u64 0)).setCell ⟨w.heap.size, 2, none⟩ (.int .i64 0)).setCell ⟨w.heap.size, 3, none⟩ (.bool false)) = Yw at R5 B5 ⊢
  have q0 := R5.cell 0 rfl
  have q1 := R5.cell 1 rfl
  have q2 := R5.cell 2 rfl
  have q3 := R5.cell 3 rfl
  exact bodyPost_ret (v := .agg #[.int .u64 0, .int .u64 0, .int .i64 0, .bool false]) (by simp [results, Tryd.results16, go_sem, q0, q1, q2, q3]) rfl ⟨rfl, B5⟩

set_option maxRecDepth 100000 in
set_option maxHeartbeats 4000000 in
theorem srr_long2 (f : Nat) (hf : f < 4) (ng : Bool) (ao bo : Option Addr) (n m c d : Nat) (xs ys : List Nat) (w : World) (hl : xs.length = n) (hm : ys.length = m) (hc : n ≤ c) (hd : m ≤ d) (hn : n ≤ 1048576) (hn2 : m ≤ 1048576) (hx : F64 xs) (hy : F64 ys) (hr : Rd w ao xs) (hr2 : Rd w bo ys) (h1 : n ≤ 1200) (h2 : ¬ m ≤ 1200) :
    Calls Tryd.prog 16 #[.int .i64 (f : Int), .bool ng, .slice ao n c, .slice bo m d] w fun e w' => e = .returned (.agg #[.int .u64 0, .int .u64 0, .int .i64 0, .bool false]) ∧ Below w.heap.size w w' := by
  have kE := fun v : World => sdescribe_ok f hf v
  have h := M.fm_ok f
  have p1 := h.p1
  have hne : (((M.fm f).p : Int) == 0) = false := by simp; omega
  simp only [dv] at kE
  have kf := fun v : World => l1Fits_any ao n c v (by omega)
  have kg := fun v : World => l1Fits_any bo m d v (by omega)
  rw [decide_eq_true h1] at kf
  rw [decide_eq_false h2] at kg
  have hfd := fld_desc
  have b0 : Below w.heap.size w (w.alloc (.cells #[.int .u64 0, .int .u64 0, .int .i64 0, .bool false] 39)) := (Below.refl _ _).alloc (Nat.le_refl _) _
  have hR : Cls (w.alloc (.cells #[.int .u64 0, .int .u64 0, .int .i64 0, .bool false] 39)) w.heap.size #[.int .u64 0, .int .u64 0, .int .i64 0, .bool false] 39 := Cls.new _ _ _
  generalize hV : (w.alloc (.cells #[.int .u64 0, .int .u64 0, .int .i64 0, .bool false] 39)) = v0 at *
  go_enter Tryd.func16, Tryd.ntmps16
  go_upto_region 1 with fail
  clear hV
  go_wp2_with fail
  refine (kE _).mono ?_
  rintro e v1 ⟨rfl, hb1⟩
  replace b0 := b0.trans (hb1.mono b0.size)
  replace hR := hR.below hb1
  clear hb1
  go_wp2_with fail
  refine (kf _).mono ?_
  rintro e v2 ⟨rfl, rfl⟩
  go_wp2_with fail
  refine (kg _).mono ?_
  rintro e v3 ⟨rfl, rfl⟩
  have r0 := hR.cell 0 rfl
  have s0 := hR.frozen 0
  have r1 := hR.cell 1 rfl
  have s1 := hR.frozen 1
  have r2 := hR.cell 2 rfl
  have s2 := hR.frozen 2
  have r3 := hR.cell 3 rfl
  have s3 := hR.frozen 3
  go_wp2_with fail
  have R5 := Cls.set (Cls.set (Cls.set (Cls.set (hR) 0 (.int .u64 0) _ rfl) 1 (.int .u64 0) _ rfl) 2 (.int .i64 0) _ rfl) 3 (.bool false) #[.int .u64 0, .int .u64 0, .int .i64 0, .bool false] rfl
  have B5 := ((((b0).setCell (p := ⟨w.heap.size, 0, none⟩) (Nat.le_refl _) (.int .u64 0)).setCell (p := ⟨w.heap.size, 1, none⟩) (Nat.le_refl _) (.int .u64 0)).setCell (p := ⟨w.heap.size, 2, none⟩) (Nat.le_refl _) (.int .i64 0)).setCell (p := ⟨w.heap.size, 3, none⟩) (Nat.le_refl _) (.bool false)
  generalize ((((v3.setCell ⟨w.heap.size, 0, none⟩ (.int .u64 0)).setCell ⟨w.heap.size, 1, none⟩ (.int .u64 0)).setCell ⟨w.heap.size, 2, none⟩ (.int .i64 0)).setCell ⟨w.heap.size, 3, none⟩ (.bool false)) = Yw at R5 B5 ⊢
  have q0 := R5.cell 0 rfl
  have q1 := R5.cell 1 rfl
  have q2 := R5.cell 2 rfl
  have q3 := R5.cell 3 rfl
  exact bodyPost_ret (v := .agg #[.int .u64 0, .int .u64 0, .int .i64 0, .bool false]) (by simp [results, Tryd.results16, go_sem, q0, q1, q2, q3]) rfl ⟨rfl, B5⟩

set_option maxRecDepth 100000 in
set_option maxHeartbeats 4000000 in
theorem srr_den0 (f : Nat) (hf : f < 4) (ng : Bool) (ao bo : Option Addr) (n m c d : Nat) (xs ys : List Nat) (w : World) (hl : xs.length = n) (hm : ys.length = m) (hc : n ≤ c) (hd : m ≤ d) (hn : n ≤ 1048576) (hn2 : m ≤ 1048576) (hx : F64 xs) (hy : F64 ys) (hr : Rd w ao xs) (hr2 : Rd w bo ys) (h1 : n ≤ 1200) (h2 : m ≤ 1200) (h3 : V ys = 0) :
    Calls Tryd.prog 16 #[.int .i64 (f : Int), .bool ng, .slice ao n c, .slice bo m d] w fun e w' => e = .returned (.agg #[.int .u64 0, .int .u64 0, .int .i64 0, .bool false]) ∧ Below w.heap.size w w' := by
  have kE := fun v : World => sdescribe_ok f hf v
  have h := M.fm_ok f
  have p1 := h.p1
  have hne : (((M.fm f).p : Int) == 0) = false := by simp; omega
  simp only [dv] at kE
  have kf := fun v : World => l1Fits_any ao n c v (by omega)
  have kg := fun v : World => l1Fits_any bo m d v (by omega)
  rw [decide_eq_true h1] at kf
  rw [decide_eq_true h2] at kg
  have hz := D_zero_eq (V ys)
  rw [decide_eq_true h3] at hz
  have H3 := hid h3; clear h3
  have hfd := fld_desc
  have b0 : Below w.heap.size w (w.alloc (.cells #[.int .u64 0, .int .u64 0, .int .i64 0, .bool false] 39)) := (Below.refl _ _).alloc (Nat.le_refl _) _
  have hR : Cls (w.alloc (.cells #[.int .u64 0, .int .u64 0, .int .i64 0, .bool false] 39)) w.heap.size #[.int .u64 0, .int .u64 0, .int .i64 0, .bool false] 39 := Cls.new _ _ _
  generalize hV : (w.alloc (.cells #[.int .u64 0, .int .u64 0, .int .i64 0, .bool false] 39)) = v0 at *
  go_enter Tryd.func16, Tryd.ntmps16
  go_upto_region 1 with fail
  clear hV
  go_wp2_with fail
  refine (kE _).mono ?_
  rintro e v1 ⟨rfl, hb1⟩
  replace b0 := b0.trans (hb1.mono b0.size)
  replace hR := hR.below hb1
  clear hb1
  go_wp2_with fail
  refine (kf _).mono ?_
  rintro e v2 ⟨rfl, rfl⟩
  go_wp2_with fail
  refine (kg _).mono ?_
  rintro e v3 ⟨rfl, rfl⟩
  replace hr := hr.below b0
  replace hr2 := hr2.below b0
  go_wp2_with fail
  refine (l1In_any ao n c xs _ hl (by omega) hx hr).mono ?_
  rintro e v4 ⟨a1, c1, rfl, o1, hb4⟩
  replace hr2 := hr2.below hb4
  replace b0 := b0.trans (hb4.mono b0.size)
  replace hR := hR.below hb4
  clear hb4
  go_wp2_with fail
  refine (l1In_any bo m d ys _ hm (by omega) hy hr2).mono ?_
  rintro e v5 ⟨a2, c2, rfl, o2, hb5⟩
  replace o1 := own_below o1 hb5
  replace b0 := b0.trans (hb5.mono b0.size)
  replace hR := hR.below hb5
  clear hb5 hr hr2
  have r0 := hR.cell 0 rfl
  have s0 := hR.frozen 0
  have r1 := hR.cell 1 rfl
  have s1 := hR.frozen 1
  have r2 := hR.cell 2 rfl
  have s2 := hR.frozen 2
  have r3 := hR.cell 3 rfl
  have s3 := hR.frozen 3
  go_wp2_with fail
  have R5 := Cls.set (Cls.set (Cls.set (Cls.set (hR) 0 (.int .u64 0) _ rfl) 1 (.int .u64 0) _ rfl) 2 (.int .i64 0) _ rfl) 3 (.bool false) #[.int .u64 0, .int .u64 0, .int .i64 0, .bool false] rfl
  have B5 := ((((b0).setCell (p := ⟨w.heap.size, 0, none⟩) (Nat.le_refl _) (.int .u64 0)).setCell (p := ⟨w.heap.size, 1, none⟩) (Nat.le_refl _) (.int .u64 0)).setCell (p := ⟨w.heap.size, 2, none⟩) (Nat.le_refl _) (.int .i64 0)).setCell (p := ⟨w.heap.size, 3, none⟩) (Nat.le_refl _) (.bool false)
  generalize ((((v5.setCell ⟨w.heap.size, 0, none⟩ (.int .u64 0)).setCell ⟨w.heap.size, 1, none⟩ (.int .u64 0)).setCell ⟨w.heap.size, 2, none⟩ (.int .i64 0)).setCell ⟨w.heap.size, 3, none⟩ (.bool false)) = Yw at R5 B5 ⊢
  have q0 := R5.cell 0 rfl
  have q1 := R5.cell 1 rfl
  have q2 := R5.cell 2 rfl
  have q3 := R5.cell 3 rfl
  exact bodyPost_ret (v := .agg #[.int .u64 0, .int .u64 0, .int .i64 0, .bool false]) (by simp [results, Tryd.results16, go_sem, q0, q1, q2, q3]) rfl ⟨rfl, B5⟩

set_option maxRecDepth 100000 in
set_option maxHeartbeats 4000000 in
theorem srr_num0 (f : Nat) (hf : f < 4) (ng : Bool) (ao bo : Option Addr) (n m c d : Nat) (xs ys : List Nat) (w : World) (hl : xs.length = n) (hm : ys.length = m) (hc : n ≤ c) (hd : m ≤ d) (hn : n ≤ 1048576) (hn2 : m ≤ 1048576) (hx : F64 xs) (hy : F64 ys) (hr : Rd w ao xs) (hr2 : Rd w bo ys) (h1 : n ≤ 1200) (h2 : m ≤ 1200) (h3 : 0 < V ys) (h4 : V xs = 0) :
    Calls Tryd.prog 16 #[.int .i64 (f : Int), .bool ng, .slice ao n c, .slice bo m d] w fun e w' => e = .returned (.agg #[.int .u64 (M.hiN ((M.fm f).pk ⟨1, ng, 0, 0⟩) : Int), .int .u64 (M.loN ((M.fm f).pk ⟨1, ng, 0, 0⟩) : Int), .int .i64 0, .bool true]) ∧ Below w.heap.size w w' := by
  have kE := fun v : World => sdescribe_ok f hf v
  have h := M.fm_ok f
  have p1 := h.p1
  have hne : (((M.fm f).p : Int) == 0) = false := by simp; omega
  simp only [dv] at kE
  have kf := fun v : World => l1Fits_any ao n c v (by omega)
  have kg := fun v : World => l1Fits_any bo m d v (by omega)
  rw [decide_eq_true h1] at kf
  rw [decide_eq_true h2] at kg
  have hz := D_zero_eq (V ys)
  rw [decide_eq_false (show ¬ V ys = 0 by omega)] at hz
  have hz2 := D_zero_eq (V xs)
  rw [decide_eq_true h4] at hz2
  have H4 := hid h4; clear h4
  have kP := fun v : World => spack_any f hf 1 ng 0 (by omega) 0 (by omega) (by omega) v
  rw [show ansN (M.fm f) ⟨1, ng, 0, 0⟩ = (M.fm f).pk ⟨1, ng, 0, 0⟩ from if_pos (.inl ⟨rfl, rfl, rfl⟩)] at kP
  simp only [hi0, lo0] at kP
  generalize (M.fm f).pk ⟨1, ng, 0, 0⟩ = Y at *
  generalize decide ((M.fm f).Proper ⟨1, ng, 0, 0⟩) = ok at *
  have hfd := fld_desc
  have b0 : Below w.heap.size w (w.alloc (.cells #[.int .u64 0, .int .u64 0, .int .i64 0, .bool false] 39)) := (Below.refl _ _).alloc (Nat.le_refl _) _
  have hR : Cls (w.alloc (.cells #[.int .u64 0, .int .u64 0, .int .i64 0, .bool false] 39)) w.heap.size #[.int .u64 0, .int .u64 0, .int .i64 0, .bool false] 39 := Cls.new _ _ _
  generalize hV : (w.alloc (.cells #[.int .u64 0, .int .u64 0, .int .i64 0, .bool false] 39)) = v0 at *
  go_enter Tryd.func16, Tryd.ntmps16
  go_upto_region 1 with fail
  clear hV
  go_wp2_with fail
  refine (kE _).mono ?_
  rintro e v1 ⟨rfl, hb1⟩
  replace b0 := b0.trans (hb1.mono b0.size)
  replace hR := hR.below hb1
  clear hb1
  go_wp2_with fail
  refine (kf _).mono ?_
  rintro e v2 ⟨rfl, rfl⟩
  go_wp2_with fail
  refine (kg _).mono ?_
  rintro e v3 ⟨rfl, rfl⟩
  replace hr := hr.below b0
  replace hr2 := hr2.below b0
  go_wp2_with fail
  refine (l1In_any ao n c xs _ hl (by omega) hx hr).mono ?_
  rintro e v4 ⟨a1, c1, rfl, o1, hb4⟩
  replace hr2 := hr2.below hb4
  replace b0 := b0.trans (hb4.mono b0.size)
  replace hR := hR.below hb4
  clear hb4
  go_wp2_with fail
  refine (l1In_any bo m d ys _ hm (by omega) hy hr2).mono ?_
  rintro e v5 ⟨a2, c2, rfl, o2, hb5⟩
  replace o1 := own_below o1 hb5
  replace b0 := b0.trans (hb5.mono b0.size)
  replace hR := hR.below hb5
  clear hb5 hr hr2
  go_wp2_with fail
  refine (kP _).mono ?_
  rintro e v6 ⟨rfl, hb6⟩
  replace b0 := b0.trans (hb6.mono b0.size)
  replace hR := hR.below hb6
  clear hb6
  have lw := hR.lt
  go_upto_region 9 with fail
  have hW : Cls (v6.alloc (.cells #[.int .u64 (M.hiN Y : Int), .int .u64 (M.loN Y : Int)] 25)) v6.heap.size #[.int .u64 (M.hiN Y : Int), .int .u64 (M.loN Y : Int)] 25 := Cls.new _ _ _
  have bA : Below v6.heap.size v6 (v6.alloc (.cells #[.int .u64 (M.hiN Y : Int), .int .u64 (M.loN Y : Int)] 25)) := (Below.refl _ _).alloc (Nat.le_refl _) _
  replace b0 := b0.trans (bA.mono b0.size)
  replace hR := hR.below bA
  clear bA
  generalize (v6.alloc (.cells #[.int .u64 (M.hiN Y : Int), .int .u64 (M.loN Y : Int)] 25)) = v7 at *
  generalize v6.heap.size = gw at *
  have y0 := hW.cell 0 rfl
  have y1 := hW.cell 1 rfl
  have r0 := hR.cell 0 rfl
  have s0 := hR.frozen 0
  have r1 := hR.cell 1 rfl
  have s1 := hR.frozen 1
  have r2 := hR.cell 2 rfl
  have s2 := hR.frozen 2
  have r3 := hR.cell 3 rfl
  have s3 := hR.frozen 3
  go_wp2_with fail
  have R5 := Cls.set (Cls.set (Cls.set (Cls.set (hR) 0 (.int .u64 (M.hiN Y : Int)) _ rfl) 1 (.int .u64 (M.loN Y : Int)) _ rfl) 2 (.int .i64 0) _ rfl) 3 (.bool true) #[.int .u64 (M.hiN Y : Int), .int .u64 (M.loN Y : Int), .int .i64 0, .bool true] rfl
  have B5 := ((((b0).setCell (p := ⟨w.heap.size, 0, none⟩) (Nat.le_refl _) (.int .u64 (M.hiN Y : Int))).setCell (p := ⟨w.heap.size, 1, none⟩) (Nat.le_refl _) (.int .u64 (M.loN Y : Int))).setCell (p := ⟨w.heap.size, 2, none⟩) (Nat.le_refl _) (.int .i64 0)).setCell (p := ⟨w.heap.size, 3, none⟩) (Nat.le_refl _) (.bool true)
  generalize ((((v7.setCell ⟨w.heap.size, 0, none⟩ (.int .u64 (M.hiN Y : Int))).setCell ⟨w.heap.size, 1, none⟩ (.int .u64 (M.loN Y : Int))).setCell ⟨w.heap.size, 2, none⟩ (.int .i64 0)).setCell ⟨w.heap.size, 3, none⟩ (.bool true)) = Yw at R5 B5 ⊢
  have q0 := R5.cell 0 rfl
  have q1 := R5.cell 1 rfl
  have q2 := R5.cell 2 rfl
  have q3 := R5.cell 3 rfl
  exact bodyPost_ret (v := .agg #[.int .u64 (M.hiN Y : Int), .int .u64 (M.loN Y : Int), .int .i64 0, .bool true]) (by simp [results, Tryd.results16, go_sem, q0, q1, q2, q3]) rfl ⟨rfl, B5⟩

set_option maxRecDepth 100000 in
set_option maxHeartbeats 4000000 in
theorem srr_pos (f : Nat) (hf : f < 4) (ng : Bool) (ao bo : Option Addr) (n m c d : Nat) (xs ys : List Nat) (w : World) (hl : xs.length = n) (hm : ys.length = m) (hc : n ≤ c) (hd : m ≤ d) (hn : n ≤ 1048576) (hn2 : m ≤ 1048576) (hx : F64 xs) (hy : F64 ys) (hr : Rd w ao xs) (hr2 : Rd w bo ys) (h1 : n ≤ 1200) (h2 : m ≤ 1200) (h3 : 0 < V ys) (h4 : 0 < V xs) :
    Calls Tryd.prog 16 #[.int .i64 (f : Int), .bool ng, .slice ao n c, .slice bo m d] w fun e w' => e = .returned (.agg #[.int .u64 (M.hiN ((M.fm f).pk ((M.fm f).rPt ng (V xs) (V ys))) : Int), .int .u64 (M.loN ((M.fm f).pk ((M.fm f).rPt ng (V xs) (V ys))) : Int), .int .i64 ((M.fm f).rFl (V xs) (V ys) 2 1), .bool true]) ∧ Below w.heap.size w w' := by
  have kE := fun v : World => sdescribe_ok f hf v
  have h := M.fm_ok f
  have p1 := h.p1
  have hne : (((M.fm f).p : Int) == 0) = false := by simp; omega
  simp only [dv] at kE
  have kf := fun v : World => l1Fits_any ao n c v (by omega)
  have kg := fun v : World => l1Fits_any bo m d v (by omega)
  rw [decide_eq_true h1] at kf
  rw [decide_eq_true h2] at kg
  have hz := D_zero_eq (V ys)
  rw [decide_eq_false (show ¬ V ys = 0 by omega)] at hz
  have hz2 := D_zero_eq (V xs)
  rw [decide_eq_false (show ¬ V xs = 0 by omega)] at hz2
  have ld1 := D_len xs hx
  have ld2 := D_len ys hy
  have kR := fun (v : World) (a b : Option Addr) (c d : Nat) (hc : (D (V xs)).length ≤ c) (ra : Rd v a (D (V xs))) (rb : Rd v b (D (V ys))) => sround_pos f hf ng a b c d (V xs) (V ys) v h4 h3 (by omega) (by omega) hc ra rb
  generalize (M.fm f).pk ((M.fm f).rPt ng (V xs) (V ys)) = Y at *
  generalize (M.fm f).rFl (V xs) (V ys) 2 1 = FL at *
  have hfd := fld_desc
  have b0 : Below w.heap.size w (w.alloc (.cells #[.int .u64 0, .int .u64 0, .int .i64 0, .bool false] 39)) := (Below.refl _ _).alloc (Nat.le_refl _) _
  have hR : Cls (w.alloc (.cells #[.int .u64 0, .int .u64 0, .int .i64 0, .bool false] 39)) w.heap.size #[.int .u64 0, .int .u64 0, .int .i64 0, .bool false] 39 := Cls.new _ _ _
  generalize hV : (w.alloc (.cells #[.int .u64 0, .int .u64 0, .int .i64 0, .bool false] 39)) = v0 at *
  go_enter Tryd.func16, Tryd.ntmps16
  go_upto_region 1 with fail
  clear hV
  go_wp2_with fail
  refine (kE _).mono ?_
  rintro e v1 ⟨rfl, hb1⟩
  replace b0 := b0.trans (hb1.mono b0.size)
  replace hR := hR.below hb1
  clear hb1
  go_wp2_with fail
  refine (kf _).mono ?_
  rintro e v2 ⟨rfl, rfl⟩
  go_wp2_with fail
  refine (kg _).mono ?_
  rintro e v3 ⟨rfl, rfl⟩
  replace hr := hr.below b0
  replace hr2 := hr2.below b0
  go_wp2_with fail
  refine (l1In_any ao n c xs _ hl (by omega) hx hr).mono ?_
  rintro e v4 ⟨a1, c1, rfl, o1, hb4⟩
  replace hr2 := hr2.below hb4
  replace b0 := b0.trans (hb4.mono b0.size)
  replace hR := hR.below hb4
  clear hb4
  go_wp2_with fail
  refine (l1In_any bo m d ys _ hm (by omega) hy hr2).mono ?_
  rintro e v5 ⟨a2, c2, rfl, o2, hb5⟩
  replace o1 := own_below o1 hb5
  replace b0 := b0.trans (hb5.mono b0.size)
  replace hR := hR.below hb5
  clear hb5 hr hr2
  go_wp2_with fail
  refine (kR _ _ _ _ _ (own_cap o1) (Rd.own o1) (Rd.own o2)).mono ?_
  rintro e v6 ⟨rfl, hb6⟩
  replace b0 := b0.trans (hb6.mono b0.size)
  replace hR := hR.below hb6
  have r0 := hR.cell 0 rfl
  have s0 := hR.frozen 0
  have r1 := hR.cell 1 rfl
  have s1 := hR.frozen 1
  have r2 := hR.cell 2 rfl
  have s2 := hR.frozen 2
  have r3 := hR.cell 3 rfl
  have s3 := hR.frozen 3
  go_wp2_with fail
  have R5 := Cls.set (Cls.set (Cls.set (Cls.set (hR) 0 (.int .u64 (M.hiN Y : Int)) _ rfl) 1 (.int .u64 (M.loN Y : Int)) _ rfl) 2 (.int .i64 FL) _ rfl) 3 (.bool true) #[.int .u64 (M.hiN Y : Int), .int .u64 (M.loN Y : Int), .int .i64 FL, .bool true] rfl
  have B5 := ((((b0).setCell (p := ⟨w.heap.size, 0, none⟩) (Nat.le_refl _) (.int .u64 (M.hiN Y : Int))).setCell (p := ⟨w.heap.size, 1, none⟩) (Nat.le_refl _) (.int .u64 (M.loN Y : Int))).setCell (p := ⟨w.heap.size, 2, none⟩) (Nat.le_refl _) (.int .i64 FL)).setCell (p := ⟨w.heap.size, 3, none⟩) (Nat.le_refl _) (.bool true)
  generalize ((((v6.setCell ⟨w.heap.size, 0, none⟩ (.int .u64 (M.hiN Y : Int))).setCell ⟨w.heap.size, 1, none⟩ (.int .u64 (M.loN Y : Int))).setCell ⟨w.heap.size, 2, none⟩ (.int .i64 FL)).setCell ⟨w.heap.size, 3, none⟩ (.bool true)) = Yw at R5 B5 ⊢
  have q0 := R5.cell 0 rfl
  have q1 := R5.cell 1 rfl
  have q2 := R5.cell 2 rfl
  have q3 := R5.cell 3 rfl
  exact bodyPost_ret (v := .agg #[.int .u64 (M.hiN Y : Int), .int .u64 (M.loN Y : Int), .int .i64 FL, .bool true]) (by simp [results, Tryd.results16, go_sem, q0, q1, q2, q3]) rfl ⟨rfl, B5⟩

set_option maxRecDepth 100000 in
set_option maxHeartbeats 4000000 in
theorem irr_no (f : Int) (hf : f < 0 ∨ 4 ≤ f) (ng : Bool) (ao bo : Option Addr) (n m c d : Nat) (xs ys : List Nat) (w : World) (hl : xs.length = n) (hm : ys.length = m) (hc : n ≤ c) (hd : m ≤ d) (hn : n ≤ 1048576) (hn2 : m ≤ 1048576) (hx : F64 xs) (hy : F64 ys) (hr : Rd w ao xs) (hr2 : Rd w bo ys) :
    Calls Tryd.prog 18 #[.int .i64 f, .bool ng, .slice ao n c, .slice bo m d] w fun e w' => e = .returned (.agg #[.int .u64 0, .int .u64 0, .int .i64 0, .bool false]) ∧ Below w.heap.size w w' := by
  have kt := fun (v : World) (hr : Rd v bo ys) => trim_any bo m d ys v hm hd (by omega) hy hr
  have kK := fun v : World => dKnown0 v
  have b0 : Below w.heap.size w (w.alloc (.cells #[.int .u64 0, .int .u64 0, .int .i64 0, .bool false] 39)) := (Below.refl _ _).alloc (Nat.le_refl _) _
  have hR : Cls (w.alloc (.cells #[.int .u64 0, .int .u64 0, .int .i64 0, .bool false] 39)) w.heap.size #[.int .u64 0, .int .u64 0, .int .i64 0, .bool false] 39 := Cls.new _ _ _
  generalize hV : (w.alloc (.cells #[.int .u64 0, .int .u64 0, .int .i64 0, .bool false] 39)) = v0 at *
  go_enter Tryd.func18, Tryd.ntmps18
  go_upto_region 1 with fail
  clear hV
  go_wp2_with fail
  refine (describeNo f _ hf).mono ?_
  rintro e v1 ⟨rfl, hb1⟩
  replace b0 := b0.trans (hb1.mono b0.size)
  replace hR := hR.below hb1
  clear hb1
  have lw := hR.lt
  go_upto_region 2 with fail
  have hD : Cls (v1.alloc (.cells #[.int .i64 0, .int .i64 0, .int .i64 0, .int .i64 0, .int .i64 0, .bool false] 56)) v1.heap.size #[.int .i64 0, .int .i64 0, .int .i64 0, .int .i64 0, .int .i64 0, .bool false] 56 := Cls.new _ _ _
  have bA : Below v1.heap.size v1 (v1.alloc (.cells #[.int .i64 0, .int .i64 0, .int .i64 0, .int .i64 0, .int .i64 0, .bool false] 56)) := (Below.refl _ _).alloc (Nat.le_refl _) _
  replace b0 := b0.trans (bA.mono b0.size)
  replace hR := hR.below bA
  clear bA
  generalize (v1.alloc (.cells #[.int .i64 0, .int .i64 0, .int .i64 0, .int .i64 0, .int .i64 0, .bool false] 56)) = v2 at *
  generalize v1.heap.size = gd at *
  replace hr := hr.below b0
  replace hr2 := hr2.below b0
  go_wp2_with fail
  refine (kt _ hr2).mono ?_
  rintro e v3 ⟨rfl, rfl⟩
  have d0 := hD.cell 0 rfl
  have d1 := hD.cell 1 rfl
  have d2 := hD.cell 2 rfl
  have d3 := hD.cell 3 rfl
  have d4 := hD.cell 4 rfl
  have d5 := hD.cell 5 rfl
  go_wp2_with fail
  refine (kK _).mono ?_
  rintro e v4 ⟨rfl, hb4⟩
  replace hr := hr.below hb4
  replace hr2 := hr2.below hb4
  replace hD := hD.below hb4
  replace b0 := b0.trans (hb4.mono b0.size)
  replace hR := hR.below hb4
  clear hb4 d0 d1 d2 d3 d4 d5
  have r0 := hR.cell 0 rfl
  have s0 := hR.frozen 0
  have r1 := hR.cell 1 rfl
  have s1 := hR.frozen 1
  have r2 := hR.cell 2 rfl
  have s2 := hR.frozen 2
  have r3 := hR.cell 3 rfl
  have s3 := hR.frozen 3
  go_wp2_with fail
  have R5 := Cls.set (Cls.set (Cls.set (Cls.set (hR) 0 (.int .u64 0) _ rfl) 1 (.int .u64 0) _ rfl) 2 (.int .i64 0) _ rfl) 3 (.bool false) #[.int .u64 0, .int .u64 0, .int .i64 0, .bool false] rfl
  have B5 := ((((b0).setCell (p := ⟨w.heap.size, 0, none⟩) (Nat.le_refl _) (.int .u64 0)).setCell (p := ⟨w.heap.size, 1, none⟩) (Nat.le_refl _) (.int .u64 0)).setCell (p := ⟨w.heap.size, 2, none⟩) (Nat.le_refl _) (.int .i64 0)).setCell (p := ⟨w.heap.size, 3, none⟩) (Nat.le_refl _) (.bool false)
  generalize ((((v4.setCell ⟨w.heap.size, 0, none⟩ (.int .u64 0)).setCell ⟨w.heap.size, 1, none⟩ (.int .u64 0)).setCell ⟨w.heap.size, 2, none⟩ (.int .i64 0)).setCell ⟨w.heap.size, 3, none⟩ (.bool false)) = Yw at R5 B5 ⊢
  have q0 := R5.cell 0 rfl
  have q1 := R5.cell 1 rfl
  have q2 := R5.cell 2 rfl
  have q3 := R5.cell 3 rfl
  exact bodyPost_ret (v := .agg #[.int .u64 0, .int .u64 0, .int .i64 0, .bool false]) (by simp [results, Tryd.results18, go_sem, q0, q1, q2, q3]) rfl ⟨rfl, B5⟩

set_option maxRecDepth 100000 in
set_option maxHeartbeats 4000000 in
theorem irr_long (f : Nat) (hf : f < 4) (ng : Bool) (ao bo : Option Addr) (n m c d : Nat) (xs ys : List Nat) (w : World) (hl : xs.length = n) (hm : ys.length = m) (hc : n ≤ c) (hd : m ≤ d) (hn : n ≤ 1048576) (hn2 : m ≤ 1048576) (hx : F64 xs) (hy : F64 ys) (hr : Rd w ao xs) (hr2 : Rd w bo ys) (hF : Fmt w) (h1 : ¬ (n ≤ 1200 ∧ m ≤ 1200)) :
    Calls Tryd.prog 18 #[.int .i64 (f : Int), .bool ng, .slice ao n c, .slice bo m d] w fun e w' => e = .returned (.agg #[.int .u64 0, .int .u64 0, .int .i64 0, .bool false]) ∧ Below w.heap.size w w' := by
  have kt := fun (v : World) (hr : Rd v bo ys) => trim_any bo m d ys v hm hd (by omega) hy hr
  have kE := fun (v : World) (hv : Fmt v) => describe_ok f hf v hv
  have h := M.fm_ok f
  generalize M.fm f = F at *
  have kK := fun v : World => dKnown F h v
  simp only [dv] at kE kK
  have hall : Hid (false = [n, m].all (fun x => decide (x ≤ 1200))) := by
    show false = [n, m].all (fun x => decide (x ≤ 1200))
    simp only [List.all_cons, List.all_nil, Bool.and_true]; symm; rw [Bool.and_eq_false_iff]; simp only [decide_eq_false_iff_not]; omega
  have b0 : Below w.heap.size w (w.alloc (.cells #[.int .u64 0, .int .u64 0, .int .i64 0, .bool false] 39)) := (Below.refl _ _).alloc (Nat.le_refl _) _
  have hR : Cls (w.alloc (.cells #[.int .u64 0, .int .u64 0, .int .i64 0, .bool false] 39)) w.heap.size #[.int .u64 0, .int .u64 0, .int .i64 0, .bool false] 39 := Cls.new _ _ _
  generalize hV : (w.alloc (.cells #[.int .u64 0, .int .u64 0, .int .i64 0, .bool false] 39)) = v0 at *
  go_enter Tryd.func18, Tryd.ntmps18
  go_upto_region 1 with fail
  clear hV
  go_wp2_with fail
  refine (kE _ (hF.below b0)).mono ?_
  rintro e v1 ⟨rfl, hb1⟩
  replace b0 := b0.trans (hb1.mono b0.size)
  replace hR := hR.below hb1
  clear hb1
  have lw := hR.lt
  go_upto_region 2 with fail
  have hD : Cls (v1.alloc (.cells #[.int .i64 (F.p : Int), .int .i64 (1 - (F.emax : Int)), .int .i64 (F.emax : Int), .int .i64 (F.wd : Int), .int .i64 (F.e : Int), .bool F.x] 56)) v1.heap.size #[.int .i64 (F.p : Int), .int .i64 (1 - (F.emax : Int)), .int .i64 (F.emax : Int), .int .i64 (F.wd : Int), .int .i64 (F.e : Int), .bool F.x] 56 := Cls.new _ _ _
  have bA : Below v1.heap.size v1 (v1.alloc (.cells #[.int .i64 (F.p : Int), .int .i64 (1 - (F.emax : Int)), .int .i64 (F.emax : Int), .int .i64 (F.wd : Int), .int .i64 (F.e : Int), .bool F.x] 56)) := (Below.refl _ _).alloc (Nat.le_refl _) _
  replace b0 := b0.trans (bA.mono b0.size)
  replace hR := hR.below bA
  clear bA
  generalize (v1.alloc (.cells #[.int .i64 (F.p : Int), .int .i64 (1 - (F.emax : Int)), .int .i64 (F.emax : Int), .int .i64 (F.wd : Int), .int .i64 (F.e : Int), .bool F.x] 56)) = v2 at *
  generalize v1.heap.size = gd at *
  replace hr := hr.below b0
  replace hr2 := hr2.below b0
  go_wp2_with fail
  refine (kt _ hr2).mono ?_
  rintro e v3 ⟨rfl, rfl⟩
  have d0 := hD.cell 0 rfl
  have d1 := hD.cell 1 rfl
  have d2 := hD.cell 2 rfl
  have d3 := hD.cell 3 rfl
  have d4 := hD.cell 4 rfl
  have d5 := hD.cell 5 rfl
  go_wp2_with fail
  refine (kK _).mono ?_
  rintro e v4 ⟨rfl, hb4⟩
  replace hr := hr.below hb4
  replace hr2 := hr2.below hb4
  replace hD := hD.below hb4
  replace b0 := b0.trans (hb4.mono b0.size)
  replace hR := hR.below hb4
  clear hb4 d0 d1 d2 d3 d4 d5
  go_wp2_with fail
  refine (short_any _ 2 [n, m] false _ rfl (by omega) (by simp; omega) hall.out (two_cells _ _ _ _ _ _ _ _)).mono ?_
  rintro e v5 ⟨rfl, hv5⟩
  have hb5 : Below v4.heap.size v4 v5 := by rw [hv5]; exact (Below.refl _ _).alloc (Nat.le_refl _) _
  clear hv5
  replace hr := hr.below hb5
  replace hr2 := hr2.below hb5
  replace hD := hD.below hb5
  replace b0 := b0.trans (hb5.mono b0.size)
  replace hR := hR.below hb5
  clear hb5
  have r0 := hR.cell 0 rfl
  have s0 := hR.frozen 0
  have r1 := hR.cell 1 rfl
  have s1 := hR.frozen 1
  have r2 := hR.cell 2 rfl
  have s2 := hR.frozen 2
  have r3 := hR.cell 3 rfl
  have s3 := hR.frozen 3
  go_wp2_with fail
  have R5 := Cls.set (Cls.set (Cls.set (Cls.set (hR) 0 (.int .u64 0) _ rfl) 1 (.int .u64 0) _ rfl) 2 (.int .i64 0) _ rfl) 3 (.bool false) #[.int .u64 0, .int .u64 0, .int .i64 0, .bool false] rfl
  have B5 := ((((b0).setCell (p := ⟨w.heap.size, 0, none⟩) (Nat.le_refl _) (.int .u64 0)).setCell (p := ⟨w.heap.size, 1, none⟩) (Nat.le_refl _) (.int .u64 0)).setCell (p := ⟨w.heap.size, 2, none⟩) (Nat.le_refl _) (.int .i64 0)).setCell (p := ⟨w.heap.size, 3, none⟩) (Nat.le_refl _) (.bool false)
  generalize ((((v5.setCell ⟨w.heap.size, 0, none⟩ (.int .u64 0)).setCell ⟨w.heap.size, 1, none⟩ (.int .u64 0)).setCell ⟨w.heap.size, 2, none⟩ (.int .i64 0)).setCell ⟨w.heap.size, 3, none⟩ (.bool false)) = Yw at R5 B5 ⊢
  have q0 := R5.cell 0 rfl
  have q1 := R5.cell 1 rfl
  have q2 := R5.cell 2 rfl
  have q3 := R5.cell 3 rfl
  exact bodyPost_ret (v := .agg #[.int .u64 0, .int .u64 0, .int .i64 0, .bool false]) (by simp [results, Tryd.results18, go_sem, q0, q1, q2, q3]) rfl ⟨rfl, B5⟩

set_option maxRecDepth 100000 in
set_option maxHeartbeats 4000000 in
theorem irr_den0 (f : Nat) (hf : f < 4) (ng : Bool) (ao bo : Option Addr) (n m c d : Nat) (xs ys : List Nat) (w : World) (hl : xs.length = n) (hm : ys.length = m) (hc : n ≤ c) (hd : m ≤ d) (hn : n ≤ 1048576) (hn2 : m ≤ 1048576) (hx : F64 xs) (hy : F64 ys) (hr : Rd w ao xs) (hr2 : Rd w bo ys) (hF : Fmt w) (h1 : n ≤ 1200) (h2 : m ≤ 1200) (h3 : V ys = 0) :
    Calls Tryd.prog 18 #[.int .i64 (f : Int), .bool ng, .slice ao n c, .slice bo m d] w fun e w' => e = .returned (.agg #[.int .u64 0, .int .u64 0, .int .i64 0, .bool false]) ∧ Below w.heap.size w w' := by
  have kt := fun (v : World) (hr : Rd v bo ys) => trim_any bo m d ys v hm hd (by omega) hy hr
  have kE := fun (v : World) (hv : Fmt v) => describe_ok f hf v hv
  have h := M.fm_ok f
  generalize M.fm f = F at *
  have kK := fun v : World => dKnown F h v
  simp only [dv] at kE kK
  have hz := L_zero_iff (V ys)
  rw [decide_eq_true h3] at hz
  have H3 := hid h3; clear h3
  have hall : Hid (true = [n, m].all (fun x => decide (x ≤ 1200))) := by
    show true = [n, m].all (fun x => decide (x ≤ 1200))
    simp [h1, h2]
  have b0 : Below w.heap.size w (w.alloc (.cells #[.int .u64 0, .int .u64 0, .int .i64 0, .bool false] 39)) := (Below.refl _ _).alloc (Nat.le_refl _) _
  have hR : Cls (w.alloc (.cells #[.int .u64 0, .int .u64 0, .int .i64 0, .bool false] 39)) w.heap.size #[.int .u64 0, .int .u64 0, .int .i64 0, .bool false] 39 := Cls.new _ _ _
  generalize hV : (w.alloc (.cells #[.int .u64 0, .int .u64 0, .int .i64 0, .bool false] 39)) = v0 at *
  go_enter Tryd.func18, Tryd.ntmps18
  go_upto_region 1 with fail
  clear hV
  go_wp2_with fail
  refine (kE _ (hF.below b0)).mono ?_
  rintro e v1 ⟨rfl, hb1⟩
  replace b0 := b0.trans (hb1.mono b0.size)
  replace hR := hR.below hb1
  clear hb1
  have lw := hR.lt
  go_upto_region 2 with fail
  have hD : Cls (v1.alloc (.cells #[.int .i64 (F.p : Int), .int .i64 (1 - (F.emax : Int)), .int .i64 (F.emax : Int), .int .i64 (F.wd : Int), .int .i64 (F.e : Int), .bool F.x] 56)) v1.heap.size #[.int .i64 (F.p : Int), .int .i64 (1 - (F.emax : Int)), .int .i64 (F.emax : Int), .int .i64 (F.wd : Int), .int .i64 (F.e : Int), .bool F.x] 56 := Cls.new _ _ _
  have bA : Below v1.heap.size v1 (v1.alloc (.cells #[.int .i64 (F.p : Int), .int .i64 (1 - (F.emax : Int)), .int .i64 (F.emax : Int), .int .i64 (F.wd : Int), .int .i64 (F.e : Int), .bool F.x] 56)) := (Below.refl _ _).alloc (Nat.le_refl _) _
  replace b0 := b0.trans (bA.mono b0.size)
  replace hR := hR.below bA
  clear bA
  generalize (v1.alloc (.cells #[.int .i64 (F.p : Int), .int .i64 (1 - (F.emax : Int)), .int .i64 (F.emax : Int), .int .i64 (F.wd : Int), .int .i64 (F.e : Int), .bool F.x] 56)) = v2 at *
  generalize v1.heap.size = gd at *
  replace hr := hr.below b0
  replace hr2 := hr2.below b0
  go_wp2_with fail
  refine (kt _ hr2).mono ?_
  rintro e v3 ⟨rfl, rfl⟩
  have d0 := hD.cell 0 rfl
  have d1 := hD.cell 1 rfl
  have d2 := hD.cell 2 rfl
  have d3 := hD.cell 3 rfl
  have d4 := hD.cell 4 rfl
  have d5 := hD.cell 5 rfl
  go_wp2_with fail
  refine (kK _).mono ?_
  rintro e v4 ⟨rfl, hb4⟩
  replace hr := hr.below hb4
  replace hr2 := hr2.below hb4
  replace hD := hD.below hb4
  replace b0 := b0.trans (hb4.mono b0.size)
  replace hR := hR.below hb4
  clear hb4 d0 d1 d2 d3 d4 d5
  go_wp2_with fail
  refine (short_any _ 2 [n, m] true _ rfl (by omega) (by simp; omega) hall.out (two_cells _ _ _ _ _ _ _ _)).mono ?_
  rintro e v5 ⟨rfl, hv5⟩
  have hb5 : Below v4.heap.size v4 v5 := by rw [hv5]; exact (Below.refl _ _).alloc (Nat.le_refl _) _
  clear hv5
  replace hr := hr.below hb5
  replace hr2 := hr2.below hb5
  replace hD := hD.below hb5
  replace b0 := b0.trans (hb5.mono b0.size)
  replace hR := hR.below hb5
  clear hb5
  have r0 := hR.cell 0 rfl
  have s0 := hR.frozen 0
  have r1 := hR.cell 1 rfl
  have s1 := hR.frozen 1
  have r2 := hR.cell 2 rfl
  have s2 := hR.frozen 2
  have r3 := hR.cell 3 rfl
  have s3 := hR.frozen 3
  go_wp2_with fail
  have R5 := Cls.set (Cls.set (Cls.set (Cls.set (hR) 0 (.int .u64 0) _ rfl) 1 (.int .u64 0) _ rfl) 2 (.int .i64 0) _ rfl) 3 (.bool false) #[.int .u64 0, .int .u64 0, .int .i64 0, .bool false] rfl
  have B5 := ((((b0).setCell (p := ⟨w.heap.size, 0, none⟩) (Nat.le_refl _) (.int .u64 0)).setCell (p := ⟨w.heap.size, 1, none⟩) (Nat.le_refl _) (.int .u64 0)).setCell (p := ⟨w.heap.size, 2, none⟩) (Nat.le_refl _) (.int .i64 0)).setCell (p := ⟨w.heap.size, 3, none⟩) (Nat.le_refl _) (.bool false)
  generalize ((((v5.setCell ⟨w.heap.size, 0, none⟩ (.int .u64 0)).setCell ⟨w.heap.size, 1, none⟩ (.int .u64 0)).setCell ⟨w.heap.size, 2, none⟩ (.int .i64 0)).setCell ⟨w.heap.size, 3, none⟩ (.bool false)) = Yw at R5 B5 ⊢
  have q0 := R5.cell 0 rfl
  have q1 := R5.cell 1 rfl
  have q2 := R5.cell 2 rfl
  have q3 := R5.cell 3 rfl
  exact bodyPost_ret (v := .agg #[.int .u64 0, .int .u64 0, .int .i64 0, .bool false]) (by simp [results, Tryd.results18, go_sem, q0, q1, q2, q3]) rfl ⟨rfl, B5⟩

set_option maxRecDepth 100000 in
set_option maxHeartbeats 4000000 in
theorem irr_pos (f : Nat) (hf : f < 4) (ng : Bool) (ao bo : Option Addr) (n m c d : Nat) (xs ys : List Nat) (w : World) (hl : xs.length = n) (hm : ys.length = m) (hc : n ≤ c) (hd : m ≤ d) (hn : n ≤ 1048576) (hn2 : m ≤ 1048576) (hx : F64 xs) (hy : F64 ys) (hr : Rd w ao xs) (hr2 : Rd w bo ys) (hF : Fmt w) (h1 : n ≤ 1200) (h2 : m ≤ 1200) (h3 : 0 < V ys) :
    Calls Tryd.prog 18 #[.int .i64 (f : Int), .bool ng, .slice ao n c, .slice bo m d] w fun e w' => e = .returned (.agg #[.int .u64 (M.hiN (rY (M.fm f) ng (V xs) (V ys)) : Int), .int .u64 (M.loN (rY (M.fm f) ng (V xs) (V ys)) : Int), .int .i64 (rF (M.fm f) (V xs) (V ys)), .bool true]) ∧ Below w.heap.size w w' := by
  have kt := fun (v : World) (hr : Rd v bo ys) => trim_any bo m d ys v hm hd (by omega) hy hr
  have kt2 := fun (v : World) (hr : Rd v ao xs) => trim_any ao n c xs v hl hc (by omega) hx hr
  have ll1 := L_len xs hx
  have ll2 := L_len ys hy
  have kE := fun (v : World) (hv : Fmt v) => describe_ok f hf v hv
  have h := M.fm_ok f
  generalize M.fm f = F at *
  have kK := fun v : World => dKnown F h v
  have kR := fun (v : World) (ra : Rd v ao (L (V xs))) (rb : Rd v bo (L (V ys))) => iround_any F h ng ao bo c d (V xs) (V ys) v h3 (by omega) (by omega) ra rb
  simp only [dv, rv] at kE kK kR
  generalize rY F ng (V xs) (V ys) = Y at *
  generalize rF F (V xs) (V ys) = FL at *
  have hz := L_zero_iff (V ys)
  rw [decide_eq_false (show ¬ V ys = 0 by omega)] at hz
  have hall : Hid (true = [n, m].all (fun x => decide (x ≤ 1200))) := by
    show true = [n, m].all (fun x => decide (x ≤ 1200))
    simp [h1, h2]
  have b0 : Below w.heap.size w (w.alloc (.cells #[.int .u64 0, .int .u64 0, .int .i64 0, .bool false] 39)) := (Below.refl _ _).alloc (Nat.le_refl _) _
  have hR : Cls (w.alloc (.cells #[.int .u64 0, .int .u64 0, .int .i64 0, .bool false] 39)) w.heap.size #[.int .u64 0, .int .u64 0, .int .i64 0, .bool false] 39 := Cls.new _ _ _
  generalize hV : (w.alloc (.cells #[.int .u64 0, .int .u64 0, .int .i64 0, .bool false] 39)) = v0 at *
  go_enter Tryd.func18, Tryd.ntmps18
  go_upto_region 1 with fail
  clear hV
  go_wp2_with fail
  refine (kE _ (hF.below b0)).mono ?_
  rintro e v1 ⟨rfl, hb1⟩
  replace b0 := b0.trans (hb1.mono b0.size)
  replace hR := hR.below hb1
  clear hb1
  have lw := hR.lt
  go_upto_region 2 with fail
  have hD : Cls (v1.alloc (.cells #[.int .i64 (F.p : Int), .int .i64 (1 - (F.emax : Int)), .int .i64 (F.emax : Int), .int .i64 (F.wd : Int), .int .i64 (F.e : Int), .bool F.x] 56)) v1.heap.size #[.int .i64 (F.p : Int), .int .i64 (1 - (F.emax : Int)), .int .i64 (F.emax : Int), .int .i64 (F.wd : Int), .int .i64 (F.e : Int), .bool F.x] 56 := Cls.new _ _ _
  have bA : Below v1.heap.size v1 (v1.alloc (.cells #[.int .i64 (F.p : Int), .int .i64 (1 - (F.emax : Int)), .int .i64 (F.emax : Int), .int .i64 (F.wd : Int), .int .i64 (F.e : Int), .bool F.x] 56)) := (Below.refl _ _).alloc (Nat.le_refl _) _
  replace b0 := b0.trans (bA.mono b0.size)
  replace hR := hR.below bA
  clear bA
  generalize (v1.alloc (.cells #[.int .i64 (F.p : Int), .int .i64 (1 - (F.emax : Int)), .int .i64 (F.emax : Int), .int .i64 (F.wd : Int), .int .i64 (F.e : Int), .bool F.x] 56)) = v2 at *
  generalize v1.heap.size = gd at *
  replace hr := hr.below b0
  replace hr2 := hr2.below b0
  go_wp2_with fail
  refine (kt _ hr2).mono ?_
  rintro e v3 ⟨rfl, rfl⟩
  have d0 := hD.cell 0 rfl
  have d1 := hD.cell 1 rfl
  have d2 := hD.cell 2 rfl
  have d3 := hD.cell 3 rfl
  have d4 := hD.cell 4 rfl
  have d5 := hD.cell 5 rfl
  go_wp2_with fail
  refine (kK _).mono ?_
  rintro e v4 ⟨rfl, hb4⟩
  replace hr := hr.below hb4
  replace hr2 := hr2.below hb4
  replace hD := hD.below hb4
  replace b0 := b0.trans (hb4.mono b0.size)
  replace hR := hR.below hb4
  clear hb4 d0 d1 d2 d3 d4 d5
  go_wp2_with fail
  refine (short_any _ 2 [n, m] true _ rfl (by omega) (by simp; omega) hall.out (two_cells _ _ _ _ _ _ _ _)).mono ?_
  rintro e v5 ⟨rfl, hv5⟩
  have hb5 : Below v4.heap.size v4 v5 := by rw [hv5]; exact (Below.refl _ _).alloc (Nat.le_refl _) _
  clear hv5
  replace hr := hr.below hb5
  replace hr2 := hr2.below hb5
  replace hD := hD.below hb5
  replace b0 := b0.trans (hb5.mono b0.size)
  replace hR := hR.below hb5
  clear hb5
  go_upto_region 5 with fail
  have A0 : Below v5.heap.size v5 v5.drew := (Below.refl _ _).drew
  have KB : ∀ v, Below v5.heap.size v5 v → (fun v => v.cell? ⟨gd, 0, none⟩ = some (.int .i64 (F.p : Int)) ∧ v.cell? ⟨gd, 1, none⟩ = some (.int .i64 (1 - (F.emax : Int))) ∧ v.cell? ⟨gd, 2, none⟩ = some (.int .i64 (F.emax : Int)) ∧ v.cell? ⟨gd, 3, none⟩ = some (.int .i64 (F.wd : Int)) ∧ v.cell? ⟨gd, 4, none⟩ = some (.int .i64 (F.e : Int)) ∧ v.cell? ⟨gd, 5, none⟩ = some (.bool F.x)) v := fun v hv => ⟨(hD.below hv).cell 0 rfl, (hD.below hv).cell 1 rfl, (hD.below hv).cell 2 rfl, (hD.below hv).cell 3 rfl, (hD.below hv).cell 4 rfl, (hD.below hv).cell 5 rfl⟩
  have KS : ∀ v x y z t, Below v5.heap.size v5 v → (fun v => v.cell? ⟨gd, 0, none⟩ = some (.int .i64 (F.p : Int)) ∧ v.cell? ⟨gd, 1, none⟩ = some (.int .i64 (1 - (F.emax : Int))) ∧ v.cell? ⟨gd, 2, none⟩ = some (.int .i64 (F.emax : Int)) ∧ v.cell? ⟨gd, 3, none⟩ = some (.int .i64 (F.wd : Int)) ∧ v.cell? ⟨gd, 4, none⟩ = some (.int .i64 (F.e : Int)) ∧ v.cell? ⟨gd, 5, none⟩ = some (.bool F.x)) ((((v.setCell ⟨w.heap.size, 0, none⟩ x).setCell ⟨w.heap.size, 1, none⟩ y).setCell ⟨w.heap.size, 2, none⟩ z).setCell ⟨w.heap.size, 3, none⟩ t) := fun v x y z t hv => by
    have hh := ((((hD.below hv).far ⟨w.heap.size, 0, none⟩ (by simp only; omega) x).far ⟨w.heap.size, 1, none⟩ (by simp only; omega) y).far ⟨w.heap.size, 2, none⟩ (by simp only; omega) z).far ⟨w.heap.size, 3, none⟩ (by simp only; omega) t
    exact ⟨hh.cell 0 rfl, hh.cell 1 rfl, hh.cell 2 rfl, hh.cell 3 rfl, hh.cell 4 rfl, hh.cell 5 rfl⟩
  go_region_held3 (fun v => v.cell? ⟨gd, 0, none⟩ = some (.int .i64 (F.p : Int)) ∧ v.cell? ⟨gd, 1, none⟩ = some (.int .i64 (1 - (F.emax : Int))) ∧ v.cell? ⟨gd, 2, none⟩ = some (.int .i64 (F.emax : Int)) ∧ v.cell? ⟨gd, 3, none⟩ = some (.int .i64 (F.wd : Int)) ∧ v.cell? ⟨gd, 4, none⟩ = some (.int .i64 (F.e : Int)) ∧ v.cell? ⟨gd, 5, none⟩ = some (.bool F.x)) (first | with_reducible exact KB _ hb2 | with_reducible exact KB _ A0 | with_reducible exact KS _ _ _ _ _ hb2)
    (first | (go_at_call 55; refine (kR _ ((hr.below A0).trim hx) ((hr2.below A0).trim hy)).mono ?_; rintro e u2 ⟨rfl, hb0⟩; have hb2 := keepC (w1 := v5) A0 hb0; clear hb0; have r0 := (hR.below hb2).cell 0 rfl; have r1 := (hR.below hb2).cell 1 rfl; have r2 := (hR.below hb2).cell 2 rfl; have r3 := (hR.below hb2).cell 3 rfl; have s0 := (hR.below hb2).frozen 0; have s1 := (hR.below hb2).frozen 1; have s2 := (hR.below hb2).frozen 2; have s3 := (hR.below hb2).frozen 3) | (go_at_call 52; refine (kt2 _ (hr.below A0)).mono ?_; rintro e u1 ⟨rfl, rfl⟩))
  all_goals replace hR := hR.below hb2
  all_goals replace b0 := b0.trans (hb2.mono b0.size)
  all_goals go_wp2_with fail
  all_goals (
    have R5 := Cls.set (Cls.set (Cls.set (Cls.set (hR) 0 (.int .u64 (M.hiN Y : Int)) _ rfl) 1 (.int .u64 (M.loN Y : Int)) _ rfl) 2 (.int .i64 FL) _ rfl) 3 (.bool true) #[.int .u64 (M.hiN Y : Int), .int .u64 (M.loN Y : Int), .int .i64 FL, .bool true] rfl
    have B5 := ((((b0).setCell (p := ⟨w.heap.size, 0, none⟩) (Nat.le_refl _) (.int .u64 (M.hiN Y : Int))).setCell (p := ⟨w.heap.size, 1, none⟩) (Nat.le_refl _) (.int .u64 (M.loN Y : Int))).setCell (p := ⟨w.heap.size, 2, none⟩) (Nat.le_refl _) (.int .i64 FL)).setCell (p := ⟨w.heap.size, 3, none⟩) (Nat.le_refl _) (.bool true)
    generalize ((((u2.setCell ⟨w.heap.size, 0, none⟩ (.int .u64 (M.hiN Y : Int))).setCell ⟨w.heap.size, 1, none⟩ (.int .u64 (M.loN Y : Int))).setCell ⟨w.heap.size, 2, none⟩ (.int .i64 FL)).setCell ⟨w.heap.size, 3, none⟩ (.bool true)) = Yw at R5 B5 ⊢
    have q0 := R5.cell 0 rfl
    have q1 := R5.cell 1 rfl
    have q2 := R5.cell 2 rfl
    have q3 := R5.cell 3 rfl
    exact bodyPost_ret (v := .agg #[.int .u64 (M.hiN Y : Int), .int .u64 (M.loN Y : Int), .int .i64 FL, .bool true]) (by simp [results, Tryd.results18, go_sem, q0, q1, q2, q3]) rfl ⟨rfl, B5⟩)

end Go.Proofs.YtehplfmnipadmaeDoor

namespace Go.Proofs.YtehplfmnipadmaeDoor
open Go.RowKit
set_option linter.unusedVariables false
set_option maxRecDepth 100000

theorem eqRounded_same (a b c : Int) (k : Bool) (w : World) :
    Calls Tryd.prog 19 #[.agg #[.int .u64 a, .int .u64 b, .int .i64 c, .bool k], .agg #[.int .u64 a, .int .u64 b, .int .i64 c, .bool k]] w fun r w' => r = .returned (.bool true) ∧ Below w.heap.size w w' := by
  have b0 := ((Below.refl w.heap.size w).alloc (Nat.le_refl _) (.cells #[.int .u64 a, .int .u64 b, .int .i64 c, .bool k] 39)).alloc (by simp) (.cells #[.int .u64 a, .int .u64 b, .int .i64 c, .bool k] 39)
  have hA : Cls ((w.alloc (.cells #[.int .u64 a, .int .u64 b, .int .i64 c, .bool k] 39)).alloc (.cells #[.int .u64 a, .int .u64 b, .int .i64 c, .bool k] 39)) w.heap.size #[.int .u64 a, .int .u64 b, .int .i64 c, .bool k] 39 := (Cls.new w _ _).below ((Below.refl _ _).alloc (Nat.le_refl _) _)
  have hB : Cls ((w.alloc (.cells #[.int .u64 a, .int .u64 b, .int .i64 c, .bool k] 39)).alloc (.cells #[.int .u64 a, .int .u64 b, .int .i64 c, .bool k] 39)) (w.heap.size + 1) #[.int .u64 a, .int .u64 b, .int .i64 c, .bool k] 39 := by
    have := Cls.new (w.alloc (.cells #[.int .u64 a, .int .u64 b, .int .i64 c, .bool k] 39)) #[.int .u64 a, .int .u64 b, .int .i64 c, .bool k] 39
    rwa [World.size_alloc] at this
  have n1 : (c != c) = false := by simp
  have n2 : (k != k) = false := by simp
  generalize hV : ((w.alloc (.cells #[.int .u64 a, .int .u64 b, .int .i64 c, .bool k] 39)).alloc (.cells #[.int .u64 a, .int .u64 b, .int .i64 c, .bool k] 39)) = v0 at *
  go_enter Tryd.func19, Tryd.ntmps19
  go_upto_region 1 with fail
  clear hV
  have a0 := hA.cell 0 rfl
  have a1 := hA.cell 1 rfl
  have c0 := hB.cell 0 rfl
  have c1 := hB.cell 1 rfl
  go_wp2_with fail
  refine (eqWord_same a b _).mono ?_
  rintro e v1 ⟨rfl, hb1⟩
  replace hA := hA.below hb1
  replace hB := hB.below hb1
  replace b0 := b0.trans (hb1.mono b0.size)
  clear a0 a1 c0 c1 hb1
  have a2 := hA.cell 2 rfl
  have a3 := hA.cell 3 rfl
  have c2 := hB.cell 2 rfl
  have c3 := hB.cell 3 rfl
  have HB := hid b0; clear b0
  go_wp2_with fail
  go_ret
  exact ⟨rfl, HB.out⟩

/-- Both sides answer alike. -/
theorem rr_both (z : Int) (ng : Bool) (n m : Nat) (xs ys : List Nat) (hl : xs.length = n) (hm : ys.length = m) (hn : n ≤ 1048576) (hn2 : m ≤ 1048576) (hx : F64 xs) (hy : F64 ys) :
    ∃ (a b c : Int) (k : Bool), (∀ (v : World) (ao bo : Option Addr) (cc dd : Nat), n ≤ cc → m ≤ dd → Rd v ao xs → Rd v bo ys → Calls Tryd.prog 16 #[.int .i64 z, .bool ng, .slice ao n cc, .slice bo m dd] v fun e w' => e = .returned (.agg #[.int .u64 a, .int .u64 b, .int .i64 c, .bool k]) ∧ Below v.heap.size v w') ∧
      (∀ (v : World) (ao bo : Option Addr) (cc dd : Nat), Fmt v → n ≤ cc → m ≤ dd → Rd v ao xs → Rd v bo ys → Calls Tryd.prog 18 #[.int .i64 z, .bool ng, .slice ao n cc, .slice bo m dd] v fun e w' => e = .returned (.agg #[.int .u64 a, .int .u64 b, .int .i64 c, .bool k]) ∧ Below v.heap.size v w') := by
  by_cases hf : z < 0 ∨ 4 ≤ z
  · exact ⟨0, 0, 0, false, fun v ao bo cc dd hc hd hr hr2 => srr_no z hf ng ao bo n m cc dd xs ys v hl hm hc hd hn hn2 hx hy hr hr2, fun v ao bo cc dd _ hc hd hr hr2 => irr_no z hf ng ao bo n m cc dd xs ys v hl hm hc hd hn hn2 hx hy hr hr2⟩
  · obtain ⟨f, rfl⟩ := Int.eq_ofNat_of_zero_le (show 0 ≤ z by omega)
    have hf4 : f < 4 := by omega
    by_cases h1 : n ≤ 1200
    · by_cases h2 : m ≤ 1200
      · by_cases h3 : V ys = 0
        · exact ⟨0, 0, 0, false, fun v ao bo cc dd hc hd hr hr2 => srr_den0 f hf4 ng ao bo n m cc dd xs ys v hl hm hc hd hn hn2 hx hy hr hr2 h1 h2 h3, fun v ao bo cc dd hF hc hd hr hr2 => irr_den0 f hf4 ng ao bo n m cc dd xs ys v hl hm hc hd hn hn2 hx hy hr hr2 hF h1 h2 h3⟩
        · refine ⟨_, _, _, _, ?_, fun v ao bo cc dd hF hc hd hr hr2 => irr_pos f hf4 ng ao bo n m cc dd xs ys v hl hm hc hd hn hn2 hx hy hr hr2 hF h1 h2 (by omega)⟩
          intro v ao bo cc dd hc hd hr hr2
          by_cases h4 : V xs = 0
          · have := srr_num0 f hf4 ng ao bo n m cc dd xs ys v hl hm hc hd hn hn2 hx hy hr hr2 h1 h2 (by omega) h4
            unfold rY rF
            rw [if_pos h4, if_pos h4]
            exact this
          · have := srr_pos f hf4 ng ao bo n m cc dd xs ys v hl hm hc hd hn hn2 hx hy hr hr2 h1 h2 (by omega) (by omega)
            unfold rY rF
            rw [if_neg h4, if_neg h4]
            exact this
      · exact ⟨0, 0, 0, false, fun v ao bo cc dd hc hd hr hr2 => srr_long2 f hf4 ng ao bo n m cc dd xs ys v hl hm hc hd hn hn2 hx hy hr hr2 h1 h2, fun v ao bo cc dd hF hc hd hr hr2 => irr_long f hf4 ng ao bo n m cc dd xs ys v hl hm hc hd hn hn2 hx hy hr hr2 hF (by omega)⟩
    · exact ⟨0, 0, 0, false, fun v ao bo cc dd hc hd hr hr2 => srr_long1 f hf4 ng ao bo n m cc dd xs ys v hl hm hc hd hn hn2 hx hy hr hr2 h1, fun v ao bo cc dd hF hc hd hr hr2 => irr_long f hf4 ng ao bo n m cc dd xs ys v hl hm hc hd hn hn2 hx hy hr hr2 hF (by omega)⟩

theorem beDrew {B : Nat} {w v : World} (h : Below B w v) (q : Nat) : Below B w (v.drewN q) := ⟨h.os, h.tape, h.output, h.size, h.block⟩

set_option maxRecDepth 100000 in
set_option maxHeartbeats 4000000 in
theorem lawRoundRatio (z : Int) (ng : Bool) (a0 : Option Addr) (n c : Nat) (xs : List Nat) (a1 : Option Addr) (m d : Nat) (ys : List Nat) (w : World) (hF : Fmt w) (w0 : InRow w a0 n c xs) (w1 : InRow w a1 m d ys) :
    Calls Tryd.prog 5 #[.int .i64 z, .bool ng, .slice a0 n c, .slice a1 m d] w fun e w' => e = .returned (.bool true) ∧ Below w.heap.size w w' := by
  obtain ⟨hl, hc, hx, hr⟩ := w0
  obtain ⟨hm, hd, hy, hs⟩ := w1
  by_cases h1 : n ≤ 1048576
  · have h1' : ¬ (1048576 : Int) < (n : Int) := by omega
    by_cases h2 : m ≤ 1048576
    · have h2' : ¬ (1048576 : Int) < (m : Int) := by omega
      obtain ⟨A, B, C, k, kS, kI⟩ := rr_both z ng n m xs ys hl hm h1 h2 hx hy
      have HL := hid hl; have HM := hid hm; clear hl hm
      go_enter Tryd.func5, Tryd.ntmps5
      go_wp2_with fail
      refine (toU_any a0 n c xs _ HL.out (by omega) hr).mono ?_
      rintro e v1 ⟨rfl, hA1, hb1⟩
      go_wp2_with fail
      refine (toU_any a1 m d ys _ HM.out (by omega) (hs.below hb1)).mono ?_
      rintro e v2 ⟨rfl, hA2, hb2⟩
      have hA1' := hA1.keep hb2
      have b2 : Below w.heap.size w v2 := hb1.trans (hb2.mono hb1.size)
      go_wp2_with fail
      refine (kS _ _ _ n m (Nat.le_refl _) (Nat.le_refl _) hA1'.rd0 hA2.rd0).mono ?_
      rintro e v3 ⟨rfl, hb3⟩
      have b3 : Below w.heap.size w v3 := b2.trans (hb3.mono b2.size)
      clear hA1 hA2 hA1' hb1 hb2 hb3 b2 kS
      go_upto_region 6 with fail
      have hW : Cls (v3.alloc (.cells #[.int .u64 A, .int .u64 B, .int .i64 C, .bool k] 39)) v3.heap.size #[.int .u64 A, .int .u64 B, .int .i64 C, .bool k] 39 := Cls.new _ _ _
      have bA : Below v3.heap.size v3 (v3.alloc (.cells #[.int .u64 A, .int .u64 B, .int .i64 C, .bool k] 39)) := (Below.refl _ _).alloc (Nat.le_refl _) _
      replace b3 := b3.trans (bA.mono b3.size)
      clear bA
      generalize (v3.alloc (.cells #[.int .u64 A, .int .u64 B, .int .i64 C, .bool k] 39)) = v3' at *
      generalize v3.heap.size = gw at *
      go_wp2_with fail
      refine (toU_any a0 n c xs _ HL.out (by omega) (hr.below b3)).mono ?_
      rintro e v4 ⟨rfl, hA4, hb4⟩
      have b4 : Below w.heap.size w v4 := b3.trans (hb4.mono b3.size)
      replace hW := hW.below hb4
      generalize v3'.heap.size = g4 at *
      go_wp2_with fail
      refine (toU_any a1 m d ys _ HM.out (by omega) (hs.below b4)).mono ?_
      rintro e v5 ⟨rfl, hA5, hb5⟩
      have b5 : Below w.heap.size w v5 := b4.trans (hb5.mono b4.size)
      replace hA4 := hA4.keep hb5
      replace hW := hW.below hb5
      clear hb4 hb5 b3
      generalize v4.heap.size = g5 at *
      go_wp2_with fail
      refine (kI _ _ _ n m (hF.below b5) (Nat.le_refl _) (Nat.le_refl _) hA4.rd0 hA5.rd0).mono ?_
      rintro e v6 ⟨rfl, hb6⟩
      have b6 : Below w.heap.size w v6 := b5.trans (hb6.mono b5.size)
      replace hA4 := hA4.keep hb6
      replace hA5 := hA5.keep hb6
      replace hW := hW.below hb6
      clear hb6 b4 b5 kI
      go_upto_region 9 with fail
      have hG : Cls (v6.alloc (.cells #[.int .u64 A, .int .u64 B, .int .i64 C, .bool k] 39)) v6.heap.size #[.int .u64 A, .int .u64 B, .int .i64 C, .bool k] 39 := Cls.new _ _ _
      have bA : Below v6.heap.size v6 (v6.alloc (.cells #[.int .u64 A, .int .u64 B, .int .i64 C, .bool k] 39)) := (Below.refl _ _).alloc (Nat.le_refl _) _
      replace b6 := b6.trans (bA.mono b6.size)
      replace hA4 := hA4.keep bA
      replace hA5 := hA5.keep bA
      replace hW := hW.below bA
      clear bA
      generalize (v6.alloc (.cells #[.int .u64 A, .int .u64 B, .int .i64 C, .bool k] 39)) = v7 at *
      generalize v6.heap.size = gg at *
      have x0 := hW.cell 0 rfl
      have x1 := hW.cell 1 rfl
      have x2 := hW.cell 2 rfl
      have x3 := hW.cell 3 rfl
      have y0 := hG.cell 0 rfl
      have y1 := hG.cell 1 rfl
      have y2 := hG.cell 2 rfl
      have y3 := hG.cell 3 rfl
      go_wp2_with fail
      refine (eqRounded_same A B C k _).mono ?_
      rintro e v8 ⟨rfl, hb8⟩
      replace b6 := b6.trans (hb8.mono b6.size)
      replace hA4 := hA4.keep hb8
      replace hA5 := hA5.keep hb8
      clear hb8 hW hG x0 x1 x2 x3 y0 y1 y2 y3
      go_wp2_with fail
      refine (toU_any a0 n c xs _ HL.out (by omega) (hr.below b6)).mono ?_
      rintro e v9 ⟨rfl, hA9, hb9⟩
      replace b6 := b6.trans (hb9.mono b6.size)
      replace hA4 := hA4.keep hb9
      replace hA5 := hA5.keep hb9
      clear hb9
      go_wp2_with fail
      refine (eqU_any _ _ n n n n xs xs _ HL.out HL.out (by omega) (by omega) hA4.rd0 hA9.rd0).mono ?_
      rintro e v10 ⟨rfl, q10, hv10⟩
      have b10 : Below w.heap.size w v10 := by rw [hv10]; exact beDrew b6 _
      have hA10 : Blk v10 g5 ys := by rw [hv10]; exact hA5.drewN _
      clear hv10 hA4 hA5 hA9 b6
      rw [dec_self]
      go_wp2_with fail
      refine (toU_any a1 m d ys _ HM.out (by omega) (hs.below b10)).mono ?_
      rintro e v11 ⟨rfl, hA11, hb11⟩
      replace b10 := b10.trans (hb11.mono b10.size)
      replace hA10 := hA10.keep hb11
      clear hb11
      go_wp2_with fail
      refine (eqU_any _ _ m m m m ys ys _ HM.out HM.out (by omega) (by omega) hA10.rd0 hA11.rd0).mono ?_
      rintro e v12 ⟨rfl, q12, hv12⟩
      have b12 : Below w.heap.size w v12 := by rw [hv12]; exact beDrew b10 _
      clear hv12
      rw [dec_self]
      have HB := hid b12
      clear b12 b10 hA10 hA11
      go_wp2_with fail
      go_ret
      exact ⟨rfl, HB.out⟩
    · have h2' : (1048576 : Int) < (m : Int) := by omega
      go_enter Tryd.func5, Tryd.ntmps5
      go_wp2_with fail
      go_ret
      exact ⟨rfl, Below.refl _ _⟩
  · have h1' : (1048576 : Int) < (n : Int) := by omega
    go_enter Tryd.func5, Tryd.ntmps5
    go_wp2_with fail
    go_ret
    exact ⟨rfl, Below.refl _ _⟩

theorem lawRoundRatioC (z : Int) (ng : Bool) (a0 : Option Addr) (n c : Nat) (xs : List Nat) (a1 : Option Addr) (m d : Nat) (ys : List Nat) (w : World) (_h : (Lit.int .i64 z).wf = true) (w0 : InRow w a0 n c xs) (w1 : InRow w a1 m d ys) (hF : Fmt w) :
    Calls Tryd.prog 5 #[.int .i64 z, .bool ng, .slice a0 n c, .slice a1 m d] w fun e w' => e = .returned (.bool true) ∧ Below w.heap.size w w' := lawRoundRatio z ng a0 n c xs a1 m d ys w hF w0 w1

end Go.Proofs.YtehplfmnipadmaeDoor

namespace Go.Proofs.YtehplfmnipadmaeDoor
open Go.ChangeShapes Go.WideShapes Go.ChangeAt Go.RowKit
set_option linter.unusedVariables false
set_option maxRecDepth 100000

theorem Tryd.own : ownKnob Tryd.prog.godebug = none := by kernel_rfl
theorem Tryd.gFmt : Tryd.prog.globalNamed "loop.example/s01493/impl.formats" = some 0 := by kernel_rfl
theorem Tryd.gFmtType : (Tryd.prog.globals[0]?).map (·.type) = some 88 := by kernel_rfl
theorem Tryd.cellsInt : Tryd.prog.cellsOf 3 = 1 := by kernel_rfl
theorem Tryd.cellsBool : Tryd.prog.cellsOf 4 = 1 := by kernel_rfl
theorem Tryd.cellsDesc : Tryd.prog.cellsOf 56 = 6 := by kernel_rfl
theorem Tryd.cellsFmts : Tryd.prog.cellsOf 88 = 24 := by kernel_rfl

theorem take1 {l : List Value} {k : Nat} {v : Value} (h : (l.drop k).take 1 = [v]) : l[k]? = some v := by
  have := congrArg (·[0]?) h
  simpa [List.getElem?_take, List.getElem?_drop] using this

/-- A description that reads so holds it, cell for cell. -/
theorem desc6 {H : Type} {enc : TypeId × Value → H} {w : World} {base : Nat} {sp : Nat → Bool} {held : Bool} {fuel : Nat} {l : List Value} {a b c d e : Int} {x : Bool} {p : List MemPlace}
    (h : DataW.trod enc Tryd.prog w base sp held fuel 56 l = some (.agg [.lit (.int .i64 a), .lit (.int .i64 b), .lit (.int .i64 c), .lit (.int .i64 d), .lit (.int .i64 e), .lit (.bool x)], p)) :
    l = [.int .i64 a, .int .i64 b, .int .i64 c, .int .i64 d, .int .i64 e, .bool x] := by
  obtain ⟨xs, n, rfl, hx, hl, hxl, hall⟩ := DataW.trod_struct Tryd.underlying56 h
  rw [Tryd.cellsDesc] at hl
  have f0 : DataW.trod enc Tryd.prog w base sp held n 3 ((l.drop 0).take (Tryd.prog.cellsOf 3)) = xs[0]? := hall 0 _ rfl
  have f1 : DataW.trod enc Tryd.prog w base sp held n 3 ((l.drop 1).take (Tryd.prog.cellsOf 3)) = xs[1]? := hall 1 _ rfl
  have f2 : DataW.trod enc Tryd.prog w base sp held n 3 ((l.drop 2).take (Tryd.prog.cellsOf 3)) = xs[2]? := hall 2 _ rfl
  have f3 : DataW.trod enc Tryd.prog w base sp held n 3 ((l.drop 3).take (Tryd.prog.cellsOf 3)) = xs[3]? := hall 3 _ rfl
  have f4 : DataW.trod enc Tryd.prog w base sp held n 3 ((l.drop 4).take (Tryd.prog.cellsOf 3)) = xs[4]? := hall 4 _ rfl
  have f5 : DataW.trod enc Tryd.prog w base sp held n 4 ((l.drop 5).take (Tryd.prog.cellsOf 4)) = xs[5]? := hall 5 _ rfl
  match xs, hxl, hx, f0, f1, f2, f3, f4, f5 with
  | [x0, x1, x2, x3, x4, x5], _, hx, f0, f1, f2, f3, f4, f5 =>
    simp only [List.map_cons, List.map_nil, Prod.mk.injEq, DataW.agg.injEq, List.cons.injEq, and_true] at hx
    obtain ⟨⟨g0, g1, g2, g3, g4, g5⟩, _⟩ := hx
    rw [Tryd.cellsInt] at f0 f1 f2 f3 f4
    rw [Tryd.cellsBool] at f5
    obtain ⟨z0, e0, y0, _⟩ := DataW.trod_int Tryd.underlying3 f0
    obtain ⟨z1, e1, y1, _⟩ := DataW.trod_int Tryd.underlying3 f1
    obtain ⟨z2, e2, y2, _⟩ := DataW.trod_int Tryd.underlying3 f2
    obtain ⟨z3, e3, y3, _⟩ := DataW.trod_int Tryd.underlying3 f3
    obtain ⟨z4, e4, y4, _⟩ := DataW.trod_int Tryd.underlying3 f4
    obtain ⟨z5, e5, y5⟩ := DataW.trod_bool Tryd.underlying4 f5
    subst y0; subst y1; subst y2; subst y3; subst y4; subst y5
    simp only [DataW.lit.injEq, Lit.int.injEq, Lit.bool.injEq, true_and] at g0 g1 g2 g3 g4 g5
    subst g0; subst g1; subst g2; subst g3; subst g4; subst g5
    match l, hl with
    | [l0, l1, l2, l3, l4, l5], _ =>
      simp at e0 e1 e2 e3 e4 e5
      rw [e0, e1, e2, e3, e4, e5]

/-- What the row's list gives: the variable's cells. -/
theorem var_of_laid {W : World} (h : laidMetH Tryd.prog [("loop.example/s01493/impl.formats", Rows.laid_loop_example_s01493_impl_formats)] W) :
    W.var? Tryd.prog "loop.example/s01493/impl.formats" = some fmtC := by
  rw [MakeChecks.laidMetH_plain _ _ _ (by kernel_rfl)] at h
  obtain ⟨g, t, cs, fuel, p, h1, h2, h3, h4⟩ := Lib.laidMet.reads h (List.mem_singleton.2 rfl)
  obtain rfl := Option.some.inj (Tryd.gFmt.symm.trans h1)
  obtain rfl := Option.some.inj (Tryd.gFmtType.symm.trans h2)
  rw [h3]
  have hlen : cs.toList.length = 24 := by
    obtain ⟨xs, m, rfl, hx, hl, hn, hel⟩ := DataW.trod_array Tryd.underlying88 h4
    rw [hl, Tryd.cellsFmts]
  obtain ⟨f0, d0, q0, e0, t0⟩ := Lib.array_elem Tryd.underlying88 h4 0 (by decide)
  obtain ⟨f1, d1, q1, e1, t1⟩ := Lib.array_elem Tryd.underlying88 h4 1 (by decide)
  obtain ⟨f2, d2, q2, e2, t2⟩ := Lib.array_elem Tryd.underlying88 h4 2 (by decide)
  obtain ⟨f3, d3, q3, e3, t3⟩ := Lib.array_elem Tryd.underlying88 h4 3 (by decide)
  rw [Tryd.cellsDesc] at t0 t1 t2 t3
  obtain rfl := Option.some.inj e0
  obtain rfl := Option.some.inj e1
  obtain rfl := Option.some.inj e2
  obtain rfl := Option.some.inj e3
  have k0 := desc6 t0
  have k1 := desc6 t1
  have k2 := desc6 t2
  have k3 := desc6 t3
  clear t0 t1 t2 t3 h4 h1 h2 h3 h e0 e1 e2 e3
  obtain ⟨l⟩ := cs
  simp only at hlen k0 k1 k2 k3
  have e : l = l.take 6 ++ ((l.drop 6).take 6 ++ ((l.drop 12).take 6 ++ (l.drop 18).take 6)) := by
    have a1 : (l.drop 18).take 6 = l.drop 18 := List.take_of_length_le (by simp; omega)
    have a2 : l.drop 18 = (l.drop 12).drop 6 := by simp
    have a3 : l.drop 12 = (l.drop 6).drop 6 := by simp
    rw [a1, a2, List.take_append_drop, a3, List.take_append_drop, List.take_append_drop]
  simp at k0 k1 k2 k3
  rw [k0, k1, k2, k3] at e
  rw [e]
  rfl

theorem fmt_of_var {W : World} (h : W.var? Tryd.prog "loop.example/s01493/impl.formats" = some fmtC) : Fmt W := by
  have hc := fun i => World.var?_cell Tryd.gFmt h i
  refine ⟨?_, fun j hj => hc j⟩
  exact World.block_lt_of_cell? W ⟨0, 0, none⟩ (hc 0)

/-- How the variable reads, in every world that holds it. -/
theorem fmt_reads {H : Type} (enc : TypeId × Value → H) (W : World) (sp : Nat → Bool) (held : Bool) :
    DataW.trod enc Tryd.prog W 0 sp held 8 88 fmtC.toList = some (Rows.laid_loop_example_s01493_impl_formats, []) := by kernel_rfl

theorem fmt_vars {H : Type} (enc : TypeId × Value → H) {W : World} (h : W.var? Tryd.prog "loop.example/s01493/impl.formats" = some fmtC) (sp : Nat → Bool) :
    DataW.TrodVars enc Tryd.prog W sp ["loop.example/s01493/impl.formats"] [Rows.laid_loop_example_s01493_impl_formats] (MemPlace.row ⟨0, 0, none⟩ 24 ++ [] ++ []) :=
  ⟨0, 88, fmtC, 8, [], [], Tryd.gFmt, Tryd.gFmtType, h, fmt_reads enc W sp true, rfl, rfl⟩

theorem var_below {W W' : World} (h : W.var? Tryd.prog "loop.example/s01493/impl.formats" = some fmtC) (hb : Below W.heap.size W W') : W'.var? Tryd.prog "loop.example/s01493/impl.formats" = some fmtC := by
  have hlt := (fmt_of_var h).1
  unfold World.var? at h ⊢
  simp only [Tryd.gFmt, Option.bind_some] at h ⊢
  rw [hb.block 0 hlt]
  exact h

/-- A world for the witness: the settled one, the table holding what its initialiser lays. -/
noncomputable def laidWorld (os : Os) : World :=
  { World.holding Tryd.prog os ⟨#[], #[], []⟩ with heap := (World.holding Tryd.prog os ⟨#[], #[], []⟩).heap.modify 0 fun
      | .cells _ t frozen => .cells fmtC t frozen
      | o => o }

end Go.Proofs.YtehplfmnipadmaeDoor
