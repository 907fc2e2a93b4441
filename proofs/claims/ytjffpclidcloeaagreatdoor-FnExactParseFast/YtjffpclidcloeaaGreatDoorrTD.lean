import Derived.Test.YtjffpclidcloeaaGreatDoorProg
import Derived.Conc.RwLib
import Derived.Conc.MuData
import Derived.KernelRfl
import Derived.Conc.MuLone
import Derived.Maps.OwnSet
import Derived.DeepKeys4
import Derived.Recover
import Derived.Carry
import Derived.Test.YtjffpclidcloeaaGreatDoorrTB
namespace Go.Proofs.YtjffpclidcloeaaGreatDoor
open Go.RowKit Go.Maps
set_option linter.unusedVariables false
set_option maxRecDepth 100000
def tNum (k : Int) : Nat := 10 ^ k.toNat

def tDen (k : Int) : Nat := 10 ^ (-k).toNat

def tExp (k W : Int) : Int := tb k - W + 1

def tX (k W : Int) : Nat := tNum k * 2 ^ (-(tExp k W)).toNat

def tY (k W : Int) : Nat := tDen k * 2 ^ (tExp k W).toNat

theorem tNum_pos (m : Nat) : tNum (m : Int) = 10 ^ m := by unfold tNum; rw [Int.toNat_natCast]

theorem tDen_pos (m : Nat) : tDen (m : Int) = 1 := by unfold tDen; rw [show (-(m : Int)).toNat = 0 by omega]

theorem tNum_neg (m : Nat) : tNum (-(m : Int)) = 1 := by unfold tNum; rw [show (-(m : Int)).toNat = 0 by omega]

theorem tDen_neg (m : Nat) : tDen (-(m : Int)) = 10 ^ m := by unfold tDen; rw [show (- -(m : Int)).toNat = m by omega]

theorem tDen_gt (k : Int) : 0 < tDen k := Nat.pow_pos (by omega)

theorem tb_bound (k : Int) (h : -5200 ≤ k ∧ k ≤ 5200) : -20801 ≤ tb k ∧ tb k ≤ 20801 := by
 rcases Int.lt_or_le k 0 with h0 | h0
 · obtain ⟨m, rfl⟩ : ∃ m : Nat, k = -(m : Int) := ⟨(-k).toNat, by omega⟩
   rw [tb_neg m (by omega) (by omega)]
   have := blen_ten m (by omega)
   omega
 · obtain ⟨m, rfl⟩ : ∃ m : Nat, k = (m : Int) := ⟨k.toNat, by omega⟩
   rw [tb_pos m (by omega)]
   have := blen_ten m (by omega)
   omega

theorem top_lt (k W : Int) (h : -5200 ≤ k ∧ k ≤ 5200 ∧ 1 ≤ W ∧ W ≤ 128) : tX k W / tY k W < 2 ^ 128 := by
 have hY : 0 < tY k W := Nat.mul_pos (tDen_gt k) (Nat.pow_pos (by omega))
 rw [Nat.div_lt_iff_lt_mul hY]
 unfold tX tY
 rcases Int.lt_or_le k 0 with h0 | h0
 · obtain ⟨m, rfl⟩ : ∃ m : Nat, k = -(m : Int) := ⟨(-k).toNat, by omega⟩
   have hm : 0 < m := by omega
   have hb := blen_pos (10 ^ m) (Nat.pow_pos (by omega))
   have h1 := blen_le (10 ^ m) (Nat.pow_pos (by omega))
   have h2 := two_ne_ten (blen (10 ^ m) - 1) m hm
   rw [tNum_neg, tDen_neg]
   unfold tExp
   rw [tb_neg m (by omega) hm]
   generalize blen (10 ^ m) = b at *
   obtain ⟨v, rfl⟩ : ∃ v : Nat, W = (v : Int) := ⟨W.toNat, by omega⟩
   have e1 : (-(-(b : Int) - (v : Int) + 1)).toNat = (b - 1) + v := by omega
   have e2 : (-(b : Int) - (v : Int) + 1).toNat = 0 := by omega
   rw [e1, e2, Nat.pow_add, Nat.one_mul, Nat.pow_zero, Nat.mul_one]
   have h3 : 2 ^ v ≤ 2 ^ 128 := Nat.pow_le_pow_right (by omega) (by omega)
   have h4 : 2 ^ (b - 1) * 2 ^ v < 10 ^ m * 2 ^ v := Nat.mul_lt_mul_of_pos_right (by omega) (Nat.pow_pos (by omega))
   have h5 := Nat.lt_of_lt_of_le h4 (Nat.mul_le_mul_left (10 ^ m) h3)
   rw [Nat.mul_comm (2 ^ 128)]
   exact h5
 · obtain ⟨m, rfl⟩ : ∃ m : Nat, k = (m : Int) := ⟨k.toNat, by omega⟩
   have hb := blen_pos (10 ^ m) (Nat.pow_pos (by omega))
   have h1 := lt_blen (10 ^ m)
   rw [tNum_pos, tDen_pos]
   unfold tExp
   rw [tb_pos m (by omega)]
   generalize blen (10 ^ m) = b at *
   obtain ⟨v, rfl⟩ : ∃ v : Nat, W = (v : Int) := ⟨W.toNat, by omega⟩
   obtain ⟨p, hp⟩ : ∃ p : Nat, p = (-((b : Int) - 1 - (v : Int) + 1)).toNat := ⟨_, rfl⟩
   obtain ⟨q, hq⟩ : ∃ q : Nat, q = ((b : Int) - 1 - (v : Int) + 1).toNat := ⟨_, rfl⟩
   rw [← hp, ← hq, Nat.one_mul]
   have e1 : b + p = v + q := by omega
   have h3 : 10 ^ m * 2 ^ p < 2 ^ b * 2 ^ p := Nat.mul_lt_mul_of_pos_right h1 (Nat.pow_pos (by omega))
   rw [← Nat.pow_add, e1, Nat.pow_add] at h3
   exact Nat.lt_of_lt_of_le h3 (Nat.mul_le_mul_right _ (Nat.pow_le_pow_right (by omega) (by omega)))

theorem trunc_any (k W : Int) (h : -5200 ≤ k ∧ k ≤ 5200 ∧ 1 ≤ W ∧ W ≤ 128) (w : World) :
 Calls Tryz.prog 71 #[.int .i64 k, .int .i64 W] w fun e w' => e = .returned (pwv k W (tX k W / tY k W) (tExp k W) (decide (tX k W % tY k W = 0)) true) ∧ Below w.heap.size w w' := by
 have hq := top_lt k W h
 have hb := tb_bound k ⟨h.1, h.2.1⟩
 have hd := tDen_gt k
 have hE : tExp k W = tb k - W + 1 := rfl
 have kk : (∀ v : World, Calls Tryz.prog 94 #[.int .i64 k] v fun e v' => RR v v' e (tNum k) (tDen k)) ∧ (∀ (v : World) (a b' : Option Addr) (c d : Nat), Rd v a (L (tNum k)) → Rd v b' (L (tDen k)) → Calls Tryz.prog 95 #[.int .i64 k, .agg #[.slice a (L (tNum k)).length c, .slice b' (L (tDen k)).length d]] v fun e v' => e = .returned (.int .i64 (tb k)) ∧ Below v.heap.size v v') ∧ (L (tNum k)).length ≤ 1201 ∧ (L (tDen k)).length ≤ 1201 := by
  rcases Int.lt_or_le k 0 with h0 | h0
  · obtain ⟨m, rfl⟩ : ∃ m : Nat, k = -(m : Int) := ⟨(-k).toNat, by omega⟩
    rw [tNum_neg, tDen_neg, tb_neg m (by omega) (by omega)]
    exact ⟨fun v => tenPower_neg m v (by omega), fun v a b' c d ra rb => highest_neg a b' c d _ _ m v (by omega) (by omega) rfl rfl ra rb, len_one, len_ten m (by omega)⟩
  · obtain ⟨m, rfl⟩ : ∃ m : Nat, k = (m : Int) := ⟨k.toNat, by omega⟩
    rw [tNum_pos, tDen_pos, tb_pos m (by omega)]
    exact ⟨fun v => tenPower_pos m v (by omega), fun v a b' c d ra rb => highest_pos a b' c d _ _ m v (by omega) rfl rfl ra rb, len_ten m (by omega), len_one⟩
 obtain ⟨kT, kH, l1, l2⟩ := kk
 rcases Int.lt_or_le (tExp k W) 0 with h0 | h0
 · obtain ⟨s, hs⟩ : ∃ s : Nat, tExp k W = -(s : Int) := ⟨(-(tExp k W)).toNat, by omega⟩
   have eX : tX k W = tNum k * 2 ^ s := by unfold tX; rw [hs, show (- -(s : Int)).toNat = s by omega]
   have eY : tY k W = tDen k * 2 ^ 0 := by unfold tY; rw [hs, show (-(s : Int)).toNat = 0 by omega]
   rw [eX, eY] at hq ⊢
   rw [hE] at hs ⊢
   exact trunc_pos k W (tb k) (tNum k) (tDen k) s w (by omega) (by omega) (by omega) (by omega) hs hd l1 l2 (by omega) hq kT kH
 · obtain ⟨s, hs⟩ : ∃ s : Nat, tExp k W = (s : Int) := ⟨(tExp k W).toNat, by omega⟩
   have eX : tX k W = tNum k * 2 ^ 0 := by unfold tX; rw [hs, show (-(s : Int)).toNat = 0 by omega]
   have eY : tY k W = tDen k * 2 ^ s := by unfold tY; rw [hs, Int.toNat_natCast]
   rw [eX, eY] at hq ⊢
   rw [hE] at hs ⊢
   exact trunc_neg k W (tb k) (tNum k) (tDen k) s w (by omega) (by omega) (by omega) (by omega) hs hd l1 l2 (by omega) hq kT kH

def tpv (k W : Int) : Value := if -5200 ≤ k ∧ k ≤ 5200 ∧ 1 ≤ W ∧ W ≤ 128 then pwv k W (tX k W / tY k W) (tExp k W) (decide (tX k W % tY k W = 0)) true else pwv 0 0 0 0 false false

theorem tY_gt (k W : Int) : 0 < tY k W := Nat.mul_pos (tDen_gt k) (Nat.pow_pos (by omega))

theorem top_bits (k W : Int) (h : -5200 ≤ k ∧ k ≤ 5200 ∧ 1 ≤ W ∧ W ≤ 128) : 2 ^ (W - 1).toNat ≤ tX k W / tY k W ∧ tX k W / tY k W < 2 ^ W.toNat := by
 have hY := tY_gt k W
 rw [Nat.le_div_iff_mul_le hY, Nat.div_lt_iff_lt_mul hY]
 unfold tX tY
 obtain ⟨v, rfl⟩ : ∃ v : Nat, W = (v : Int) := ⟨W.toNat, by omega⟩
 have ev : ((v : Int) - 1).toNat = v - 1 := by omega
 have ev2 : ((v : Int)).toNat = v := by omega
 rw [ev, ev2]
 rcases Int.lt_or_le k 0 with h0 | h0
 · obtain ⟨m, rfl⟩ : ∃ m : Nat, k = -(m : Int) := ⟨(-k).toNat, by omega⟩
   have hm : 0 < m := by omega
   have hb := blen_pos (10 ^ m) (Nat.pow_pos (by omega))
   have h1 := blen_le (10 ^ m) (Nat.pow_pos (by omega))
   have h1' := lt_blen (10 ^ m)
   have h2 := two_ne_ten (blen (10 ^ m) - 1) m hm
   rw [tNum_neg, tDen_neg]
   unfold tExp
   rw [tb_neg m (by omega) hm]
   generalize blen (10 ^ m) = b at *
   have e1 : (-(-(b : Int) - (v : Int) + 1)).toNat = (b - 1) + v := by omega
   have e2 : (-(b : Int) - (v : Int) + 1).toNat = 0 := by omega
   rw [e1, e2, Nat.one_mul, Nat.pow_zero, Nat.mul_one]
   constructor
   · rw [show b - 1 + v = (v - 1) + b by omega, Nat.pow_add]
     exact Nat.mul_le_mul_left _ (Nat.le_of_lt h1')
   · rw [Nat.pow_add, Nat.mul_comm]
     exact Nat.mul_lt_mul_of_pos_left (by omega) (Nat.pow_pos (by omega))
 · obtain ⟨m, rfl⟩ : ∃ m : Nat, k = (m : Int) := ⟨k.toNat, by omega⟩
   have hb := blen_pos (10 ^ m) (Nat.pow_pos (by omega))
   have h1 := lt_blen (10 ^ m)
   have h1' := blen_le (10 ^ m) (Nat.pow_pos (by omega))
   rw [tNum_pos, tDen_pos]
   unfold tExp
   rw [tb_pos m (by omega)]
   generalize blen (10 ^ m) = b at *
   obtain ⟨p, hp⟩ : ∃ p : Nat, p = (-((b : Int) - 1 - (v : Int) + 1)).toNat := ⟨_, rfl⟩
   obtain ⟨q, hq⟩ : ∃ q : Nat, q = ((b : Int) - 1 - (v : Int) + 1).toNat := ⟨_, rfl⟩
   rw [← hp, ← hq, Nat.one_mul]
   have e1 : b + p = v + q := by omega
   constructor
   · rw [← Nat.pow_add, show v - 1 + q = (b - 1) + p by omega, Nat.pow_add]
     exact Nat.mul_le_mul_right _ h1'
   · rw [← Nat.pow_add, ← e1, Nat.pow_add]
     exact Nat.mul_lt_mul_of_pos_right h1 (Nat.pow_pos (by omega))

end Go.Proofs.YtjffpclidcloeaaGreatDoor
