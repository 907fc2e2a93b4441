import Derived.Test.YtodgblbaclionaaGreatDoorrCE
import Derived.Test.YtodgblbaclionaaGreatDoorrPkB
namespace Go.Proofs.YtodgblbaclionaaGreatDoor

open Go.RowKit

set_option linter.unusedVariables false
set_option maxRecDepth 100000

theorem blen_of_D (N K : Nat) (h : (D N).length ≤ K) : blen N ≤ 32 * K := by
  refine blen_le_of N _ ?_
  have := D_lt N K h
  rwa [show (4294967296 : Nat) = 2 ^ 32 by rfl, ← Nat.pow_mul] at this

theorem D_mono {a b : Nat} (h : a ≤ b) : (D a).length ≤ (D b).length := by
  rcases Nat.lt_or_ge (D b).length (D a).length with hh | hh
  · have := M.lt_of_length (B := 4294967296) (by omega) hh
    omega
  · exact hh

set_option maxRecDepth 10000 in
set_option maxHeartbeats 2000000 in
theorem sround_pos (f : Nat) (hf : f < 4) (ng : Bool) (a b : Option Addr) (c d N De : Nat) (w : World) (hN : 0 < N) (hd : 0 < De) (lN : (D N).length ≤ 2400) (lD : (D De).length ≤ 2400) (hcn : (D N).length ≤ c) (ra : Rd w a (D N)) (rb : Rd w b (D De)) :
    Calls Tryz.prog 35 #[.int .i64 (f : Int), .bool ng, .slice a (D N).length c, .slice b (D De).length d] w fun e w' => e = .returned (.agg #[.int .u64 (M.hiN ((M.fm f).pk ((M.fm f).rPt ng N De)) : Int), .int .u64 (M.loN ((M.fm f).pk ((M.fm f).rPt ng N De)) : Int), .int .i64 ((M.fm f).rFl N De 2 1), .bool true]) ∧ Below w.heap.size w w' := by
  have kE := fun v : World => sdescribe_ok f hf v
  have kK := fun (v : World) (c : Int) (s : Nat) (hs : s < 2 ^ 128) (q : Int) (h1 : -9223372036854775808 ≤ q) (h2 : q < 9223372036854775808) => spack_any f hf c ng s hs q h1 h2 v
  have h := M.fm_ok f
  generalize M.fm f = F at *
  simp only [dv] at kE
  have p1 := h.p1
  have p2 := h.p2
  have t2 := h.top2
  have bN := blen_of_D N _ lN
  have bD := blen_of_D De _ lD
  have e1 := M.rE_le N De (by omega) (by omega)
  obtain ⟨q1, q2, q3, q4, q5⟩ := h.rQ_le N De (by omega) (by omega)
  obtain ⟨m1, m2, m3⟩ := h.rS_ok N De hN hd
  have m4 := h.rS_le N De hN hd
  have m5 := h.rSig_lt N De hN hd
  obtain ⟨n1, n2⟩ := h.rN_le N De hN hd (by omega) (by omega)
  have tl := h.two_lead
  have pw : 2 ^ F.p ≤ 2 ^ 113 := Nat.pow_le_pow_right (by omega) p2
  have pp := h.rPt_proper ng N De hN hd
  have lo := h.rLow N De hN hd
  obtain ⟨g1, g2⟩ := h.rCarry N De hN hd
  have l1 : (D (F.rN N De)).length ≤ 2404 := by
    rcases n1 with n1 | n1
    · rw [n1]; omega
    · have := D_shift De F.p 2400 lD
      have := D_mono (Nat.le_of_lt n1)
      omega
  have l2 : (D (F.rM N De)).length ≤ 2404 := by
    rcases n2 with n2 | n2
    · rw [n2]; omega
    · have := D_mono n2
      omega
  have hlt : F.rN N De / F.rM N De < 2 ^ 128 := by omega
  have hrm : F.rN N De % F.rM N De < F.rM N De := Nat.mod_lt _ m1
  have l3 : (D (F.rN N De % F.rM N De)).length ≤ 2404 := Nat.le_trans (D_mono (Nat.le_of_lt hrm)) l2
  have l4 : (D (F.rN N De % F.rM N De * 2)).length ≤ 2405 := by
    have := D_shift (F.rN N De % F.rM N De) 1 2404 l3
    rw [Nat.pow_one] at this; omega
  have l5 : (D (F.rN N De / F.rM N De)).length ≤ 6 := D_small _ (by omega)
  have l6 : (D (F.rS N De)).length ≤ 6 := D_small _ (by omega)
  have l7 : (D (F.rSig N De)).length ≤ 6 := D_small _ (by omega)
  have hqm : F.qmin = 2 - (F.emax : Int) - (F.p : Int) := rfl
  have hQd : F.rQ N De = max (M.rE N De - F.p + 1) F.qmin := rfl
  have kSh := fun (v : World) (ao : Option Addr) (cc : Nat) (hr : Rd v ao (D (F.rN N De % F.rM N De))) => l1Left_any ao _ cc 1 (F.rN N De % F.rM N De) v rfl (by omega) (by omega) hr
  rw [Nat.pow_one] at kSh
  have kH := fun (v : World) (ao : Option Addr) (cc : Nat) (hr : Rd v ao (D (F.rS N De))) => l1Right_any ao _ cc 1 (F.rS N De) v rfl (by omega) (by omega) hr
  rw [Nat.pow_one] at kH
  have hs : (F.rPt ng N De).s < 2 ^ 128 := by
    unfold M.Fm.rPt; split
    · simp only; omega
    · split
      · simp only; omega
      · split <;> simp only <;> omega
  have hx : -100000 ≤ F.rExp N De ∧ F.rExp N De ≤ 200000 := by rw [g2]; split <;> omega
  have hq : -9223372036854775808 ≤ (F.rPt ng N De).q ∧ (F.rPt ng N De).q < 9223372036854775808 := by
    unfold M.Fm.rPt; split
    · simp only; omega
    · split
      · simp only; omega
      · split <;> simp only <;> omega
  have kP := fun v : World => kK v (F.rPt ng N De).c (F.rPt ng N De).s hs (F.rPt ng N De).q hq.1 hq.2
  have ht : (⟨(F.rPt ng N De).c, ng, (F.rPt ng N De).s, (F.rPt ng N De).q⟩ : M.Pt) = F.rPt ng N De := by
    have : (F.rPt ng N De).n = ng := by
      unfold M.Fm.rPt; split
      · rfl
      · split
        · rfl
        · split <;> rfl
    refine M.Pt.ext' rfl this.symm rfl rfl
  rw [ht, show ansN F (F.rPt ng N De) = F.pk (F.rPt ng N De) from if_pos pp] at kP
  have bl := blen_iff h (F.rSig N De)
  refine sround_key (f : Int) ng N De _ _ _ _ _ _ w a b c d hcn ra rb kE (blen N) (blen De) (fun v ao cc hr => l1Bits_any ao _ cc N v rfl (by omega) hr _ rfl) (fun v ao cc hr => l1Bits_any ao _ cc De v rfl (by omega) hr _ rfl)
    (decide (M.lt2 N De ((blen N : Int) - blen De))) (fun v ao bo c d hr hr2 => l2Below_any ao bo _ _ c d N De _ v rfl rfl (by omega) (by omega) (by omega) (by omega) hr hr2 _ rfl)
    (M.rE N De) (F.rQ N De) F.qmin (by unfold M.rE; simp only [decide_eq_true_eq]) (by omega) (by rw [hQd]; split <;> omega) (by omega) (by omega) (by omega) (by omega) (by omega) (by omega) (by omega) (by omega)
    (F.rN N De) (F.rM N De) ?_ ?_ (F.rN N De / F.rM N De) (F.rN N De % F.rM N De) (fun v ao bo c d hc hr hr2 => l1Div_wide ao bo _ _ c d _ _ v rfl rfl m1 (by omega) (by omega) hc hr hr2) kSh
    (cmpI ((F.rN N De % F.rM N De * 2 : Nat) : Int) (F.rM N De : Int)) (fun v ao bo c d hr hr2 => l1Cmp_any ao bo _ _ c d _ _ v rfl rfl (by omega) (by omega) hr hr2)
    (fun v ao cc hr => l1At_any ao _ cc 0 _ v rfl (by omega) (by omega) hr _ (by rw [D_get]; simp)) (fun v => l1Of_any 1 v (by omega)) (fun v ao bo c d hr hr2 => l1Add_any ao bo _ _ c d _ _ v rfl rfl (by omega) (Nat.le_trans (D_small 1 (by omega)) (by omega)) hr hr2)
    (F.rS N De) (M.rUp_cmp _ _) (blen (F.rS N De)) (fun v ao cc hr => l1Bits_any ao _ cc _ v rfl (by omega) hr _ rfl) kH (F.rSig N De) (F.rExp N De) g1 g2 (by omega) (by omega) (by omega) (by omega)
    (blen (F.rSig N De)) (fun v ao cc hr => l1Bits_any ao _ cc _ v rfl (by omega) hr _ rfl) (fun v ao cc hr => l2Word_any ao _ cc _ v rfl (by omega) hr)
    (F.rPt ng N De).c (F.rPt ng N De).s (F.rPt ng N De).q (F.rFl N De 2 1) ?_ (F.pk (F.rPt ng N De)) _ kP
  · intro hc
    refine ⟨?_, ?_⟩
    · show N * 2 ^ (-(F.rQ N De)).toNat = N
      rw [show (-(F.rQ N De)).toNat = 0 by omega, Nat.pow_zero, Nat.mul_one]
    · intro v ao cc hr
      have := l1Left_any ao _ cc (F.rQ N De).toNat De v rfl (by omega) (by omega) hr
      rw [show (((F.rQ N De).toNat : Nat) : Int) = F.rQ N De by omega] at this
      exact this
  · intro hc
    refine ⟨?_, ?_⟩
    · show De * 2 ^ (F.rQ N De).toNat = De
      rw [show (F.rQ N De).toNat = 0 by omega, Nat.pow_zero, Nat.mul_one]
    · intro v ao cc hr
      have := l1Left_any ao _ cc (-(F.rQ N De)).toNat N v rfl (by omega) (by omega) hr
      rw [show (((-(F.rQ N De)).toNat : Nat) : Int) = -(F.rQ N De) by omega] at this
      exact this
  · unfold M.Fm.rPt M.Fm.rFl
    by_cases k1 : F.rSig N De = 0
    · rw [if_pos k1, if_pos k1]
      exact .inl ⟨k1, rfl, rfl, rfl, rfl⟩
    · rw [if_neg k1, if_neg k1]
      by_cases k2 : F.rSig N De < F.lead
      · rw [if_pos k2, if_pos k2]
        refine .inr (.inl ⟨k1, ?_, rfl, rfl, (lo k2).1, rfl⟩)
        rcases Nat.lt_or_ge (blen (F.rSig N De)) F.p with hh | hh
        · omega
        · have := bl.1.2 hh; omega
      · rw [if_neg k2, if_neg k2]
        have hb : ¬ ((blen (F.rSig N De) : Int) < (F.p : Int)) := by have := bl.1.1 (by omega); omega
        by_cases k3 : (F.emax : Int) < F.rExp N De + F.p - 1
        · rw [if_pos k3, if_pos k3]
          exact .inr (.inr (.inl ⟨k1, hb, k3, rfl, rfl, rfl, rfl⟩))
        · rw [if_neg k3, if_neg k3]
          exact .inr (.inr (.inr ⟨k1, hb, k3, rfl, rfl, rfl, rfl⟩))

end Go.Proofs.YtodgblbaclionaaGreatDoor

