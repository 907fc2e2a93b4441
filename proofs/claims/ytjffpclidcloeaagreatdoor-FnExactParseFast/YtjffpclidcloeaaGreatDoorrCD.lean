import Derived.Test.YtjffpclidcloeaaGreatDoorrTB
import Derived.Test.YtjffpclidcloeaaGreatDoorrBR
import Derived.Test.YtjffpclidcloeaaGreatDoorrCC
set_option maxHeartbeats 2000000
set_option maxRecDepth 100000
namespace Go.Proofs.YtjffpclidcloeaaGreatDoor
open Go.RowKit
set_option linter.unusedVariables false
set_option maxRecDepth 100000
theorem and_one (z : Int) (h0 : 0 ≤ z) (h1 : z < 18446744073709551616) : bits .and .u64 z 1 = z % 2 := by go_bits2

theorem even_any (X : Nat) (w : World) :
 Calls Tryz.prog 124 #[.agg #[.int .u64 (M.hiN X : Int), .int .u64 (M.loN X : Int)]] w fun e w' => e = .returned (.bool (decide (X % 2 = 0))) ∧ Below w.heap.size w w' := by
 go_enter Tryz.func124, Tryz.ntmps124
 have hb : (bits BinOp.and IntKind.u64 (M.loN X : Int) 1 == 0) = decide (X % 2 = 0) := by
  have e : bits BinOp.and IntKind.u64 (M.loN X : Int) 1 = ((M.loN X % 2 : Nat) : Int) := by
   have := M.loLt X
   rw [and_one _ (by omega) (by omega)]; omega
  rw [e]
  have : M.loN X % 2 = X % 2 := by unfold M.loN; omega
  rw [this]
  by_cases h : X % 2 = 0
  · simp [h]
  · have h2 : X % 2 = 1 := by omega
    simp [h2]
 go_wp2_with fail
 go_ret
 exact ⟨by rw [← hb]; rfl, (Below.refl _ _).alloc (Nat.le_refl _) _⟩

def rY (F : M.Fm) (ng : Bool) (N De : Nat) : Nat := if N = 0 then F.pk ⟨1, ng, 0, 0⟩ else F.pk (F.rPt ng N De)

def rF (F : M.Fm) (N De : Nat) : Int := if N = 0 then 0 else F.rFl N De 2 1

def rv (F : M.Fm) (ng : Bool) (N De : Nat) : Value := .agg #[.int .u64 (M.hiN (rY F ng N De) : Int), .int .u64 (M.loN (rY F ng N De) : Int), .int .i64 (rF F N De), .bool true]

theorem blen_of_L (N K : Nat) (h : (L N).length ≤ K) : blen N ≤ 64 * K := by
 refine blen_le_of N _ ?_
 have := L_lt N K h
 rwa [show (18446744073709551616 : Nat) = 2 ^ 64 by rfl, ← Nat.pow_mul] at this

theorem rPt_n (F : M.Fm) (ng : Bool) (N De : Nat) : (F.rPt ng N De).n = ng := by
 unfold M.Fm.rPt; split
 · rfl
 · split
   · rfl
   · split <;> rfl

theorem iround_pos (F : M.Fm) (h : F.Ok) (ng : Bool) (a b : Option Addr) (c d N De : Nat) (w : World) (hN : 0 < N) (hd : 0 < De) (lN : (L N).length ≤ 1201) (lD : (L De).length ≤ 1201) (ra : Rd w a (L N)) (rb : Rd w b (L De)) :
 Calls Tryz.prog 77 #[dv F, .bool ng, .slice a (L N).length c, .slice b (L De).length d] w fun e w' => e = .returned (rv F ng N De) ∧ Below w.heap.size w w' := by
 have p1 := h.p1
 have p2 := h.p2
 have t2 := h.top2
 have bN := blen_of_L N _ lN
 have bD := blen_of_L De _ lD
 have e1 := M.rE_le N De (by omega) (by omega)
 obtain ⟨q1, q2, q3, q4, q5⟩ := h.rQ_le N De (by omega) (by omega)
 obtain ⟨m1, m2, m3⟩ := h.rS_ok N De hN hd
 have m4 := h.rS_le N De hN hd
 have m5 := h.rSig_lt N De hN hd
 have tl := h.two_lead
 have pw : 2 ^ F.p ≤ 2 ^ 113 := Nat.pow_le_pow_right (by omega) p2
 have pp := h.rPt_proper ng N De hN hd
 have hne : (((L N).length : Int) == 0) = false := by
  rw [L_zero_iff]; exact decide_eq_false (by omega)
 have o1 : M.hiN 1 = 0 := by decide
 have o2 : M.loN 1 = 1 := by decide
 have kQ := fun v : World => dQmin F h v
 have kL := fun v : World => dLead F h v
 simp only [dv] at kQ kL ⊢
 unfold rv rY rF
 rw [if_neg (by omega), if_neg (by omega)]
 refine iround_key ng _ _ _ _ _ _ a b c d N De w hne ra rb (F.rN N De) (F.rM N De) (F.rS N De) (F.rSig N De) (F.rQ N De) (F.rExp N De) (F.rPt ng N De).c (F.rPt ng N De).q (F.rFl N De 2 1) (F.rPt ng N De).s (F.pk (F.rPt ng N De)) ?_ ?_ ?_ ?_ ?_
 · -- scale
   intro v g hB ra rb sa sb
   refine iscale_key g _ _ _ _ _ _ a b c d N De 0 0 v hB ra rb sa sb (M.rE N De) F.qmin (F.rQ N De) (by omega) (by omega) (by omega) (by omega) rfl (by omega) (by omega) ?_ kQ ((-(F.rQ N De)).toNat : Int) ((F.rQ N De).toNat : Int) (by omega) (by omega) (F.rN N De) (F.rM N De) ?_ ?_
   · intro v hB ra rb
     refine iexp_key g _ _ _ _ _ _ a b c d N De 0 0 v hB ra rb (blen N) (blen De) (by omega) (by omega) (fun v hr => bitLenN_any a _ c N v rfl (by omega) hr _ rfl) (fun v hr => bitLenN_any b _ d De v rfl (by omega) hr _ rfl) ((blen N : Int) - blen De) ((-((blen N : Int) - blen De)).toNat : Int) (((blen N : Int) - blen De).toNat : Int) rfl (by omega) (by omega)
      (N * 2 ^ (-((blen N : Int) - blen De)).toNat) (De * 2 ^ ((blen N : Int) - blen De).toNat) (fun v hr => shiftLeft_any a _ c _ N v rfl (by omega) (by omega) hr) (fun v hr => shiftLeft_any b _ d _ De v rfl (by omega) (by omega) hr) _
      (fun v ao bo c d hr hr2 => compare_any ao bo _ _ c d _ _ v rfl rfl (Nat.le_trans (len_shiftK N _ 1201 1500 lN (by omega)) (by omega)) (Nat.le_trans (len_shiftK De _ 1201 1500 lD (by omega)) (by omega)) hr hr2) _ ?_
     have e2 := cmpI_lt1 (N * 2 ^ (-((blen N : Int) - blen De)).toNat) (De * 2 ^ ((blen N : Int) - blen De).toNat)
     unfold M.rE
     simp only [decide_eq_decide] at e2
     by_cases hc : M.lt2 N De ((blen N : Int) - blen De)
     · rw [if_pos hc, if_pos (e2.2 hc)]
     · rw [if_neg hc, if_neg (fun k => hc (e2.1 k))]
   · exact fun v hr => shiftLeft_any a _ c _ N v rfl (by omega) (by omega) hr
   · exact fun v hr => shiftLeft_any b _ d _ De v rfl (by omega) (by omega) hr
 · -- nearest
   intro v g a1 c1 a2 c2 hB r1 r2 s1 s2
   have l1 : (L (F.rN N De)).length ≤ 2701 := len_shiftK N _ 1201 1500 lN (by omega)
   have l2 : (L (F.rM N De)).length ≤ 2701 := len_shiftK De _ 1201 1500 lD (by omega)
   have hlt : F.rN N De / F.rM N De < 2 ^ 128 := by omega
   have hrm : F.rN N De % F.rM N De < F.rM N De := Nat.mod_lt _ m1
   have l3 : (L (F.rN N De % F.rM N De)).length ≤ 2701 := by
    rcases Nat.lt_or_ge 2701 (L (F.rN N De % F.rM N De)).length with hh | hh
    · have := M.lt_of_length (B := 18446744073709551616) (by omega) (a := F.rM N De) (b := F.rN N De % F.rM N De) (Nat.lt_of_le_of_lt l2 hh)
      omega
    · exact hh
   have kPl := fun v : World => wplus (F.rN N De / F.rM N De) 1 v hlt (by omega) (F.rN N De / F.rM N De + 1) (by rw [Nat.mod_eq_of_lt]; omega)
   rw [o1, o2] at kPl
   have kSh := fun (v : World) (ao : Option Addr) (cc : Nat) (hr : Rd v ao (L (F.rN N De % F.rM N De))) => shiftLeft_any ao _ cc 1 (F.rN N De % F.rM N De) v rfl (by omega) (by omega) hr
   rw [Nat.pow_one] at kSh
   have l4 : (L (F.rN N De % F.rM N De * 2)).length ≤ 2702 := by
    have := len_shiftK (F.rN N De % F.rM N De) 1 2701 1 l3 (by omega)
    rwa [Nat.pow_one] at this
   exact inear_key g _ _ _ _ _ _ a1 a2 c1 c2 _ _ 0 (F.rQ N De) v hB r1 r2 s1 s2 (F.rN N De / F.rM N De) (F.rN N De % F.rM N De) (fun v hr hr2 => divMod_any a1 a2 _ _ c1 c2 _ _ v rfl rfl m1 (by omega) (by omega) hr hr2) (fun v ao cc hr => wordOf_any ao _ cc _ v rfl hlt hr) kSh
    _ (fun v ao cc hr hr2 => compare_any ao a2 _ _ cc c2 _ _ v rfl rfl (by omega) (by omega) hr hr2) (fun v => even_any _ v) kPl (F.rS N De) (M.rUp_cmp _ _)
 · -- carry
   intro v g a1 n1 c1 a2 n2 c2 hB
   exact icarry_key g _ _ _ _ _ _ a1 a2 n1 c1 n2 c2 (F.rS N De) (F.rQ N De) v hB (2 ^ F.p) F.lead (fun v => wbitAt F.p v (by omega) _ rfl) kL (by omega) (by omega) _ _ rfl rfl
 · -- outcome
   intro v g a1 n1 c1 a2 n2 c2 hB
   have kC := fun (cz : Int) (hcz : cz = M.cmpN (F.rSig N De) F.lead) (v : World) => wcmp (F.rSig N De) F.lead v cz hcz
   have hx : -100000 ≤ F.rExp N De ∧ F.rExp N De ≤ 200000 := by unfold M.Fm.rExp; split <;> omega
   unfold M.Fm.rPt M.Fm.rFl
   by_cases k1 : F.rSig N De = 0
   · rw [if_pos k1, if_pos k1]
     rw [k1] at hB
     have := iout_zero g _ _ _ _ _ _ a1 a2 n1 c1 n2 c2 _ v hB
     simp only [hi0, lo0]
     exact this
   · rw [if_neg k1, if_neg k1]
     by_cases k2 : F.rSig N De < F.lead
     · rw [if_pos k2, if_pos k2]
       have hz : M.cmpN (F.rSig N De) F.lead = -1 := by unfold M.cmpN; rw [if_pos k2]
       exact iout_sub g _ _ _ _ _ _ a1 a2 n1 c1 n2 c2 _ _ v hB k1 F.lead (-1) kL (kC _ hz.symm) (by omega)
     · rw [if_neg k2, if_neg k2]
       have hz : ¬ M.cmpN (F.rSig N De) F.lead < 0 := by
        unfold M.cmpN; rw [if_neg k2]; split <;> omega
       by_cases k3 : (F.emax : Int) < F.rExp N De + F.p - 1
       · rw [if_pos k3, if_pos k3]
         have := iout_inf g _ _ _ _ _ _ a1 a2 n1 c1 n2 c2 _ _ v hB k1 F.lead _ kL (kC _ rfl) hz (by omega) (by omega) (by omega) (by omega) k3
         simp only [hi0, lo0]
         exact this
       · rw [if_neg k3, if_neg k3]
         exact iout_norm g _ _ _ _ _ _ a1 a2 n1 c1 n2 c2 (F.rSig N De) (F.rExp N De) v hB k1 F.lead _ kL (kC _ rfl) hz hx.1 hx.2 (by omega) (by omega) k3
 · -- pack
   intro v
   have hs : (F.rPt ng N De).s < 2 ^ 128 := by
    unfold M.Fm.rPt; split
    · simp only; omega
    · split
      · simp only; omega
      · split <;> simp only <;> omega
   have := dpack F h (F.rPt ng N De).c ng (F.rPt ng N De).s (F.rPt ng N De).q hs v
   have e := pki_pk h (F.rPt ng N De) pp
   rw [rPt_n] at e
   rw [e] at this
   exact this

theorem iround_any (F : M.Fm) (h : F.Ok) (ng : Bool) (a b : Option Addr) (c d N De : Nat) (w : World) (hd : 0 < De) (lN : (L N).length ≤ 1201) (lD : (L De).length ≤ 1201) (ra : Rd w a (L N)) (rb : Rd w b (L De)) :
 Calls Tryz.prog 77 #[dv F, .bool ng, .slice a (L N).length c, .slice b (L De).length d] w fun e w' => e = .returned (rv F ng N De) ∧ Below w.heap.size w w' := by
 by_cases hN : N = 0
 · subst hN
   have e0 : (L 0).length = 0 := by simp [L, M.dig_zero]
   rw [e0]
   have kP := fun v : World => dpack F h 1 ng 0 0 (by omega) v
   have e := pki_pk h ⟨1, ng, 0, 0⟩ (.inl ⟨rfl, rfl, rfl⟩)
   simp only at e
   rw [e] at kP
   simp only [hi0, lo0] at kP
   simp only [dv]
   unfold rv rY rF
   rw [if_pos rfl, if_pos rfl]
   exact iround_zero ng _ _ _ _ _ _ a b c _ d w _ kP
 · exact iround_pos F h ng a b c d N De w (by omega) hd lN lD ra rb

end Go.Proofs.YtjffpclidcloeaaGreatDoor
