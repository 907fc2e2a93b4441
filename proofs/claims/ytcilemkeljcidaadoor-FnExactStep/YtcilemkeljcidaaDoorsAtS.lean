import Derived.Test.YtcilemkeljcidaaDoorsStM
import Derived.Test.YtcilemkeljcidaaDoorsAtR
import Derived.Test.YtcilemkeljcidaaDoorsBY
import Derived.Test.YtcilemkeljcidaaDoorsRk
import Derived.Test.YtcilemkeljcidaaDoorsSbw
set_option maxHeartbeats 400000
namespace Go.Proofs.YtcilemkeljcidaaDoor
open Go.RowKit
set_option linter.unusedVariables false
set_option maxRecDepth 100000
theorem rank_lt {F : M.Fm} (h : F.Ok) : F.top * F.lead < 2 ^ 128 := by
 have := h.leadPow
 have ht := h.top2
 rw [Nat.mul_comm F.lead, ht.2.1] at this
 have : F.top * F.lead ≤ (F.top + 1) * F.lead := Nat.mul_le_mul_right _ (by omega)
 omega

theorem datRank (F : M.Fm) (h : F.Ok) (n : Bool) (r : Nat) (hr : r ≤ F.top * F.lead) (w : World) :
 Calls Tryd.prog 45 #[.agg #[.int .i64 (F.p : Int), .int .i64 (1 - (F.emax : Int)), .int .i64 (F.emax : Int), .int .i64 (F.wd : Int), .int .i64 (F.e : Int), .bool F.x], .bool n, .agg #[.int .u64 (M.hiN r : Int), .int .u64 (M.loN r : Int)]] w fun e w' => e = .returned (.agg #[.int .u64 (M.hiN (F.wat n r) : Int), .int .u64 (M.loN (F.wat n r) : Int)]) ∧ Below w.heap.size w w' := by
 have p1 := h.p1
 have p2 := h.p2
 have lp := h.leadPos
 have tp := h.top2
 have tl : F.top < 40000 := by omega
 have rl := rank_lt h
 have hr2 : r < 2 ^ 128 := Nat.lt_of_le_of_lt hr rl
 have e1 : (F.p : Int) - 1 = ((F.p - 1 : Nat) : Int) := by omega
 obtain ⟨A, hA⟩ : ∃ A, A = r / F.lead := ⟨_, rfl⟩
 have hA1 : A ≤ F.top := by rw [hA]; exact Nat.div_le_of_le_mul (by rw [Nat.mul_comm]; exact hr)
 have dm := Nat.div_add_mod r F.lead
 rw [← hA] at dm
 have ml := Nat.mod_lt r lp
 obtain ⟨C, hC⟩ : ∃ C, C = r % F.lead := ⟨_, rfl⟩
 rw [← hC] at dm ml
 have hA2 := Nat.lt_of_le_of_lt hA1 tl
 have lA := lo_small hA2
 clear rl hr
 have lL := lead_lt h
 have l2 : F.lead ≤ 2 ^ 112 := Nat.pow_le_pow_right (by omega) (by omega)
 have kR : ∀ (v : World) (z : Int), z = (F.p : Int) - 1 → Calls Tryd.prog 52 #[.agg #[.int .u64 (M.hiN r : Int), .int .u64 (M.loN r : Int)], .int .i64 z] v fun e w' => e = .returned (.agg #[.int .u64 (M.hiN A : Int), .int .u64 (M.loN A : Int)]) ∧ Below v.heap.size v w' := fun v z hz => by
  rw [hz, e1]
  exact wshr r (F.p - 1) v hr2 (by omega) A hA
 obtain ⟨B, hB⟩ : ∃ B, B = F.lead * A := ⟨_, rfl⟩
 rw [← hB] at dm
 have hB2 : B < 2 ^ 128 := by omega
 have kS : ∀ (v : World) (z : Int), z = (F.p : Int) - 1 → Calls Tryd.prog 54 #[.agg #[.int .u64 (M.hiN A : Int), .int .u64 (M.loN A : Int)], .int .i64 z] v fun e w' => e = .returned (.agg #[.int .u64 (M.hiN B : Int), .int .u64 (M.loN B : Int)]) ∧ Below v.heap.size v w' := fun v z hz => by
  rw [hz, e1]
  exact wshl A (F.p - 1) v (Nat.lt_of_lt_of_le hA2 (by decide)) (by omega) B (by rw [show A * 2 ^ (F.p - 1) = B by rw [hB, Nat.mul_comm]; rfl]; exact (Nat.mod_eq_of_lt hB2).symm)
 have hC2 : C < 2 ^ 128 := by omega
 have kM := fun v : World => wminus r B v hr2 hB2 C (sub_word dm hr2)
 clear dm hB hr2 hB2
 have HA := hid hA
 have HC := hid hC
 clear hA hC
 by_cases h0 : 0 < A
 · have a2 : F.lead ≤ C + F.lead ↔ 0 < A := by omega
   have hf := (h.fields n A (C + F.lead) hA1 (by omega) a2).2.2.2
   have hw := h.width.2.2
   have hj : jn F n (A : Int) (C + F.lead) = F.wat n r := by
    rw [jn_word h n (by omega) (by omega) (fun _ => by omega) (Nat.lt_of_lt_of_le hf hw)]
    unfold M.Fm.wat
    rw [← HA.out, ← HC.out, if_pos h0]
   have kP := fun v : World => wplus C F.lead v (by omega) lL (C + F.lead) (by rw [Nat.mod_eq_of_lt (by omega)])
   have kL := fun v : World => dLead F h v
   simp only [dv] at kL
   exact atRank_pos n r A B C F.lead (C + F.lead) (F.wat n r) _ _ _ _ _ _ w (wp1 h) (wp2 h) (by rw [lA]; exact wr_small hA2) (by rw [lA]; exact wr_small2 hA2) kR kS kM (by omega) kL kP (fun v z hz => by
    have := djoin F h n (A : Int) (C + F.lead) (by omega) v
    rw [hj] at this
    rw [hz, lA]
    exact this)
 · have hA0 : A = 0 := by omega
   have a2 : F.lead ≤ C ↔ 0 < A := by omega
   have hf := (h.fields n A C hA1 (by omega) a2).2.2.2
   have hw := h.width.2.2
   have hj : jn F n (A : Int) C = F.wat n r := by
    rw [jn_word h n (by omega) (by omega) (fun hh => by omega) (Nat.lt_of_lt_of_le hf hw)]
    unfold M.Fm.wat
    rw [← HA.out, ← HC.out, if_neg h0, Nat.add_zero]
   exact atRank_zero n r A B C 0 0 (F.wat n r) _ _ _ _ _ _ w (wp1 h) (wp2 h) (by rw [lA]; exact wr_small hA2) (by rw [lA]; exact wr_small2 hA2) kR kS kM (by omega) (fun v z hz => by
    have := djoin F h n (A : Int) C (by omega) v
    rw [hj] at this
    rw [hz, lA]
    exact this)

end Go.Proofs.YtcilemkeljcidaaDoor
