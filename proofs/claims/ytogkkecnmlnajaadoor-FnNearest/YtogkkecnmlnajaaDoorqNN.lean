import Derived.Test.YtogkkecnmlnajaaDoorqBW
set_option maxHeartbeats 2000000
namespace Go.Proofs.YtogkkecnmlnajaaDoor
open Go.RowKit
set_option linter.unusedVariables false
set_option maxRecDepth 100000
def cmpDoc (xs ys : List Nat) : Int := if xs.length ≤ 1200 ∧ ys.length ≤ 1200 then cmpI (V xs : Nat) (V ys : Nat) else 2

theorem specNatCmp_any (ao bo : Option Addr) (n m c d : Nat) (xs ys : List Nat) (w : World) (hl : xs.length = n) (hm : ys.length = m) (hn : n ≤ 1048576) (hn2 : m ≤ 1048576) (hx : F64 xs) (hy : F64 ys) (hr : Rd w ao xs) (hr2 : Rd w bo ys) :
 Calls Tryd.prog 12 #[.slice ao n c, .slice bo m d] w fun e w' => e = .returned (.int .i64 (cmpDoc xs ys)) ∧ Below w.heap.size w w' := by
 have e1 : n ≤ 1200 → decide (n ≤ 1200) = true := by simp
 by_cases h1 : n ≤ 1200
 · by_cases h2 : m ≤ 1200
   · have hdoc : cmpDoc xs ys = cmpI (V xs : Nat) (V ys : Nat) := by unfold cmpDoc; rw [if_pos (by omega)]
     rw [hdoc]
     have d1 : decide (n ≤ 1200) = true := by simpa using h1
     have d2 : decide (m ≤ 1200) = true := by simpa using h2
     go_enter Tryd.func12, Tryd.ntmps12
     go_wp2_with fail
     refine (l1Fits_any ao n c _ (by omega)).mono ?_
     rintro e w1 ⟨rfl, rfl⟩
     rw [d1]
     go_wp2_with fail
     refine (l1Fits_any bo m d _ (by omega)).mono ?_
     rintro e w2 ⟨rfl, rfl⟩
     rw [d2]
     go_wp2_with fail
     refine (l1In_any ao n c xs _ hl (by omega) hx hr).mono ?_
     rintro e w3 ⟨ao1, cap1, rfl, ho1, hb1⟩
     go_wp2_with fail
     refine (l1In_any bo m d ys _ hm (by omega) hy (hr2.below hb1)).mono ?_
     rintro e w4 ⟨ao2, cap2, rfl, ho2, hb2⟩
     go_wp2_with fail
     have hs1 : (D (V xs)).length ≤ 4194304 := by
      have := M.length_dig_le (B := 4294967296) (by omega) (M.halves xs) (M.halves_lt xs hx)
      rw [M.val_halves, M.halves_length] at this
      unfold D V; omega
     have hs2 : (D (V ys)).length ≤ 4194304 := by
      have := M.length_dig_le (B := 4294967296) (by omega) (M.halves ys) (M.halves_lt ys hy)
      rw [M.val_halves, M.halves_length] at this
      unfold D V; omega
     refine (l1Cmp_any ao1 ao2 _ _ cap1 cap2 (V xs) (V ys) _ rfl rfl hs1 hs2 ((Rd.own ho1).below hb2) (Rd.own ho2)).mono ?_
     rintro e w5 ⟨rfl, rfl⟩
     go_wp2_with fail
     go_ret
     exact ⟨rfl, hb1.trans (hb2.mono hb1.size)⟩
   · have hdoc : cmpDoc xs ys = 2 := by unfold cmpDoc; rw [if_neg (by omega)]
     rw [hdoc]
     have d1 : decide (n ≤ 1200) = true := by simpa using h1
     have d2 : decide (m ≤ 1200) = false := by simpa using h2
     go_enter Tryd.func12, Tryd.ntmps12
     go_wp2_with fail
     refine (l1Fits_any ao n c _ (by omega)).mono ?_
     rintro e w1 ⟨rfl, rfl⟩
     rw [d1]
     go_wp2_with fail
     refine (l1Fits_any bo m d _ (by omega)).mono ?_
     rintro e w2 ⟨rfl, rfl⟩
     rw [d2]
     go_wp2_with fail
     go_ret
     exact ⟨rfl, Below.refl _ _⟩
 · have hdoc : cmpDoc xs ys = 2 := by unfold cmpDoc; rw [if_neg (by omega)]
   rw [hdoc]
   have d1 : decide (n ≤ 1200) = false := by simpa using h1
   go_enter Tryd.func12, Tryd.ntmps12
   go_wp2_with fail
   refine (l1Fits_any ao n c _ (by omega)).mono ?_
   rintro e w1 ⟨rfl, rfl⟩
   rw [d1]
   go_wp2_with fail
   go_ret
   exact ⟨rfl, Below.refl _ _⟩

def shVal (a : Nat) (z : Int) : Nat := if 0 ≤ z then a * 2 ^ z.toNat else a / 2 ^ (-z).toNat

def shDoc (xs : List Nat) (z : Int) : List Nat := if xs.length ≤ 1200 ∧ -80000 ≤ z ∧ z ≤ 80000 then L (shVal (V xs) z) else []

theorem shVal_left (a s : Nat) : shVal a (s : Int) = a * 2 ^ s := by unfold shVal; rw [if_pos (by omega)]; simp

theorem shVal_right (a s : Nat) (h : 0 < s) : shVal a (-(s : Int)) = a / 2 ^ s := by unfold shVal; rw [if_neg (by omega)]; simp

theorem len_shl32 (a s K : Nat) (h : (D a).length ≤ K) : (D (a * 2 ^ s)).length ≤ K + (s / 32 + 1) := by
 refine M.len_of_lt (by omega) _ _ ?_
 have h1 := D_lt a K h
 have h2 : 2 ^ s ≤ 4294967296 ^ (s / 32 + 1) := by
  rw [show (4294967296 : Nat) = 2 ^ 32 from rfl, ← Nat.pow_mul]
  exact Nat.pow_le_pow_right (by omega) (by omega)
 rw [Nat.pow_add]
 exact Nat.lt_of_lt_of_le (Nat.mul_lt_mul_of_pos_right h1 (Nat.pow_pos (by omega))) (Nat.mul_le_mul_left _ h2)

theorem len_shr {B : Nat} (hB : 1 < B) (a s K : Nat) (h : (M.dig B a).length ≤ K) : (M.dig B (a / 2 ^ s)).length ≤ K :=
 M.len_of_lt hB _ _ (Nat.lt_of_le_of_lt (Nat.div_le_self _ _) (Nat.lt_of_lt_of_le (M.lt_dig hB a) (Nat.pow_le_pow_right (by omega) h)))

theorem specNatShift_any (ao : Option Addr) (n c : Nat) (xs : List Nat) (z : Int) (w : World) (hl : xs.length = n) (hn : n ≤ 1048576) (hx : F64 xs) (hr : Rd w ao xs) :
 Calls Tryd.prog 36 #[.slice ao n c, .int .i64 z] w fun e w' => Ret w w' e (shDoc xs z) := by
 have s1 := D_len xs hx
 by_cases h1 : n ≤ 1200
 · have d1 : decide (n ≤ 1200) = true := by simpa using h1
   by_cases h2 : -80000 ≤ z ∧ z ≤ 80000
   · have hdoc : shDoc xs z = L (shVal (V xs) z) := by unfold shDoc; rw [if_pos (by omega)]
     rw [hdoc]
     by_cases hz : 0 ≤ z
     · obtain ⟨s, rfl⟩ := Int.eq_ofNat_of_zero_le hz
       rw [shVal_left]
       have hz1 : ¬ (80000 : Int) < (s : Int) := by omega
       have hz2 : ¬ (s : Int) < -80000 := by omega
       have hz3 : (0 : Int) ≤ (s : Int) := by omega
       go_enter Tryd.func36, Tryd.ntmps36
       go_wp2_with fail
       refine (l1Fits_any ao n c _ (by omega)).mono ?_
       rintro e w1 ⟨rfl, rfl⟩
       rw [d1]
       go_wp2_with fail
       refine (l1In_any ao n c xs _ hl (by omega) hx hr).mono ?_
       rintro e w3 ⟨ao1, cap1, rfl, ho1, hb1⟩
       go_wp2_with fail
       refine (l1Left_any ao1 _ cap1 s (V xs) _ rfl (by omega) (by omega) (Rd.own ho1)).mono ?_
       rintro e w5 ⟨ao3, cap3, rfl, ho3, hb3⟩
       have b3 := hb1.trans (hb3.mono hb1.size)
       have hs3 := len_shl32 (V xs) s 2400 (by omega)
       go_wp2_with fail
       refine (l1Out_any ao3 _ cap3 (V xs * 2 ^ s) _ rfl (by omega) (Rd.own ho3)).mono ?_
       rintro e w6 ⟨ao4, cap4, rfl, ho4, hb4⟩
       go_wp2_with fail
       go_ret
       exact ⟨ao4, cap4, rfl, own_base ho4 b3.size, b3.trans (hb4.mono b3.size)⟩
     · obtain ⟨s, hs⟩ := Int.eq_ofNat_of_zero_le (show 0 ≤ -z by omega)
       have e : z = -(s : Int) := by omega
       subst e
       rw [shVal_right _ _ (by omega)]
       have hz1 : ¬ (80000 : Int) < -(s : Int) := by omega
       have hz2 : ¬ -(s : Int) < -80000 := by omega
       have hz3 : ¬ (0 : Int) ≤ -(s : Int) := by omega
       clear hs
       go_enter Tryd.func36, Tryd.ntmps36
       go_wp2_with fail
       refine (l1Fits_any ao n c _ (by omega)).mono ?_
       rintro e w1 ⟨rfl, rfl⟩
       rw [d1]
       go_wp2_with fail
       refine (l1In_any ao n c xs _ hl (by omega) hx hr).mono ?_
       rintro e w3 ⟨ao1, cap1, rfl, ho1, hb1⟩
       go_wp2_with fail
       refine (l1Right_any ao1 _ cap1 s (V xs) _ rfl (by omega) (by omega) (Rd.own ho1)).mono ?_
       rintro e w5 ⟨ao3, cap3, rfl, ho3, hb3⟩
       have b3 := hb1.trans (hb3.mono hb1.size)
       have hs3 : (D (V xs / 2 ^ s)).length ≤ 2400 := len_shr (by omega) (V xs) s 2400 (show (D (V xs)).length ≤ 2400 by omega)
       go_wp2_with fail
       refine (l1Out_any ao3 _ cap3 (V xs / 2 ^ s) _ rfl (by omega) (Rd.own ho3)).mono ?_
       rintro e w6 ⟨ao4, cap4, rfl, ho4, hb4⟩
       go_wp2_with fail
       go_ret
       exact ⟨ao4, cap4, rfl, own_base ho4 b3.size, b3.trans (hb4.mono b3.size)⟩
   · have hdoc : shDoc xs z = [] := by unfold shDoc; rw [if_neg (by omega)]
     rw [hdoc]
     by_cases h3 : 80000 < z
     · go_enter Tryd.func36, Tryd.ntmps36
       go_wp2_with fail
       refine (l1Fits_any ao n c _ (by omega)).mono ?_
       rintro e w1 ⟨rfl, rfl⟩
       rw [d1]
       go_wp2_with fail
       go_ret
       exact Ret.nil (Below.refl _ _)
     · have h4 : z < -80000 := by omega
       go_enter Tryd.func36, Tryd.ntmps36
       go_wp2_with fail
       refine (l1Fits_any ao n c _ (by omega)).mono ?_
       rintro e w1 ⟨rfl, rfl⟩
       rw [d1]
       go_wp2_with fail
       go_ret
       exact Ret.nil (Below.refl _ _)
 · have d1 : decide (n ≤ 1200) = false := by simpa using h1
   have hdoc : shDoc xs z = [] := by unfold shDoc; rw [if_neg (by omega)]
   rw [hdoc]
   go_enter Tryd.func36, Tryd.ntmps36
   go_wp2_with fail
   refine (l1Fits_any ao n c _ (by omega)).mono ?_
   rintro e w1 ⟨rfl, rfl⟩
   rw [d1]
   go_wp2_with fail
   go_ret
   exact Ret.nil (Below.refl _ _)

def subOk (xs ys : List Nat) : Bool := decide (xs.length ≤ 1200) && decide (ys.length ≤ 1200) && decide (V ys ≤ V xs)

def subDoc (xs ys : List Nat) : List Nat := if subOk xs ys then L (V xs - V ys) else []

theorem specNatSub_any (ao bo : Option Addr) (n m c d : Nat) (xs ys : List Nat) (w : World) (hl : xs.length = n) (hm : ys.length = m) (hn : n ≤ 1048576) (hn2 : m ≤ 1048576) (hx : F64 xs) (hy : F64 ys) (hr : Rd w ao xs) (hr2 : Rd w bo ys) :
 Calls Tryd.prog 37 #[.slice ao n c, .slice bo m d] w fun e w' => RetB w w' e (subDoc xs ys) (subOk xs ys) := by
 have hs1 := D_len xs hx
 have hs2 := D_len ys hy
 by_cases h1 : n ≤ 1200
 · have d1 : decide (n ≤ 1200) = true := by simpa using h1
   by_cases h2 : m ≤ 1200
   · have d2 : decide (m ≤ 1200) = true := by simpa using h2
     by_cases hba : V ys ≤ V xs
     · have hok : subOk xs ys = true := by simp [subOk]; omega
       have hdoc : subDoc xs ys = L (V xs - V ys) := by unfold subDoc; rw [hok]; rfl
       rw [hdoc, hok]
       have hcmp := cmpI_nonneg hba
       go_enter Tryd.func37, Tryd.ntmps37
       go_wp2_with fail
       refine (l1Fits_any ao n c _ (by omega)).mono ?_
       rintro e w1 ⟨rfl, rfl⟩
       rw [d1]
       go_wp2_with fail
       refine (l1Fits_any bo m d _ (by omega)).mono ?_
       rintro e w2 ⟨rfl, rfl⟩
       rw [d2]
       go_wp2_with fail
       refine (l1In_any ao n c xs _ hl (by omega) hx hr).mono ?_
       rintro e w3 ⟨ao1, cap1, rfl, ho1, hb1⟩
       go_wp2_with fail
       refine (l1In_any bo m d ys _ hm (by omega) hy (hr2.below hb1)).mono ?_
       rintro e w4 ⟨ao2, cap2, rfl, ho2, hb2⟩
       have b2 := hb1.trans (hb2.mono hb1.size)
       go_wp2_with fail
       refine (l1Cmp_any ao1 ao2 _ _ cap1 cap2 (V xs) (V ys) _ rfl rfl (by omega) (by omega) ((Rd.own ho1).below hb2) (Rd.own ho2)).mono ?_
       rintro e w5 ⟨rfl, rfl⟩
       clear ho1 ho2 hb1 hb2
       go_wp2_with fail
       refine (l1In_any ao n c xs _ hl (by omega) hx (hr.below b2)).mono ?_
       rintro e w6 ⟨ao3, cap3, rfl, ho3, hb3⟩
       have b3 := b2.trans (hb3.mono b2.size)
       go_wp2_with fail
       refine (l1In_any bo m d ys _ hm (by omega) hy (hr2.below b3)).mono ?_
       rintro e w7 ⟨ao4, cap4, rfl, ho4, hb4⟩
       have b4 := b3.trans (hb4.mono b3.size)
       go_wp2_with fail
       refine (l1Sub_any ao3 ao4 _ _ cap3 cap4 (V xs) (V ys) _ rfl rfl hba (by omega) ((Rd.own ho3).below hb4) (Rd.own ho4)).mono ?_
       rintro e w8 ⟨ao5, cap5, rfl, ho5, hb5⟩
       have b5 := b4.trans (hb5.mono b4.size)
       have hs3 : (D (V xs - V ys)).length ≤ 2400 := M.len_of_lt (B := 4294967296) (by omega) _ _ (Nat.lt_of_le_of_lt (Nat.sub_le _ _) (D_lt (V xs) 2400 (by omega)))
       go_wp2_with fail
       refine (l1Out_any ao5 _ cap5 (V xs - V ys) _ rfl (by omega) (Rd.own ho5)).mono ?_
       rintro e w9 ⟨ao6, cap6, rfl, ho6, hb6⟩
       go_wp2_with fail
       go_ret2
       exact ⟨ao6, cap6, rfl, own_base ho6 b5.size, b5.trans (hb6.mono b5.size)⟩
     · have hok : subOk xs ys = false := by simp [subOk]; omega
       have hdoc : subDoc xs ys = [] := by unfold subDoc; rw [hok]; rfl
       rw [hdoc, hok]
       have hcmp := cmpI_neg (show V xs < V ys by omega)
       go_enter Tryd.func37, Tryd.ntmps37
       go_wp2_with fail
       refine (l1Fits_any ao n c _ (by omega)).mono ?_
       rintro e w1 ⟨rfl, rfl⟩
       rw [d1]
       go_wp2_with fail
       refine (l1Fits_any bo m d _ (by omega)).mono ?_
       rintro e w2 ⟨rfl, rfl⟩
       rw [d2]
       go_wp2_with fail
       refine (l1In_any ao n c xs _ hl (by omega) hx hr).mono ?_
       rintro e w3 ⟨ao1, cap1, rfl, ho1, hb1⟩
       go_wp2_with fail
       refine (l1In_any bo m d ys _ hm (by omega) hy (hr2.below hb1)).mono ?_
       rintro e w4 ⟨ao2, cap2, rfl, ho2, hb2⟩
       have b2 := hb1.trans (hb2.mono hb1.size)
       go_wp2_with fail
       refine (l1Cmp_any ao1 ao2 _ _ cap1 cap2 (V xs) (V ys) _ rfl rfl (by omega) (by omega) ((Rd.own ho1).below hb2) (Rd.own ho2)).mono ?_
       rintro e w5 ⟨rfl, rfl⟩
       go_wp2_with fail
       go_ret2
       exact RetB.nil b2
   · have d2 : decide (m ≤ 1200) = false := by simpa using h2
     have hok : subOk xs ys = false := by simp [subOk]; omega
     have hdoc : subDoc xs ys = [] := by unfold subDoc; rw [hok]; rfl
     rw [hdoc, hok]
     go_enter Tryd.func37, Tryd.ntmps37
     go_wp2_with fail
     refine (l1Fits_any ao n c _ (by omega)).mono ?_
     rintro e w1 ⟨rfl, rfl⟩
     rw [d1]
     go_wp2_with fail
     refine (l1Fits_any bo m d _ (by omega)).mono ?_
     rintro e w2 ⟨rfl, rfl⟩
     rw [d2]
     go_wp2_with fail
     go_ret2
     exact RetB.nil (Below.refl _ _)
 · have d1 : decide (n ≤ 1200) = false := by simpa using h1
   have hok : subOk xs ys = false := by simp [subOk]; omega
   have hdoc : subDoc xs ys = [] := by unfold subDoc; rw [hok]; rfl
   rw [hdoc, hok]
   go_enter Tryd.func37, Tryd.ntmps37
   go_wp2_with fail
   refine (l1Fits_any ao n c _ (by omega)).mono ?_
   rintro e w1 ⟨rfl, rfl⟩
   rw [d1]
   go_wp2_with fail
   go_ret2
   exact RetB.nil (Below.refl _ _)

def RetT (w w' : World) (e : Ending) (q r : List Nat) (ok : Bool) : Prop :=
 ∃ ao ca bo cb mid, e = .returned (.tuple #[.slice ao q.length ca, .slice bo r.length cb, .bool ok]) ∧ w.heap.size ≤ mid ∧ mid ≤ w'.heap.size ∧ Own w' w.heap.size mid ao ca q ∧ Own w' mid w'.heap.size bo cb r ∧ Below w.heap.size w w'

theorem RetT.nil {w w' : World} (h : Below w.heap.size w w') : RetT w w' (.returned (.tuple #[.slice none 0 0, .slice none 0 0, .bool false])) [] [] false := ⟨none, 0, none, 0, w.heap.size, rfl, Nat.le_refl _, h.size, Own.nil _ _ _, Own.nil _ _ _, h⟩

end Go.Proofs.YtogkkecnmlnajaaDoor
