import Derived.Test.YtehplfmnipadmadDraw6
import Derived.Test.YtehplfmnipadmadSame
import Derived.Test.YtehplfmnipadmadW9
import Derived.Test.YtehplfmnipadmadW5
import Derived.Test.YtehplfmnipadmadW18
import Derived.Test.YtehplfmnipadmadLb
namespace Go.Proofs.Ytehplfmnipadmad
open Go.RowKit
set_option linter.unusedVariables false
set_option maxRecDepth 100000

theorem sh0 (xs : List Nat) (h : xs.length ≤ 1200) : shDoc xs 0 = L (V xs) := by
  unfold shDoc
  rw [if_pos (by omega)]
  have := shVal_left (V xs) 0
  simp at this
  rw [show shVal (V xs) 0 = V xs from this]

theorem div_back (xs ys : List Nat) (hx : F64 xs) (hy : F64 ys) (hok : divOk xs ys = true) :
    addDoc (mulDoc (divQ xs ys) ys) (divR xs ys) = L (V xs) ∧ cmpDoc (divR xs ys) ys = -1 ∧ xs.length ≤ 1200 := by
  obtain ⟨l1, l2⟩ := div_len xs ys hx hy
  have hq : divQ xs ys = L (V xs / V ys) := by unfold divQ; rw [hok]; rfl
  have hr : divR xs ys = L (V xs % V ys) := by unfold divR; rw [hok]; rfl
  simp only [divOk, Bool.and_eq_true, decide_eq_true_eq] at hok
  obtain ⟨⟨h1, h2⟩, h3⟩ := hok
  rw [hq] at l1 ⊢
  rw [hr] at l2 ⊢
  have hm : mulDoc (L (V xs / V ys)) ys = L (V xs / V ys * V ys) := by unfold mulDoc; rw [if_pos ⟨l1, h2⟩, V_L]
  rw [hm]
  have s1 := L_len xs hx
  have h4 := L_lt (V xs) xs.length s1
  have l3 : (L (V xs / V ys * V ys)).length ≤ xs.length := M.len_of_lt (B := 18446744073709551616) (by omega) _ _ (Nat.lt_of_le_of_lt (Nat.div_mul_le_self _ _) h4)
  refine ⟨?_, ?_, h1⟩
  · unfold addDoc
    rw [if_pos ⟨by omega, l2⟩, V_L, V_L, Nat.mul_comm, Nat.div_add_mod]
  · unfold cmpDoc
    rw [if_pos ⟨l2, h2⟩, V_L]
    exact cmpI_nat_lt (Nat.mod_lt _ h3)

theorem addDoc_F (xs ys : List Nat) : F64 (addDoc xs ys) := by
  unfold addDoc; split
  · exact F64_L _
  · intro x hx; simp at hx
theorem mulDoc_F (xs ys : List Nat) : F64 (mulDoc xs ys) := by
  unfold mulDoc; split
  · exact F64_L _
  · intro x hx; simp at hx
theorem divQ_F (xs ys : List Nat) : F64 (divQ xs ys) := by
  unfold divQ; split
  · exact F64_L _
  · intro x hx; simp at hx
theorem divR_F (xs ys : List Nat) : F64 (divR xs ys) := by
  unfold divR; split
  · exact F64_L _
  · intro x hx; simp at hx

theorem div_nil (xs ys : List Nat) (hok : divOk xs ys = false) : divQ xs ys = [] ∧ divR xs ys = [] := by
  unfold divQ divR; rw [hok]; exact ⟨rfl, rfl⟩

set_option maxHeartbeats 8000000 in
set_option maxRecDepth 100000 in
theorem lawDivMod (a0 : Option Addr) (n c : Nat) (bs : List Nat) (w : World) (w0 : InB w a0 n c bs) :
    Calls Try.prog 4 #[.slice a0 n c] w fun e w' => e = .returned (.bool true) ∧ Below w.heap.size w w' := by
  obtain ⟨hl, hc, hb⟩ := w0
  by_cases h1 : n ≤ 1048576
  · obtain ⟨hx, hxl, hy, hyl⟩ := drawD_facts bs n hl hb.1
    obtain ⟨xs, exs⟩ : ∃ xs : List Nat, xs = drawDA bs := ⟨_, rfl⟩
    obtain ⟨ys, eys⟩ : ∃ xs : List Nat, xs = drawDB bs := ⟨_, rfl⟩
    rw [← exs] at hx hxl
    rw [← eys] at hy hyl
    obtain ⟨lq, lr⟩ := div_len xs ys hx hy
    have fq := divQ_F xs ys
    have fr := divR_F xs ys
    have lm := mulDoc_len (divQ xs ys) ys fq hy
    have fm := mulDoc_F (divQ xs ys) ys
    have hfull := fun h => div_back xs ys hx hy h
    have hnone := fun h => div_nil xs ys h
    obtain ⟨q, eq⟩ : ∃ q, q = divQ xs ys := ⟨_, rfl⟩
    obtain ⟨r, er⟩ : ∃ q, q = divR xs ys := ⟨_, rfl⟩
    obtain ⟨ok, eok⟩ : ∃ q, q = divOk xs ys := ⟨_, rfl⟩
    rw [← eq] at lq fq lm fm hfull hnone
    rw [← er] at lr fr hfull hnone
    rw [← eok] at hfull hnone
    obtain ⟨m, em⟩ : ∃ m0, m0 = mulDoc q ys := ⟨_, rfl⟩
    rw [← em] at lm fm hfull
    have HXS := hid exs; have HYS := hid eys; have EQ := hid eq; have ER := hid er; have EOK := hid eok; have EM := hid em; have HF := hid hfull; have HN := hid hnone
    clear exs eys eq er eok em hfull hnone
    have hne : (ok != ok) = false := by simp
    go_enter Try.func4, Try.ntmps4
    go_wp2_with fail
    refine (drawDiv_any a0 n c bs _ hl h1 hb).mono ?_
    rw [← HXS.out, ← HYS.out]
    rintro e v1 ⟨ra, ca, rb, cb, rfl, ra1, rb1, hca, hcb, hb1⟩
    go_wp2_with fail
    refine (drawDiv_any a0 n c bs _ hl h1 (hb.below hb1)).mono ?_
    rw [← HXS.out, ← HYS.out]
    rintro e v2 ⟨sa, da, sb, db, rfl, sa2, sb2, hda, hdb, hb2'⟩
    have hb2 := hb1.trans (hb2'.mono hb1.size)
    have ra2 := ra1.below hb2'
    have rb2 := rb1.below hb2'
    clear ra1 rb1 hb2' hb1
    go_wp2_with fail
    refine (implNatDivMod_any ra rb _ _ ca cb xs ys _ rfl rfl hca hcb (by omega) (by omega) hx hy ra2 rb2).mono ?_
    rw [← EQ.out, ← ER.out, ← EOK.out]
    rintro e v3 ⟨qa, qc, ta, tc, mid, rfl, _, _, oq, orr, hb3'⟩
    have hb3 := hb2.trans (hb3'.mono hb2.size)
    have rq := oq.rd; have rr := orr.rd
    have hqc := own_cap oq.row; have htc := own_cap orr.row
    have sa3 := sa2.below hb3'; have sb3 := sb2.below hb3'
    clear oq orr hb3' hb2 ra2 rb2 sa2 sb2
    go_wp2_with fail
    refine (specNatDivMod_any sa sb _ _ da db xs ys _ rfl rfl (by omega) (by omega) hx hy sa3 sb3).mono ?_
    rw [← EQ.out, ← ER.out, ← EOK.out]
    rintro e v4 ⟨xa4, xc4, ya4, yc4, mid4, rfl, _, _, _, _, hb4'⟩
    have hb4 := hb3.trans (hb4'.mono hb3.size)
    have rq4 := rq.below hb4'; have rr4 := rr.below hb4'; have sa4 := sa3.below hb4'; have sb4 := sb3.below hb4'
    clear hb4' hb3 rq rr sa3 sb3
    by_cases hok : ok = true
    · obtain ⟨hbk, hcm, hx12⟩ := HF.out hok
      subst hok
      obtain ⟨z, ez⟩ : ∃ z, z = L (V xs) := ⟨_, rfl⟩
      have hzl : z.length ≤ 1201 := by rw [ez]; have := L_len xs hx; omega
      have hs0 := sh0 xs hx12
      rw [← ez] at hbk hs0
      have HBK := hid hbk; have HCM := hid hcm; have HS0 := hid hs0
      clear hbk hcm hs0 ez
      go_wp2_with fail
      refine (implNatMul_any qa sb _ _ qc db q ys _ rfl rfl hqc hdb (by omega) (by omega) fq hy rq4 sb4).mono ?_
      rw [← EM.out]
      rintro e v5 ⟨ma, mc, rfl, om, hb5'⟩
      have hb5 := hb4.trans (hb5'.mono hb4.size)
      have rm5 := Rd.own om; have hmc := own_cap om
      have rr5 := rr4.below hb5'; have sa5 := sa4.below hb5'; have sb5 := sb4.below hb5'
      clear om hb5' hb4 rq4 rr4 sa4 sb4
      go_wp2_with fail
      refine (implNatAdd_any ma ta _ _ mc tc m r _ rfl rfl hmc htc (by omega) (by omega) fm fr rm5 rr5).mono ?_
      rw [HBK.out]
      rintro e v6 ⟨za, zc, rfl, oz, hb6'⟩
      have hb6 := hb5.trans (hb6'.mono hb5.size)
      have rz6 := Rd.own oz
      have rr6 := rr5.below hb6'; have sa6 := sa5.below hb6'; have sb6 := sb5.below hb6'
      clear oz hb6' hb5 rm5 rr5 sa5 sb5
      go_wp2_with fail
      refine (specNatShift_any sa _ da xs 0 _ rfl (by omega) hx sa6).mono ?_
      rw [HS0.out]
      rintro e v7 ⟨ya, yc, rfl, oy, hb7'⟩
      have hb7 := hb6.trans (hb7'.mono hb6.size)
      have ry7 := Rd.own oy
      have rz7 := rz6.below hb7'; have rr7 := rr6.below hb7'; have sb7 := sb6.below hb7'
      clear oy hb7' hb6 rz6 rr6 sa6 sb6
      go_wp2_with fail
      refine (same_any za ya _ _ zc yc z z _ rfl rfl (by omega) (by omega) rz7 ry7).mono ?_
      rintro e v8' ⟨rfl, q8, rfl⟩
      rw [show decide (z = z) = true by simp]
      have hb8 := below_drewN hb7 q8
      have rr8 := rr7.drewN q8; have sb8 := sb7.drewN q8
      generalize v7.drewN q8 = v8 at hb8 rr8 sb8 ⊢
      clear hb7 rz7 ry7 rr7 sb7
      go_wp2_with fail
      refine (implNatCmp_any ta sb _ _ tc db r ys _ rfl rfl htc hdb (by omega) (by omega) fr hy rr8 sb8).mono ?_
      rw [HCM.out]
      rintro e v9 ⟨rfl, hb9'⟩
      go_wp2_with fail
      go_ret
      exact ⟨rfl, hb8.trans (hb9'.mono hb8.size)⟩
    · have hok' : ok = false := by simpa using hok
      obtain ⟨hq0, hr0⟩ := HN.out hok'
      subst hok' hq0 hr0
      go_wp2_with fail
      go_ret
      exact ⟨rfl, hb4⟩
  · go_enter Try.func4, Try.ntmps4
    go_wp2_with fail
    go_ret
    exact ⟨rfl, Below.refl _ _⟩

end Go.Proofs.Ytehplfmnipadmad
