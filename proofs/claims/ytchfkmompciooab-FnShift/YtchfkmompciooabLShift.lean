import Derived.Test.YtchfkmompciooabDraw5
import Derived.Test.YtchfkmompciooabSame
import Derived.Test.YtchfkmompciooabW13a
import Derived.Test.YtchfkmompciooabW18
import Derived.Test.YtchfkmompciooabW20
import Derived.Test.YtchfkmompciooabLb
namespace Go.Proofs.Ytchfkmompciooab
open Go.RowKit
set_option linter.unusedVariables false

theorem powDoc_of (b e : Nat) (h : e ≤ 1000) (hb : b < 18446744073709551616) : powDoc b (e : Int) = L (b ^ e) := by
  have h1 : blen b ≤ 64 := blen_le_of b 64 hb
  have h2 : blen b * e ≤ 64 * 1000 := Nat.mul_le_mul h1 h
  unfold powDoc
  rw [Int.toNat_natCast, if_pos ⟨by omega, by omega, by omega⟩]

theorem shDoc_back (xs : List Nat) (s : Nat) (hx : F64 xs) (h1 : xs.length ≤ 1200) (h2 : s ≤ 80000) (h3 : (shDoc xs (s : Int)).length ≤ 1200) : shDoc (shDoc xs (s : Int)) (-(s : Int)) = shDoc xs 0 := by
  have e0 : shDoc xs 0 = L (V xs) := by
    unfold shDoc; rw [if_pos (by omega)]
    have := shVal_left (V xs) 0
    simp at this
    rw [show shVal (V xs) 0 = V xs from this]
  have e1 : shDoc xs (s : Int) = L (V xs * 2 ^ s) := by unfold shDoc; rw [if_pos (by omega), shVal_left]
  rw [e0]
  rw [e1] at h3 ⊢
  by_cases hs : 0 < s
  · unfold shDoc
    rw [if_pos (by omega), shVal_right _ _ hs, V_L, Nat.mul_div_cancel _ (Nat.pow_pos (by omega))]
  · have : s = 0 := by omega
    subst this
    unfold shDoc
    rw [if_pos (by omega)]
    have := shVal_left (V (L (V xs * 2 ^ 0))) 0
    simp at this
    simp only [Nat.pow_zero, Nat.mul_one]
    rw [show shVal (V (L (V xs))) (-((0 : Nat) : Int)) = V (L (V xs)) from this, V_L]

theorem mulDoc_pow (b x y : Nat) (hx : x < 100) (hy : y < 100) (hb : b < 18446744073709551616) : mulDoc (L (b ^ x)) (L (b ^ y)) = L (b ^ (x + y)) := by
  have h1 : blen b ≤ 64 := blen_le_of b 64 hb
  have h2 : blen b * x ≤ 64 * 99 := Nat.mul_le_mul h1 (by omega)
  have h3 : blen b * y ≤ 64 * 99 := Nat.mul_le_mul h1 (by omega)
  have h4 : (L (b ^ x)).length ≤ 1200 := pow_len (j := 64) rfl (by omega) b x 1200 (by omega)
  have h5 : (L (b ^ y)).length ≤ 1200 := pow_len (j := 64) rfl (by omega) b y 1200 (by omega)
  unfold mulDoc
  rw [if_pos ⟨h4, h5⟩, V_L, V_L, Nat.pow_add]

theorem shDoc_F (xs : List Nat) (z : Int) : F64 (shDoc xs z) := by
  unfold shDoc
  split
  · exact F64_L _
  · intro x hx; simp at hx

theorem Rd.drewN {w : World} {ao : Option Addr} {xs : List Nat} (h : Rd w ao xs) (q : Nat) : Rd (w.drewN q) ao xs := h

theorem mod100 (z : Int) (h1 : -100 ≤ z) (h2 : z ≤ 20001) : ∃ x : Nat, x < 100 ∧ (wrap64 (z.tmod 100 + 100)).tmod 100 = (x : Int) := by
  have hb : -100 < z.tmod 100 ∧ z.tmod 100 < 100 := by
    by_cases hz : 0 ≤ z
    · rw [Int.tmod_eq_emod_of_nonneg hz]; omega
    · obtain ⟨m, hm⟩ : ∃ m : Int, z = -m := ⟨-z, by omega⟩
      rw [hm, Int.neg_tmod, Int.tmod_eq_emod_of_nonneg (by omega)]; omega
  have hw : wrap64 (z.tmod 100 + 100) = z.tmod 100 + 100 := by unfold wrap64; omega
  rw [hw, Int.tmod_eq_emod_of_nonneg (by omega)]
  exact ⟨((z.tmod 100 + 100) % 100).toNat, by omega, by omega⟩

theorem dec_selfL (r : List Nat) : decide (r = r) = true := by simp

set_option maxHeartbeats 8000000 in
set_option maxRecDepth 100000 in
theorem lawShift (a0 : Option Addr) (n c : Nat) (bs : List Nat) (w : World) (w0 : InB w a0 n c bs) :
    Calls Try.prog 6 #[.slice a0 n c] w fun e w' => e = .returned (.bool true) ∧ Below w.heap.size w w' := by
  obtain ⟨hl, hc, hb⟩ := w0
  by_cases h1 : n ≤ 1048576
  · have hlf := limbsAll_facts bs 0 n hl (by omega) hb.1
    obtain ⟨xs, exs⟩ : ∃ xs : List Nat, xs = (limbsAll bs 0).1 := ⟨_, rfl⟩
    have hx : F64 xs := by rw [exs]; exact hlf.2.1
    have hxl : xs.length ≤ 1201 := by rw [exs]; exact hlf.2.2
    have HXS := hid exs
    clear exs hlf
    go_enter Try.func6, Try.ntmps6
    go_wp2_with fail
    refine (drawShift_any a0 n c bs _ hl h1 hb).mono ?_
    rintro e v1 ⟨ra, ca, z, rfl, hz1, hz2, hoa, hb1⟩
    rw [← HXS.out] at hoa ⊢
    have ha1 := Rd.own hoa
    have hca := own_cap hoa
    clear hoa
    go_wp2_with fail
    refine (drawShift_any a0 n c bs _ hl h1 (hb.below hb1)).mono ?_
    rintro e v2 ⟨rb, cb, z', rfl, hz1', hz2', hob, hb2'⟩
    rw [← HXS.out] at hob ⊢
    have hb2 := hb1.trans (hb2'.mono hb1.size)
    have ha2 := ha1.below hb2'
    have hr2 := Rd.own hob
    clear hob hb2' hb1 ha1 hz1' hz2'
    obtain ⟨s, hs⟩ : ∃ s : Nat, (z < 0 ∧ -z = (s : Int)) ∨ (¬ z < 0 ∧ z = (s : Int)) := ⟨z.natAbs, by omega⟩
    have hsb : s ≤ 80001 := by omega
    rcases hs with ⟨hneg, hsz⟩ | ⟨hneg, hsz⟩
    all_goals
      have hlen := shDoc_len xs (s : Int) hx
      obtain ⟨r, er⟩ : ∃ r : List Nat, r = shDoc xs (s : Int) := ⟨_, rfl⟩
      have hrF : F64 r := by rw [er]; exact shDoc_F xs _
      rw [← er] at hlen
      have HR := hid er; clear er
      go_wp2_with fail
      refine (implNatShift_any ra _ ca xs (s : Int) _ rfl hca (by omega) hx ha2).mono ?_
      rw [← HR.out]
      rintro e v3 ⟨ru, cu, rfl, hou, hb3'⟩
      have hcu := own_cap hou
      have hu3 := Rd.own hou
      have hr3 := hr2.below hb3'
      have hb3 := hb2.trans (hb3'.mono hb2.size)
      clear hou hb3' hb2 ha2 hr2
      go_wp2_with fail
      refine (specNatShift_any rb _ cb xs (s : Int) _ rfl (by omega) hx hr3).mono ?_
      rw [← HR.out]
      rintro e v4 ⟨rs, cs, rfl, hos, hb4'⟩
      have hs4 := Rd.own hos
      have hu4 := hu3.below hb4'
      have hr4 := hr3.below hb4'
      have hb4 := hb3.trans (hb4'.mono hb3.size)
      clear hos hb4' hb3 hu3 hr3
      go_wp2_with fail
      refine (same_any ru rs _ _ cu cs r r _ rfl rfl (by omega) (by omega) hu4 hs4).mono ?_
      rintro e v5' ⟨rfl, q5, rfl⟩
      rw [dec_selfL]
      have hb5 := below_drewN hb4 q5
      have hu5 := hu4.drewN q5
      have hr5 := hr4.drewN q5
      generalize v4.drewN q5 = v5 at hb5 hu5 hr5 ⊢
      clear hb4 hu4 hr4 hs4
      by_cases hcond : s ≤ 80000 ∧ xs.length ≤ 1200 ∧ r.length ≤ 1200
      · obtain ⟨hc1, hc2, hc3⟩ := hcond
        have hback : shDoc r (-(s : Int)) = shDoc xs 0 := by
          have h3 := hc3
          rw [HR.out] at h3
          have := shDoc_back xs s hx hc2 hc1 h3
          rw [← HR.out] at this
          exact this
        obtain ⟨t, et⟩ : ∃ t : List Nat, t = shDoc xs 0 := ⟨_, rfl⟩
        have htl := shDoc_len xs 0 hx
        rw [← et] at hback htl
        have HBK := hid hback; have HT := hid et
        clear hback et
        go_wp2_with fail
        refine (implNatShift_any ru _ cu r (-(s : Int)) _ rfl hcu (by omega) hrF hu5).mono ?_
        rw [HBK.out]
        rintro e v6 ⟨r6, c6, rfl, ho6, hb6'⟩
        have h6 := Rd.own ho6
        have hr6 := hr5.below hb6'
        have hb6 := hb5.trans (hb6'.mono hb5.size)
        clear ho6 hb6' hb5 hu5 hr5
        go_wp2_with fail
        refine (specNatShift_any rb _ cb xs 0 _ rfl (by omega) hx hr6).mono ?_
        rw [← HT.out]
        rintro e v7 ⟨r7, c7, rfl, ho7, hb7'⟩
        have h7 := Rd.own ho7
        have h6' := h6.below hb7'
        have hb7 := hb6.trans (hb7'.mono hb6.size)
        clear ho7 hb7' hb6 h6 hr6
        go_wp2_with fail
        refine (same_any r6 r7 _ _ c6 c7 t t _ rfl rfl (by omega) (by omega) h6' h7).mono ?_
        rintro e v8' ⟨rfl, q8, rfl⟩
        rw [dec_selfL]
        have hb8 := below_drewN hb7 q8
        generalize v7.drewN q8 = v8 at hb8 ⊢
        clear hb7 h6' h7
        go_wp2_with fail
        refine (drawPow_any a0 n c bs _ hl h1 (hb.below hb8)).mono ?_
        rintro e v9 ⟨b, z2, rfl, hbb, hz3, hz4, hb9'⟩
        have hb9 := hb8.trans (hb9'.mono hb8.size)
        clear hb8 hb9'
        obtain ⟨x, hx100, hxI⟩ := mod100 z2 hz3 hz4
        obtain ⟨y, ey⟩ : ∃ y : Nat, y = s % 100 := ⟨_, rfl⟩
        have hyI : (s : Int) % 100 = (y : Int) := by omega
        have hy100 : y < 100 := by omega
        clear ey
        obtain ⟨P1, eP1⟩ : ∃ P : List Nat, P = L (b ^ x) := ⟨_, rfl⟩
        obtain ⟨P2, eP2⟩ : ∃ P : List Nat, P = L (b ^ y) := ⟨_, rfl⟩
        obtain ⟨P3, eP3⟩ : ∃ P : List Nat, P = L (b ^ (x + y)) := ⟨_, rfl⟩
        have d1 : powDoc b (x : Int) = P1 := by rw [eP1]; exact powDoc_of b x (by omega) hbb
        have d2 : powDoc b (y : Int) = P2 := by rw [eP2]; exact powDoc_of b y (by omega) hbb
        have d3 : powDoc b ((x : Int) + (y : Int)) = P3 := by
          rw [eP3, ← powDoc_of b (x + y) (by omega) hbb]; congr 1
        have dm : mulDoc P1 P2 = P3 := by rw [eP1, eP2, eP3]; exact mulDoc_pow b x y hx100 hy100 hbb
        have l1 : P1.length ≤ 1201 := by rw [← d1]; exact powDoc_len b _
        have l2 : P2.length ≤ 1201 := by rw [← d2]; exact powDoc_len b _
        have l3 : P3.length ≤ 1201 := by rw [← d3]; exact powDoc_len b _
        have f1 : F64 P1 := by rw [eP1]; exact F64_L _
        have f2 : F64 P2 := by rw [eP2]; exact F64_L _
        have D1 := hid d1; have D2 := hid d2; have D3 := hid d3; have DM := hid dm
        clear d1 d2 d3 dm eP1 eP2 eP3
        go_wp2_with fail
        refine (implNatPow_any b (x : Int) _ hbb).mono ?_
        rw [D1.out]
        rintro e u1 ⟨g1, k1, rfl, o1, bu1'⟩
        have bu1 := hb9.trans (bu1'.mono hb9.size)
        have rd1 := Rd.own o1
        have cp1 := own_cap o1
        clear o1 bu1'
        go_wp2_with fail
        refine (implNatPow_any b (y : Int) _ hbb).mono ?_
        rw [D2.out]
        rintro e u2 ⟨g2, k2, rfl, o2, bu2'⟩
        have bu2 := bu1.trans (bu2'.mono bu1.size)
        have rd1' := rd1.below bu2'
        have rd2 := Rd.own o2
        have cp2 := own_cap o2
        clear o2 bu2' rd1 bu1
        go_wp2_with fail
        refine (implNatMul_any g1 g2 _ _ k1 k2 P1 P2 _ rfl rfl cp1 cp2 (by omega) (by omega) f1 f2 rd1' rd2).mono ?_
        rw [DM.out]
        rintro e u3 ⟨g3, k3, rfl, o3, bu3'⟩
        have bu3 := bu2.trans (bu3'.mono bu2.size)
        have rd3 := Rd.own o3
        clear o3 bu3' rd1' rd2 bu2
        go_wp2_with fail
        refine (specNatPow_any b ((x : Int) + (y : Int)) _ hbb).mono ?_
        rw [D3.out]
        rintro e u4 ⟨g4, k4, rfl, o4, bu4'⟩
        have bu4 := bu3.trans (bu4'.mono bu3.size)
        have rd3' := rd3.below bu4'
        have rd4 := Rd.own o4
        clear o4 bu4' rd3 bu3
        go_wp2_with fail
        refine (same_any g3 g4 _ _ k3 k4 P3 P3 _ rfl rfl (by omega) (by omega) rd3' rd4).mono ?_
        rintro e u5' ⟨rfl, q5', rfl⟩
        rw [dec_selfL]
        have bu5 := below_drewN bu4 q5'
        generalize u4.drewN q5' = u5 at bu5 ⊢
        clear bu4 rd3' rd4
        go_wp2_with fail
        refine (implNatPow_any b ((x : Int) + (y : Int)) _ hbb).mono ?_
        rw [D3.out]
        rintro e u6 ⟨g6, k6, rfl, o6, bu6'⟩
        have bu6 := bu5.trans (bu6'.mono bu5.size)
        have rd6 := Rd.own o6
        clear o6 bu6' bu5
        go_wp2_with fail
        refine (specNatPow_any b ((x : Int) + (y : Int)) _ hbb).mono ?_
        rw [D3.out]
        rintro e u7 ⟨g7, k7, rfl, o7, bu7'⟩
        have bu7 := bu6.trans (bu7'.mono bu6.size)
        have rd6' := rd6.below bu7'
        have rd7 := Rd.own o7
        clear o7 bu7' rd6 bu6
        go_wp2_with fail
        refine (same_any g6 g7 _ _ k6 k7 P3 P3 _ rfl rfl (by omega) (by omega) rd6' rd7).mono ?_
        rintro e u8' ⟨rfl, q8', rfl⟩
        rw [dec_selfL]
        go_wp2_with fail
        go_ret
        exact ⟨rfl, below_drewN bu7 _⟩
      · have hcc : (s ≤ 80000 ∧ xs.length ≤ 1200 ∧ ¬ r.length ≤ 1200) ∨ (s ≤ 80000 ∧ ¬ xs.length ≤ 1200) ∨ ¬ s ≤ 80000 := by omega
        clear hcond
        have hb8 := hb5
        clear hb5 hu5 hr5
        rcases hcc with ⟨hc1, hc2, hc3⟩ | ⟨hc1, hc2⟩ | hc1
        all_goals
          go_wp2_with fail
          refine (drawPow_any a0 n c bs _ hl h1 (hb.below hb8)).mono ?_
          rintro e v9 ⟨b, z2, rfl, hbb, hz3, hz4, hb9'⟩
          have hb9 := hb8.trans (hb9'.mono hb8.size)
          clear hb8 hb9'
          obtain ⟨x, hx100, hxI⟩ := mod100 z2 hz3 hz4
          obtain ⟨y, ey⟩ : ∃ y : Nat, y = s % 100 := ⟨_, rfl⟩
          have hyI : (s : Int) % 100 = (y : Int) := by omega
          have hy100 : y < 100 := by omega
          clear ey
          obtain ⟨P1, eP1⟩ : ∃ P : List Nat, P = L (b ^ x) := ⟨_, rfl⟩
          obtain ⟨P2, eP2⟩ : ∃ P : List Nat, P = L (b ^ y) := ⟨_, rfl⟩
          obtain ⟨P3, eP3⟩ : ∃ P : List Nat, P = L (b ^ (x + y)) := ⟨_, rfl⟩
          have d1 : powDoc b (x : Int) = P1 := by rw [eP1]; exact powDoc_of b x (by omega) hbb
          have d2 : powDoc b (y : Int) = P2 := by rw [eP2]; exact powDoc_of b y (by omega) hbb
          have d3 : powDoc b ((x : Int) + (y : Int)) = P3 := by
            rw [eP3, ← powDoc_of b (x + y) (by omega) hbb]; congr 1
          have dm : mulDoc P1 P2 = P3 := by rw [eP1, eP2, eP3]; exact mulDoc_pow b x y hx100 hy100 hbb
          have l1 : P1.length ≤ 1201 := by rw [← d1]; exact powDoc_len b _
          have l2 : P2.length ≤ 1201 := by rw [← d2]; exact powDoc_len b _
          have l3 : P3.length ≤ 1201 := by rw [← d3]; exact powDoc_len b _
          have f1 : F64 P1 := by rw [eP1]; exact F64_L _
          have f2 : F64 P2 := by rw [eP2]; exact F64_L _
          have D1 := hid d1; have D2 := hid d2; have D3 := hid d3; have DM := hid dm
          clear d1 d2 d3 dm eP1 eP2 eP3
          go_wp2_with fail
          refine (implNatPow_any b (x : Int) _ hbb).mono ?_
          rw [D1.out]
          rintro e u1 ⟨g1, k1, rfl, o1, bu1'⟩
          have bu1 := hb9.trans (bu1'.mono hb9.size)
          have rd1 := Rd.own o1
          have cp1 := own_cap o1
          clear o1 bu1'
          go_wp2_with fail
          refine (implNatPow_any b (y : Int) _ hbb).mono ?_
          rw [D2.out]
          rintro e u2 ⟨g2, k2, rfl, o2, bu2'⟩
          have bu2 := bu1.trans (bu2'.mono bu1.size)
          have rd1' := rd1.below bu2'
          have rd2 := Rd.own o2
          have cp2 := own_cap o2
          clear o2 bu2' rd1 bu1
          go_wp2_with fail
          refine (implNatMul_any g1 g2 _ _ k1 k2 P1 P2 _ rfl rfl cp1 cp2 (by omega) (by omega) f1 f2 rd1' rd2).mono ?_
          rw [DM.out]
          rintro e u3 ⟨g3, k3, rfl, o3, bu3'⟩
          have bu3 := bu2.trans (bu3'.mono bu2.size)
          have rd3 := Rd.own o3
          clear o3 bu3' rd1' rd2 bu2
          go_wp2_with fail
          refine (specNatPow_any b ((x : Int) + (y : Int)) _ hbb).mono ?_
          rw [D3.out]
          rintro e u4 ⟨g4, k4, rfl, o4, bu4'⟩
          have bu4 := bu3.trans (bu4'.mono bu3.size)
          have rd3' := rd3.below bu4'
          have rd4 := Rd.own o4
          clear o4 bu4' rd3 bu3
          go_wp2_with fail
          refine (same_any g3 g4 _ _ k3 k4 P3 P3 _ rfl rfl (by omega) (by omega) rd3' rd4).mono ?_
          rintro e u5' ⟨rfl, q5', rfl⟩
          rw [dec_selfL]
          have bu5 := below_drewN bu4 q5'
          generalize u4.drewN q5' = u5 at bu5 ⊢
          clear bu4 rd3' rd4
          go_wp2_with fail
          refine (implNatPow_any b ((x : Int) + (y : Int)) _ hbb).mono ?_
          rw [D3.out]
          rintro e u6 ⟨g6, k6, rfl, o6, bu6'⟩
          have bu6 := bu5.trans (bu6'.mono bu5.size)
          have rd6 := Rd.own o6
          clear o6 bu6' bu5
          go_wp2_with fail
          refine (specNatPow_any b ((x : Int) + (y : Int)) _ hbb).mono ?_
          rw [D3.out]
          rintro e u7 ⟨g7, k7, rfl, o7, bu7'⟩
          have bu7 := bu6.trans (bu7'.mono bu6.size)
          have rd6' := rd6.below bu7'
          have rd7 := Rd.own o7
          clear o7 bu7' rd6 bu6
          go_wp2_with fail
          refine (same_any g6 g7 _ _ k6 k7 P3 P3 _ rfl rfl (by omega) (by omega) rd6' rd7).mono ?_
          rintro e u8' ⟨rfl, q8', rfl⟩
          rw [dec_selfL]
          go_wp2_with fail
          go_ret
          exact ⟨rfl, below_drewN bu7 _⟩
  · go_enter Try.func6, Try.ntmps6
    go_wp2_with fail
    go_ret
    exact ⟨rfl, Below.refl _ _⟩

end Go.Proofs.Ytchfkmompciooab
