import Derived.Test.YtehplfmnipadmadZDraw7
import Derived.Test.YtehplfmnipadmadZBC
import Derived.Test.YtehplfmnipadmadZBF
import Derived.Test.YtehplfmnipadmadSame
import Derived.Test.YtehplfmnipadmadZBI
import Derived.Test.YtehplfmnipadmadW18
import Derived.Test.YtehplfmnipadmadZBG
namespace Go.Proofs.Ytehplfmnipadmad
open Go.RowKit
set_option linter.unusedVariables false
set_option maxRecDepth 100000

theorem isDig_all (bs : List Nat) (h : M.Dig bs) : bs.all isDig = true := by
  rw [List.all_eq_true]
  intro c hc
  have := h c hc
  unfold isDig
  simp; omega

theorem ft_txt (v : Nat) : ftOk (M.txt v) = decide ((M.txt v).length ≤ 20000) := by
  unfold ftOk
  have h1 : decide (1 ≤ (M.txt v).length) = true := by have := M.txt_pos v; simp; omega
  rw [h1, isDig_all _ (M.txt_dig v)]
  simp

theorem sh_zero (xs : List Nat) (h1 : xs.length ≤ 1200) : shDoc xs 0 = L (V xs) := by
  unfold shDoc; rw [if_pos (by omega)]
  have := shVal_left (V xs) 0
  simp at this
  rw [show shVal (V xs) 0 = V xs from this]

theorem ten_len (v m K n : Nat) (h : (M.txt v).length ≤ m) (hK : m + 1 ≤ 3 * K) (hn : 10 * K ≤ 64 * n) : v * 10 < 18446744073709551616 ^ n := by
  have h1 := M.dec_lt (M.txt v) (M.txt_dig v)
  rw [M.dec_txt] at h1
  have h2 : 10 ^ (M.txt v).length ≤ 10 ^ m := Nat.pow_le_pow_right (by omega) h
  have h3 : (10 : Nat) ^ (m + 1) = 10 ^ m * 10 := Nat.pow_succ _ _
  have h4 : (10 : Nat) ^ (m + 1) ≤ 10 ^ (3 * K) := Nat.pow_le_pow_right (by omega) hK
  have h5 : (10 : Nat) ^ (3 * K) ≤ 2 ^ (10 * K) := by rw [Nat.pow_mul, Nat.pow_mul]; exact Nat.pow_le_pow_left (by decide) _
  have h7 : (18446744073709551616 : Nat) ^ n = 2 ^ (64 * n) := by rw [Nat.pow_mul]
  have h8 : (2 : Nat) ^ (10 * K) ≤ 2 ^ (64 * n) := Nat.pow_le_pow_right (by omega) hn
  rw [h7]
  omega

theorem mul_ten (xs : List Nat) (h1 : xs.length ≤ 1200) : mulDoc xs [10] = L (V xs * 10) := by
  unfold mulDoc
  rw [if_pos ⟨h1, by simp⟩]
  simp [V, M.val]

theorem add_seven (v : Nat) (h1 : (L v).length ≤ 1200) : addDoc (L v) [7] = L (v + 7) := by
  unfold addDoc
  rw [if_pos ⟨h1, by simp⟩, V_L]
  simp [V, M.val]

theorem ft_more (v : Nat) (h : (M.txt v).length ≤ 19999) : ftOk (M.txt v ++ [55]) = true ∧ ftDoc (M.txt v ++ [55]) = L (v * 10 + 7) := by
  have hd : M.Dig (M.txt v ++ [55]) := by
    intro c hc
    rcases List.mem_append.1 hc with h | h
    · exact M.txt_dig v c h
    · simp at h; omega
  have e : ftOk (M.txt v ++ [55]) = true := by
    unfold ftOk
    have hl : (M.txt v ++ [55]).length = (M.txt v).length + 1 := by simp
    rw [isDig_all _ hd, hl]
    simp; omega
  refine ⟨e, ?_⟩
  unfold ftDoc
  rw [if_pos e, M.dec_snoc, M.dec_txt]

theorem dec_selfL (r : List Nat) : decide (r = r) = true := by simp

set_option maxHeartbeats 8000000 in
set_option maxRecDepth 100000 in
theorem lawNatText (a0 : Option Addr) (n c : Nat) (bs : List Nat) (w : World) (w0 : InB w a0 n c bs) :
    Calls Try.prog 3 #[.slice a0 n c] w fun e w' => e = .returned (.bool true) ∧ Below w.heap.size w w' := by
  obtain ⟨hl, hc, hb⟩ := w0
  by_cases h1 : n ≤ 1048576
  · have hlf := limbsAll_facts bs 0 n hl (by omega) hb.1
    obtain ⟨xs, exs⟩ : ∃ xs : List Nat, xs = (limbsAll bs 0).1 := ⟨_, rfl⟩
    have hx : F64 xs := by rw [exs]; exact hlf.2.1
    have hxl : xs.length ≤ 1201 := by rw [exs]; exact hlf.2.2
    have HXS := hid exs
    clear exs hlf
    go_enter Try.func3, Try.ntmps3
    go_wp2_with fail
    refine (drawTT_any a0 n c bs _ hl h1 hb).mono ?_
    rintro e v1 ⟨ra, ca, rfl, hoa, hb1⟩
    rw [← HXS.out] at hoa ⊢
    have ha1 := Rd.own hoa
    have hca := own_cap hoa
    clear hoa
    go_wp2_with fail
    refine (drawTT_any a0 n c bs _ hl h1 (hb.below hb1)).mono ?_
    rintro e v2 ⟨rb, cb, rfl, hob, hb2'⟩
    rw [← HXS.out] at hob ⊢
    have hb2 := hb1.trans (hb2'.mono hb1.size)
    have ha2 := ha1.below hb2'
    have hr2 := Rd.own hob
    clear hob hb2' hb1 ha1
    have hlen := ttDoc_len xs hx
    obtain ⟨t, et⟩ : ∃ t : List Nat, t = ttDoc xs := ⟨_, rfl⟩
    rw [← et] at hlen
    have HT := hid et; clear et
    go_wp2_with fail
    refine (implNatToText_any ra _ ca xs _ rfl hca (by omega) hx ha2).mono ?_
    rw [← HT.out]
    rintro e v3 ⟨rt, ct, rfl, hot, hb3'⟩
    have hb3 := hb2.trans (hb3'.mono hb2.size)
    have hr3 := hr2.below hb3'
    clear hb3' ha2 hr2 hb2
    by_cases h12 : xs.length ≤ 1200
    · have h12' : ¬ (1200 : Int) < (xs.length : Int) := by omega
      have etx : t = M.txt (V xs) := by rw [HT.out]; unfold ttDoc; rw [if_pos h12]
      have hdg : ∀ x ∈ t, x < 256 := by intro x hx'; rw [etx] at hx'; have := M.txt_dig _ x hx'; omega
      have hct := ownY_cap hot
      have hcm : ct ≤ 9223372036854775807 := ownY_max hot
      have hrt := RdY.own hot
      have hpos : 0 < t.length := by rw [etx]; exact M.txt_pos _
      obtain ⟨fd, hfd⟩ : ∃ fd, fd = ftDoc t := ⟨_, rfl⟩
      obtain ⟨fk, hfk⟩ : ∃ fk, fk = ftOk t := ⟨_, rfl⟩
      have HFD := hid hfd; have HFK := hid hfk; have HET := hid etx
      clear hfd hfk etx
      go_wp2_with fail
      refine (implNatFromText_any rt _ ct t _ rfl (by omega) hct hcm (RdB.of hrt hdg)).mono ?_
      rw [← HFD.out, ← HFK.out]
      rintro e v4 ⟨rn, cn, rfl, hon, hb4'⟩
      have hb4 := hb3.trans (hb4'.mono hb3.size)
      have hr4 := hr3.below hb4'
      have hrt4 := hrt.below hb4'
      have hot4 := ownY_below hot hb4'
      have hrn := Rd.own hon
      clear hb4' hr3 hrt hot hb3 hon
      by_cases hbig : t.length ≤ 20000
      · have hok : fk = true := by rw [HFK.out, HET.out, ft_txt, ← HET.out]; simpa using hbig
        have hfv : fd = L (V xs) := by
          rw [HFD.out]; unfold ftDoc
          rw [← HFK.out, hok, if_pos rfl, HET.out, M.dec_txt]
        subst hok
        subst hfv
        have hbig' : ¬ (20000 : Int) < (t.length : Int) := by omega
        go_wp2_with fail
        refine (specNatShift_any rb _ cb xs 0 _ rfl (by omega) hx hr4).mono ?_
        rw [sh_zero xs h12]
        rintro e v5 ⟨rs, cs, rfl, hos, hb5'⟩
        have hb5 := hb4.trans (hb5'.mono hb4.size)
        have hr5 := hr4.below hb5'
        have hot5 := ownY_below hot4 hb5'
        have hrn5 := hrn.below hb5'
        have hrs := Rd.own hos
        clear hb5' hr4 hrt4 hot4 hb4 hos hrn
        have hLl := L_len xs hx
        go_wp2_with fail
        refine (same_any rn rs _ _ cn cs (L (V xs)) (L (V xs)) _ rfl rfl (by omega) (by omega) hrn5 hrs).mono ?_
        rintro e v6 ⟨rfl, q6, rfl⟩
        rw [dec_selfL]
        have b6 : Below w.heap.size w (v5.drewN q6) := below_drewN hb5 _
        have hr6 := hr5.below (below_drewN (Below.refl _ v5) q6)
        have hot6 := ownY_below hot5 (below_drewN (Below.refl _ v5) q6)
        generalize v5.drewN q6 = v6 at b6 hr6 hot6 ⊢
        clear hb5 hr5 hot5 hrn5 hrs
        by_cases h20 : t.length = 20000
        · have h20' : ((t.length : Int) == 20000) = true := by simp; omega
          have h20b : (t.length : Int) = 20000 := by omega
          go_wp2_with fail
          go_ret
          exact ⟨rfl, b6⟩
        · have h20' : ((t.length : Int) == 20000) = false := by simp; omega
          have h20b : ¬ (t.length : Int) = 20000 := by omega
          obtain ⟨i0, hi, hz0, hz1, hz2⟩ := info_parts Try.infoY
          obtain ⟨g, rfl, hbg⟩ := ownY_addr hot6 hpos
          have hcl : ∀ j u, (UB t)[j]? = some u → v6.cell? ((⟨g, 0, none⟩ : Addr).add j) = some u := by
            intro j u hj
            have hjl : j < t.length := by
              rcases Nat.lt_or_ge j t.length with h | h
              · exact h
              · rw [List.getElem?_eq_none (by rw [UB_length]; exact h)] at hj; simp at hj
            have := hot6.cellAt j (by omega)
            have e0 : (⟨g, 0, none⟩ : Addr).add j = ⟨g, j, none⟩ := by
              simp only [Addr.add, Nat.zero_add]
              split
              · rename_i h; rw [h]
              · rfl
            rw [e0, this, hj]
          have HCL := hid hcl; have HOT := hid hot6; have HR6 := hid hr6; have B6 := hid b6
          clear hcl hot6 hr6 b6
          go_wp2_with (at_builtin; refine wpList_append_own _ rfl _ _ 22 rfl v6.heap.size 5 i0 (.int .u8 0) 1 1 Try.underlying22 hi hz0 hz1 hz2 rfl (by decide) _ _ _ rfl (World.ownsRow_nil _ _ _ _) ⟨g, 0, none⟩ t.length ct (UB t) rfl ?c0 ?c1 ?c2 ?c3 ?c4 ?c5 ?_)
          case c0 => rw [UB_length, Nat.mul_one]
          case c1 => exact HCL.out
          case c2 => exact UB_one _
          case c3 => unfold maxLen; omega
          case c4 => omega
          case c5 => exact Nat.le_refl _
          intro v7 w7 hown7 hgrow7 _
          obtain ⟨oa7, c7, rfl⟩ := ownY_shape hown7
          have b7 : Below v6.heap.size v6 w7 := grown_below hgrow7 (fun k e => by simp [Value.ownBlock] at e)
          clear hgrow7
          have HO7 := hid hown7; have B7 := hid b7
          clear hown7 b7
          go_wp2_with (at_builtin; refine wpList_append_own _ rfl _ _ 22 rfl v6.heap.size 5 i0 (.int .u8 0) 1 1 Try.underlying22 hi hz0 hz1 hz2 rfl (by decide) _ _ _ rfl (HO7.out.alloc _) ⟨w7.heap.size, 0, none⟩ 1 1 (UB [55]) rfl rfl ?c1 ?c2 ?c3 ?c4 ?c5 ?_)
          case c1 =>
            intro j u hj
            match j, hj with
            | 0, hj => simp [UB] at hj; subst hj; simp [Addr.add]
          case c2 => exact UB_one _
          case c3 => unfold maxLen; omega
          case c4 => omega
          case c5 => have := B7.out.size; simp; omega
          intro v8 w8 hown8 hgrow8 _
          obtain ⟨oa8, c8, rfl⟩ := ownY_shape hown8
          have b8 : Below v6.heap.size v6 w8 := (B7.out.alloc B7.out.size _).grown hgrow8 (by have := B7.out.size; simp; omega) (fun k e => own_place HO7.out e)
          have bw8 : Below w.heap.size w w8 := B6.out.trans (b8.mono B6.out.size)
          have hr8 := HR6.out.below b8
          have ho8 : w8.ownsRow v6.heap.size 5 1 (.slice oa8 (t ++ [55]).length c8) (t ++ [55]).length (UB (t ++ [55])) := by
            have e : (t ++ [55]).length = t.length + 1 := by simp
            rw [e, UB_append]; exact hown8
          have hm8 := ownY_max ho8
          have hcc8 := ownY_cap ho8
          have hrd8 := RdY.own ho8
          have e55 : t.length + 1 = (t ++ [55]).length := by simp
          obtain ⟨hk8, hf8⟩ := ft_more (V xs) (by rw [← HET.out]; omega)
          rw [← HET.out] at hk8 hf8
          have hdg8 : ∀ x ∈ t ++ [55], x < 256 := by
            intro x hx'
            rcases List.mem_append.1 hx' with h | h
            · exact hdg x h
            · simp at h; omega
          have kF := implNatFromText_any oa8 (t.length + 1) c8 (t ++ [55]) w8 e55.symm (by omega) (by rw [e55]; exact hcc8) hm8 (RdB.of hrd8 hdg8)
          rw [hk8, hf8] at kF
          clear hgrow8 hown8 ho8 hk8 hf8 hdg8 e55 hrd8 hcc8
          go_wp2_with fail
          refine kF.mono ?_
          rintro e w9 ⟨rm, cm, rfl, hom, hb9'⟩
          have bw9 := bw8.trans (hb9'.mono bw8.size)
          have hr9 := hr8.below hb9'
          have hrm := Rd.own hom
          clear hom hb9' hr8 bw8 b8 kF HO7 B7 HOT HCL HR6
          go_wp2_with fail
          have b10 : Below w9.heap.size w9 (w9.alloc (.cells #[.int .u64 10] 32)) := (Below.refl _ _).alloc (Nat.le_refl _) _
          have ht10 : Blk (w9.alloc (.cells #[.int .u64 10] 32)) w9.heap.size [10] := heap_alloc_new w9 _
          have hr10 := hr9.below b10
          have hrm10 := hrm.below b10
          have bw10 := bw9.trans (b10.mono bw9.size)
          have hrd10 := ht10.rd0
          clear hr9 hrm bw9 b10 ht10
          generalize w9.alloc (.cells #[.int .u64 10] 32) = w10 at hr10 hrm10 bw10 hrd10 ⊢
          refine (specNatMul_any rb _ _ 1 cb 1 xs [10] _ rfl rfl (by omega) (by omega) hx (by intro x hx'; simp at hx'; omega) hr10 hrd10).mono ?_
          have hvl : V xs * 10 < 18446744073709551616 ^ 1200 := ten_len (V xs) 19999 6667 1200 (by rw [← HET.out]; omega) (by omega) (by omega)
          have hL10 : (L (V xs * 10)).length ≤ 1200 := M.len_of_lt (B := 18446744073709551616) (by omega) _ _ hvl
          clear hvl
          rw [mul_ten xs h12]
          rintro e w11 ⟨rp, cp, rfl, hop, hb11'⟩
          have bw11 := bw10.trans (hb11'.mono bw10.size)
          have hrm11 := hrm10.below hb11'
          have hrp := Rd.own hop
          clear hop hb11' bw10 hrm10 hr10 hrd10
          have hvv := add_seven (V xs * 10) hL10
          obtain ⟨z, hz⟩ : ∃ z, z = V xs * 10 := ⟨_, rfl⟩
          rw [← hz] at hL10 hrp hvv hrm11 ⊢
          clear hz
          go_wp2_with fail
          have b12 : Below w11.heap.size w11 (w11.alloc (.cells #[.int .u64 7] 32)) := (Below.refl _ _).alloc (Nat.le_refl _) _
          have ht12 : Blk (w11.alloc (.cells #[.int .u64 7] 32)) w11.heap.size [7] := heap_alloc_new w11 _
          have hrp12 := hrp.below b12
          have hrm12 := hrm11.below b12
          have bw12 := bw11.trans (b12.mono bw11.size)
          have hrd12 := ht12.rd0
          clear hrp hrm11 bw11 b12 ht12
          generalize w11.alloc (.cells #[.int .u64 7] 32) = w12 at hrp12 hrm12 bw12 hrd12 ⊢
          refine (specNatAdd_any rp _ _ 1 cp 1 (L z) [7] _ rfl rfl (by omega) (by omega) (F64_L z) (by intro x hx'; simp at hx'; omega) hrp12 hrd12).mono ?_
          rw [hvv]
          rintro e w13 ⟨ro, co, rfl, hoo, hb13'⟩
          have bw13 := bw12.trans (hb13'.mono bw12.size)
          have hrm13 := hrm12.below hb13'
          have hro := Rd.own hoo
          clear hoo hb13' bw12 hrm12 hrp12 hrd12
          have hL7 : (L (z + 7)).length ≤ 1201 := by
            have h7 := M.len_add (B := 18446744073709551616) (by omega) z 7 1200 hL10 (by have := M.len_of_lt (B := 18446744073709551616) (by omega) 7 1 (by omega); omega)
            exact h7
          go_wp2_with fail
          refine (same_any rm ro _ _ cm co (L (z + 7)) (L (z + 7)) _ rfl rfl (by omega) (by omega) hrm13 hro).mono ?_
          rintro e w14 ⟨rfl, q14, rfl⟩
          rw [dec_selfL]
          go_wp2_with fail
          go_ret
          exact ⟨rfl, below_drewN bw13 _⟩
      · have hok : fk = false := by rw [HFK.out, HET.out, ft_txt, ← HET.out]; simpa using hbig
        subst hok
        have hbig' : (20000 : Int) < (t.length : Int) := by omega
        go_wp2_with fail
        refine (specNatToText_any rb _ cb xs _ rfl (by omega) hx hr4).mono ?_
        rw [← HT.out]
        rintro e v5 ⟨rs, cs, rfl, hos, _, hb5'⟩
        have hb5 := hb4.trans (hb5'.mono hb4.size)
        have hrt5 := hrt4.below hb5'
        clear hb5' hr4 hrt4 hot4 hb4 hrn
        go_wp2_with fail
        refine (sameB_any rt rs _ ct cs t _ rfl hpos hrt5 hos).mono ?_
        rintro e v6 ⟨rfl, rfl⟩
        go_wp2_with fail
        go_ret
        exact ⟨rfl, hb5⟩
    · have h12' : (1200 : Int) < (xs.length : Int) := by omega
      have etx : t = [] := by rw [HT.out]; unfold ttDoc; rw [if_neg h12]
      subst etx
      go_wp2_with fail
      go_ret
      exact ⟨rfl, hb3⟩
  · go_enter Try.func3, Try.ntmps3
    go_wp2_with fail
    go_ret
    exact ⟨rfl, Below.refl _ _⟩

end Go.Proofs.Ytehplfmnipadmad
