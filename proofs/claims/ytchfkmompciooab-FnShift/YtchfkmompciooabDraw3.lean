import Derived.Test.YtchfkmompciooabDraw2
namespace Go.Proofs.Ytchfkmompciooab
open Go.RowKit
set_option linter.unusedVariables false

/-- A slice's length. -/
def lenOf : Value → Nat
  | .slice _ n _ => n
  | _ => 0

set_option maxHeartbeats 8000000 in
set_option maxRecDepth 100000 in
theorem limbs_any (g : Nat) (ao : Option Addr) (n c i0' : Nat) (bs : List Nat) (w : World) (hl : bs.length = n) (hn : n ≤ 1048576) (hi' : i0' ≤ n) (hR : IsRdr w g ao n c i0') (hb : RdB w ao bs) (hsep : 0 < bs.length → ∀ b2 o2, ao = some ⟨b2, o2, none⟩ → b2 ≠ g) :
    Calls Try.prog 38 #[.pointer (some ⟨g, 0, none⟩)] w fun e w' => ∃ ro rc, e = .returned (.slice ro (limbsAll bs i0').1.length rc) ∧ w'.ownsRow w.heap.size 34 1 (.slice ro (limbsAll bs i0').1.length rc) (limbsAll bs i0').1.length (U (limbsAll bs i0').1) ∧ IsRdr w' g ao n c (limbsAll bs i0').2 ∧ w.grownBy w' (some g) := by
  obtain ⟨i0, hi0, hz0, hz1, hz2⟩ := info_parts Try.infoU
  have hgw := hR.lt
  obtain ⟨K, eK⟩ : ∃ K : Nat, K = rdB bs i0' := ⟨_, rfl⟩
  have hKb : K < 256 := by rw [eK]; exact rdB_lt hb _
  obtain ⟨N, eN⟩ : ∃ N : Nat, N = limbsN K := ⟨_, rfl⟩
  have hNb : N ≤ 53 := by rw [eN]; exact limbsN_le K
  obtain ⟨i, ei⟩ : ∃ i : Nat, i = adv bs i0' := ⟨_, rfl⟩
  have hile : i ≤ n := by rw [ei]; exact adv_le bs _ n hl hi'
  have hcase : (240 ≤ K ∧ N = 8 + K % 16 * 3 ∧ decide ((240 : Int) ≤ (K : Int)) = true) ∨ (¬ 240 ≤ K ∧ N = K % 7 ∧ decide ((240 : Int) ≤ (K : Int)) = false) := by
    rw [eN]
    unfold limbsN
    split
    · left; exact ⟨by assumption, rfl, by simp; omega⟩
    · right; exact ⟨by assumption, rfl, by simp; omega⟩
  have hall : limbsAll bs i0' = if K = 255 then fillK bs 1300 (limbsK bs i N) else limbsK bs i N := by
    unfold limbsAll; rw [← eK, ← ei, ← eN]
  have HK := hid eK; have HN := hid eN; have HI := hid ei; have HA := hid hall
  clear eK eN ei hall
  have fin : ∀ (wr : World) (v : Value), wr.ownsRow w.heap.size 34 1 v (limbsAll bs i0').1.length (U (limbsAll bs i0').1) → ∃ ro rc, v = .slice ro (limbsAll bs i0').1.length rc := fun wr v h => own_shape h
  rcases hcase with ⟨h240, hNe, hd⟩ | ⟨h240, hNe, hd⟩
  all_goals
    go_enter Try.func38, Try.ntmps38
    go_wp2_with fail
    refine (next_any g ao n c i0' bs _ hl hn hi' hR hb K HK.out).mono ?_
    rw [← HI.out]
    rintro e w0 ⟨rfl, hR0, hg0⟩
    have hN1 : (8 : Int) + (K : Int) % 16 * 3 = ((8 + K % 16 * 3 : Nat) : Int) := by omega
    have hN2 : (K : Int) % 7 = ((K % 7 : Nat) : Int) := by omega
    have HN1 := hid hN1; have HN2 := hid hN2
    clear hN1 hN2
    have HNe := hid hNe; clear hNe
    clear hR
    have HR0 := hid hR0; have HG0 := hid hg0
    clear hR0 hg0
    go_wp2_with fail
    go_loopw [4, 5, 6] (fun cn v c6 wr => ∃ k : Nat, k ≤ N ∧ cn = .int .i64 ((N : Int) - (k : Int)) ∧ wr.ownsRow w.heap.size 34 1 v k (U (limbsK bs i k).1) ∧ IsRdr wr g ao n c (limbsK bs i k).2 ∧ w.grownBy wr (some g)) (fun cn _ _ _ => (intOf cn).toNat)
    case atStart => exact ⟨0, by omega, congrArg (Value.int .i64) (by have := HNe.out; omega), World.ownsRow_nil _ _ _ _, HR0.out, HG0.out⟩
    case round =>
      clear HR0 HG0
      obtain ⟨k, hk, rfl, hown, hRk, hg⟩ := hrel
      by_cases hlt : k < N
      · have hlt' : (0 : Int) < (N : Int) - (k : Int) := by omega
        have hle := limbsK_le bs i n hl hile k
        obtain ⟨p, ep⟩ : ∃ p : Nat, p = (limbsK bs i k).2 := ⟨_, rfl⟩
        rw [← ep] at hRk hle
        obtain ⟨x, ex⟩ : ∃ x : Nat, x = rdB bs p := ⟨_, rfl⟩
        have hxb : x < 256 := by rw [ex]; exact rdB_lt hb p
        have EP := hid ep; have EX := hid ex
        clear ep ex
        go_wp2_with fail
        refine (next_any g ao n c p bs _ hl hn hle hRk (hb.grown hg hsep) x EX.out).mono ?_
        rintro e w1 ⟨rfl, hR1, hg1'⟩
        have hown := own_grown hown hg1' hgw
        have hg1 := grown_trans hg hg1'
        clear hRk hg hg1'
        rcases (show x % 6 = 0 ∨ x % 6 = 1 ∨ x % 6 = 2 ∨ x % 6 = 3 ∨ 3 < x % 6 from by omega) with h6 | h6 | h6 | h6 | h6
        · have e0 : ((x : Int) % 6 == 0) = true := by simp; omega
          go_wp2_with (at_builtin; refine wpList_append_own _ rfl _ _ 22 rfl w.heap.size 34 i0 (.int .u64 0) 1 8 Try.underlying22 hi0 hz0 hz1 hz2 rfl (by decide) _ _ _ rfl (hown.alloc _) ⟨w1.heap.size, 0, none⟩ 1 1 (U [0]) rfl rfl ?c1 ?c2 ?c3 ?c4 ?c5 ?_)
          case c1 =>
            intro j u hj
            match j, hj with
            | 0, hj => simp [U] at hj; subst hj; simp [Addr.add]
          case c2 => exact U_one _
          case c3 => unfold maxLen; omega
          case c4 => omega
          case c5 => have := hg1.size; simp; omega
          intro v' w9 hown' hgrow hnn
          clear hnn
          have hg9 : w.grownBy w9 (some g) := grown_own hg1 hgrow (fun k' hk' => (hown.lt k' hk').1)
          have hR9 : IsRdr w9 g ao n c (adv bs p) := isRdr_own hR1 hgrow (fun k' hk' => (hown.lt k' hk').1) hgw
          clear hown hgrow 
          have HO9 := hid hown'; have HG9 := hid hg9; have HR9 := hid hR9
          clear hown' hg9 hR9
          go_wp2_with fail
          go_roundw
          case rel =>
            have R : ∃ k1 : Nat, k1 ≤ N ∧ Value.int .i64 ((N : Int) - (k : Int) - 1) = .int .i64 ((N : Int) - (k1 : Int)) ∧ w9.ownsRow w.heap.size 34 1 v' k1 (U (limbsK bs i k1).1) ∧ IsRdr w9 g ao n c (limbsK bs i k1).2 ∧ w.grownBy w9 (some g) := by
              refine ⟨k + 1, by omega, by go_num, ?_, ?_, HG9.out⟩
              · simp only [limbsK]; rw [U_append, ← EP.out, show (limb1 bs p).1 = 0 from (limb1_0 bs p x EX.out h6).1]; exact HO9.out
              · simp only [limbsK]; rw [← EP.out, show (limb1 bs p).2 = adv bs p from (limb1_0 bs p x EX.out h6).2]; exact HR9.out
            first | exact R | ((repeat apply Exists.intro); exact ⟨R, rfl⟩)
          case measure => simp [intOf]; omega
        · have e0 : ((x : Int) % 6 == 0) = false := by simp; omega
          have e1 : ((x : Int) % 6 == 1) = true := by simp; omega
          go_wp2_with (at_builtin; refine wpList_append_own _ rfl _ _ 22 rfl w.heap.size 34 i0 (.int .u64 0) 1 8 Try.underlying22 hi0 hz0 hz1 hz2 rfl (by decide) _ _ _ rfl (hown.alloc _) ⟨w1.heap.size, 0, none⟩ 1 1 (U [18446744073709551615]) rfl rfl ?c1 ?c2 ?c3 ?c4 ?c5 ?_)
          case c1 =>
            intro j u hj
            match j, hj with
            | 0, hj => simp [U] at hj; subst hj; simp [Addr.add]
          case c2 => exact U_one _
          case c3 => unfold maxLen; omega
          case c4 => omega
          case c5 => have := hg1.size; simp; omega
          intro v' w9 hown' hgrow hnn
          clear hnn
          have hg9 : w.grownBy w9 (some g) := grown_own hg1 hgrow (fun k' hk' => (hown.lt k' hk').1)
          have hR9 : IsRdr w9 g ao n c (adv bs p) := isRdr_own hR1 hgrow (fun k' hk' => (hown.lt k' hk').1) hgw
          clear hown hgrow 
          have HO9 := hid hown'; have HG9 := hid hg9; have HR9 := hid hR9
          clear hown' hg9 hR9
          go_wp2_with fail
          go_roundw
          case rel =>
            have R : ∃ k1 : Nat, k1 ≤ N ∧ Value.int .i64 ((N : Int) - (k : Int) - 1) = .int .i64 ((N : Int) - (k1 : Int)) ∧ w9.ownsRow w.heap.size 34 1 v' k1 (U (limbsK bs i k1).1) ∧ IsRdr w9 g ao n c (limbsK bs i k1).2 ∧ w.grownBy w9 (some g) := by
              refine ⟨k + 1, by omega, by go_num, ?_, ?_, HG9.out⟩
              · simp only [limbsK]; rw [U_append, ← EP.out, show (limb1 bs p).1 = 18446744073709551615 from (limb1_1 bs p x EX.out h6).1]; exact HO9.out
              · simp only [limbsK]; rw [← EP.out, show (limb1 bs p).2 = adv bs p from (limb1_1 bs p x EX.out h6).2]; exact HR9.out
            first | exact R | ((repeat apply Exists.intro); exact ⟨R, rfl⟩)
          case measure => simp [intOf]; omega
        · have e0 : ((x : Int) % 6 == 0) = false := by simp; omega
          have e1 : ((x : Int) % 6 == 1) = false := by simp; omega
          have e2 : ((x : Int) % 6 == 2) = true := by simp; omega
          go_wp2_with (at_builtin; refine wpList_append_own _ rfl _ _ 22 rfl w.heap.size 34 i0 (.int .u64 0) 1 8 Try.underlying22 hi0 hz0 hz1 hz2 rfl (by decide) _ _ _ rfl (hown.alloc _) ⟨w1.heap.size, 0, none⟩ 1 1 (U [x]) rfl rfl ?c1 ?c2 ?c3 ?c4 ?c5 ?_)
          case c1 =>
            intro j u hj
            match j, hj with
            | 0, hj => simp [U] at hj; subst hj; simp [Addr.add]
          case c2 => exact U_one _
          case c3 => unfold maxLen; omega
          case c4 => omega
          case c5 => have := hg1.size; simp; omega
          intro v' w9 hown' hgrow hnn
          clear hnn
          have hg9 : w.grownBy w9 (some g) := grown_own hg1 hgrow (fun k' hk' => (hown.lt k' hk').1)
          have hR9 : IsRdr w9 g ao n c (adv bs p) := isRdr_own hR1 hgrow (fun k' hk' => (hown.lt k' hk').1) hgw
          clear hown hgrow 
          have HO9 := hid hown'; have HG9 := hid hg9; have HR9 := hid hR9
          clear hown' hg9 hR9
          go_wp2_with fail
          go_roundw
          case rel =>
            have R : ∃ k1 : Nat, k1 ≤ N ∧ Value.int .i64 ((N : Int) - (k : Int) - 1) = .int .i64 ((N : Int) - (k1 : Int)) ∧ w9.ownsRow w.heap.size 34 1 v' k1 (U (limbsK bs i k1).1) ∧ IsRdr w9 g ao n c (limbsK bs i k1).2 ∧ w.grownBy w9 (some g) := by
              refine ⟨k + 1, by omega, by go_num, ?_, ?_, HG9.out⟩
              · simp only [limbsK]; rw [U_append, ← EP.out, show (limb1 bs p).1 = x from (limb1_2 bs p x EX.out h6).1]; exact HO9.out
              · simp only [limbsK]; rw [← EP.out, show (limb1 bs p).2 = adv bs p from (limb1_2 bs p x EX.out h6).2]; exact HR9.out
            first | exact R | ((repeat apply Exists.intro); exact ⟨R, rfl⟩)
          case measure => simp [intOf]; omega
        · have e0 : ((x : Int) % 6 == 0) = false := by simp; omega
          have e1 : ((x : Int) % 6 == 1) = false := by simp; omega
          have e2 : ((x : Int) % 6 == 2) = false := by simp; omega
          have e3 : ((x : Int) % 6 == 3) = true := by simp; omega
          have hle1 := adv_le bs p n hl hle
          obtain ⟨y, ey⟩ : ∃ y : Nat, y = rdB bs (adv bs p) := ⟨_, rfl⟩
          have hyb : y < 256 := by rw [ey]; exact rdB_lt hb _
          obtain ⟨s, es⟩ : ∃ s : Nat, s = y % 64 := ⟨_, rfl⟩
          have hsI : (y : Int) % 64 = (s : Int) := by omega
          have hsb : s < 64 := by omega
          obtain ⟨t, et⟩ : ∃ t : Nat, t = 2 ^ s := ⟨_, rfl⟩
          have hwt : IntKind.u64.wrap ((2 : Int) ^ s) = (t : Int) := by
            have h1 : 2 ^ s < 2 ^ 64 := Nat.pow_lt_pow_right (by omega) hsb
            have h2 : ((2 : Int) ^ s) = ((2 ^ s : Nat) : Int) := by simp
            rw [h2, wrapU, Nat.mod_eq_of_lt (by omega), et]
          have EY := hid ey; have ES := hid es; have ET := hid et
          clear ey es et
          go_wp2_with fail
          refine (next_any g ao n c (adv bs p) bs _ hl hn hle1 hR1 (hb.grown hg1 hsep) y EY.out).mono ?_
          rintro e w2 ⟨rfl, hR2, hg2⟩
          have hown := own_grown hown hg2 hgw
          have hg2w := grown_trans hg1 hg2
          clear hR1 hg1 hg2
          go_wp2_with (at_builtin; refine wpList_append_own _ rfl _ _ 22 rfl w.heap.size 34 i0 (.int .u64 0) 1 8 Try.underlying22 hi0 hz0 hz1 hz2 rfl (by decide) _ _ _ rfl (hown.alloc _) ⟨w2.heap.size, 0, none⟩ 1 1 (U [t]) rfl rfl ?c1 ?c2 ?c3 ?c4 ?c5 ?_)
          case c1 =>
            intro j u hj
            match j, hj with
            | 0, hj => simp [U] at hj; subst hj; simp [Addr.add]
          case c2 => exact U_one _
          case c3 => unfold maxLen; omega
          case c4 => omega
          case c5 => have := hg2w.size; simp; omega
          intro v' w9 hown' hgrow hnn
          clear hnn
          have hg9 : w.grownBy w9 (some g) := grown_own hg2w hgrow (fun k' hk' => (hown.lt k' hk').1)
          have hR9 : IsRdr w9 g ao n c (adv bs (adv bs p)) := isRdr_own hR2 hgrow (fun k' hk' => (hown.lt k' hk').1) hgw
          clear hown hgrow 
          have HO9 := hid hown'; have HG9 := hid hg9; have HR9 := hid hR9
          clear hown' hg9 hR9
          go_wp2_with fail
          go_roundw
          case rel =>
            have R : ∃ k1 : Nat, k1 ≤ N ∧ Value.int .i64 ((N : Int) - (k : Int) - 1) = .int .i64 ((N : Int) - (k1 : Int)) ∧ w9.ownsRow w.heap.size 34 1 v' k1 (U (limbsK bs i k1).1) ∧ IsRdr w9 g ao n c (limbsK bs i k1).2 ∧ w.grownBy w9 (some g) := by
              refine ⟨k + 1, by omega, by go_num, ?_, ?_, HG9.out⟩
              · simp only [limbsK]; rw [U_append, ← EP.out, show (limb1 bs p).1 = t from by rw [(limb1_3 bs p x EX.out h6).1, ET.out, ES.out, EY.out]]; exact HO9.out
              · simp only [limbsK]; rw [← EP.out, show (limb1 bs p).2 = adv bs (adv bs p) from (limb1_3 bs p x EX.out h6).2]; exact HR9.out
            first | exact R | ((repeat apply Exists.intro); exact ⟨R, rfl⟩)
          case measure => simp [intOf]; omega
        · have e0 : ((x : Int) % 6 == 0) = false := by simp; omega
          have e1 : ((x : Int) % 6 == 1) = false := by simp; omega
          have e2 : ((x : Int) % 6 == 2) = false := by simp; omega
          have e3 : ((x : Int) % 6 == 3) = false := by simp; omega
          have hle1 := adv_le bs p n hl hle
          obtain ⟨y, ey⟩ : ∃ y : Nat, y = (wideK bs (adv bs p) 8).1 := ⟨_, rfl⟩
          obtain ⟨q, eq⟩ : ∃ q : Nat, q = (wideK bs (adv bs p) 8).2 := ⟨_, rfl⟩
          have EY := hid ey; have EQ := hid eq
          clear ey eq
          go_wp2_with fail
          refine (wide_any g ao n c (adv bs p) bs _ hl hn hle1 hR1 (hb.grown hg1 hsep) hsep y q EY.out EQ.out).mono ?_
          rintro e w2 ⟨rfl, hR2, hg2⟩
          have hown := own_grown hown hg2 hgw
          have hg2w := grown_trans hg1 hg2
          clear hR1 hg1 hg2
          go_wp2_with (at_builtin; refine wpList_append_own _ rfl _ _ 22 rfl w.heap.size 34 i0 (.int .u64 0) 1 8 Try.underlying22 hi0 hz0 hz1 hz2 rfl (by decide) _ _ _ rfl (hown.alloc _) ⟨w2.heap.size, 0, none⟩ 1 1 (U [y]) rfl rfl ?c1 ?c2 ?c3 ?c4 ?c5 ?_)
          case c1 =>
            intro j u hj
            match j, hj with
            | 0, hj => simp [U] at hj; subst hj; simp [Addr.add]
          case c2 => exact U_one _
          case c3 => unfold maxLen; omega
          case c4 => omega
          case c5 => have := hg2w.size; simp; omega
          intro v' w9 hown' hgrow hnn
          clear hnn
          have hg9 : w.grownBy w9 (some g) := grown_own hg2w hgrow (fun k' hk' => (hown.lt k' hk').1)
          have hR9 : IsRdr w9 g ao n c q := isRdr_own hR2 hgrow (fun k' hk' => (hown.lt k' hk').1) hgw
          clear hown hgrow 
          have HO9 := hid hown'; have HG9 := hid hg9; have HR9 := hid hR9
          clear hown' hg9 hR9
          go_wp2_with fail
          go_roundw
          case rel =>
            have R : ∃ k1 : Nat, k1 ≤ N ∧ Value.int .i64 ((N : Int) - (k : Int) - 1) = .int .i64 ((N : Int) - (k1 : Int)) ∧ w9.ownsRow w.heap.size 34 1 v' k1 (U (limbsK bs i k1).1) ∧ IsRdr w9 g ao n c (limbsK bs i k1).2 ∧ w.grownBy w9 (some g) := by
              refine ⟨k + 1, by omega, by go_num, ?_, ?_, HG9.out⟩
              · simp only [limbsK]; rw [U_append, ← EP.out, show (limb1 bs p).1 = y from by rw [(limb1_4 bs p x EX.out h6).1, EY.out]]; exact HO9.out
              · simp only [limbsK]; rw [← EP.out, show (limb1 bs p).2 = q from by rw [(limb1_4 bs p x EX.out h6).2, EQ.out]]; exact HR9.out
            first | exact R | ((repeat apply Exists.intro); exact ⟨R, rfl⟩)
          case measure => simp [intOf]; omega
      · have ek : k = N := by omega
        subst ek
        have hlt' : ¬ (0 : Int) < (k : Int) - (k : Int) := by omega
        obtain ⟨wo, hwo⟩ : ∃ wo : World, wo = wr := ⟨_, rfl⟩
        rw [← hwo] at hown hRk hg ⊢
        clear hwo
        have hlk := limbsK_len bs i k
        have hlek := limbsK_le bs i n hl hile k
        by_cases h255 : K = 255
        · have ht : ((K : Int) == 255) = true := by simp; omega
          have hA := HA.out
          rw [if_pos h255] at hA
          have HA2 := hid hA
          clear hA h255
          have HO := hid hown; have HRk := hid hRk; have HG := hid hg
          clear hown hRk hg
          go_wp2_with fail
          go_loopw [5] (fun v wr => ∃ (f : Nat) (s : List Nat × Nat), 1202 ≤ s.1.length + f ∧ s.1.length ≤ 1201 ∧ s.2 ≤ n ∧ fillK bs f s = limbsAll bs i0' ∧ wr.ownsRow w.heap.size 34 1 v s.1.length (U s.1) ∧ IsRdr wr g ao n c s.2 ∧ w.grownBy wr (some g)) (fun v _ => 1300 - lenOf v)
          case atStart =>
            refine ⟨1300, limbsK bs i k, by omega, by omega, hlek, HA2.out.symm, ?_, HRk.out, HG.out⟩
            rw [hlk]; exact HO.out
          case round =>
            clear HO HRk HG
            obtain ⟨f, s, hsf, hs2, hsn, hfl, hown, hRk, hg⟩ := hrel
            obtain ⟨f, rfl⟩ : ∃ f', f = f' + 1 := ⟨f - 1, by omega⟩
            obtain ⟨so, sc, hv⟩ := own_shape hown
            rw [hv]
            rw [hv] at hown
            clear hv
            obtain ⟨x, ex⟩ : ∃ x : Nat, x = rdB bs s.2 := ⟨_, rfl⟩
            have hxb : x < 256 := by rw [ex]; exact rdB_lt hb _
            simp only [fillK] at hfl
            rw [← ex] at hfl
            have EX := hid ex; have HFL := hid hfl
            clear ex hfl
            obtain ⟨m, em⟩ : ∃ m : Nat, m = s.1.length := ⟨_, rfl⟩
            rw [← em] at hsf hs2 hown ⊢
            have EM := hid em; clear em
            go_wp2_with fail
            refine (next_any g ao n c s.2 bs _ hl hn hsn hRk (hb.grown hg hsep) x EX.out).mono ?_
            rintro e w1 ⟨rfl, hR1, hg1'⟩
            have hown := own_grown hown hg1' hgw
            have hg1 := grown_trans hg hg1'
            clear hRk hg hg1'
            by_cases hlt2 : m < 1200 + x % 2
            · have hlt3 : (m : Int) < 1200 + (x : Int) % 2 := by omega
              go_wp2_with (at_builtin; refine wpList_append_own _ rfl _ _ 22 rfl w.heap.size 34 i0 (.int .u64 0) 1 8 Try.underlying22 hi0 hz0 hz1 hz2 rfl (by decide) _ _ _ rfl (hown.alloc _) ⟨w1.heap.size, 0, none⟩ 1 1 (U [m]) rfl rfl ?c1 ?c2 ?c3 ?c4 ?c5 ?_)
              case c1 =>
                intro j u hj
                match j, hj with
                | 0, hj => simp [U] at hj; subst hj; simp [Addr.add]
              case c2 => exact U_one _
              case c3 => unfold maxLen; omega
              case c4 => omega
              case c5 => have := hg1.size; simp; omega
              intro v' w9 hown' hgrow hnn
              clear hnn
              have hg9 : w.grownBy w9 (some g) := grown_own hg1 hgrow (fun k' hk' => (hown.lt k' hk').1)
              have hR9 : IsRdr w9 g ao n c (adv bs s.2) := isRdr_own hR1 hgrow (fun k' hk' => (hown.lt k' hk').1) hgw
              clear hown hgrow
              have HO9 := hid hown'; have HG9 := hid hg9; have HR9 := hid hR9
              clear hown' hg9 hR9
              obtain ⟨vo, vc, hv9⟩ := own_shape HO9.out
              have HV9 := hid hv9; clear hv9
              go_wp2_with fail
              go_roundw
              case rel =>
                have R : ∃ (f1 : Nat) (s1 : List Nat × Nat), 1202 ≤ s1.1.length + f1 ∧ s1.1.length ≤ 1201 ∧ s1.2 ≤ n ∧ fillK bs f1 s1 = limbsAll bs i0' ∧ w9.ownsRow w.heap.size 34 1 v' s1.1.length (U s1.1) ∧ IsRdr w9 g ao n c s1.2 ∧ w.grownBy w9 (some g) := by
                  refine ⟨f, (s.1 ++ [s.1.length], adv bs s.2), by have := EM.out; simp; omega, by have := EM.out; simp; omega, adv_le bs _ n hl hsn, ?_, ?_, HR9.out, HG9.out⟩
                  · have h1 := HFL.out
                    rw [if_pos (by rw [← EM.out]; exact hlt2)] at h1
                    exact h1
                  · show w9.ownsRow w.heap.size 34 1 v' (s.1 ++ [s.1.length]).length (U (s.1 ++ [s.1.length]))
                    rw [U_append, List.length_append, ← EM.out]; exact HO9.out
                first | exact R | ((repeat apply Exists.intro); exact ⟨R, rfl⟩)
              case measure => rw [HV9.out]; simp [lenOf]; omega
            · have hlt3 : ¬ (m : Int) < 1200 + (x : Int) % 2 := by omega
              have hres : limbsAll bs i0' = (s.1, adv bs s.2) := by
                have h1 := HFL.out
                rw [if_neg (by rw [← EM.out]; exact hlt2)] at h1
                exact h1.symm
              have HRES := hid hres; clear hres
              have HO := hid hown; have HR1 := hid hR1; have HG1 := hid hg1
              clear hown hR1 hg1
              go_wp2_with fail
              go_ret
              rw [HRES.out, ← EM.out]
              exact ⟨so, sc, rfl, HO.out, HR1.out, HG1.out⟩
        · have ht : ((K : Int) == 255) = false := by simp; omega
          have hA := HA.out
          rw [if_neg h255] at hA
          have HA2 := hid hA
          clear hA h255
          obtain ⟨so, sc, hv⟩ := own_shape hown
          rw [hv]
          rw [hv] at hown
          clear hv
          have HO := hid hown; have HRk := hid hRk; have HG := hid hg
          clear hown hRk hg
          go_wp2_with fail
          go_ret
          rw [HA2.out, hlk]
          exact ⟨so, sc, rfl, HO.out, HRk.out, HG.out⟩

end Go.Proofs.Ytchfkmompciooab
