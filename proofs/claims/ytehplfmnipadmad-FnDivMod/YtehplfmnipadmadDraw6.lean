import Derived.Test.YtehplfmnipadmadDraw4
import Derived.Test.YtehplfmnipadmadDiv9
import Derived.Test.YtehplfmnipadmadW7
import Derived.Test.YtehplfmnipadmadW13a
namespace Go.Proofs.Ytehplfmnipadmad
open Go.RowKit
set_option linter.unusedVariables false
set_option maxRecDepth 100000

/-- The two numbers that DrawNatDivMod draws. -/
def drawDB (bs : List Nat) : List Nat := (limbsAll bs (limbsAll bs (adv bs 0)).2).1
def drawDA (bs : List Nat) : List Nat :=
  if rdB bs 0 % 3 = 0 ∨ 600 < (limbsAll bs (adv bs 0)).1.length + (drawDB bs).length + (limbsAll bs (limbsAll bs (limbsAll bs (adv bs 0)).2).2).1.length then (limbsAll bs (adv bs 0)).1
  else if rdB bs 0 % 3 = 1 then L (V (limbsAll bs (adv bs 0)).1 * V (drawDB bs) + V (limbsAll bs (limbsAll bs (limbsAll bs (adv bs 0)).2).2).1)
  else L (V (limbsAll bs (adv bs 0)).1 * V (drawDB bs) - 1)

def DivDraw (w w' : World) (e : Ending) (xs ys : List Nat) : Prop :=
  ∃ ra ca rb cb, e = .returned (.tuple #[.slice ra xs.length ca, .slice rb ys.length cb]) ∧ Rd w' ra xs ∧ Rd w' rb ys ∧ xs.length ≤ ca ∧ ys.length ≤ cb ∧ Below w.heap.size w w'

theorem drawD_facts (bs : List Nat) (n : Nat) (hl : bs.length = n) (hb : ∀ x ∈ bs, x < 256) : F64 (drawDA bs) ∧ (drawDA bs).length ≤ 1201 ∧ F64 (drawDB bs) ∧ (drawDB bs).length ≤ 1201 := by
  have h0 := adv_le bs 0 n hl (by omega)
  have f1 := limbsAll_facts bs (adv bs 0) n hl h0 hb
  have f2 := limbsAll_facts bs _ n hl f1.1 hb
  have f3 := limbsAll_facts bs _ n hl f2.1 hb
  refine ⟨?_, ?_, f2.2.1, f2.2.2⟩
  · unfold drawDA
    split
    · exact f1.2.1
    · split <;> exact F64_L _
  · unfold drawDA
    split
    · exact f1.2.2
    · next h =>
      have s1 := L_len _ f1.2.1
      have s2 := L_len _ f2.2.1
      have s3 := L_len _ f3.2.1
      have hD : drawDB bs = (limbsAll bs (limbsAll bs (adv bs 0)).2).1 := rfl
      rw [hD] at h ⊢
      generalize (limbsAll bs (adv bs 0)).1 = xa at *
      generalize (limbsAll bs (limbsAll bs (adv bs 0)).2).1 = xb at *
      generalize (limbsAll bs (limbsAll bs (limbsAll bs (adv bs 0)).2).2).1 = xc at *
      have hm : (L (V xa * V xb)).length ≤ xa.length + xb.length := M.len_mul (B := 18446744073709551616) (by omega) _ _ _ _ s1 s2
      split
      · have : (L (V xa * V xb + V xc)).length ≤ xa.length + xb.length + xc.length + 1 := M.len_add (B := 18446744073709551616) (by omega) _ _ _ (Nat.le_trans hm (by omega)) (Nat.le_trans s3 (by omega))
        omega
      · have h1 := L_lt _ _ hm
        have : (L (V xa * V xb - 1)).length ≤ xa.length + xb.length := M.len_of_lt (B := 18446744073709551616) (by omega) _ _ (Nat.lt_of_le_of_lt (Nat.sub_le _ _) h1)
        omega

set_option maxHeartbeats 4000000 in
set_option maxRecDepth 100000 in
theorem drawDiv_any (ao : Option Addr) (n c : Nat) (bs : List Nat) (w : World) (hl : bs.length = n) (hn : n ≤ 1048576) (hb : RdB w ao bs) :
    Calls Try.prog 15 #[.slice ao n c] w fun e w' => DivDraw w w' e (drawDA bs) (drawDB bs) := by
  have hR0 := rdr_new w ao n c
  have hsep := rdr_sep hb
  have hb0 : Below w.heap.size w (w.alloc (.cells #[.slice ao n c, .int .i64 0] 63)) := (Below.refl _ _).alloc (Nat.le_refl _) _
  have hrb0 := hb.below hb0
  have HB0 := hid hb0; clear hb0
  obtain ⟨k, ek⟩ : ∃ k : Nat, k = rdB bs 0 := ⟨_, rfl⟩
  have hkb : k < 256 := by rw [ek]; exact rdB_lt hb 0
  have h0 := adv_le bs 0 n hl (by omega)
  have f1 := limbsAll_facts bs (adv bs 0) n hl h0 hb.1
  have f2 := limbsAll_facts bs _ n hl f1.1 hb.1
  have f3 := limbsAll_facts bs _ n hl f2.1 hb.1
  have hDB : drawDB bs = (limbsAll bs (limbsAll bs (adv bs 0)).2).1 := rfl
  obtain ⟨xa, exa⟩ : ∃ x, x = (limbsAll bs (adv bs 0)).1 := ⟨_, rfl⟩
  obtain ⟨xb, exb⟩ : ∃ x, x = (limbsAll bs (limbsAll bs (adv bs 0)).2).1 := ⟨_, rfl⟩
  obtain ⟨xc, exc⟩ : ∃ x, x = (limbsAll bs (limbsAll bs (limbsAll bs (adv bs 0)).2).2).1 := ⟨_, rfl⟩
  have hDA : drawDA bs = if k % 3 = 0 ∨ 600 < xa.length + xb.length + xc.length then xa else if k % 3 = 1 then L (V xa * V xb + V xc) else L (V xa * V xb - 1) := by
    unfold drawDA; rw [hDB, ← ek, ← exa, ← exb, ← exc]
  obtain ⟨k3, ek3⟩ : ∃ k3 : Nat, k3 = k % 3 := ⟨_, rfl⟩
  have hk3I : (k : Int) % 3 = (k3 : Int) := by omega
  rw [← ek3] at hDA
  rw [hDB, ← exb]
  obtain ⟨za, eza⟩ : ∃ za, za = drawDA bs := ⟨_, rfl⟩
  rw [← eza] at hDA ⊢
  have HZA := hid hDA
  clear ek3 eza
  rw [← exa] at f1
  rw [← exb] at f2
  rw [← exc] at f3
  obtain ⟨p1, ep1⟩ : ∃ p, p = adv bs 0 := ⟨_, rfl⟩
  rw [← ep1] at exa exb exc f1 f2 f3 h0
  obtain ⟨p2, ep2⟩ : ∃ p, p = (limbsAll bs p1).2 := ⟨_, rfl⟩
  rw [← ep2] at exb exc f1 f2 f3
  obtain ⟨p3, ep3⟩ : ∃ p, p = (limbsAll bs p2).2 := ⟨_, rfl⟩
  rw [← ep3] at exc f2 f3
  have fa := f1.2.1; have la := f1.2.2; have fb := f2.2.1; have lb := f2.2.2; have fc := f3.2.1; have lc := f3.2.2
  have hp2 := f1.1; have hp3 := f2.1
  have EK := hid ek; have EXA := hid exa; have EXB := hid exb; have EXC := hid exc; have EP1 := hid ep1; have EP2 := hid ep2; have EP3 := hid ep3
  clear ek exa exb exc ep1 ep2 ep3 hDA hDB f1 f2 f3
  go_enter Try.func15, Try.ntmps15
  go_wp2_with fail
  generalize hW0 : w.alloc (.cells #[.slice ao n c, .int .i64 0] 63) = W0 at hR0 hrb0 HB0 ⊢
  refine (next_any w.heap.size ao n c 0 bs _ hl hn (by omega) hR0 hrb0 k EK.out).mono ?_
  rintro e w1 ⟨rfl, hR1, hg1⟩
  have hb1 := below_rdr HB0.out hg1
  have hrb1 := hb.below hb1
  rw [← EP1.out] at hR1
  clear hR0 hrb0 hg1
  go_wp2_with fail
  refine (limbs_any w.heap.size ao n c p1 bs _ hl hn h0 hR1 hrb1 hsep).mono ?_
  rw [← EXA.out, ← EP2.out]
  rintro e w2 ⟨ra, ca, rfl, ho2, hR2, hg2⟩
  have hs1 := hR1.lt
  have hb2 := below_rdr hb1 hg2
  have hrb2 := hb.below hb2
  have hr2lt := hR2.lt
  clear hR1 hrb1
  go_wp2_with fail
  refine (limbs_any w.heap.size ao n c p2 bs _ hl hn hp2 hR2 hrb2 hsep).mono ?_
  rw [← EXB.out, ← EP3.out]
  rintro e w3 ⟨rb, cb, rfl, ho3, hR3, hg3⟩
  have hb3 := below_rdr hb2 hg3
  have hrb3 := hb.below hb3
  have ha3 := own_grown ho2 hg3 hs1
  clear hR2 hrb2
  go_wp2_with fail
  refine (limbs_any w.heap.size ao n c p3 bs _ hl hn hp3 hR3 hrb3 hsep).mono ?_
  rw [← EXC.out]
  rintro e w4 ⟨rc, cc, rfl, ho4, hR4, hg4⟩
  have hb4 := below_rdr hb3 hg4
  have ha4 := own_grown ha3 hg4 hs1
  have hbb4 := own_grown ho3 hg4 hr2lt
  have ra4 := Rd.own ha4; have rb4 := Rd.own hbb4; have rc4 := Rd.own ho4
  have hca := own_cap ha4; have hcb := own_cap hbb4; have hcc := own_cap ho4
  clear hR3 hR4 hrb3 ha3 ha4 hbb4 ho2 ho3 ho4 hg2 hg3 hg4 hb1 hb2 hb3
  by_cases c0 : k3 = 0
  · have HZ : Hid (za = xa) := hid (by rw [HZA.out, if_pos (Or.inl c0)])
    have c0' : ((k3 : Int) == 0) = true := by simp; omega
    go_wp2_with fail
    go_ret2
    rw [HZ.out]
    exact ⟨ra, ca, rb, cb, rfl, ra4, rb4, hca, hcb, hb4⟩
  · have c0' : ((k3 : Int) == 0) = false := by simp; omega
    by_cases c6 : 600 < xa.length + xb.length + xc.length
    · have HZ : Hid (za = xa) := hid (by rw [HZA.out, if_pos (Or.inr c6)])
      have c6' : (600 : Int) < (xa.length : Int) + (xb.length : Int) + (xc.length : Int) := by omega
      go_wp2_with fail
      go_ret2
      rw [HZ.out]
      exact ⟨ra, ca, rb, cb, rfl, ra4, rb4, hca, hcb, hb4⟩
    · have c6' : ¬ (600 : Int) < (xa.length : Int) + (xb.length : Int) + (xc.length : Int) := by omega
      have HZ0 : Hid (za = if k3 = 1 then L (V xa * V xb + V xc) else L (V xa * V xb - 1)) := hid (by rw [HZA.out, if_neg (by omega)])
      have sa := D_len xa fa
      have sb := D_len xb fb
      have sc := D_len xc fc
      have sm : (D (V xa * V xb)).length ≤ 2 * xa.length + 2 * xb.length := M.len_mul (B := 4294967296) (by omega) _ _ _ _ sa sb
      have ss : (D (V xa * V xb + V xc)).length ≤ 2401 := Nat.le_trans (M.len_add (B := 4294967296) (by omega) _ _ 2400 (Nat.le_trans sm (by omega)) (Nat.le_trans sc (by omega))) (by omega)
      by_cases c1 : k3 = 1
      · have HZ : Hid (za = L (V xa * V xb + V xc)) := hid (by rw [HZ0.out, if_pos c1])
        have c1' : ((k3 : Int) == 1) = true := by simp; omega
        go_wp2_with fail
        refine (l1In_any ra _ ca xa _ rfl (by omega) fa ra4).mono ?_
        rintro e v1 ⟨a1, d1, rfl, o1, b1'⟩
        have b1 := hb4.trans (b1'.mono hb4.size)
        go_wp2_with fail
        refine (l1In_any rb _ cb xb _ rfl (by omega) fb (rb4.below b1')).mono ?_
        rintro e v2 ⟨a2, d2, rfl, o2, b2'⟩
        have b2 := b1.trans (b2'.mono b1.size)
        go_wp2_with fail
        refine (l1Mul_any a1 a2 _ _ d1 d2 (V xa) (V xb) _ rfl rfl (by omega) (by omega) ((Rd.own o1).below b2') (Rd.own o2)).mono ?_
        rintro e v3 ⟨a3, d3, rfl, o3, b3'⟩
        have b3 := b2.trans (b3'.mono b2.size)
        go_wp2_with fail
        refine (l1In_any rc _ cc xc _ rfl (by omega) fc (((rc4.below b1').below b2').below b3')).mono ?_
        rintro e v4 ⟨a4, d4, rfl, o4, b4'⟩
        have b4 := b3.trans (b4'.mono b3.size)
        go_wp2_with fail
        refine (l1Add_any a3 a4 _ _ d3 d4 (V xa * V xb) (V xc) _ rfl rfl (by omega) (by omega) ((Rd.own o3).below b4') (Rd.own o4)).mono ?_
        rintro e v5 ⟨a5, d5, rfl, o5, b5'⟩
        have b5 := b4.trans (b5'.mono b4.size)
        go_wp2_with fail
        refine (l1Out_any a5 _ d5 (V xa * V xb + V xc) _ rfl (by omega) (Rd.own o5)).mono ?_
        rintro e v6 ⟨a6, d6, rfl, o6, b6'⟩
        go_wp2_with fail
        go_ret2
        rw [HZ.out]
        exact ⟨a6, d6, rb, cb, rfl, Rd.own o6, (((((rb4.below b1').below b2').below b3').below b4').below b5').below b6', own_cap o6, hcb, b5.trans (b6'.mono b5.size)⟩
      · have HZ1 : Hid (za = L (V xa * V xb - 1)) := hid (by rw [HZ0.out, if_neg c1])
        have c1' : ((k3 : Int) == 1) = false := by simp; omega
        by_cases hz : V xa * V xb = 0
        · have hz' : (D (V xa * V xb)).length = 0 := by rw [hz]; rfl
          have hz1 : V xa * V xb - 1 = V xa * V xb := by omega
          have hlz : ¬ (0 : Int) < ((D (V xa * V xb)).length : Int) := by omega
          have HZ : Hid (za = L (V xa * V xb)) := hid (by rw [HZ1.out, hz1])
          have HZ' := hid hz'
          clear hz1 hz
          go_wp2_with fail
          refine (l1In_any ra _ ca xa _ rfl (by omega) fa ra4).mono ?_
          rintro e v1 ⟨a1, d1, rfl, o1, b1'⟩
          have b1 := hb4.trans (b1'.mono hb4.size)
          go_wp2_with fail
          refine (l1In_any rb _ cb xb _ rfl (by omega) fb (rb4.below b1')).mono ?_
          rintro e v2 ⟨a2, d2, rfl, o2, b2'⟩
          have b2 := b1.trans (b2'.mono b1.size)
          go_wp2_with fail
          refine (l1Mul_any a1 a2 _ _ d1 d2 (V xa) (V xb) _ rfl rfl (by omega) (by omega) ((Rd.own o1).below b2') (Rd.own o2)).mono ?_
          rintro e v3 ⟨a3, d3, rfl, o3, b3'⟩
          have b3 := b2.trans (b3'.mono b2.size)
          go_wp2_with fail
          refine (l1Out_any a3 0 d3 (V xa * V xb) _ HZ'.out (by omega) (Rd.own o3)).mono ?_
          rintro e v6 ⟨a6, d6, rfl, o6, b6'⟩
          go_wp2_with fail
          go_ret2
          rw [HZ.out]
          exact ⟨a6, d6, rb, cb, rfl, Rd.own o6, (((rb4.below b1').below b2').below b3').below b6', own_cap o6, hcb, b3.trans (b6'.mono b3.size)⟩
        · have HZ := HZ1
          have hp : 0 < V xa * V xb := by omega
          have hz' := lenD_pos _ hp
          have hlz : (0 : Int) < ((D (V xa * V xb)).length : Int) := by omega
          have h1l : (D 1).length ≤ 1 := M.len_of_lt (B := 4294967296) (by omega) _ _ (by omega)
          go_wp2_with fail
          refine (l1In_any ra _ ca xa _ rfl (by omega) fa ra4).mono ?_
          rintro e v1 ⟨a1, d1, rfl, o1, b1'⟩
          have b1 := hb4.trans (b1'.mono hb4.size)
          go_wp2_with fail
          refine (l1In_any rb _ cb xb _ rfl (by omega) fb (rb4.below b1')).mono ?_
          rintro e v2 ⟨a2, d2, rfl, o2, b2'⟩
          have b2 := b1.trans (b2'.mono b1.size)
          go_wp2_with fail
          refine (l1Mul_any a1 a2 _ _ d1 d2 (V xa) (V xb) _ rfl rfl (by omega) (by omega) ((Rd.own o1).below b2') (Rd.own o2)).mono ?_
          rintro e v3 ⟨a3, d3, rfl, o3, b3'⟩
          have b3 := b2.trans (b3'.mono b2.size)
          go_wp2_with fail
          refine (l1Of_any 1 _ (by omega)).mono ?_
          rintro e v4 ⟨a4, d4, rfl, o4, b4'⟩
          have b4 := b3.trans (b4'.mono b3.size)
          go_wp2_with fail
          refine (l1Sub_any a3 a4 _ _ d3 d4 (V xa * V xb) 1 _ rfl rfl (by omega) (by omega) ((Rd.own o3).below b4') (Rd.own o4)).mono ?_
          rintro e v5 ⟨a5, d5, rfl, o5, b5'⟩
          have b5 := b4.trans (b5'.mono b4.size)
          have sm2 : (D (V xa * V xb - 1)).length ≤ 2400 := M.len_of_lt (B := 4294967296) (by omega) _ _ (Nat.lt_of_le_of_lt (Nat.sub_le _ _) (D_lt _ 2400 (by omega)))
          go_wp2_with fail
          refine (l1Out_any a5 _ d5 (V xa * V xb - 1) _ rfl (by omega) (Rd.own o5)).mono ?_
          rintro e v6 ⟨a6, d6, rfl, o6, b6'⟩
          go_wp2_with fail
          go_ret2
          rw [HZ.out]
          exact ⟨a6, d6, rb, cb, rfl, Rd.own o6, (((((rb4.below b1').below b2').below b3').below b4').below b5').below b6', own_cap o6, hcb, b5.trans (b6'.mono b5.size)⟩

end Go.Proofs.Ytehplfmnipadmad
