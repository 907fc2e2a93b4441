/-
  The law FnExactScanDecimal.
-/
import Derived.Test.YtehplfmnipadmacDoorLSd1
namespace Go.Proofs.YtehplfmnipadmacDoor
open Go.RowKit
set_option linter.unusedVariables false

theorem dec_self (xs : List Nat) : decide (xs = xs) = true := by simp

theorem OwnY.belowAt {w w' : World} {lo hi B : Nat} {ao : Option Addr} {cap : Nat} {r : List Nat} (h : OwnY w lo hi ao cap r) (hb : Below B w w') (hB : hi ≤ B) : OwnY w' lo hi ao cap r := by
  refine ⟨⟨h.row.1, ?_⟩, h.place⟩
  rcases h.row.2 with k | ⟨g, cap', cur, e, h1, h2, h3⟩
  · exact .inl k
  · have := (h.place g (by rw [e]; rfl)).2
    exact .inr ⟨g, cap', cur, e, h1, (hb.block g (by omega)).trans h2, h3⟩

theorem bareD_len (xs : List Nat) : (M.bareD xs).length ≤ xs.length := Nat.le_trans (trimR_len _) (trimL_len _)

theorem numb_len {n : Bool} {v : List Nat} {d : M.Dec} (h : M.numb n v = some d) : d.digits.length ≤ v.length := by
  unfold M.numb at h
  split at h
  · cases h
  · rw [Option.map_eq_some_iff] at h
    obtain ⟨x, _, rfl⟩ := h
    have h1 := bareD_len ((M.cut 46 (M.cut 101 v).1).1 ++ (M.cut 46 (M.cut 101 v).1).2.1)
    have h2 := cut_len 46 (M.cut 101 v).1
    have h3 := cut_len 101 v
    rw [List.length_append] at h1
    show (M.bareD _).length ≤ _
    omega

theorem whole_len {bs : List Nat} {d : M.Dec} (h : M.whole bs = some d) : d.digits.length ≤ bs.length := by
  unfold M.whole M.body at h
  have hs := signed_len (bs.map M.low)
  rw [List.length_map] at hs
  split at h
  · cases h; simp
  · split at h
    · cases h; simp
    · have := numb_len h
      omega

theorem scOut_len (bs : List Nat) : (scOut bs).1.digits.length ≤ 10000 := by
  unfold scOut M.scanD
  split
  · simp
  · cases h : M.whole bs with
    | none => simp
    | some d =>
      have := whole_len h
      show d.digits.length ≤ _
      omega

set_option maxHeartbeats 4000000 in
theorem lawScanDecimal (a0 : Option Addr) (n c : Nat) (xs : List Nat) (w : World) (w0 : InB w a0 n c xs) (hF : Fol w) (hWd : Wds w) :
    Calls Tryd.prog 3 #[.slice a0 n c] w fun e w' => e = .returned (.bool true) ∧ Below w.heap.size w w' := by
  obtain ⟨hl, hc, hr⟩ := w0
  by_cases h1 : n ≤ 1048576
  · have HL := hid hl; clear hl
    have h1' : ¬ (1048576 : Int) < (n : Int) := by omega
    obtain ⟨o, ho⟩ : ∃ o, o = scOut xs := ⟨_, rfl⟩
    have hlen : o.1.digits.length ≤ 10000 := by rw [ho]; exact scOut_len xs
    have HO := hid ho; clear ho
    go_enter Tryd.func3, Tryd.ntmps3
    go_wp2_with fail
    refine (toB_any a0 n c xs _ HL.out (by omega) hr.y).mono ?_
    rintro e v2 ⟨rfl, hA2, b2⟩
    go_wp2_with fail
    refine (sscan_any _ n n xs _ HL.out (Nat.le_refl _) (fun e => by cases e) (RdB.of hA2.rd0 hr.1) o HO.out).mono ?_
    rintro e v3 ⟨aw, cw, rfl, how, hb3⟩
    have ow3 := OwnY.of how
    have b3 : Below w.heap.size w v3 := b2.trans (hb3.mono b2.size)
    clear hA2 hb3 how b2
    obtain ⟨v4, hv4⟩ : ∃ v, v = v3.alloc (.cells #[.int .i64 o.1.kind, .bool o.1.neg, .slice aw o.1.digits.length cw, .int .i64 o.1.exp, .int .i64 o.2.1, .int .i64 o.2.2] 26) := ⟨_, rfl⟩
    have BW : Cls v4 v3.heap.size #[.int .i64 o.1.kind, .bool o.1.neg, .slice aw o.1.digits.length cw, .int .i64 o.1.exp, .int .i64 o.2.1, .int .i64 o.2.2] 26 := by rw [hv4]; exact Cls.new _ _ _
    have hbv4 : Below v3.heap.size v3 v4 := by rw [hv4]; exact (Below.refl _ _).alloc (Nat.le_refl _) _
    have b4 := b3.trans (hbv4.mono b3.size)
    have ow4 := ow3.keep hbv4
    have ltW := BW.lt
    unfold scV
    subst hv4
    go_wp2_with fail
    generalize v3.alloc (.cells #[.int .i64 o.1.kind, .bool o.1.neg, .slice aw o.1.digits.length cw, .int .i64 o.1.exp, .int .i64 o.2.1, .int .i64 o.2.2] 26) = v4 at *
    refine (toB_any a0 n c xs _ HL.out (by omega) (hr.below b4).y).mono ?_
    rintro e v5 ⟨rfl, hX5, hb5⟩
    have b5 : Below w.heap.size w v5 := b4.trans (hb5.mono b4.size)
    have BW5 := BW.below hb5
    have ow5 := ow4.keep hb5
    have ltX := hX5.lt
    have hs5 := hb5.size
    clear BW ow4 ow3 hbv4 hb5
    go_wp2_with fail
    refine (iscan_any _ n n xs _ HL.out (RdB.of hX5.rd0 hr.1) (hF.below b5) (hWd.below b5) o HO.out).mono ?_
    rintro e v6 ⟨vg, rfl, hog, hb6⟩
    obtain ⟨ag, cg, rfl, hog2⟩ := hog
    have og6 : OwnV v6 v5.heap.size (.slice ag o.1.digits.length cg) o.1.digits := ⟨ag, cg, rfl, hog2⟩
    have b6 : Below w.heap.size w v6 := b5.trans (hb6.mono b5.size)
    have hX6 := hX5.keep hb6
    have ow6 := ow5.keep hb6
    have BW6 := BW5.below hb6
    have hs6 := hb6.size
    clear hog2 hX5 ow5 BW5 hb6
    have hag : 0 < o.1.digits.length → ∀ p, ag = some p → p.block ≠ v6.heap.size := by
      intro hp p hpe
      obtain ⟨_, _, e, _, _, _, _, h5⟩ := og6
      cases e
      obtain ⟨b, off, cur, e1, _, e3, _⟩ := h5 hp
      have := (Array.getElem?_eq_some_iff.1 e3).1
      rw [e1] at hpe
      cases hpe
      show b ≠ _
      omega
    have HAG := hid hag; clear hag
    obtain ⟨v7, hv7⟩ : ∃ v, v = v6.alloc (.cells #[.int .i64 o.1.kind, .bool o.1.neg, .slice ag o.1.digits.length cg, .int .i64 o.1.exp, .int .i64 o.2.1, .int .i64 o.2.2] 26) := ⟨_, rfl⟩
    have BG : Cls v7 v6.heap.size #[.int .i64 o.1.kind, .bool o.1.neg, .slice ag o.1.digits.length cg, .int .i64 o.1.exp, .int .i64 o.2.1, .int .i64 o.2.2] 26 := by rw [hv7]; exact Cls.new _ _ _
    have hbv7 : Below v6.heap.size v6 v7 := by rw [hv7]; exact (Below.refl _ _).alloc (Nat.le_refl _) _
    have b7 := b6.trans (hbv7.mono b6.size)
    have hX7 := hX6.keep hbv7
    have ow7 := ow6.keep hbv7
    have og7 := og6.below hbv7
    have BW7 := BW6.below hbv7
    have hs7 := hbv7.size
    clear hX6 ow6 og6 BW6 hbv7
    obtain ⟨gG, hgG⟩ : ∃ g, g = v6.heap.size := ⟨_, rfl⟩
    have OW := hid ow7; have OG := hid og7; have HX := hid hX7; have HB7 := hid b7; have HBW := hid BW7; have HBG := hid BG
    have x0 := BW7.cell 0 (x := .int .i64 o.1.kind) rfl
    have x1 := BW7.cell 1 (x := .bool o.1.neg) rfl
    have x2 := BW7.cell 2 (x := .slice aw o.1.digits.length cw) rfl
    have x3 := BW7.cell 3 (x := .int .i64 o.1.exp) rfl
    have x4 := BW7.cell 4 (x := .int .i64 o.2.1) rfl
    have x5 := BW7.cell 5 (x := .int .i64 o.2.2) rfl
    have y0 := BG.cell 0 (x := .int .i64 o.1.kind) rfl
    have y1 := BG.cell 1 (x := .bool o.1.neg) rfl
    have y2 := BG.cell 2 (x := .slice ag o.1.digits.length cg) rfl
    have y3 := BG.cell 3 (x := .int .i64 o.1.exp) rfl
    have y4 := BG.cell 4 (x := .int .i64 o.2.1) rfl
    have y5 := BG.cell 5 (x := .int .i64 o.2.2) rfl
    clear ow7 og7 hX7 b7 BW7 BG
    unfold scV
    subst hv7
    go_wp2_with fail
    generalize v6.alloc (.cells #[.int .i64 o.1.kind, .bool o.1.neg, .slice ag o.1.digits.length cg, .int .i64 o.1.exp, .int .i64 o.2.1, .int .i64 o.2.2] 26) = v7 at *
    refine (eqScanned_same o ag aw cg cw v7 hlen OG.out.rd.y OW.out.rd).mono ?_
    rintro e v8 ⟨rfl, hb8⟩
    clear x0 x1 x2 x3 x4 x5 y0 y1 y2 y3 y4 y5
    replace OW := hid (OW.out.keep hb8)
    replace HX := hid (HX.out.keep hb8)
    replace OG := hid (OG.out.below hb8)
    replace HBW := hid (HBW.out.below hb8)
    replace HBG := hid (HBG.out.below hb8)
    replace HB7 := hid (HB7.out.trans (hb8.mono HB7.out.size))
    have hs8 := hb8.size
    clear hb8
    go_wp2_with fail
    refine (toB_any a0 n c xs _ HL.out (by omega) (hr.below HB7.out).y).mono ?_
    rintro e v9 ⟨rfl, hA9, hb9⟩
    replace OW := hid (OW.out.keep hb9)
    replace HX := hid (HX.out.keep hb9)
    replace OG := hid (OG.out.below hb9)
    replace HBW := hid (HBW.out.below hb9)
    replace HBG := hid (HBG.out.below hb9)
    replace HB7 := hid (HB7.out.trans (hb9.mono HB7.out.size))
    have hs9 := hb9.size
    clear hb9
    go_wp2_with fail
    refine (eqB_any _ _ n n n n xs xs _ HL.out HL.out (by omega) (by omega) HX.out.rd0 hA9.rd0).mono ?_
    rintro e v10 ⟨rfl, q9, rfl⟩
    rw [dec_self]
    have hbq : Below v9.heap.size v9 (v9.drewN q9) := below_drewN (Below.refl _ _) q9
    replace OW := hid (OW.out.keep hbq)
    replace HX := hid (HX.out.keep hbq)
    replace OG := hid (OG.out.below hbq)
    replace HBW := hid (HBW.out.below hbq)
    replace HBG := hid (HBG.out.below hbq)
    replace HB7 := hid (HB7.out.trans (hbq.mono HB7.out.size))
    have hs10 := hbq.size
    clear hbq hA9
    generalize v9.drewN q9 = v10 at *
    obtain ⟨k1, hk1⟩ : ∃ k : Nat, k = 1 + n := ⟨_, rfl⟩
    obtain ⟨k3, hk3⟩ : ∃ k : Nat, k = 1 + o.1.digits.length := ⟨_, rfl⟩
    have HK1 := hid hk1; clear hk1
    have HK3 := hid hk3; clear hk3
    go_wp2_with fail
    refine (markB_any 0 (some ⟨v4.heap.size, 0, none⟩) n n 1 xs _ k1 HK1.out (by omega) (by omega) (HX.out.own (Nat.zero_le _) HL.out (by unfold maxLen; omega))).mono ?_
    rintro e v13 ⟨rfl, _, hg12⟩
    replace HB7 := hid (HB7.out.grown hg12 HB7.out.size (fun k hk => by simp [Value.ownBlock] at hk; have := b4.size; omega))
    replace OW := hid (OW.out.grown hg12 (fun k h1 h2 => by simp [Value.ownBlock]; omega))
    replace OG := hid (OG.out.grown hg12 (fun j e => by simp [Value.ownBlock] at e; omega))
    replace HBW := hid (HBW.out.grown hg12 (by simp [Value.ownBlock]; omega))
    replace HBG := hid (HBG.out.grown hg12 (by simp [Value.ownBlock]; omega))
    have hs13 := hg12.size
    clear HX hg12
    have hneg : ¬ (k1 : Int) < 0 := by omega
    have x0 := HBW.out.cell 0 (x := .int .i64 o.1.kind) rfl
    have x1 := HBW.out.cell 1 (x := .bool o.1.neg) rfl
    have x2 := HBW.out.cell 2 (x := .slice aw o.1.digits.length cw) rfl
    have x3 := HBW.out.cell 3 (x := .int .i64 o.1.exp) rfl
    have x4 := HBW.out.cell 4 (x := .int .i64 o.2.1) rfl
    have x5 := HBW.out.cell 5 (x := .int .i64 o.2.2) rfl
    have y0 := HBG.out.cell 0 (x := .int .i64 o.1.kind) rfl
    have y1 := HBG.out.cell 1 (x := .bool o.1.neg) rfl
    have y2 := HBG.out.cell 2 (x := .slice ag o.1.digits.length cg) rfl
    have y3 := HBG.out.cell 3 (x := .int .i64 o.1.exp) rfl
    have y4 := HBG.out.cell 4 (x := .int .i64 o.2.1) rfl
    have y5 := HBG.out.cell 5 (x := .int .i64 o.2.2) rfl
    go_wp2_with fail
    refine (eqScanned_same o ag aw cg cw v13 hlen OG.out.rd.y OW.out.rd).mono ?_
    rintro e v14 ⟨rfl, hb14⟩
    clear x0 x1 x2 x3 x4 x5 y0 y1 y2 y3 y4 y5
    replace OW := hid (OW.out.keep hb14)
    replace OG := hid (OG.out.below hb14)
    replace HBW := hid (HBW.out.below hb14)
    replace HBG := hid (HBG.out.below hb14)
    replace HB7 := hid (HB7.out.trans (hb14.mono HB7.out.size))
    have hs14 := hb14.size
    clear hb14
    have y0 := HBG.out.cell 0 (x := .int .i64 o.1.kind) rfl
    have y1 := HBG.out.cell 1 (x := .bool o.1.neg) rfl
    have y2 := HBG.out.cell 2 (x := .slice ag o.1.digits.length cg) rfl
    have y3 := HBG.out.cell 3 (x := .int .i64 o.1.exp) rfl
    have y4 := HBG.out.cell 4 (x := .int .i64 o.2.1) rfl
    have y5 := HBG.out.cell 5 (x := .int .i64 o.2.2) rfl
    go_wp2_with fail
    refine (markSc_any v5.heap.size o ag cg v14 k3 HK3.out hlen (by omega) OG.out).mono ?_
    rintro e v15 ⟨rfl, rg15, hb15, hk15⟩
    clear y0 y1 y2 y3 y4 y5
    have ltG := HBG.out.lt
    replace HBG := hid ((hk15 _ ltG HAG.out).trans HBG.out)
    replace HBW := hid ((hb15.block _ (by omega)).trans HBW.out)
    replace OW := hid (OW.out.belowAt hb15 (by omega))
    replace HB7 := hid (HB7.out.trans (hb15.mono (by have := b5.size; omega)))
    have hs15 := hb15.size
    clear hb15 hk15 OG
    have HBG2 : Cls v15 v6.heap.size #[.int .i64 o.1.kind, .bool o.1.neg, .slice ag o.1.digits.length cg, .int .i64 o.1.exp, .int .i64 o.2.1, .int .i64 o.2.2] 26 := HBG.out
    have HBW2 : Cls v15 v3.heap.size #[.int .i64 o.1.kind, .bool o.1.neg, .slice aw o.1.digits.length cw, .int .i64 o.1.exp, .int .i64 o.2.1, .int .i64 o.2.2] 26 := HBW.out
    have y0 := HBG2.cell 0 (x := .int .i64 o.1.kind) rfl
    have y1 := HBG2.cell 1 (x := .bool o.1.neg) rfl
    have y2 := HBG2.cell 2 (x := .slice ag o.1.digits.length cg) rfl
    have y3 := HBG2.cell 3 (x := .int .i64 o.1.exp) rfl
    have y4 := HBG2.cell 4 (x := .int .i64 o.2.1) rfl
    have y5 := HBG2.cell 5 (x := .int .i64 o.2.2) rfl
    go_wp2_with fail
    refine (heldSc_any o ag cg v15 k3 HK3.out hlen rg15).mono ?_
    rintro e v16 ⟨rfl, hb16⟩
    clear y0 y1 y2 y3 y4 y5
    have HW16 := hid (HBW2.below hb16)
    replace OW := hid (OW.out.keep hb16)
    replace HB7 := hid (HB7.out.trans (hb16.mono HB7.out.size))
    have hs16 := hb16.size
    clear hb16 HBG HBW HBG2 HBW2 rg15
    have hneg2 : ¬ (k3 : Int) < 0 := by omega
    have hne2 : ((k3 : Int) != (k3 : Int)) = false := by simp
    go_wp2_with fail
    refine (toB_any a0 n c xs _ HL.out (by omega) (hr.below HB7.out).y).mono ?_
    rintro e v18 ⟨rfl, hX18, hb18⟩
    replace HW16 := hid (HW16.out.below hb18)
    replace OW := hid (OW.out.keep hb18)
    replace HB7 := hid (HB7.out.trans (hb18.mono HB7.out.size))
    have hs18 := hb18.size
    clear hb18
    go_wp2_with fail
    refine (iscan_any _ n n xs _ HL.out (RdB.of hX18.rd0 hr.1) (hF.below HB7.out) (hWd.below HB7.out) o HO.out).mono ?_
    rintro e v19 ⟨vh, rfl, hoh, hb19⟩
    obtain ⟨ah, ch, rfl, hoh2⟩ := hoh
    have oh19 : OwnV v19 v18.heap.size (.slice ah o.1.digits.length ch) o.1.digits := ⟨ah, ch, rfl, hoh2⟩
    replace HW16 := hid (HW16.out.below hb19)
    replace OW := hid (OW.out.keep hb19)
    replace HB7 := hid (HB7.out.trans (hb19.mono HB7.out.size))
    have hs19 := hb19.size
    clear hb19 hoh2 hX18
    obtain ⟨v20, hv20⟩ : ∃ v, v = v19.alloc (.cells #[.int .i64 o.1.kind, .bool o.1.neg, .slice ah o.1.digits.length ch, .int .i64 o.1.exp, .int .i64 o.2.1, .int .i64 o.2.2] 26) := ⟨_, rfl⟩
    have BH : Cls v20 v19.heap.size #[.int .i64 o.1.kind, .bool o.1.neg, .slice ah o.1.digits.length ch, .int .i64 o.1.exp, .int .i64 o.2.1, .int .i64 o.2.2] 26 := by rw [hv20]; exact Cls.new _ _ _
    have hbv20 : Below v19.heap.size v19 v20 := by rw [hv20]; exact (Below.refl _ _).alloc (Nat.le_refl _) _
    replace HW16 := hid (HW16.out.below hbv20)
    replace OW := hid (OW.out.keep hbv20)
    have OH := hid (oh19.below hbv20)
    replace HB7 := hid (HB7.out.trans (hbv20.mono HB7.out.size))
    clear hbv20 oh19
    have x0 := HW16.out.cell 0 (x := .int .i64 o.1.kind) rfl
    have x1 := HW16.out.cell 1 (x := .bool o.1.neg) rfl
    have x2 := HW16.out.cell 2 (x := .slice aw o.1.digits.length cw) rfl
    have x3 := HW16.out.cell 3 (x := .int .i64 o.1.exp) rfl
    have x4 := HW16.out.cell 4 (x := .int .i64 o.2.1) rfl
    have x5 := HW16.out.cell 5 (x := .int .i64 o.2.2) rfl
    have y0 := BH.cell 0 (x := .int .i64 o.1.kind) rfl
    have y1 := BH.cell 1 (x := .bool o.1.neg) rfl
    have y2 := BH.cell 2 (x := .slice ah o.1.digits.length ch) rfl
    have y3 := BH.cell 3 (x := .int .i64 o.1.exp) rfl
    have y4 := BH.cell 4 (x := .int .i64 o.2.1) rfl
    have y5 := BH.cell 5 (x := .int .i64 o.2.2) rfl
    have HBH := hid BH; clear BH
    unfold scV
    subst hv20
    go_wp2_with fail
    generalize v19.alloc (.cells #[.int .i64 o.1.kind, .bool o.1.neg, .slice ah o.1.digits.length ch, .int .i64 o.1.exp, .int .i64 o.2.1, .int .i64 o.2.2] 26) = v20 at *
    refine (eqScanned_same o ah aw ch cw v20 hlen OH.out.rd.y OW.out.rd).mono ?_
    rintro e v21 ⟨rfl, hb21⟩
    replace HB7 := hid (HB7.out.trans (hb21.mono HB7.out.size))
    clear x0 x1 x2 x3 x4 x5 y0 y1 y2 y3 y4 y5
    go_wp2_with fail
    go_ret
    exact ⟨rfl, HB7.out⟩
  · have h1' : (1048576 : Int) < (n : Int) := by omega
    go_enter Tryd.func3, Tryd.ntmps3
    go_wp2_with fail
    go_ret
    exact ⟨rfl, Below.refl _ _⟩
end Go.Proofs.YtehplfmnipadmacDoor
