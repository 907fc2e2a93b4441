import Derived.Defers
import Derived.Recover
import Derived.Test.YtjffpclidcloeaaGreatDoorrBU
set_option maxHeartbeats 2000000
namespace Go.Proofs.YtjffpclidcloeaaGreatDoor
open Go.RowKit
set_option linter.unusedVariables false
set_option maxRecDepth 100000
abbrev endsV : Array Value := #[.string ⟨#[]⟩, .string ⟨#[48]⟩, .string ⟨#[105, 110, 102]⟩, .string ⟨#[110, 102]⟩, .string ⟨#[102]⟩, .string ⟨#[110, 97, 110]⟩, .string ⟨#[97, 110]⟩, .string ⟨#[110]⟩, .string ⟨#[105, 110, 105, 116, 121]⟩, .string ⟨#[110, 105, 116, 121]⟩, .string ⟨#[105, 116, 121]⟩, .string ⟨#[116, 121]⟩, .string ⟨#[121]⟩]

def endsB : List ByteArray := [⟨#[]⟩, ⟨#[48]⟩, ⟨#[105, 110, 102]⟩, ⟨#[110, 102]⟩, ⟨#[102]⟩, ⟨#[110, 97, 110]⟩, ⟨#[97, 110]⟩, ⟨#[110]⟩, ⟨#[105, 110, 105, 116, 121]⟩, ⟨#[110, 105, 116, 121]⟩, ⟨#[105, 116, 121]⟩, ⟨#[116, 121]⟩, ⟨#[121]⟩]

theorem endsV_get (k : Nat) (hk : k < 13) : endsV[k]? = some (.string (endsB.getD k ⟨#[]⟩)) := by
 rcases (show k = 0 ∨ k = 1 ∨ k = 2 ∨ k = 3 ∨ k = 4 ∨ k = 5 ∨ k = 6 ∨ k = 7 ∨ k = 8 ∨ k = 9 ∨ k = 10 ∨ k = 11 ∨ k = 12 by omega) with rfl | rfl | rfl | rfl | rfl | rfl | rfl | rfl | rfl | rfl | rfl | rfl | rfl <;> rfl

theorem endsB_get (k : Nat) (hk : k < 13) : lett (endsB.getD k ⟨#[]⟩) = M.ends.getD k [] ∧ (endsB.getD k ⟨#[]⟩).size = (M.ends.getD k []).length ∧ (endsB.getD k ⟨#[]⟩).size ≤ 5 := by
 rcases (show k = 0 ∨ k = 1 ∨ k = 2 ∨ k = 3 ∨ k = 4 ∨ k = 5 ∨ k = 6 ∨ k = 7 ∨ k = 8 ∨ k = 9 ∨ k = 10 ∨ k = 11 ∨ k = 12 by omega) with rfl | rfl | rfl | rfl | rfl | rfl | rfl | rfl | rfl | rfl | rfl | rfl | rfl <;> decide

theorem begins_no (bs : List Nat) (h : ∀ j, j < 13 → M.whole (bs ++ M.ends.getD j []) = none) : M.begins bs = false := by
 unfold M.begins
 rw [List.any_eq_false]
 intro s hs
 obtain ⟨j, hj, rfl⟩ := List.getElem_of_mem hs
 have := h j hj
 rw [List.getD_eq_getElem?_getD, List.getElem?_eq_getElem hj] at this
 simp only [Option.getD_some] at this
 rw [this]
 simp

theorem begins_yes (bs : List Nat) (j : Nat) (hj : j < 13) {d : M.Dec} (h : M.whole (bs ++ M.ends.getD j []) = some d) : M.begins bs = true := by
 rw [M.begins_iff]
 refine ⟨M.ends.getD j [], ?_, d, h⟩
 rw [List.getD_eq_getElem?_getD, List.getElem?_eq_getElem (show j < M.ends.length from hj)]
 exact List.getElem_mem _

theorem app_256 {bs : List Nat} (h : ∀ x ∈ bs, x < 256) (s : ByteArray) : ∀ x ∈ bs ++ lett s, x < 256 := by
 intro x hx
 rcases List.mem_append.1 hx with hx | hx
 · exact h x hx
 · unfold lett at hx
   obtain ⟨y, _, rfl⟩ := List.mem_map.1 hx
   exact y.toNat_lt

theorem l5Begins_any (ao : Option Addr) (n c : Nat) (bs : List Nat) (w : World) (hl : bs.length = n) (hn : n ≤ 9000) (hno : ao = none → c = 0) (hr : RdB w ao bs) (b : Bool) (hb : b = M.begins bs) :
 Calls Tryz.prog 54 #[.slice ao n c] w fun e w' => e = .returned (.bool b) ∧ Below w.heap.size w w' := by
 have HB := hid hb; clear hb
 go_enter Tryz.func54, Tryz.ntmps54
 go_wp2_with fail
 go_loopw [11] (fun i wr => ∃ k : Nat, k ≤ 13 ∧ i = .int .i64 (k : Int) ∧ (∀ j, j < k → M.whole (bs ++ M.ends.getD j []) = none) ∧ Cls wr w.heap.size endsV 9 ∧ Below w.heap.size w wr) (fun i _ => 13 - (intOf i).toNat)
 case atStart => exact ⟨0, by omega, rfl, fun j hj => by omega, Cls.new _ _ _, (Below.refl _ _).alloc (Nat.le_refl _) _⟩
 case round =>
  rename World => wr
  obtain ⟨k, hk, rfl, hd, hC, hB⟩ := hrel
  have HD := hid hd; clear hd
  by_cases hlt : k < 13
  · have hlt' : (k : Int) < 13 := by omega
    have hck := hC.cell k (endsV_get k hlt)
    obtain ⟨g1, g2, g3⟩ := endsB_get k hlt
    generalize endsB.getD k ⟨#[]⟩ = s at *
    have G1 := hid g1; have G2 := hid g2
    clear g1 g2
    have rA := hr.below hB
    have HC := hid hC; have BH := hid hB
    clear hC hB
    go_wp2_with (at_builtin; refine append_src rfl _ _ rfl wr wr.heap.size _ 0 [] rfl (World.ownsRow_nil _ _ _ _) ao n c bs rfl hl hno rA (by omega) (Nat.le_refl _) ?_)
    intro ra1 rc1 wB ownB grB
    have bB : Below wr.heap.size wr wB := (Below.refl _ _).grown grB (Nat.le_refl _) (fun j e => by cases e)
    have hsB := bB.size
    go_wp2_with (at_builtin; refine append_str rfl _ _ rfl wB wr.heap.size (.slice ra1 n rc1) n bs rfl ownB s rfl (by omega) hsB ?_)
    intro ra2 rc2 wC ownC grC
    have bC : Below wr.heap.size wr wC := bB.grown grC hsB (fun j e => own_place ownB e)
    have qC : RdV wC (.slice ra2 (n + s.size) rc2) (bs ++ lett s) := RdV.of_own ownC (app_256 hr.1 s)
    have CC := HC.out.below bC
    have BC := BH.out.trans (bC.mono BH.out.size)
    clear ownB ownC grB grC bB bC hsB rA HC BH
    obtain ⟨_, _, eq1, hc2, hcm2, hno2, rC⟩ := qC
    have hll : (bs ++ lett s).length = n + s.size := by rw [List.length_append, hl, G1.out, ← G2.out]
    rw [hll] at eq1 hc2
    cases eq1
    go_wp2_with fail
    refine (l5Whole_any ra2 (n + s.size) rc2 (bs ++ lett s) wC hll (by omega) rC _ rfl).mono ?_
    intro e wD hW
    rw [G1.out] at hW
    cases hwv : M.whole (bs ++ M.ends.getD k []) with
    | none =>
      rw [hwv] at hW
      obtain ⟨rfl, bD⟩ := hW
      have CD := CC.below bD
      have BD := BC.trans (bD.mono BC.size)
      have HWV := hid hwv; have CDH := hid CD; have BDH := hid BD
      clear hwv CC BC CD BD bD rC hno2
      unfold decV
      go_wp2_with fail
      refine ⟨⟨k + 1, by omega, by go_num, ?_, CDH.out.below ((Below.refl _ _).alloc (Nat.le_refl _) _), BDH.out.alloc BDH.out.size _⟩, by simp [intOf]; omega⟩
      intro j hj
      by_cases e : j = k
      · rw [e]; exact HWV.out
      · exact HD.out j (by omega)
    | some d =>
      rw [hwv] at hW
      obtain ⟨ra3, rc3, rfl, _, bD⟩ := hW
      have BD := BC.trans (bD.mono BC.size)
      have HWV := hid hwv; have BDH := hid BD
      clear hwv CC BC BD bD rC hno2
      unfold decV
      go_wp2_with fail
      go_ret
      exact ⟨by rw [HB.out, begins_yes bs k hlt HWV.out]; rfl, BDH.out.alloc BDH.out.size _⟩
  · have e : k = 13 := by omega
    subst e
    have hbf : b = false := by rw [HB.out]; exact begins_no bs HD.out
    have HBF := hid hbf
    have HC := hid hC; have BH := hid hB
    clear hbf hC hB
    go_wp2_with fail
    go_ret
    exact ⟨by rw [HBF.out]; rfl, BH.out⟩

def scOut (bs : List Nat) : M.Dec × Int × Int := if 800 < bs.length then (⟨0, false, [], 0⟩, 2, 800) else match M.scanD bs with
 | .inl d => (d, 0, 0)
 | .inr k => (⟨0, false, [], 0⟩, 1, (k : Int))

def scV (o : M.Dec × Int × Int) (v : Value) : Value := .agg #[.int .i64 o.1.kind, .bool o.1.neg, v, .int .i64 o.1.exp, .int .i64 o.2.1, .int .i64 o.2.2]

def ScR (w w' : World) (e : Ending) (o : M.Dec × Int × Int) : Prop :=
 ∃ ra rc, e = .returned (scV o (.slice ra o.1.digits.length rc)) ∧ w'.ownsRow w.heap.size 5 1 (.slice ra o.1.digits.length rc) o.1.digits.length (UB o.1.digits) ∧ Below w.heap.size w w'

theorem box6 {W : World} {g : Nat} {xs : Array Value} {t : TypeId} (R : Cls W g xs t) (hx : xs.size = 6) (a b c d e f : Value) :
 Cls ((((((W.setCell ⟨g, 0, none⟩ a).setCell ⟨g, 1, none⟩ b).setCell ⟨g, 2, none⟩ c).setCell ⟨g, 3, none⟩ d).setCell ⟨g, 4, none⟩ e).setCell ⟨g, 5, none⟩ f) g #[a, b, c, d, e, f] t := by
 refine (((((R.set 0 a _ rfl).set 1 b _ rfl).set 2 c _ rfl).set 3 d _ rfl).set 4 e _ rfl).set 5 f _ ?_
 obtain ⟨l⟩ := xs
 match l, hx with
 | [x0, x1, x2, x3, x4, x5], _ => rfl

theorem below6 {w W : World} {g : Nat} (H : Below g w W) (a b c d e f : Value) :
 Below g w ((((((W.setCell ⟨g, 0, none⟩ a).setCell ⟨g, 1, none⟩ b).setCell ⟨g, 2, none⟩ c).setCell ⟨g, 3, none⟩ d).setCell ⟨g, 4, none⟩ e).setCell ⟨g, 5, none⟩ f) :=
 (((((H.setCell (p := ⟨g, 0, none⟩) (Nat.le_refl _) _).setCell (p := ⟨g, 1, none⟩) (Nat.le_refl _) _).setCell (p := ⟨g, 2, none⟩) (Nat.le_refl _) _).setCell (p := ⟨g, 3, none⟩) (Nat.le_refl _) _).setCell (p := ⟨g, 4, none⟩) (Nat.le_refl _) _).setCell (p := ⟨g, 5, none⟩) (Nat.le_refl _) _

abbrev zSc : Array Value := #[.int .i64 0, .bool false, .slice none 0 0, .int .i64 0, .int .i64 0, .int .i64 0]

theorem sscan_any (ao : Option Addr) (n c : Nat) (bs : List Nat) (w : World) (hl : bs.length = n) (hcap : n ≤ c) (hno : ao = none → c = 0) (hr : RdB w ao bs) (o : M.Dec × Int × Int) (ho : o = scOut bs) :
 Calls Tryz.prog 25 #[.slice ao n c] w fun e w' => ScR w w' e o := by
 have HO := hid ho; clear ho
 by_cases h8 : 800 < n
 · have h8' : (800 : Int) < (n : Int) := by omega
   go_enter Tryz.func25, Tryz.ntmps25
   go_wp2_with fail
   have R9 := Cls.new w #[.int .i64 0, .bool false, .slice none 0 0, .int .i64 0, .int .i64 2, .int .i64 800] 65
   have H9 : Below w.heap.size w (w.alloc (.cells #[.int .i64 0, .bool false, .slice none 0 0, .int .i64 0, .int .i64 2, .int .i64 800] 65)) := (Below.refl _ _).alloc (Nat.le_refl _) _
   generalize w.alloc (.cells #[.int .i64 0, .bool false, .slice none 0 0, .int .i64 0, .int .i64 2, .int .i64 800] 65) = w9 at R9 H9 ⊢
   have z0 := R9.cell 0 (x := .int .i64 0) rfl
   have z1 := R9.cell 1 (x := .bool false) rfl
   have z2 := R9.cell 2 (x := .slice none 0 0) rfl
   have z3 := R9.cell 3 (x := .int .i64 0) rfl
   have z4 := R9.cell 4 (x := .int .i64 2) rfl
   have z5 := R9.cell 5 (x := .int .i64 800) rfl
   refine bodyPost_ret (v := .agg #[.int .i64 0, .bool false, .slice none 0 0, .int .i64 0, .int .i64 2, .int .i64 800]) (by simp [results, Tryz.results25, go_sem, z0, z1, z2, z3, z4, z5]) rfl ?_
   rw [HO.out, scOut, if_pos (by omega)]
   exact ⟨none, 0, rfl, World.ownsRow_nil _ _ _ _, H9⟩
 · have h8' : ¬ (800 : Int) < (n : Int) := by omega
   go_enter Tryz.func25, Tryz.ntmps25
   go_wp2_with fail
   have b1 : Below w.heap.size w (w.alloc (.cells zSc 65)) := (Below.refl _ _).alloc (Nat.le_refl _) _
   have R1 : Cls (w.alloc (.cells zSc 65)) w.heap.size zSc 65 := Cls.new _ _ _
   have hr1 := hr.below b1
   generalize w.alloc (.cells zSc 65) = w1 at b1 R1 hr1 ⊢
   refine (l5Whole_any ao n c bs w1 hl (by omega) hr1 _ rfl).mono ?_
   intro e w2 hW
   have hsc : o = match (match M.whole bs with | some d => Sum.inl d | none => Sum.inr (M.along bs bs.length) : M.Dec ⊕ Nat) with | .inl d => (d, 0, 0) | .inr k => (⟨0, false, [], 0⟩, 1, (k : Int)) := by rw [HO.out, scOut, if_neg (by omega)]; rfl
   clear HO
   cases hwv : M.whole bs with
   | some d =>
     rw [hwv] at hW hsc
     obtain ⟨ra3, rc3, rfl, own2, b2⟩ := hW
     have R2 := R1.below b2
     have B2 := b1.trans (b2.mono b1.size)
     have HS := hid hsc
     have ltR : w.heap.size < w1.heap.size := R1.lt
     have box : Array Value := #[.int .i64 d.kind, .bool d.neg, .slice ra3 d.digits.length rc3, .int .i64 d.exp]
     have bA : Below w2.heap.size w2 (w2.alloc (.cells #[.int .i64 d.kind, .bool d.neg, .slice ra3 d.digits.length rc3, .int .i64 d.exp] 36)) := (Below.refl _ _).alloc (Nat.le_refl _) _
     have RA := R2.below bA
     have BA := B2.trans (bA.mono B2.size)
     have OA := ownY_below own2 bA
     have y0 := RA.cell 0 (x := .int .i64 0) rfl
     have y1 := RA.cell 1 (x := .bool false) rfl
     have y2 := RA.cell 2 (x := .slice none 0 0) rfl
     have y3 := RA.cell 3 (x := .int .i64 0) rfl
     have y4 := RA.cell 4 (x := .int .i64 0) rfl
     have y5 := RA.cell 5 (x := .int .i64 0) rfl
     have f0 := RA.frozen 0
     have f1 := RA.frozen 1
     have f2 := RA.frozen 2
     have f3 := RA.frozen 3
     have f4 := RA.frozen 4
     have f5 := RA.frozen 5
     have RAH := hid RA; have BAH := hid BA; have OWH := hid OA
     clear RA BA OA R1 R2 B2 own2 hwv hsc bA hr1 b2 box
     unfold decV
     go_wp2_with fail
     have O9 := (ownY_far (ownY_far (ownY_far (ownY_far (ownY_far (ownY_far OWH.out ⟨w.heap.size, 0, none⟩ ltR (.int .i64 d.kind)) ⟨w.heap.size, 1, none⟩ ltR (.bool d.neg)) ⟨w.heap.size, 2, none⟩ ltR (.slice ra3 d.digits.length rc3)) ⟨w.heap.size, 3, none⟩ ltR (.int .i64 d.exp)) ⟨w.heap.size, 4, none⟩ ltR (.int .i64 0)) ⟨w.heap.size, 5, none⟩ ltR (.int .i64 0))
     generalize (w2.alloc (.cells #[.int .i64 d.kind, .bool d.neg, .slice ra3 d.digits.length rc3, .int .i64 d.exp] 36)) = wA at *
     have R9 := box6 RAH.out rfl (.int .i64 d.kind) (.bool d.neg) (.slice ra3 d.digits.length rc3) (.int .i64 d.exp) (.int .i64 0) (.int .i64 0)
     have H9 := below6 BAH.out (.int .i64 d.kind) (.bool d.neg) (.slice ra3 d.digits.length rc3) (.int .i64 d.exp) (.int .i64 0) (.int .i64 0)
     generalize ((((((wA.setCell ⟨w.heap.size, 0, none⟩ (.int .i64 d.kind)).setCell ⟨w.heap.size, 1, none⟩ (.bool d.neg)).setCell ⟨w.heap.size, 2, none⟩ (.slice ra3 d.digits.length rc3)).setCell ⟨w.heap.size, 3, none⟩ (.int .i64 d.exp)).setCell ⟨w.heap.size, 4, none⟩ (.int .i64 0)).setCell ⟨w.heap.size, 5, none⟩ (.int .i64 0)) = w9 at R9 H9 O9 ⊢
     have z0 := R9.cell 0 (x := .int .i64 d.kind) rfl
     have z1 := R9.cell 1 (x := .bool d.neg) rfl
     have z2 := R9.cell 2 (x := .slice ra3 d.digits.length rc3) rfl
     have z3 := R9.cell 3 (x := .int .i64 d.exp) rfl
     have z4 := R9.cell 4 (x := .int .i64 0) rfl
     have z5 := R9.cell 5 (x := .int .i64 0) rfl
     refine bodyPost_ret (v := .agg #[.int .i64 d.kind, .bool d.neg, .slice ra3 d.digits.length rc3, .int .i64 d.exp, .int .i64 0, .int .i64 0]) (by simp [results, Tryz.results25, go_sem, z0, z1, z2, z3, z4, z5]) rfl ?_
     rw [HS.out]
     exact ⟨ra3, rc3, rfl, ownY_base O9 b1.size, H9⟩
   | none =>
     rw [hwv] at hW hsc
     obtain ⟨rfl, b2⟩ := hW
     have R2 := R1.below b2
     have B2 := b1.trans (b2.mono b1.size)
     have HS := hid hsc
     have RH := hid R2; have BH := hid B2
     have r2 := hr1.below b2
     clear hwv hsc R1 R2 B2 b2 hr1
     unfold decV
     have bz : Below w2.heap.size w2 (w2.alloc (.cells zDec 36)) := (Below.refl _ _).alloc (Nat.le_refl _) _
     have RZ := hid (RH.out.below bz)
     have BZ := hid (BH.out.trans (bz.mono BH.out.size))
     have rZ := r2.below bz
     clear bz RH BH r2
     go_upto_block 0 with fail
     generalize (w2.alloc (.cells zDec 36)) = w3 at *
     go_cut [5] (fun v wr => v = .int .i64 ((M.along bs bs.length : Nat) : Int) ∧ Cls wr w.heap.size zSc 65 ∧ Below w.heap.size w wr)
     case first =>
      go_wp2_with fail
      go_loopw [5] (fun v wr => ∃ k : Nat, k ≤ n ∧ v = .int .i64 (k : Int) ∧ M.along bs bs.length = M.along bs k ∧ Cls wr w.heap.size zSc 65 ∧ Below w.heap.size w wr ∧ RdB wr ao bs) (fun v _ => (intOf v).toNat)
      case atStart => exact ⟨n, Nat.le_refl _, rfl, by rw [hl], RZ.out, BZ.out, rZ⟩
      case round =>
       rename World => wr
       obtain ⟨k, hk, rfl, g1, g2, g3, g4⟩ := hrel
       have G1 := hid g1; have G2 := hid g2; have G3 := hid g3
       clear g1 g2 g3
       cases k with
       | zero =>
         go_wp2_with fail
         go_meet
         case rel => rw [G1.out]; exact ⟨rfl, G2.out, G3.out⟩
       | succ k =>
         have hpos : (0 : Int) < ((k + 1 : Nat) : Int) := by omega
         have hkn : ((k + 1 : Nat) : Int) ≤ (n : Int) := by omega
         have hkc : k + 1 ≤ c := by omega
         have e1 : (bs.take (k + 1)).length = k + 1 := by rw [List.length_take]; omega
         have hm1 : ((k + 1 : Nat) : Int) - 1 = (k : Int) := by omega
         obtain ⟨bb, hbb⟩ : ∃ bb, bb = M.begins (bs.take (k + 1)) := ⟨_, rfl⟩
         have kB := l5Begins_any ao (k + 1) c (bs.take (k + 1)) wr e1 (by omega) hno (g4.front (k + 1)) bb hbb
         have halo : M.along bs (k + 1) = if bb then k + 1 else M.along bs k := by rw [hbb]; rfl
         have HA := hid halo; have G4 := hid g4
         clear hbb halo g4 e1
         go_wp2_with fail
         refine kB.mono ?_
         rintro e wB ⟨rfl, b5⟩
         have R5 := hid (G2.out.below b5)
         have B5 := hid (G3.out.trans (b5.mono G3.out.size))
         have r5 := hid (G4.out.below b5)
         clear kB b5
         cases bb with
         | true =>
           go_wp2_with fail
           go_meet
           case rel => rw [G1.out, HA.out]; exact ⟨rfl, R5.out, B5.out⟩
         | false =>
           go_wp2_with fail
           go_roundw
           case rel => exact ⟨k, by omega, by go_num, by rw [G1.out, HA.out]; rfl, R5.out, B5.out, r5.out⟩
           case measure => simp [intOf]
     case rest =>
      rename World => wE
      obtain ⟨rfl, RE, BE⟩ := hcut
      generalize M.along bs bs.length = k at *
      have y0 := RE.cell 0 (x := .int .i64 0) rfl
      have y1 := RE.cell 1 (x := .bool false) rfl
      have y2 := RE.cell 2 (x := .slice none 0 0) rfl
      have y3 := RE.cell 3 (x := .int .i64 0) rfl
      have y4 := RE.cell 4 (x := .int .i64 0) rfl
      have y5 := RE.cell 5 (x := .int .i64 0) rfl
      have f0 := RE.frozen 0
      have f1 := RE.frozen 1
      have f2 := RE.frozen 2
      have f3 := RE.frozen 3
      have f4 := RE.frozen 4
      have f5 := RE.frozen 5
      have REH := hid RE; have BEH := hid BE
      clear RE BE
      go_wp2_with fail
      have RE := REH.out
      have BE := BEH.out
      clear y0 y1 y2 y3 y4 y5 f0 f1 f2 f3 f4 f5
      have R9 := box6 RE rfl (.int .i64 0) (.bool false) (.slice none 0 0) (.int .i64 0) (.int .i64 1) (.int .i64 ((k : Nat) : Int))
      have H9 := below6 BE (.int .i64 0) (.bool false) (.slice none 0 0) (.int .i64 0) (.int .i64 1) (.int .i64 ((k : Nat) : Int))
      generalize ((((((wE.setCell ⟨w.heap.size, 0, none⟩ (.int .i64 0)).setCell ⟨w.heap.size, 1, none⟩ (.bool false)).setCell ⟨w.heap.size, 2, none⟩ (.slice none 0 0)).setCell ⟨w.heap.size, 3, none⟩ (.int .i64 0)).setCell ⟨w.heap.size, 4, none⟩ (.int .i64 1)).setCell ⟨w.heap.size, 5, none⟩ (.int .i64 ((k : Nat) : Int))) = w9 at R9 H9 ⊢
      have z0 := R9.cell 0 (x := .int .i64 0) rfl
      have z1 := R9.cell 1 (x := .bool false) rfl
      have z2 := R9.cell 2 (x := .slice none 0 0) rfl
      have z3 := R9.cell 3 (x := .int .i64 0) rfl
      have z4 := R9.cell 4 (x := .int .i64 1) rfl
      have z5 := R9.cell 5 (x := .int .i64 ((k : Nat) : Int)) rfl
      refine bodyPost_ret (v := .agg #[.int .i64 0, .bool false, .slice none 0 0, .int .i64 0, .int .i64 1, .int .i64 ((k : Nat) : Int)]) (by simp [results, Tryz.results25, go_sem, z0, z1, z2, z3, z4, z5]) rfl ?_
      rw [HS.out]
      exact ⟨none, 0, rfl, World.ownsRow_nil _ _ _ _, H9⟩

theorem ta_yes (k : Int) (u : World) : (Instr.typeAssert (.iface 111 (.agg #[.int .i64 k])) 20 111 true).run Tryz.prog u = .ok (.tuple #[.agg #[.int .i64 k], .bool true]) u := by kernel_rfl

theorem ta_no (u : World) : (Instr.typeAssert .nilIface 20 111 true).run Tryz.prog u = .ok (.tuple #[.agg #[.int .i64 0], .bool false]) u := by kernel_rfl

theorem catch_panicking (g : Nat) (k : Nat) (w : World) (x0 x1 x2 x3 x4 x5 : Value) (hC : Cls w g #[x0, x1, x2, x3, x4, x5] 65) :
 CallsD Tryz.prog 60 #[.pointer (some ⟨g, 0, none⟩)] (.panicking ({ v := .iface 111 (.agg #[.int .i64 (k : Int)]), recovered := false } :: [])) w fun e u' w' =>
  e = .returned (.tuple #[]) ∧ u' = .panicking ({ v := .iface 111 (.agg #[.int .i64 (k : Int)]), recovered := true } :: []) ∧ Cls w' g #[.int .i64 0, .bool false, .slice none 0 0, .int .i64 0, .int .i64 1, .int .i64 (k : Int)] 65 ∧ Below g w w' := by
 refine callsD_of_wpS Tryz.func60 rfl fun c₀ cs hu => ?_
 apply wpS_seq
 apply wpS_region
 simp [wpOpsS, go_sem, recoverD, hu, Tryz.ntmps60, Exit.thenS, ta_yes]
 have b1 : Below w.heap.size w (w.alloc (.cells #[.int .i64 (k : Int)] 111)) := (Below.refl _ _).alloc (Nat.le_refl _) _
 have F1 : Cls (w.alloc (.cells #[.int .i64 (k : Int)] 111)) w.heap.size #[.int .i64 (k : Int)] 111 := Cls.new _ _ _
 have C1 := hC.below b1
 have hlt := hC.lt
 generalize w.alloc (.cells #[.int .i64 (k : Int)] 111) = w1 at *
 have d0 := F1.cell 0 (x := .int .i64 (k : Int)) rfl
 have c0 := C1.cell 0 (x := x0) rfl
 have c1 := C1.cell 1 (x := x1) rfl
 have c2 := C1.cell 2 (x := x2) rfl
 have c3 := C1.cell 3 (x := x3) rfl
 have c4 := C1.cell 4 (x := x4) rfl
 have c5 := C1.cell 5 (x := x5) rfl
 have f0 := C1.frozen 0
 have f1 := C1.frozen 1
 have f2 := C1.frozen 2
 have f3 := C1.frozen 3
 have f4 := C1.frozen 4
 have f5 := C1.frozen 5
 apply wpS_seq
 apply wpS_region
 simp [wpOpsS, go_sem, Exit.thenS]
 refine wpS_cond (t := true) (by simp [Act.eval, Array.replicate]) ?_
 simp only [if_true]
 apply wpS_region
 have B9 : Below g w ((((((w1.setCell ⟨g, 0, none⟩ (.int .i64 0)).setCell ⟨g, 1, none⟩ (.bool false)).setCell ⟨g, 2, none⟩ (.slice none 0 0)).setCell ⟨g, 3, none⟩ (.int .i64 0)).setCell ⟨g, 4, none⟩ (.int .i64 1)).setCell ⟨g, 5, none⟩ (.int .i64 (k : Int))) := below6 (b1.mono (by omega)) _ _ _ _ _ _
 have R9 := box6 C1 rfl (.int .i64 0) (.bool false) (.slice none 0 0) (.int .i64 0) (.int .i64 1) (.int .i64 (k : Int))
 simp [wpOpsS, go_sem, d0, c0, c1, c2, c3, c4, c5, f0, f1, f2, f3, f4, f5, bodyPostS, results, Tryz.results60]
 exact ⟨R9, B9⟩

theorem catch_idle (g : Nat) (w : World) :
 CallsD Tryz.prog 60 #[.pointer (some ⟨g, 0, none⟩)] .returning w fun e u' w' => e = .returned (.tuple #[]) ∧ u' = .returning ∧ Below w.heap.size w w' := by
 refine callsD_of_wpS Tryz.func60 rfl fun c₀ cs hu => ?_
 apply wpS_seq
 apply wpS_region
 simp [wpOpsS, go_sem, recoverD, hu, Tryz.ntmps60, Exit.thenS, ta_no]
 have b1 : Below w.heap.size w (w.alloc (.cells #[.int .i64 0] 111)) := (Below.refl _ _).alloc (Nat.le_refl _) _
 generalize w.alloc (.cells #[.int .i64 0] 111) = w1 at *
 apply wpS_seq
 apply wpS_region
 simp [wpOpsS, go_sem, Exit.thenS]
 refine wpS_cond (t := false) (by simp [Act.eval, Array.replicate]) ?_
 simp only [Bool.false_eq_true, if_false]
 refine wpS_of_wp (wp_skip ?_)
 cases c₀
 simp_all [bodyPostS, results, Tryz.results60]

theorem iscan_any (ao : Option Addr) (n c : Nat) (bs : List Nat) (w : World) (hl : bs.length = n) (hr : RdB w ao bs) (hF : Fol w) (hWd : Wds w) (o : M.Dec × Int × Int) (ho : o = scOut bs) :
 Calls Tryz.prog 43 #[.slice ao n c] w fun e w' => ∃ v, e = .returned (scV o v) ∧ OwnV w' w.heap.size v o.1.digits ∧ Below w.heap.size w w' := by
 have hmf : ∀ (fn : Fn) (first cap : Array Value) (w : World), (Instr.makeFunc fn first cap).run Tryz.prog w = .ok (.func fn first cap) w := fun _ _ _ _ => rfl
 have HO := hid ho; clear ho
 by_cases h8 : 800 < n
 · have h8' : (800 : Int) < (n : Int) := by omega
   go_enter_defers Tryz.func43, Tryz.ntmps43
   go_wp2_with fail
   have R9 := Cls.new w #[.int .i64 0, .bool false, .slice none 0 0, .int .i64 0, .int .i64 2, .int .i64 800] 65
   have H9 : Below w.heap.size w (w.alloc (.cells #[.int .i64 0, .bool false, .slice none 0 0, .int .i64 0, .int .i64 2, .int .i64 800] 65)) := (Below.refl _ _).alloc (Nat.le_refl _) _
   generalize w.alloc (.cells #[.int .i64 0, .bool false, .slice none 0 0, .int .i64 0, .int .i64 2, .int .i64 800] 65) = w9 at R9 H9 ⊢
   have z0 := R9.cell 0 (x := .int .i64 0) rfl
   have z1 := R9.cell 1 (x := .bool false) rfl
   have z2 := R9.cell 2 (x := .slice none 0 0) rfl
   have z3 := R9.cell 3 (x := .int .i64 0) rfl
   have z4 := R9.cell 4 (x := .int .i64 2) rfl
   have z5 := R9.cell 5 (x := .int .i64 800) rfl
   have hoo : o = (⟨0, false, [], 0⟩, 2, 800) := by rw [HO.out, scOut, if_pos (by omega)]
   simp [bodyPostD, Leaves, results, Tryz.results43, go_sem, z0, z1, z2, z3, z4, z5]
   rw [hoo]
   exact ⟨.slice none 0 0, rfl, OwnV.nil _ _, H9⟩
 · have h8' : ¬ (800 : Int) < (n : Int) := by omega
   go_enter_defers Tryz.func43, Tryz.ntmps43
   have b1 : Below w.heap.size w (w.alloc (.cells zSc 65)) := (Below.refl _ _).alloc (Nat.le_refl _) _
   have R1 : Cls (w.alloc (.cells zSc 65)) w.heap.size zSc 65 := Cls.new _ _ _
   have hcv := conv_any ao n c bs (w.alloc (.cells zSc 65)) hl (hr.below b1)
   have hsl : (strN bs).size ≤ 800 := by rw [← lett_len, lett_str bs hr.1, hl]; omega
   have kS := scan_any (strN bs) (w.alloc (.cells zSc 65)) hsl (hF.below b1) (hWd.below b1) _ rfl
   rw [lett_str bs hr.1] at kS
   have hsc : scOut bs = match M.scanI bs with | .inl d => (d, 0, 0) | .inr k => (⟨0, false, [], 0⟩, 1, (k : Int)) := by
    rw [scOut, if_neg (by omega), M.scan_eq]
    all_goals (cases M.scanD bs <;> rfl)
   rw [hsc] at HO
   clear hsc
   go_wp2_with fail
   refine kS.mono ?_
   intro e w2 hP
   clear kS hcv
   generalize w.alloc (.cells zSc 65) = w1 at *
   have ltR := R1.lt
   cases hI : M.scanI bs with
   | inl d =>
     rw [hI] at hP HO
     obtain ⟨xv, rfl, hV, b2⟩ := hP
     obtain ⟨xa, xc, rfl, hv2⟩ := hV
     have V2 : OwnV w2 w1.heap.size (.slice xa d.digits.length xc) d.digits := ⟨xa, xc, rfl, hv2⟩
     have R2 := R1.below b2
     have B2 := b1.trans (b2.mono b1.size)
     have y0 := R2.cell 0 (x := .int .i64 0) rfl
     have y1 := R2.cell 1 (x := .bool false) rfl
     have y2 := R2.cell 2 (x := .slice none 0 0) rfl
     have y3 := R2.cell 3 (x := .int .i64 0) rfl
     have y4 := R2.cell 4 (x := .int .i64 0) rfl
     have y5 := R2.cell 5 (x := .int .i64 0) rfl
     have f0 := R2.frozen 0
     have f1 := R2.frozen 1
     have f2 := R2.frozen 2
     have f3 := R2.frozen 3
     have f4 := R2.frozen 4
     have f5 := R2.frozen 5
     have HV := hid V2; have HR2 := hid R2; have HB2 := hid B2
     clear V2 R2 B2 hv2 b2 hI R1
     unfold decV
     go_wp2_with fail
     have R9 := box6 HR2.out rfl (.int .i64 d.kind) (.bool d.neg) (.slice xa d.digits.length xc) (.int .i64 d.exp) (.int .i64 0) (.int .i64 0)
     have H9 := below6 HB2.out (.int .i64 d.kind) (.bool d.neg) (.slice xa d.digits.length xc) (.int .i64 d.exp) (.int .i64 0) (.int .i64 0)
     have O9 := ((((((HV.out.far ⟨w.heap.size, 0, none⟩ ltR (.int .i64 d.kind)).far ⟨w.heap.size, 1, none⟩ ltR (.bool d.neg)).far ⟨w.heap.size, 2, none⟩ ltR (.slice xa d.digits.length xc)).far ⟨w.heap.size, 3, none⟩ ltR (.int .i64 d.exp)).far ⟨w.heap.size, 4, none⟩ ltR (.int .i64 0)).far ⟨w.heap.size, 5, none⟩ ltR (.int .i64 0))
     generalize ((((((w2.setCell ⟨w.heap.size, 0, none⟩ (.int .i64 d.kind)).setCell ⟨w.heap.size, 1, none⟩ (.bool d.neg)).setCell ⟨w.heap.size, 2, none⟩ (.slice xa d.digits.length xc)).setCell ⟨w.heap.size, 3, none⟩ (.int .i64 d.exp)).setCell ⟨w.heap.size, 4, none⟩ (.int .i64 0)).setCell ⟨w.heap.size, 5, none⟩ (.int .i64 0)) = w9 at R9 H9 O9 ⊢
     refine leaves_cons (f := 60) (args := #[.pointer (some ⟨w.heap.size, 0, none⟩)]) (by simp) (by simp [go_sem]) ?_
     refine (catch_idle w.heap.size w9).mono ?_
     rintro e u' w10 ⟨rfl, rfl, b5⟩
     have R10 := R9.below b5
     have H10 := H9.trans (b5.mono H9.size)
     have O10 := (O9.below b5).low (Nat.le_of_lt ltR)
     have z0 := R10.cell 0 (x := .int .i64 d.kind) rfl
     have z1 := R10.cell 1 (x := .bool d.neg) rfl
     have z2 := R10.cell 2 (x := .slice xa d.digits.length xc) rfl
     have z3 := R10.cell 3 (x := .int .i64 d.exp) rfl
     have z4 := R10.cell 4 (x := .int .i64 0) rfl
     have z5 := R10.cell 5 (x := .int .i64 0) rfl
     simp [Leaves, settle, results, Tryz.results43, go_sem, z0, z1, z2, z3, z4, z5]
     rw [HO.out]
     exact ⟨_, rfl, O10, H10⟩
   | inr k =>
     rw [hI] at hP HO
     obtain ⟨rfl, b2⟩ := hP
     have R2 := R1.below b2
     have B2 := b1.trans (b2.mono b1.size)
     clear hI R1 b2
     dsimp only
     refine leaves_cons (f := 60) (args := #[.pointer (some ⟨w.heap.size, 0, none⟩)]) (by simp) (by simp [go_sem]) ?_
     refine (catch_panicking w.heap.size k w2 _ _ _ _ _ _ R2).mono ?_
     rintro e u' w10 ⟨rfl, rfl, R10, b5⟩
     have H10 := B2.trans b5
     have z0 := R10.cell 0 (x := .int .i64 0) rfl
     have z1 := R10.cell 1 (x := .bool false) rfl
     have z2 := R10.cell 2 (x := .slice none 0 0) rfl
     have z3 := R10.cell 3 (x := .int .i64 0) rfl
     have z4 := R10.cell 4 (x := .int .i64 1) rfl
     have z5 := R10.cell 5 (x := .int .i64 (k : Int)) rfl
     simp [Leaves, settle, results, Tryz.results43, go_sem, z0, z1, z2, z3, z4, z5]
     rw [HO.out]
     exact ⟨.slice none 0 0, rfl, OwnV.nil _ _, H10⟩

end Go.Proofs.YtjffpclidcloeaaGreatDoor
