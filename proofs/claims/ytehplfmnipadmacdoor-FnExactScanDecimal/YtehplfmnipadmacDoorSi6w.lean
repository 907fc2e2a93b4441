/-
  impl.scanWord.
-/
import Derived.Test.YtehplfmnipadmacDoorSi5
import Derived.Deep.RegionHeld3
namespace Go.Proofs.YtehplfmnipadmacDoor
open Go.RowKit
set_option linter.unusedVariables false

/-- The table of the words. -/
def Wds (w : World) : Prop := 1 < w.heap.size ∧ w.cell? ⟨1, 0, none⟩ = some (.string ⟨#[105, 110, 102]⟩) ∧ w.cell? ⟨1, 1, none⟩ = some (.int .i64 2) ∧
  w.cell? ⟨1, 2, none⟩ = some (.string ⟨#[105, 110, 102, 105, 110, 105, 116, 121]⟩) ∧ w.cell? ⟨1, 3, none⟩ = some (.int .i64 2) ∧ w.cell? ⟨1, 4, none⟩ = some (.string ⟨#[110, 97, 110]⟩) ∧ w.cell? ⟨1, 5, none⟩ = some (.int .i64 3)

theorem Wds.below {w w' : World} (h : Wds w) (hb : Below w.heap.size w w') : Wds w' := by
  obtain ⟨h0, h1, h2, h3, h4, h5, h6⟩ := h
  have k := fun j => hb.cell (p := ⟨1, j, none⟩) h0
  exact ⟨Nat.lt_of_lt_of_le h0 hb.size, (k 0).trans h1, (k 1).trans h2, (k 2).trans h3, (k 3).trans h4, (k 4).trans h5, (k 5).trans h6⟩

theorem lett_extract (s : ByteArray) (b : Nat) (h : b ≤ s.size) : lett (s.extract b s.size) = (lett s).drop b := by
  unfold lett
  rw [ByteArray.data_extract, Array.toList_extract, ← List.map_drop]
  congr 1
  have : s.size = s.data.toList.length := by rw [Array.length_toList]; rfl
  rw [List.extract_eq_take_drop, List.take_of_length_le (by rw [List.length_drop]; omega)]

theorem match_iff (v w : List Nat) : (M.common v w = v.length ∧ M.common v w = w.length) ↔ v.map M.low = w := by
  have h := M.common_take v w
  constructor
  · rintro ⟨h1, h2⟩
    have := h.1
    rw [h2, List.take_length] at this
    rw [← this, ← h2, h1, List.take_length]
  · intro e
    have hl : v.length = w.length := by rw [← e, List.length_map]
    have := M.common_ge v w v.length (by rw [List.take_length, hl, List.take_length, e]) (Nat.le_refl _) (by omega)
    omega

abbrev nwV : Value := .agg #[.string ⟨#[105, 110, 102]⟩, .int .i64 2, .string ⟨#[105, 110, 102, 105, 110, 105, 116, 121]⟩, .int .i64 2, .string ⟨#[110, 97, 110]⟩, .int .i64 3]
theorem nw0 (u : World) : (Instr.index 59 nwV (.int .i64 0)).run Tryd.prog u = .ok (.agg #[.string ⟨#[105, 110, 102]⟩, .int .i64 2]) u := by kernel_rfl
theorem nw1 (u : World) : (Instr.index 59 nwV (.int .i64 1)).run Tryd.prog u = .ok (.agg #[.string ⟨#[105, 110, 102, 105, 110, 105, 116, 121]⟩, .int .i64 2]) u := by kernel_rfl
theorem nw2 (u : World) : (Instr.index 59 nwV (.int .i64 2)).run Tryd.prog u = .ok (.agg #[.string ⟨#[110, 97, 110]⟩, .int .i64 3]) u := by kernel_rfl

theorem below_keep {W v v' : World} {n : Nat} (h : Below n W v) (hb : Below v.heap.size v v') (hn : n ≤ v.heap.size) : Below n W v' := h.trans (hb.mono hn)

set_option maxHeartbeats 4000000 in
theorem scanWord_any (s : ByteArray) (b : Nat) (ng : Bool) (w : World) (hs : s.size ≤ 800) (hb : b < s.size) (hW : Wds w) (o : M.Dec ⊕ Nat) (ho : o = M.scanWord ((lett s).drop b) b ng) :
    Calls Tryd.prog 26 #[.string s, .int .i64 (b : Int), .bool ng] w fun e w' => ScanP w w' e o := by
  obtain ⟨h0, h1, h2, h3, h4, h5, h6⟩ := hW
  have HO := hid ho; clear ho
  have hvl : ((lett s).drop b).length = s.size - b := by rw [List.length_drop, lett_len]
  have hex := lett_extract s b (by omega)
  have hexs : (s.extract b s.size).size ≤ 800 := by rw [← lett_len, hex, hvl]; omega
  obtain ⟨v, hv⟩ : ∃ v, v = (lett s).drop b := ⟨_, rfl⟩
  rw [← hv] at hvl hex HO
  clear hv
  have k0 := fun (u : World) => common_any (s.extract b s.size) ⟨#[105, 110, 102]⟩ u hexs (by decide) (by decide) (M.common v M.wInf) (by rw [hex]; rfl)
  have k1 := fun (u : World) => common_any (s.extract b s.size) ⟨#[105, 110, 102, 105, 110, 105, 116, 121]⟩ u hexs (by decide) (by decide) (M.common v M.wInfinity) (by rw [hex]; rfl)
  have k2 := fun (u : World) => common_any (s.extract b s.size) ⟨#[110, 97, 110]⟩ u hexs (by decide) (by decide) (M.common v M.wNan) (by rw [hex]; rfl)
  have m0 := match_iff v M.wInf
  have m1 := match_iff v M.wInfinity
  have m2 := match_iff v M.wNan
  have l0 := M.common_take v M.wInf
  have l1 := M.common_take v M.wInfinity
  have l2 := M.common_take v M.wNan
  generalize hc0 : M.common v M.wInf = c0 at *
  generalize hc1 : M.common v M.wInfinity = c1 at *
  generalize hc2 : M.common v M.wNan = c2 at *
  have L0 : c0 ≤ 3 ∧ c0 ≤ s.size - b := ⟨l0.2.2, by rw [← hvl]; exact l0.2.1⟩
  have L1 : c1 ≤ 8 ∧ c1 ≤ s.size - b := ⟨l1.2.2, by rw [← hvl]; exact l1.2.1⟩
  have L2 : c2 ≤ 3 ∧ c2 ≤ s.size - b := ⟨l2.2.2, by rw [← hvl]; exact l2.2.1⟩
  rw [hvl] at m0 m1 m2
  have m0 : (c0 = s.size - b ∧ c0 = 3) ↔ v.map M.low = M.wInf := m0
  have m1 : (c1 = s.size - b ∧ c1 = 8) ↔ v.map M.low = M.wInfinity := m1
  have m2 : (c2 = s.size - b ∧ c2 = 3) ↔ v.map M.low = M.wNan := m2
  have M0 := hid m0; have M1 := hid m1; have M2 := hid m2; have HC := hid (And.intro hc0 (And.intro hc1 hc2))
  clear l0 l1 l2 hc0 hc1 hc2 m0 m1 m2 hex hvl
  have hb' : (b : Int) ≤ (s.size : Int) := by omega
  have hb0' : (0 : Int) ≤ (b : Int) := by omega
  go_enter Tryd.func26, Tryd.ntmps26
  go_wp2_with fail
  go_loopw [7, 12] (fun lv iv wr => Cls wr w.heap.size zDec 24 ∧ Below w.heap.size w wr ∧ ((lv = .int .i64 0 ∧ iv = .int .i64 0) ∨ (lv = .int .i64 ((c0 : Nat) : Int) ∧ iv = .int .i64 1 ∧ ¬ (c0 = s.size - b ∧ c0 = 3)) ∨ (lv = .int .i64 ((max c0 c1 : Nat) : Int) ∧ iv = .int .i64 2 ∧ ¬ (c0 = s.size - b ∧ c0 = 3) ∧ ¬ (c1 = s.size - b ∧ c1 = 8)) ∨ (lv = .int .i64 ((max (max c0 c1) c2 : Nat) : Int) ∧ iv = .int .i64 3 ∧ ¬ (c0 = s.size - b ∧ c0 = 3) ∧ ¬ (c1 = s.size - b ∧ c1 = 8) ∧ ¬ (c2 = s.size - b ∧ c2 = 3)))) (fun _ i _ => 3 - (intOf i).toNat)
  case atStart => exact ⟨Cls.new _ _ _, (Below.refl _ _).alloc (Nat.le_refl _) _, .inl ⟨rfl, rfl⟩⟩
  case round =>
    rename World => wr
    obtain ⟨hR, hB, hcase⟩ := hrel
    rcases hcase with ⟨rfl, rfl⟩ | ⟨rfl, rfl, n0⟩ | ⟨rfl, rfl, n0, n1⟩ | ⟨rfl, rfl, n0, n1, n2⟩
    · have bA : Below wr.heap.size wr (wr.alloc (.cells #[.string ⟨#[105, 110, 102]⟩, .int .i64 2] 58)) := (Below.refl _ _).alloc (Nat.le_refl _) _
      have RA := hR.below bA
      have BA := hB.trans (bA.mono hB.size)
      have XA : Cls (wr.alloc (.cells #[.string ⟨#[105, 110, 102]⟩, .int .i64 2] 58)) wr.heap.size #[.string ⟨#[105, 110, 102]⟩, .int .i64 2] 58 := Cls.new _ _ _
      have hlr := hR.lt
      obtain ⟨W1, hW1⟩ : ∃ W1, W1 = wr.alloc (.cells #[.string ⟨#[105, 110, 102]⟩, .int .i64 2] 58) := ⟨_, rfl⟩
      have HRA := hid RA; have HBA := hid BA; have HXA := hid XA
      rw [← hW1] at HRA HBA HXA
      have x0 := HXA.out.cell 0 (x := .string ⟨#[105, 110, 102]⟩) rfl
      have x1 := HXA.out.cell 1 (x := .int .i64 2) rfl
      have Kof : ∀ u, Below W1.heap.size W1 u → Below W1.heap.size W1 u ∧ u.cell? ⟨wr.heap.size, 0, none⟩ = some (.string ⟨#[105, 110, 102]⟩) := fun u hu => ⟨hu, ((HXA.out.below hu).cell 0 (x := .string ⟨#[105, 110, 102]⟩) rfl)⟩
      have hnw := nw0 wr
      clear RA BA XA bA hR hB 
      go_wp2_with fail
      clear hnw
      rw [← hW1]
      clear hW1
      go_region_held3 (fun u => Below W1.heap.size W1 u ∧ u.cell? ⟨wr.heap.size, 0, none⟩ = some (.string ⟨#[105, 110, 102]⟩)) (first | exact Kof _ (by assumption) | exact Kof _ (below_drewN (by assumption) _) | exact Kof _ (Below.drew (by assumption)) | exact Kof _ (Below.refl _ _).drew | exact Kof _ (Below.refl _ _))
        (first | (go_at_call 30; refine (k0 _).mono ?_; rintro e w' ⟨rfl, hb0⟩; have hb1 := below_keep (And.left (by assumption)) hb0 (Below.size (And.left (by assumption))); clear hb0))
      have HR2 := hid (HRA.out.below hb1)
      have HB2 := hid (HBA.out.trans (hb1.mono HBA.out.size))
      have XX := HXA.out.below hb1
      have x0 := XX.cell 0 (x := .string ⟨#[105, 110, 102]⟩) rfl
      have x1 := XX.cell 1 (x := .int .i64 2) rfl
      clear Kof XX hb1 HXA HRA HBA
      rename World => W9
      by_cases t1 : c0 = s.size - b
      · have t1' : (((b : Int) + (c0 : Int)) == (s.size : Int)) = true := by rw [beq_iff_eq]; omega
        by_cases t2 : c0 = 3
        · have hout : o = .inl ⟨2, ng, [], 0⟩ := by
            rw [HO.out, M.scanWord, if_pos (M0.out.1 ⟨t1, t2⟩)]
          have HOO := hid hout
          have y0 := HR2.out.cell 0 (x := .int .i64 0) rfl
          have y1 := HR2.out.cell 1 (x := .bool false) rfl
          have y2 := HR2.out.cell 2 (x := .slice none 0 0) rfl
          have y3 := HR2.out.cell 3 (x := .int .i64 0) rfl
          have f0 := HR2.out.frozen 0
          have f1 := HR2.out.frozen 1
          have f2 := HR2.out.frozen 2
          have f3 := HR2.out.frozen 3
          have t2' : ((c0 : Int) == 3) = true := by rw [beq_iff_eq]; omega
          clear hout t1 t2
          cases ng with
          | false =>
            go_wp2_with fail
            have R9 := box4 HR2.out rfl (.int .i64 2) (.bool false) (.slice none 0 0) (.int .i64 0)
            have H9 := below4 HB2.out (.int .i64 2) (.bool false) (.slice none 0 0) (.int .i64 0)
            generalize ((((W9.setCell ⟨w.heap.size, 0, none⟩ (.int .i64 2)).setCell ⟨w.heap.size, 1, none⟩ (.bool false)).setCell ⟨w.heap.size, 2, none⟩ (.slice none 0 0)).setCell ⟨w.heap.size, 3, none⟩ (.int .i64 0)) = w9 at R9 H9 ⊢
            have z0 := R9.cell 0 (x := .int .i64 2) rfl
            have z1 := R9.cell 1 (x := .bool false) rfl
            have z2 := R9.cell 2 (x := .slice none 0 0) rfl
            have z3 := R9.cell 3 (x := .int .i64 0) rfl
            refine bodyPost_ret (v := .agg #[.int .i64 2, .bool false, .slice none 0 0, .int .i64 0]) (by simp [results, Tryd.results26, go_sem, z0, z1, z2, z3]) rfl ?_
            rw [HOO.out]
            exact ⟨_, rfl, OwnV.nil _ _, H9⟩
          | true =>
            go_wp2_with fail
            have R9 := box4 HR2.out rfl (.int .i64 2) (.bool true) (.slice none 0 0) (.int .i64 0)
            have H9 := below4 HB2.out (.int .i64 2) (.bool true) (.slice none 0 0) (.int .i64 0)
            generalize ((((W9.setCell ⟨w.heap.size, 0, none⟩ (.int .i64 2)).setCell ⟨w.heap.size, 1, none⟩ (.bool true)).setCell ⟨w.heap.size, 2, none⟩ (.slice none 0 0)).setCell ⟨w.heap.size, 3, none⟩ (.int .i64 0)) = w9 at R9 H9 ⊢
            have z0 := R9.cell 0 (x := .int .i64 2) rfl
            have z1 := R9.cell 1 (x := .bool true) rfl
            have z2 := R9.cell 2 (x := .slice none 0 0) rfl
            have z3 := R9.cell 3 (x := .int .i64 0) rfl
            refine bodyPost_ret (v := .agg #[.int .i64 2, .bool true, .slice none 0 0, .int .i64 0]) (by simp [results, Tryd.results26, go_sem, z0, z1, z2, z3]) rfl ?_
            rw [HOO.out]
            exact ⟨_, rfl, OwnV.nil _ _, H9⟩
        · have t2' : ((c0 : Int) == 3) = false := by rw [beq_eq_false_iff_ne]; omega
          have T2 := hid t2
          clear t1 t2
          go_wp2_with fail
          go_roundw
          case rel => exact ⟨HR2.out, HB2.out, .inr (.inl ⟨by go_num, rfl, fun q => T2.out q.2⟩)⟩
          case measure => simp [intOf]
      · have t1' : (((b : Int) + (c0 : Int)) == (s.size : Int)) = false := by rw [beq_eq_false_iff_ne]; omega
        have T1 := hid t1
        clear t1
        go_wp2_with fail
        go_roundw
        case rel => exact ⟨HR2.out, HB2.out, .inr (.inl ⟨by go_num, rfl, fun q => T1.out q.1⟩)⟩
        case measure => simp [intOf]
    · have N0 := hid n0; have bA : Below wr.heap.size wr (wr.alloc (.cells #[.string ⟨#[105, 110, 102, 105, 110, 105, 116, 121]⟩, .int .i64 2] 58)) := (Below.refl _ _).alloc (Nat.le_refl _) _
      have RA := hR.below bA
      have BA := hB.trans (bA.mono hB.size)
      have XA : Cls (wr.alloc (.cells #[.string ⟨#[105, 110, 102, 105, 110, 105, 116, 121]⟩, .int .i64 2] 58)) wr.heap.size #[.string ⟨#[105, 110, 102, 105, 110, 105, 116, 121]⟩, .int .i64 2] 58 := Cls.new _ _ _
      have hlr := hR.lt
      obtain ⟨W1, hW1⟩ : ∃ W1, W1 = wr.alloc (.cells #[.string ⟨#[105, 110, 102, 105, 110, 105, 116, 121]⟩, .int .i64 2] 58) := ⟨_, rfl⟩
      have HRA := hid RA; have HBA := hid BA; have HXA := hid XA
      rw [← hW1] at HRA HBA HXA
      have x0 := HXA.out.cell 0 (x := .string ⟨#[105, 110, 102, 105, 110, 105, 116, 121]⟩) rfl
      have x1 := HXA.out.cell 1 (x := .int .i64 2) rfl
      have Kof : ∀ u, Below W1.heap.size W1 u → Below W1.heap.size W1 u ∧ u.cell? ⟨wr.heap.size, 0, none⟩ = some (.string ⟨#[105, 110, 102, 105, 110, 105, 116, 121]⟩) := fun u hu => ⟨hu, ((HXA.out.below hu).cell 0 (x := .string ⟨#[105, 110, 102, 105, 110, 105, 116, 121]⟩) rfl)⟩
      have hnw := nw1 wr
      clear RA BA XA bA hR hB n0
      go_wp2_with fail
      clear hnw
      rw [← hW1]
      clear hW1
      go_region_held3 (fun u => Below W1.heap.size W1 u ∧ u.cell? ⟨wr.heap.size, 0, none⟩ = some (.string ⟨#[105, 110, 102, 105, 110, 105, 116, 121]⟩)) (first | exact Kof _ (by assumption) | exact Kof _ (below_drewN (by assumption) _) | exact Kof _ (Below.drew (by assumption)) | exact Kof _ (Below.refl _ _).drew | exact Kof _ (Below.refl _ _))
        (first | (go_at_call 30; refine (k1 _).mono ?_; rintro e w' ⟨rfl, hb0⟩; have hb1 := below_keep (And.left (by assumption)) hb0 (Below.size (And.left (by assumption))); clear hb0))
      have HR2 := hid (HRA.out.below hb1)
      have HB2 := hid (HBA.out.trans (hb1.mono HBA.out.size))
      have XX := HXA.out.below hb1
      have x0 := XX.cell 0 (x := .string ⟨#[105, 110, 102, 105, 110, 105, 116, 121]⟩) rfl
      have x1 := XX.cell 1 (x := .int .i64 2) rfl
      clear Kof XX hb1 HXA HRA HBA
      rename World => W9
      by_cases t1 : c1 = s.size - b
      · have t1' : (((b : Int) + (c1 : Int)) == (s.size : Int)) = true := by rw [beq_iff_eq]; omega
        by_cases t2 : c1 = 8
        · have hout : o = .inl ⟨2, ng, [], 0⟩ := by
            rw [HO.out, M.scanWord, if_neg (fun e => N0.out (M0.out.2 e)), if_pos (M1.out.1 ⟨t1, t2⟩)]
          have HOO := hid hout
          have y0 := HR2.out.cell 0 (x := .int .i64 0) rfl
          have y1 := HR2.out.cell 1 (x := .bool false) rfl
          have y2 := HR2.out.cell 2 (x := .slice none 0 0) rfl
          have y3 := HR2.out.cell 3 (x := .int .i64 0) rfl
          have f0 := HR2.out.frozen 0
          have f1 := HR2.out.frozen 1
          have f2 := HR2.out.frozen 2
          have f3 := HR2.out.frozen 3
          have t2' : ((c1 : Int) == 8) = true := by rw [beq_iff_eq]; omega
          clear hout t1 t2
          cases ng with
          | false =>
            go_wp2_with fail
            have R9 := box4 HR2.out rfl (.int .i64 2) (.bool false) (.slice none 0 0) (.int .i64 0)
            have H9 := below4 HB2.out (.int .i64 2) (.bool false) (.slice none 0 0) (.int .i64 0)
            generalize ((((W9.setCell ⟨w.heap.size, 0, none⟩ (.int .i64 2)).setCell ⟨w.heap.size, 1, none⟩ (.bool false)).setCell ⟨w.heap.size, 2, none⟩ (.slice none 0 0)).setCell ⟨w.heap.size, 3, none⟩ (.int .i64 0)) = w9 at R9 H9 ⊢
            have z0 := R9.cell 0 (x := .int .i64 2) rfl
            have z1 := R9.cell 1 (x := .bool false) rfl
            have z2 := R9.cell 2 (x := .slice none 0 0) rfl
            have z3 := R9.cell 3 (x := .int .i64 0) rfl
            refine bodyPost_ret (v := .agg #[.int .i64 2, .bool false, .slice none 0 0, .int .i64 0]) (by simp [results, Tryd.results26, go_sem, z0, z1, z2, z3]) rfl ?_
            rw [HOO.out]
            exact ⟨_, rfl, OwnV.nil _ _, H9⟩
          | true =>
            go_wp2_with fail
            have R9 := box4 HR2.out rfl (.int .i64 2) (.bool true) (.slice none 0 0) (.int .i64 0)
            have H9 := below4 HB2.out (.int .i64 2) (.bool true) (.slice none 0 0) (.int .i64 0)
            generalize ((((W9.setCell ⟨w.heap.size, 0, none⟩ (.int .i64 2)).setCell ⟨w.heap.size, 1, none⟩ (.bool true)).setCell ⟨w.heap.size, 2, none⟩ (.slice none 0 0)).setCell ⟨w.heap.size, 3, none⟩ (.int .i64 0)) = w9 at R9 H9 ⊢
            have z0 := R9.cell 0 (x := .int .i64 2) rfl
            have z1 := R9.cell 1 (x := .bool true) rfl
            have z2 := R9.cell 2 (x := .slice none 0 0) rfl
            have z3 := R9.cell 3 (x := .int .i64 0) rfl
            refine bodyPost_ret (v := .agg #[.int .i64 2, .bool true, .slice none 0 0, .int .i64 0]) (by simp [results, Tryd.results26, go_sem, z0, z1, z2, z3]) rfl ?_
            rw [HOO.out]
            exact ⟨_, rfl, OwnV.nil _ _, H9⟩
        · have t2' : ((c1 : Int) == 8) = false := by rw [beq_eq_false_iff_ne]; omega
          have T2 := hid t2
          clear t1 t2
          go_wp2_with fail
          go_roundw
          case rel => exact ⟨HR2.out, HB2.out, .inr (.inr (.inl ⟨by go_num, rfl, N0.out, fun q => T2.out q.2⟩))⟩
          case measure => simp [intOf]
      · have t1' : (((b : Int) + (c1 : Int)) == (s.size : Int)) = false := by rw [beq_eq_false_iff_ne]; omega
        have T1 := hid t1
        clear t1
        go_wp2_with fail
        go_roundw
        case rel => exact ⟨HR2.out, HB2.out, .inr (.inr (.inl ⟨by go_num, rfl, N0.out, fun q => T1.out q.1⟩))⟩
        case measure => simp [intOf]
    · have N0 := hid n0; have N1 := hid n1; have bA : Below wr.heap.size wr (wr.alloc (.cells #[.string ⟨#[110, 97, 110]⟩, .int .i64 3] 58)) := (Below.refl _ _).alloc (Nat.le_refl _) _
      have RA := hR.below bA
      have BA := hB.trans (bA.mono hB.size)
      have XA : Cls (wr.alloc (.cells #[.string ⟨#[110, 97, 110]⟩, .int .i64 3] 58)) wr.heap.size #[.string ⟨#[110, 97, 110]⟩, .int .i64 3] 58 := Cls.new _ _ _
      have hlr := hR.lt
      obtain ⟨W1, hW1⟩ : ∃ W1, W1 = wr.alloc (.cells #[.string ⟨#[110, 97, 110]⟩, .int .i64 3] 58) := ⟨_, rfl⟩
      have HRA := hid RA; have HBA := hid BA; have HXA := hid XA
      rw [← hW1] at HRA HBA HXA
      have x0 := HXA.out.cell 0 (x := .string ⟨#[110, 97, 110]⟩) rfl
      have x1 := HXA.out.cell 1 (x := .int .i64 3) rfl
      have Kof : ∀ u, Below W1.heap.size W1 u → Below W1.heap.size W1 u ∧ u.cell? ⟨wr.heap.size, 0, none⟩ = some (.string ⟨#[110, 97, 110]⟩) := fun u hu => ⟨hu, ((HXA.out.below hu).cell 0 (x := .string ⟨#[110, 97, 110]⟩) rfl)⟩
      have hnw := nw2 wr
      clear RA BA XA bA hR hB n0 n1
      go_wp2_with fail
      clear hnw
      rw [← hW1]
      clear hW1
      go_region_held3 (fun u => Below W1.heap.size W1 u ∧ u.cell? ⟨wr.heap.size, 0, none⟩ = some (.string ⟨#[110, 97, 110]⟩)) (first | exact Kof _ (by assumption) | exact Kof _ (below_drewN (by assumption) _) | exact Kof _ (Below.drew (by assumption)) | exact Kof _ (Below.refl _ _).drew | exact Kof _ (Below.refl _ _))
        (first | (go_at_call 30; refine (k2 _).mono ?_; rintro e w' ⟨rfl, hb0⟩; have hb1 := below_keep (And.left (by assumption)) hb0 (Below.size (And.left (by assumption))); clear hb0))
      have HR2 := hid (HRA.out.below hb1)
      have HB2 := hid (HBA.out.trans (hb1.mono HBA.out.size))
      have XX := HXA.out.below hb1
      have x0 := XX.cell 0 (x := .string ⟨#[110, 97, 110]⟩) rfl
      have x1 := XX.cell 1 (x := .int .i64 3) rfl
      clear Kof XX hb1 HXA HRA HBA
      rename World => W9
      by_cases t1 : c2 = s.size - b
      · have t1' : (((b : Int) + (c2 : Int)) == (s.size : Int)) = true := by rw [beq_iff_eq]; omega
        by_cases t2 : c2 = 3
        · have hout : o = .inl ⟨3, false, [], 0⟩ := by
            rw [HO.out, M.scanWord, if_neg (fun e => N0.out (M0.out.2 e)), if_neg (fun e => N1.out (M1.out.2 e)), if_pos (M2.out.1 ⟨t1, t2⟩)]
          have HOO := hid hout
          have y0 := HR2.out.cell 0 (x := .int .i64 0) rfl
          have y1 := HR2.out.cell 1 (x := .bool false) rfl
          have y2 := HR2.out.cell 2 (x := .slice none 0 0) rfl
          have y3 := HR2.out.cell 3 (x := .int .i64 0) rfl
          have f0 := HR2.out.frozen 0
          have f1 := HR2.out.frozen 1
          have f2 := HR2.out.frozen 2
          have f3 := HR2.out.frozen 3
          have t2' : ((c2 : Int) == 3) = true := by rw [beq_iff_eq]; omega
          clear hout t1 t2
          cases ng with
          | false =>
            go_wp2_with fail
            have R9 := box4 HR2.out rfl (.int .i64 3) (.bool false) (.slice none 0 0) (.int .i64 0)
            have H9 := below4 HB2.out (.int .i64 3) (.bool false) (.slice none 0 0) (.int .i64 0)
            generalize ((((W9.setCell ⟨w.heap.size, 0, none⟩ (.int .i64 3)).setCell ⟨w.heap.size, 1, none⟩ (.bool false)).setCell ⟨w.heap.size, 2, none⟩ (.slice none 0 0)).setCell ⟨w.heap.size, 3, none⟩ (.int .i64 0)) = w9 at R9 H9 ⊢
            have z0 := R9.cell 0 (x := .int .i64 3) rfl
            have z1 := R9.cell 1 (x := .bool false) rfl
            have z2 := R9.cell 2 (x := .slice none 0 0) rfl
            have z3 := R9.cell 3 (x := .int .i64 0) rfl
            refine bodyPost_ret (v := .agg #[.int .i64 3, .bool false, .slice none 0 0, .int .i64 0]) (by simp [results, Tryd.results26, go_sem, z0, z1, z2, z3]) rfl ?_
            rw [HOO.out]
            exact ⟨_, rfl, OwnV.nil _ _, H9⟩
          | true =>
            go_wp2_with fail
            have R9 := box4 HR2.out rfl (.int .i64 3) (.bool false) (.slice none 0 0) (.int .i64 0)
            have H9 := below4 HB2.out (.int .i64 3) (.bool false) (.slice none 0 0) (.int .i64 0)
            generalize ((((W9.setCell ⟨w.heap.size, 0, none⟩ (.int .i64 3)).setCell ⟨w.heap.size, 1, none⟩ (.bool false)).setCell ⟨w.heap.size, 2, none⟩ (.slice none 0 0)).setCell ⟨w.heap.size, 3, none⟩ (.int .i64 0)) = w9 at R9 H9 ⊢
            have z0 := R9.cell 0 (x := .int .i64 3) rfl
            have z1 := R9.cell 1 (x := .bool false) rfl
            have z2 := R9.cell 2 (x := .slice none 0 0) rfl
            have z3 := R9.cell 3 (x := .int .i64 0) rfl
            refine bodyPost_ret (v := .agg #[.int .i64 3, .bool false, .slice none 0 0, .int .i64 0]) (by simp [results, Tryd.results26, go_sem, z0, z1, z2, z3]) rfl ?_
            rw [HOO.out]
            exact ⟨_, rfl, OwnV.nil _ _, H9⟩
        · have t2' : ((c2 : Int) == 3) = false := by rw [beq_eq_false_iff_ne]; omega
          have T2 := hid t2
          clear t1 t2
          go_wp2_with fail
          go_roundw
          case rel => exact ⟨HR2.out, HB2.out, .inr (.inr (.inr (⟨by go_num, rfl, N0.out, N1.out, fun q => T2.out q.2⟩)))⟩
          case measure => simp [intOf]
      · have t1' : (((b : Int) + (c2 : Int)) == (s.size : Int)) = false := by rw [beq_eq_false_iff_ne]; omega
        have T1 := hid t1
        clear t1
        go_wp2_with fail
        go_roundw
        case rel => exact ⟨HR2.out, HB2.out, .inr (.inr (.inr (⟨by go_num, rfl, N0.out, N1.out, fun q => T1.out q.1⟩)))⟩
        case measure => simp [intOf]
    · have hout : o = .inr (b + max (max c0 c1) c2) := by
        rw [HO.out, M.scanWord, if_neg (fun e => n0 (M0.out.2 e)), if_neg (fun e => n1 (M1.out.2 e)), if_neg (fun e => n2 (M2.out.2 e)), HC.out.1, HC.out.2.1, HC.out.2.2, Nat.zero_max]
      have HOO := hid hout; have HB := hid hB
      clear hout n0 n1 n2 hR hB
      have hmm : max (max c0 c1) c2 ≤ 800 := by omega
      generalize max (max c0 c1) c2 = mm at *
      go_wp2_with fail
      refine ⟨rfl, ?_⟩
      rw [HOO.out]
      exact ⟨rfl, HB.out⟩
end Go.Proofs.YtehplfmnipadmacDoor
