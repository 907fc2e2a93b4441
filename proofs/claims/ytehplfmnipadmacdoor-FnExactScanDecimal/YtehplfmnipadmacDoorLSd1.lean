/-
  The law's own helpers over decimals and scans: eq, mark, held.
-/
import Derived.Test.YtehplfmnipadmacDoorSi7
namespace Go.Proofs.YtehplfmnipadmacDoor
open Go.RowKit
set_option linter.unusedVariables false

theorem two_boxes (w : World) (xs ys : Array Value) (t : TypeId) (v0 : World) (h : v0 = (w.alloc (.cells xs t)).alloc (.cells ys t)) : Cls v0 w.heap.size xs t ∧ Cls v0 (w.heap.size + 1) ys t ∧ Below w.heap.size w v0 := by
  subst h
  have h1 : (w.alloc (.cells xs t)).heap.size = w.heap.size + 1 := by simp
  refine ⟨(Cls.new w _ _).below ((Below.refl _ _).alloc (Nat.le_refl _) _), ?_, ((Below.refl w.heap.size w).alloc (Nat.le_refl _) _).alloc (by simp) _⟩
  rw [← h1]
  exact Cls.new _ _ _

set_option maxHeartbeats 1000000 in
theorem eqDecimal_same (k : Int) (ng : Bool) (x : Int) (a1 a2 : Option Addr) (c1 c2 : Nat) (ds : List Nat) (w : World) (hn : ds.length ≤ 10000) (h1 : RdY w a1 ds) (h2 : RdY w a2 ds) :
    Calls Tryd.prog 16 #[.agg #[.int .i64 k, .bool ng, .slice a1 ds.length c1, .int .i64 x], .agg #[.int .i64 k, .bool ng, .slice a2 ds.length c2, .int .i64 x]] w fun e w' => e = .returned (.bool true) ∧ Below w.heap.size w w' := by
  obtain ⟨v0, hV⟩ : ∃ v0, v0 = (w.alloc (.cells #[.int .i64 k, .bool ng, .slice a1 ds.length c1, .int .i64 x] 24)).alloc (.cells #[.int .i64 k, .bool ng, .slice a2 ds.length c2, .int .i64 x] 24) := ⟨_, rfl⟩
  obtain ⟨hA, hB, b0⟩ := two_boxes w _ _ _ v0 hV
  have n1 : (k != k) = false := by simp
  have n2 : (ng != ng) = false := by simp
  have n3 : (x != x) = false := by simp
  go_enter Tryd.func16, Tryd.ntmps16
  go_upto_region 1 with fail
  rw [← hV]
  clear hV
  have p0 := hA.cell 0 (x := .int .i64 k) rfl
  have p1 := hA.cell 1 (x := .bool ng) rfl
  have p2 := hA.cell 2 (x := .slice a1 ds.length c1) rfl
  have p3 := hA.cell 3 (x := .int .i64 x) rfl
  have q0 := hB.cell 0 (x := .int .i64 k) rfl
  have q1 := hB.cell 1 (x := .bool ng) rfl
  have q2 := hB.cell 2 (x := .slice a2 ds.length c2) rfl
  have q3 := hB.cell 3 (x := .int .i64 x) rfl
  have kE := fun (q : Nat) => eqB_any a1 a2 _ _ c1 c2 ds ds (v0.drewN q) rfl rfl (by omega) (by omega) ((h1.below b0).below (below_drewN (Below.refl _ _) q)) ((h2.below b0).below (below_drewN (Below.refl _ _) q))
  go_wp2_with fail
  refine (kE 0).mono ?_
  rintro e v1 ⟨rfl, q, rfl⟩
  have bq : Below v0.heap.size v0 ((v0.drewN 0).drewN q) := below_drewN (below_drewN (Below.refl _ _) _) _
  have hA1 := hA.below bq
  have hB1 := hB.below bq
  have HB := hid (b0.trans (bq.mono b0.size))
  clear p0 p1 p2 p3 q0 q1 q2 q3 kE
  generalize (v0.drewN 0).drewN q = v2 at *
  have p3 := hA1.cell 3 (x := .int .i64 x) rfl
  have q3 := hB1.cell 3 (x := .int .i64 x) rfl
  simp only [decide_true]
  go_wp2_with fail
  go_ret
  exact ⟨rfl, HB.out⟩

set_option maxHeartbeats 1000000 in
theorem eqScanned_same (o : M.Dec × Int × Int) (a1 a2 : Option Addr) (c1 c2 : Nat) (w : World) (hn : o.1.digits.length ≤ 10000) (h1 : RdY w a1 o.1.digits) (h2 : RdY w a2 o.1.digits) :
    Calls Tryd.prog 7 #[scV o (.slice a1 o.1.digits.length c1), scV o (.slice a2 o.1.digits.length c2)] w fun e w' => e = .returned (.bool true) ∧ Below w.heap.size w w' := by
  unfold scV
  obtain ⟨v0, hV⟩ : ∃ v0, v0 = (w.alloc (.cells (scA o (.slice a1 o.1.digits.length c1)) 26)).alloc (.cells (scA o (.slice a2 o.1.digits.length c2)) 26) := ⟨_, rfl⟩
  obtain ⟨hA, hB, b0⟩ := two_boxes w _ _ _ v0 hV
  have n1 : (o.2.1 != o.2.1) = false := by simp
  have n2 : (o.2.2 != o.2.2) = false := by simp
  go_enter Tryd.func7, Tryd.ntmps7
  go_upto_region 1 with fail
  rw [← hV]
  clear hV
  have p0 := hA.cell 0 (x := .int .i64 o.1.kind) rfl
  have p1 := hA.cell 1 (x := .bool o.1.neg) rfl
  have p2 := hA.cell 2 (x := .slice a1 o.1.digits.length c1) rfl
  have p3 := hA.cell 3 (x := .int .i64 o.1.exp) rfl
  have q0 := hB.cell 0 (x := .int .i64 o.1.kind) rfl
  have q1 := hB.cell 1 (x := .bool o.1.neg) rfl
  have q2 := hB.cell 2 (x := .slice a2 o.1.digits.length c2) rfl
  have q3 := hB.cell 3 (x := .int .i64 o.1.exp) rfl
  have kE := eqDecimal_same o.1.kind o.1.neg o.1.exp a1 a2 c1 c2 o.1.digits v0 hn (h1.below b0) (h2.below b0)
  go_wp2_with fail
  refine kE.mono ?_
  rintro e v1 ⟨rfl, b1⟩
  have hA1 := hA.below b1
  have hB1 := hB.below b1
  have HB := hid (b0.trans (b1.mono b0.size))
  clear p0 p1 p2 p3 q0 q1 q2 q3 kE
  have p4 := hA1.cell 4 (x := .int .i64 o.2.1) rfl
  have p5 := hA1.cell 5 (x := .int .i64 o.2.2) rfl
  have q4 := hB1.cell 4 (x := .int .i64 o.2.1) rfl
  have q5 := hB1.cell 5 (x := .int .i64 o.2.2) rfl
  go_wp2_with fail
  go_ret
  exact ⟨rfl, HB.out⟩

theorem OwnV.grown {w w' : World} {lo : Nat} {v : Value} {xs : List Nat} {row : Option Nat} (h : OwnV w lo v xs) (hg : w.grownBy w' row) (hr : ∀ j, row = some j → j < lo) : OwnV w' lo v xs := by
  obtain ⟨a, c, e, h1, h2, h3, h4, h5⟩ := h
  refine ⟨a, c, e, h1, h2, h3, h4, fun hp => ?_⟩
  obtain ⟨b, off, cur, e1, e2, e3, e4⟩ := h5 hp
  exact ⟨b, off, cur, e1, e2, (hg.block b (Array.getElem?_eq_some_iff.1 e3).1 (fun e => by have := hr b e.symm; omega)).trans e3, e4⟩

theorem marksB_len (k n : Nat) : (marksB k n).length = n := by simp [marksB]
theorem marksB_get (k n i : Nat) (h : i < n) : (marksB k n).getD i 0 = (k + i) % 256 := by simp [marksB, List.getD_eq_getElem?_getD, h]

set_option maxHeartbeats 1000000 in
theorem markV_any (lo : Nat) (a : Option Addr) (n cap k0 : Nat) (xs : List Nat) (w : World) (ke : Nat) (hke : ke = k0 + n) (hl : xs.length = n) (hn : n ≤ 10000) (hk0 : k0 ≤ 16777216) (h : OwnV w lo (.slice a n cap) xs) :
    Calls Tryd.prog 9 #[.slice a n cap, .int .i64 (k0 : Int)] w fun e w' => e = .returned (.int .i64 (ke : Int)) ∧ RdY w' a (marksB k0 n) ∧ Below lo w w' ∧ (∀ j, j < w.heap.size → (0 < n → ∀ p, a = some p → p.block ≠ j) → w'.heap[j]? = w.heap[j]?) := by
  subst hke
  subst hl
  have HV := hid h; clear h
  go_enter Tryd.func9, Tryd.ntmps9
  go_wp2
  go_loopw [1, 5] (fun kk i wr => ∃ k : Nat, k ≤ xs.length ∧ i = .int .i64 k ∧ kk = .int .i64 ((k0 : Int) + k) ∧ Below lo w wr ∧ (∀ j, j < w.heap.size → (0 < xs.length → ∀ p, a = some p → p.block ≠ j) → wr.heap[j]? = w.heap[j]?) ∧ (0 < xs.length → ∃ b off cur, a = some ⟨b, off, none⟩ ∧ lo ≤ b ∧ wr.heap[b]? = some (.cells cur 5) ∧ (∀ j, j < k → cur[off + j]? = some (.int .u8 (((k0 + j) % 256 : Nat) : Int))) ∧ (∀ j, k ≤ j → j < xs.length → ∃ y : Int, cur[off + j]? = some (.int .u8 y)))) (fun _ i _ => xs.length - (intOf i).toNat)
  case atStart =>
    refine ⟨0, Nat.zero_le _, rfl, by simp, Below.refl _ _, fun _ _ _ => rfl, fun hp => ?_⟩
    obtain ⟨a', c', e, _, _, _, _, h5⟩ := HV.out
    cases e
    obtain ⟨b, off, cur, e1, e2, e3, e4⟩ := h5 hp
    exact ⟨b, off, cur, e1, e2, e3, fun j hj => by omega, fun j _ hj => ⟨_, e4 j hj⟩⟩
  case round =>
    rename World => wr
    obtain ⟨k, hk, rfl, rfl, hB, hkp, hrow⟩ := hrel
    have HKP := hid hkp; clear hkp
    by_cases hlt : k < xs.length
    · obtain ⟨b, off, cur, rfl, hlo, hb, hd, hrest⟩ := hrow (by omega)
      have hC : Cls wr b cur 5 := hb
      obtain ⟨y, hy⟩ := hrest k (Nat.le_refl _) hlt
      have hc := hC.cell (off + k) hy
      have hf := hC.frozen (off + k)
      have hwb : IntKind.u8.wrap ((k0 : Int) + k) = (((k0 + k) % 256 : Nat) : Int) := by simp only [IntKind.wrap_u8]; omega
      have hlt' : (k : Int) < ((xs.length : Nat) : Int) := by omega
      have HC := hid hC; have HB := hid hB; have HD := hid hd; have HRE := hid hrest; have HY := hid hy
      clear hC hB hd hrest hrow hb hy
      go_wp2
      go_roundw
      case rel =>
        refine ⟨k + 1, by omega, by go_num, by go_num, HB.out.setCell (p := ⟨b, off + k, none⟩) hlo _, fun j h1 h2 => (Below.heap_setCell _ ⟨b, off + k, none⟩ _ j (fun e => h2 (by omega) ⟨b, off, none⟩ rfl e.symm)).trans (HKP.out j h1 h2), fun _ => ⟨b, off, _, rfl, hlo, HC.out.set (off + k) _ _ rfl, fun j hj => ?_, fun j h1 h2 => ?_⟩⟩
        · by_cases e : j = k
          · subst e
            rw [Array.getElem?_setIfInBounds_self]
            have : off + j < cur.size := (Array.getElem?_eq_some_iff.1 HY.out).1
            rw [if_pos this]
            simp
          · rw [Array.getElem?_setIfInBounds_ne (by omega)]
            exact HD.out j (by omega)
        · rw [Array.getElem?_setIfInBounds_ne (by omega)]
          exact HRE.out j (by omega) h2
      case measure => simp [intOf]; omega
    · have hlt' : ¬ (k : Int) < ((xs.length : Nat) : Int) := by omega
      have e : k = xs.length := by omega
      subst e
      have HB := hid hB; have HRO := hid hrow
      clear hB hrow
      go_wp2
      go_ret
      refine ⟨ret_int (by simp), fun hp => ?_, HB.out, HKP.out⟩
      rw [marksB_len] at hp
      obtain ⟨b, off, cur, e1, e2, e3, e4, _⟩ := HRO.out hp
      refine ⟨b, off, e1, fun i hi => ?_⟩
      rw [marksB_len] at hi
      have hC : Cls _ b cur 5 := e3
      rw [marksB_get k0 _ i hi]
      exact hC.cell (off + i) (e4 i hi)

set_option maxHeartbeats 1000000 in
theorem markDec_any (lo : Nat) (d : M.Dec) (a : Option Addr) (cap : Nat) (w : World) (ke : Nat) (hke : ke = 1 + d.digits.length) (hn : d.digits.length ≤ 10000) (hlo : lo ≤ w.heap.size) (h : OwnV w lo (.slice a d.digits.length cap) d.digits) :
    Calls Tryd.prog 17 #[.agg #[.int .i64 d.kind, .bool d.neg, .slice a d.digits.length cap, .int .i64 d.exp], .int .i64 1] w fun e w' => e = .returned (.int .i64 (ke : Int)) ∧ RdY w' a (marksB 1 d.digits.length) ∧ Below lo w w' ∧ (∀ j, j < w.heap.size → (0 < d.digits.length → ∀ p, a = some p → p.block ≠ j) → w'.heap[j]? = w.heap[j]?) := by
  have b1 : Below w.heap.size w (w.alloc (.cells #[.int .i64 d.kind, .bool d.neg, .slice a d.digits.length cap, .int .i64 d.exp] 24)) := (Below.refl _ _).alloc (Nat.le_refl _) _
  have k := markV_any lo a d.digits.length cap 1 d.digits _ ke hke rfl hn (by omega) (h.below b1)
  have HK := hid hke; clear hke
  go_enter Tryd.func17, Tryd.ntmps17
  go_wp2_with fail
  refine k.mono ?_
  rintro e w2 ⟨rfl, h2, b2, h3⟩
  have H3 := hid h3; clear h3
  go_wp2_with fail
  go_ret
  exact ⟨rfl, h2, (b1.mono hlo).trans b2, fun j h4 h5 => (H3.out j (Nat.lt_of_lt_of_le h4 b1.size) h5).trans (b1.block j h4)⟩

set_option maxHeartbeats 1000000 in
theorem markSc_any (lo : Nat) (o : M.Dec × Int × Int) (a : Option Addr) (cap : Nat) (w : World) (ke : Nat) (hke : ke = 1 + o.1.digits.length) (hn : o.1.digits.length ≤ 10000) (hlo : lo ≤ w.heap.size) (h : OwnV w lo (.slice a o.1.digits.length cap) o.1.digits) :
    Calls Tryd.prog 10 #[scV o (.slice a o.1.digits.length cap), .int .i64 1] w fun e w' => e = .returned (.int .i64 (ke : Int)) ∧ RdY w' a (marksB 1 o.1.digits.length) ∧ Below lo w w' ∧ (∀ j, j < w.heap.size → (0 < o.1.digits.length → ∀ p, a = some p → p.block ≠ j) → w'.heap[j]? = w.heap[j]?) := by
  unfold scV
  have b1 : Below w.heap.size w (w.alloc (.cells (scA o (.slice a o.1.digits.length cap)) 26)) := (Below.refl _ _).alloc (Nat.le_refl _) _
  have k := markDec_any lo o.1 a cap _ ke hke hn (Nat.le_trans hlo b1.size) (h.below b1)
  have HK := hid hke; clear hke
  go_enter Tryd.func10, Tryd.ntmps10
  go_wp2_with fail
  refine k.mono ?_
  rintro e w2 ⟨rfl, h2, b2, h3⟩
  have H3 := hid h3; clear h3
  go_wp2_with fail
  go_ret
  exact ⟨rfl, h2, (b1.mono hlo).trans b2, fun j h4 h5 => (H3.out j (Nat.lt_of_lt_of_le h4 b1.size) h5).trans (b1.block j h4)⟩

set_option maxHeartbeats 1000000 in
theorem heldDec_any (k : Int) (ng : Bool) (x : Int) (n : Nat) (a : Option Addr) (cap : Nat) (w : World) (ke : Nat) (hke : ke = 1 + n) (hn : n ≤ 10000) (h : RdY w a (marksB 1 n)) :
    Calls Tryd.prog 18 #[.agg #[.int .i64 k, .bool ng, .slice a n cap, .int .i64 x], .int .i64 1] w fun e w' => e = .returned (.int .i64 (ke : Int)) ∧ Below w.heap.size w w' := by
  have b1 : Below w.heap.size w (w.alloc (.cells #[.int .i64 k, .bool ng, .slice a n cap, .int .i64 x] 24)) := (Below.refl _ _).alloc (Nat.le_refl _) _
  have kH := heldB_any a n cap 1 _ ke hke (by omega) (by omega) (h.below b1)
  have hneg : ¬ (ke : Int) < 0 := by omega
  have HK := hid hke; clear hke
  go_enter Tryd.func18, Tryd.ntmps18
  go_wp2_with fail
  refine kH.mono ?_
  rintro e w2 ⟨rfl, rfl⟩
  have HB := hid b1; clear b1
  go_wp2_with fail
  go_ret
  exact ⟨rfl, HB.out⟩

set_option maxHeartbeats 1000000 in
theorem heldSc_any (o : M.Dec × Int × Int) (a : Option Addr) (cap : Nat) (w : World) (ke : Nat) (hke : ke = 1 + o.1.digits.length) (hn : o.1.digits.length ≤ 10000) (h : RdY w a (marksB 1 o.1.digits.length)) :
    Calls Tryd.prog 11 #[scV o (.slice a o.1.digits.length cap), .int .i64 1] w fun e w' => e = .returned (.int .i64 (ke : Int)) ∧ Below w.heap.size w w' := by
  unfold scV
  have b1 : Below w.heap.size w (w.alloc (.cells (scA o (.slice a o.1.digits.length cap)) 26)) := (Below.refl _ _).alloc (Nat.le_refl _) _
  have kH := heldDec_any o.1.kind o.1.neg o.1.exp o.1.digits.length a cap _ ke hke hn (h.below b1)
  have hneg : ¬ (ke : Int) < 0 := by omega
  have HK := hid hke; clear hke
  go_enter Tryd.func11, Tryd.ntmps11
  go_wp2_with fail
  refine kH.mono ?_
  rintro e w2 ⟨rfl, b2⟩
  have HB := hid (b1.trans (b2.mono b1.size)); clear b1 b2
  go_wp2_with fail
  go_ret
  exact ⟨rfl, HB.out⟩
end Go.Proofs.YtehplfmnipadmacDoor
