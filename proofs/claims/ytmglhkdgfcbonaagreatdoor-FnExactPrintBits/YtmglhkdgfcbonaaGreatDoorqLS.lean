import Derived.Test.YtmglhkdgfcbonaaGreatDoorqBT
namespace Go.Proofs.YtmglhkdgfcbonaaGreatDoor

open Go.RowKit

set_option linter.unusedVariables false
set_option maxRecDepth 100000

theorem two_boxes (w : World) (xs ys : Array Value) (t : TypeId) (v0 : World) (h : v0 = (w.alloc (.cells xs t)).alloc (.cells ys t)) : Cls v0 w.heap.size xs t ∧ Cls v0 (w.heap.size + 1) ys t ∧ Below w.heap.size w v0 := by
  subst h
  have h1 : (w.alloc (.cells xs t)).heap.size = w.heap.size + 1 := by simp
  refine ⟨(Cls.new w _ _).below ((Below.refl _ _).alloc (Nat.le_refl _) _), ?_, ((Below.refl w.heap.size w).alloc (Nat.le_refl _) _).alloc (by simp) _⟩
  rw [← h1]
  exact Cls.new _ _ _

theorem OwnV.grown {w w' : World} {lo : Nat} {v : Value} {xs : List Nat} {row : Option Nat} (h : OwnV w lo v xs) (hg : w.grownBy w' row) (hr : ∀ j, row = some j → j < lo) : OwnV w' lo v xs := by
  obtain ⟨a, c, e, h1, h2, h3, h4, h5⟩ := h
  refine ⟨a, c, e, h1, h2, h3, h4, fun hp => ?_⟩
  obtain ⟨b, off, cur, e1, e2, e3, e4⟩ := h5 hp
  exact ⟨b, off, cur, e1, e2, (hg.block b (Array.getElem?_eq_some_iff.1 e3).1 (fun e => by have := hr b e.symm; omega)).trans e3, e4⟩

theorem marksB_len (k n : Nat) : (marksB k n).length = n := by simp [marksB]

theorem marksB_get (k n i : Nat) (h : i < n) : (marksB k n).getD i 0 = (k + i) % 256 := by simp [marksB, List.getD_eq_getElem?_getD, h]

end Go.Proofs.YtmglhkdgfcbonaaGreatDoor

namespace Go.Proofs.YtmglhkdgfcbonaaGreatDoor

open Go.RowKit

set_option linter.unusedVariables false
set_option maxRecDepth 100000

def OwnF (w : World) (lo : Nat) (v : Value) (xs : List Nat) : Prop :=
  ∃ a c, v = .slice a xs.length c ∧ (0 < xs.length → ∃ b off cur fz, a = some ⟨b, off, none⟩ ∧ lo ≤ b ∧ w.heap[b]? = some (.cells cur 5 fz) ∧ (∀ i, i < xs.length → fz.2 ≤ off + i ∨ off + i < fz.1) ∧ ∀ i, i < xs.length → cur[off + i]? = some (.int .u8 ((xs.getD i 0 : Nat) : Int)))

theorem OwnF.of {w : World} {lo : Nat} {v : Value} {xs : List Nat} (h : OwnV w lo v xs) : OwnF w lo v xs := by
  obtain ⟨a, c, e, h1, h2, h3, h4, h5⟩ := h
  refine ⟨a, c, e, fun hp => ?_⟩
  obtain ⟨b, off, cur, e1, e2, e3, e4⟩ := h5 hp
  exact ⟨b, off, cur, (0, 0), e1, e2, e3, fun i _ => .inl (Nat.zero_le _), e4⟩

theorem OwnF.below {w w' : World} {lo : Nat} {v : Value} {xs : List Nat} (h : OwnF w lo v xs) (hb : Below w.heap.size w w') : OwnF w' lo v xs := by
  obtain ⟨a, c, e, h5⟩ := h
  refine ⟨a, c, e, fun hp => ?_⟩
  obtain ⟨b, off, cur, fz, e1, e2, e3, e5, e4⟩ := h5 hp
  exact ⟨b, off, cur, fz, e1, e2, (hb.block b (Array.getElem?_eq_some_iff.1 e3).1).trans e3, e5, e4⟩

theorem OwnF.y {w : World} {lo : Nat} {a : Option Addr} {c : Nat} {xs : List Nat} (h : OwnF w lo (.slice a xs.length c) xs) : RdY w a xs := by
  obtain ⟨a', c', e, h2⟩ := h
  cases e
  intro hp
  obtain ⟨b, off, cur, fz, e1, _, hb, _, hc⟩ := h2 hp
  exact ⟨b, off, e1, fun i hi => by rw [cell_of_row w b (off + i) _ _ fz hb, hc i hi]⟩

theorem frozen_fz {w : World} {g j : Nat} {cs : Array Value} {t : TypeId} {fz : Nat × Nat} (hg : w.heap[g]? = some (.cells cs t fz)) (h : fz.2 ≤ j ∨ j < fz.1) : w.frozen? ⟨g, j, none⟩ = false := by
  obtain ⟨p, q⟩ := fz
  simp [World.frozen?, hg]
  intro h1
  rcases h with h | h
  · exact h
  · exact absurd h1 (by simp at h; omega)

theorem heap_set_fz (w : World) (g i : Nat) (cs : Array Value) (t : TypeId) (fz : Nat × Nat) (v : Value) (hg : w.heap[g]? = some (.cells cs t fz)) :
    (w.setCell ⟨g, i, none⟩ v).heap[g]? = some (.cells (cs.setIfInBounds i v) t fz) := by
  rw [setCell_eq_setRow w g i cs t fz v hg]
  exact setRow_heap w g cs _ t _ hg

def PrR (v w' : World) (e : Ending) (bs : List Nat) (k : Int) : Prop :=
  ∃ ra rc, e = .returned (.agg #[.slice ra bs.length rc, .int .i64 k]) ∧ RdY w' ra bs ∧ Below v.heap.size v w'

def PrO (v w' : World) (e : Ending) (bs : List Nat) (k : Int) : Prop :=
  ∃ ra rc, e = .returned (.agg #[.slice ra bs.length rc, .int .i64 k]) ∧ OwnF w' v.heap.size (.slice ra bs.length rc) bs ∧ Below v.heap.size v w'

set_option maxHeartbeats 1000000 in
theorem markF_any (lo : Nat) (a : Option Addr) (n cap k0 : Nat) (xs : List Nat) (w : World) (ke : Nat) (hke : ke = k0 + n) (hl : xs.length = n) (hn : n ≤ 10000) (hk0 : k0 ≤ 16777216) (h : OwnF w lo (.slice a n cap) xs) :
    Calls Tryz.prog 51 #[.slice a n cap, .int .i64 (k0 : Int)] w fun e w' => e = .returned (.int .i64 (ke : Int)) ∧ RdY w' a (marksB k0 n) ∧ Below lo w w' ∧ (∀ j, j < w.heap.size → (0 < n → ∀ p, a = some p → p.block ≠ j) → w'.heap[j]? = w.heap[j]?) := by
  subst hke
  subst hl
  have HV := hid h; clear h
  go_enter Tryz.func51, Tryz.ntmps51
  go_wp2
  go_loopw [1, 5] (fun kk i wr => ∃ k : Nat, k ≤ xs.length ∧ i = .int .i64 k ∧ kk = .int .i64 ((k0 : Int) + k) ∧ Below lo w wr ∧ (∀ j, j < w.heap.size → (0 < xs.length → ∀ p, a = some p → p.block ≠ j) → wr.heap[j]? = w.heap[j]?) ∧ (0 < xs.length → ∃ b off cur fz, a = some ⟨b, off, none⟩ ∧ lo ≤ b ∧ wr.heap[b]? = some (.cells cur 5 fz) ∧ (∀ i, i < xs.length → fz.2 ≤ off + i ∨ off + i < fz.1) ∧ (∀ j, j < k → cur[off + j]? = some (.int .u8 (((k0 + j) % 256 : Nat) : Int))) ∧ (∀ j, k ≤ j → j < xs.length → ∃ y : Int, cur[off + j]? = some (.int .u8 y)))) (fun _ i _ => xs.length - (intOf i).toNat)
  case atStart =>
    refine ⟨0, Nat.zero_le _, rfl, by simp, Below.refl _ _, fun _ _ _ => rfl, fun hp => ?_⟩
    obtain ⟨a', c', e, h5⟩ := HV.out
    cases e
    obtain ⟨b, off, cur, fz, e1, e2, e3, e5, e4⟩ := h5 hp
    exact ⟨b, off, cur, fz, e1, e2, e3, e5, fun j hj => by omega, fun j _ hj => ⟨_, e4 j hj⟩⟩
  case round =>
    rename World => wr
    obtain ⟨k, hk, rfl, rfl, hB, hkp, hrow⟩ := hrel
    have HKP := hid hkp; clear hkp
    by_cases hlt : k < xs.length
    · obtain ⟨b, off, cur, fz, rfl, hlo, hb, hfz, hd, hrest⟩ := hrow (by omega)
      obtain ⟨y, hy⟩ := hrest k (Nat.le_refl _) hlt
      have hc := (cell_of_row wr b (off + k) _ _ _ hb).trans hy
      have hf := frozen_fz hb (hfz k hlt)
      have hwb : IntKind.u8.wrap ((k0 : Int) + k) = (((k0 + k) % 256 : Nat) : Int) := by simp only [IntKind.wrap_u8]; omega
      have hlt' : (k : Int) < ((xs.length : Nat) : Int) := by omega
      have HC := hid hb; have HFZ := hid hfz; have HB := hid hB; have HD := hid hd; have HRE := hid hrest; have HY := hid hy
      clear hB hd hrest hrow hb hy hfz
      go_wp2
      go_roundw
      case rel =>
        refine ⟨k + 1, by omega, by go_num, by go_num, HB.out.setCell (p := ⟨b, off + k, none⟩) hlo _, fun j h1 h2 => (Below.heap_setCell _ ⟨b, off + k, none⟩ _ j (fun e => h2 (by omega) ⟨b, off, none⟩ rfl e.symm)).trans (HKP.out j h1 h2), fun _ => ⟨b, off, _, fz, rfl, hlo, heap_set_fz _ _ _ _ _ _ _ HC.out, HFZ.out, fun j hj => ?_, fun j h1 h2 => ?_⟩⟩
        · by_cases e : j = k
          · subst e
            rw [Array.getElem?_setIfInBounds_self]
            have : off + j < cur.size := (Array.getElem?_eq_some_iff.1 HY.out).1
            rw [if_pos this]
            simp
          · rw [Array.getElem?_setIfInBounds_ne (by omega)]
            exact HD.out j (by omega)
        · rw [Array.getElem?_setIfInBounds_ne (by omega)]
          exact HRE.out j (by omega) h2
      case measure => simp [intOf]; omega
    · have hlt' : ¬ (k : Int) < ((xs.length : Nat) : Int) := by omega
      have e : k = xs.length := by omega
      subst e
      have HB := hid hB; have HRO := hid hrow
      clear hB hrow
      go_wp2
      go_ret
      refine ⟨ret_int (by simp), fun hp => ?_, HB.out, HKP.out⟩
      rw [marksB_len] at hp
      obtain ⟨b, off, cur, fz, e1, e2, e3, _, e4, _⟩ := HRO.out hp
      refine ⟨b, off, e1, fun i hi => ?_⟩
      rw [marksB_len] at hi
      rw [marksB_get k0 _ i hi]
      exact (cell_of_row _ b (off + i) _ _ _ e3).trans (e4 i hi)

set_option maxHeartbeats 1000000 in
theorem eqPrinted_same (k : Int) (a1 a2 : Option Addr) (c1 c2 : Nat) (ds : List Nat) (w : World) (hn : ds.length ≤ 10000) (h1 : RdY w a1 ds) (h2 : RdY w a2 ds) :
    Calls Tryz.prog 14 #[.agg #[.slice a1 ds.length c1, .int .i64 k], .agg #[.slice a2 ds.length c2, .int .i64 k]] w fun e w' => e = .returned (.bool true) ∧ Below w.heap.size w w' := by
  obtain ⟨v0, hV⟩ : ∃ v0, v0 = (w.alloc (.cells #[.slice a1 ds.length c1, .int .i64 k] 35)).alloc (.cells #[.slice a2 ds.length c2, .int .i64 k] 35) := ⟨_, rfl⟩
  obtain ⟨hA, hB, b0⟩ := two_boxes w _ _ _ v0 hV
  have n1 : (k != k) = false := by simp
  go_enter Tryz.func14, Tryz.ntmps14
  go_upto_region 1 with fail
  rw [← hV]
  clear hV
  have p0 := hA.cell 0 (x := .slice a1 ds.length c1) rfl
  have q0 := hB.cell 0 (x := .slice a2 ds.length c2) rfl
  have kE := fun (q : Nat) => eqB_any a1 a2 _ _ c1 c2 ds ds (v0.drewN q) rfl rfl (by omega) (by omega) ((h1.below b0).below (below_drewN (Below.refl _ _) q)) ((h2.below b0).below (below_drewN (Below.refl _ _) q))
  go_wp2_with fail
  refine (kE 0).mono ?_
  rintro e v1 ⟨rfl, q, rfl⟩
  have bq : Below v0.heap.size v0 ((v0.drewN 0).drewN q) := below_drewN (below_drewN (Below.refl _ _) _) _
  have hA1 := hA.below bq
  have hB1 := hB.below bq
  have HB := hid (b0.trans (bq.mono b0.size))
  clear p0 q0 kE
  generalize (v0.drewN 0).drewN q = v2 at *
  have p1 := hA1.cell 1 (x := .int .i64 k) rfl
  have q1 := hB1.cell 1 (x := .int .i64 k) rfl
  simp only [decide_true]
  go_wp2_with fail
  go_ret
  exact ⟨rfl, HB.out⟩

set_option maxHeartbeats 1000000 in
theorem markPrinted_any (lo : Nat) (k : Int) (ds : List Nat) (a : Option Addr) (cap : Nat) (w : World) (ke : Nat) (hke : ke = 1 + ds.length) (hn : ds.length ≤ 10000) (hlo : lo ≤ w.heap.size) (h : OwnF w lo (.slice a ds.length cap) ds) :
    Calls Tryz.prog 15 #[.agg #[.slice a ds.length cap, .int .i64 k], .int .i64 1] w fun e w' => e = .returned (.int .i64 (ke : Int)) ∧ RdY w' a (marksB 1 ds.length) ∧ Below lo w w' ∧ (∀ j, j < w.heap.size → (0 < ds.length → ∀ p, a = some p → p.block ≠ j) → w'.heap[j]? = w.heap[j]?) := by
  have b1 : Below w.heap.size w (w.alloc (.cells #[.slice a ds.length cap, .int .i64 k] 35)) := (Below.refl _ _).alloc (Nat.le_refl _) _
  have k := markF_any lo a ds.length cap 1 ds _ ke hke rfl hn (by omega) (h.below b1)
  have HK := hid hke; clear hke
  go_enter Tryz.func15, Tryz.ntmps15
  go_wp2_with fail
  refine k.mono ?_
  rintro e w2 ⟨rfl, h2, b2, h3⟩
  have H3 := hid h3; clear h3
  go_wp2_with fail
  go_ret
  exact ⟨rfl, h2, (b1.mono hlo).trans b2, fun j h4 h5 => (H3.out j (Nat.lt_of_lt_of_le h4 b1.size) h5).trans (b1.block j h4)⟩

set_option maxHeartbeats 1000000 in
theorem heldPrinted_any (k : Int) (n : Nat) (a : Option Addr) (cap : Nat) (w : World) (ke : Nat) (hke : ke = 1 + n) (hn : n ≤ 10000) (h : RdY w a (marksB 1 n)) :
    Calls Tryz.prog 16 #[.agg #[.slice a n cap, .int .i64 k], .int .i64 1] w fun e w' => e = .returned (.int .i64 (ke : Int)) ∧ Below w.heap.size w w' := by
  have b1 : Below w.heap.size w (w.alloc (.cells #[.slice a n cap, .int .i64 k] 35)) := (Below.refl _ _).alloc (Nat.le_refl _) _
  have kH := heldB_any a n cap 1 _ ke hke (by omega) (by omega) (h.below b1)
  have hneg : ¬ (ke : Int) < 0 := by omega
  have HK := hid hke; clear hke
  go_enter Tryz.func16, Tryz.ntmps16
  go_wp2_with fail
  refine kH.mono ?_
  rintro e w2 ⟨rfl, rfl⟩
  have HB := hid b1; clear b1
  go_wp2_with fail
  go_ret
  exact ⟨rfl, HB.out⟩

end Go.Proofs.YtmglhkdgfcbonaaGreatDoor

namespace Go.Proofs.YtmglhkdgfcbonaaGreatDoor

open Go.RowKit

set_option linter.unusedVariables false
set_option maxRecDepth 100000

def ShR (v w' : World) (e : Ending) (ds : List Nat) (x : Int) (ng : Bool) (k : Int) : Prop :=
  ∃ ra rc, e = .returned (.agg #[.slice ra ds.length rc, .int .i64 x, .bool ng, .int .i64 k]) ∧ OwnV w' v.heap.size (.slice ra ds.length rc) ds ∧ Below v.heap.size v w'

def ShO (v w' : World) (e : Ending) (ds : List Nat) (x : Int) (ng : Bool) (k : Int) : Prop :=
  ∃ ra rc, e = .returned (.agg #[.slice ra ds.length rc, .int .i64 x, .bool ng, .int .i64 k]) ∧ OwnV w' v.heap.size (.slice ra ds.length rc) ds ∧ Below v.heap.size v w'

end Go.Proofs.YtmglhkdgfcbonaaGreatDoor

