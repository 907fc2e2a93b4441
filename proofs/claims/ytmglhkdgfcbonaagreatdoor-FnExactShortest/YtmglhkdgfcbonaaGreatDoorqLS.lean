import Derived.Test.YtmglhkdgfcbonaaGreatDoorqBT
import Derived.Test.YtmglhkdgfcbonaaGreatDoorqIU
namespace Go.Proofs.YtmglhkdgfcbonaaGreatDoor

open Go.RowKit

set_option linter.unusedVariables false
set_option maxRecDepth 100000

theorem two_boxes (w : World) (xs ys : Array Value) (t : TypeId) (v0 : World) (h : v0 = (w.alloc (.cells xs t)).alloc (.cells ys t)) : Cls v0 w.heap.size xs t ∧ Cls v0 (w.heap.size + 1) ys t ∧ Below w.heap.size w v0 := by
  subst h
  have h1 : (w.alloc (.cells xs t)).heap.size = w.heap.size + 1 := by simp
  refine ⟨(Cls.new w _ _).below ((Below.refl _ _).alloc (Nat.le_refl _) _), ?_, ((Below.refl w.heap.size w).alloc (Nat.le_refl _) _).alloc (by simp) _⟩
  rw [← h1]
  exact Cls.new _ _ _

theorem OwnV.grown {w w' : World} {lo : Nat} {v : Value} {xs : List Nat} {row : Option Nat} (h : OwnV w lo v xs) (hg : w.grownBy w' row) (hr : ∀ j, row = some j → j < lo) : OwnV w' lo v xs := by
  obtain ⟨a, c, e, h1, h2, h3, h4, h5⟩ := h
  refine ⟨a, c, e, h1, h2, h3, h4, fun hp => ?_⟩
  obtain ⟨b, off, cur, e1, e2, e3, e4⟩ := h5 hp
  exact ⟨b, off, cur, e1, e2, (hg.block b (Array.getElem?_eq_some_iff.1 e3).1 (fun e => by have := hr b e.symm; omega)).trans e3, e4⟩

theorem marksB_len (k n : Nat) : (marksB k n).length = n := by simp [marksB]

theorem marksB_get (k n i : Nat) (h : i < n) : (marksB k n).getD i 0 = (k + i) % 256 := by simp [marksB, List.getD_eq_getElem?_getD, h]

set_option maxHeartbeats 1000000 in
theorem markV_any (lo : Nat) (a : Option Addr) (n cap k0 : Nat) (xs : List Nat) (w : World) (ke : Nat) (hke : ke = k0 + n) (hl : xs.length = n) (hn : n ≤ 10000) (hk0 : k0 ≤ 16777216) (h : OwnV w lo (.slice a n cap) xs) :
    Calls Tryz.prog 51 #[.slice a n cap, .int .i64 (k0 : Int)] w fun e w' => e = .returned (.int .i64 (ke : Int)) ∧ RdY w' a (marksB k0 n) ∧ Below lo w w' ∧ (∀ j, j < w.heap.size → (0 < n → ∀ p, a = some p → p.block ≠ j) → w'.heap[j]? = w.heap[j]?) := by
  subst hke
  subst hl
  have HV := hid h; clear h
  go_enter Tryz.func51, Tryz.ntmps51
  go_wp2
  go_loopw [1, 5] (fun kk i wr => ∃ k : Nat, k ≤ xs.length ∧ i = .int .i64 k ∧ kk = .int .i64 ((k0 : Int) + k) ∧ Below lo w wr ∧ (∀ j, j < w.heap.size → (0 < xs.length → ∀ p, a = some p → p.block ≠ j) → wr.heap[j]? = w.heap[j]?) ∧ (0 < xs.length → ∃ b off cur, a = some ⟨b, off, none⟩ ∧ lo ≤ b ∧ wr.heap[b]? = some (.cells cur 5) ∧ (∀ j, j < k → cur[off + j]? = some (.int .u8 (((k0 + j) % 256 : Nat) : Int))) ∧ (∀ j, k ≤ j → j < xs.length → ∃ y : Int, cur[off + j]? = some (.int .u8 y)))) (fun _ i _ => xs.length - (intOf i).toNat)
  case atStart =>
    refine ⟨0, Nat.zero_le _, rfl, by simp, Below.refl _ _, fun _ _ _ => rfl, fun hp => ?_⟩
    obtain ⟨a', c', e, _, _, _, _, h5⟩ := HV.out
    cases e
    obtain ⟨b, off, cur, e1, e2, e3, e4⟩ := h5 hp
    exact ⟨b, off, cur, e1, e2, e3, fun j hj => by omega, fun j _ hj => ⟨_, e4 j hj⟩⟩
  case round =>
    rename World => wr
    obtain ⟨k, hk, rfl, rfl, hB, hkp, hrow⟩ := hrel
    have HKP := hid hkp; clear hkp
    by_cases hlt : k < xs.length
    · obtain ⟨b, off, cur, rfl, hlo, hb, hd, hrest⟩ := hrow (by omega)
      have hC : Cls wr b cur 5 := hb
      obtain ⟨y, hy⟩ := hrest k (Nat.le_refl _) hlt
      have hc := hC.cell (off + k) hy
      have hf := hC.frozen (off + k)
      have hwb : IntKind.u8.wrap ((k0 : Int) + k) = (((k0 + k) % 256 : Nat) : Int) := by simp only [IntKind.wrap_u8]; omega
      have hlt' : (k : Int) < ((xs.length : Nat) : Int) := by omega
      have HC := hid hC; have HB := hid hB; have HD := hid hd; have HRE := hid hrest; have HY := hid hy
      clear hC hB hd hrest hrow hb hy
      go_wp2
      go_roundw
      case rel =>
        refine ⟨k + 1, by omega, by go_num, by go_num, HB.out.setCell (p := ⟨b, off + k, none⟩) hlo _, fun j h1 h2 => (Below.heap_setCell _ ⟨b, off + k, none⟩ _ j (fun e => h2 (by omega) ⟨b, off, none⟩ rfl e.symm)).trans (HKP.out j h1 h2), fun _ => ⟨b, off, _, rfl, hlo, HC.out.set (off + k) _ _ rfl, fun j hj => ?_, fun j h1 h2 => ?_⟩⟩
        · by_cases e : j = k
          · subst e
            rw [Array.getElem?_setIfInBounds_self]
            have : off + j < cur.size := (Array.getElem?_eq_some_iff.1 HY.out).1
            rw [if_pos this]
            simp
          · rw [Array.getElem?_setIfInBounds_ne (by omega)]
            exact HD.out j (by omega)
        · rw [Array.getElem?_setIfInBounds_ne (by omega)]
          exact HRE.out j (by omega) h2
      case measure => simp [intOf]; omega
    · have hlt' : ¬ (k : Int) < ((xs.length : Nat) : Int) := by omega
      have e : k = xs.length := by omega
      subst e
      have HB := hid hB; have HRO := hid hrow
      clear hB hrow
      go_wp2
      go_ret
      refine ⟨ret_int (by simp), fun hp => ?_, HB.out, HKP.out⟩
      rw [marksB_len] at hp
      obtain ⟨b, off, cur, e1, e2, e3, e4, _⟩ := HRO.out hp
      refine ⟨b, off, e1, fun i hi => ?_⟩
      rw [marksB_len] at hi
      have hC : Cls _ b cur 5 := e3
      rw [marksB_get k0 _ i hi]
      exact hC.cell (off + i) (e4 i hi)

end Go.Proofs.YtmglhkdgfcbonaaGreatDoor

namespace Go.Proofs.YtmglhkdgfcbonaaGreatDoor

open Go.RowKit

set_option linter.unusedVariables false
set_option maxRecDepth 100000

set_option maxHeartbeats 1000000 in
theorem eqShort_same (x : Int) (ng : Bool) (k : Int) (a1 a2 : Option Addr) (c1 c2 : Nat) (ds : List Nat) (w : World) (hn : ds.length ≤ 10000) (h1 : RdY w a1 ds) (h2 : RdY w a2 ds) :
    Calls Tryz.prog 9 #[.agg #[.slice a1 ds.length c1, .int .i64 x, .bool ng, .int .i64 k], .agg #[.slice a2 ds.length c2, .int .i64 x, .bool ng, .int .i64 k]] w fun e w' => e = .returned (.bool true) ∧ Below w.heap.size w w' := by
  obtain ⟨v0, hV⟩ : ∃ v0, v0 = (w.alloc (.cells #[.slice a1 ds.length c1, .int .i64 x, .bool ng, .int .i64 k] 27)).alloc (.cells #[.slice a2 ds.length c2, .int .i64 x, .bool ng, .int .i64 k] 27) := ⟨_, rfl⟩
  obtain ⟨hA, hB, b0⟩ := two_boxes w _ _ _ v0 hV
  have n1 : (k != k) = false := by simp
  have n2 : (ng != ng) = false := by simp
  have n3 : (x != x) = false := by simp
  go_enter Tryz.func9, Tryz.ntmps9
  go_upto_region 1 with fail
  rw [← hV]
  clear hV
  have p0 := hA.cell 0 (x := .slice a1 ds.length c1) rfl
  have q0 := hB.cell 0 (x := .slice a2 ds.length c2) rfl
  have kE := fun (q : Nat) => eqB_any a1 a2 _ _ c1 c2 ds ds (v0.drewN q) rfl rfl (by omega) (by omega) ((h1.below b0).below (below_drewN (Below.refl _ _) q)) ((h2.below b0).below (below_drewN (Below.refl _ _) q))
  go_wp2_with fail
  refine (kE 0).mono ?_
  rintro e v1 ⟨rfl, q, rfl⟩
  have bq : Below v0.heap.size v0 ((v0.drewN 0).drewN q) := below_drewN (below_drewN (Below.refl _ _) _) _
  have hA1 := hA.below bq
  have hB1 := hB.below bq
  have HB := hid (b0.trans (bq.mono b0.size))
  clear p0 q0 kE
  generalize (v0.drewN 0).drewN q = v2 at *
  have p1 := hA1.cell 1 (x := .int .i64 x) rfl
  have p2 := hA1.cell 2 (x := .bool ng) rfl
  have p3 := hA1.cell 3 (x := .int .i64 k) rfl
  have q1 := hB1.cell 1 (x := .int .i64 x) rfl
  have q2 := hB1.cell 2 (x := .bool ng) rfl
  have q3 := hB1.cell 3 (x := .int .i64 k) rfl
  simp only [decide_true]
  go_wp2_with fail
  go_ret
  exact ⟨rfl, HB.out⟩

set_option maxHeartbeats 1000000 in
theorem markShort_any (lo : Nat) (x : Int) (ng : Bool) (k : Int) (ds : List Nat) (a : Option Addr) (cap : Nat) (w : World) (ke : Nat) (hke : ke = 1 + ds.length) (hn : ds.length ≤ 10000) (hlo : lo ≤ w.heap.size) (h : OwnV w lo (.slice a ds.length cap) ds) :
    Calls Tryz.prog 10 #[.agg #[.slice a ds.length cap, .int .i64 x, .bool ng, .int .i64 k], .int .i64 1] w fun e w' => e = .returned (.int .i64 (ke : Int)) ∧ RdY w' a (marksB 1 ds.length) ∧ Below lo w w' ∧ (∀ j, j < w.heap.size → (0 < ds.length → ∀ p, a = some p → p.block ≠ j) → w'.heap[j]? = w.heap[j]?) := by
  have b1 : Below w.heap.size w (w.alloc (.cells #[.slice a ds.length cap, .int .i64 x, .bool ng, .int .i64 k] 27)) := (Below.refl _ _).alloc (Nat.le_refl _) _
  have k := markV_any lo a ds.length cap 1 ds _ ke hke rfl hn (by omega) (h.below b1)
  have HK := hid hke; clear hke
  go_enter Tryz.func10, Tryz.ntmps10
  go_wp2_with fail
  refine k.mono ?_
  rintro e w2 ⟨rfl, h2, b2, h3⟩
  have H3 := hid h3; clear h3
  go_wp2_with fail
  go_ret
  exact ⟨rfl, h2, (b1.mono hlo).trans b2, fun j h4 h5 => (H3.out j (Nat.lt_of_lt_of_le h4 b1.size) h5).trans (b1.block j h4)⟩

set_option maxHeartbeats 1000000 in
theorem heldShort_any (x : Int) (ng : Bool) (k : Int) (n : Nat) (a : Option Addr) (cap : Nat) (w : World) (ke : Nat) (hke : ke = 1 + n) (hn : n ≤ 10000) (h : RdY w a (marksB 1 n)) :
    Calls Tryz.prog 11 #[.agg #[.slice a n cap, .int .i64 x, .bool ng, .int .i64 k], .int .i64 1] w fun e w' => e = .returned (.int .i64 (ke : Int)) ∧ Below w.heap.size w w' := by
  have b1 : Below w.heap.size w (w.alloc (.cells #[.slice a n cap, .int .i64 x, .bool ng, .int .i64 k] 27)) := (Below.refl _ _).alloc (Nat.le_refl _) _
  have kH := heldB_any a n cap 1 _ ke hke (by omega) (by omega) (h.below b1)
  have hneg : ¬ (ke : Int) < 0 := by omega
  have HK := hid hke; clear hke
  go_enter Tryz.func11, Tryz.ntmps11
  go_wp2_with fail
  refine kH.mono ?_
  rintro e w2 ⟨rfl, rfl⟩
  have HB := hid b1; clear b1
  go_wp2_with fail
  go_ret
  exact ⟨rfl, HB.out⟩

end Go.Proofs.YtmglhkdgfcbonaaGreatDoor

namespace Go.Proofs.YtmglhkdgfcbonaaGreatDoor

open Go.RowKit

set_option linter.unusedVariables false
set_option maxRecDepth 100000

/-- A shortest decimal is answered: read, or in memory of one's own. -/
def ShR (v w' : World) (e : Ending) (ds : List Nat) (x : Int) (ng : Bool) (k : Int) : Prop :=
  ∃ ra rc, e = .returned (.agg #[.slice ra ds.length rc, .int .i64 x, .bool ng, .int .i64 k]) ∧ RdY w' ra ds ∧ Below v.heap.size v w'

def ShO (v w' : World) (e : Ending) (ds : List Nat) (x : Int) (ng : Bool) (k : Int) : Prop :=
  ∃ ra rc, e = .returned (.agg #[.slice ra ds.length rc, .int .i64 x, .bool ng, .int .i64 k]) ∧ OwnV w' v.heap.size (.slice ra ds.length rc) ds ∧ Below v.heap.size v w'

end Go.Proofs.YtmglhkdgfcbonaaGreatDoor

namespace Go.Proofs.YtmglhkdgfcbonaaGreatDoor

open Go.RowKit

set_option linter.unusedVariables false
set_option maxRecDepth 100000

set_option maxHeartbeats 4000000 in
theorem lawShKey (f a b : Int) (ds : List Nat) (x : Int) (ng : Bool) (k : Int) (w : World) (h : Fmt w) (hl : ds.length ≤ 10000)
    (hS : ∀ v : World, Calls Tryz.prog 6 #[.int .i64 f, .agg #[.int .u64 a, .int .u64 b]] v fun e w' => ShR v w' e ds x ng k)
    (hI : ∀ v : World, Fmt v → Calls Tryz.prog 8 #[.int .i64 f, .agg #[.int .u64 a, .int .u64 b]] v fun e w' => ShO v w' e ds x ng k) :
    Calls Tryz.prog 3 #[.int .i64 f, .agg #[.int .u64 a, .int .u64 b]] w fun e w' => e = .returned (.bool true) ∧ Below w.heap.size w w' := by
  have b0 := (Below.refl w.heap.size w).alloc (Nat.le_refl _) (.cells #[.int .u64 a, .int .u64 b] 24)
  have XW := Cls.new w #[.int .u64 a, .int .u64 b] 24
  go_enter Tryz.func3, Tryz.ntmps3
  go_wp2_with fail
  refine (toWord_any a b _).mono ?_
  rintro e v1 ⟨rfl, hb⟩
  replace XW := XW.below hb
  replace b0 := b0.trans (hb.mono b0.size)
  clear hb
  go_wp2_with fail
  refine (hS _).mono ?_
  rintro e v2 ⟨wa, wc, rfl, rW, hb⟩
  replace XW := XW.below hb
  replace b0 := b0.trans (hb.mono b0.size)
  clear hb hS
  go_upto_region 2 with fail
  have bA := (Below.refl v2.heap.size v2).alloc (Nat.le_refl _) (.cells #[.slice wa ds.length wc, .int .i64 x, .bool ng, .int .i64 k] 27)
  have W0 := Cls.new v2 #[.slice wa ds.length wc, .int .i64 x, .bool ng, .int .i64 k] 27
  replace XW := XW.below bA
  replace rW := rW.below bA
  replace b0 := b0.trans (bA.mono b0.size)
  clear bA
  generalize v2.alloc (.cells #[.slice wa ds.length wc, .int .i64 x, .bool ng, .int .i64 k] 27) = v3 at *
  obtain ⟨gw, hgw⟩ : ∃ gw, gw = v2.heap.size := ⟨_, rfl⟩
  rw [← hgw] at W0 ⊢
  clear hgw
  have x0 := XW.cell 0 rfl
  have x1 := XW.cell 1 rfl
  go_wp2_with fail
  refine (toWord_any a b _).mono ?_
  rintro e v4 ⟨rfl, hb⟩
  replace XW := XW.below hb
  replace W0 := W0.below hb
  replace rW := rW.below hb
  replace b0 := b0.trans (hb.mono b0.size)
  clear hb x0 x1
  go_wp2_with fail
  refine (hI _ (h.below b0)).mono ?_
  rintro e v5 ⟨ga, gc, rfl, oG, hb⟩
  have lx4 := XW.lt
  have lw4 := W0.lt
  have l45 := hb.size
  have B4 := hb
  replace b0 := b0.trans (hb.mono b0.size)
  clear hb
  have hag : 0 < ds.length → ∀ p, ga = some p → p.block < v5.heap.size := by
    intro hp p hpe
    obtain ⟨_, _, e, _, _, _, _, h5⟩ := oG
    cases e
    obtain ⟨b, off, cur, e1, _, e3, _⟩ := h5 hp
    have := (Array.getElem?_eq_some_iff.1 e3).1
    rw [e1] at hpe
    cases hpe
    exact this
  go_upto_region 3 with fail
  have bA := (Below.refl v5.heap.size v5).alloc (Nat.le_refl _) (.cells #[.slice ga ds.length gc, .int .i64 x, .bool ng, .int .i64 k] 27)
  have G0 := Cls.new v5 #[.slice ga ds.length gc, .int .i64 x, .bool ng, .int .i64 k] 27
  replace oG := oG.below bA
  replace B4 := B4.trans (bA.mono B4.size)
  replace b0 := b0.trans (bA.mono b0.size)
  clear bA
  generalize v5.alloc (.cells #[.slice ga ds.length gc, .int .i64 x, .bool ng, .int .i64 k] 27) = v6 at *
  obtain ⟨gg, hgg⟩ : ∃ gg, gg = v5.heap.size := ⟨_, rfl⟩
  rw [← hgg] at G0 hag l45 ⊢
  clear hgg
  have W6 := W0.below B4
  have p0 := G0.cell 0 rfl
  have p1 := G0.cell 1 rfl
  have p2 := G0.cell 2 rfl
  have p3 := G0.cell 3 rfl
  have q0 := W6.cell 0 rfl
  have q1 := W6.cell 1 rfl
  have q2 := W6.cell 2 rfl
  have q3 := W6.cell 3 rfl
  go_wp2_with fail
  refine (eqShort_same x ng k ga wa gc wc ds _ hl oG.rd.y (rW.below B4)).mono ?_
  rintro e v7 ⟨rfl, hb⟩
  replace G0 := G0.below hb
  replace oG := oG.below hb
  replace B4 := B4.trans (hb.mono B4.size)
  replace b0 := b0.trans (hb.mono b0.size)
  clear hb p0 p1 p2 p3 q0 q1 q2 q3 W6
  have p0 := G0.cell 0 rfl
  have p1 := G0.cell 1 rfl
  have p2 := G0.cell 2 rfl
  have p3 := G0.cell 3 rfl
  have lg7 := G0.lt
  obtain ⟨ke, hke⟩ : ∃ ke : Nat, ke = 1 + ds.length := ⟨_, rfl⟩
  have HK := hid hke
  clear hke
  go_wp2_with fail
  refine (markShort_any v4.heap.size x ng k ds ga gc _ ke HK.out hl B4.size oG).mono ?_
  rintro e v8 ⟨rfl, m1, bm, um⟩
  have G1 : Cls v8 gg #[.slice ga ds.length gc, .int .i64 x, .bool ng, .int .i64 k] 27 := (um gg lg7 (fun hp p e => by have := hag hp p e; omega)).trans G0
  replace B4 := B4.trans bm
  replace b0 := b0.trans (bm.mono (by omega))
  clear bm um oG p0 p1 p2 p3 lg7 G0
  have p0 := G1.cell 0 rfl
  have p1 := G1.cell 1 rfl
  have p2 := G1.cell 2 rfl
  have p3 := G1.cell 3 rfl
  have n3 : ¬ (ke : Int) < 0 := by omega
  have hne : ((ke : Int) != (ke : Int)) = false := by simp
  have X8 := XW.below B4
  have x0 := X8.cell 0 rfl
  have x1 := X8.cell 1 rfl
  go_wp2_with fail
  refine (heldShort_any x ng k ds.length ga gc _ ke HK.out hl m1).mono ?_
  rintro e v9 ⟨rfl, hb⟩
  replace B4 := B4.trans (hb.mono B4.size)
  replace b0 := b0.trans (hb.mono b0.size)
  clear hb p0 p1 p2 p3 G1 m1 X8 x0 x1
  have X9 := XW.below B4
  have x0 := X9.cell 0 rfl
  have x1 := X9.cell 1 rfl
  go_wp2_with fail
  refine (toWord_any a b _).mono ?_
  rintro e v10 ⟨rfl, hb⟩
  replace B4 := B4.trans (hb.mono B4.size)
  replace b0 := b0.trans (hb.mono b0.size)
  clear hb x0 x1 X9
  go_wp2_with fail
  refine (hI _ (h.below b0)).mono ?_
  rintro e v11 ⟨ha, hc, rfl, oH, hb⟩
  replace B4 := B4.trans (hb.mono B4.size)
  replace b0 := b0.trans (hb.mono b0.size)
  clear hb
  go_upto_region 14 with fail
  have bA := (Below.refl v11.heap.size v11).alloc (Nat.le_refl _) (.cells #[.slice ha ds.length hc, .int .i64 x, .bool ng, .int .i64 k] 27)
  have H0 := Cls.new v11 #[.slice ha ds.length hc, .int .i64 x, .bool ng, .int .i64 k] 27
  replace oH := oH.below bA
  replace B4 := B4.trans (bA.mono B4.size)
  replace b0 := b0.trans (bA.mono b0.size)
  clear bA
  generalize v11.alloc (.cells #[.slice ha ds.length hc, .int .i64 x, .bool ng, .int .i64 k] 27) = v12 at *
  have W9 := W0.below B4
  generalize v11.heap.size = gh at *
  have p0 := H0.cell 0 rfl
  have p1 := H0.cell 1 rfl
  have p2 := H0.cell 2 rfl
  have p3 := H0.cell 3 rfl
  have q0 := W9.cell 0 rfl
  have q1 := W9.cell 1 rfl
  have q2 := W9.cell 2 rfl
  have q3 := W9.cell 3 rfl
  go_wp2_with fail
  refine (eqShort_same x ng k ha wa hc wc ds _ hl oH.rd.y (rW.below B4)).mono ?_
  rintro e v13 ⟨rfl, hb⟩
  have HB := hid (b0.trans (hb.mono b0.size))
  clear hb b0
  go_wp2_with fail
  go_ret
  exact ⟨rfl, HB.out⟩

end Go.Proofs.YtmglhkdgfcbonaaGreatDoor

