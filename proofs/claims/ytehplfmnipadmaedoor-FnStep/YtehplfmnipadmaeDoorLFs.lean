import Derived.Test.YtehplfmnipadmaeDoorFsN
import Derived.Test.YtehplfmnipadmaeDoorWrd
import Derived.Test.YtehplfmnipadmaeDoorIo2
import Derived.Test.YtehplfmnipadmaeDoorW5
import Derived.Test.YtehplfmnipadmaeDoorLStep
import Derived.Test.YtehplfmnipadmaeDoorLBn
import Derived.Test.YtehplfmnipadmaeDoorLBounds
namespace Go.Proofs.YtehplfmnipadmaeDoor

open Go.RowKit

set_option linter.unusedVariables false
set_option maxRecDepth 100000

theorem properU {F : M.Fm} (h : F.Ok) (X : Nat) (hc : (F.upk X).c = 2 ∨ (F.upk X).c = 3) : F.Proper (F.upk X) := by
  rcases h.upk_proper X with e | e
  · rw [e] at hc; simp at hc
  · exact e

theorem mul_L (a b : Nat) (h1 : (L a).length ≤ 1200) (h2 : (L b).length ≤ 1200) : mulDoc (L a) (L b) = L (a * b) := by
  unfold mulDoc; rw [if_pos ⟨h1, h2⟩, V_L, V_L]

theorem cmp_L (a : Nat) (h1 : (L a).length ≤ 1200) : cmpDoc (L a) (L a) = 0 := by
  unfold cmpDoc; rw [if_pos ⟨h1, h1⟩]; unfold cmpI; simp

theorem bnd_len {F : M.Fm} {T : M.Pt} (hf : Fin F T) (E : Nat) (hE : 17128 ≤ E) : (L (bA F T)).length ≤ 300 ∧ (L (bB T)).length ≤ 300 ∧ (L (bC T)).length ≤ 300 ∧ bA F T < 2 ^ E ∧ bB T < 2 ^ E ∧ bC T < 2 ^ E := by
  obtain ⟨h1, h2, h3, h4, h5⟩ := bnd_lt hf
  have e1 : 2 ^ (128 + (T.q - 2).toNat) ≤ 2 ^ E := Nat.pow_le_pow_right (by omega) (by omega)
  have e2 : 2 ^ (128 + (2 - T.q).toNat) ≤ 2 ^ E := Nat.pow_le_pow_right (by omega) (by omega)
  exact ⟨L_len_b _ _ _ h1 (by omega), L_len_b _ _ _ h2 (by omega), L_len_b _ _ _ h3 (by omega), Nat.lt_of_lt_of_le h1 e1, Nat.lt_of_lt_of_le h2 e1, Nat.lt_of_lt_of_le h3 e2⟩

theorem prod_len (a b E : Nat) (h1 : a < 2 ^ E) (h2 : b < 2 ^ E) (hE : E ≤ 19000) : (L (a * b)).length ≤ 600 := by
  refine L_len_b _ (E + E) _ ?_ (by omega)
  rw [Nat.pow_add]
  exact Nat.mul_lt_mul'' h1 h2

theorem fld_class (c : Int) (n : Bool) (h l q : Int) (v : World) : Sem.run Tryd.prog (Instr.field 49 (.agg #[.int .i64 c, .bool n, .int .u64 h, .int .u64 l, .int .i64 q]) 0) v = .ok (.int .i64 c) v := by
  kernel_rfl

theorem fld_neg (c : Int) (n : Bool) (h l q : Int) (v : World) : Sem.run Tryd.prog (Instr.field 49 (.agg #[.int .i64 c, .bool n, .int .u64 h, .int .u64 l, .int .i64 q]) 1) v = .ok (.bool n) v := by
  kernel_rfl

set_option maxHeartbeats 8000000 in
set_option maxRecDepth 100000 in
theorem lawFsKey (a0 : Option Addr) (n c : Nat) (w : World) (hm : Fmt w) (h1 : n ≤ 1048576)
    (kD : ∀ (v : World), Below w.heap.size w v → Calls Tryd.prog 21 #[.slice a0 n c] v fun e w' => ∃ (f : Int) (X : Nat), X < 2 ^ 128 ∧ e = .returned (.tuple #[.int .i64 f, .agg #[.int .u64 (M.hiN X : Int), .int .u64 (M.loN X : Int)]]) ∧ Below v.heap.size v w') :
    Calls Tryd.prog 6 #[.slice a0 n c] w fun e w' => e = .returned (.bool true) ∧ Below w.heap.size w w' := by
  have h1' : ¬ (1048576 : Int) < (n : Int) := by omega
  go_enter Tryd.func6, Tryd.ntmps6
  go_wp2_with fail
  refine (kD _ (Below.refl _ _)).mono ?_
  rintro e v1 ⟨f, X, hX, rfl, b0⟩
  have m0 := hm.below b0
  have fc := fld_class
  have fn := fld_neg
  by_cases hf : f < 0 ∨ 4 ≤ f
  · skip
    go_wp2_with fail
    have cw := Cls.new v1 #[.int .u64 (M.hiN X : Int), .int .u64 (M.loN X : Int)] 25
    have hb := (Below.refl _ v1).alloc (Nat.le_refl _) (.cells #[.int .u64 (M.hiN X : Int), .int .u64 (M.loN X : Int)] 25)
    replace b0 := b0.trans (hb.mono b0.size)
    replace m0 := m0.below hb
    clear hb
    have szcw : (v1.alloc (.cells #[.int .u64 (M.hiN X : Int), .int .u64 (M.loN X : Int)] 25)).heap.size = v1.heap.size + 1 := by simp
    obtain ⟨gcw, hgcw⟩ : ∃ g, g = v1.heap.size := ⟨_, rfl⟩
    rw [← hgcw] at cw szcw ⊢
    clear hgcw
    generalize v1.alloc (.cells #[.int .u64 (M.hiN X : Int), .int .u64 (M.loN X : Int)] 25) = v2 at cw b0 m0 szcw ⊢
    clear szcw
    have cw0 := cw.cell 0 (x := .int .u64 (M.hiN X : Int)) rfl
    have cw1 := cw.cell 1 (x := .int .u64 (M.loN X : Int)) rfl
    refine (sunpack_no f hf (M.hiN X : Int) (M.loN X : Int) _).mono ?_
    rintro e v3 ⟨rfl, hb⟩
    clear cw0
    clear cw1
    replace cw := cw.below hb
    replace b0 := b0.trans (hb.mono b0.size)
    replace m0 := m0.below hb
    clear hb
    have cw0 := cw.cell 0 (x := .int .u64 (M.hiN X : Int)) rfl
    have cw1 := cw.cell 1 (x := .int .u64 (M.loN X : Int)) rfl
    go_wp2_with fail
    clear cw0
    clear cw1
    refine (istep_no f hf X true _ m0).mono ?_
    rintro e v4 ⟨rfl, hb⟩
    replace b0 := b0.trans (hb.mono b0.size)
    replace m0 := m0.below hb
    replace cw := cw.below hb
    clear hb
    have cw0 := cw.cell 0 (x := .int .u64 (M.hiN X : Int)) rfl
    have cw1 := cw.cell 1 (x := .int .u64 (M.loN X : Int)) rfl
    have AB := (Below.refl _ v4).alloc (Nat.le_refl _) (.cells #[.int .u64 0, .int .u64 0] 25)
    have cwx0 := (cw.below AB).cell 0 (x := .int .u64 (M.hiN X : Int)) rfl
    have cwx1 := (cw.below AB).cell 1 (x := .int .u64 (M.loN X : Int)) rfl
    go_wp2_with fail
    clear AB
    clear cw0
    clear cw1
    clear cwx0
    clear cwx1
    have cy := Cls.new v4 #[.int .u64 0, .int .u64 0] 25
    have hb := (Below.refl _ v4).alloc (Nat.le_refl _) (.cells #[.int .u64 0, .int .u64 0] 25)
    replace cw := cw.below hb
    replace b0 := b0.trans (hb.mono b0.size)
    replace m0 := m0.below hb
    clear hb
    have szcy : (v4.alloc (.cells #[.int .u64 0, .int .u64 0] 25)).heap.size = v4.heap.size + 1 := by simp
    obtain ⟨gcy, hgcy⟩ : ∃ g, g = v4.heap.size := ⟨_, rfl⟩
    rw [← hgcy] at cy szcy ⊢
    clear hgcy
    generalize v4.alloc (.cells #[.int .u64 0, .int .u64 0] 25) = v5 at cw cy b0 m0 szcy ⊢
    clear szcy
    refine (sstep_no f hf X true _).mono ?_
    rintro e v6 ⟨rfl, hb⟩
    replace b0 := b0.trans (hb.mono b0.size)
    replace m0 := m0.below hb
    replace cw := cw.below hb
    replace cy := cy.below hb
    clear hb
    go_wp2_with fail
    go_ret
    exact ⟨rfl, b0.trans (((Below.refl _ _).alloc (Nat.le_refl _) _).mono b0.size)⟩
  · skip
    obtain ⟨q, rfl⟩ : ∃ q : Nat, f = (q : Int) := ⟨f.toNat, by omega⟩
    have hq : q < 4 := by omega
    clear hf
    have hF := M.fm_ok q
    go_wp2_with fail
    have cw := Cls.new v1 #[.int .u64 (M.hiN X : Int), .int .u64 (M.loN X : Int)] 25
    have hb := (Below.refl _ v1).alloc (Nat.le_refl _) (.cells #[.int .u64 (M.hiN X : Int), .int .u64 (M.loN X : Int)] 25)
    replace b0 := b0.trans (hb.mono b0.size)
    replace m0 := m0.below hb
    clear hb
    have szcw : (v1.alloc (.cells #[.int .u64 (M.hiN X : Int), .int .u64 (M.loN X : Int)] 25)).heap.size = v1.heap.size + 1 := by simp
    obtain ⟨gcw, hgcw⟩ : ∃ g, g = v1.heap.size := ⟨_, rfl⟩
    rw [← hgcw] at cw szcw ⊢
    clear hgcw
    generalize v1.alloc (.cells #[.int .u64 (M.hiN X : Int), .int .u64 (M.loN X : Int)] 25) = v2 at cw b0 m0 szcw ⊢
    clear szcw
    have cw0 := cw.cell 0 (x := .int .u64 (M.hiN X : Int)) rfl
    have cw1 := cw.cell 1 (x := .int .u64 (M.loN X : Int)) rfl
    refine (sunpack_any q hq X hX _).mono ?_
    rintro e v3 ⟨rfl, hb⟩
    clear cw0
    clear cw1
    replace cw := cw.below hb
    replace b0 := b0.trans (hb.mono b0.size)
    replace m0 := m0.below hb
    clear hb
    by_cases hc : ((M.fm q).upk X).c = 2 ∨ ((M.fm q).upk X).c = 3
    · skip
      have SF := step_facts hF X hc
      have hcb : (((M.fm q).upk X).c != 3 && ((M.fm q).upk X).c != 2) = false := by rcases hc with e | e <;> rw [e] <;> rfl
      obtain ⟨T, hT⟩ : ∃ T, T = (M.fm q).upk X := ⟨_, rfl⟩
      obtain ⟨U, hU⟩ : ∃ U, U = stN (M.fm q) ((M.fm q).upk X) true := ⟨_, rfl⟩
      obtain ⟨Z, hZ⟩ : ∃ Z, Z = stN (M.fm q) ((M.fm q).upk X) false := ⟨_, rfl⟩
      have hU1 : U < 2 ^ 128 := by rw [hU]; exact SF.u
      have hZ1 : Z < 2 ^ 128 := by rw [hZ]; exact SF.d
      have kUp := fun (v : World) (hv : Fmt v) => istep_any q hq X hX true v hv
      have kDn := fun (v : World) (hv : Fmt v) => istep_any q hq X hX false v hv
      rw [SF.b1, ← hU] at kUp
      rw [SF.b2, ← hZ] at kDn
      have kO1 := fun (v : World) (hv : Fmt v) => iorder_any q hq X U hX hU1 v hv
      have kO2 := fun (v : World) (hv : Fmt v) => iorder_any q hq Z X hZ1 hX v hv
      rw [hU, SF.o1, ← hU] at kO1
      rw [hZ, SF.o2, ← hZ] at kO2
      have kA := fun (v : World) (hv : Fmt v) => istep_any q hq U hU1 false v hv
      have kB := fun (v : World) (hv : Fmt v) => istep_any q hq Z hZ1 true v hv
      simp only [hU, SF.ud, SF.udB] at kA
      simp only [← hU] at kA
      simp only [hZ, SF.du, SF.duB] at kB
      simp only [← hZ] at kB
      have hfar := SF.far
      rw [← hU, ← hZ, ← hT] at hfar
      rw [← hT] at hcb hc ⊢
      simp only [pv]
      have hpT : (M.fm q).Proper T := by rw [hT]; exact properU hF X (by rw [← hT]; exact hc)
      have HT := hid hT; have HU := hid hU; have HZ := hid hZ
      clear hT hU hZ SF
      rcases hc with hcc | hcc
      · skip
        have hc : T.c = 2 ∨ T.c = 3 := by omega
        have cw0 := cw.cell 0 (x := .int .u64 (M.hiN X : Int)) rfl
        have cw1 := cw.cell 1 (x := .int .u64 (M.loN X : Int)) rfl
        go_wp2_with fail
        clear cw0
        clear cw1
        refine (kUp _ m0).mono ?_
        rintro e v4 ⟨rfl, hb⟩
        replace b0 := b0.trans (hb.mono b0.size)
        replace m0 := m0.below hb
        replace cw := cw.below hb
        clear hb
        have cw0 := cw.cell 0 (x := .int .u64 (M.hiN X : Int)) rfl
        have cw1 := cw.cell 1 (x := .int .u64 (M.loN X : Int)) rfl
        have AB := (Below.refl _ v4).alloc (Nat.le_refl _) (.cells #[.int .u64 (M.hiN U : Int), .int .u64 (M.loN U : Int)] 25)
        have cwx0 := (cw.below AB).cell 0 (x := .int .u64 (M.hiN X : Int)) rfl
        have cwx1 := (cw.below AB).cell 1 (x := .int .u64 (M.loN X : Int)) rfl
        go_wp2_with fail
        clear AB
        clear cw0
        clear cw1
        clear cwx0
        clear cwx1
        have cu := Cls.new v4 #[.int .u64 (M.hiN U : Int), .int .u64 (M.loN U : Int)] 25
        have hb := (Below.refl _ v4).alloc (Nat.le_refl _) (.cells #[.int .u64 (M.hiN U : Int), .int .u64 (M.loN U : Int)] 25)
        replace cw := cw.below hb
        replace b0 := b0.trans (hb.mono b0.size)
        replace m0 := m0.below hb
        clear hb
        have szcu : (v4.alloc (.cells #[.int .u64 (M.hiN U : Int), .int .u64 (M.loN U : Int)] 25)).heap.size = v4.heap.size + 1 := by simp
        obtain ⟨gcu, hgcu⟩ : ∃ g, g = v4.heap.size := ⟨_, rfl⟩
        rw [← hgcu] at cu szcu ⊢
        clear hgcu
        generalize v4.alloc (.cells #[.int .u64 (M.hiN U : Int), .int .u64 (M.loN U : Int)] 25) = v5 at cw cu b0 m0 szcu ⊢
        clear szcu
        refine (kDn _ m0).mono ?_
        rintro e v6 ⟨rfl, hb⟩
        replace b0 := b0.trans (hb.mono b0.size)
        replace m0 := m0.below hb
        replace cw := cw.below hb
        replace cu := cu.below hb
        clear hb
        have cw0 := cw.cell 0 (x := .int .u64 (M.hiN X : Int)) rfl
        have cw1 := cw.cell 1 (x := .int .u64 (M.loN X : Int)) rfl
        have cu0 := cu.cell 0 (x := .int .u64 (M.hiN U : Int)) rfl
        have cu1 := cu.cell 1 (x := .int .u64 (M.loN U : Int)) rfl
        have AB := (Below.refl _ v6).alloc (Nat.le_refl _) (.cells #[.int .u64 (M.hiN Z : Int), .int .u64 (M.loN Z : Int)] 25)
        have cwx0 := (cw.below AB).cell 0 (x := .int .u64 (M.hiN X : Int)) rfl
        have cwx1 := (cw.below AB).cell 1 (x := .int .u64 (M.loN X : Int)) rfl
        have cux0 := (cu.below AB).cell 0 (x := .int .u64 (M.hiN U : Int)) rfl
        have cux1 := (cu.below AB).cell 1 (x := .int .u64 (M.loN U : Int)) rfl
        go_wp2_with fail
        clear AB
        clear cw0
        clear cw1
        clear cu0
        clear cu1
        clear cwx0
        clear cwx1
        clear cux0
        clear cux1
        have cd := Cls.new v6 #[.int .u64 (M.hiN Z : Int), .int .u64 (M.loN Z : Int)] 25
        have hb := (Below.refl _ v6).alloc (Nat.le_refl _) (.cells #[.int .u64 (M.hiN Z : Int), .int .u64 (M.loN Z : Int)] 25)
        replace cw := cw.below hb
        replace cu := cu.below hb
        replace b0 := b0.trans (hb.mono b0.size)
        replace m0 := m0.below hb
        clear hb
        have szcd : (v6.alloc (.cells #[.int .u64 (M.hiN Z : Int), .int .u64 (M.loN Z : Int)] 25)).heap.size = v6.heap.size + 1 := by simp
        obtain ⟨gcd, hgcd⟩ : ∃ g, g = v6.heap.size := ⟨_, rfl⟩
        rw [← hgcd] at cd szcd ⊢
        clear hgcd
        generalize v6.alloc (.cells #[.int .u64 (M.hiN Z : Int), .int .u64 (M.loN Z : Int)] 25) = v7 at cw cu cd b0 m0 szcd ⊢
        clear szcd
        refine (kO1 _ m0).mono ?_
        rintro e v8 ⟨rfl, hb⟩
        replace b0 := b0.trans (hb.mono b0.size)
        replace m0 := m0.below hb
        replace cw := cw.below hb
        replace cu := cu.below hb
        replace cd := cd.below hb
        clear hb
        have cw0 := cw.cell 0 (x := .int .u64 (M.hiN X : Int)) rfl
        have cw1 := cw.cell 1 (x := .int .u64 (M.loN X : Int)) rfl
        have cu0 := cu.cell 0 (x := .int .u64 (M.hiN U : Int)) rfl
        have cu1 := cu.cell 1 (x := .int .u64 (M.loN U : Int)) rfl
        have cd0 := cd.cell 0 (x := .int .u64 (M.hiN Z : Int)) rfl
        have cd1 := cd.cell 1 (x := .int .u64 (M.loN Z : Int)) rfl
        go_wp2_with fail
        clear cw0
        clear cw1
        clear cu0
        clear cu1
        clear cd0
        clear cd1
        refine (kO2 _ m0).mono ?_
        rintro e v9 ⟨rfl, hb⟩
        replace b0 := b0.trans (hb.mono b0.size)
        replace m0 := m0.below hb
        replace cw := cw.below hb
        replace cu := cu.below hb
        replace cd := cd.below hb
        clear hb
        have cw0 := cw.cell 0 (x := .int .u64 (M.hiN X : Int)) rfl
        have cw1 := cw.cell 1 (x := .int .u64 (M.loN X : Int)) rfl
        have cu0 := cu.cell 0 (x := .int .u64 (M.hiN U : Int)) rfl
        have cu1 := cu.cell 1 (x := .int .u64 (M.loN U : Int)) rfl
        have cd0 := cd.cell 0 (x := .int .u64 (M.hiN Z : Int)) rfl
        have cd1 := cd.cell 1 (x := .int .u64 (M.loN Z : Int)) rfl
        go_wp2_with fail
        clear cw0
        clear cw1
        clear cu0
        clear cu1
        clear cd0
        clear cd1
        refine (kA _ m0).mono ?_
        rintro e v10 ⟨rfl, hb⟩
        replace b0 := b0.trans (hb.mono b0.size)
        replace m0 := m0.below hb
        replace cw := cw.below hb
        replace cu := cu.below hb
        replace cd := cd.below hb
        clear hb
        have cw0 := cw.cell 0 (x := .int .u64 (M.hiN X : Int)) rfl
        have cw1 := cw.cell 1 (x := .int .u64 (M.loN X : Int)) rfl
        have cu0 := cu.cell 0 (x := .int .u64 (M.hiN U : Int)) rfl
        have cu1 := cu.cell 1 (x := .int .u64 (M.loN U : Int)) rfl
        have cd0 := cd.cell 0 (x := .int .u64 (M.hiN Z : Int)) rfl
        have cd1 := cd.cell 1 (x := .int .u64 (M.loN Z : Int)) rfl
        have AB := (Below.refl _ v10).alloc (Nat.le_refl _) (.cells #[.int .u64 (M.hiN X : Int), .int .u64 (M.loN X : Int)] 25)
        have cwx0 := (cw.below AB).cell 0 (x := .int .u64 (M.hiN X : Int)) rfl
        have cwx1 := (cw.below AB).cell 1 (x := .int .u64 (M.loN X : Int)) rfl
        have cux0 := (cu.below AB).cell 0 (x := .int .u64 (M.hiN U : Int)) rfl
        have cux1 := (cu.below AB).cell 1 (x := .int .u64 (M.loN U : Int)) rfl
        have cdx0 := (cd.below AB).cell 0 (x := .int .u64 (M.hiN Z : Int)) rfl
        have cdx1 := (cd.below AB).cell 1 (x := .int .u64 (M.loN Z : Int)) rfl
        go_wp2_with fail
        clear AB
        clear cw0
        clear cw1
        clear cu0
        clear cu1
        clear cd0
        clear cd1
        clear cwx0
        clear cwx1
        clear cux0
        clear cux1
        clear cdx0
        clear cdx1
        have ca := Cls.new v10 #[.int .u64 (M.hiN X : Int), .int .u64 (M.loN X : Int)] 25
        have hb := (Below.refl _ v10).alloc (Nat.le_refl _) (.cells #[.int .u64 (M.hiN X : Int), .int .u64 (M.loN X : Int)] 25)
        replace cw := cw.below hb
        replace cu := cu.below hb
        replace cd := cd.below hb
        replace b0 := b0.trans (hb.mono b0.size)
        replace m0 := m0.below hb
        clear hb
        have szca : (v10.alloc (.cells #[.int .u64 (M.hiN X : Int), .int .u64 (M.loN X : Int)] 25)).heap.size = v10.heap.size + 1 := by simp
        obtain ⟨gca, hgca⟩ : ∃ g, g = v10.heap.size := ⟨_, rfl⟩
        rw [← hgca] at ca szca ⊢
        clear hgca
        generalize v10.alloc (.cells #[.int .u64 (M.hiN X : Int), .int .u64 (M.loN X : Int)] 25) = v11 at cw cu cd ca b0 m0 szca ⊢
        clear szca
        refine (kB _ m0).mono ?_
        rintro e v12 ⟨rfl, hb⟩
        replace b0 := b0.trans (hb.mono b0.size)
        replace m0 := m0.below hb
        replace cw := cw.below hb
        replace cu := cu.below hb
        replace cd := cd.below hb
        replace ca := ca.below hb
        clear hb
        have nh : ((M.hiN X : Int) != (M.hiN X : Int)) = false := by simp
        have nl : ((M.loN X : Int) != (M.loN X : Int)) = false := by simp
        have cw0 := cw.cell 0 (x := .int .u64 (M.hiN X : Int)) rfl
        have cw1 := cw.cell 1 (x := .int .u64 (M.loN X : Int)) rfl
        have cu0 := cu.cell 0 (x := .int .u64 (M.hiN U : Int)) rfl
        have cu1 := cu.cell 1 (x := .int .u64 (M.loN U : Int)) rfl
        have cd0 := cd.cell 0 (x := .int .u64 (M.hiN Z : Int)) rfl
        have cd1 := cd.cell 1 (x := .int .u64 (M.loN Z : Int)) rfl
        have ca0 := ca.cell 0 (x := .int .u64 (M.hiN X : Int)) rfl
        have ca1 := ca.cell 1 (x := .int .u64 (M.loN X : Int)) rfl
        have AB0 := (Below.refl _ v12).alloc (Nat.le_refl _) (.cells #[.int .u64 (M.hiN X : Int), .int .u64 (M.loN X : Int)] 25)
        have cwy0 := cw.below AB0
        have cwx00 := cwy0.cell 0 (x := .int .u64 (M.hiN X : Int)) rfl
        have cwx01 := cwy0.cell 1 (x := .int .u64 (M.loN X : Int)) rfl
        have cuy0 := cu.below AB0
        have cux00 := cuy0.cell 0 (x := .int .u64 (M.hiN U : Int)) rfl
        have cux01 := cuy0.cell 1 (x := .int .u64 (M.loN U : Int)) rfl
        have cdy0 := cd.below AB0
        have cdx00 := cdy0.cell 0 (x := .int .u64 (M.hiN Z : Int)) rfl
        have cdx01 := cdy0.cell 1 (x := .int .u64 (M.loN Z : Int)) rfl
        have cay0 := ca.below AB0
        have cax00 := cay0.cell 0 (x := .int .u64 (M.hiN X : Int)) rfl
        have cax01 := cay0.cell 1 (x := .int .u64 (M.loN X : Int)) rfl
        have AB1 := (Below.refl _ (v12.alloc (.cells #[.int .u64 (M.hiN X : Int), .int .u64 (M.loN X : Int)] 25))).alloc (Nat.le_refl _) (.cells #[.int .u64 (M.hiN U : Int), .int .u64 (M.loN U : Int)] 25)
        have cwy1 := cwy0.below AB1
        have cwx10 := cwy1.cell 0 (x := .int .u64 (M.hiN X : Int)) rfl
        have cwx11 := cwy1.cell 1 (x := .int .u64 (M.loN X : Int)) rfl
        have cuy1 := cuy0.below AB1
        have cux10 := cuy1.cell 0 (x := .int .u64 (M.hiN U : Int)) rfl
        have cux11 := cuy1.cell 1 (x := .int .u64 (M.loN U : Int)) rfl
        have cdy1 := cdy0.below AB1
        have cdx10 := cdy1.cell 0 (x := .int .u64 (M.hiN Z : Int)) rfl
        have cdx11 := cdy1.cell 1 (x := .int .u64 (M.loN Z : Int)) rfl
        have cay1 := cay0.below AB1
        have cax10 := cay1.cell 0 (x := .int .u64 (M.hiN X : Int)) rfl
        have cax11 := cay1.cell 1 (x := .int .u64 (M.loN X : Int)) rfl
        go_wp2_with fail
        clear AB0
        clear AB1
        clear cax11 cax10 cay1 cdx11 cdx10 cdy1 cux11 cux10 cuy1 cwx11 cwx10 cwy1 cax01 cax00 cay0 cdx01 cdx00 cdy0 cux01 cux00 cuy0 cwx01 cwx00 cwy0
        clear cw0
        clear cw1
        clear cu0
        clear cu1
        clear cd0
        clear cd1
        clear ca0
        clear ca1
        have cb := Cls.new v12 #[.int .u64 (M.hiN X : Int), .int .u64 (M.loN X : Int)] 25
        have hb := (Below.refl _ v12).alloc (Nat.le_refl _) (.cells #[.int .u64 (M.hiN X : Int), .int .u64 (M.loN X : Int)] 25)
        replace cw := cw.below hb
        replace cu := cu.below hb
        replace cd := cd.below hb
        replace ca := ca.below hb
        replace b0 := b0.trans (hb.mono b0.size)
        replace m0 := m0.below hb
        clear hb
        have szcb : (v12.alloc (.cells #[.int .u64 (M.hiN X : Int), .int .u64 (M.loN X : Int)] 25)).heap.size = v12.heap.size + 1 := by simp
        obtain ⟨gcb, hgcb⟩ : ∃ g, g = v12.heap.size := ⟨_, rfl⟩
        rw [← hgcb] at cb szcb ⊢
        clear hgcb
        generalize v12.alloc (.cells #[.int .u64 (M.hiN X : Int), .int .u64 (M.loN X : Int)] 25) = v13 at cw cu cd ca cb b0 m0 szcb ⊢
        have LE0 := b0.size
        have necw := cw.lt
        have necu := cu.lt
        have necd := cd.lt
        have neca := ca.lt
        have necb := cb.lt
        rw [szcb] at LE0 necw necu necd neca necb
        have cf := Cls.new v13 #[.int .u64 (M.hiN U : Int), .int .u64 (M.loN U : Int)] 25
        have hb := (Below.refl _ v13).alloc (Nat.le_refl _) (.cells #[.int .u64 (M.hiN U : Int), .int .u64 (M.loN U : Int)] 25)
        replace cw := cw.below hb
        replace cu := cu.below hb
        replace cd := cd.below hb
        replace ca := ca.below hb
        replace cb := cb.below hb
        replace b0 := b0.trans (hb.mono b0.size)
        replace m0 := m0.below hb
        clear hb
        have szcf : (v13.alloc (.cells #[.int .u64 (M.hiN U : Int), .int .u64 (M.loN U : Int)] 25)).heap.size = v13.heap.size + 1 := by simp
        rw [szcb] at cf szcf
        obtain ⟨gcf, hgcf⟩ : ∃ g, g = gcb + 1 := ⟨_, rfl⟩
        rw [← hgcf] at cf szcf LE0 necw necu necd neca necb ⊢
        clear hgcf szcb
        generalize v13.alloc (.cells #[.int .u64 (M.hiN U : Int), .int .u64 (M.loN U : Int)] 25) = v14 at cw cu cd ca cb cf b0 m0 szcf ⊢
        clear szcf
        have kT := fun (v : World) => sunpack_any q hq X hX v
        rw [← HT.out] at kT
        simp only [pv] at kT
        refine (kT _).mono ?_
        rintro e v15 ⟨rfl, hb⟩
        replace b0 := b0.trans (hb.mono b0.size)
        replace m0 := m0.below hb
        replace cw := cw.below hb
        replace cu := cu.below hb
        replace cd := cd.below hb
        replace ca := ca.below hb
        replace cb := cb.below hb
        replace cf := cf.below hb
        clear hb
        cases hn : T.n
        · skip
          rw [hn] at hfar
          simp only [Bool.false_eq_true, if_false] at hfar
          have cw0 := cw.cell 0 (x := .int .u64 (M.hiN X : Int)) rfl
          have cw1 := cw.cell 1 (x := .int .u64 (M.loN X : Int)) rfl
          have cu0 := cu.cell 0 (x := .int .u64 (M.hiN U : Int)) rfl
          have cu1 := cu.cell 1 (x := .int .u64 (M.loN U : Int)) rfl
          have cd0 := cd.cell 0 (x := .int .u64 (M.hiN Z : Int)) rfl
          have cd1 := cd.cell 1 (x := .int .u64 (M.loN Z : Int)) rfl
          have ca0 := ca.cell 0 (x := .int .u64 (M.hiN X : Int)) rfl
          have ca1 := ca.cell 1 (x := .int .u64 (M.loN X : Int)) rfl
          have cb0 := cb.cell 0 (x := .int .u64 (M.hiN X : Int)) rfl
          have cb1 := cb.cell 1 (x := .int .u64 (M.loN X : Int)) rfl
          have cf0 := cf.cell 0 (x := .int .u64 (M.hiN U : Int)) rfl
          have cf1 := cf.cell 1 (x := .int .u64 (M.loN U : Int)) rfl
          go_wp2_with fail
          clear cw0
          clear cw1
          clear cu0
          clear cu1
          clear cd0
          clear cd1
          clear ca0
          clear ca1
          clear cb0
          clear cb1
          clear cf0
          clear cf1
          have kX := fun (v : World) (hv : Fmt v) => ibounds_any q hq X hX v hv T HT.out hc
          refine (kX _ m0).mono ?_
          rintro e v16 ⟨xa, xca, xb, xcb, xc, xcc, i1, i2, rfl, j1, j2, j3, oA, oB, oC, hb⟩
          replace b0 := b0.trans (hb.mono b0.size)
          replace m0 := m0.below hb
          replace cw := cw.below hb
          replace cu := cu.below hb
          replace cd := cd.below hb
          replace ca := ca.below hb
          replace cb := cb.below hb
          replace cf := cf.below hb
          clear hb
          obtain ⟨A, hA⟩ : ∃ A, A = bA (M.fm q) T := ⟨_, rfl⟩
          obtain ⟨B, hB⟩ : ∃ B, B = bB T := ⟨_, rfl⟩
          obtain ⟨C, hC⟩ : ∃ C, C = bC T := ⟨_, rfl⟩
          obtain ⟨cl, hcl⟩ : ∃ cl : Bool, cl = decide (T.s % 2 = 0) := ⟨_, rfl⟩
          rw [← hA] at oA ⊢
          rw [← hB] at oB ⊢
          rw [← hC] at oC ⊢
          rw [← hcl]
          have HA := hid hA; have HB := hid hB; have HC := hid hC; have HCL := hid hcl
          clear hA hB hC hcl kX
          have rA := oA.rd; have rB := oB.rd; have rC := oC.rd
          clear oA oB oC j1 j2 j3
          have cw0 := cw.cell 0 (x := .int .u64 (M.hiN X : Int)) rfl
          have cw1 := cw.cell 1 (x := .int .u64 (M.loN X : Int)) rfl
          have cu0 := cu.cell 0 (x := .int .u64 (M.hiN U : Int)) rfl
          have cu1 := cu.cell 1 (x := .int .u64 (M.loN U : Int)) rfl
          have cd0 := cd.cell 0 (x := .int .u64 (M.hiN Z : Int)) rfl
          have cd1 := cd.cell 1 (x := .int .u64 (M.loN Z : Int)) rfl
          have ca0 := ca.cell 0 (x := .int .u64 (M.hiN X : Int)) rfl
          have ca1 := ca.cell 1 (x := .int .u64 (M.loN X : Int)) rfl
          have cb0 := cb.cell 0 (x := .int .u64 (M.hiN X : Int)) rfl
          have cb1 := cb.cell 1 (x := .int .u64 (M.loN X : Int)) rfl
          have cf0 := cf.cell 0 (x := .int .u64 (M.hiN U : Int)) rfl
          have cf1 := cf.cell 1 (x := .int .u64 (M.loN U : Int)) rfl
          have AB := (Below.refl _ v16).alloc (Nat.le_refl _) (.cells #[.slice xa (L A).length xca, .slice xb (L B).length xcb, .slice xc (L C).length xcc, .bool cl, .bool true] 33)
          have cwx0 := (cw.below AB).cell 0 (x := .int .u64 (M.hiN X : Int)) rfl
          have cwx1 := (cw.below AB).cell 1 (x := .int .u64 (M.loN X : Int)) rfl
          have cux0 := (cu.below AB).cell 0 (x := .int .u64 (M.hiN U : Int)) rfl
          have cux1 := (cu.below AB).cell 1 (x := .int .u64 (M.loN U : Int)) rfl
          have cdx0 := (cd.below AB).cell 0 (x := .int .u64 (M.hiN Z : Int)) rfl
          have cdx1 := (cd.below AB).cell 1 (x := .int .u64 (M.loN Z : Int)) rfl
          have cax0 := (ca.below AB).cell 0 (x := .int .u64 (M.hiN X : Int)) rfl
          have cax1 := (ca.below AB).cell 1 (x := .int .u64 (M.loN X : Int)) rfl
          have cbx0 := (cb.below AB).cell 0 (x := .int .u64 (M.hiN X : Int)) rfl
          have cbx1 := (cb.below AB).cell 1 (x := .int .u64 (M.loN X : Int)) rfl
          have cfx0 := (cf.below AB).cell 0 (x := .int .u64 (M.hiN U : Int)) rfl
          have cfx1 := (cf.below AB).cell 1 (x := .int .u64 (M.loN U : Int)) rfl
          go_wp2_with fail
          clear AB
          clear cw0
          clear cw1
          clear cu0
          clear cu1
          clear cd0
          clear cd1
          clear ca0
          clear ca1
          clear cb0
          clear cb1
          clear cf0
          clear cf1
          clear cwx0
          clear cwx1
          clear cux0
          clear cux1
          clear cdx0
          clear cdx1
          clear cax0
          clear cax1
          clear cbx0
          clear cbx1
          clear cfx0
          clear cfx1
          have cx := Cls.new v16 #[.slice xa (L A).length xca, .slice xb (L B).length xcb, .slice xc (L C).length xcc, .bool cl, .bool true] 33
          have hb := (Below.refl _ v16).alloc (Nat.le_refl _) (.cells #[.slice xa (L A).length xca, .slice xb (L B).length xcb, .slice xc (L C).length xcc, .bool cl, .bool true] 33)
          replace cw := cw.below hb
          replace cu := cu.below hb
          replace cd := cd.below hb
          replace ca := ca.below hb
          replace cb := cb.below hb
          replace cf := cf.below hb
          replace rA := rA.below hb
          replace rB := rB.below hb
          replace rC := rC.below hb
          replace b0 := b0.trans (hb.mono b0.size)
          replace m0 := m0.below hb
          clear hb
          have szcx : (v16.alloc (.cells #[.slice xa (L A).length xca, .slice xb (L B).length xcb, .slice xc (L C).length xcc, .bool cl, .bool true] 33)).heap.size = v16.heap.size + 1 := by simp
          obtain ⟨gcx, hgcx⟩ : ∃ g, g = v16.heap.size := ⟨_, rfl⟩
          rw [← hgcx] at cx szcx ⊢
          clear hgcx
          generalize v16.alloc (.cells #[.slice xa (L A).length xca, .slice xb (L B).length xcb, .slice xc (L C).length xcc, .bool cl, .bool true] 33) = v17 at cw cu cd ca cb cf rA rB rC cx b0 m0 szcx ⊢
          clear szcx
          have hgr := hF.grow_eq T hpT hc
          rw [hn] at hgr
          rw [← hgr.1] at hfar
          obtain ⟨R, hR⟩ : ∃ R, R = (M.fm q).grow T := ⟨_, rfl⟩
          have hcl4 := hF.pat_class false ((M.fm q).rank T + 1) (by have := hgr.2; omega)
          rw [← hgr.1, ← hR] at hcl4
          rw [← hR] at hfar
          have kR := fun (v : World) => sunpack_any q hq U hU1 v
          rw [hfar] at kR
          simp only [pv] at kR
          have HR := hid hR
          clear hR hgr
          by_cases h4 : R.c = 4
          · skip
            have kE := fun (v : World) (hv : Fmt v) => describe_ok q hq v hv
            have kV := fun (v : World) (hv : Fmt v) => iunpack_any q hq U hU1 v hv
            rw [hfar] at kV
            simp only [dv] at kE
            simp only [pv] at kV
            refine (ibnd_out (q : Int) U R _ _ _ _ _ _ _ m0 kE kV (by omega) (by omega)).mono ?_
            rintro e v18 ⟨rfl, hb⟩
            replace b0 := b0.trans (hb.mono b0.size)
            replace m0 := m0.below hb
            replace cw := cw.below hb
            replace cu := cu.below hb
            replace cd := cd.below hb
            replace ca := ca.below hb
            replace cb := cb.below hb
            replace cf := cf.below hb
            replace cx := cx.below hb
            replace rA := rA.below hb
            replace rB := rB.below hb
            replace rC := rC.below hb
            clear hb
            have cw0 := cw.cell 0 (x := .int .u64 (M.hiN X : Int)) rfl
            have cw1 := cw.cell 1 (x := .int .u64 (M.loN X : Int)) rfl
            have cu0 := cu.cell 0 (x := .int .u64 (M.hiN U : Int)) rfl
            have cu1 := cu.cell 1 (x := .int .u64 (M.loN U : Int)) rfl
            have cd0 := cd.cell 0 (x := .int .u64 (M.hiN Z : Int)) rfl
            have cd1 := cd.cell 1 (x := .int .u64 (M.loN Z : Int)) rfl
            have ca0 := ca.cell 0 (x := .int .u64 (M.hiN X : Int)) rfl
            have ca1 := ca.cell 1 (x := .int .u64 (M.loN X : Int)) rfl
            have cb0 := cb.cell 0 (x := .int .u64 (M.hiN X : Int)) rfl
            have cb1 := cb.cell 1 (x := .int .u64 (M.loN X : Int)) rfl
            have cf0 := cf.cell 0 (x := .int .u64 (M.hiN U : Int)) rfl
            have cf1 := cf.cell 1 (x := .int .u64 (M.loN U : Int)) rfl
            have cx0 := cx.cell 0 (x := .slice xa (L A).length xca) rfl
            have cx1 := cx.cell 1 (x := .slice xb (L B).length xcb) rfl
            have cx2 := cx.cell 2 (x := .slice xc (L C).length xcc) rfl
            have cx3 := cx.cell 3 (x := .bool cl) rfl
            have cx4 := cx.cell 4 (x := .bool true) rfl
            have AB := (Below.refl _ v18).alloc (Nat.le_refl _) (.cells #[.slice none 0 0, .slice none 0 0, .slice none 0 0, .bool false, .bool false] 33)
            have cwx0 := (cw.below AB).cell 0 (x := .int .u64 (M.hiN X : Int)) rfl
            have cwx1 := (cw.below AB).cell 1 (x := .int .u64 (M.loN X : Int)) rfl
            have cux0 := (cu.below AB).cell 0 (x := .int .u64 (M.hiN U : Int)) rfl
            have cux1 := (cu.below AB).cell 1 (x := .int .u64 (M.loN U : Int)) rfl
            have cdx0 := (cd.below AB).cell 0 (x := .int .u64 (M.hiN Z : Int)) rfl
            have cdx1 := (cd.below AB).cell 1 (x := .int .u64 (M.loN Z : Int)) rfl
            have cax0 := (ca.below AB).cell 0 (x := .int .u64 (M.hiN X : Int)) rfl
            have cax1 := (ca.below AB).cell 1 (x := .int .u64 (M.loN X : Int)) rfl
            have cbx0 := (cb.below AB).cell 0 (x := .int .u64 (M.hiN X : Int)) rfl
            have cbx1 := (cb.below AB).cell 1 (x := .int .u64 (M.loN X : Int)) rfl
            have cfx0 := (cf.below AB).cell 0 (x := .int .u64 (M.hiN U : Int)) rfl
            have cfx1 := (cf.below AB).cell 1 (x := .int .u64 (M.loN U : Int)) rfl
            have cxx0 := (cx.below AB).cell 0 (x := .slice xa (L A).length xca) rfl
            have cxx1 := (cx.below AB).cell 1 (x := .slice xb (L B).length xcb) rfl
            have cxx2 := (cx.below AB).cell 2 (x := .slice xc (L C).length xcc) rfl
            have cxx3 := (cx.below AB).cell 3 (x := .bool cl) rfl
            have cxx4 := (cx.below AB).cell 4 (x := .bool true) rfl
            go_wp2_with fail
            clear AB
            clear cw0
            clear cw1
            clear cu0
            clear cu1
            clear cd0
            clear cd1
            clear ca0
            clear ca1
            clear cb0
            clear cb1
            clear cf0
            clear cf1
            clear cx0
            clear cx1
            clear cx2
            clear cx3
            clear cx4
            clear cwx0
            clear cwx1
            clear cux0
            clear cux1
            clear cdx0
            clear cdx1
            clear cax0
            clear cax1
            clear cbx0
            clear cbx1
            clear cfx0
            clear cfx1
            clear cxx0
            clear cxx1
            clear cxx2
            clear cxx3
            clear cxx4
            have cy := Cls.new v18 #[.slice none 0 0, .slice none 0 0, .slice none 0 0, .bool false, .bool false] 33
            have hb := (Below.refl _ v18).alloc (Nat.le_refl _) (.cells #[.slice none 0 0, .slice none 0 0, .slice none 0 0, .bool false, .bool false] 33)
            replace cw := cw.below hb
            replace cu := cu.below hb
            replace cd := cd.below hb
            replace ca := ca.below hb
            replace cb := cb.below hb
            replace cf := cf.below hb
            replace cx := cx.below hb
            replace rA := rA.below hb
            replace rB := rB.below hb
            replace rC := rC.below hb
            replace b0 := b0.trans (hb.mono b0.size)
            replace m0 := m0.below hb
            clear hb
            have szcy : (v18.alloc (.cells #[.slice none 0 0, .slice none 0 0, .slice none 0 0, .bool false, .bool false] 33)).heap.size = v18.heap.size + 1 := by simp
            obtain ⟨gcy, hgcy⟩ : ∃ g, g = v18.heap.size := ⟨_, rfl⟩
            rw [← hgcy] at cy szcy ⊢
            clear hgcy
            generalize v18.alloc (.cells #[.slice none 0 0, .slice none 0 0, .slice none 0 0, .bool false, .bool false] 33) = v19 at cw cu cd ca cb cf cx rA rB rC cy b0 m0 szcy ⊢
            clear szcy
            refine (kR _).mono ?_
            rintro e v20 ⟨rfl, hb⟩
            replace b0 := b0.trans (hb.mono b0.size)
            replace m0 := m0.below hb
            replace cw := cw.below hb
            replace cu := cu.below hb
            replace cd := cd.below hb
            replace ca := ca.below hb
            replace cb := cb.below hb
            replace cf := cf.below hb
            replace cx := cx.below hb
            replace cy := cy.below hb
            replace rA := rA.below hb
            replace rB := rB.below hb
            replace rC := rC.below hb
            clear hb
            have cw0 := cw.cell 0 (x := .int .u64 (M.hiN X : Int)) rfl
            have cw1 := cw.cell 1 (x := .int .u64 (M.loN X : Int)) rfl
            have cu0 := cu.cell 0 (x := .int .u64 (M.hiN U : Int)) rfl
            have cu1 := cu.cell 1 (x := .int .u64 (M.loN U : Int)) rfl
            have cd0 := cd.cell 0 (x := .int .u64 (M.hiN Z : Int)) rfl
            have cd1 := cd.cell 1 (x := .int .u64 (M.loN Z : Int)) rfl
            have ca0 := ca.cell 0 (x := .int .u64 (M.hiN X : Int)) rfl
            have ca1 := ca.cell 1 (x := .int .u64 (M.loN X : Int)) rfl
            have cb0 := cb.cell 0 (x := .int .u64 (M.hiN X : Int)) rfl
            have cb1 := cb.cell 1 (x := .int .u64 (M.loN X : Int)) rfl
            have cf0 := cf.cell 0 (x := .int .u64 (M.hiN U : Int)) rfl
            have cf1 := cf.cell 1 (x := .int .u64 (M.loN U : Int)) rfl
            have cx0 := cx.cell 0 (x := .slice xa (L A).length xca) rfl
            have cx1 := cx.cell 1 (x := .slice xb (L B).length xcb) rfl
            have cx2 := cx.cell 2 (x := .slice xc (L C).length xcc) rfl
            have cx3 := cx.cell 3 (x := .bool cl) rfl
            have cx4 := cx.cell 4 (x := .bool true) rfl
            have cy0 := cy.cell 0 (x := .slice none 0 0) rfl
            have cy1 := cy.cell 1 (x := .slice none 0 0) rfl
            have cy2 := cy.cell 2 (x := .slice none 0 0) rfl
            have cy3 := cy.cell 3 (x := .bool false) rfl
            have cy4 := cy.cell 4 (x := .bool false) rfl
            have h4b : (R.c == 4) = true := by simp [h4]
            go_wp2_with fail
            go_ret
            exact ⟨rfl, b0⟩
          · skip
            have hc2 : R.c = 2 ∨ R.c = 3 := by omega
            refine (ibounds_any q hq U hU1 _ m0 R hfar.symm hc2).mono ?_
            rintro e v18 ⟨ya, yca, yb, ycb, yc, ycc, i3, i4, rfl, j1, j2, j3, pA, pB, pC, hb⟩
            replace b0 := b0.trans (hb.mono b0.size)
            replace m0 := m0.below hb
            replace cw := cw.below hb
            replace cu := cu.below hb
            replace cd := cd.below hb
            replace ca := ca.below hb
            replace cb := cb.below hb
            replace cf := cf.below hb
            replace cx := cx.below hb
            replace rA := rA.below hb
            replace rB := rB.below hb
            replace rC := rC.below hb
            clear hb
            obtain ⟨A2, hA2⟩ : ∃ A, A = bA (M.fm q) R := ⟨_, rfl⟩
            obtain ⟨B2, hB2⟩ : ∃ B, B = bB R := ⟨_, rfl⟩
            obtain ⟨C2, hC2⟩ : ∃ C, C = bC R := ⟨_, rfl⟩
            obtain ⟨cl2, hcl2⟩ : ∃ cl : Bool, cl = decide (R.s % 2 = 0) := ⟨_, rfl⟩
            rw [← hA2] at pA ⊢
            rw [← hB2] at pB ⊢
            rw [← hC2] at pC ⊢
            rw [← hcl2]
            have HA2 := hid hA2; have HB2 := hid hB2; have HC2 := hid hC2; have HCL2 := hid hcl2
            clear hA2 hB2 hC2 hcl2
            have sA := pA.rd; have sB := pB.rd; have sC := pC.rd
            clear pA pB pC j1 j2 j3
            have cw0 := cw.cell 0 (x := .int .u64 (M.hiN X : Int)) rfl
            have cw1 := cw.cell 1 (x := .int .u64 (M.loN X : Int)) rfl
            have cu0 := cu.cell 0 (x := .int .u64 (M.hiN U : Int)) rfl
            have cu1 := cu.cell 1 (x := .int .u64 (M.loN U : Int)) rfl
            have cd0 := cd.cell 0 (x := .int .u64 (M.hiN Z : Int)) rfl
            have cd1 := cd.cell 1 (x := .int .u64 (M.loN Z : Int)) rfl
            have ca0 := ca.cell 0 (x := .int .u64 (M.hiN X : Int)) rfl
            have ca1 := ca.cell 1 (x := .int .u64 (M.loN X : Int)) rfl
            have cb0 := cb.cell 0 (x := .int .u64 (M.hiN X : Int)) rfl
            have cb1 := cb.cell 1 (x := .int .u64 (M.loN X : Int)) rfl
            have cf0 := cf.cell 0 (x := .int .u64 (M.hiN U : Int)) rfl
            have cf1 := cf.cell 1 (x := .int .u64 (M.loN U : Int)) rfl
            have cx0 := cx.cell 0 (x := .slice xa (L A).length xca) rfl
            have cx1 := cx.cell 1 (x := .slice xb (L B).length xcb) rfl
            have cx2 := cx.cell 2 (x := .slice xc (L C).length xcc) rfl
            have cx3 := cx.cell 3 (x := .bool cl) rfl
            have cx4 := cx.cell 4 (x := .bool true) rfl
            have AB := (Below.refl _ v18).alloc (Nat.le_refl _) (.cells #[.slice ya (L A2).length yca, .slice yb (L B2).length ycb, .slice yc (L C2).length ycc, .bool cl2, .bool true] 33)
            have cwx0 := (cw.below AB).cell 0 (x := .int .u64 (M.hiN X : Int)) rfl
            have cwx1 := (cw.below AB).cell 1 (x := .int .u64 (M.loN X : Int)) rfl
            have cux0 := (cu.below AB).cell 0 (x := .int .u64 (M.hiN U : Int)) rfl
            have cux1 := (cu.below AB).cell 1 (x := .int .u64 (M.loN U : Int)) rfl
            have cdx0 := (cd.below AB).cell 0 (x := .int .u64 (M.hiN Z : Int)) rfl
            have cdx1 := (cd.below AB).cell 1 (x := .int .u64 (M.loN Z : Int)) rfl
            have cax0 := (ca.below AB).cell 0 (x := .int .u64 (M.hiN X : Int)) rfl
            have cax1 := (ca.below AB).cell 1 (x := .int .u64 (M.loN X : Int)) rfl
            have cbx0 := (cb.below AB).cell 0 (x := .int .u64 (M.hiN X : Int)) rfl
            have cbx1 := (cb.below AB).cell 1 (x := .int .u64 (M.loN X : Int)) rfl
            have cfx0 := (cf.below AB).cell 0 (x := .int .u64 (M.hiN U : Int)) rfl
            have cfx1 := (cf.below AB).cell 1 (x := .int .u64 (M.loN U : Int)) rfl
            have cxx0 := (cx.below AB).cell 0 (x := .slice xa (L A).length xca) rfl
            have cxx1 := (cx.below AB).cell 1 (x := .slice xb (L B).length xcb) rfl
            have cxx2 := (cx.below AB).cell 2 (x := .slice xc (L C).length xcc) rfl
            have cxx3 := (cx.below AB).cell 3 (x := .bool cl) rfl
            have cxx4 := (cx.below AB).cell 4 (x := .bool true) rfl
            go_wp2_with fail
            clear AB
            clear cw0
            clear cw1
            clear cu0
            clear cu1
            clear cd0
            clear cd1
            clear ca0
            clear ca1
            clear cb0
            clear cb1
            clear cf0
            clear cf1
            clear cx0
            clear cx1
            clear cx2
            clear cx3
            clear cx4
            clear cwx0
            clear cwx1
            clear cux0
            clear cux1
            clear cdx0
            clear cdx1
            clear cax0
            clear cax1
            clear cbx0
            clear cbx1
            clear cfx0
            clear cfx1
            clear cxx0
            clear cxx1
            clear cxx2
            clear cxx3
            clear cxx4
            have cy := Cls.new v18 #[.slice ya (L A2).length yca, .slice yb (L B2).length ycb, .slice yc (L C2).length ycc, .bool cl2, .bool true] 33
            have hb := (Below.refl _ v18).alloc (Nat.le_refl _) (.cells #[.slice ya (L A2).length yca, .slice yb (L B2).length ycb, .slice yc (L C2).length ycc, .bool cl2, .bool true] 33)
            replace cw := cw.below hb
            replace cu := cu.below hb
            replace cd := cd.below hb
            replace ca := ca.below hb
            replace cb := cb.below hb
            replace cf := cf.below hb
            replace cx := cx.below hb
            replace rA := rA.below hb
            replace rB := rB.below hb
            replace rC := rC.below hb
            replace sA := sA.below hb
            replace sB := sB.below hb
            replace sC := sC.below hb
            replace b0 := b0.trans (hb.mono b0.size)
            replace m0 := m0.below hb
            clear hb
            have szcy : (v18.alloc (.cells #[.slice ya (L A2).length yca, .slice yb (L B2).length ycb, .slice yc (L C2).length ycc, .bool cl2, .bool true] 33)).heap.size = v18.heap.size + 1 := by simp
            obtain ⟨gcy, hgcy⟩ : ∃ g, g = v18.heap.size := ⟨_, rfl⟩
            rw [← hgcy] at cy szcy ⊢
            clear hgcy
            generalize v18.alloc (.cells #[.slice ya (L A2).length yca, .slice yb (L B2).length ycb, .slice yc (L C2).length ycc, .bool cl2, .bool true] 33) = v19 at cw cu cd ca cb cf cx rA rB rC sA sB sC cy b0 m0 szcy ⊢
            clear szcy
            refine (kR _).mono ?_
            rintro e v20 ⟨rfl, hb⟩
            replace b0 := b0.trans (hb.mono b0.size)
            replace m0 := m0.below hb
            replace cw := cw.below hb
            replace cu := cu.below hb
            replace cd := cd.below hb
            replace ca := ca.below hb
            replace cb := cb.below hb
            replace cf := cf.below hb
            replace cx := cx.below hb
            replace cy := cy.below hb
            replace rA := rA.below hb
            replace rB := rB.below hb
            replace rC := rC.below hb
            replace sA := sA.below hb
            replace sB := sB.below hb
            replace sC := sC.below hb
            clear hb
            have cw0 := cw.cell 0 (x := .int .u64 (M.hiN X : Int)) rfl
            have cw1 := cw.cell 1 (x := .int .u64 (M.loN X : Int)) rfl
            have cu0 := cu.cell 0 (x := .int .u64 (M.hiN U : Int)) rfl
            have cu1 := cu.cell 1 (x := .int .u64 (M.loN U : Int)) rfl
            have cd0 := cd.cell 0 (x := .int .u64 (M.hiN Z : Int)) rfl
            have cd1 := cd.cell 1 (x := .int .u64 (M.loN Z : Int)) rfl
            have ca0 := ca.cell 0 (x := .int .u64 (M.hiN X : Int)) rfl
            have ca1 := ca.cell 1 (x := .int .u64 (M.loN X : Int)) rfl
            have cb0 := cb.cell 0 (x := .int .u64 (M.hiN X : Int)) rfl
            have cb1 := cb.cell 1 (x := .int .u64 (M.loN X : Int)) rfl
            have cf0 := cf.cell 0 (x := .int .u64 (M.hiN U : Int)) rfl
            have cf1 := cf.cell 1 (x := .int .u64 (M.loN U : Int)) rfl
            have cx0 := cx.cell 0 (x := .slice xa (L A).length xca) rfl
            have cx1 := cx.cell 1 (x := .slice xb (L B).length xcb) rfl
            have cx2 := cx.cell 2 (x := .slice xc (L C).length xcc) rfl
            have cx3 := cx.cell 3 (x := .bool cl) rfl
            have cx4 := cx.cell 4 (x := .bool true) rfl
            have cy0 := cy.cell 0 (x := .slice ya (L A2).length yca) rfl
            have cy1 := cy.cell 1 (x := .slice yb (L B2).length ycb) rfl
            have cy2 := cy.cell 2 (x := .slice yc (L C2).length ycc) rfl
            have cy3 := cy.cell 3 (x := .bool cl2) rfl
            have cy4 := cy.cell 4 (x := .bool true) rfl
            have h4b : (R.c == 4) = false := by simp; omega
            go_wp2_with fail
            clear cw0
            clear cw1
            clear cu0
            clear cu1
            clear cd0
            clear cd1
            clear ca0
            clear ca1
            clear cb0
            clear cb1
            clear cf0
            clear cf1
            clear cx0
            clear cx1
            clear cx2
            clear cx3
            clear cx4
            clear cy0
            clear cy1
            clear cy2
            clear cy3
            clear cy4
            obtain ⟨E, hE1, hE2⟩ : ∃ E : Nat, 17128 ≤ E ∧ E ≤ 19000 := ⟨17128, by omega, by omega⟩
            have hfT := bnd_len (fin_of hF hpT hc) E hE1
            have hpR : (M.fm q).Proper R := by rw [← hfar]; exact properU hF U (by rw [hfar]; exact hc2)
            have hfR := bnd_len (fin_of hF hpR hc2) E hE1
            have hsp := span_next hF T hpT hc (by rw [← HR.out]; exact hc2)
            rw [← HR.out, ← HB.out, ← HC.out, ← HA2.out, ← HC2.out, ← HCL.out, ← HCL2.out] at hsp
            rw [← HA.out, ← HB.out, ← HC.out] at hfT
            rw [← HA2.out, ← HB2.out, ← HC2.out] at hfR
            have hpl := prod_len B C2 E hfT.2.2.2.2.1 hfR.2.2.2.2.2 hE2
            have kM1 : ∀ u, Below v20.heap.size v20 u → Calls Tryd.prog 25 #[.slice xb (L B).length xcb, .slice yc (L C2).length ycc] u fun e w2 => Ret u w2 e (L (B * C2)) := fun u hu => by
              have := specNatMul_any xb yc (L B).length (L C2).length xcb ycc (L B) (L C2) u rfl rfl (by omega) (by omega) (F64_L _) (F64_L _) (rB.below hu) (sC.below hu)
              rwa [mul_L _ _ (by omega) (by omega)] at this
            have kM2 : ∀ u, Below v20.heap.size v20 u → Calls Tryd.prog 25 #[.slice ya (L A2).length yca, .slice xc (L C).length xcc] u fun e w2 => Ret u w2 e (L (B * C2)) := fun u hu => by
              have := specNatMul_any ya xc (L A2).length (L C).length yca xcc (L A2) (L C) u rfl rfl (by omega) (by omega) (F64_L _) (F64_L _) (sA.below hu) (rC.below hu)
              rwa [mul_L _ _ (by omega) (by omega), ← hsp.1] at this
            obtain ⟨PP, hPP⟩ : ∃ PP, PP = L (B * C2) := ⟨_, rfl⟩
            have kC : ∀ u (pa pb : Option Addr) (pc pd : Nat), Rd u pa PP → Rd u pb PP → Calls Tryd.prog 24 #[.slice pa PP.length pc, .slice pb PP.length pd] u fun e w2 => e = .returned (.int .i64 0) ∧ Below u.heap.size u w2 := fun u pa pb pc pd ha hb => by
              have := specNatCmp_any pa pb PP.length PP.length pc pd PP PP u rfl rfl (by rw [hPP]; omega) (by rw [hPP]; omega) (by rw [hPP]; exact F64_L _) (by rw [hPP]; exact F64_L _) ha hb
              rwa [hPP, cmp_L _ (by omega), ← hPP] at this
            rw [← hPP] at kM1 kM2
            have HPP := hid hPP
            clear hPP hfT hfR hpl
            have hne := hsp.2
            clear hsp
            have KB : ∀ u, Below v20.heap.size v20 u → (fun u => u.cell? ⟨gcx, 1, none⟩ = some (.slice xb (L B).length xcb) ∧ u.cell? ⟨gcx, 2, none⟩ = some (.slice xc (L C).length xcc) ∧ u.cell? ⟨gcx, 3, none⟩ = some (.bool cl) ∧ u.cell? ⟨gcy, 0, none⟩ = some (.slice ya (L A2).length yca) ∧ u.cell? ⟨gcy, 2, none⟩ = some (.slice yc (L C2).length ycc) ∧ u.cell? ⟨gcy, 3, none⟩ = some (.bool cl2) ∧ u.cell? ⟨gcy, 4, none⟩ = some (.bool true)) u := fun u hu => ⟨(cx.below hu).cell 1 rfl, (cx.below hu).cell 2 rfl, (cx.below hu).cell 3 rfl, (cy.below hu).cell 0 rfl, (cy.below hu).cell 2 rfl, (cy.below hu).cell 3 rfl, (cy.below hu).cell 4 rfl⟩
            try clear kUp
            try clear kDn
            try clear kO1
            try clear kO2
            try clear kA
            try clear kB
            try clear kT
            try clear kR
            try clear kD
            try clear fc
            try clear fn
            try clear cw
            try clear cu
            try clear cd
            try clear ca
            try clear cb
            try clear cf
            try clear m0
            try clear hfar
            try clear hcl4
            try clear h4b
            try clear h4
            try clear hc2
            try clear hpR
            try clear hpT
            try clear hc
            try clear hcc
            try clear hcb
            try clear hF
            try clear nh
            try clear nl
            try clear LE0
            try clear necw
            try clear necu
            try clear necd
            try clear neca
            try clear necb
            try clear HT
            try clear HU
            try clear HZ
            try clear HA
            try clear HB
            try clear HC
            try clear HCL
            try clear HA2
            try clear HB2
            try clear HC2
            try clear HCL2
            try clear HR
            try clear HPP
            try clear hE1
            try clear hE2
            try clear rA
            try clear rB
            try clear rC
            try clear sA
            try clear sB
            try clear sC
            try clear hU1
            try clear hZ1
            try clear hX
            try clear hn
            try clear cx
            try clear cy
            have A0 : Below v20.heap.size v20 v20.drew := (Below.refl _ _).drew
            refine wp_region_held_drew (S := fun u => u.cell? ⟨gcx, 1, none⟩ = some (.slice xb (L B).length xcb) ∧ u.cell? ⟨gcx, 2, none⟩ = some (.slice xc (L C).length xcc) ∧ u.cell? ⟨gcx, 3, none⟩ = some (.bool cl) ∧ u.cell? ⟨gcy, 0, none⟩ = some (.slice ya (L A2).length yca) ∧ u.cell? ⟨gcy, 2, none⟩ = some (.slice yc (L C2).length ycc) ∧ u.cell? ⟨gcy, 3, none⟩ = some (.bool cl2) ∧ u.cell? ⟨gcy, 4, none⟩ = some (.bool true)) (by kernel_rfl) (KB _ A0) (fun hS => ?_)
            refine wpAnyH_take (i := 0) (v := ?_) rfl (by kernel_rfl) (by kernel_rfl) (by kernel_rfl) (fun _ _ _ h => h) (Or.inl ⟨by kernel_rfl, ?_⟩) hS ?_
            rotate_left
            · (intro u hSu; obtain ⟨s1, s2, s3, s4, s5, s6, s7⟩ := hSu; first | (go_simp; done) | (go_simp; with_reducible rfl) | with_reducible rfl)
            refine wpAnyH_take (i := 1) (v := ?_) rfl (by kernel_rfl) (by kernel_rfl) (by kernel_rfl) (fun _ _ _ h => h) (Or.inl ⟨by kernel_rfl, ?_⟩) hS ?_
            rotate_left
            · (intro u hSu; obtain ⟨s1, s2, s3, s4, s5, s6, s7⟩ := hSu; first | (go_simp; done) | (go_simp; with_reducible rfl) | with_reducible rfl)
            refine wpAnyH_take (i := 2) (v := ?_) rfl (by kernel_rfl) (by kernel_rfl) (by kernel_rfl) (fun _ _ _ h => h) (Or.inl ⟨by kernel_rfl, ?_⟩) hS ?_
            rotate_left
            · (intro u hSu; obtain ⟨s1, s2, s3, s4, s5, s6, s7⟩ := hSu; first | (go_simp; done) | (go_simp; with_reducible rfl) | with_reducible rfl)
            refine wpAnyH_take (i := 3) (v := ?_) rfl (by kernel_rfl) (by kernel_rfl) (by kernel_rfl) (fun _ _ _ h => h) (Or.inl ⟨by kernel_rfl, ?_⟩) hS ?_
            rotate_left
            · (intro u hSu; obtain ⟨s1, s2, s3, s4, s5, s6, s7⟩ := hSu; first | (go_simp; done) | (go_simp; with_reducible rfl) | with_reducible rfl)
            refine wpAnyH_take (i := 4) (v := ?_) rfl (by kernel_rfl) (by kernel_rfl) (by kernel_rfl) (fun _ _ _ h => h) (Or.inl ⟨by kernel_rfl, ?_⟩) hS ?_
            rotate_left
            · (intro u hSu; obtain ⟨s1, s2, s3, s4, s5, s6, s7⟩ := hSu; first | (go_simp; done) | (go_simp; with_reducible rfl) | with_reducible rfl)
            refine wpAnyH_take (i := 5) (v := ?_) rfl (by kernel_rfl) (by kernel_rfl) (by kernel_rfl) (fun _ _ _ h => h) (Or.inl ⟨by kernel_rfl, ?_⟩) hS ?_
            rotate_left
            · (intro u hSu; obtain ⟨s1, s2, s3, s4, s5, s6, s7⟩ := hSu; first | (go_simp; done) | (go_simp; with_reducible rfl) | with_reducible rfl)
            refine wpAnyH_take (i := 6) (v := ?_) rfl (by kernel_rfl) (by kernel_rfl) (by kernel_rfl) (fun _ _ _ h => h) (Or.inl ⟨by kernel_rfl, ?_⟩) hS ?_
            rotate_left
            · (intro u hSu; obtain ⟨s1, s2, s3, s4, s5, s6, s7⟩ := hSu; first | (go_simp; done) | (go_simp; with_reducible rfl) | with_reducible rfl)
            refine wpAnyH_take (i := 8) (v := ?_) rfl (by kernel_rfl) (by kernel_rfl) (by kernel_rfl) (fun _ _ _ h => h) (Or.inl ⟨by kernel_rfl, ?_⟩) hS ?_
            rotate_left
            · (intro u hSu; obtain ⟨s1, s2, s3, s4, s5, s6, s7⟩ := hSu; first | (go_simp; done) | (go_simp; with_reducible rfl) | with_reducible rfl)
            refine wpAnyH_take (i := 9) (v := ?_) rfl (by kernel_rfl) (by kernel_rfl) (by kernel_rfl) (fun _ _ _ h => h) (Or.inl ⟨by kernel_rfl, ?_⟩) hS ?_
            rotate_left
            · (intro u hSu; obtain ⟨s1, s2, s3, s4, s5, s6, s7⟩ := hSu; first | (go_simp; done) | (go_simp; with_reducible rfl) | with_reducible rfl)
            refine wpAnyH_take (i := 10) (v := ?_) rfl (by kernel_rfl) (by kernel_rfl) (by kernel_rfl) (fun _ _ _ h => h) (Or.inl ⟨by kernel_rfl, ?_⟩) hS ?_
            rotate_left
            · (intro u hSu; obtain ⟨s1, s2, s3, s4, s5, s6, s7⟩ := hSu; first | (go_simp; done) | (go_simp; with_reducible rfl) | with_reducible rfl)
            refine wpAnyH_take (i := 11) (v := ?_) rfl (by kernel_rfl) (by kernel_rfl) (by kernel_rfl) (fun _ _ _ h => h) (Or.inl ⟨by kernel_rfl, ?_⟩) hS ?_
            rotate_left
            · (intro u hSu; obtain ⟨s1, s2, s3, s4, s5, s6, s7⟩ := hSu; first | (go_simp; done) | (go_simp; with_reducible rfl) | with_reducible rfl)
            refine wpAnyH_ready (rs := [7]) (by kernel_rfl) (by simp) ?_
            refine AllReadyH.cons rfl (fun K hK => ?_) AllReadyH.nil
            go_simp
            go_at_call 25
            refine (kM1 _ A0).mono ?_
            rintro e u1 ⟨ma, mc, rfl, mo, hb0⟩
            have A1 := A0.trans (hb0.mono A0.size)
            have r1 := Rd.own mo
            clear A0 hb0 mo
            go_simp
            refine hK.out _ _ (KB _ A1) ?_
            clear hK K hS
            intro hS
            refine wpAnyH_ready (rs := [12]) (by kernel_rfl) (by simp) ?_
            refine AllReadyH.cons rfl (fun K hK => ?_) AllReadyH.nil
            go_simp
            go_at_call 25
            refine (kM2 _ A1).mono ?_
            rintro e u2 ⟨mb, md, rfl, mo, hb0⟩
            have A2x := A1.trans (hb0.mono A1.size)
            have r2 := Rd.own mo
            replace r1 := r1.below hb0
            clear A1 hb0 mo
            go_simp
            refine hK.out _ _ (KB _ A2x) ?_
            clear hK K hS
            intro hS
            refine wpAnyH_ready (rs := [13]) (by kernel_rfl) (by simp) ?_
            refine AllReadyH.cons rfl (fun K hK => ?_) AllReadyH.nil
            go_simp
            go_at_call 24
            refine (kC _ ma mb mc md r1 r2).mono ?_
            rintro e u3 ⟨rfl, hb0⟩
            have A3 := A2x.trans (hb0.mono A2x.size)
            clear A2x hb0 r1 r2
            go_simp
            refine hK.out _ _ (KB _ A3) ?_
            clear hK K hS
            intro hS
            refine wpAnyH_take (i := 14) (v := ?_) rfl (by kernel_rfl) (by kernel_rfl) (by kernel_rfl) (fun _ _ _ h => h) (Or.inl ⟨by kernel_rfl, ?_⟩) hS ?_
            rotate_left
            · (intro u hSu; obtain ⟨s1, s2, s3, s4, s5, s6, s7⟩ := hSu; first | (go_simp; done) | (go_simp; with_reducible rfl) | with_reducible rfl)
            refine wpAnyH_take (i := 15) (v := ?_) rfl (by kernel_rfl) (by kernel_rfl) (by kernel_rfl) (fun _ _ _ h => h) (Or.inl ⟨by kernel_rfl, ?_⟩) hS ?_
            rotate_left
            · (intro u hSu; obtain ⟨s1, s2, s3, s4, s5, s6, s7⟩ := hSu; first | (go_simp; done) | (go_simp; with_reducible rfl) | with_reducible rfl)
            refine wpAnyH_take (i := 16) (v := ?_) rfl (by kernel_rfl) (by kernel_rfl) (by kernel_rfl) (fun _ _ _ h => h) (Or.inl ⟨by kernel_rfl, ?_⟩) hS ?_
            rotate_left
            · (intro u hSu; obtain ⟨s1, s2, s3, s4, s5, s6, s7⟩ := hSu; first | (go_simp; done) | (go_simp; with_reducible rfl) | with_reducible rfl)
            refine wpAnyH_take (i := 17) (v := ?_) rfl (by kernel_rfl) (by kernel_rfl) (by kernel_rfl) (fun _ _ _ h => h) (Or.inl ⟨by kernel_rfl, ?_⟩) hS ?_
            rotate_left
            · (intro u hSu; obtain ⟨s1, s2, s3, s4, s5, s6, s7⟩ := hSu; first | (go_simp; done) | (go_simp; with_reducible rfl) | with_reducible rfl)
            refine wpAnyH_take (i := 18) (v := ?_) rfl (by kernel_rfl) (by kernel_rfl) (by kernel_rfl) (fun _ _ _ h => h) (Or.inl ⟨by kernel_rfl, ?_⟩) hS ?_
            rotate_left
            · (intro u hSu; obtain ⟨s1, s2, s3, s4, s5, s6, s7⟩ := hSu; first | (go_simp; done) | (go_simp; with_reducible rfl) | with_reducible rfl)
            refine wpAnyH_take (i := 19) (v := ?_) rfl (by kernel_rfl) (by kernel_rfl) (by kernel_rfl) (fun _ _ _ h => h) (Or.inl ⟨by kernel_rfl, ?_⟩) hS ?_
            rotate_left
            · (intro u hSu; obtain ⟨s1, s2, s3, s4, s5, s6, s7⟩ := hSu; first | (go_simp; done) | (go_simp; with_reducible rfl) | with_reducible rfl)
            refine wpAnyH_take (i := 20) (v := ?_) rfl (by kernel_rfl) (by kernel_rfl) (by kernel_rfl) (fun _ _ _ h => h) (Or.inl ⟨by kernel_rfl, ?_⟩) hS ?_
            rotate_left
            · (intro u hSu; obtain ⟨s1, s2, s3, s4, s5, s6, s7⟩ := hSu; first | (go_simp; done) | (go_simp; with_reducible rfl) | with_reducible rfl)
            refine wpAnyH_take (i := 21) (v := ?_) rfl (by kernel_rfl) (by kernel_rfl) (by kernel_rfl) (fun _ _ _ h => h) (Or.inl ⟨by kernel_rfl, ?_⟩) hS ?_
            rotate_left
            · (intro u hSu; obtain ⟨s1, s2, s3, s4, s5, s6, s7⟩ := hSu; first | (go_simp; done) | (go_simp; with_reducible rfl) | with_reducible rfl)
            refine wpAnyH_take (i := 22) (v := ?_) rfl (by kernel_rfl) (by kernel_rfl) (by kernel_rfl) (fun _ _ _ h => h) (Or.inl ⟨by kernel_rfl, ?_⟩) hS ?_
            rotate_left
            · (intro u hSu; obtain ⟨s1, s2, s3, s4, s5, s6, s7⟩ := hSu; first | (go_simp; done) | (go_simp; with_reducible rfl) | with_reducible rfl)
            refine wpAnyH_ready (rs := [23]) (by kernel_rfl) (by simp) ?_
            refine AllReadyH.cons rfl (fun K hK => ?_) AllReadyH.nil
            go_simp
            refine hK.out _ _ (KB _ A3) ?_
            clear hK K hS
            intro hS
            refine wpAnyH_done (by kernel_rfl) ?_ _
            all_goals have HB9 := hid (b0.trans (A3.mono b0.size))
            all_goals go_wp2_with fail
            all_goals go_ret
            all_goals refine ⟨?_, HB9.out⟩
            all_goals clear HB9
            all_goals revert hne
            all_goals cases cl <;> cases cl2 <;> first | (intro _; rfl) | (intro h; exact absurd h (by decide))
        · skip
          rw [hn] at hfar
          simp only [if_true] at hfar
          have cw0 := cw.cell 0 (x := .int .u64 (M.hiN X : Int)) rfl
          have cw1 := cw.cell 1 (x := .int .u64 (M.loN X : Int)) rfl
          have cu0 := cu.cell 0 (x := .int .u64 (M.hiN U : Int)) rfl
          have cu1 := cu.cell 1 (x := .int .u64 (M.loN U : Int)) rfl
          have cd0 := cd.cell 0 (x := .int .u64 (M.hiN Z : Int)) rfl
          have cd1 := cd.cell 1 (x := .int .u64 (M.loN Z : Int)) rfl
          have ca0 := ca.cell 0 (x := .int .u64 (M.hiN X : Int)) rfl
          have ca1 := ca.cell 1 (x := .int .u64 (M.loN X : Int)) rfl
          have cb0 := cb.cell 0 (x := .int .u64 (M.hiN X : Int)) rfl
          have cb1 := cb.cell 1 (x := .int .u64 (M.loN X : Int)) rfl
          have cf0 := cf.cell 0 (x := .int .u64 (M.hiN U : Int)) rfl
          have cf1 := cf.cell 1 (x := .int .u64 (M.loN U : Int)) rfl
          have cff0 := cf.frozen 0
          have cff1 := cf.frozen 1
          have cwy := (cw.far ⟨gcf, 0, none⟩ (by simp only; omega) (.int .u64 (M.hiN Z : Int))).far ⟨gcf, 1, none⟩ (by simp only; omega) (.int .u64 (M.loN Z : Int))
          have cwz0 := cwy.cell 0 (x := .int .u64 (M.hiN X : Int)) rfl
          have cwz1 := cwy.cell 1 (x := .int .u64 (M.loN X : Int)) rfl
          have cuy := (cu.far ⟨gcf, 0, none⟩ (by simp only; omega) (.int .u64 (M.hiN Z : Int))).far ⟨gcf, 1, none⟩ (by simp only; omega) (.int .u64 (M.loN Z : Int))
          have cuz0 := cuy.cell 0 (x := .int .u64 (M.hiN U : Int)) rfl
          have cuz1 := cuy.cell 1 (x := .int .u64 (M.loN U : Int)) rfl
          have cdy := (cd.far ⟨gcf, 0, none⟩ (by simp only; omega) (.int .u64 (M.hiN Z : Int))).far ⟨gcf, 1, none⟩ (by simp only; omega) (.int .u64 (M.loN Z : Int))
          have cdz0 := cdy.cell 0 (x := .int .u64 (M.hiN Z : Int)) rfl
          have cdz1 := cdy.cell 1 (x := .int .u64 (M.loN Z : Int)) rfl
          have cay := (ca.far ⟨gcf, 0, none⟩ (by simp only; omega) (.int .u64 (M.hiN Z : Int))).far ⟨gcf, 1, none⟩ (by simp only; omega) (.int .u64 (M.loN Z : Int))
          have caz0 := cay.cell 0 (x := .int .u64 (M.hiN X : Int)) rfl
          have caz1 := cay.cell 1 (x := .int .u64 (M.loN X : Int)) rfl
          have cby := (cb.far ⟨gcf, 0, none⟩ (by simp only; omega) (.int .u64 (M.hiN Z : Int))).far ⟨gcf, 1, none⟩ (by simp only; omega) (.int .u64 (M.loN Z : Int))
          have cbz0 := cby.cell 0 (x := .int .u64 (M.hiN X : Int)) rfl
          have cbz1 := cby.cell 1 (x := .int .u64 (M.loN X : Int)) rfl
          have cfy : Cls ((v15.setCell ⟨gcf, 0, none⟩ (.int .u64 (M.hiN Z : Int))).setCell ⟨gcf, 1, none⟩ (.int .u64 (M.loN Z : Int))) gcf #[.int .u64 (M.hiN Z : Int), .int .u64 (M.loN Z : Int)] 25 := (cf.set 0 _ _ rfl).set 1 _ _ rfl
          have cfz0 := cfy.cell 0 (x := .int .u64 (M.hiN Z : Int)) rfl
          have cfz1 := cfy.cell 1 (x := .int .u64 (M.loN Z : Int)) rfl
          have b0y : Below w.heap.size w ((v15.setCell ⟨gcf, 0, none⟩ (.int .u64 (M.hiN Z : Int))).setCell ⟨gcf, 1, none⟩ (.int .u64 (M.loN Z : Int))) := (b0.setCell (p := ⟨gcf, 0, none⟩) LE0 _).setCell (p := ⟨gcf, 1, none⟩) LE0 _
          go_wp2_with fail
          clear cw0
          clear cw1
          clear cu0
          clear cu1
          clear cd0
          clear cd1
          clear ca0
          clear ca1
          clear cb0
          clear cb1
          clear cf0
          clear cf1
          clear cff0 cff1
          clear cwz0
          clear cwz1
          clear cw
          clear cuz0
          clear cuz1
          clear cu
          clear cdz0
          clear cdz1
          clear cd
          clear caz0
          clear caz1
          clear ca
          clear cbz0
          clear cbz1
          clear cb
          clear cfz0
          clear cfz1
          clear cf
          clear b0 m0
          generalize (v15.setCell ⟨gcf, 0, none⟩ (.int .u64 (M.hiN Z : Int))).setCell ⟨gcf, 1, none⟩ (.int .u64 (M.loN Z : Int)) = v16 at cwy cuy cdy cay cby cfy b0y ⊢
          have cw := cwy
          clear cwy
          have cu := cuy
          clear cuy
          have cd := cdy
          clear cdy
          have ca := cay
          clear cay
          have cb := cby
          clear cby
          have cf := cfy
          clear cfy
          have b0 := b0y
          clear b0y
          have m0 := hm.below b0
          have kX := fun (v : World) (hv : Fmt v) => ibounds_any q hq X hX v hv T HT.out hc
          refine (kX _ m0).mono ?_
          rintro e v17 ⟨xa, xca, xb, xcb, xc, xcc, i1, i2, rfl, j1, j2, j3, oA, oB, oC, hb⟩
          replace b0 := b0.trans (hb.mono b0.size)
          replace m0 := m0.below hb
          replace cw := cw.below hb
          replace cu := cu.below hb
          replace cd := cd.below hb
          replace ca := ca.below hb
          replace cb := cb.below hb
          replace cf := cf.below hb
          clear hb
          obtain ⟨A, hA⟩ : ∃ A, A = bA (M.fm q) T := ⟨_, rfl⟩
          obtain ⟨B, hB⟩ : ∃ B, B = bB T := ⟨_, rfl⟩
          obtain ⟨C, hC⟩ : ∃ C, C = bC T := ⟨_, rfl⟩
          obtain ⟨cl, hcl⟩ : ∃ cl : Bool, cl = decide (T.s % 2 = 0) := ⟨_, rfl⟩
          rw [← hA] at oA ⊢
          rw [← hB] at oB ⊢
          rw [← hC] at oC ⊢
          rw [← hcl]
          have HA := hid hA; have HB := hid hB; have HC := hid hC; have HCL := hid hcl
          clear hA hB hC hcl kX
          have rA := oA.rd; have rB := oB.rd; have rC := oC.rd
          clear oA oB oC j1 j2 j3
          have cw0 := cw.cell 0 (x := .int .u64 (M.hiN X : Int)) rfl
          have cw1 := cw.cell 1 (x := .int .u64 (M.loN X : Int)) rfl
          have cu0 := cu.cell 0 (x := .int .u64 (M.hiN U : Int)) rfl
          have cu1 := cu.cell 1 (x := .int .u64 (M.loN U : Int)) rfl
          have cd0 := cd.cell 0 (x := .int .u64 (M.hiN Z : Int)) rfl
          have cd1 := cd.cell 1 (x := .int .u64 (M.loN Z : Int)) rfl
          have ca0 := ca.cell 0 (x := .int .u64 (M.hiN X : Int)) rfl
          have ca1 := ca.cell 1 (x := .int .u64 (M.loN X : Int)) rfl
          have cb0 := cb.cell 0 (x := .int .u64 (M.hiN X : Int)) rfl
          have cb1 := cb.cell 1 (x := .int .u64 (M.loN X : Int)) rfl
          have cf0 := cf.cell 0 (x := .int .u64 (M.hiN Z : Int)) rfl
          have cf1 := cf.cell 1 (x := .int .u64 (M.loN Z : Int)) rfl
          have AB := (Below.refl _ v17).alloc (Nat.le_refl _) (.cells #[.slice xa (L A).length xca, .slice xb (L B).length xcb, .slice xc (L C).length xcc, .bool cl, .bool true] 33)
          have cwx0 := (cw.below AB).cell 0 (x := .int .u64 (M.hiN X : Int)) rfl
          have cwx1 := (cw.below AB).cell 1 (x := .int .u64 (M.loN X : Int)) rfl
          have cux0 := (cu.below AB).cell 0 (x := .int .u64 (M.hiN U : Int)) rfl
          have cux1 := (cu.below AB).cell 1 (x := .int .u64 (M.loN U : Int)) rfl
          have cdx0 := (cd.below AB).cell 0 (x := .int .u64 (M.hiN Z : Int)) rfl
          have cdx1 := (cd.below AB).cell 1 (x := .int .u64 (M.loN Z : Int)) rfl
          have cax0 := (ca.below AB).cell 0 (x := .int .u64 (M.hiN X : Int)) rfl
          have cax1 := (ca.below AB).cell 1 (x := .int .u64 (M.loN X : Int)) rfl
          have cbx0 := (cb.below AB).cell 0 (x := .int .u64 (M.hiN X : Int)) rfl
          have cbx1 := (cb.below AB).cell 1 (x := .int .u64 (M.loN X : Int)) rfl
          have cfx0 := (cf.below AB).cell 0 (x := .int .u64 (M.hiN Z : Int)) rfl
          have cfx1 := (cf.below AB).cell 1 (x := .int .u64 (M.loN Z : Int)) rfl
          go_wp2_with fail
          clear AB
          clear cw0
          clear cw1
          clear cu0
          clear cu1
          clear cd0
          clear cd1
          clear ca0
          clear ca1
          clear cb0
          clear cb1
          clear cf0
          clear cf1
          clear cwx0
          clear cwx1
          clear cux0
          clear cux1
          clear cdx0
          clear cdx1
          clear cax0
          clear cax1
          clear cbx0
          clear cbx1
          clear cfx0
          clear cfx1
          have cx := Cls.new v17 #[.slice xa (L A).length xca, .slice xb (L B).length xcb, .slice xc (L C).length xcc, .bool cl, .bool true] 33
          have hb := (Below.refl _ v17).alloc (Nat.le_refl _) (.cells #[.slice xa (L A).length xca, .slice xb (L B).length xcb, .slice xc (L C).length xcc, .bool cl, .bool true] 33)
          replace cw := cw.below hb
          replace cu := cu.below hb
          replace cd := cd.below hb
          replace ca := ca.below hb
          replace cb := cb.below hb
          replace cf := cf.below hb
          replace rA := rA.below hb
          replace rB := rB.below hb
          replace rC := rC.below hb
          replace b0 := b0.trans (hb.mono b0.size)
          replace m0 := m0.below hb
          clear hb
          have szcx : (v17.alloc (.cells #[.slice xa (L A).length xca, .slice xb (L B).length xcb, .slice xc (L C).length xcc, .bool cl, .bool true] 33)).heap.size = v17.heap.size + 1 := by simp
          obtain ⟨gcx, hgcx⟩ : ∃ g, g = v17.heap.size := ⟨_, rfl⟩
          rw [← hgcx] at cx szcx ⊢
          clear hgcx
          generalize v17.alloc (.cells #[.slice xa (L A).length xca, .slice xb (L B).length xcb, .slice xc (L C).length xcc, .bool cl, .bool true] 33) = v18 at cw cu cd ca cb cf rA rB rC cx b0 m0 szcx ⊢
          clear szcx
          have hgr := hF.grow_eq T hpT hc
          rw [hn] at hgr
          rw [← hgr.1] at hfar
          obtain ⟨R, hR⟩ : ∃ R, R = (M.fm q).grow T := ⟨_, rfl⟩
          have hcl4 := hF.pat_class true ((M.fm q).rank T + 1) (by have := hgr.2; omega)
          rw [← hgr.1, ← hR] at hcl4
          rw [← hR] at hfar
          have kR := fun (v : World) => sunpack_any q hq Z hZ1 v
          rw [hfar] at kR
          simp only [pv] at kR
          have HR := hid hR
          clear hR hgr
          by_cases h4 : R.c = 4
          · skip
            have kE := fun (v : World) (hv : Fmt v) => describe_ok q hq v hv
            have kV := fun (v : World) (hv : Fmt v) => iunpack_any q hq Z hZ1 v hv
            rw [hfar] at kV
            simp only [dv] at kE
            simp only [pv] at kV
            refine (ibnd_out (q : Int) Z R _ _ _ _ _ _ _ m0 kE kV (by omega) (by omega)).mono ?_
            rintro e v19 ⟨rfl, hb⟩
            replace b0 := b0.trans (hb.mono b0.size)
            replace m0 := m0.below hb
            replace cw := cw.below hb
            replace cu := cu.below hb
            replace cd := cd.below hb
            replace ca := ca.below hb
            replace cb := cb.below hb
            replace cf := cf.below hb
            replace cx := cx.below hb
            replace rA := rA.below hb
            replace rB := rB.below hb
            replace rC := rC.below hb
            clear hb
            have cw0 := cw.cell 0 (x := .int .u64 (M.hiN X : Int)) rfl
            have cw1 := cw.cell 1 (x := .int .u64 (M.loN X : Int)) rfl
            have cu0 := cu.cell 0 (x := .int .u64 (M.hiN U : Int)) rfl
            have cu1 := cu.cell 1 (x := .int .u64 (M.loN U : Int)) rfl
            have cd0 := cd.cell 0 (x := .int .u64 (M.hiN Z : Int)) rfl
            have cd1 := cd.cell 1 (x := .int .u64 (M.loN Z : Int)) rfl
            have ca0 := ca.cell 0 (x := .int .u64 (M.hiN X : Int)) rfl
            have ca1 := ca.cell 1 (x := .int .u64 (M.loN X : Int)) rfl
            have cb0 := cb.cell 0 (x := .int .u64 (M.hiN X : Int)) rfl
            have cb1 := cb.cell 1 (x := .int .u64 (M.loN X : Int)) rfl
            have cf0 := cf.cell 0 (x := .int .u64 (M.hiN Z : Int)) rfl
            have cf1 := cf.cell 1 (x := .int .u64 (M.loN Z : Int)) rfl
            have cx0 := cx.cell 0 (x := .slice xa (L A).length xca) rfl
            have cx1 := cx.cell 1 (x := .slice xb (L B).length xcb) rfl
            have cx2 := cx.cell 2 (x := .slice xc (L C).length xcc) rfl
            have cx3 := cx.cell 3 (x := .bool cl) rfl
            have cx4 := cx.cell 4 (x := .bool true) rfl
            have AB := (Below.refl _ v19).alloc (Nat.le_refl _) (.cells #[.slice none 0 0, .slice none 0 0, .slice none 0 0, .bool false, .bool false] 33)
            have cwx0 := (cw.below AB).cell 0 (x := .int .u64 (M.hiN X : Int)) rfl
            have cwx1 := (cw.below AB).cell 1 (x := .int .u64 (M.loN X : Int)) rfl
            have cux0 := (cu.below AB).cell 0 (x := .int .u64 (M.hiN U : Int)) rfl
            have cux1 := (cu.below AB).cell 1 (x := .int .u64 (M.loN U : Int)) rfl
            have cdx0 := (cd.below AB).cell 0 (x := .int .u64 (M.hiN Z : Int)) rfl
            have cdx1 := (cd.below AB).cell 1 (x := .int .u64 (M.loN Z : Int)) rfl
            have cax0 := (ca.below AB).cell 0 (x := .int .u64 (M.hiN X : Int)) rfl
            have cax1 := (ca.below AB).cell 1 (x := .int .u64 (M.loN X : Int)) rfl
            have cbx0 := (cb.below AB).cell 0 (x := .int .u64 (M.hiN X : Int)) rfl
            have cbx1 := (cb.below AB).cell 1 (x := .int .u64 (M.loN X : Int)) rfl
            have cfx0 := (cf.below AB).cell 0 (x := .int .u64 (M.hiN Z : Int)) rfl
            have cfx1 := (cf.below AB).cell 1 (x := .int .u64 (M.loN Z : Int)) rfl
            have cxx0 := (cx.below AB).cell 0 (x := .slice xa (L A).length xca) rfl
            have cxx1 := (cx.below AB).cell 1 (x := .slice xb (L B).length xcb) rfl
            have cxx2 := (cx.below AB).cell 2 (x := .slice xc (L C).length xcc) rfl
            have cxx3 := (cx.below AB).cell 3 (x := .bool cl) rfl
            have cxx4 := (cx.below AB).cell 4 (x := .bool true) rfl
            go_wp2_with fail
            clear AB
            clear cw0
            clear cw1
            clear cu0
            clear cu1
            clear cd0
            clear cd1
            clear ca0
            clear ca1
            clear cb0
            clear cb1
            clear cf0
            clear cf1
            clear cx0
            clear cx1
            clear cx2
            clear cx3
            clear cx4
            clear cwx0
            clear cwx1
            clear cux0
            clear cux1
            clear cdx0
            clear cdx1
            clear cax0
            clear cax1
            clear cbx0
            clear cbx1
            clear cfx0
            clear cfx1
            clear cxx0
            clear cxx1
            clear cxx2
            clear cxx3
            clear cxx4
            have cy := Cls.new v19 #[.slice none 0 0, .slice none 0 0, .slice none 0 0, .bool false, .bool false] 33
            have hb := (Below.refl _ v19).alloc (Nat.le_refl _) (.cells #[.slice none 0 0, .slice none 0 0, .slice none 0 0, .bool false, .bool false] 33)
            replace cw := cw.below hb
            replace cu := cu.below hb
            replace cd := cd.below hb
            replace ca := ca.below hb
            replace cb := cb.below hb
            replace cf := cf.below hb
            replace cx := cx.below hb
            replace rA := rA.below hb
            replace rB := rB.below hb
            replace rC := rC.below hb
            replace b0 := b0.trans (hb.mono b0.size)
            replace m0 := m0.below hb
            clear hb
            have szcy : (v19.alloc (.cells #[.slice none 0 0, .slice none 0 0, .slice none 0 0, .bool false, .bool false] 33)).heap.size = v19.heap.size + 1 := by simp
            obtain ⟨gcy, hgcy⟩ : ∃ g, g = v19.heap.size := ⟨_, rfl⟩
            rw [← hgcy] at cy szcy ⊢
            clear hgcy
            generalize v19.alloc (.cells #[.slice none 0 0, .slice none 0 0, .slice none 0 0, .bool false, .bool false] 33) = v20 at cw cu cd ca cb cf cx rA rB rC cy b0 m0 szcy ⊢
            clear szcy
            refine (kR _).mono ?_
            rintro e v21 ⟨rfl, hb⟩
            replace b0 := b0.trans (hb.mono b0.size)
            replace m0 := m0.below hb
            replace cw := cw.below hb
            replace cu := cu.below hb
            replace cd := cd.below hb
            replace ca := ca.below hb
            replace cb := cb.below hb
            replace cf := cf.below hb
            replace cx := cx.below hb
            replace cy := cy.below hb
            replace rA := rA.below hb
            replace rB := rB.below hb
            replace rC := rC.below hb
            clear hb
            have cw0 := cw.cell 0 (x := .int .u64 (M.hiN X : Int)) rfl
            have cw1 := cw.cell 1 (x := .int .u64 (M.loN X : Int)) rfl
            have cu0 := cu.cell 0 (x := .int .u64 (M.hiN U : Int)) rfl
            have cu1 := cu.cell 1 (x := .int .u64 (M.loN U : Int)) rfl
            have cd0 := cd.cell 0 (x := .int .u64 (M.hiN Z : Int)) rfl
            have cd1 := cd.cell 1 (x := .int .u64 (M.loN Z : Int)) rfl
            have ca0 := ca.cell 0 (x := .int .u64 (M.hiN X : Int)) rfl
            have ca1 := ca.cell 1 (x := .int .u64 (M.loN X : Int)) rfl
            have cb0 := cb.cell 0 (x := .int .u64 (M.hiN X : Int)) rfl
            have cb1 := cb.cell 1 (x := .int .u64 (M.loN X : Int)) rfl
            have cf0 := cf.cell 0 (x := .int .u64 (M.hiN Z : Int)) rfl
            have cf1 := cf.cell 1 (x := .int .u64 (M.loN Z : Int)) rfl
            have cx0 := cx.cell 0 (x := .slice xa (L A).length xca) rfl
            have cx1 := cx.cell 1 (x := .slice xb (L B).length xcb) rfl
            have cx2 := cx.cell 2 (x := .slice xc (L C).length xcc) rfl
            have cx3 := cx.cell 3 (x := .bool cl) rfl
            have cx4 := cx.cell 4 (x := .bool true) rfl
            have cy0 := cy.cell 0 (x := .slice none 0 0) rfl
            have cy1 := cy.cell 1 (x := .slice none 0 0) rfl
            have cy2 := cy.cell 2 (x := .slice none 0 0) rfl
            have cy3 := cy.cell 3 (x := .bool false) rfl
            have cy4 := cy.cell 4 (x := .bool false) rfl
            have h4b : (R.c == 4) = true := by simp [h4]
            go_wp2_with fail
            go_ret
            exact ⟨rfl, b0⟩
          · skip
            have hc2 : R.c = 2 ∨ R.c = 3 := by omega
            refine (ibounds_any q hq Z hZ1 _ m0 R hfar.symm hc2).mono ?_
            rintro e v19 ⟨ya, yca, yb, ycb, yc, ycc, i3, i4, rfl, j1, j2, j3, pA, pB, pC, hb⟩
            replace b0 := b0.trans (hb.mono b0.size)
            replace m0 := m0.below hb
            replace cw := cw.below hb
            replace cu := cu.below hb
            replace cd := cd.below hb
            replace ca := ca.below hb
            replace cb := cb.below hb
            replace cf := cf.below hb
            replace cx := cx.below hb
            replace rA := rA.below hb
            replace rB := rB.below hb
            replace rC := rC.below hb
            clear hb
            obtain ⟨A2, hA2⟩ : ∃ A, A = bA (M.fm q) R := ⟨_, rfl⟩
            obtain ⟨B2, hB2⟩ : ∃ B, B = bB R := ⟨_, rfl⟩
            obtain ⟨C2, hC2⟩ : ∃ C, C = bC R := ⟨_, rfl⟩
            obtain ⟨cl2, hcl2⟩ : ∃ cl : Bool, cl = decide (R.s % 2 = 0) := ⟨_, rfl⟩
            rw [← hA2] at pA ⊢
            rw [← hB2] at pB ⊢
            rw [← hC2] at pC ⊢
            rw [← hcl2]
            have HA2 := hid hA2; have HB2 := hid hB2; have HC2 := hid hC2; have HCL2 := hid hcl2
            clear hA2 hB2 hC2 hcl2
            have sA := pA.rd; have sB := pB.rd; have sC := pC.rd
            clear pA pB pC j1 j2 j3
            have cw0 := cw.cell 0 (x := .int .u64 (M.hiN X : Int)) rfl
            have cw1 := cw.cell 1 (x := .int .u64 (M.loN X : Int)) rfl
            have cu0 := cu.cell 0 (x := .int .u64 (M.hiN U : Int)) rfl
            have cu1 := cu.cell 1 (x := .int .u64 (M.loN U : Int)) rfl
            have cd0 := cd.cell 0 (x := .int .u64 (M.hiN Z : Int)) rfl
            have cd1 := cd.cell 1 (x := .int .u64 (M.loN Z : Int)) rfl
            have ca0 := ca.cell 0 (x := .int .u64 (M.hiN X : Int)) rfl
            have ca1 := ca.cell 1 (x := .int .u64 (M.loN X : Int)) rfl
            have cb0 := cb.cell 0 (x := .int .u64 (M.hiN X : Int)) rfl
            have cb1 := cb.cell 1 (x := .int .u64 (M.loN X : Int)) rfl
            have cf0 := cf.cell 0 (x := .int .u64 (M.hiN Z : Int)) rfl
            have cf1 := cf.cell 1 (x := .int .u64 (M.loN Z : Int)) rfl
            have cx0 := cx.cell 0 (x := .slice xa (L A).length xca) rfl
            have cx1 := cx.cell 1 (x := .slice xb (L B).length xcb) rfl
            have cx2 := cx.cell 2 (x := .slice xc (L C).length xcc) rfl
            have cx3 := cx.cell 3 (x := .bool cl) rfl
            have cx4 := cx.cell 4 (x := .bool true) rfl
            have AB := (Below.refl _ v19).alloc (Nat.le_refl _) (.cells #[.slice ya (L A2).length yca, .slice yb (L B2).length ycb, .slice yc (L C2).length ycc, .bool cl2, .bool true] 33)
            have cwx0 := (cw.below AB).cell 0 (x := .int .u64 (M.hiN X : Int)) rfl
            have cwx1 := (cw.below AB).cell 1 (x := .int .u64 (M.loN X : Int)) rfl
            have cux0 := (cu.below AB).cell 0 (x := .int .u64 (M.hiN U : Int)) rfl
            have cux1 := (cu.below AB).cell 1 (x := .int .u64 (M.loN U : Int)) rfl
            have cdx0 := (cd.below AB).cell 0 (x := .int .u64 (M.hiN Z : Int)) rfl
            have cdx1 := (cd.below AB).cell 1 (x := .int .u64 (M.loN Z : Int)) rfl
            have cax0 := (ca.below AB).cell 0 (x := .int .u64 (M.hiN X : Int)) rfl
            have cax1 := (ca.below AB).cell 1 (x := .int .u64 (M.loN X : Int)) rfl
            have cbx0 := (cb.below AB).cell 0 (x := .int .u64 (M.hiN X : Int)) rfl
            have cbx1 := (cb.below AB).cell 1 (x := .int .u64 (M.loN X : Int)) rfl
            have cfx0 := (cf.below AB).cell 0 (x := .int .u64 (M.hiN Z : Int)) rfl
            have cfx1 := (cf.below AB).cell 1 (x := .int .u64 (M.loN Z : Int)) rfl
            have cxx0 := (cx.below AB).cell 0 (x := .slice xa (L A).length xca) rfl
            have cxx1 := (cx.below AB).cell 1 (x := .slice xb (L B).length xcb) rfl
            have cxx2 := (cx.below AB).cell 2 (x := .slice xc (L C).length xcc) rfl
            have cxx3 := (cx.below AB).cell 3 (x := .bool cl) rfl
            have cxx4 := (cx.below AB).cell 4 (x := .bool true) rfl
            go_wp2_with fail
            clear AB
            clear cw0
            clear cw1
            clear cu0
            clear cu1
            clear cd0
            clear cd1
            clear ca0
            clear ca1
            clear cb0
            clear cb1
            clear cf0
            clear cf1
            clear cx0
            clear cx1
            clear cx2
            clear cx3
            clear cx4
            clear cwx0
            clear cwx1
            clear cux0
            clear cux1
            clear cdx0
            clear cdx1
            clear cax0
            clear cax1
            clear cbx0
            clear cbx1
            clear cfx0
            clear cfx1
            clear cxx0
            clear cxx1
            clear cxx2
            clear cxx3
            clear cxx4
            have cy := Cls.new v19 #[.slice ya (L A2).length yca, .slice yb (L B2).length ycb, .slice yc (L C2).length ycc, .bool cl2, .bool true] 33
            have hb := (Below.refl _ v19).alloc (Nat.le_refl _) (.cells #[.slice ya (L A2).length yca, .slice yb (L B2).length ycb, .slice yc (L C2).length ycc, .bool cl2, .bool true] 33)
            replace cw := cw.below hb
            replace cu := cu.below hb
            replace cd := cd.below hb
            replace ca := ca.below hb
            replace cb := cb.below hb
            replace cf := cf.below hb
            replace cx := cx.below hb
            replace rA := rA.below hb
            replace rB := rB.below hb
            replace rC := rC.below hb
            replace sA := sA.below hb
            replace sB := sB.below hb
            replace sC := sC.below hb
            replace b0 := b0.trans (hb.mono b0.size)
            replace m0 := m0.below hb
            clear hb
            have szcy : (v19.alloc (.cells #[.slice ya (L A2).length yca, .slice yb (L B2).length ycb, .slice yc (L C2).length ycc, .bool cl2, .bool true] 33)).heap.size = v19.heap.size + 1 := by simp
            obtain ⟨gcy, hgcy⟩ : ∃ g, g = v19.heap.size := ⟨_, rfl⟩
            rw [← hgcy] at cy szcy ⊢
            clear hgcy
            generalize v19.alloc (.cells #[.slice ya (L A2).length yca, .slice yb (L B2).length ycb, .slice yc (L C2).length ycc, .bool cl2, .bool true] 33) = v20 at cw cu cd ca cb cf cx rA rB rC sA sB sC cy b0 m0 szcy ⊢
            clear szcy
            refine (kR _).mono ?_
            rintro e v21 ⟨rfl, hb⟩
            replace b0 := b0.trans (hb.mono b0.size)
            replace m0 := m0.below hb
            replace cw := cw.below hb
            replace cu := cu.below hb
            replace cd := cd.below hb
            replace ca := ca.below hb
            replace cb := cb.below hb
            replace cf := cf.below hb
            replace cx := cx.below hb
            replace cy := cy.below hb
            replace rA := rA.below hb
            replace rB := rB.below hb
            replace rC := rC.below hb
            replace sA := sA.below hb
            replace sB := sB.below hb
            replace sC := sC.below hb
            clear hb
            have cw0 := cw.cell 0 (x := .int .u64 (M.hiN X : Int)) rfl
            have cw1 := cw.cell 1 (x := .int .u64 (M.loN X : Int)) rfl
            have cu0 := cu.cell 0 (x := .int .u64 (M.hiN U : Int)) rfl
            have cu1 := cu.cell 1 (x := .int .u64 (M.loN U : Int)) rfl
            have cd0 := cd.cell 0 (x := .int .u64 (M.hiN Z : Int)) rfl
            have cd1 := cd.cell 1 (x := .int .u64 (M.loN Z : Int)) rfl
            have ca0 := ca.cell 0 (x := .int .u64 (M.hiN X : Int)) rfl
            have ca1 := ca.cell 1 (x := .int .u64 (M.loN X : Int)) rfl
            have cb0 := cb.cell 0 (x := .int .u64 (M.hiN X : Int)) rfl
            have cb1 := cb.cell 1 (x := .int .u64 (M.loN X : Int)) rfl
            have cf0 := cf.cell 0 (x := .int .u64 (M.hiN Z : Int)) rfl
            have cf1 := cf.cell 1 (x := .int .u64 (M.loN Z : Int)) rfl
            have cx0 := cx.cell 0 (x := .slice xa (L A).length xca) rfl
            have cx1 := cx.cell 1 (x := .slice xb (L B).length xcb) rfl
            have cx2 := cx.cell 2 (x := .slice xc (L C).length xcc) rfl
            have cx3 := cx.cell 3 (x := .bool cl) rfl
            have cx4 := cx.cell 4 (x := .bool true) rfl
            have cy0 := cy.cell 0 (x := .slice ya (L A2).length yca) rfl
            have cy1 := cy.cell 1 (x := .slice yb (L B2).length ycb) rfl
            have cy2 := cy.cell 2 (x := .slice yc (L C2).length ycc) rfl
            have cy3 := cy.cell 3 (x := .bool cl2) rfl
            have cy4 := cy.cell 4 (x := .bool true) rfl
            have h4b : (R.c == 4) = false := by simp; omega
            go_wp2_with fail
            clear cw0
            clear cw1
            clear cu0
            clear cu1
            clear cd0
            clear cd1
            clear ca0
            clear ca1
            clear cb0
            clear cb1
            clear cf0
            clear cf1
            clear cx0
            clear cx1
            clear cx2
            clear cx3
            clear cx4
            clear cy0
            clear cy1
            clear cy2
            clear cy3
            clear cy4
            obtain ⟨E, hE1, hE2⟩ : ∃ E : Nat, 17128 ≤ E ∧ E ≤ 19000 := ⟨17128, by omega, by omega⟩
            have hfT := bnd_len (fin_of hF hpT hc) E hE1
            have hpR : (M.fm q).Proper R := by rw [← hfar]; exact properU hF Z (by rw [hfar]; exact hc2)
            have hfR := bnd_len (fin_of hF hpR hc2) E hE1
            have hsp := span_next hF T hpT hc (by rw [← HR.out]; exact hc2)
            rw [← HR.out, ← HB.out, ← HC.out, ← HA2.out, ← HC2.out, ← HCL.out, ← HCL2.out] at hsp
            rw [← HA.out, ← HB.out, ← HC.out] at hfT
            rw [← HA2.out, ← HB2.out, ← HC2.out] at hfR
            have hpl := prod_len B C2 E hfT.2.2.2.2.1 hfR.2.2.2.2.2 hE2
            have kM1 : ∀ u, Below v21.heap.size v21 u → Calls Tryd.prog 25 #[.slice xb (L B).length xcb, .slice yc (L C2).length ycc] u fun e w2 => Ret u w2 e (L (B * C2)) := fun u hu => by
              have := specNatMul_any xb yc (L B).length (L C2).length xcb ycc (L B) (L C2) u rfl rfl (by omega) (by omega) (F64_L _) (F64_L _) (rB.below hu) (sC.below hu)
              rwa [mul_L _ _ (by omega) (by omega)] at this
            have kM2 : ∀ u, Below v21.heap.size v21 u → Calls Tryd.prog 25 #[.slice ya (L A2).length yca, .slice xc (L C).length xcc] u fun e w2 => Ret u w2 e (L (B * C2)) := fun u hu => by
              have := specNatMul_any ya xc (L A2).length (L C).length yca xcc (L A2) (L C) u rfl rfl (by omega) (by omega) (F64_L _) (F64_L _) (sA.below hu) (rC.below hu)
              rwa [mul_L _ _ (by omega) (by omega), ← hsp.1] at this
            obtain ⟨PP, hPP⟩ : ∃ PP, PP = L (B * C2) := ⟨_, rfl⟩
            have kC : ∀ u (pa pb : Option Addr) (pc pd : Nat), Rd u pa PP → Rd u pb PP → Calls Tryd.prog 24 #[.slice pa PP.length pc, .slice pb PP.length pd] u fun e w2 => e = .returned (.int .i64 0) ∧ Below u.heap.size u w2 := fun u pa pb pc pd ha hb => by
              have := specNatCmp_any pa pb PP.length PP.length pc pd PP PP u rfl rfl (by rw [hPP]; omega) (by rw [hPP]; omega) (by rw [hPP]; exact F64_L _) (by rw [hPP]; exact F64_L _) ha hb
              rwa [hPP, cmp_L _ (by omega), ← hPP] at this
            rw [← hPP] at kM1 kM2
            have HPP := hid hPP
            clear hPP hfT hfR hpl
            have hne := hsp.2
            clear hsp
            have KB : ∀ u, Below v21.heap.size v21 u → (fun u => u.cell? ⟨gcx, 1, none⟩ = some (.slice xb (L B).length xcb) ∧ u.cell? ⟨gcx, 2, none⟩ = some (.slice xc (L C).length xcc) ∧ u.cell? ⟨gcx, 3, none⟩ = some (.bool cl) ∧ u.cell? ⟨gcy, 0, none⟩ = some (.slice ya (L A2).length yca) ∧ u.cell? ⟨gcy, 2, none⟩ = some (.slice yc (L C2).length ycc) ∧ u.cell? ⟨gcy, 3, none⟩ = some (.bool cl2) ∧ u.cell? ⟨gcy, 4, none⟩ = some (.bool true)) u := fun u hu => ⟨(cx.below hu).cell 1 rfl, (cx.below hu).cell 2 rfl, (cx.below hu).cell 3 rfl, (cy.below hu).cell 0 rfl, (cy.below hu).cell 2 rfl, (cy.below hu).cell 3 rfl, (cy.below hu).cell 4 rfl⟩
            try clear kUp
            try clear kDn
            try clear kO1
            try clear kO2
            try clear kA
            try clear kB
            try clear kT
            try clear kR
            try clear kD
            try clear fc
            try clear fn
            try clear cw
            try clear cu
            try clear cd
            try clear ca
            try clear cb
            try clear cf
            try clear m0
            try clear hfar
            try clear hcl4
            try clear h4b
            try clear h4
            try clear hc2
            try clear hpR
            try clear hpT
            try clear hc
            try clear hcc
            try clear hcb
            try clear hF
            try clear nh
            try clear nl
            try clear LE0
            try clear necw
            try clear necu
            try clear necd
            try clear neca
            try clear necb
            try clear HT
            try clear HU
            try clear HZ
            try clear HA
            try clear HB
            try clear HC
            try clear HCL
            try clear HA2
            try clear HB2
            try clear HC2
            try clear HCL2
            try clear HR
            try clear HPP
            try clear hE1
            try clear hE2
            try clear rA
            try clear rB
            try clear rC
            try clear sA
            try clear sB
            try clear sC
            try clear hU1
            try clear hZ1
            try clear hX
            try clear hn
            try clear cx
            try clear cy
            have A0 : Below v21.heap.size v21 v21.drew := (Below.refl _ _).drew
            refine wp_region_held_drew (S := fun u => u.cell? ⟨gcx, 1, none⟩ = some (.slice xb (L B).length xcb) ∧ u.cell? ⟨gcx, 2, none⟩ = some (.slice xc (L C).length xcc) ∧ u.cell? ⟨gcx, 3, none⟩ = some (.bool cl) ∧ u.cell? ⟨gcy, 0, none⟩ = some (.slice ya (L A2).length yca) ∧ u.cell? ⟨gcy, 2, none⟩ = some (.slice yc (L C2).length ycc) ∧ u.cell? ⟨gcy, 3, none⟩ = some (.bool cl2) ∧ u.cell? ⟨gcy, 4, none⟩ = some (.bool true)) (by kernel_rfl) (KB _ A0) (fun hS => ?_)
            refine wpAnyH_take (i := 0) (v := ?_) rfl (by kernel_rfl) (by kernel_rfl) (by kernel_rfl) (fun _ _ _ h => h) (Or.inl ⟨by kernel_rfl, ?_⟩) hS ?_
            rotate_left
            · (intro u hSu; obtain ⟨s1, s2, s3, s4, s5, s6, s7⟩ := hSu; first | (go_simp; done) | (go_simp; with_reducible rfl) | with_reducible rfl)
            refine wpAnyH_take (i := 1) (v := ?_) rfl (by kernel_rfl) (by kernel_rfl) (by kernel_rfl) (fun _ _ _ h => h) (Or.inl ⟨by kernel_rfl, ?_⟩) hS ?_
            rotate_left
            · (intro u hSu; obtain ⟨s1, s2, s3, s4, s5, s6, s7⟩ := hSu; first | (go_simp; done) | (go_simp; with_reducible rfl) | with_reducible rfl)
            refine wpAnyH_take (i := 2) (v := ?_) rfl (by kernel_rfl) (by kernel_rfl) (by kernel_rfl) (fun _ _ _ h => h) (Or.inl ⟨by kernel_rfl, ?_⟩) hS ?_
            rotate_left
            · (intro u hSu; obtain ⟨s1, s2, s3, s4, s5, s6, s7⟩ := hSu; first | (go_simp; done) | (go_simp; with_reducible rfl) | with_reducible rfl)
            refine wpAnyH_take (i := 3) (v := ?_) rfl (by kernel_rfl) (by kernel_rfl) (by kernel_rfl) (fun _ _ _ h => h) (Or.inl ⟨by kernel_rfl, ?_⟩) hS ?_
            rotate_left
            · (intro u hSu; obtain ⟨s1, s2, s3, s4, s5, s6, s7⟩ := hSu; first | (go_simp; done) | (go_simp; with_reducible rfl) | with_reducible rfl)
            refine wpAnyH_take (i := 4) (v := ?_) rfl (by kernel_rfl) (by kernel_rfl) (by kernel_rfl) (fun _ _ _ h => h) (Or.inl ⟨by kernel_rfl, ?_⟩) hS ?_
            rotate_left
            · (intro u hSu; obtain ⟨s1, s2, s3, s4, s5, s6, s7⟩ := hSu; first | (go_simp; done) | (go_simp; with_reducible rfl) | with_reducible rfl)
            refine wpAnyH_take (i := 5) (v := ?_) rfl (by kernel_rfl) (by kernel_rfl) (by kernel_rfl) (fun _ _ _ h => h) (Or.inl ⟨by kernel_rfl, ?_⟩) hS ?_
            rotate_left
            · (intro u hSu; obtain ⟨s1, s2, s3, s4, s5, s6, s7⟩ := hSu; first | (go_simp; done) | (go_simp; with_reducible rfl) | with_reducible rfl)
            refine wpAnyH_take (i := 6) (v := ?_) rfl (by kernel_rfl) (by kernel_rfl) (by kernel_rfl) (fun _ _ _ h => h) (Or.inl ⟨by kernel_rfl, ?_⟩) hS ?_
            rotate_left
            · (intro u hSu; obtain ⟨s1, s2, s3, s4, s5, s6, s7⟩ := hSu; first | (go_simp; done) | (go_simp; with_reducible rfl) | with_reducible rfl)
            refine wpAnyH_take (i := 8) (v := ?_) rfl (by kernel_rfl) (by kernel_rfl) (by kernel_rfl) (fun _ _ _ h => h) (Or.inl ⟨by kernel_rfl, ?_⟩) hS ?_
            rotate_left
            · (intro u hSu; obtain ⟨s1, s2, s3, s4, s5, s6, s7⟩ := hSu; first | (go_simp; done) | (go_simp; with_reducible rfl) | with_reducible rfl)
            refine wpAnyH_take (i := 9) (v := ?_) rfl (by kernel_rfl) (by kernel_rfl) (by kernel_rfl) (fun _ _ _ h => h) (Or.inl ⟨by kernel_rfl, ?_⟩) hS ?_
            rotate_left
            · (intro u hSu; obtain ⟨s1, s2, s3, s4, s5, s6, s7⟩ := hSu; first | (go_simp; done) | (go_simp; with_reducible rfl) | with_reducible rfl)
            refine wpAnyH_take (i := 10) (v := ?_) rfl (by kernel_rfl) (by kernel_rfl) (by kernel_rfl) (fun _ _ _ h => h) (Or.inl ⟨by kernel_rfl, ?_⟩) hS ?_
            rotate_left
            · (intro u hSu; obtain ⟨s1, s2, s3, s4, s5, s6, s7⟩ := hSu; first | (go_simp; done) | (go_simp; with_reducible rfl) | with_reducible rfl)
            refine wpAnyH_take (i := 11) (v := ?_) rfl (by kernel_rfl) (by kernel_rfl) (by kernel_rfl) (fun _ _ _ h => h) (Or.inl ⟨by kernel_rfl, ?_⟩) hS ?_
            rotate_left
            · (intro u hSu; obtain ⟨s1, s2, s3, s4, s5, s6, s7⟩ := hSu; first | (go_simp; done) | (go_simp; with_reducible rfl) | with_reducible rfl)
            refine wpAnyH_ready (rs := [7]) (by kernel_rfl) (by simp) ?_
            refine AllReadyH.cons rfl (fun K hK => ?_) AllReadyH.nil
            go_simp
            go_at_call 25
            refine (kM1 _ A0).mono ?_
            rintro e u1 ⟨ma, mc, rfl, mo, hb0⟩
            have A1 := A0.trans (hb0.mono A0.size)
            have r1 := Rd.own mo
            clear A0 hb0 mo
            go_simp
            refine hK.out _ _ (KB _ A1) ?_
            clear hK K hS
            intro hS
            refine wpAnyH_ready (rs := [12]) (by kernel_rfl) (by simp) ?_
            refine AllReadyH.cons rfl (fun K hK => ?_) AllReadyH.nil
            go_simp
            go_at_call 25
            refine (kM2 _ A1).mono ?_
            rintro e u2 ⟨mb, md, rfl, mo, hb0⟩
            have A2x := A1.trans (hb0.mono A1.size)
            have r2 := Rd.own mo
            replace r1 := r1.below hb0
            clear A1 hb0 mo
            go_simp
            refine hK.out _ _ (KB _ A2x) ?_
            clear hK K hS
            intro hS
            refine wpAnyH_ready (rs := [13]) (by kernel_rfl) (by simp) ?_
            refine AllReadyH.cons rfl (fun K hK => ?_) AllReadyH.nil
            go_simp
            go_at_call 24
            refine (kC _ ma mb mc md r1 r2).mono ?_
            rintro e u3 ⟨rfl, hb0⟩
            have A3 := A2x.trans (hb0.mono A2x.size)
            clear A2x hb0 r1 r2
            go_simp
            refine hK.out _ _ (KB _ A3) ?_
            clear hK K hS
            intro hS
            refine wpAnyH_take (i := 14) (v := ?_) rfl (by kernel_rfl) (by kernel_rfl) (by kernel_rfl) (fun _ _ _ h => h) (Or.inl ⟨by kernel_rfl, ?_⟩) hS ?_
            rotate_left
            · (intro u hSu; obtain ⟨s1, s2, s3, s4, s5, s6, s7⟩ := hSu; first | (go_simp; done) | (go_simp; with_reducible rfl) | with_reducible rfl)
            refine wpAnyH_take (i := 15) (v := ?_) rfl (by kernel_rfl) (by kernel_rfl) (by kernel_rfl) (fun _ _ _ h => h) (Or.inl ⟨by kernel_rfl, ?_⟩) hS ?_
            rotate_left
            · (intro u hSu; obtain ⟨s1, s2, s3, s4, s5, s6, s7⟩ := hSu; first | (go_simp; done) | (go_simp; with_reducible rfl) | with_reducible rfl)
            refine wpAnyH_take (i := 16) (v := ?_) rfl (by kernel_rfl) (by kernel_rfl) (by kernel_rfl) (fun _ _ _ h => h) (Or.inl ⟨by kernel_rfl, ?_⟩) hS ?_
            rotate_left
            · (intro u hSu; obtain ⟨s1, s2, s3, s4, s5, s6, s7⟩ := hSu; first | (go_simp; done) | (go_simp; with_reducible rfl) | with_reducible rfl)
            refine wpAnyH_take (i := 17) (v := ?_) rfl (by kernel_rfl) (by kernel_rfl) (by kernel_rfl) (fun _ _ _ h => h) (Or.inl ⟨by kernel_rfl, ?_⟩) hS ?_
            rotate_left
            · (intro u hSu; obtain ⟨s1, s2, s3, s4, s5, s6, s7⟩ := hSu; first | (go_simp; done) | (go_simp; with_reducible rfl) | with_reducible rfl)
            refine wpAnyH_take (i := 18) (v := ?_) rfl (by kernel_rfl) (by kernel_rfl) (by kernel_rfl) (fun _ _ _ h => h) (Or.inl ⟨by kernel_rfl, ?_⟩) hS ?_
            rotate_left
            · (intro u hSu; obtain ⟨s1, s2, s3, s4, s5, s6, s7⟩ := hSu; first | (go_simp; done) | (go_simp; with_reducible rfl) | with_reducible rfl)
            refine wpAnyH_take (i := 19) (v := ?_) rfl (by kernel_rfl) (by kernel_rfl) (by kernel_rfl) (fun _ _ _ h => h) (Or.inl ⟨by kernel_rfl, ?_⟩) hS ?_
            rotate_left
            · (intro u hSu; obtain ⟨s1, s2, s3, s4, s5, s6, s7⟩ := hSu; first | (go_simp; done) | (go_simp; with_reducible rfl) | with_reducible rfl)
            refine wpAnyH_take (i := 20) (v := ?_) rfl (by kernel_rfl) (by kernel_rfl) (by kernel_rfl) (fun _ _ _ h => h) (Or.inl ⟨by kernel_rfl, ?_⟩) hS ?_
            rotate_left
            · (intro u hSu; obtain ⟨s1, s2, s3, s4, s5, s6, s7⟩ := hSu; first | (go_simp; done) | (go_simp; with_reducible rfl) | with_reducible rfl)
            refine wpAnyH_take (i := 21) (v := ?_) rfl (by kernel_rfl) (by kernel_rfl) (by kernel_rfl) (fun _ _ _ h => h) (Or.inl ⟨by kernel_rfl, ?_⟩) hS ?_
            rotate_left
            · (intro u hSu; obtain ⟨s1, s2, s3, s4, s5, s6, s7⟩ := hSu; first | (go_simp; done) | (go_simp; with_reducible rfl) | with_reducible rfl)
            refine wpAnyH_take (i := 22) (v := ?_) rfl (by kernel_rfl) (by kernel_rfl) (by kernel_rfl) (fun _ _ _ h => h) (Or.inl ⟨by kernel_rfl, ?_⟩) hS ?_
            rotate_left
            · (intro u hSu; obtain ⟨s1, s2, s3, s4, s5, s6, s7⟩ := hSu; first | (go_simp; done) | (go_simp; with_reducible rfl) | with_reducible rfl)
            refine wpAnyH_ready (rs := [23]) (by kernel_rfl) (by simp) ?_
            refine AllReadyH.cons rfl (fun K hK => ?_) AllReadyH.nil
            go_simp
            refine hK.out _ _ (KB _ A3) ?_
            clear hK K hS
            intro hS
            refine wpAnyH_done (by kernel_rfl) ?_ _
            all_goals have HB9 := hid (b0.trans (A3.mono b0.size))
            all_goals go_wp2_with fail
            all_goals go_ret
            all_goals refine ⟨?_, HB9.out⟩
            all_goals clear HB9
            all_goals revert hne
            all_goals cases cl <;> cases cl2 <;> first | (intro _; rfl) | (intro h; exact absurd h (by decide))
      · skip
        have hc : T.c = 2 ∨ T.c = 3 := by omega
        have cw0 := cw.cell 0 (x := .int .u64 (M.hiN X : Int)) rfl
        have cw1 := cw.cell 1 (x := .int .u64 (M.loN X : Int)) rfl
        go_wp2_with fail
        clear cw0
        clear cw1
        refine (kUp _ m0).mono ?_
        rintro e v4 ⟨rfl, hb⟩
        replace b0 := b0.trans (hb.mono b0.size)
        replace m0 := m0.below hb
        replace cw := cw.below hb
        clear hb
        have cw0 := cw.cell 0 (x := .int .u64 (M.hiN X : Int)) rfl
        have cw1 := cw.cell 1 (x := .int .u64 (M.loN X : Int)) rfl
        have AB := (Below.refl _ v4).alloc (Nat.le_refl _) (.cells #[.int .u64 (M.hiN U : Int), .int .u64 (M.loN U : Int)] 25)
        have cwx0 := (cw.below AB).cell 0 (x := .int .u64 (M.hiN X : Int)) rfl
        have cwx1 := (cw.below AB).cell 1 (x := .int .u64 (M.loN X : Int)) rfl
        go_wp2_with fail
        clear AB
        clear cw0
        clear cw1
        clear cwx0
        clear cwx1
        have cu := Cls.new v4 #[.int .u64 (M.hiN U : Int), .int .u64 (M.loN U : Int)] 25
        have hb := (Below.refl _ v4).alloc (Nat.le_refl _) (.cells #[.int .u64 (M.hiN U : Int), .int .u64 (M.loN U : Int)] 25)
        replace cw := cw.below hb
        replace b0 := b0.trans (hb.mono b0.size)
        replace m0 := m0.below hb
        clear hb
        have szcu : (v4.alloc (.cells #[.int .u64 (M.hiN U : Int), .int .u64 (M.loN U : Int)] 25)).heap.size = v4.heap.size + 1 := by simp
        obtain ⟨gcu, hgcu⟩ : ∃ g, g = v4.heap.size := ⟨_, rfl⟩
        rw [← hgcu] at cu szcu ⊢
        clear hgcu
        generalize v4.alloc (.cells #[.int .u64 (M.hiN U : Int), .int .u64 (M.loN U : Int)] 25) = v5 at cw cu b0 m0 szcu ⊢
        clear szcu
        refine (kDn _ m0).mono ?_
        rintro e v6 ⟨rfl, hb⟩
        replace b0 := b0.trans (hb.mono b0.size)
        replace m0 := m0.below hb
        replace cw := cw.below hb
        replace cu := cu.below hb
        clear hb
        have cw0 := cw.cell 0 (x := .int .u64 (M.hiN X : Int)) rfl
        have cw1 := cw.cell 1 (x := .int .u64 (M.loN X : Int)) rfl
        have cu0 := cu.cell 0 (x := .int .u64 (M.hiN U : Int)) rfl
        have cu1 := cu.cell 1 (x := .int .u64 (M.loN U : Int)) rfl
        have AB := (Below.refl _ v6).alloc (Nat.le_refl _) (.cells #[.int .u64 (M.hiN Z : Int), .int .u64 (M.loN Z : Int)] 25)
        have cwx0 := (cw.below AB).cell 0 (x := .int .u64 (M.hiN X : Int)) rfl
        have cwx1 := (cw.below AB).cell 1 (x := .int .u64 (M.loN X : Int)) rfl
        have cux0 := (cu.below AB).cell 0 (x := .int .u64 (M.hiN U : Int)) rfl
        have cux1 := (cu.below AB).cell 1 (x := .int .u64 (M.loN U : Int)) rfl
        go_wp2_with fail
        clear AB
        clear cw0
        clear cw1
        clear cu0
        clear cu1
        clear cwx0
        clear cwx1
        clear cux0
        clear cux1
        have cd := Cls.new v6 #[.int .u64 (M.hiN Z : Int), .int .u64 (M.loN Z : Int)] 25
        have hb := (Below.refl _ v6).alloc (Nat.le_refl _) (.cells #[.int .u64 (M.hiN Z : Int), .int .u64 (M.loN Z : Int)] 25)
        replace cw := cw.below hb
        replace cu := cu.below hb
        replace b0 := b0.trans (hb.mono b0.size)
        replace m0 := m0.below hb
        clear hb
        have szcd : (v6.alloc (.cells #[.int .u64 (M.hiN Z : Int), .int .u64 (M.loN Z : Int)] 25)).heap.size = v6.heap.size + 1 := by simp
        obtain ⟨gcd, hgcd⟩ : ∃ g, g = v6.heap.size := ⟨_, rfl⟩
        rw [← hgcd] at cd szcd ⊢
        clear hgcd
        generalize v6.alloc (.cells #[.int .u64 (M.hiN Z : Int), .int .u64 (M.loN Z : Int)] 25) = v7 at cw cu cd b0 m0 szcd ⊢
        clear szcd
        refine (kO1 _ m0).mono ?_
        rintro e v8 ⟨rfl, hb⟩
        replace b0 := b0.trans (hb.mono b0.size)
        replace m0 := m0.below hb
        replace cw := cw.below hb
        replace cu := cu.below hb
        replace cd := cd.below hb
        clear hb
        have cw0 := cw.cell 0 (x := .int .u64 (M.hiN X : Int)) rfl
        have cw1 := cw.cell 1 (x := .int .u64 (M.loN X : Int)) rfl
        have cu0 := cu.cell 0 (x := .int .u64 (M.hiN U : Int)) rfl
        have cu1 := cu.cell 1 (x := .int .u64 (M.loN U : Int)) rfl
        have cd0 := cd.cell 0 (x := .int .u64 (M.hiN Z : Int)) rfl
        have cd1 := cd.cell 1 (x := .int .u64 (M.loN Z : Int)) rfl
        go_wp2_with fail
        clear cw0
        clear cw1
        clear cu0
        clear cu1
        clear cd0
        clear cd1
        refine (kO2 _ m0).mono ?_
        rintro e v9 ⟨rfl, hb⟩
        replace b0 := b0.trans (hb.mono b0.size)
        replace m0 := m0.below hb
        replace cw := cw.below hb
        replace cu := cu.below hb
        replace cd := cd.below hb
        clear hb
        have cw0 := cw.cell 0 (x := .int .u64 (M.hiN X : Int)) rfl
        have cw1 := cw.cell 1 (x := .int .u64 (M.loN X : Int)) rfl
        have cu0 := cu.cell 0 (x := .int .u64 (M.hiN U : Int)) rfl
        have cu1 := cu.cell 1 (x := .int .u64 (M.loN U : Int)) rfl
        have cd0 := cd.cell 0 (x := .int .u64 (M.hiN Z : Int)) rfl
        have cd1 := cd.cell 1 (x := .int .u64 (M.loN Z : Int)) rfl
        go_wp2_with fail
        clear cw0
        clear cw1
        clear cu0
        clear cu1
        clear cd0
        clear cd1
        refine (kA _ m0).mono ?_
        rintro e v10 ⟨rfl, hb⟩
        replace b0 := b0.trans (hb.mono b0.size)
        replace m0 := m0.below hb
        replace cw := cw.below hb
        replace cu := cu.below hb
        replace cd := cd.below hb
        clear hb
        have cw0 := cw.cell 0 (x := .int .u64 (M.hiN X : Int)) rfl
        have cw1 := cw.cell 1 (x := .int .u64 (M.loN X : Int)) rfl
        have cu0 := cu.cell 0 (x := .int .u64 (M.hiN U : Int)) rfl
        have cu1 := cu.cell 1 (x := .int .u64 (M.loN U : Int)) rfl
        have cd0 := cd.cell 0 (x := .int .u64 (M.hiN Z : Int)) rfl
        have cd1 := cd.cell 1 (x := .int .u64 (M.loN Z : Int)) rfl
        have AB := (Below.refl _ v10).alloc (Nat.le_refl _) (.cells #[.int .u64 (M.hiN X : Int), .int .u64 (M.loN X : Int)] 25)
        have cwx0 := (cw.below AB).cell 0 (x := .int .u64 (M.hiN X : Int)) rfl
        have cwx1 := (cw.below AB).cell 1 (x := .int .u64 (M.loN X : Int)) rfl
        have cux0 := (cu.below AB).cell 0 (x := .int .u64 (M.hiN U : Int)) rfl
        have cux1 := (cu.below AB).cell 1 (x := .int .u64 (M.loN U : Int)) rfl
        have cdx0 := (cd.below AB).cell 0 (x := .int .u64 (M.hiN Z : Int)) rfl
        have cdx1 := (cd.below AB).cell 1 (x := .int .u64 (M.loN Z : Int)) rfl
        go_wp2_with fail
        clear AB
        clear cw0
        clear cw1
        clear cu0
        clear cu1
        clear cd0
        clear cd1
        clear cwx0
        clear cwx1
        clear cux0
        clear cux1
        clear cdx0
        clear cdx1
        have ca := Cls.new v10 #[.int .u64 (M.hiN X : Int), .int .u64 (M.loN X : Int)] 25
        have hb := (Below.refl _ v10).alloc (Nat.le_refl _) (.cells #[.int .u64 (M.hiN X : Int), .int .u64 (M.loN X : Int)] 25)
        replace cw := cw.below hb
        replace cu := cu.below hb
        replace cd := cd.below hb
        replace b0 := b0.trans (hb.mono b0.size)
        replace m0 := m0.below hb
        clear hb
        have szca : (v10.alloc (.cells #[.int .u64 (M.hiN X : Int), .int .u64 (M.loN X : Int)] 25)).heap.size = v10.heap.size + 1 := by simp
        obtain ⟨gca, hgca⟩ : ∃ g, g = v10.heap.size := ⟨_, rfl⟩
        rw [← hgca] at ca szca ⊢
        clear hgca
        generalize v10.alloc (.cells #[.int .u64 (M.hiN X : Int), .int .u64 (M.loN X : Int)] 25) = v11 at cw cu cd ca b0 m0 szca ⊢
        clear szca
        refine (kB _ m0).mono ?_
        rintro e v12 ⟨rfl, hb⟩
        replace b0 := b0.trans (hb.mono b0.size)
        replace m0 := m0.below hb
        replace cw := cw.below hb
        replace cu := cu.below hb
        replace cd := cd.below hb
        replace ca := ca.below hb
        clear hb
        have nh : ((M.hiN X : Int) != (M.hiN X : Int)) = false := by simp
        have nl : ((M.loN X : Int) != (M.loN X : Int)) = false := by simp
        have cw0 := cw.cell 0 (x := .int .u64 (M.hiN X : Int)) rfl
        have cw1 := cw.cell 1 (x := .int .u64 (M.loN X : Int)) rfl
        have cu0 := cu.cell 0 (x := .int .u64 (M.hiN U : Int)) rfl
        have cu1 := cu.cell 1 (x := .int .u64 (M.loN U : Int)) rfl
        have cd0 := cd.cell 0 (x := .int .u64 (M.hiN Z : Int)) rfl
        have cd1 := cd.cell 1 (x := .int .u64 (M.loN Z : Int)) rfl
        have ca0 := ca.cell 0 (x := .int .u64 (M.hiN X : Int)) rfl
        have ca1 := ca.cell 1 (x := .int .u64 (M.loN X : Int)) rfl
        have AB0 := (Below.refl _ v12).alloc (Nat.le_refl _) (.cells #[.int .u64 (M.hiN X : Int), .int .u64 (M.loN X : Int)] 25)
        have cwy0 := cw.below AB0
        have cwx00 := cwy0.cell 0 (x := .int .u64 (M.hiN X : Int)) rfl
        have cwx01 := cwy0.cell 1 (x := .int .u64 (M.loN X : Int)) rfl
        have cuy0 := cu.below AB0
        have cux00 := cuy0.cell 0 (x := .int .u64 (M.hiN U : Int)) rfl
        have cux01 := cuy0.cell 1 (x := .int .u64 (M.loN U : Int)) rfl
        have cdy0 := cd.below AB0
        have cdx00 := cdy0.cell 0 (x := .int .u64 (M.hiN Z : Int)) rfl
        have cdx01 := cdy0.cell 1 (x := .int .u64 (M.loN Z : Int)) rfl
        have cay0 := ca.below AB0
        have cax00 := cay0.cell 0 (x := .int .u64 (M.hiN X : Int)) rfl
        have cax01 := cay0.cell 1 (x := .int .u64 (M.loN X : Int)) rfl
        have AB1 := (Below.refl _ (v12.alloc (.cells #[.int .u64 (M.hiN X : Int), .int .u64 (M.loN X : Int)] 25))).alloc (Nat.le_refl _) (.cells #[.int .u64 (M.hiN U : Int), .int .u64 (M.loN U : Int)] 25)
        have cwy1 := cwy0.below AB1
        have cwx10 := cwy1.cell 0 (x := .int .u64 (M.hiN X : Int)) rfl
        have cwx11 := cwy1.cell 1 (x := .int .u64 (M.loN X : Int)) rfl
        have cuy1 := cuy0.below AB1
        have cux10 := cuy1.cell 0 (x := .int .u64 (M.hiN U : Int)) rfl
        have cux11 := cuy1.cell 1 (x := .int .u64 (M.loN U : Int)) rfl
        have cdy1 := cdy0.below AB1
        have cdx10 := cdy1.cell 0 (x := .int .u64 (M.hiN Z : Int)) rfl
        have cdx11 := cdy1.cell 1 (x := .int .u64 (M.loN Z : Int)) rfl
        have cay1 := cay0.below AB1
        have cax10 := cay1.cell 0 (x := .int .u64 (M.hiN X : Int)) rfl
        have cax11 := cay1.cell 1 (x := .int .u64 (M.loN X : Int)) rfl
        go_wp2_with fail
        clear AB0
        clear AB1
        clear cax11 cax10 cay1 cdx11 cdx10 cdy1 cux11 cux10 cuy1 cwx11 cwx10 cwy1 cax01 cax00 cay0 cdx01 cdx00 cdy0 cux01 cux00 cuy0 cwx01 cwx00 cwy0
        clear cw0
        clear cw1
        clear cu0
        clear cu1
        clear cd0
        clear cd1
        clear ca0
        clear ca1
        have cb := Cls.new v12 #[.int .u64 (M.hiN X : Int), .int .u64 (M.loN X : Int)] 25
        have hb := (Below.refl _ v12).alloc (Nat.le_refl _) (.cells #[.int .u64 (M.hiN X : Int), .int .u64 (M.loN X : Int)] 25)
        replace cw := cw.below hb
        replace cu := cu.below hb
        replace cd := cd.below hb
        replace ca := ca.below hb
        replace b0 := b0.trans (hb.mono b0.size)
        replace m0 := m0.below hb
        clear hb
        have szcb : (v12.alloc (.cells #[.int .u64 (M.hiN X : Int), .int .u64 (M.loN X : Int)] 25)).heap.size = v12.heap.size + 1 := by simp
        obtain ⟨gcb, hgcb⟩ : ∃ g, g = v12.heap.size := ⟨_, rfl⟩
        rw [← hgcb] at cb szcb ⊢
        clear hgcb
        generalize v12.alloc (.cells #[.int .u64 (M.hiN X : Int), .int .u64 (M.loN X : Int)] 25) = v13 at cw cu cd ca cb b0 m0 szcb ⊢
        have LE0 := b0.size
        have necw := cw.lt
        have necu := cu.lt
        have necd := cd.lt
        have neca := ca.lt
        have necb := cb.lt
        rw [szcb] at LE0 necw necu necd neca necb
        have cf := Cls.new v13 #[.int .u64 (M.hiN U : Int), .int .u64 (M.loN U : Int)] 25
        have hb := (Below.refl _ v13).alloc (Nat.le_refl _) (.cells #[.int .u64 (M.hiN U : Int), .int .u64 (M.loN U : Int)] 25)
        replace cw := cw.below hb
        replace cu := cu.below hb
        replace cd := cd.below hb
        replace ca := ca.below hb
        replace cb := cb.below hb
        replace b0 := b0.trans (hb.mono b0.size)
        replace m0 := m0.below hb
        clear hb
        have szcf : (v13.alloc (.cells #[.int .u64 (M.hiN U : Int), .int .u64 (M.loN U : Int)] 25)).heap.size = v13.heap.size + 1 := by simp
        rw [szcb] at cf szcf
        obtain ⟨gcf, hgcf⟩ : ∃ g, g = gcb + 1 := ⟨_, rfl⟩
        rw [← hgcf] at cf szcf LE0 necw necu necd neca necb ⊢
        clear hgcf szcb
        generalize v13.alloc (.cells #[.int .u64 (M.hiN U : Int), .int .u64 (M.loN U : Int)] 25) = v14 at cw cu cd ca cb cf b0 m0 szcf ⊢
        clear szcf
        have kT := fun (v : World) => sunpack_any q hq X hX v
        rw [← HT.out] at kT
        simp only [pv] at kT
        refine (kT _).mono ?_
        rintro e v15 ⟨rfl, hb⟩
        replace b0 := b0.trans (hb.mono b0.size)
        replace m0 := m0.below hb
        replace cw := cw.below hb
        replace cu := cu.below hb
        replace cd := cd.below hb
        replace ca := ca.below hb
        replace cb := cb.below hb
        replace cf := cf.below hb
        clear hb
        cases hn : T.n
        · skip
          rw [hn] at hfar
          simp only [Bool.false_eq_true, if_false] at hfar
          have cw0 := cw.cell 0 (x := .int .u64 (M.hiN X : Int)) rfl
          have cw1 := cw.cell 1 (x := .int .u64 (M.loN X : Int)) rfl
          have cu0 := cu.cell 0 (x := .int .u64 (M.hiN U : Int)) rfl
          have cu1 := cu.cell 1 (x := .int .u64 (M.loN U : Int)) rfl
          have cd0 := cd.cell 0 (x := .int .u64 (M.hiN Z : Int)) rfl
          have cd1 := cd.cell 1 (x := .int .u64 (M.loN Z : Int)) rfl
          have ca0 := ca.cell 0 (x := .int .u64 (M.hiN X : Int)) rfl
          have ca1 := ca.cell 1 (x := .int .u64 (M.loN X : Int)) rfl
          have cb0 := cb.cell 0 (x := .int .u64 (M.hiN X : Int)) rfl
          have cb1 := cb.cell 1 (x := .int .u64 (M.loN X : Int)) rfl
          have cf0 := cf.cell 0 (x := .int .u64 (M.hiN U : Int)) rfl
          have cf1 := cf.cell 1 (x := .int .u64 (M.loN U : Int)) rfl
          go_wp2_with fail
          clear cw0
          clear cw1
          clear cu0
          clear cu1
          clear cd0
          clear cd1
          clear ca0
          clear ca1
          clear cb0
          clear cb1
          clear cf0
          clear cf1
          have kX := fun (v : World) (hv : Fmt v) => ibounds_any q hq X hX v hv T HT.out hc
          refine (kX _ m0).mono ?_
          rintro e v16 ⟨xa, xca, xb, xcb, xc, xcc, i1, i2, rfl, j1, j2, j3, oA, oB, oC, hb⟩
          replace b0 := b0.trans (hb.mono b0.size)
          replace m0 := m0.below hb
          replace cw := cw.below hb
          replace cu := cu.below hb
          replace cd := cd.below hb
          replace ca := ca.below hb
          replace cb := cb.below hb
          replace cf := cf.below hb
          clear hb
          obtain ⟨A, hA⟩ : ∃ A, A = bA (M.fm q) T := ⟨_, rfl⟩
          obtain ⟨B, hB⟩ : ∃ B, B = bB T := ⟨_, rfl⟩
          obtain ⟨C, hC⟩ : ∃ C, C = bC T := ⟨_, rfl⟩
          obtain ⟨cl, hcl⟩ : ∃ cl : Bool, cl = decide (T.s % 2 = 0) := ⟨_, rfl⟩
          rw [← hA] at oA ⊢
          rw [← hB] at oB ⊢
          rw [← hC] at oC ⊢
          rw [← hcl]
          have HA := hid hA; have HB := hid hB; have HC := hid hC; have HCL := hid hcl
          clear hA hB hC hcl kX
          have rA := oA.rd; have rB := oB.rd; have rC := oC.rd
          clear oA oB oC j1 j2 j3
          have cw0 := cw.cell 0 (x := .int .u64 (M.hiN X : Int)) rfl
          have cw1 := cw.cell 1 (x := .int .u64 (M.loN X : Int)) rfl
          have cu0 := cu.cell 0 (x := .int .u64 (M.hiN U : Int)) rfl
          have cu1 := cu.cell 1 (x := .int .u64 (M.loN U : Int)) rfl
          have cd0 := cd.cell 0 (x := .int .u64 (M.hiN Z : Int)) rfl
          have cd1 := cd.cell 1 (x := .int .u64 (M.loN Z : Int)) rfl
          have ca0 := ca.cell 0 (x := .int .u64 (M.hiN X : Int)) rfl
          have ca1 := ca.cell 1 (x := .int .u64 (M.loN X : Int)) rfl
          have cb0 := cb.cell 0 (x := .int .u64 (M.hiN X : Int)) rfl
          have cb1 := cb.cell 1 (x := .int .u64 (M.loN X : Int)) rfl
          have cf0 := cf.cell 0 (x := .int .u64 (M.hiN U : Int)) rfl
          have cf1 := cf.cell 1 (x := .int .u64 (M.loN U : Int)) rfl
          have AB := (Below.refl _ v16).alloc (Nat.le_refl _) (.cells #[.slice xa (L A).length xca, .slice xb (L B).length xcb, .slice xc (L C).length xcc, .bool cl, .bool true] 33)
          have cwx0 := (cw.below AB).cell 0 (x := .int .u64 (M.hiN X : Int)) rfl
          have cwx1 := (cw.below AB).cell 1 (x := .int .u64 (M.loN X : Int)) rfl
          have cux0 := (cu.below AB).cell 0 (x := .int .u64 (M.hiN U : Int)) rfl
          have cux1 := (cu.below AB).cell 1 (x := .int .u64 (M.loN U : Int)) rfl
          have cdx0 := (cd.below AB).cell 0 (x := .int .u64 (M.hiN Z : Int)) rfl
          have cdx1 := (cd.below AB).cell 1 (x := .int .u64 (M.loN Z : Int)) rfl
          have cax0 := (ca.below AB).cell 0 (x := .int .u64 (M.hiN X : Int)) rfl
          have cax1 := (ca.below AB).cell 1 (x := .int .u64 (M.loN X : Int)) rfl
          have cbx0 := (cb.below AB).cell 0 (x := .int .u64 (M.hiN X : Int)) rfl
          have cbx1 := (cb.below AB).cell 1 (x := .int .u64 (M.loN X : Int)) rfl
          have cfx0 := (cf.below AB).cell 0 (x := .int .u64 (M.hiN U : Int)) rfl
          have cfx1 := (cf.below AB).cell 1 (x := .int .u64 (M.loN U : Int)) rfl
          go_wp2_with fail
          clear AB
          clear cw0
          clear cw1
          clear cu0
          clear cu1
          clear cd0
          clear cd1
          clear ca0
          clear ca1
          clear cb0
          clear cb1
          clear cf0
          clear cf1
          clear cwx0
          clear cwx1
          clear cux0
          clear cux1
          clear cdx0
          clear cdx1
          clear cax0
          clear cax1
          clear cbx0
          clear cbx1
          clear cfx0
          clear cfx1
          have cx := Cls.new v16 #[.slice xa (L A).length xca, .slice xb (L B).length xcb, .slice xc (L C).length xcc, .bool cl, .bool true] 33
          have hb := (Below.refl _ v16).alloc (Nat.le_refl _) (.cells #[.slice xa (L A).length xca, .slice xb (L B).length xcb, .slice xc (L C).length xcc, .bool cl, .bool true] 33)
          replace cw := cw.below hb
          replace cu := cu.below hb
          replace cd := cd.below hb
          replace ca := ca.below hb
          replace cb := cb.below hb
          replace cf := cf.below hb
          replace rA := rA.below hb
          replace rB := rB.below hb
          replace rC := rC.below hb
          replace b0 := b0.trans (hb.mono b0.size)
          replace m0 := m0.below hb
          clear hb
          have szcx : (v16.alloc (.cells #[.slice xa (L A).length xca, .slice xb (L B).length xcb, .slice xc (L C).length xcc, .bool cl, .bool true] 33)).heap.size = v16.heap.size + 1 := by simp
          obtain ⟨gcx, hgcx⟩ : ∃ g, g = v16.heap.size := ⟨_, rfl⟩
          rw [← hgcx] at cx szcx ⊢
          clear hgcx
          generalize v16.alloc (.cells #[.slice xa (L A).length xca, .slice xb (L B).length xcb, .slice xc (L C).length xcc, .bool cl, .bool true] 33) = v17 at cw cu cd ca cb cf rA rB rC cx b0 m0 szcx ⊢
          clear szcx
          have hgr := hF.grow_eq T hpT hc
          rw [hn] at hgr
          rw [← hgr.1] at hfar
          obtain ⟨R, hR⟩ : ∃ R, R = (M.fm q).grow T := ⟨_, rfl⟩
          have hcl4 := hF.pat_class false ((M.fm q).rank T + 1) (by have := hgr.2; omega)
          rw [← hgr.1, ← hR] at hcl4
          rw [← hR] at hfar
          have kR := fun (v : World) => sunpack_any q hq U hU1 v
          rw [hfar] at kR
          simp only [pv] at kR
          have HR := hid hR
          clear hR hgr
          by_cases h4 : R.c = 4
          · skip
            have kE := fun (v : World) (hv : Fmt v) => describe_ok q hq v hv
            have kV := fun (v : World) (hv : Fmt v) => iunpack_any q hq U hU1 v hv
            rw [hfar] at kV
            simp only [dv] at kE
            simp only [pv] at kV
            refine (ibnd_out (q : Int) U R _ _ _ _ _ _ _ m0 kE kV (by omega) (by omega)).mono ?_
            rintro e v18 ⟨rfl, hb⟩
            replace b0 := b0.trans (hb.mono b0.size)
            replace m0 := m0.below hb
            replace cw := cw.below hb
            replace cu := cu.below hb
            replace cd := cd.below hb
            replace ca := ca.below hb
            replace cb := cb.below hb
            replace cf := cf.below hb
            replace cx := cx.below hb
            replace rA := rA.below hb
            replace rB := rB.below hb
            replace rC := rC.below hb
            clear hb
            have cw0 := cw.cell 0 (x := .int .u64 (M.hiN X : Int)) rfl
            have cw1 := cw.cell 1 (x := .int .u64 (M.loN X : Int)) rfl
            have cu0 := cu.cell 0 (x := .int .u64 (M.hiN U : Int)) rfl
            have cu1 := cu.cell 1 (x := .int .u64 (M.loN U : Int)) rfl
            have cd0 := cd.cell 0 (x := .int .u64 (M.hiN Z : Int)) rfl
            have cd1 := cd.cell 1 (x := .int .u64 (M.loN Z : Int)) rfl
            have ca0 := ca.cell 0 (x := .int .u64 (M.hiN X : Int)) rfl
            have ca1 := ca.cell 1 (x := .int .u64 (M.loN X : Int)) rfl
            have cb0 := cb.cell 0 (x := .int .u64 (M.hiN X : Int)) rfl
            have cb1 := cb.cell 1 (x := .int .u64 (M.loN X : Int)) rfl
            have cf0 := cf.cell 0 (x := .int .u64 (M.hiN U : Int)) rfl
            have cf1 := cf.cell 1 (x := .int .u64 (M.loN U : Int)) rfl
            have cx0 := cx.cell 0 (x := .slice xa (L A).length xca) rfl
            have cx1 := cx.cell 1 (x := .slice xb (L B).length xcb) rfl
            have cx2 := cx.cell 2 (x := .slice xc (L C).length xcc) rfl
            have cx3 := cx.cell 3 (x := .bool cl) rfl
            have cx4 := cx.cell 4 (x := .bool true) rfl
            have AB := (Below.refl _ v18).alloc (Nat.le_refl _) (.cells #[.slice none 0 0, .slice none 0 0, .slice none 0 0, .bool false, .bool false] 33)
            have cwx0 := (cw.below AB).cell 0 (x := .int .u64 (M.hiN X : Int)) rfl
            have cwx1 := (cw.below AB).cell 1 (x := .int .u64 (M.loN X : Int)) rfl
            have cux0 := (cu.below AB).cell 0 (x := .int .u64 (M.hiN U : Int)) rfl
            have cux1 := (cu.below AB).cell 1 (x := .int .u64 (M.loN U : Int)) rfl
            have cdx0 := (cd.below AB).cell 0 (x := .int .u64 (M.hiN Z : Int)) rfl
            have cdx1 := (cd.below AB).cell 1 (x := .int .u64 (M.loN Z : Int)) rfl
            have cax0 := (ca.below AB).cell 0 (x := .int .u64 (M.hiN X : Int)) rfl
            have cax1 := (ca.below AB).cell 1 (x := .int .u64 (M.loN X : Int)) rfl
            have cbx0 := (cb.below AB).cell 0 (x := .int .u64 (M.hiN X : Int)) rfl
            have cbx1 := (cb.below AB).cell 1 (x := .int .u64 (M.loN X : Int)) rfl
            have cfx0 := (cf.below AB).cell 0 (x := .int .u64 (M.hiN U : Int)) rfl
            have cfx1 := (cf.below AB).cell 1 (x := .int .u64 (M.loN U : Int)) rfl
            have cxx0 := (cx.below AB).cell 0 (x := .slice xa (L A).length xca) rfl
            have cxx1 := (cx.below AB).cell 1 (x := .slice xb (L B).length xcb) rfl
            have cxx2 := (cx.below AB).cell 2 (x := .slice xc (L C).length xcc) rfl
            have cxx3 := (cx.below AB).cell 3 (x := .bool cl) rfl
            have cxx4 := (cx.below AB).cell 4 (x := .bool true) rfl
            go_wp2_with fail
            clear AB
            clear cw0
            clear cw1
            clear cu0
            clear cu1
            clear cd0
            clear cd1
            clear ca0
            clear ca1
            clear cb0
            clear cb1
            clear cf0
            clear cf1
            clear cx0
            clear cx1
            clear cx2
            clear cx3
            clear cx4
            clear cwx0
            clear cwx1
            clear cux0
            clear cux1
            clear cdx0
            clear cdx1
            clear cax0
            clear cax1
            clear cbx0
            clear cbx1
            clear cfx0
            clear cfx1
            clear cxx0
            clear cxx1
            clear cxx2
            clear cxx3
            clear cxx4
            have cy := Cls.new v18 #[.slice none 0 0, .slice none 0 0, .slice none 0 0, .bool false, .bool false] 33
            have hb := (Below.refl _ v18).alloc (Nat.le_refl _) (.cells #[.slice none 0 0, .slice none 0 0, .slice none 0 0, .bool false, .bool false] 33)
            replace cw := cw.below hb
            replace cu := cu.below hb
            replace cd := cd.below hb
            replace ca := ca.below hb
            replace cb := cb.below hb
            replace cf := cf.below hb
            replace cx := cx.below hb
            replace rA := rA.below hb
            replace rB := rB.below hb
            replace rC := rC.below hb
            replace b0 := b0.trans (hb.mono b0.size)
            replace m0 := m0.below hb
            clear hb
            have szcy : (v18.alloc (.cells #[.slice none 0 0, .slice none 0 0, .slice none 0 0, .bool false, .bool false] 33)).heap.size = v18.heap.size + 1 := by simp
            obtain ⟨gcy, hgcy⟩ : ∃ g, g = v18.heap.size := ⟨_, rfl⟩
            rw [← hgcy] at cy szcy ⊢
            clear hgcy
            generalize v18.alloc (.cells #[.slice none 0 0, .slice none 0 0, .slice none 0 0, .bool false, .bool false] 33) = v19 at cw cu cd ca cb cf cx rA rB rC cy b0 m0 szcy ⊢
            clear szcy
            refine (kR _).mono ?_
            rintro e v20 ⟨rfl, hb⟩
            replace b0 := b0.trans (hb.mono b0.size)
            replace m0 := m0.below hb
            replace cw := cw.below hb
            replace cu := cu.below hb
            replace cd := cd.below hb
            replace ca := ca.below hb
            replace cb := cb.below hb
            replace cf := cf.below hb
            replace cx := cx.below hb
            replace cy := cy.below hb
            replace rA := rA.below hb
            replace rB := rB.below hb
            replace rC := rC.below hb
            clear hb
            have cw0 := cw.cell 0 (x := .int .u64 (M.hiN X : Int)) rfl
            have cw1 := cw.cell 1 (x := .int .u64 (M.loN X : Int)) rfl
            have cu0 := cu.cell 0 (x := .int .u64 (M.hiN U : Int)) rfl
            have cu1 := cu.cell 1 (x := .int .u64 (M.loN U : Int)) rfl
            have cd0 := cd.cell 0 (x := .int .u64 (M.hiN Z : Int)) rfl
            have cd1 := cd.cell 1 (x := .int .u64 (M.loN Z : Int)) rfl
            have ca0 := ca.cell 0 (x := .int .u64 (M.hiN X : Int)) rfl
            have ca1 := ca.cell 1 (x := .int .u64 (M.loN X : Int)) rfl
            have cb0 := cb.cell 0 (x := .int .u64 (M.hiN X : Int)) rfl
            have cb1 := cb.cell 1 (x := .int .u64 (M.loN X : Int)) rfl
            have cf0 := cf.cell 0 (x := .int .u64 (M.hiN U : Int)) rfl
            have cf1 := cf.cell 1 (x := .int .u64 (M.loN U : Int)) rfl
            have cx0 := cx.cell 0 (x := .slice xa (L A).length xca) rfl
            have cx1 := cx.cell 1 (x := .slice xb (L B).length xcb) rfl
            have cx2 := cx.cell 2 (x := .slice xc (L C).length xcc) rfl
            have cx3 := cx.cell 3 (x := .bool cl) rfl
            have cx4 := cx.cell 4 (x := .bool true) rfl
            have cy0 := cy.cell 0 (x := .slice none 0 0) rfl
            have cy1 := cy.cell 1 (x := .slice none 0 0) rfl
            have cy2 := cy.cell 2 (x := .slice none 0 0) rfl
            have cy3 := cy.cell 3 (x := .bool false) rfl
            have cy4 := cy.cell 4 (x := .bool false) rfl
            have h4b : (R.c == 4) = true := by simp [h4]
            go_wp2_with fail
            go_ret
            exact ⟨rfl, b0⟩
          · skip
            have hc2 : R.c = 2 ∨ R.c = 3 := by omega
            refine (ibounds_any q hq U hU1 _ m0 R hfar.symm hc2).mono ?_
            rintro e v18 ⟨ya, yca, yb, ycb, yc, ycc, i3, i4, rfl, j1, j2, j3, pA, pB, pC, hb⟩
            replace b0 := b0.trans (hb.mono b0.size)
            replace m0 := m0.below hb
            replace cw := cw.below hb
            replace cu := cu.below hb
            replace cd := cd.below hb
            replace ca := ca.below hb
            replace cb := cb.below hb
            replace cf := cf.below hb
            replace cx := cx.below hb
            replace rA := rA.below hb
            replace rB := rB.below hb
            replace rC := rC.below hb
            clear hb
            obtain ⟨A2, hA2⟩ : ∃ A, A = bA (M.fm q) R := ⟨_, rfl⟩
            obtain ⟨B2, hB2⟩ : ∃ B, B = bB R := ⟨_, rfl⟩
            obtain ⟨C2, hC2⟩ : ∃ C, C = bC R := ⟨_, rfl⟩
            obtain ⟨cl2, hcl2⟩ : ∃ cl : Bool, cl = decide (R.s % 2 = 0) := ⟨_, rfl⟩
            rw [← hA2] at pA ⊢
            rw [← hB2] at pB ⊢
            rw [← hC2] at pC ⊢
            rw [← hcl2]
            have HA2 := hid hA2; have HB2 := hid hB2; have HC2 := hid hC2; have HCL2 := hid hcl2
            clear hA2 hB2 hC2 hcl2
            have sA := pA.rd; have sB := pB.rd; have sC := pC.rd
            clear pA pB pC j1 j2 j3
            have cw0 := cw.cell 0 (x := .int .u64 (M.hiN X : Int)) rfl
            have cw1 := cw.cell 1 (x := .int .u64 (M.loN X : Int)) rfl
            have cu0 := cu.cell 0 (x := .int .u64 (M.hiN U : Int)) rfl
            have cu1 := cu.cell 1 (x := .int .u64 (M.loN U : Int)) rfl
            have cd0 := cd.cell 0 (x := .int .u64 (M.hiN Z : Int)) rfl
            have cd1 := cd.cell 1 (x := .int .u64 (M.loN Z : Int)) rfl
            have ca0 := ca.cell 0 (x := .int .u64 (M.hiN X : Int)) rfl
            have ca1 := ca.cell 1 (x := .int .u64 (M.loN X : Int)) rfl
            have cb0 := cb.cell 0 (x := .int .u64 (M.hiN X : Int)) rfl
            have cb1 := cb.cell 1 (x := .int .u64 (M.loN X : Int)) rfl
            have cf0 := cf.cell 0 (x := .int .u64 (M.hiN U : Int)) rfl
            have cf1 := cf.cell 1 (x := .int .u64 (M.loN U : Int)) rfl
            have cx0 := cx.cell 0 (x := .slice xa (L A).length xca) rfl
            have cx1 := cx.cell 1 (x := .slice xb (L B).length xcb) rfl
            have cx2 := cx.cell 2 (x := .slice xc (L C).length xcc) rfl
            have cx3 := cx.cell 3 (x := .bool cl) rfl
            have cx4 := cx.cell 4 (x := .bool true) rfl
            have AB := (Below.refl _ v18).alloc (Nat.le_refl _) (.cells #[.slice ya (L A2).length yca, .slice yb (L B2).length ycb, .slice yc (L C2).length ycc, .bool cl2, .bool true] 33)
            have cwx0 := (cw.below AB).cell 0 (x := .int .u64 (M.hiN X : Int)) rfl
            have cwx1 := (cw.below AB).cell 1 (x := .int .u64 (M.loN X : Int)) rfl
            have cux0 := (cu.below AB).cell 0 (x := .int .u64 (M.hiN U : Int)) rfl
            have cux1 := (cu.below AB).cell 1 (x := .int .u64 (M.loN U : Int)) rfl
            have cdx0 := (cd.below AB).cell 0 (x := .int .u64 (M.hiN Z : Int)) rfl
            have cdx1 := (cd.below AB).cell 1 (x := .int .u64 (M.loN Z : Int)) rfl
            have cax0 := (ca.below AB).cell 0 (x := .int .u64 (M.hiN X : Int)) rfl
            have cax1 := (ca.below AB).cell 1 (x := .int .u64 (M.loN X : Int)) rfl
            have cbx0 := (cb.below AB).cell 0 (x := .int .u64 (M.hiN X : Int)) rfl
            have cbx1 := (cb.below AB).cell 1 (x := .int .u64 (M.loN X : Int)) rfl
            have cfx0 := (cf.below AB).cell 0 (x := .int .u64 (M.hiN U : Int)) rfl
            have cfx1 := (cf.below AB).cell 1 (x := .int .u64 (M.loN U : Int)) rfl
            have cxx0 := (cx.below AB).cell 0 (x := .slice xa (L A).length xca) rfl
            have cxx1 := (cx.below AB).cell 1 (x := .slice xb (L B).length xcb) rfl
            have cxx2 := (cx.below AB).cell 2 (x := .slice xc (L C).length xcc) rfl
            have cxx3 := (cx.below AB).cell 3 (x := .bool cl) rfl
            have cxx4 := (cx.below AB).cell 4 (x := .bool true) rfl
            go_wp2_with fail
            clear AB
            clear cw0
            clear cw1
            clear cu0
            clear cu1
            clear cd0
            clear cd1
            clear ca0
            clear ca1
            clear cb0
            clear cb1
            clear cf0
            clear cf1
            clear cx0
            clear cx1
            clear cx2
            clear cx3
            clear cx4
            clear cwx0
            clear cwx1
            clear cux0
            clear cux1
            clear cdx0
            clear cdx1
            clear cax0
            clear cax1
            clear cbx0
            clear cbx1
            clear cfx0
            clear cfx1
            clear cxx0
            clear cxx1
            clear cxx2
            clear cxx3
            clear cxx4
            have cy := Cls.new v18 #[.slice ya (L A2).length yca, .slice yb (L B2).length ycb, .slice yc (L C2).length ycc, .bool cl2, .bool true] 33
            have hb := (Below.refl _ v18).alloc (Nat.le_refl _) (.cells #[.slice ya (L A2).length yca, .slice yb (L B2).length ycb, .slice yc (L C2).length ycc, .bool cl2, .bool true] 33)
            replace cw := cw.below hb
            replace cu := cu.below hb
            replace cd := cd.below hb
            replace ca := ca.below hb
            replace cb := cb.below hb
            replace cf := cf.below hb
            replace cx := cx.below hb
            replace rA := rA.below hb
            replace rB := rB.below hb
            replace rC := rC.below hb
            replace sA := sA.below hb
            replace sB := sB.below hb
            replace sC := sC.below hb
            replace b0 := b0.trans (hb.mono b0.size)
            replace m0 := m0.below hb
            clear hb
            have szcy : (v18.alloc (.cells #[.slice ya (L A2).length yca, .slice yb (L B2).length ycb, .slice yc (L C2).length ycc, .bool cl2, .bool true] 33)).heap.size = v18.heap.size + 1 := by simp
            obtain ⟨gcy, hgcy⟩ : ∃ g, g = v18.heap.size := ⟨_, rfl⟩
            rw [← hgcy] at cy szcy ⊢
            clear hgcy
            generalize v18.alloc (.cells #[.slice ya (L A2).length yca, .slice yb (L B2).length ycb, .slice yc (L C2).length ycc, .bool cl2, .bool true] 33) = v19 at cw cu cd ca cb cf cx rA rB rC sA sB sC cy b0 m0 szcy ⊢
            clear szcy
            refine (kR _).mono ?_
            rintro e v20 ⟨rfl, hb⟩
            replace b0 := b0.trans (hb.mono b0.size)
            replace m0 := m0.below hb
            replace cw := cw.below hb
            replace cu := cu.below hb
            replace cd := cd.below hb
            replace ca := ca.below hb
            replace cb := cb.below hb
            replace cf := cf.below hb
            replace cx := cx.below hb
            replace cy := cy.below hb
            replace rA := rA.below hb
            replace rB := rB.below hb
            replace rC := rC.below hb
            replace sA := sA.below hb
            replace sB := sB.below hb
            replace sC := sC.below hb
            clear hb
            have cw0 := cw.cell 0 (x := .int .u64 (M.hiN X : Int)) rfl
            have cw1 := cw.cell 1 (x := .int .u64 (M.loN X : Int)) rfl
            have cu0 := cu.cell 0 (x := .int .u64 (M.hiN U : Int)) rfl
            have cu1 := cu.cell 1 (x := .int .u64 (M.loN U : Int)) rfl
            have cd0 := cd.cell 0 (x := .int .u64 (M.hiN Z : Int)) rfl
            have cd1 := cd.cell 1 (x := .int .u64 (M.loN Z : Int)) rfl
            have ca0 := ca.cell 0 (x := .int .u64 (M.hiN X : Int)) rfl
            have ca1 := ca.cell 1 (x := .int .u64 (M.loN X : Int)) rfl
            have cb0 := cb.cell 0 (x := .int .u64 (M.hiN X : Int)) rfl
            have cb1 := cb.cell 1 (x := .int .u64 (M.loN X : Int)) rfl
            have cf0 := cf.cell 0 (x := .int .u64 (M.hiN U : Int)) rfl
            have cf1 := cf.cell 1 (x := .int .u64 (M.loN U : Int)) rfl
            have cx0 := cx.cell 0 (x := .slice xa (L A).length xca) rfl
            have cx1 := cx.cell 1 (x := .slice xb (L B).length xcb) rfl
            have cx2 := cx.cell 2 (x := .slice xc (L C).length xcc) rfl
            have cx3 := cx.cell 3 (x := .bool cl) rfl
            have cx4 := cx.cell 4 (x := .bool true) rfl
            have cy0 := cy.cell 0 (x := .slice ya (L A2).length yca) rfl
            have cy1 := cy.cell 1 (x := .slice yb (L B2).length ycb) rfl
            have cy2 := cy.cell 2 (x := .slice yc (L C2).length ycc) rfl
            have cy3 := cy.cell 3 (x := .bool cl2) rfl
            have cy4 := cy.cell 4 (x := .bool true) rfl
            have h4b : (R.c == 4) = false := by simp; omega
            go_wp2_with fail
            clear cw0
            clear cw1
            clear cu0
            clear cu1
            clear cd0
            clear cd1
            clear ca0
            clear ca1
            clear cb0
            clear cb1
            clear cf0
            clear cf1
            clear cx0
            clear cx1
            clear cx2
            clear cx3
            clear cx4
            clear cy0
            clear cy1
            clear cy2
            clear cy3
            clear cy4
            obtain ⟨E, hE1, hE2⟩ : ∃ E : Nat, 17128 ≤ E ∧ E ≤ 19000 := ⟨17128, by omega, by omega⟩
            have hfT := bnd_len (fin_of hF hpT hc) E hE1
            have hpR : (M.fm q).Proper R := by rw [← hfar]; exact properU hF U (by rw [hfar]; exact hc2)
            have hfR := bnd_len (fin_of hF hpR hc2) E hE1
            have hsp := span_next hF T hpT hc (by rw [← HR.out]; exact hc2)
            rw [← HR.out, ← HB.out, ← HC.out, ← HA2.out, ← HC2.out, ← HCL.out, ← HCL2.out] at hsp
            rw [← HA.out, ← HB.out, ← HC.out] at hfT
            rw [← HA2.out, ← HB2.out, ← HC2.out] at hfR
            have hpl := prod_len B C2 E hfT.2.2.2.2.1 hfR.2.2.2.2.2 hE2
            have kM1 : ∀ u, Below v20.heap.size v20 u → Calls Tryd.prog 25 #[.slice xb (L B).length xcb, .slice yc (L C2).length ycc] u fun e w2 => Ret u w2 e (L (B * C2)) := fun u hu => by
              have := specNatMul_any xb yc (L B).length (L C2).length xcb ycc (L B) (L C2) u rfl rfl (by omega) (by omega) (F64_L _) (F64_L _) (rB.below hu) (sC.below hu)
              rwa [mul_L _ _ (by omega) (by omega)] at this
            have kM2 : ∀ u, Below v20.heap.size v20 u → Calls Tryd.prog 25 #[.slice ya (L A2).length yca, .slice xc (L C).length xcc] u fun e w2 => Ret u w2 e (L (B * C2)) := fun u hu => by
              have := specNatMul_any ya xc (L A2).length (L C).length yca xcc (L A2) (L C) u rfl rfl (by omega) (by omega) (F64_L _) (F64_L _) (sA.below hu) (rC.below hu)
              rwa [mul_L _ _ (by omega) (by omega), ← hsp.1] at this
            obtain ⟨PP, hPP⟩ : ∃ PP, PP = L (B * C2) := ⟨_, rfl⟩
            have kC : ∀ u (pa pb : Option Addr) (pc pd : Nat), Rd u pa PP → Rd u pb PP → Calls Tryd.prog 24 #[.slice pa PP.length pc, .slice pb PP.length pd] u fun e w2 => e = .returned (.int .i64 0) ∧ Below u.heap.size u w2 := fun u pa pb pc pd ha hb => by
              have := specNatCmp_any pa pb PP.length PP.length pc pd PP PP u rfl rfl (by rw [hPP]; omega) (by rw [hPP]; omega) (by rw [hPP]; exact F64_L _) (by rw [hPP]; exact F64_L _) ha hb
              rwa [hPP, cmp_L _ (by omega), ← hPP] at this
            rw [← hPP] at kM1 kM2
            have HPP := hid hPP
            clear hPP hfT hfR hpl
            have hne := hsp.2
            clear hsp
            have KB : ∀ u, Below v20.heap.size v20 u → (fun u => u.cell? ⟨gcx, 1, none⟩ = some (.slice xb (L B).length xcb) ∧ u.cell? ⟨gcx, 2, none⟩ = some (.slice xc (L C).length xcc) ∧ u.cell? ⟨gcx, 3, none⟩ = some (.bool cl) ∧ u.cell? ⟨gcy, 0, none⟩ = some (.slice ya (L A2).length yca) ∧ u.cell? ⟨gcy, 2, none⟩ = some (.slice yc (L C2).length ycc) ∧ u.cell? ⟨gcy, 3, none⟩ = some (.bool cl2) ∧ u.cell? ⟨gcy, 4, none⟩ = some (.bool true)) u := fun u hu => ⟨(cx.below hu).cell 1 rfl, (cx.below hu).cell 2 rfl, (cx.below hu).cell 3 rfl, (cy.below hu).cell 0 rfl, (cy.below hu).cell 2 rfl, (cy.below hu).cell 3 rfl, (cy.below hu).cell 4 rfl⟩
            try clear kUp
            try clear kDn
            try clear kO1
            try clear kO2
            try clear kA
            try clear kB
            try clear kT
            try clear kR
            try clear kD
            try clear fc
            try clear fn
            try clear cw
            try clear cu
            try clear cd
            try clear ca
            try clear cb
            try clear cf
            try clear m0
            try clear hfar
            try clear hcl4
            try clear h4b
            try clear h4
            try clear hc2
            try clear hpR
            try clear hpT
            try clear hc
            try clear hcc
            try clear hcb
            try clear hF
            try clear nh
            try clear nl
            try clear LE0
            try clear necw
            try clear necu
            try clear necd
            try clear neca
            try clear necb
            try clear HT
            try clear HU
            try clear HZ
            try clear HA
            try clear HB
            try clear HC
            try clear HCL
            try clear HA2
            try clear HB2
            try clear HC2
            try clear HCL2
            try clear HR
            try clear HPP
            try clear hE1
            try clear hE2
            try clear rA
            try clear rB
            try clear rC
            try clear sA
            try clear sB
            try clear sC
            try clear hU1
            try clear hZ1
            try clear hX
            try clear hn
            try clear cx
            try clear cy
            have A0 : Below v20.heap.size v20 v20.drew := (Below.refl _ _).drew
            refine wp_region_held_drew (S := fun u => u.cell? ⟨gcx, 1, none⟩ = some (.slice xb (L B).length xcb) ∧ u.cell? ⟨gcx, 2, none⟩ = some (.slice xc (L C).length xcc) ∧ u.cell? ⟨gcx, 3, none⟩ = some (.bool cl) ∧ u.cell? ⟨gcy, 0, none⟩ = some (.slice ya (L A2).length yca) ∧ u.cell? ⟨gcy, 2, none⟩ = some (.slice yc (L C2).length ycc) ∧ u.cell? ⟨gcy, 3, none⟩ = some (.bool cl2) ∧ u.cell? ⟨gcy, 4, none⟩ = some (.bool true)) (by kernel_rfl) (KB _ A0) (fun hS => ?_)
            refine wpAnyH_take (i := 0) (v := ?_) rfl (by kernel_rfl) (by kernel_rfl) (by kernel_rfl) (fun _ _ _ h => h) (Or.inl ⟨by kernel_rfl, ?_⟩) hS ?_
            rotate_left
            · (intro u hSu; obtain ⟨s1, s2, s3, s4, s5, s6, s7⟩ := hSu; first | (go_simp; done) | (go_simp; with_reducible rfl) | with_reducible rfl)
            refine wpAnyH_take (i := 1) (v := ?_) rfl (by kernel_rfl) (by kernel_rfl) (by kernel_rfl) (fun _ _ _ h => h) (Or.inl ⟨by kernel_rfl, ?_⟩) hS ?_
            rotate_left
            · (intro u hSu; obtain ⟨s1, s2, s3, s4, s5, s6, s7⟩ := hSu; first | (go_simp; done) | (go_simp; with_reducible rfl) | with_reducible rfl)
            refine wpAnyH_take (i := 2) (v := ?_) rfl (by kernel_rfl) (by kernel_rfl) (by kernel_rfl) (fun _ _ _ h => h) (Or.inl ⟨by kernel_rfl, ?_⟩) hS ?_
            rotate_left
            · (intro u hSu; obtain ⟨s1, s2, s3, s4, s5, s6, s7⟩ := hSu; first | (go_simp; done) | (go_simp; with_reducible rfl) | with_reducible rfl)
            refine wpAnyH_take (i := 3) (v := ?_) rfl (by kernel_rfl) (by kernel_rfl) (by kernel_rfl) (fun _ _ _ h => h) (Or.inl ⟨by kernel_rfl, ?_⟩) hS ?_
            rotate_left
            · (intro u hSu; obtain ⟨s1, s2, s3, s4, s5, s6, s7⟩ := hSu; first | (go_simp; done) | (go_simp; with_reducible rfl) | with_reducible rfl)
            refine wpAnyH_take (i := 4) (v := ?_) rfl (by kernel_rfl) (by kernel_rfl) (by kernel_rfl) (fun _ _ _ h => h) (Or.inl ⟨by kernel_rfl, ?_⟩) hS ?_
            rotate_left
            · (intro u hSu; obtain ⟨s1, s2, s3, s4, s5, s6, s7⟩ := hSu; first | (go_simp; done) | (go_simp; with_reducible rfl) | with_reducible rfl)
            refine wpAnyH_take (i := 5) (v := ?_) rfl (by kernel_rfl) (by kernel_rfl) (by kernel_rfl) (fun _ _ _ h => h) (Or.inl ⟨by kernel_rfl, ?_⟩) hS ?_
            rotate_left
            · (intro u hSu; obtain ⟨s1, s2, s3, s4, s5, s6, s7⟩ := hSu; first | (go_simp; done) | (go_simp; with_reducible rfl) | with_reducible rfl)
            refine wpAnyH_take (i := 6) (v := ?_) rfl (by kernel_rfl) (by kernel_rfl) (by kernel_rfl) (fun _ _ _ h => h) (Or.inl ⟨by kernel_rfl, ?_⟩) hS ?_
            rotate_left
            · (intro u hSu; obtain ⟨s1, s2, s3, s4, s5, s6, s7⟩ := hSu; first | (go_simp; done) | (go_simp; with_reducible rfl) | with_reducible rfl)
            refine wpAnyH_take (i := 8) (v := ?_) rfl (by kernel_rfl) (by kernel_rfl) (by kernel_rfl) (fun _ _ _ h => h) (Or.inl ⟨by kernel_rfl, ?_⟩) hS ?_
            rotate_left
            · (intro u hSu; obtain ⟨s1, s2, s3, s4, s5, s6, s7⟩ := hSu; first | (go_simp; done) | (go_simp; with_reducible rfl) | with_reducible rfl)
            refine wpAnyH_take (i := 9) (v := ?_) rfl (by kernel_rfl) (by kernel_rfl) (by kernel_rfl) (fun _ _ _ h => h) (Or.inl ⟨by kernel_rfl, ?_⟩) hS ?_
            rotate_left
            · (intro u hSu; obtain ⟨s1, s2, s3, s4, s5, s6, s7⟩ := hSu; first | (go_simp; done) | (go_simp; with_reducible rfl) | with_reducible rfl)
            refine wpAnyH_take (i := 10) (v := ?_) rfl (by kernel_rfl) (by kernel_rfl) (by kernel_rfl) (fun _ _ _ h => h) (Or.inl ⟨by kernel_rfl, ?_⟩) hS ?_
            rotate_left
            · (intro u hSu; obtain ⟨s1, s2, s3, s4, s5, s6, s7⟩ := hSu; first | (go_simp; done) | (go_simp; with_reducible rfl) | with_reducible rfl)
            refine wpAnyH_take (i := 11) (v := ?_) rfl (by kernel_rfl) (by kernel_rfl) (by kernel_rfl) (fun _ _ _ h => h) (Or.inl ⟨by kernel_rfl, ?_⟩) hS ?_
            rotate_left
            · (intro u hSu; obtain ⟨s1, s2, s3, s4, s5, s6, s7⟩ := hSu; first | (go_simp; done) | (go_simp; with_reducible rfl) | with_reducible rfl)
            refine wpAnyH_ready (rs := [7]) (by kernel_rfl) (by simp) ?_
            refine AllReadyH.cons rfl (fun K hK => ?_) AllReadyH.nil
            go_simp
            go_at_call 25
            refine (kM1 _ A0).mono ?_
            rintro e u1 ⟨ma, mc, rfl, mo, hb0⟩
            have A1 := A0.trans (hb0.mono A0.size)
            have r1 := Rd.own mo
            clear A0 hb0 mo
            go_simp
            refine hK.out _ _ (KB _ A1) ?_
            clear hK K hS
            intro hS
            refine wpAnyH_ready (rs := [12]) (by kernel_rfl) (by simp) ?_
            refine AllReadyH.cons rfl (fun K hK => ?_) AllReadyH.nil
            go_simp
            go_at_call 25
            refine (kM2 _ A1).mono ?_
            rintro e u2 ⟨mb, md, rfl, mo, hb0⟩
            have A2x := A1.trans (hb0.mono A1.size)
            have r2 := Rd.own mo
            replace r1 := r1.below hb0
            clear A1 hb0 mo
            go_simp
            refine hK.out _ _ (KB _ A2x) ?_
            clear hK K hS
            intro hS
            refine wpAnyH_ready (rs := [13]) (by kernel_rfl) (by simp) ?_
            refine AllReadyH.cons rfl (fun K hK => ?_) AllReadyH.nil
            go_simp
            go_at_call 24
            refine (kC _ ma mb mc md r1 r2).mono ?_
            rintro e u3 ⟨rfl, hb0⟩
            have A3 := A2x.trans (hb0.mono A2x.size)
            clear A2x hb0 r1 r2
            go_simp
            refine hK.out _ _ (KB _ A3) ?_
            clear hK K hS
            intro hS
            refine wpAnyH_take (i := 14) (v := ?_) rfl (by kernel_rfl) (by kernel_rfl) (by kernel_rfl) (fun _ _ _ h => h) (Or.inl ⟨by kernel_rfl, ?_⟩) hS ?_
            rotate_left
            · (intro u hSu; obtain ⟨s1, s2, s3, s4, s5, s6, s7⟩ := hSu; first | (go_simp; done) | (go_simp; with_reducible rfl) | with_reducible rfl)
            refine wpAnyH_take (i := 15) (v := ?_) rfl (by kernel_rfl) (by kernel_rfl) (by kernel_rfl) (fun _ _ _ h => h) (Or.inl ⟨by kernel_rfl, ?_⟩) hS ?_
            rotate_left
            · (intro u hSu; obtain ⟨s1, s2, s3, s4, s5, s6, s7⟩ := hSu; first | (go_simp; done) | (go_simp; with_reducible rfl) | with_reducible rfl)
            refine wpAnyH_take (i := 16) (v := ?_) rfl (by kernel_rfl) (by kernel_rfl) (by kernel_rfl) (fun _ _ _ h => h) (Or.inl ⟨by kernel_rfl, ?_⟩) hS ?_
            rotate_left
            · (intro u hSu; obtain ⟨s1, s2, s3, s4, s5, s6, s7⟩ := hSu; first | (go_simp; done) | (go_simp; with_reducible rfl) | with_reducible rfl)
            refine wpAnyH_take (i := 17) (v := ?_) rfl (by kernel_rfl) (by kernel_rfl) (by kernel_rfl) (fun _ _ _ h => h) (Or.inl ⟨by kernel_rfl, ?_⟩) hS ?_
            rotate_left
            · (intro u hSu; obtain ⟨s1, s2, s3, s4, s5, s6, s7⟩ := hSu; first | (go_simp; done) | (go_simp; with_reducible rfl) | with_reducible rfl)
            refine wpAnyH_take (i := 18) (v := ?_) rfl (by kernel_rfl) (by kernel_rfl) (by kernel_rfl) (fun _ _ _ h => h) (Or.inl ⟨by kernel_rfl, ?_⟩) hS ?_
            rotate_left
            · (intro u hSu; obtain ⟨s1, s2, s3, s4, s5, s6, s7⟩ := hSu; first | (go_simp; done) | (go_simp; with_reducible rfl) | with_reducible rfl)
            refine wpAnyH_take (i := 19) (v := ?_) rfl (by kernel_rfl) (by kernel_rfl) (by kernel_rfl) (fun _ _ _ h => h) (Or.inl ⟨by kernel_rfl, ?_⟩) hS ?_
            rotate_left
            · (intro u hSu; obtain ⟨s1, s2, s3, s4, s5, s6, s7⟩ := hSu; first | (go_simp; done) | (go_simp; with_reducible rfl) | with_reducible rfl)
            refine wpAnyH_take (i := 20) (v := ?_) rfl (by kernel_rfl) (by kernel_rfl) (by kernel_rfl) (fun _ _ _ h => h) (Or.inl ⟨by kernel_rfl, ?_⟩) hS ?_
            rotate_left
            · (intro u hSu; obtain ⟨s1, s2, s3, s4, s5, s6, s7⟩ := hSu; first | (go_simp; done) | (go_simp; with_reducible rfl) | with_reducible rfl)
            refine wpAnyH_take (i := 21) (v := ?_) rfl (by kernel_rfl) (by kernel_rfl) (by kernel_rfl) (fun _ _ _ h => h) (Or.inl ⟨by kernel_rfl, ?_⟩) hS ?_
            rotate_left
            · (intro u hSu; obtain ⟨s1, s2, s3, s4, s5, s6, s7⟩ := hSu; first | (go_simp; done) | (go_simp; with_reducible rfl) | with_reducible rfl)
            refine wpAnyH_take (i := 22) (v := ?_) rfl (by kernel_rfl) (by kernel_rfl) (by kernel_rfl) (fun _ _ _ h => h) (Or.inl ⟨by kernel_rfl, ?_⟩) hS ?_
            rotate_left
            · (intro u hSu; obtain ⟨s1, s2, s3, s4, s5, s6, s7⟩ := hSu; first | (go_simp; done) | (go_simp; with_reducible rfl) | with_reducible rfl)
            refine wpAnyH_ready (rs := [23]) (by kernel_rfl) (by simp) ?_
            refine AllReadyH.cons rfl (fun K hK => ?_) AllReadyH.nil
            go_simp
            refine hK.out _ _ (KB _ A3) ?_
            clear hK K hS
            intro hS
            refine wpAnyH_done (by kernel_rfl) ?_ _
            all_goals have HB9 := hid (b0.trans (A3.mono b0.size))
            all_goals go_wp2_with fail
            all_goals go_ret
            all_goals refine ⟨?_, HB9.out⟩
            all_goals clear HB9
            all_goals revert hne
            all_goals cases cl <;> cases cl2 <;> first | (intro _; rfl) | (intro h; exact absurd h (by decide))
        · skip
          rw [hn] at hfar
          simp only [if_true] at hfar
          have cw0 := cw.cell 0 (x := .int .u64 (M.hiN X : Int)) rfl
          have cw1 := cw.cell 1 (x := .int .u64 (M.loN X : Int)) rfl
          have cu0 := cu.cell 0 (x := .int .u64 (M.hiN U : Int)) rfl
          have cu1 := cu.cell 1 (x := .int .u64 (M.loN U : Int)) rfl
          have cd0 := cd.cell 0 (x := .int .u64 (M.hiN Z : Int)) rfl
          have cd1 := cd.cell 1 (x := .int .u64 (M.loN Z : Int)) rfl
          have ca0 := ca.cell 0 (x := .int .u64 (M.hiN X : Int)) rfl
          have ca1 := ca.cell 1 (x := .int .u64 (M.loN X : Int)) rfl
          have cb0 := cb.cell 0 (x := .int .u64 (M.hiN X : Int)) rfl
          have cb1 := cb.cell 1 (x := .int .u64 (M.loN X : Int)) rfl
          have cf0 := cf.cell 0 (x := .int .u64 (M.hiN U : Int)) rfl
          have cf1 := cf.cell 1 (x := .int .u64 (M.loN U : Int)) rfl
          have cff0 := cf.frozen 0
          have cff1 := cf.frozen 1
          have cwy := (cw.far ⟨gcf, 0, none⟩ (by simp only; omega) (.int .u64 (M.hiN Z : Int))).far ⟨gcf, 1, none⟩ (by simp only; omega) (.int .u64 (M.loN Z : Int))
          have cwz0 := cwy.cell 0 (x := .int .u64 (M.hiN X : Int)) rfl
          have cwz1 := cwy.cell 1 (x := .int .u64 (M.loN X : Int)) rfl
          have cuy := (cu.far ⟨gcf, 0, none⟩ (by simp only; omega) (.int .u64 (M.hiN Z : Int))).far ⟨gcf, 1, none⟩ (by simp only; omega) (.int .u64 (M.loN Z : Int))
          have cuz0 := cuy.cell 0 (x := .int .u64 (M.hiN U : Int)) rfl
          have cuz1 := cuy.cell 1 (x := .int .u64 (M.loN U : Int)) rfl
          have cdy := (cd.far ⟨gcf, 0, none⟩ (by simp only; omega) (.int .u64 (M.hiN Z : Int))).far ⟨gcf, 1, none⟩ (by simp only; omega) (.int .u64 (M.loN Z : Int))
          have cdz0 := cdy.cell 0 (x := .int .u64 (M.hiN Z : Int)) rfl
          have cdz1 := cdy.cell 1 (x := .int .u64 (M.loN Z : Int)) rfl
          have cay := (ca.far ⟨gcf, 0, none⟩ (by simp only; omega) (.int .u64 (M.hiN Z : Int))).far ⟨gcf, 1, none⟩ (by simp only; omega) (.int .u64 (M.loN Z : Int))
          have caz0 := cay.cell 0 (x := .int .u64 (M.hiN X : Int)) rfl
          have caz1 := cay.cell 1 (x := .int .u64 (M.loN X : Int)) rfl
          have cby := (cb.far ⟨gcf, 0, none⟩ (by simp only; omega) (.int .u64 (M.hiN Z : Int))).far ⟨gcf, 1, none⟩ (by simp only; omega) (.int .u64 (M.loN Z : Int))
          have cbz0 := cby.cell 0 (x := .int .u64 (M.hiN X : Int)) rfl
          have cbz1 := cby.cell 1 (x := .int .u64 (M.loN X : Int)) rfl
          have cfy : Cls ((v15.setCell ⟨gcf, 0, none⟩ (.int .u64 (M.hiN Z : Int))).setCell ⟨gcf, 1, none⟩ (.int .u64 (M.loN Z : Int))) gcf #[.int .u64 (M.hiN Z : Int), .int .u64 (M.loN Z : Int)] 25 := (cf.set 0 _ _ rfl).set 1 _ _ rfl
          have cfz0 := cfy.cell 0 (x := .int .u64 (M.hiN Z : Int)) rfl
          have cfz1 := cfy.cell 1 (x := .int .u64 (M.loN Z : Int)) rfl
          have b0y : Below w.heap.size w ((v15.setCell ⟨gcf, 0, none⟩ (.int .u64 (M.hiN Z : Int))).setCell ⟨gcf, 1, none⟩ (.int .u64 (M.loN Z : Int))) := (b0.setCell (p := ⟨gcf, 0, none⟩) LE0 _).setCell (p := ⟨gcf, 1, none⟩) LE0 _
          go_wp2_with fail
          clear cw0
          clear cw1
          clear cu0
          clear cu1
          clear cd0
          clear cd1
          clear ca0
          clear ca1
          clear cb0
          clear cb1
          clear cf0
          clear cf1
          clear cff0 cff1
          clear cwz0
          clear cwz1
          clear cw
          clear cuz0
          clear cuz1
          clear cu
          clear cdz0
          clear cdz1
          clear cd
          clear caz0
          clear caz1
          clear ca
          clear cbz0
          clear cbz1
          clear cb
          clear cfz0
          clear cfz1
          clear cf
          clear b0 m0
          generalize (v15.setCell ⟨gcf, 0, none⟩ (.int .u64 (M.hiN Z : Int))).setCell ⟨gcf, 1, none⟩ (.int .u64 (M.loN Z : Int)) = v16 at cwy cuy cdy cay cby cfy b0y ⊢
          have cw := cwy
          clear cwy
          have cu := cuy
          clear cuy
          have cd := cdy
          clear cdy
          have ca := cay
          clear cay
          have cb := cby
          clear cby
          have cf := cfy
          clear cfy
          have b0 := b0y
          clear b0y
          have m0 := hm.below b0
          have kX := fun (v : World) (hv : Fmt v) => ibounds_any q hq X hX v hv T HT.out hc
          refine (kX _ m0).mono ?_
          rintro e v17 ⟨xa, xca, xb, xcb, xc, xcc, i1, i2, rfl, j1, j2, j3, oA, oB, oC, hb⟩
          replace b0 := b0.trans (hb.mono b0.size)
          replace m0 := m0.below hb
          replace cw := cw.below hb
          replace cu := cu.below hb
          replace cd := cd.below hb
          replace ca := ca.below hb
          replace cb := cb.below hb
          replace cf := cf.below hb
          clear hb
          obtain ⟨A, hA⟩ : ∃ A, A = bA (M.fm q) T := ⟨_, rfl⟩
          obtain ⟨B, hB⟩ : ∃ B, B = bB T := ⟨_, rfl⟩
          obtain ⟨C, hC⟩ : ∃ C, C = bC T := ⟨_, rfl⟩
          obtain ⟨cl, hcl⟩ : ∃ cl : Bool, cl = decide (T.s % 2 = 0) := ⟨_, rfl⟩
          rw [← hA] at oA ⊢
          rw [← hB] at oB ⊢
          rw [← hC] at oC ⊢
          rw [← hcl]
          have HA := hid hA; have HB := hid hB; have HC := hid hC; have HCL := hid hcl
          clear hA hB hC hcl kX
          have rA := oA.rd; have rB := oB.rd; have rC := oC.rd
          clear oA oB oC j1 j2 j3
          have cw0 := cw.cell 0 (x := .int .u64 (M.hiN X : Int)) rfl
          have cw1 := cw.cell 1 (x := .int .u64 (M.loN X : Int)) rfl
          have cu0 := cu.cell 0 (x := .int .u64 (M.hiN U : Int)) rfl
          have cu1 := cu.cell 1 (x := .int .u64 (M.loN U : Int)) rfl
          have cd0 := cd.cell 0 (x := .int .u64 (M.hiN Z : Int)) rfl
          have cd1 := cd.cell 1 (x := .int .u64 (M.loN Z : Int)) rfl
          have ca0 := ca.cell 0 (x := .int .u64 (M.hiN X : Int)) rfl
          have ca1 := ca.cell 1 (x := .int .u64 (M.loN X : Int)) rfl
          have cb0 := cb.cell 0 (x := .int .u64 (M.hiN X : Int)) rfl
          have cb1 := cb.cell 1 (x := .int .u64 (M.loN X : Int)) rfl
          have cf0 := cf.cell 0 (x := .int .u64 (M.hiN Z : Int)) rfl
          have cf1 := cf.cell 1 (x := .int .u64 (M.loN Z : Int)) rfl
          have AB := (Below.refl _ v17).alloc (Nat.le_refl _) (.cells #[.slice xa (L A).length xca, .slice xb (L B).length xcb, .slice xc (L C).length xcc, .bool cl, .bool true] 33)
          have cwx0 := (cw.below AB).cell 0 (x := .int .u64 (M.hiN X : Int)) rfl
          have cwx1 := (cw.below AB).cell 1 (x := .int .u64 (M.loN X : Int)) rfl
          have cux0 := (cu.below AB).cell 0 (x := .int .u64 (M.hiN U : Int)) rfl
          have cux1 := (cu.below AB).cell 1 (x := .int .u64 (M.loN U : Int)) rfl
          have cdx0 := (cd.below AB).cell 0 (x := .int .u64 (M.hiN Z : Int)) rfl
          have cdx1 := (cd.below AB).cell 1 (x := .int .u64 (M.loN Z : Int)) rfl
          have cax0 := (ca.below AB).cell 0 (x := .int .u64 (M.hiN X : Int)) rfl
          have cax1 := (ca.below AB).cell 1 (x := .int .u64 (M.loN X : Int)) rfl
          have cbx0 := (cb.below AB).cell 0 (x := .int .u64 (M.hiN X : Int)) rfl
          have cbx1 := (cb.below AB).cell 1 (x := .int .u64 (M.loN X : Int)) rfl
          have cfx0 := (cf.below AB).cell 0 (x := .int .u64 (M.hiN Z : Int)) rfl
          have cfx1 := (cf.below AB).cell 1 (x := .int .u64 (M.loN Z : Int)) rfl
          go_wp2_with fail
          clear AB
          clear cw0
          clear cw1
          clear cu0
          clear cu1
          clear cd0
          clear cd1
          clear ca0
          clear ca1
          clear cb0
          clear cb1
          clear cf0
          clear cf1
          clear cwx0
          clear cwx1
          clear cux0
          clear cux1
          clear cdx0
          clear cdx1
          clear cax0
          clear cax1
          clear cbx0
          clear cbx1
          clear cfx0
          clear cfx1
          have cx := Cls.new v17 #[.slice xa (L A).length xca, .slice xb (L B).length xcb, .slice xc (L C).length xcc, .bool cl, .bool true] 33
          have hb := (Below.refl _ v17).alloc (Nat.le_refl _) (.cells #[.slice xa (L A).length xca, .slice xb (L B).length xcb, .slice xc (L C).length xcc, .bool cl, .bool true] 33)
          replace cw := cw.below hb
          replace cu := cu.below hb
          replace cd := cd.below hb
          replace ca := ca.below hb
          replace cb := cb.below hb
          replace cf := cf.below hb
          replace rA := rA.below hb
          replace rB := rB.below hb
          replace rC := rC.below hb
          replace b0 := b0.trans (hb.mono b0.size)
          replace m0 := m0.below hb
          clear hb
          have szcx : (v17.alloc (.cells #[.slice xa (L A).length xca, .slice xb (L B).length xcb, .slice xc (L C).length xcc, .bool cl, .bool true] 33)).heap.size = v17.heap.size + 1 := by simp
          obtain ⟨gcx, hgcx⟩ : ∃ g, g = v17.heap.size := ⟨_, rfl⟩
          rw [← hgcx] at cx szcx ⊢
          clear hgcx
          generalize v17.alloc (.cells #[.slice xa (L A).length xca, .slice xb (L B).length xcb, .slice xc (L C).length xcc, .bool cl, .bool true] 33) = v18 at cw cu cd ca cb cf rA rB rC cx b0 m0 szcx ⊢
          clear szcx
          have hgr := hF.grow_eq T hpT hc
          rw [hn] at hgr
          rw [← hgr.1] at hfar
          obtain ⟨R, hR⟩ : ∃ R, R = (M.fm q).grow T := ⟨_, rfl⟩
          have hcl4 := hF.pat_class true ((M.fm q).rank T + 1) (by have := hgr.2; omega)
          rw [← hgr.1, ← hR] at hcl4
          rw [← hR] at hfar
          have kR := fun (v : World) => sunpack_any q hq Z hZ1 v
          rw [hfar] at kR
          simp only [pv] at kR
          have HR := hid hR
          clear hR hgr
          by_cases h4 : R.c = 4
          · skip
            have kE := fun (v : World) (hv : Fmt v) => describe_ok q hq v hv
            have kV := fun (v : World) (hv : Fmt v) => iunpack_any q hq Z hZ1 v hv
            rw [hfar] at kV
            simp only [dv] at kE
            simp only [pv] at kV
            refine (ibnd_out (q : Int) Z R _ _ _ _ _ _ _ m0 kE kV (by omega) (by omega)).mono ?_
            rintro e v19 ⟨rfl, hb⟩
            replace b0 := b0.trans (hb.mono b0.size)
            replace m0 := m0.below hb
            replace cw := cw.below hb
            replace cu := cu.below hb
            replace cd := cd.below hb
            replace ca := ca.below hb
            replace cb := cb.below hb
            replace cf := cf.below hb
            replace cx := cx.below hb
            replace rA := rA.below hb
            replace rB := rB.below hb
            replace rC := rC.below hb
            clear hb
            have cw0 := cw.cell 0 (x := .int .u64 (M.hiN X : Int)) rfl
            have cw1 := cw.cell 1 (x := .int .u64 (M.loN X : Int)) rfl
            have cu0 := cu.cell 0 (x := .int .u64 (M.hiN U : Int)) rfl
            have cu1 := cu.cell 1 (x := .int .u64 (M.loN U : Int)) rfl
            have cd0 := cd.cell 0 (x := .int .u64 (M.hiN Z : Int)) rfl
            have cd1 := cd.cell 1 (x := .int .u64 (M.loN Z : Int)) rfl
            have ca0 := ca.cell 0 (x := .int .u64 (M.hiN X : Int)) rfl
            have ca1 := ca.cell 1 (x := .int .u64 (M.loN X : Int)) rfl
            have cb0 := cb.cell 0 (x := .int .u64 (M.hiN X : Int)) rfl
            have cb1 := cb.cell 1 (x := .int .u64 (M.loN X : Int)) rfl
            have cf0 := cf.cell 0 (x := .int .u64 (M.hiN Z : Int)) rfl
            have cf1 := cf.cell 1 (x := .int .u64 (M.loN Z : Int)) rfl
            have cx0 := cx.cell 0 (x := .slice xa (L A).length xca) rfl
            have cx1 := cx.cell 1 (x := .slice xb (L B).length xcb) rfl
            have cx2 := cx.cell 2 (x := .slice xc (L C).length xcc) rfl
            have cx3 := cx.cell 3 (x := .bool cl) rfl
            have cx4 := cx.cell 4 (x := .bool true) rfl
            have AB := (Below.refl _ v19).alloc (Nat.le_refl _) (.cells #[.slice none 0 0, .slice none 0 0, .slice none 0 0, .bool false, .bool false] 33)
            have cwx0 := (cw.below AB).cell 0 (x := .int .u64 (M.hiN X : Int)) rfl
            have cwx1 := (cw.below AB).cell 1 (x := .int .u64 (M.loN X : Int)) rfl
            have cux0 := (cu.below AB).cell 0 (x := .int .u64 (M.hiN U : Int)) rfl
            have cux1 := (cu.below AB).cell 1 (x := .int .u64 (M.loN U : Int)) rfl
            have cdx0 := (cd.below AB).cell 0 (x := .int .u64 (M.hiN Z : Int)) rfl
            have cdx1 := (cd.below AB).cell 1 (x := .int .u64 (M.loN Z : Int)) rfl
            have cax0 := (ca.below AB).cell 0 (x := .int .u64 (M.hiN X : Int)) rfl
            have cax1 := (ca.below AB).cell 1 (x := .int .u64 (M.loN X : Int)) rfl
            have cbx0 := (cb.below AB).cell 0 (x := .int .u64 (M.hiN X : Int)) rfl
            have cbx1 := (cb.below AB).cell 1 (x := .int .u64 (M.loN X : Int)) rfl
            have cfx0 := (cf.below AB).cell 0 (x := .int .u64 (M.hiN Z : Int)) rfl
            have cfx1 := (cf.below AB).cell 1 (x := .int .u64 (M.loN Z : Int)) rfl
            have cxx0 := (cx.below AB).cell 0 (x := .slice xa (L A).length xca) rfl
            have cxx1 := (cx.below AB).cell 1 (x := .slice xb (L B).length xcb) rfl
            have cxx2 := (cx.below AB).cell 2 (x := .slice xc (L C).length xcc) rfl
            have cxx3 := (cx.below AB).cell 3 (x := .bool cl) rfl
            have cxx4 := (cx.below AB).cell 4 (x := .bool true) rfl
            go_wp2_with fail
            clear AB
            clear cw0
            clear cw1
            clear cu0
            clear cu1
            clear cd0
            clear cd1
            clear ca0
            clear ca1
            clear cb0
            clear cb1
            clear cf0
            clear cf1
            clear cx0
            clear cx1
            clear cx2
            clear cx3
            clear cx4
            clear cwx0
            clear cwx1
            clear cux0
            clear cux1
            clear cdx0
            clear cdx1
            clear cax0
            clear cax1
            clear cbx0
            clear cbx1
            clear cfx0
            clear cfx1
            clear cxx0
            clear cxx1
            clear cxx2
            clear cxx3
            clear cxx4
            have cy := Cls.new v19 #[.slice none 0 0, .slice none 0 0, .slice none 0 0, .bool false, .bool false] 33
            have hb := (Below.refl _ v19).alloc (Nat.le_refl _) (.cells #[.slice none 0 0, .slice none 0 0, .slice none 0 0, .bool false, .bool false] 33)
            replace cw := cw.below hb
            replace cu := cu.below hb
            replace cd := cd.below hb
            replace ca := ca.below hb
            replace cb := cb.below hb
            replace cf := cf.below hb
            replace cx := cx.below hb
            replace rA := rA.below hb
            replace rB := rB.below hb
            replace rC := rC.below hb
            replace b0 := b0.trans (hb.mono b0.size)
            replace m0 := m0.below hb
            clear hb
            have szcy : (v19.alloc (.cells #[.slice none 0 0, .slice none 0 0, .slice none 0 0, .bool false, .bool false] 33)).heap.size = v19.heap.size + 1 := by simp
            obtain ⟨gcy, hgcy⟩ : ∃ g, g = v19.heap.size := ⟨_, rfl⟩
            rw [← hgcy] at cy szcy ⊢
            clear hgcy
            generalize v19.alloc (.cells #[.slice none 0 0, .slice none 0 0, .slice none 0 0, .bool false, .bool false] 33) = v20 at cw cu cd ca cb cf cx rA rB rC cy b0 m0 szcy ⊢
            clear szcy
            refine (kR _).mono ?_
            rintro e v21 ⟨rfl, hb⟩
            replace b0 := b0.trans (hb.mono b0.size)
            replace m0 := m0.below hb
            replace cw := cw.below hb
            replace cu := cu.below hb
            replace cd := cd.below hb
            replace ca := ca.below hb
            replace cb := cb.below hb
            replace cf := cf.below hb
            replace cx := cx.below hb
            replace cy := cy.below hb
            replace rA := rA.below hb
            replace rB := rB.below hb
            replace rC := rC.below hb
            clear hb
            have cw0 := cw.cell 0 (x := .int .u64 (M.hiN X : Int)) rfl
            have cw1 := cw.cell 1 (x := .int .u64 (M.loN X : Int)) rfl
            have cu0 := cu.cell 0 (x := .int .u64 (M.hiN U : Int)) rfl
            have cu1 := cu.cell 1 (x := .int .u64 (M.loN U : Int)) rfl
            have cd0 := cd.cell 0 (x := .int .u64 (M.hiN Z : Int)) rfl
            have cd1 := cd.cell 1 (x := .int .u64 (M.loN Z : Int)) rfl
            have ca0 := ca.cell 0 (x := .int .u64 (M.hiN X : Int)) rfl
            have ca1 := ca.cell 1 (x := .int .u64 (M.loN X : Int)) rfl
            have cb0 := cb.cell 0 (x := .int .u64 (M.hiN X : Int)) rfl
            have cb1 := cb.cell 1 (x := .int .u64 (M.loN X : Int)) rfl
            have cf0 := cf.cell 0 (x := .int .u64 (M.hiN Z : Int)) rfl
            have cf1 := cf.cell 1 (x := .int .u64 (M.loN Z : Int)) rfl
            have cx0 := cx.cell 0 (x := .slice xa (L A).length xca) rfl
            have cx1 := cx.cell 1 (x := .slice xb (L B).length xcb) rfl
            have cx2 := cx.cell 2 (x := .slice xc (L C).length xcc) rfl
            have cx3 := cx.cell 3 (x := .bool cl) rfl
            have cx4 := cx.cell 4 (x := .bool true) rfl
            have cy0 := cy.cell 0 (x := .slice none 0 0) rfl
            have cy1 := cy.cell 1 (x := .slice none 0 0) rfl
            have cy2 := cy.cell 2 (x := .slice none 0 0) rfl
            have cy3 := cy.cell 3 (x := .bool false) rfl
            have cy4 := cy.cell 4 (x := .bool false) rfl
            have h4b : (R.c == 4) = true := by simp [h4]
            go_wp2_with fail
            go_ret
            exact ⟨rfl, b0⟩
          · skip
            have hc2 : R.c = 2 ∨ R.c = 3 := by omega
            refine (ibounds_any q hq Z hZ1 _ m0 R hfar.symm hc2).mono ?_
            rintro e v19 ⟨ya, yca, yb, ycb, yc, ycc, i3, i4, rfl, j1, j2, j3, pA, pB, pC, hb⟩
            replace b0 := b0.trans (hb.mono b0.size)
            replace m0 := m0.below hb
            replace cw := cw.below hb
            replace cu := cu.below hb
            replace cd := cd.below hb
            replace ca := ca.below hb
            replace cb := cb.below hb
            replace cf := cf.below hb
            replace cx := cx.below hb
            replace rA := rA.below hb
            replace rB := rB.below hb
            replace rC := rC.below hb
            clear hb
            obtain ⟨A2, hA2⟩ : ∃ A, A = bA (M.fm q) R := ⟨_, rfl⟩
            obtain ⟨B2, hB2⟩ : ∃ B, B = bB R := ⟨_, rfl⟩
            obtain ⟨C2, hC2⟩ : ∃ C, C = bC R := ⟨_, rfl⟩
            obtain ⟨cl2, hcl2⟩ : ∃ cl : Bool, cl = decide (R.s % 2 = 0) := ⟨_, rfl⟩
            rw [← hA2] at pA ⊢
            rw [← hB2] at pB ⊢
            rw [← hC2] at pC ⊢
            rw [← hcl2]
            have HA2 := hid hA2; have HB2 := hid hB2; have HC2 := hid hC2; have HCL2 := hid hcl2
            clear hA2 hB2 hC2 hcl2
            have sA := pA.rd; have sB := pB.rd; have sC := pC.rd
            clear pA pB pC j1 j2 j3
            have cw0 := cw.cell 0 (x := .int .u64 (M.hiN X : Int)) rfl
            have cw1 := cw.cell 1 (x := .int .u64 (M.loN X : Int)) rfl
            have cu0 := cu.cell 0 (x := .int .u64 (M.hiN U : Int)) rfl
            have cu1 := cu.cell 1 (x := .int .u64 (M.loN U : Int)) rfl
            have cd0 := cd.cell 0 (x := .int .u64 (M.hiN Z : Int)) rfl
            have cd1 := cd.cell 1 (x := .int .u64 (M.loN Z : Int)) rfl
            have ca0 := ca.cell 0 (x := .int .u64 (M.hiN X : Int)) rfl
            have ca1 := ca.cell 1 (x := .int .u64 (M.loN X : Int)) rfl
            have cb0 := cb.cell 0 (x := .int .u64 (M.hiN X : Int)) rfl
            have cb1 := cb.cell 1 (x := .int .u64 (M.loN X : Int)) rfl
            have cf0 := cf.cell 0 (x := .int .u64 (M.hiN Z : Int)) rfl
            have cf1 := cf.cell 1 (x := .int .u64 (M.loN Z : Int)) rfl
            have cx0 := cx.cell 0 (x := .slice xa (L A).length xca) rfl
            have cx1 := cx.cell 1 (x := .slice xb (L B).length xcb) rfl
            have cx2 := cx.cell 2 (x := .slice xc (L C).length xcc) rfl
            have cx3 := cx.cell 3 (x := .bool cl) rfl
            have cx4 := cx.cell 4 (x := .bool true) rfl
            have AB := (Below.refl _ v19).alloc (Nat.le_refl _) (.cells #[.slice ya (L A2).length yca, .slice yb (L B2).length ycb, .slice yc (L C2).length ycc, .bool cl2, .bool true] 33)
            have cwx0 := (cw.below AB).cell 0 (x := .int .u64 (M.hiN X : Int)) rfl
            have cwx1 := (cw.below AB).cell 1 (x := .int .u64 (M.loN X : Int)) rfl
            have cux0 := (cu.below AB).cell 0 (x := .int .u64 (M.hiN U : Int)) rfl
            have cux1 := (cu.below AB).cell 1 (x := .int .u64 (M.loN U : Int)) rfl
            have cdx0 := (cd.below AB).cell 0 (x := .int .u64 (M.hiN Z : Int)) rfl
            have cdx1 := (cd.below AB).cell 1 (x := .int .u64 (M.loN Z : Int)) rfl
            have cax0 := (ca.below AB).cell 0 (x := .int .u64 (M.hiN X : Int)) rfl
            have cax1 := (ca.below AB).cell 1 (x := .int .u64 (M.loN X : Int)) rfl
            have cbx0 := (cb.below AB).cell 0 (x := .int .u64 (M.hiN X : Int)) rfl
            have cbx1 := (cb.below AB).cell 1 (x := .int .u64 (M.loN X : Int)) rfl
            have cfx0 := (cf.below AB).cell 0 (x := .int .u64 (M.hiN Z : Int)) rfl
            have cfx1 := (cf.below AB).cell 1 (x := .int .u64 (M.loN Z : Int)) rfl
            have cxx0 := (cx.below AB).cell 0 (x := .slice xa (L A).length xca) rfl
            have cxx1 := (cx.below AB).cell 1 (x := .slice xb (L B).length xcb) rfl
            have cxx2 := (cx.below AB).cell 2 (x := .slice xc (L C).length xcc) rfl
            have cxx3 := (cx.below AB).cell 3 (x := .bool cl) rfl
            have cxx4 := (cx.below AB).cell 4 (x := .bool true) rfl
            go_wp2_with fail
            clear AB
            clear cw0
            clear cw1
            clear cu0
            clear cu1
            clear cd0
            clear cd1
            clear ca0
            clear ca1
            clear cb0
            clear cb1
            clear cf0
            clear cf1
            clear cx0
            clear cx1
            clear cx2
            clear cx3
            clear cx4
            clear cwx0
            clear cwx1
            clear cux0
            clear cux1
            clear cdx0
            clear cdx1
            clear cax0
            clear cax1
            clear cbx0
            clear cbx1
            clear cfx0
            clear cfx1
            clear cxx0
            clear cxx1
            clear cxx2
            clear cxx3
            clear cxx4
            have cy := Cls.new v19 #[.slice ya (L A2).length yca, .slice yb (L B2).length ycb, .slice yc (L C2).length ycc, .bool cl2, .bool true] 33
            have hb := (Below.refl _ v19).alloc (Nat.le_refl _) (.cells #[.slice ya (L A2).length yca, .slice yb (L B2).length ycb, .slice yc (L C2).length ycc, .bool cl2, .bool true] 33)
            replace cw := cw.below hb
            replace cu := cu.below hb
            replace cd := cd.below hb
            replace ca := ca.below hb
            replace cb := cb.below hb
            replace cf := cf.below hb
            replace cx := cx.below hb
            replace rA := rA.below hb
            replace rB := rB.below hb
            replace rC := rC.below hb
            replace sA := sA.below hb
            replace sB := sB.below hb
            replace sC := sC.below hb
            replace b0 := b0.trans (hb.mono b0.size)
            replace m0 := m0.below hb
            clear hb
            have szcy : (v19.alloc (.cells #[.slice ya (L A2).length yca, .slice yb (L B2).length ycb, .slice yc (L C2).length ycc, .bool cl2, .bool true] 33)).heap.size = v19.heap.size + 1 := by simp
            obtain ⟨gcy, hgcy⟩ : ∃ g, g = v19.heap.size := ⟨_, rfl⟩
            rw [← hgcy] at cy szcy ⊢
            clear hgcy
            generalize v19.alloc (.cells #[.slice ya (L A2).length yca, .slice yb (L B2).length ycb, .slice yc (L C2).length ycc, .bool cl2, .bool true] 33) = v20 at cw cu cd ca cb cf cx rA rB rC sA sB sC cy b0 m0 szcy ⊢
            clear szcy
            refine (kR _).mono ?_
            rintro e v21 ⟨rfl, hb⟩
            replace b0 := b0.trans (hb.mono b0.size)
            replace m0 := m0.below hb
            replace cw := cw.below hb
            replace cu := cu.below hb
            replace cd := cd.below hb
            replace ca := ca.below hb
            replace cb := cb.below hb
            replace cf := cf.below hb
            replace cx := cx.below hb
            replace cy := cy.below hb
            replace rA := rA.below hb
            replace rB := rB.below hb
            replace rC := rC.below hb
            replace sA := sA.below hb
            replace sB := sB.below hb
            replace sC := sC.below hb
            clear hb
            have cw0 := cw.cell 0 (x := .int .u64 (M.hiN X : Int)) rfl
            have cw1 := cw.cell 1 (x := .int .u64 (M.loN X : Int)) rfl
            have cu0 := cu.cell 0 (x := .int .u64 (M.hiN U : Int)) rfl
            have cu1 := cu.cell 1 (x := .int .u64 (M.loN U : Int)) rfl
            have cd0 := cd.cell 0 (x := .int .u64 (M.hiN Z : Int)) rfl
            have cd1 := cd.cell 1 (x := .int .u64 (M.loN Z : Int)) rfl
            have ca0 := ca.cell 0 (x := .int .u64 (M.hiN X : Int)) rfl
            have ca1 := ca.cell 1 (x := .int .u64 (M.loN X : Int)) rfl
            have cb0 := cb.cell 0 (x := .int .u64 (M.hiN X : Int)) rfl
            have cb1 := cb.cell 1 (x := .int .u64 (M.loN X : Int)) rfl
            have cf0 := cf.cell 0 (x := .int .u64 (M.hiN Z : Int)) rfl
            have cf1 := cf.cell 1 (x := .int .u64 (M.loN Z : Int)) rfl
            have cx0 := cx.cell 0 (x := .slice xa (L A).length xca) rfl
            have cx1 := cx.cell 1 (x := .slice xb (L B).length xcb) rfl
            have cx2 := cx.cell 2 (x := .slice xc (L C).length xcc) rfl
            have cx3 := cx.cell 3 (x := .bool cl) rfl
            have cx4 := cx.cell 4 (x := .bool true) rfl
            have cy0 := cy.cell 0 (x := .slice ya (L A2).length yca) rfl
            have cy1 := cy.cell 1 (x := .slice yb (L B2).length ycb) rfl
            have cy2 := cy.cell 2 (x := .slice yc (L C2).length ycc) rfl
            have cy3 := cy.cell 3 (x := .bool cl2) rfl
            have cy4 := cy.cell 4 (x := .bool true) rfl
            have h4b : (R.c == 4) = false := by simp; omega
            go_wp2_with fail
            clear cw0
            clear cw1
            clear cu0
            clear cu1
            clear cd0
            clear cd1
            clear ca0
            clear ca1
            clear cb0
            clear cb1
            clear cf0
            clear cf1
            clear cx0
            clear cx1
            clear cx2
            clear cx3
            clear cx4
            clear cy0
            clear cy1
            clear cy2
            clear cy3
            clear cy4
            obtain ⟨E, hE1, hE2⟩ : ∃ E : Nat, 17128 ≤ E ∧ E ≤ 19000 := ⟨17128, by omega, by omega⟩
            have hfT := bnd_len (fin_of hF hpT hc) E hE1
            have hpR : (M.fm q).Proper R := by rw [← hfar]; exact properU hF Z (by rw [hfar]; exact hc2)
            have hfR := bnd_len (fin_of hF hpR hc2) E hE1
            have hsp := span_next hF T hpT hc (by rw [← HR.out]; exact hc2)
            rw [← HR.out, ← HB.out, ← HC.out, ← HA2.out, ← HC2.out, ← HCL.out, ← HCL2.out] at hsp
            rw [← HA.out, ← HB.out, ← HC.out] at hfT
            rw [← HA2.out, ← HB2.out, ← HC2.out] at hfR
            have hpl := prod_len B C2 E hfT.2.2.2.2.1 hfR.2.2.2.2.2 hE2
            have kM1 : ∀ u, Below v21.heap.size v21 u → Calls Tryd.prog 25 #[.slice xb (L B).length xcb, .slice yc (L C2).length ycc] u fun e w2 => Ret u w2 e (L (B * C2)) := fun u hu => by
              have := specNatMul_any xb yc (L B).length (L C2).length xcb ycc (L B) (L C2) u rfl rfl (by omega) (by omega) (F64_L _) (F64_L _) (rB.below hu) (sC.below hu)
              rwa [mul_L _ _ (by omega) (by omega)] at this
            have kM2 : ∀ u, Below v21.heap.size v21 u → Calls Tryd.prog 25 #[.slice ya (L A2).length yca, .slice xc (L C).length xcc] u fun e w2 => Ret u w2 e (L (B * C2)) := fun u hu => by
              have := specNatMul_any ya xc (L A2).length (L C).length yca xcc (L A2) (L C) u rfl rfl (by omega) (by omega) (F64_L _) (F64_L _) (sA.below hu) (rC.below hu)
              rwa [mul_L _ _ (by omega) (by omega), ← hsp.1] at this
            obtain ⟨PP, hPP⟩ : ∃ PP, PP = L (B * C2) := ⟨_, rfl⟩
            have kC : ∀ u (pa pb : Option Addr) (pc pd : Nat), Rd u pa PP → Rd u pb PP → Calls Tryd.prog 24 #[.slice pa PP.length pc, .slice pb PP.length pd] u fun e w2 => e = .returned (.int .i64 0) ∧ Below u.heap.size u w2 := fun u pa pb pc pd ha hb => by
              have := specNatCmp_any pa pb PP.length PP.length pc pd PP PP u rfl rfl (by rw [hPP]; omega) (by rw [hPP]; omega) (by rw [hPP]; exact F64_L _) (by rw [hPP]; exact F64_L _) ha hb
              rwa [hPP, cmp_L _ (by omega), ← hPP] at this
            rw [← hPP] at kM1 kM2
            have HPP := hid hPP
            clear hPP hfT hfR hpl
            have hne := hsp.2
            clear hsp
            have KB : ∀ u, Below v21.heap.size v21 u → (fun u => u.cell? ⟨gcx, 1, none⟩ = some (.slice xb (L B).length xcb) ∧ u.cell? ⟨gcx, 2, none⟩ = some (.slice xc (L C).length xcc) ∧ u.cell? ⟨gcx, 3, none⟩ = some (.bool cl) ∧ u.cell? ⟨gcy, 0, none⟩ = some (.slice ya (L A2).length yca) ∧ u.cell? ⟨gcy, 2, none⟩ = some (.slice yc (L C2).length ycc) ∧ u.cell? ⟨gcy, 3, none⟩ = some (.bool cl2) ∧ u.cell? ⟨gcy, 4, none⟩ = some (.bool true)) u := fun u hu => ⟨(cx.below hu).cell 1 rfl, (cx.below hu).cell 2 rfl, (cx.below hu).cell 3 rfl, (cy.below hu).cell 0 rfl, (cy.below hu).cell 2 rfl, (cy.below hu).cell 3 rfl, (cy.below hu).cell 4 rfl⟩
            try clear kUp
            try clear kDn
            try clear kO1
            try clear kO2
            try clear kA
            try clear kB
            try clear kT
            try clear kR
            try clear kD
            try clear fc
            try clear fn
            try clear cw
            try clear cu
            try clear cd
            try clear ca
            try clear cb
            try clear cf
            try clear m0
            try clear hfar
            try clear hcl4
            try clear h4b
            try clear h4
            try clear hc2
            try clear hpR
            try clear hpT
            try clear hc
            try clear hcc
            try clear hcb
            try clear hF
            try clear nh
            try clear nl
            try clear LE0
            try clear necw
            try clear necu
            try clear necd
            try clear neca
            try clear necb
            try clear HT
            try clear HU
            try clear HZ
            try clear HA
            try clear HB
            try clear HC
            try clear HCL
            try clear HA2
            try clear HB2
            try clear HC2
            try clear HCL2
            try clear HR
            try clear HPP
            try clear hE1
            try clear hE2
            try clear rA
            try clear rB
            try clear rC
            try clear sA
            try clear sB
            try clear sC
            try clear hU1
            try clear hZ1
            try clear hX
            try clear hn
            try clear cx
            try clear cy
            have A0 : Below v21.heap.size v21 v21.drew := (Below.refl _ _).drew
            refine wp_region_held_drew (S := fun u => u.cell? ⟨gcx, 1, none⟩ = some (.slice xb (L B).length xcb) ∧ u.cell? ⟨gcx, 2, none⟩ = some (.slice xc (L C).length xcc) ∧ u.cell? ⟨gcx, 3, none⟩ = some (.bool cl) ∧ u.cell? ⟨gcy, 0, none⟩ = some (.slice ya (L A2).length yca) ∧ u.cell? ⟨gcy, 2, none⟩ = some (.slice yc (L C2).length ycc) ∧ u.cell? ⟨gcy, 3, none⟩ = some (.bool cl2) ∧ u.cell? ⟨gcy, 4, none⟩ = some (.bool true)) (by kernel_rfl) (KB _ A0) (fun hS => ?_)
            refine wpAnyH_take (i := 0) (v := ?_) rfl (by kernel_rfl) (by kernel_rfl) (by kernel_rfl) (fun _ _ _ h => h) (Or.inl ⟨by kernel_rfl, ?_⟩) hS ?_
            rotate_left
            · (intro u hSu; obtain ⟨s1, s2, s3, s4, s5, s6, s7⟩ := hSu; first | (go_simp; done) | (go_simp; with_reducible rfl) | with_reducible rfl)
            refine wpAnyH_take (i := 1) (v := ?_) rfl (by kernel_rfl) (by kernel_rfl) (by kernel_rfl) (fun _ _ _ h => h) (Or.inl ⟨by kernel_rfl, ?_⟩) hS ?_
            rotate_left
            · (intro u hSu; obtain ⟨s1, s2, s3, s4, s5, s6, s7⟩ := hSu; first | (go_simp; done) | (go_simp; with_reducible rfl) | with_reducible rfl)
            refine wpAnyH_take (i := 2) (v := ?_) rfl (by kernel_rfl) (by kernel_rfl) (by kernel_rfl) (fun _ _ _ h => h) (Or.inl ⟨by kernel_rfl, ?_⟩) hS ?_
            rotate_left
            · (intro u hSu; obtain ⟨s1, s2, s3, s4, s5, s6, s7⟩ := hSu; first | (go_simp; done) | (go_simp; with_reducible rfl) | with_reducible rfl)
            refine wpAnyH_take (i := 3) (v := ?_) rfl (by kernel_rfl) (by kernel_rfl) (by kernel_rfl) (fun _ _ _ h => h) (Or.inl ⟨by kernel_rfl, ?_⟩) hS ?_
            rotate_left
            · (intro u hSu; obtain ⟨s1, s2, s3, s4, s5, s6, s7⟩ := hSu; first | (go_simp; done) | (go_simp; with_reducible rfl) | with_reducible rfl)
            refine wpAnyH_take (i := 4) (v := ?_) rfl (by kernel_rfl) (by kernel_rfl) (by kernel_rfl) (fun _ _ _ h => h) (Or.inl ⟨by kernel_rfl, ?_⟩) hS ?_
            rotate_left
            · (intro u hSu; obtain ⟨s1, s2, s3, s4, s5, s6, s7⟩ := hSu; first | (go_simp; done) | (go_simp; with_reducible rfl) | with_reducible rfl)
            refine wpAnyH_take (i := 5) (v := ?_) rfl (by kernel_rfl) (by kernel_rfl) (by kernel_rfl) (fun _ _ _ h => h) (Or.inl ⟨by kernel_rfl, ?_⟩) hS ?_
            rotate_left
            · (intro u hSu; obtain ⟨s1, s2, s3, s4, s5, s6, s7⟩ := hSu; first | (go_simp; done) | (go_simp; with_reducible rfl) | with_reducible rfl)
            refine wpAnyH_take (i := 6) (v := ?_) rfl (by kernel_rfl) (by kernel_rfl) (by kernel_rfl) (fun _ _ _ h => h) (Or.inl ⟨by kernel_rfl, ?_⟩) hS ?_
            rotate_left
            · (intro u hSu; obtain ⟨s1, s2, s3, s4, s5, s6, s7⟩ := hSu; first | (go_simp; done) | (go_simp; with_reducible rfl) | with_reducible rfl)
            refine wpAnyH_take (i := 8) (v := ?_) rfl (by kernel_rfl) (by kernel_rfl) (by kernel_rfl) (fun _ _ _ h => h) (Or.inl ⟨by kernel_rfl, ?_⟩) hS ?_
            rotate_left
            · (intro u hSu; obtain ⟨s1, s2, s3, s4, s5, s6, s7⟩ := hSu; first | (go_simp; done) | (go_simp; with_reducible rfl) | with_reducible rfl)
            refine wpAnyH_take (i := 9) (v := ?_) rfl (by kernel_rfl) (by kernel_rfl) (by kernel_rfl) (fun _ _ _ h => h) (Or.inl ⟨by kernel_rfl, ?_⟩) hS ?_
            rotate_left
            · (intro u hSu; obtain ⟨s1, s2, s3, s4, s5, s6, s7⟩ := hSu; first | (go_simp; done) | (go_simp; with_reducible rfl) | with_reducible rfl)
            refine wpAnyH_take (i := 10) (v := ?_) rfl (by kernel_rfl) (by kernel_rfl) (by kernel_rfl) (fun _ _ _ h => h) (Or.inl ⟨by kernel_rfl, ?_⟩) hS ?_
            rotate_left
            · (intro u hSu; obtain ⟨s1, s2, s3, s4, s5, s6, s7⟩ := hSu; first | (go_simp; done) | (go_simp; with_reducible rfl) | with_reducible rfl)
            refine wpAnyH_take (i := 11) (v := ?_) rfl (by kernel_rfl) (by kernel_rfl) (by kernel_rfl) (fun _ _ _ h => h) (Or.inl ⟨by kernel_rfl, ?_⟩) hS ?_
            rotate_left
            · (intro u hSu; obtain ⟨s1, s2, s3, s4, s5, s6, s7⟩ := hSu; first | (go_simp; done) | (go_simp; with_reducible rfl) | with_reducible rfl)
            refine wpAnyH_ready (rs := [7]) (by kernel_rfl) (by simp) ?_
            refine AllReadyH.cons rfl (fun K hK => ?_) AllReadyH.nil
            go_simp
            go_at_call 25
            refine (kM1 _ A0).mono ?_
            rintro e u1 ⟨ma, mc, rfl, mo, hb0⟩
            have A1 := A0.trans (hb0.mono A0.size)
            have r1 := Rd.own mo
            clear A0 hb0 mo
            go_simp
            refine hK.out _ _ (KB _ A1) ?_
            clear hK K hS
            intro hS
            refine wpAnyH_ready (rs := [12]) (by kernel_rfl) (by simp) ?_
            refine AllReadyH.cons rfl (fun K hK => ?_) AllReadyH.nil
            go_simp
            go_at_call 25
            refine (kM2 _ A1).mono ?_
            rintro e u2 ⟨mb, md, rfl, mo, hb0⟩
            have A2x := A1.trans (hb0.mono A1.size)
            have r2 := Rd.own mo
            replace r1 := r1.below hb0
            clear A1 hb0 mo
            go_simp
            refine hK.out _ _ (KB _ A2x) ?_
            clear hK K hS
            intro hS
            refine wpAnyH_ready (rs := [13]) (by kernel_rfl) (by simp) ?_
            refine AllReadyH.cons rfl (fun K hK => ?_) AllReadyH.nil
            go_simp
            go_at_call 24
            refine (kC _ ma mb mc md r1 r2).mono ?_
            rintro e u3 ⟨rfl, hb0⟩
            have A3 := A2x.trans (hb0.mono A2x.size)
            clear A2x hb0 r1 r2
            go_simp
            refine hK.out _ _ (KB _ A3) ?_
            clear hK K hS
            intro hS
            refine wpAnyH_take (i := 14) (v := ?_) rfl (by kernel_rfl) (by kernel_rfl) (by kernel_rfl) (fun _ _ _ h => h) (Or.inl ⟨by kernel_rfl, ?_⟩) hS ?_
            rotate_left
            · (intro u hSu; obtain ⟨s1, s2, s3, s4, s5, s6, s7⟩ := hSu; first | (go_simp; done) | (go_simp; with_reducible rfl) | with_reducible rfl)
            refine wpAnyH_take (i := 15) (v := ?_) rfl (by kernel_rfl) (by kernel_rfl) (by kernel_rfl) (fun _ _ _ h => h) (Or.inl ⟨by kernel_rfl, ?_⟩) hS ?_
            rotate_left
            · (intro u hSu; obtain ⟨s1, s2, s3, s4, s5, s6, s7⟩ := hSu; first | (go_simp; done) | (go_simp; with_reducible rfl) | with_reducible rfl)
            refine wpAnyH_take (i := 16) (v := ?_) rfl (by kernel_rfl) (by kernel_rfl) (by kernel_rfl) (fun _ _ _ h => h) (Or.inl ⟨by kernel_rfl, ?_⟩) hS ?_
            rotate_left
            · (intro u hSu; obtain ⟨s1, s2, s3, s4, s5, s6, s7⟩ := hSu; first | (go_simp; done) | (go_simp; with_reducible rfl) | with_reducible rfl)
            refine wpAnyH_take (i := 17) (v := ?_) rfl (by kernel_rfl) (by kernel_rfl) (by kernel_rfl) (fun _ _ _ h => h) (Or.inl ⟨by kernel_rfl, ?_⟩) hS ?_
            rotate_left
            · (intro u hSu; obtain ⟨s1, s2, s3, s4, s5, s6, s7⟩ := hSu; first | (go_simp; done) | (go_simp; with_reducible rfl) | with_reducible rfl)
            refine wpAnyH_take (i := 18) (v := ?_) rfl (by kernel_rfl) (by kernel_rfl) (by kernel_rfl) (fun _ _ _ h => h) (Or.inl ⟨by kernel_rfl, ?_⟩) hS ?_
            rotate_left
            · (intro u hSu; obtain ⟨s1, s2, s3, s4, s5, s6, s7⟩ := hSu; first | (go_simp; done) | (go_simp; with_reducible rfl) | with_reducible rfl)
            refine wpAnyH_take (i := 19) (v := ?_) rfl (by kernel_rfl) (by kernel_rfl) (by kernel_rfl) (fun _ _ _ h => h) (Or.inl ⟨by kernel_rfl, ?_⟩) hS ?_
            rotate_left
            · (intro u hSu; obtain ⟨s1, s2, s3, s4, s5, s6, s7⟩ := hSu; first | (go_simp; done) | (go_simp; with_reducible rfl) | with_reducible rfl)
            refine wpAnyH_take (i := 20) (v := ?_) rfl (by kernel_rfl) (by kernel_rfl) (by kernel_rfl) (fun _ _ _ h => h) (Or.inl ⟨by kernel_rfl, ?_⟩) hS ?_
            rotate_left
            · (intro u hSu; obtain ⟨s1, s2, s3, s4, s5, s6, s7⟩ := hSu; first | (go_simp; done) | (go_simp; with_reducible rfl) | with_reducible rfl)
            refine wpAnyH_take (i := 21) (v := ?_) rfl (by kernel_rfl) (by kernel_rfl) (by kernel_rfl) (fun _ _ _ h => h) (Or.inl ⟨by kernel_rfl, ?_⟩) hS ?_
            rotate_left
            · (intro u hSu; obtain ⟨s1, s2, s3, s4, s5, s6, s7⟩ := hSu; first | (go_simp; done) | (go_simp; with_reducible rfl) | with_reducible rfl)
            refine wpAnyH_take (i := 22) (v := ?_) rfl (by kernel_rfl) (by kernel_rfl) (by kernel_rfl) (fun _ _ _ h => h) (Or.inl ⟨by kernel_rfl, ?_⟩) hS ?_
            rotate_left
            · (intro u hSu; obtain ⟨s1, s2, s3, s4, s5, s6, s7⟩ := hSu; first | (go_simp; done) | (go_simp; with_reducible rfl) | with_reducible rfl)
            refine wpAnyH_ready (rs := [23]) (by kernel_rfl) (by simp) ?_
            refine AllReadyH.cons rfl (fun K hK => ?_) AllReadyH.nil
            go_simp
            refine hK.out _ _ (KB _ A3) ?_
            clear hK K hS
            intro hS
            refine wpAnyH_done (by kernel_rfl) ?_ _
            all_goals have HB9 := hid (b0.trans (A3.mono b0.size))
            all_goals go_wp2_with fail
            all_goals go_ret
            all_goals refine ⟨?_, HB9.out⟩
            all_goals clear HB9
            all_goals revert hne
            all_goals cases cl <;> cases cl2 <;> first | (intro _; rfl) | (intro h; exact absurd h (by decide))
    · have hc2 : ¬ ((M.fm q).upk X).c = 2 := by omega
      have hc3 : ¬ ((M.fm q).upk X).c = 3 := by omega
      have hb3 : (((M.fm q).upk X).c != 3) = true := by simp; omega
      have hb2 : (((M.fm q).upk X).c != 2) = true := by simp; omega
      simp only [pv]
      have cw0 := cw.cell 0 (x := .int .u64 (M.hiN X : Int)) rfl
      have cw1 := cw.cell 1 (x := .int .u64 (M.loN X : Int)) rfl
      go_wp2_with fail
      clear cw0
      clear cw1
      refine (istep_any q hq X hX true _ m0).mono ?_
      rintro e v4 ⟨rfl, hb⟩
      replace b0 := b0.trans (hb.mono b0.size)
      replace m0 := m0.below hb
      replace cw := cw.below hb
      clear hb
      have cw0 := cw.cell 0 (x := .int .u64 (M.hiN X : Int)) rfl
      have cw1 := cw.cell 1 (x := .int .u64 (M.loN X : Int)) rfl
      have AB := (Below.refl _ v4).alloc (Nat.le_refl _) (.cells #[.int .u64 (M.hiN (stN (M.fm q) ((M.fm q).upk X) true) : Int), .int .u64 (M.loN (stN (M.fm q) ((M.fm q).upk X) true) : Int)] 25)
      have cwx0 := (cw.below AB).cell 0 (x := .int .u64 (M.hiN X : Int)) rfl
      have cwx1 := (cw.below AB).cell 1 (x := .int .u64 (M.loN X : Int)) rfl
      go_wp2_with fail
      clear AB
      clear cw0
      clear cw1
      clear cwx0
      clear cwx1
      have cy := Cls.new v4 #[.int .u64 (M.hiN (stN (M.fm q) ((M.fm q).upk X) true) : Int), .int .u64 (M.loN (stN (M.fm q) ((M.fm q).upk X) true) : Int)] 25
      have hb := (Below.refl _ v4).alloc (Nat.le_refl _) (.cells #[.int .u64 (M.hiN (stN (M.fm q) ((M.fm q).upk X) true) : Int), .int .u64 (M.loN (stN (M.fm q) ((M.fm q).upk X) true) : Int)] 25)
      replace cw := cw.below hb
      replace b0 := b0.trans (hb.mono b0.size)
      replace m0 := m0.below hb
      clear hb
      have szcy : (v4.alloc (.cells #[.int .u64 (M.hiN (stN (M.fm q) ((M.fm q).upk X) true) : Int), .int .u64 (M.loN (stN (M.fm q) ((M.fm q).upk X) true) : Int)] 25)).heap.size = v4.heap.size + 1 := by simp
      obtain ⟨gcy, hgcy⟩ : ∃ g, g = v4.heap.size := ⟨_, rfl⟩
      rw [← hgcy] at cy szcy ⊢
      clear hgcy
      generalize v4.alloc (.cells #[.int .u64 (M.hiN (stN (M.fm q) ((M.fm q).upk X) true) : Int), .int .u64 (M.loN (stN (M.fm q) ((M.fm q).upk X) true) : Int)] 25) = v5 at cw cy b0 m0 szcy ⊢
      clear szcy
      refine (sstep_any q hq X hX true _).mono ?_
      rintro e v6 ⟨rfl, hb⟩
      replace b0 := b0.trans (hb.mono b0.size)
      replace m0 := m0.below hb
      replace cw := cw.below hb
      replace cy := cy.below hb
      clear hb
      have hbb : (stB ((M.fm q).upk X) true == stB ((M.fm q).upk X) true) = true := by simp
      go_wp2_with fail
      go_ret
      exact ⟨rfl, b0.trans (((Below.refl _ _).alloc (Nat.le_refl _) _).mono b0.size)⟩

end Go.Proofs.YtehplfmnipadmaeDoor

