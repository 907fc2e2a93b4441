import Derived.Test.YtehplfmnipadmaeCls
import Derived.Test.YtehplfmnipadmaeLb
import Derived.Test.YtehplfmnipadmaeW2
import Derived.Test.YtehplfmnipadmaeW15a
import Derived.Deep.CutBlock
import Derived.Deep.DeepCutAuto
namespace Go.Proofs.Ytehplfmnipadmae
open Go.RowKit
set_option linter.unusedVariables false
set_option maxRecDepth 100000

/-- A span with two lists of its own. -/
def Sw (w w' : World) (e : Ending) (xs ys : List Nat) (q : Int) (ok : Bool) : Prop :=
  ∃ (a : Option Addr) (ca : Nat) (b : Option Addr) (cb m1 : Nat), e = .returned (.agg #[.slice a xs.length ca, .slice b ys.length cb, .int .i64 q, .bool ok]) ∧ w.heap.size ≤ m1 ∧ m1 ≤ w'.heap.size ∧ Own w' w.heap.size m1 a ca xs ∧ Own w' m1 w'.heap.size b cb ys ∧ Below w.heap.size w w'

theorem scDrew {B : Nat} {w v : World} (h : Below B w v) (q : Nat) : Below B w (v.drewN q) := ⟨h.os, h.tape, h.output, h.size, h.block⟩

theorem marks_len2 (k n : Nat) : (marks k n).length = n := by simp [marks]

set_option maxRecDepth 100000 in
set_option maxHeartbeats 1000000 in
theorem eqSp_same (xs ys : List Nat) (q : Int) (ok : Bool) (la : Option Addr) (lca : Nat) (lb : Option Addr) (lcb : Nat) (ra : Option Addr) (rca : Nat) (rb : Option Addr) (rcb : Nat) (w : World) (h1 : xs.length ≤ 4194304) (h2 : ys.length ≤ 4194304) (lr1 : Rd w la xs) (lr2 : Rd w lb ys) (rr1 : Rd w ra xs) (rr2 : Rd w rb ys) :
    Calls Try.prog 18 #[.agg #[.slice la xs.length lca, .slice lb ys.length lcb, .int .i64 q, .bool ok], .agg #[.slice ra xs.length rca, .slice rb ys.length rcb, .int .i64 q, .bool ok]] w fun e w' => e = .returned (.bool true) ∧ Below w.heap.size w w' := by
  have b0 : Below w.heap.size w ((w.alloc (.cells #[.slice la xs.length lca, .slice lb ys.length lcb, .int .i64 q, .bool ok] 41)).alloc (.cells #[.slice ra xs.length rca, .slice rb ys.length rcb, .int .i64 q, .bool ok] 41)) := ((Below.refl _ _).alloc (Nat.le_refl _) _).alloc (by simp) _
  have hA : Cls ((w.alloc (.cells #[.slice la xs.length lca, .slice lb ys.length lcb, .int .i64 q, .bool ok] 41)).alloc (.cells #[.slice ra xs.length rca, .slice rb ys.length rcb, .int .i64 q, .bool ok] 41)) w.heap.size #[.slice la xs.length lca, .slice lb ys.length lcb, .int .i64 q, .bool ok] 41 := (Cls.new w _ _).below ((Below.refl _ _).alloc (Nat.le_refl _) _)
  have hB : Cls ((w.alloc (.cells #[.slice la xs.length lca, .slice lb ys.length lcb, .int .i64 q, .bool ok] 41)).alloc (.cells #[.slice ra xs.length rca, .slice rb ys.length rcb, .int .i64 q, .bool ok] 41)) (w.heap.size + 1) #[.slice ra xs.length rca, .slice rb ys.length rcb, .int .i64 q, .bool ok] 41 := by
    have := Cls.new (w.alloc (.cells #[.slice la xs.length lca, .slice lb ys.length lcb, .int .i64 q, .bool ok] 41)) #[.slice ra xs.length rca, .slice rb ys.length rcb, .int .i64 q, .bool ok] 41
    rwa [World.size_alloc] at this
  generalize hV : ((w.alloc (.cells #[.slice la xs.length lca, .slice lb ys.length lcb, .int .i64 q, .bool ok] 41)).alloc (.cells #[.slice ra xs.length rca, .slice rb ys.length rcb, .int .i64 q, .bool ok] 41)) = v0 at *
  replace lr1 := lr1.below b0
  replace lr2 := lr2.below b0
  replace rr1 := rr1.below b0
  replace rr2 := rr2.below b0
  have n1 : (q != q) = false := by simp
  have n2 : (ok != ok) = false := by simp
  go_enter Try.func18, Try.ntmps18
  go_upto_region 1 with fail
  clear hV
  have a0 := hA.cell 0 rfl
  have c0 := hB.cell 0 rfl
  go_wp2_with fail
  refine (eqU_any la ra _ _ lca rca xs xs _ rfl rfl h1 h1 lr1 rr1).mono ?_
  rintro e v1 ⟨rfl, d1, hv1⟩
  rw [show decide (xs = xs) = true by simp]
  have bb := scDrew (Below.refl v0.heap.size v0) d1
  rw [← hv1] at bb
  replace hA := hA.below bb
  replace hB := hB.below bb
  replace lr2 := lr2.below bb
  replace rr2 := rr2.below bb
  replace b0 := b0.trans (bb.mono b0.size)
  clear bb hv1 a0 c0
  have a1 := hA.cell 1 rfl
  have c1 := hB.cell 1 rfl
  go_wp2_with fail
  refine (eqU_any lb rb _ _ lcb rcb ys ys _ rfl rfl h2 h2 lr2 rr2).mono ?_
  rintro e v2 ⟨rfl, d2, hv2⟩
  rw [show decide (ys = ys) = true by simp]
  have bb := scDrew (Below.refl v1.heap.size v1) d2
  rw [← hv2] at bb
  replace hA := hA.below bb
  replace hB := hB.below bb
  replace b0 := b0.trans (bb.mono b0.size)
  clear bb hv2 a1 c1
  have a2 := hA.cell 2 rfl
  have c2 := hB.cell 2 rfl
  have a3 := hA.cell 3 rfl
  have c3 := hB.cell 3 rfl
  have HB := hid b0; clear b0
  go_wp2_with fail
  go_ret
  exact ⟨rfl, HB.out⟩

set_option maxRecDepth 100000 in
set_option maxHeartbeats 1000000 in
theorem markSp (xs ys : List Nat) (q : Int) (ok : Bool) (la : Option Addr) (lca : Nat) (lb : Option Addr) (lcb : Nat) (w : World) (l0 m1 l3 k1 k2 : Nat) (h1 : xs.length ≤ 2000000) (h2 : ys.length ≤ 2000000) (hk1 : k1 = 1 + xs.length) (hk2 : k2 = k1 + ys.length) (hl3 : l3 ≤ w.heap.size) (h01 : l0 ≤ m1) (h12 : m1 ≤ l3)
    (oA : Own w l0 m1 la lca xs) (oB : Own w m1 l3 lb lcb ys) :
    Calls Try.prog 19 #[.agg #[.slice la xs.length lca, .slice lb ys.length lcb, .int .i64 q, .bool ok], .int .i64 1] w fun e w' => e = .returned (.int .i64 (k2 : Int)) ∧ Rd w' la (marks 1 xs.length) ∧ Rd w' lb (marks k1 ys.length) ∧ Below l0 w w' ∧ ∀ g, l3 ≤ g → g < w.heap.size → w'.heap[g]? = w.heap[g]? := by
  have b0 : Below w.heap.size w (w.alloc (.cells #[.slice la xs.length lca, .slice lb ys.length lcb, .int .i64 q, .bool ok] 41)) := (Below.refl _ _).alloc (Nat.le_refl _) _
  have hA : Cls (w.alloc (.cells #[.slice la xs.length lca, .slice lb ys.length lcb, .int .i64 q, .bool ok] 41)) w.heap.size #[.slice la xs.length lca, .slice lb ys.length lcb, .int .i64 q, .bool ok] 41 := Cls.new _ _ _
  generalize hV : (w.alloc (.cells #[.slice la xs.length lca, .slice lb ys.length lcb, .int .i64 q, .bool ok] 41)) = v0 at *
  replace oA := oA.keep b0
  replace oB := oB.keep b0
  have HK1 := hid hk1
  have HK2 := hid hk2
  have hk1b : k1 ≤ 2000001 := by omega
  clear hk1 hk2
  go_enter Try.func19, Try.ntmps19
  go_upto_region 1 with fail
  clear hV
  have a0 := hA.cell 0 rfl
  go_wp2_with fail
  refine (mark_any 0 la xs.length lca 1 xs _ k1 HK1.out (by omega) (by omega) oA.row).mono ?_
  rintro e v1 ⟨rfl, hm1, hg1⟩
  have hA1 := hA.grown hg1 (fun e => by have := (oA.place _ e.symm).2; omega)
  have oB1 := oB.grown hg1 (fun k h1 h2 e => by have := (oA.place k e).2; omega)
  have oA1 : Own v1 l0 m1 la lca (marks 1 xs.length) := ⟨by rw [marks_len2]; exact hm1, by rw [marks_len2]; exact oA.place⟩
  have bb1 : Below l0 w v1 := ((b0.mono (by omega)).grown hg1 (by have := b0.size; omega) (fun k e => (oA.place k e).1))
  have F1 : ∀ g, l3 ≤ g → g < w.heap.size → v1.heap[g]? = w.heap[g]? := fun g g1 g2 => (hg1.block g (Nat.lt_of_lt_of_le g2 b0.size) (fun e => by have := (oA.place _ e.symm).2; omega)).trans (b0.block g g2)
  clear oA oB hm1 hg1 hA a0 b0
  have a1 := hA1.cell 1 rfl
  go_wp2_with fail
  refine (mark_any 0 lb ys.length lcb k1 ys _ k2 HK2.out (by omega) (by omega) oB1.row).mono ?_
  rintro e v2 ⟨rfl, hm2, hg2⟩
  have oA2 := oA1.grown hg2 (fun k h1 h2 e => by have := (oB1.place k e).1; omega)
  have bb2 : Below l0 w v2 := bb1.grown hg2 (by have := bb1.size; omega) (fun k e => by have := (oB1.place k e).1; omega)
  have F2 : ∀ g, l3 ≤ g → g < w.heap.size → v2.heap[g]? = w.heap[g]? := fun g g1 g2 => (hg2.block g (Nat.lt_of_lt_of_le g2 bb1.size) (fun e => by have := (oB1.place _ e.symm).2; omega)).trans (F1 g g1 g2)
  have HR := hid (And.intro oA2.rd (And.intro (Rd.own hm2) F2))
  have HB := hid bb2
  clear oA1 oB1 oA2 hm2 hg2 bb1 bb2 hA1 a1 F1 F2
  go_wp2_with fail
  go_ret
  exact ⟨rfl, HR.out.1, HR.out.2.1, HB.out, HR.out.2.2⟩

set_option maxRecDepth 100000 in
set_option maxHeartbeats 1000000 in
theorem heldSp (xs ys : List Nat) (q : Int) (ok : Bool) (la : Option Addr) (lca : Nat) (lb : Option Addr) (lcb : Nat) (w : World) (k1 k2 : Nat) (h1 : xs.length ≤ 2000000) (h2 : ys.length ≤ 2000000) (hk1 : k1 = 1 + xs.length) (hk2 : k2 = k1 + ys.length) (r1 : Rd w la (marks 1 xs.length)) (r2 : Rd w lb (marks k1 ys.length)) :
    Calls Try.prog 20 #[.agg #[.slice la xs.length lca, .slice lb ys.length lcb, .int .i64 q, .bool ok], .int .i64 1] w fun e w' => e = .returned (.int .i64 (k2 : Int)) ∧ Below w.heap.size w w' := by
  have b0 : Below w.heap.size w (w.alloc (.cells #[.slice la xs.length lca, .slice lb ys.length lcb, .int .i64 q, .bool ok] 41)) := (Below.refl _ _).alloc (Nat.le_refl _) _
  have hA : Cls (w.alloc (.cells #[.slice la xs.length lca, .slice lb ys.length lcb, .int .i64 q, .bool ok] 41)) w.heap.size #[.slice la xs.length lca, .slice lb ys.length lcb, .int .i64 q, .bool ok] 41 := Cls.new _ _ _
  generalize hV : (w.alloc (.cells #[.slice la xs.length lca, .slice lb ys.length lcb, .int .i64 q, .bool ok] 41)) = v0 at *
  replace r1 := r1.below b0
  replace r2 := r2.below b0
  have HK1 := hid hk1
  have HK2 := hid hk2
  have hk1b : k1 ≤ 2000001 := by omega
  have g1 : ¬ (k1 : Int) < 0 := by omega
  have g2 : ¬ (k2 : Int) < 0 := by omega
  clear hk1 hk2
  go_enter Try.func20, Try.ntmps20
  go_upto_region 1 with fail
  clear hV
  have a0 := hA.cell 0 rfl
  have a1 := hA.cell 1 rfl
  go_wp2_with fail
  refine (held_any la xs.length lca 1 _ k1 HK1.out (by omega) (by omega) r1).mono ?_
  rintro e v1 ⟨rfl, rfl⟩
  go_wp2_with fail
  refine (held_any lb ys.length lcb k1 _ k2 HK2.out (by omega) (by omega) r2).mono ?_
  rintro e v2 ⟨rfl, rfl⟩
  have HB := hid b0; clear b0
  go_wp2_with fail
  go_ret
  exact ⟨rfl, HB.out⟩

end Go.Proofs.Ytehplfmnipadmae
