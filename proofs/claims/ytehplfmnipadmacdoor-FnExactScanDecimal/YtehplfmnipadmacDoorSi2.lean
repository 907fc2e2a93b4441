/-
  impl: (*scanner).take.
-/
import Derived.Test.YtehplfmnipadmacDoorSi1
import Derived.Test.YtehplfmnipadmacDoorSd2
namespace Go.Proofs.YtehplfmnipadmacDoor
open Go.RowKit
set_option linter.unusedVariables false

def SnV (s : M.Sn) (a : Option Addr) (cap : Nat) : Array Value := #[.bool s.neg, .slice a s.digits.length cap, .int .i64 (s.behind : Int), .bool s.expNeg, .int .i64 (s.exponent : Int)]

/-- The scanner lies in block g, its digits in blocks from B on. -/
def SnR (v : World) (g B : Nat) (s : M.Sn) : Prop :=
  g < B ∧ B ≤ v.heap.size ∧ ∃ a cap, Cls v g (SnV s a cap) 49 ∧ v.ownsRow B 5 1 (.slice a s.digits.length cap) s.digits.length (UB s.digits)

/-- Of the blocks below B only g has turned. -/
structure KpX (B g : Nat) (v v' : World) : Prop where
  below : Below g v v'
  keep : ∀ j, j < B → j ≠ g → v'.heap[j]? = v.heap[j]?

theorem KpX.refl (B g : Nat) (v : World) : KpX B g v v := ⟨Below.refl _ _, fun _ _ _ => rfl⟩
theorem KpX.set {B g : Nat} {w v : World} (h : KpX B g w v) (i : Nat) (x : Value) : KpX B g w (v.setCell ⟨g, i, none⟩ x) :=
  ⟨h.below.setCell (p := ⟨g, i, none⟩) (Nat.le_refl _) _, fun j hj hne => by rw [Below.heap_setCell v ⟨g, i, none⟩ x j hne]; exact h.keep j hj hne⟩
theorem KpX.alloc {B g : Nat} {w v : World} (h : KpX B g w v) (hB : B ≤ v.heap.size) (hg : g ≤ v.heap.size) (o : Obj) : KpX B g w (v.alloc o) :=
  ⟨h.below.alloc hg _, fun j hj hne => by rw [Below.heap_alloc v o j (by omega)]; exact h.keep j hj hne⟩
theorem KpX.grown {B g : Nat} {w v v' : World} {row : Option Nat} (h : KpX B g w v) (hg : v.grownBy v' row) (hB : B ≤ v.heap.size) (hgB : g < B) (hr : ∀ j, row = some j → B ≤ j) : KpX B g w v' :=
  ⟨h.below.grown hg (by omega) (fun j e => by have := hr j e; omega), fun j hj hne => by rw [hg.block j (by omega) (fun e => by have := hr j e.symm; omega)]; exact h.keep j hj hne⟩
theorem KpX.trans {B g : Nat} {a b c : World} (h : KpX B g a b) (k : KpX B g b c) : KpX B g a c := ⟨h.below.trans k.below, fun j hj hne => (k.keep j hj hne).trans (h.keep j hj hne)⟩

theorem own_set {v : World} {g B n : Nat} {x : Value} {xs : List Value} (h : v.ownsRow B 5 1 x n xs) (hg : g < B) (i : Nat) (y : Value) : (v.setCell ⟨g, i, none⟩ y).ownsRow B 5 1 x n xs := ownY_far h ⟨g, i, none⟩ hg y

set_option maxHeartbeats 1000000 in
theorem take_any (g B st c : Nat) (s : M.Sn) (v : World) (h : SnR v g B s) (h1 : s.digits.length ≤ 1000) (h2 : s.behind ≤ 1000) (h3 : s.exponent ≤ 1000000) (hst : 2 ≤ st ∧ st ≤ 9) (hc : c ≤ 2147483647) (hd : st = 3 ∨ st = 6 ∨ st = 9 → 48 ≤ c ∧ c ≤ 57) :
    Calls Tryd.prog 25 #[.pointer (some ⟨g, 0, none⟩), .int .i64 (st : Int), .int .i32 (c : Int)] v fun e v' => e = .returned (.tuple #[]) ∧ SnR v' g B (M.take st c s) ∧ KpX B g v v' := by
  obtain ⟨hgB, hBv, a, cap, hC, hO⟩ := h
  have c0 := hC.cell 0 (x := .bool s.neg) rfl
  have c1 := hC.cell 1 (x := .slice a s.digits.length cap) rfl
  have c2 := hC.cell 2 (x := .int .i64 (s.behind : Int)) rfl
  have c3 := hC.cell 3 (x := .bool s.expNeg) rfl
  have c4 := hC.cell 4 (x := .int .i64 (s.exponent : Int)) rfl
  have f0 := hC.frozen 0
  have f1 := hC.frozen 1
  have f2 := hC.frozen 2
  have f3 := hC.frozen 3
  have f4 := hC.frozen 4
  have CH := hid hC; have OH := hid hO
  clear hC hO
  rcases (show st = 2 ∨ st = 3 ∨ st = 4 ∨ st = 5 ∨ st = 6 ∨ st = 7 ∨ st = 8 ∨ st = 9 by omega) with rfl | rfl | rfl | rfl | rfl | rfl | rfl | rfl
  · go_enter Tryd.func25, Tryd.ntmps25
    go_wp2_with fail
    go_end0
    refine ⟨rfl, ⟨hgB, by simpa using hBv, a, cap, ?_, own_set OH.out hgB 0 _⟩, (KpX.refl _ _ _).set 0 _⟩
    rw [show ((c : Int) == 45) = decide (c = 45) by rw [Bool.eq_iff_iff]; simp; omega]
    exact CH.out.set 0 _ _ rfl
  · obtain ⟨hd1, hd2⟩ := hd (by omega)
    clear hd
    have hw8 : IntKind.u8.wrap (c : Int) = (c : Int) := by simp [IntKind.wrap, IntKind.bits, IntKind.signed]; omega
    have C2 := CH.out
    have O2 := OH.out
    have K2 := KpX.refl B g v
    have hsz2 : v.heap.size = v.heap.size := rfl
    have O3 := O2.alloc (.cells #[.int .u8 (c : Int)] 5)
    have rS : RdB (v.alloc (.cells #[.int .u8 (c : Int)] 5)) (some ⟨v.heap.size, 0, none⟩) [c] := by
      refine ⟨fun x hx => by simp at hx; omega, fun _ => ⟨v.heap.size, 0, rfl, fun i hi => ?_⟩⟩
      obtain rfl : i = 0 := by simp at hi; exact hi
      have := (Cls.new v #[.int .u8 (c : Int)] 5).cell 0 (x := .int .u8 (c : Int)) rfl
      rw [hsz2] at this
      exact this
    have C3 := C2.below ((Below.refl _ _).alloc (Nat.le_refl _) (.cells #[.int .u8 (c : Int)] 5))
    have K3 := K2.alloc (by rw [hsz2]; exact hBv) (by rw [hsz2]; omega) (.cells #[.int .u8 (c : Int)] 5)
    have hsz3 : (v.alloc (.cells #[.int .u8 (c : Int)] 5)).heap.size = v.heap.size + 1 := by rw [World.size_alloc, hsz2]
    have HC2 := hid C2; have HO2 := hid O2; have HK2 := hid K2; have HO3 := hid O3; have HRS := hid rS; have HC3 := hid C3; have HK3 := hid K3; have HS2 := hid hsz2; have HS3 := hid hsz3
    clear C2 O2 K2 O3 rS C3 K3 hsz2 hsz3
    go_enter Tryd.func25, Tryd.ntmps25
    go_wp2_with (at_builtin; refine append_src rfl _ _ rfl (v.alloc (.cells #[.int .u8 (c : Int)] 5)) B (.slice a s.digits.length cap) s.digits.length s.digits rfl HO3.out (some ⟨v.heap.size, 0, none⟩) 1 1 [c] rfl rfl (fun e => by cases e) HRS.out (by omega) (by rw [HS3.out]; omega) ?_)
    intro ra rc w3 own3 gr3
    have hpl := fun j e => own_place HO3.out (j := j) e
    have C4 := HC3.out.grown gr3 (fun e => by have := hpl g e.symm; omega)
    have K4 := HK3.out.grown gr3 (by rw [HS3.out]; omega) hgB hpl
    have hs4 := gr3.size
    rw [HS3.out] at hs4
    have d1 := C4.cell 1 (x := .slice a s.digits.length cap) rfl
    have e1 := C4.frozen 1
    have HC4 := hid C4; have HK4 := hid K4; have HOW := hid own3
    clear C4 K4 own3 gr3 hpl
    go_wp2_with fail
    go_end0
    refine ⟨rfl, ⟨hgB, by simp; omega, ra, rc, ?_, ?_⟩, HK4.out.set 1 _⟩
    · have e : (M.take 3 c s).digits.length = s.digits.length + 1 := by simp [M.take]
      unfold SnV
      rw [e]
      exact HC4.out.set 1 _ _ rfl
    · have e : (M.take 3 c s).digits = s.digits ++ [c] := rfl
      have e2 : (s.digits ++ [c]).length = s.digits.length + 1 := by simp
      rw [e, e2]
      exact own_set HOW.out hgB 1 _
  · go_enter Tryd.func25, Tryd.ntmps25
    go_wp2_with fail
    go_end0
    exact ⟨rfl, ⟨hgB, hBv, a, cap, CH.out, OH.out⟩, KpX.refl _ _ _⟩
  · go_enter Tryd.func25, Tryd.ntmps25
    go_wp2_with fail
    go_end0
    exact ⟨rfl, ⟨hgB, hBv, a, cap, CH.out, OH.out⟩, KpX.refl _ _ _⟩
  · obtain ⟨hd1, hd2⟩ := hd (by omega)
    clear hd
    have hw8 : IntKind.u8.wrap (c : Int) = (c : Int) := by simp [IntKind.wrap, IntKind.bits, IntKind.signed]; omega
    have C2 := CH.out.set 2 (.int .i64 ((s.behind : Int) + 1)) #[.bool s.neg, .slice a s.digits.length cap, .int .i64 ((s.behind : Int) + 1), .bool s.expNeg, .int .i64 (s.exponent : Int)] rfl
    have O2 := own_set OH.out hgB 2 (.int .i64 ((s.behind : Int) + 1))
    have K2 := (KpX.refl B g v).set 2 (.int .i64 ((s.behind : Int) + 1))
    have hsz2 : (v.setCell ⟨g, 2, none⟩ (.int .i64 ((s.behind : Int) + 1))).heap.size = v.heap.size := by simp
    have O3 := O2.alloc (.cells #[.int .u8 (c : Int)] 5)
    have rS : RdB ((v.setCell ⟨g, 2, none⟩ (.int .i64 ((s.behind : Int) + 1))).alloc (.cells #[.int .u8 (c : Int)] 5)) (some ⟨v.heap.size, 0, none⟩) [c] := by
      refine ⟨fun x hx => by simp at hx; omega, fun _ => ⟨v.heap.size, 0, rfl, fun i hi => ?_⟩⟩
      obtain rfl : i = 0 := by simp at hi; exact hi
      have := (Cls.new (v.setCell ⟨g, 2, none⟩ (.int .i64 ((s.behind : Int) + 1))) #[.int .u8 (c : Int)] 5).cell 0 (x := .int .u8 (c : Int)) rfl
      rw [hsz2] at this
      exact this
    have C3 := C2.below ((Below.refl _ _).alloc (Nat.le_refl _) (.cells #[.int .u8 (c : Int)] 5))
    have K3 := K2.alloc (by rw [hsz2]; exact hBv) (by rw [hsz2]; omega) (.cells #[.int .u8 (c : Int)] 5)
    have hsz3 : ((v.setCell ⟨g, 2, none⟩ (.int .i64 ((s.behind : Int) + 1))).alloc (.cells #[.int .u8 (c : Int)] 5)).heap.size = v.heap.size + 1 := by rw [World.size_alloc, hsz2]
    have HC2 := hid C2; have HO2 := hid O2; have HK2 := hid K2; have HO3 := hid O3; have HRS := hid rS; have HC3 := hid C3; have HK3 := hid K3; have HS2 := hid hsz2; have HS3 := hid hsz3
    clear C2 O2 K2 O3 rS C3 K3 hsz2 hsz3
    go_enter Tryd.func25, Tryd.ntmps25
    go_wp2_with (at_builtin; refine append_src rfl _ _ rfl ((v.setCell ⟨g, 2, none⟩ (.int .i64 ((s.behind : Int) + 1))).alloc (.cells #[.int .u8 (c : Int)] 5)) B (.slice a s.digits.length cap) s.digits.length s.digits rfl HO3.out (some ⟨v.heap.size, 0, none⟩) 1 1 [c] rfl rfl (fun e => by cases e) HRS.out (by omega) (by rw [HS3.out]; omega) ?_)
    intro ra rc w3 own3 gr3
    have hpl := fun j e => own_place HO3.out (j := j) e
    have C4 := HC3.out.grown gr3 (fun e => by have := hpl g e.symm; omega)
    have K4 := HK3.out.grown gr3 (by rw [HS3.out]; omega) hgB hpl
    have hs4 := gr3.size
    rw [HS3.out] at hs4
    have d1 := C4.cell 1 (x := .slice a s.digits.length cap) rfl
    have e1 := C4.frozen 1
    have HC4 := hid C4; have HK4 := hid K4; have HOW := hid own3
    clear C4 K4 own3 gr3 hpl
    go_wp2_with fail
    go_end0
    refine ⟨rfl, ⟨hgB, by simp; omega, ra, rc, ?_, ?_⟩, HK4.out.set 1 _⟩
    · have e : (M.take 6 c s).digits.length = s.digits.length + 1 := by simp [M.take]
      unfold SnV
      rw [e]
      exact HC4.out.set 1 _ _ rfl
    · have e : (M.take 6 c s).digits = s.digits ++ [c] := rfl
      have e2 : (s.digits ++ [c]).length = s.digits.length + 1 := by simp
      rw [e, e2]
      exact own_set HOW.out hgB 1 _
  · go_enter Tryd.func25, Tryd.ntmps25
    go_wp2_with fail
    go_end0
    exact ⟨rfl, ⟨hgB, hBv, a, cap, CH.out, OH.out⟩, KpX.refl _ _ _⟩
  · go_enter Tryd.func25, Tryd.ntmps25
    go_wp2_with fail
    go_end0
    refine ⟨rfl, ⟨hgB, by simpa using hBv, a, cap, ?_, own_set OH.out hgB 3 _⟩, (KpX.refl _ _ _).set 3 _⟩
    rw [show ((c : Int) == 45) = decide (c = 45) by rw [Bool.eq_iff_iff]; simp; omega]
    exact CH.out.set 3 _ _ rfl
  · obtain ⟨hd1, hd2⟩ := hd (.inr (.inr rfl))
    clear hd
    have hsub : ((c : Int) - 48) = ((c - 48 : Nat) : Int) := by omega
    by_cases hmx : (s.exponent : Int) * 10 + ((c : Int) - 48) ≤ 1000000
    · go_enter Tryd.func25, Tryd.ntmps25
      go_wp2_with fail
      go_end0
      refine ⟨rfl, ⟨hgB, by simpa using hBv, a, cap, ?_, own_set OH.out hgB 4 _⟩, (KpX.refl _ _ _).set 4 _⟩
      have e : ((M.take 9 c s).exponent : Int) = (s.exponent : Int) * 10 + ((c - 48 : Nat) : Int) := by
        show ((min (s.exponent * 10 + (c - 48)) 1000000 : Nat) : Int) = _
        omega
      rw [← e]
      exact CH.out.set 4 _ _ rfl
    · go_enter Tryd.func25, Tryd.ntmps25
      go_wp2_with fail
      go_end0
      refine ⟨rfl, ⟨hgB, by simpa using hBv, a, cap, ?_, own_set OH.out hgB 4 _⟩, (KpX.refl _ _ _).set 4 _⟩
      have e : ((M.take 9 c s).exponent : Int) = 1000000 := by
        show ((min (s.exponent * 10 + (c - 48)) 1000000 : Nat) : Int) = _
        omega
      rw [← e]
      exact CH.out.set 4 _ _ rfl
end Go.Proofs.YtehplfmnipadmacDoor
