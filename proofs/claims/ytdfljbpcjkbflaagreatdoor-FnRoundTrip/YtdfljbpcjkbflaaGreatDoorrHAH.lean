import Derived.Test.YtdfljbpcjkbflaaGreatDoorrHAG
set_option maxHeartbeats 8000000
set_option maxRecDepth 100000
namespace Go.Proofs.YtdfljbpcjkbflaaGreatDoor
open Go.RowKit
set_option linter.unusedVariables false
set_option maxRecDepth 100000
theorem iH (c : Nat) (hc : c ≤ 2147483647) (w : World) (x : Int) (hx : x = (M.low c : Int)) :
 Calls Tryz.prog 140 #[.int .i32 (c : Int)] w fun e w' => e = .returned (.int .i32 x) ∧ w' = w := by
 have HX := hid hx; clear hx
 unfold M.low at HX
 by_cases h1 : 65 ≤ c
 · have h1' : (65 : Int) ≤ (c : Int) := by omega
   by_cases h2 : c ≤ 90
   · have h2' : (c : Int) ≤ 90 := by omega
     rw [if_pos ⟨h1, h2⟩] at HX
     go_enter Tryz.func140, Tryz.ntmps140
     go_wp2_with fail
     go_ret
     exact ⟨bJ (by rw [HX.out]; omega), rfl⟩
   · have h2' : ¬ (c : Int) ≤ 90 := by omega
     rw [if_neg (by omega)] at HX
     go_enter Tryz.func140, Tryz.ntmps140
     go_wp2_with fail
     go_ret
     exact ⟨bJ (by rw [HX.out]), rfl⟩
 · have h1' : ¬ (65 : Int) ≤ (c : Int) := by omega
   rw [if_neg (by omega)] at HX
   go_enter Tryz.func140, Tryz.ntmps140
   go_wp2_with fail
   go_ret
   exact ⟨bJ (by rw [HX.out]), rfl⟩

theorem I3 (c : Nat) (hc : c ≤ 2147483647) : M.low c ≤ 2147483647 := by unfold M.low; split <;> omega

theorem xU (c : Nat) (hc : c ≤ 2147483647) (w : World) (x : Int) (hx : x = (M.aF c : Int)) :
 Calls Tryz.prog 114 #[.int .i32 (c : Int)] w fun e w' => e = .returned (.int .i64 x) ∧ w' = w := by
 have HX := hid hx; clear hx
 have k1 := iH c hc w _ rfl
 have hl := I3 c hc
 unfold M.aF at HX
 generalize M.low c = y at *
 by_cases h1 : 48 ≤ y ∧ y ≤ 57
 · have h1' : (48 : Int) ≤ (y : Int) := by omega
   have h2' : (y : Int) ≤ 57 := by omega
   rw [if_pos h1] at HX
   go_enter Tryz.func114, Tryz.ntmps114
   go_wp2_with fail
   refine k1.mono ?_
   rintro e w1 ⟨rfl, rfl⟩
   go_wp2_with fail
   go_ret
   exact ⟨bJ (by rw [HX.out]; rfl), rfl⟩
 · rw [if_neg h1] at HX
   have h1' : (decide ((48 : Int) ≤ (y : Int)) && decide ((y : Int) ≤ 57)) = false := by simp; omega
   by_cases h2 : y = 43 ∨ y = 45
   · rw [if_pos h2] at HX
     rcases h2 with rfl | rfl <;>
     · go_enter Tryz.func114, Tryz.ntmps114
       go_wp2_with fail
       refine k1.mono ?_
       rintro e w1 ⟨rfl, rfl⟩
       go_wp2_with fail
       go_ret
       exact ⟨bJ (by rw [HX.out]; rfl), rfl⟩
   · rw [if_neg h2] at HX
     by_cases h3 : y = 46
     · rw [if_pos h3] at HX
       subst h3
       go_enter Tryz.func114, Tryz.ntmps114
       go_wp2_with fail
       refine k1.mono ?_
       rintro e w1 ⟨rfl, rfl⟩
       go_wp2_with fail
       go_ret
       exact ⟨bJ (by rw [HX.out]; rfl), rfl⟩
     · rw [if_neg h3] at HX
       by_cases h4 : y = 101
       · rw [if_pos h4] at HX
         subst h4
         go_enter Tryz.func114, Tryz.ntmps114
         go_wp2_with fail
         refine k1.mono ?_
         rintro e w1 ⟨rfl, rfl⟩
         go_wp2_with fail
         go_ret
         exact ⟨bJ (by rw [HX.out]; rfl), rfl⟩
       · rw [if_neg h4] at HX
         by_cases h5 : y = 105 ∨ y = 110
         · rw [if_pos h5] at HX
           rcases h5 with rfl | rfl <;>
           · go_enter Tryz.func114, Tryz.ntmps114
             go_wp2_with fail
             refine k1.mono ?_
             rintro e w1 ⟨rfl, rfl⟩
             go_wp2_with fail
             go_ret
             exact ⟨bJ (by rw [HX.out]; rfl), rfl⟩
         · rw [if_neg h5] at HX
           have a1 : ((y : Int) == 43) = false := by rw [beq_eq_false_iff_ne]; omega
           have a2 : ((y : Int) == 45) = false := by rw [beq_eq_false_iff_ne]; omega
           have a3 : ((y : Int) == 46) = false := by rw [beq_eq_false_iff_ne]; omega
           have a4 : ((y : Int) == 101) = false := by rw [beq_eq_false_iff_ne]; omega
           have a5 : ((y : Int) == 105) = false := by rw [beq_eq_false_iff_ne]; omega
           have a6 : ((y : Int) == 110) = false := by rw [beq_eq_false_iff_ne]; omega
           by_cases h6 : 48 ≤ y
           · have h6' : (48 : Int) ≤ (y : Int) := by omega
             have h7' : ¬ (y : Int) ≤ 57 := by omega
             clear h1'
             go_enter Tryz.func114, Tryz.ntmps114
             go_wp2_with fail
             refine k1.mono ?_
             rintro e w1 ⟨rfl, rfl⟩
             go_wp2_with fail
             go_ret
             exact ⟨bJ (by rw [HX.out]; rfl), rfl⟩
           · have h6' : ¬ (48 : Int) ≤ (y : Int) := by omega
             clear h1'
             go_enter Tryz.func114, Tryz.ntmps114
             go_wp2_with fail
             refine k1.mono ?_
             rintro e w1 ⟨rfl, rfl⟩
             go_wp2_with fail
             go_ret
             exact ⟨bJ (by rw [HX.out]; rfl), rfl⟩

def BP (d : M.Dec) (v : Value) : Value := .agg #[.int .i64 d.kind, .bool d.neg, v, .int .i64 d.exp]

theorem CY {w : World} {base n cap : Nat} {ao : Option Addr} {xs : List Value} (h : w.ownsRow base 5 1 (.slice ao n cap) n xs) : cap ≤ 9223372036854775807 := by
 rcases h.2 with ⟨he, h0⟩ | ⟨g, cap', cur, he, _, hg, hc, hm, _⟩
 · simp at he; omega
 · simp only [Value.slice.injEq] at he
   obtain ⟨_, _, rfl⟩ := he
   unfold maxLen at hm
   omega

theorem AY {w : World} {base n cap : Nat} {ao : Option Addr} {xs : List Value} (h : w.ownsRow base 5 1 (.slice ao n cap) n xs) (e : ao = none) : cap = 0 := by
 rcases h.2 with ⟨he, h0⟩ | ⟨g, cap', cur, he, _⟩
 · simp at he; omega
 · simp only [Value.slice.injEq] at he
   rw [e] at he
   cases he.1

abbrev gA : Array Value := #[.int .i64 0, .bool false, .slice none 0 0, .int .i64 0]

theorem DS (r : List Nat) : M.aP (48 :: r) = M.aP r := by simp [M.aP]

theorem DX {x : Nat} (r : List Nat) (h : x ≠ 48) : M.aP (x :: r) = x :: r := by simp [M.aP, h]

theorem CU (r : List Nat) : M.bY (r ++ [48]) = M.bY r := by simp [M.bY]

theorem BN {x : Nat} (r : List Nat) (h : x ≠ 48) : M.bY (r ++ [x]) = r ++ [x] := by simp [M.bY, h]

theorem CA (zs : List Nat) : zs = [] ∨ ∃ q x, zs = q ++ [x] := by
 rcases List.eq_nil_or_concat zs with h | ⟨q, x, h⟩
 · exact .inl h
 · exact .inr ⟨q, x, by rw [h, List.concat_eq_append]⟩

theorem BS {w : World} {base n : Nat} {v : Value} {xs : List Value} (h : w.ownsRow base 5 1 v n xs) (p : Addr) (hp : p.block < base) (x : Value) : (w.setCell p x).ownsRow base 5 1 v n xs := by
 refine ⟨h.1, ?_⟩
 rcases h.2 with k | ⟨g, cap, cur, e, hb, hg, r⟩
 · exact .inl k
 · refine .inr ⟨g, cap, cur, e, hb, ?_, r⟩
   rw [Below.heap_setCell w p x g (by omega)]; exact hg

def gR : Value → Nat
 | .slice _ n _ => n
 | _ => 0

theorem pS {W : World} {g : Nat} {xs : Array Value} {t : TypeId} (R : Cls W g xs t) (hx : xs.size = 4) (a b c d : Value) :
 Cls ((((W.setCell ⟨g, 0, none⟩ a).setCell ⟨g, 1, none⟩ b).setCell ⟨g, 2, none⟩ c).setCell ⟨g, 3, none⟩ d) g #[a, b, c, d] t := by
 refine (((R.set 0 a _ rfl).set 1 b _ rfl).set 2 c _ rfl).set 3 d _ ?_
 obtain ⟨l⟩ := xs
 match l, hx with
 | [x0, x1, x2, x3], _ => rfl

theorem gJ {w W : World} {g : Nat} (H : Below g w W) (a b c d : Value) :
 Below g w ((((W.setCell ⟨g, 0, none⟩ a).setCell ⟨g, 1, none⟩ b).setCell ⟨g, 2, none⟩ c).setCell ⟨g, 3, none⟩ d) :=
 (((H.setCell (p := ⟨g, 0, none⟩) (Nat.le_refl _) _).setCell (p := ⟨g, 1, none⟩) (Nat.le_refl _) _).setCell (p := ⟨g, 2, none⟩) (Nat.le_refl _) _).setCell (p := ⟨g, 3, none⟩) (Nat.le_refl _) _

def SnV (s : M.Sn) (a : Option Addr) (cap : Nat) : Array Value := #[.bool s.neg, .slice a s.digits.length cap, .int .i64 (s.behind : Int), .bool s.expNeg, .int .i64 (s.exponent : Int)]

def SnR (v : World) (g B : Nat) (s : M.Sn) : Prop :=
 g < B ∧ B ≤ v.heap.size ∧ ∃ a cap, Cls v g (SnV s a cap) 146 ∧ v.ownsRow B 5 1 (.slice a s.digits.length cap) s.digits.length (UB s.digits)

structure KpX (B g : Nat) (v v' : World) : Prop where
 below : Below g v v'
 keep : ∀ j, j < B → j ≠ g → v'.heap[j]? = v.heap[j]?

theorem KpX.refl (B g : Nat) (v : World) : KpX B g v v := ⟨Below.refl _ _, fun _ _ _ => rfl⟩

theorem KpX.set {B g : Nat} {w v : World} (h : KpX B g w v) (i : Nat) (x : Value) : KpX B g w (v.setCell ⟨g, i, none⟩ x) :=
 ⟨h.below.setCell (p := ⟨g, i, none⟩) (Nat.le_refl _) _, fun j hj hne => by rw [Below.heap_setCell v ⟨g, i, none⟩ x j hne]; exact h.keep j hj hne⟩

theorem KpX.alloc {B g : Nat} {w v : World} (h : KpX B g w v) (hB : B ≤ v.heap.size) (hg : g ≤ v.heap.size) (o : Obj) : KpX B g w (v.alloc o) :=
 ⟨h.below.alloc hg _, fun j hj hne => by rw [Below.heap_alloc v o j (by omega)]; exact h.keep j hj hne⟩

theorem KpX.grown {B g : Nat} {w v v' : World} {row : Option Nat} (h : KpX B g w v) (hg : v.grownBy v' row) (hB : B ≤ v.heap.size) (hgB : g < B) (hr : ∀ j, row = some j → B ≤ j) : KpX B g w v' :=
 ⟨h.below.grown hg (by omega) (fun j e => by have := hr j e; omega), fun j hj hne => by rw [hg.block j (by omega) (fun e => by have := hr j e.symm; omega)]; exact h.keep j hj hne⟩

theorem gZ {v : World} {g B n : Nat} {x : Value} {xs : List Value} (h : v.ownsRow B 5 1 x n xs) (hg : g < B) (i : Nat) (y : Value) : (v.setCell ⟨g, i, none⟩ y).ownsRow B 5 1 x n xs := BS h ⟨g, i, none⟩ hg y

theorem EE (g B st c : Nat) (s : M.Sn) (v : World) (h : SnR v g B s) (h1 : s.digits.length ≤ 1000) (h2 : s.behind ≤ 1000) (h3 : s.exponent ≤ 1000000) (hst : 2 ≤ st ∧ st ≤ 9) (hc : c ≤ 2147483647) (hd : st = 3 ∨ st = 6 ∨ st = 9 → 48 ≤ c ∧ c ≤ 57) :
 Calls Tryz.prog 115 #[.pointer (some ⟨g, 0, none⟩), .int .i64 (st : Int), .int .i32 (c : Int)] v fun e v' => e = .returned (.tuple #[]) ∧ SnR v' g B (M.take st c s) ∧ KpX B g v v' := by
 obtain ⟨hgB, hBv, a, cap, hC, hO⟩ := h
 have c0 := hC.cell 0 (x := .bool s.neg) rfl
 have c1 := hC.cell 1 (x := .slice a s.digits.length cap) rfl
 have c2 := hC.cell 2 (x := .int .i64 (s.behind : Int)) rfl
 have c3 := hC.cell 3 (x := .bool s.expNeg) rfl
 have c4 := hC.cell 4 (x := .int .i64 (s.exponent : Int)) rfl
 have f0 := hC.frozen 0
 have f1 := hC.frozen 1
 have f2 := hC.frozen 2
 have f3 := hC.frozen 3
 have f4 := hC.frozen 4
 have CH := hid hC; have OH := hid hO
 clear hC hO
 rcases (show st = 2 ∨ st = 3 ∨ st = 4 ∨ st = 5 ∨ st = 6 ∨ st = 7 ∨ st = 8 ∨ st = 9 by omega) with rfl | rfl | rfl | rfl | rfl | rfl | rfl | rfl
 · go_enter Tryz.func115, Tryz.ntmps115
   go_wp2_with fail
   go_end0
   refine ⟨rfl, ⟨hgB, by simpa using hBv, a, cap, ?_, gZ OH.out hgB 0 _⟩, (KpX.refl _ _ _).set 0 _⟩
   rw [show ((c : Int) == 45) = decide (c = 45) by rw [Bool.eq_iff_iff]; simp; omega]
   exact CH.out.set 0 _ _ rfl
 · obtain ⟨hd1, hd2⟩ := hd (by omega)
   clear hd
   have hw8 : IntKind.u8.wrap (c : Int) = (c : Int) := by simp [IntKind.wrap, IntKind.bits, IntKind.signed]; omega
   have C2 := CH.out
   have O2 := OH.out
   have K2 := KpX.refl B g v
   have hsz2 : v.heap.size = v.heap.size := rfl
   have O3 := O2.alloc (.cells #[.int .u8 (c : Int)] 5)
   have rS : RdB (v.alloc (.cells #[.int .u8 (c : Int)] 5)) (some ⟨v.heap.size, 0, none⟩) [c] := by
    refine ⟨fun x hx => by simp at hx; omega, fun _ => ⟨v.heap.size, 0, rfl, fun i hi => ?_⟩⟩
    obtain rfl : i = 0 := by simp at hi; exact hi
    have := (Cls.new v #[.int .u8 (c : Int)] 5).cell 0 (x := .int .u8 (c : Int)) rfl
    rw [hsz2] at this
    exact this
   have C3 := C2.below ((Below.refl _ _).alloc (Nat.le_refl _) (.cells #[.int .u8 (c : Int)] 5))
   have K3 := K2.alloc (by rw [hsz2]; exact hBv) (by rw [hsz2]; omega) (.cells #[.int .u8 (c : Int)] 5)
   have hsz3 : (v.alloc (.cells #[.int .u8 (c : Int)] 5)).heap.size = v.heap.size + 1 := by rw [World.size_alloc, hsz2]
   have HC2 := hid C2; have HO2 := hid O2; have HK2 := hid K2; have HO3 := hid O3; have HRS := hid rS; have HC3 := hid C3; have HK3 := hid K3; have HS2 := hid hsz2; have HS3 := hid hsz3
   clear C2 O2 K2 O3 rS C3 K3 hsz2 hsz3
   go_enter Tryz.func115, Tryz.ntmps115
   go_wp2_with (at_builtin; refine jW rfl _ _ rfl (v.alloc (.cells #[.int .u8 (c : Int)] 5)) B (.slice a s.digits.length cap) s.digits.length s.digits rfl HO3.out (some ⟨v.heap.size, 0, none⟩) 1 1 [c] rfl rfl (fun e => by cases e) HRS.out (by omega) (by rw [HS3.out]; omega) ?_)
   intro ra rc w3 own3 gr3
   have hpl := fun j e => dN HO3.out (j := j) e
   have C4 := HC3.out.grown gr3 (fun e => by have := hpl g e.symm; omega)
   have K4 := HK3.out.grown gr3 (by rw [HS3.out]; omega) hgB hpl
   have hs4 := gr3.size
   rw [HS3.out] at hs4
   have d1 := C4.cell 1 (x := .slice a s.digits.length cap) rfl
   have e1 := C4.frozen 1
   have HC4 := hid C4; have HK4 := hid K4; have HOW := hid own3
   clear C4 K4 own3 gr3 hpl
   go_wp2_with fail
   go_end0
   refine ⟨rfl, ⟨hgB, by simp; omega, ra, rc, ?_, ?_⟩, HK4.out.set 1 _⟩
   · have e : (M.take 3 c s).digits.length = s.digits.length + 1 := by simp [M.take]
     unfold SnV
     rw [e]
     exact HC4.out.set 1 _ _ rfl
   · have e : (M.take 3 c s).digits = s.digits ++ [c] := rfl
     have e2 : (s.digits ++ [c]).length = s.digits.length + 1 := by simp
     rw [e, e2]
     exact gZ HOW.out hgB 1 _
 · go_enter Tryz.func115, Tryz.ntmps115
   go_wp2_with fail
   go_end0
   exact ⟨rfl, ⟨hgB, hBv, a, cap, CH.out, OH.out⟩, KpX.refl _ _ _⟩
 · go_enter Tryz.func115, Tryz.ntmps115
   go_wp2_with fail
   go_end0
   exact ⟨rfl, ⟨hgB, hBv, a, cap, CH.out, OH.out⟩, KpX.refl _ _ _⟩
 · obtain ⟨hd1, hd2⟩ := hd (by omega)
   clear hd
   have hw8 : IntKind.u8.wrap (c : Int) = (c : Int) := by simp [IntKind.wrap, IntKind.bits, IntKind.signed]; omega
   have C2 := CH.out.set 2 (.int .i64 ((s.behind : Int) + 1)) #[.bool s.neg, .slice a s.digits.length cap, .int .i64 ((s.behind : Int) + 1), .bool s.expNeg, .int .i64 (s.exponent : Int)] rfl
   have O2 := gZ OH.out hgB 2 (.int .i64 ((s.behind : Int) + 1))
   have K2 := (KpX.refl B g v).set 2 (.int .i64 ((s.behind : Int) + 1))
   have hsz2 : (v.setCell ⟨g, 2, none⟩ (.int .i64 ((s.behind : Int) + 1))).heap.size = v.heap.size := by simp
   have O3 := O2.alloc (.cells #[.int .u8 (c : Int)] 5)
   have rS : RdB ((v.setCell ⟨g, 2, none⟩ (.int .i64 ((s.behind : Int) + 1))).alloc (.cells #[.int .u8 (c : Int)] 5)) (some ⟨v.heap.size, 0, none⟩) [c] := by
    refine ⟨fun x hx => by simp at hx; omega, fun _ => ⟨v.heap.size, 0, rfl, fun i hi => ?_⟩⟩
    obtain rfl : i = 0 := by simp at hi; exact hi
    have := (Cls.new (v.setCell ⟨g, 2, none⟩ (.int .i64 ((s.behind : Int) + 1))) #[.int .u8 (c : Int)] 5).cell 0 (x := .int .u8 (c : Int)) rfl
    rw [hsz2] at this
    exact this
   have C3 := C2.below ((Below.refl _ _).alloc (Nat.le_refl _) (.cells #[.int .u8 (c : Int)] 5))
   have K3 := K2.alloc (by rw [hsz2]; exact hBv) (by rw [hsz2]; omega) (.cells #[.int .u8 (c : Int)] 5)
   have hsz3 : ((v.setCell ⟨g, 2, none⟩ (.int .i64 ((s.behind : Int) + 1))).alloc (.cells #[.int .u8 (c : Int)] 5)).heap.size = v.heap.size + 1 := by rw [World.size_alloc, hsz2]
   have HC2 := hid C2; have HO2 := hid O2; have HK2 := hid K2; have HO3 := hid O3; have HRS := hid rS; have HC3 := hid C3; have HK3 := hid K3; have HS2 := hid hsz2; have HS3 := hid hsz3
   clear C2 O2 K2 O3 rS C3 K3 hsz2 hsz3
   go_enter Tryz.func115, Tryz.ntmps115
   go_wp2_with (at_builtin; refine jW rfl _ _ rfl ((v.setCell ⟨g, 2, none⟩ (.int .i64 ((s.behind : Int) + 1))).alloc (.cells #[.int .u8 (c : Int)] 5)) B (.slice a s.digits.length cap) s.digits.length s.digits rfl HO3.out (some ⟨v.heap.size, 0, none⟩) 1 1 [c] rfl rfl (fun e => by cases e) HRS.out (by omega) (by rw [HS3.out]; omega) ?_)
   intro ra rc w3 own3 gr3
   have hpl := fun j e => dN HO3.out (j := j) e
   have C4 := HC3.out.grown gr3 (fun e => by have := hpl g e.symm; omega)
   have K4 := HK3.out.grown gr3 (by rw [HS3.out]; omega) hgB hpl
   have hs4 := gr3.size
   rw [HS3.out] at hs4
   have d1 := C4.cell 1 (x := .slice a s.digits.length cap) rfl
   have e1 := C4.frozen 1
   have HC4 := hid C4; have HK4 := hid K4; have HOW := hid own3
   clear C4 K4 own3 gr3 hpl
   go_wp2_with fail
   go_end0
   refine ⟨rfl, ⟨hgB, by simp; omega, ra, rc, ?_, ?_⟩, HK4.out.set 1 _⟩
   · have e : (M.take 6 c s).digits.length = s.digits.length + 1 := by simp [M.take]
     unfold SnV
     rw [e]
     exact HC4.out.set 1 _ _ rfl
   · have e : (M.take 6 c s).digits = s.digits ++ [c] := rfl
     have e2 : (s.digits ++ [c]).length = s.digits.length + 1 := by simp
     rw [e, e2]
     exact gZ HOW.out hgB 1 _
 · go_enter Tryz.func115, Tryz.ntmps115
   go_wp2_with fail
   go_end0
   exact ⟨rfl, ⟨hgB, hBv, a, cap, CH.out, OH.out⟩, KpX.refl _ _ _⟩
 · go_enter Tryz.func115, Tryz.ntmps115
   go_wp2_with fail
   go_end0
   refine ⟨rfl, ⟨hgB, by simpa using hBv, a, cap, ?_, gZ OH.out hgB 3 _⟩, (KpX.refl _ _ _).set 3 _⟩
   rw [show ((c : Int) == 45) = decide (c = 45) by rw [Bool.eq_iff_iff]; simp; omega]
   exact CH.out.set 3 _ _ rfl
 · obtain ⟨hd1, hd2⟩ := hd (.inr (.inr rfl))
   clear hd
   have hsub : ((c : Int) - 48) = ((c - 48 : Nat) : Int) := by omega
   by_cases hmx : (s.exponent : Int) * 10 + ((c : Int) - 48) ≤ 1000000
   · go_enter Tryz.func115, Tryz.ntmps115
     go_wp2_with fail
     go_end0
     refine ⟨rfl, ⟨hgB, by simpa using hBv, a, cap, ?_, gZ OH.out hgB 4 _⟩, (KpX.refl _ _ _).set 4 _⟩
     have e : ((M.take 9 c s).exponent : Int) = (s.exponent : Int) * 10 + ((c - 48 : Nat) : Int) := by
      show ((min (s.exponent * 10 + (c - 48)) 1000000 : Nat) : Int) = _
      omega
     rw [← e]
     exact CH.out.set 4 _ _ rfl
   · go_enter Tryz.func115, Tryz.ntmps115
     go_wp2_with fail
     go_end0
     refine ⟨rfl, ⟨hgB, by simpa using hBv, a, cap, ?_, gZ OH.out hgB 4 _⟩, (KpX.refl _ _ _).set 4 _⟩
     have e : ((M.take 9 c s).exponent : Int) = 1000000 := by
      show ((min (s.exponent * 10 + (c - 48)) 1000000 : Nat) : Int) = _
      omega
     rw [← e]
     exact CH.out.set 4 _ _ rfl

def OwnV (w : World) (lo : Nat) (v : Value) (xs : List Nat) : Prop :=
 ∃ a c, v = .slice a xs.length c ∧ xs.length ≤ c ∧ c ≤ 9223372036854775807 ∧ (a = none → c = 0) ∧ (∀ x ∈ xs, x < 256) ∧
   (0 < xs.length → ∃ b off cur, a = some ⟨b, off, none⟩ ∧ lo ≤ b ∧ w.heap[b]? = some (.cells cur 5) ∧ ∀ i, i < xs.length → cur[off + i]? = some (.int .u8 ((xs.getD i 0 : Nat) : Int)))

theorem jA (bs : List Nat) (p : Nat) (h : p < bs.length) : bs.drop p = bs.getD p 0 :: bs.drop (p + 1) := by
 rw [List.drop_eq_getElem_cons h, List.getD_eq_getElem?_getD, List.getElem?_eq_getElem h]; rfl

theorem OwnV.rd {w : World} {lo : Nat} {a : Option Addr} {c : Nat} {xs : List Nat} (h : OwnV w lo (.slice a xs.length c) xs) : RdB w a xs := by
 obtain ⟨a', c', e, _, _, _, hx, h2⟩ := h
 cases e
 refine ⟨hx, fun hp => ?_⟩
 obtain ⟨b, off, cur, e1, _, hb, hc⟩ := h2 hp
 exact ⟨b, off, e1, fun i hi => by rw [cell_of_row w b (off + i) _ _ (0, 0) hb, hc i hi]⟩

theorem OwnV.below {w w' : World} {lo : Nat} {v : Value} {xs : List Nat} (h : OwnV w lo v xs) (hb : Below w.heap.size w w') : OwnV w' lo v xs := by
 obtain ⟨a, c, e, h1, h2, h3, h4, h5⟩ := h
 refine ⟨a, c, e, h1, h2, h3, h4, fun hp => ?_⟩
 obtain ⟨b, off, cur, e1, e2, e3, e4⟩ := h5 hp
 exact ⟨b, off, cur, e1, e2, (hb.block b (Array.getElem?_eq_some_iff.1 e3).1).trans e3, e4⟩

theorem OwnV.far {w : World} {lo : Nat} {v : Value} {xs : List Nat} (h : OwnV w lo v xs) (p : Addr) (hp : p.block < lo) (x : Value) : OwnV (w.setCell p x) lo v xs := by
 obtain ⟨a, c, e, h1, h2, h3, h4, h5⟩ := h
 refine ⟨a, c, e, h1, h2, h3, h4, fun hq => ?_⟩
 obtain ⟨b, off, cur, e1, e2, e3, e4⟩ := h5 hq
 exact ⟨b, off, cur, e1, e2, by rw [Below.heap_setCell w p x b (by omega)]; exact e3, e4⟩

theorem OwnV.low {w : World} {lo lo' : Nat} {v : Value} {xs : List Nat} (h : OwnV w lo v xs) (hl : lo' ≤ lo) : OwnV w lo' v xs := by
 obtain ⟨a, c, e, h1, h2, h3, h4, h5⟩ := h
 refine ⟨a, c, e, h1, h2, h3, h4, fun hp => ?_⟩
 obtain ⟨b, off, cur, e1, e2, e3, e4⟩ := h5 hp
 exact ⟨b, off, cur, e1, Nat.le_trans hl e2, e3, e4⟩

theorem OwnV.of_own {w : World} {B n c : Nat} {a : Option Addr} {bs : List Nat} (h : w.ownsRow B 5 1 (.slice a n c) n (UB bs)) (hb : ∀ x ∈ bs, x < 256) : OwnV w B (.slice a n c) bs := by
 have hl := dW h
 subst hl
 refine ⟨a, c, rfl, j6 h, CY h, AY h, hb, fun hp => ?_⟩
 rcases h.2 with ⟨e, h0⟩ | ⟨g, cap, cur, e, h1, h2, h3, h4, h5, h6⟩
 · omega
 · simp only [Value.slice.injEq] at e
   obtain ⟨rfl, _, rfl⟩ := e
   refine ⟨g, 0, cur, rfl, h1, h2, fun i hi => ?_⟩
   rw [Nat.zero_add, ← gV bs i hi, ← h6, Nat.mul_one, List.getElem?_take_of_lt hi, Array.getElem?_toList]

theorem OwnV.nil (w : World) (lo : Nat) : OwnV w lo (.slice none 0 0) [] := ⟨none, 0, rfl, by simp, by omega, fun _ => rfl, fun x hx => by simp at hx, fun hp => by simp at hp⟩

def tlV (a : Option Addr) (c : Nat) (xs : List Nat) : Value :=
 if M.aP xs = [] then .slice none 0 0 else match a with
  | some p => .slice (some ⟨p.block, p.off + (xs.length - (M.aP xs).length), none⟩) (M.aP xs).length (c - (xs.length - (M.aP xs).length))
  | none => .slice none 0 0

theorem qB (xs : List Nat) : (M.aP xs).length ≤ xs.length := (List.dropWhile_suffix _).length_le

theorem vF (xs : List Nat) : M.aP xs = xs.drop (xs.length - (M.aP xs).length) := by
 have h : M.aP xs <:+ xs := List.dropWhile_suffix _
 exact List.suffix_iff_eq_drop.1 h

theorem pF (xs : List Nat) : M.bY xs = xs.take (M.bY xs).length := by
 have h : (xs.reverse.dropWhile (fun c => decide (c = 48))) <:+ xs.reverse := List.dropWhile_suffix _
 have h2 : M.bY xs <+: xs := by
  unfold M.bY
  have := List.reverse_prefix.2 h
  rwa [List.reverse_reverse] at this
 exact List.prefix_iff_eq_take.1 h2

theorem qF (xs : List Nat) : (M.bY xs).length ≤ xs.length := by
 have := congrArg List.length (pF xs)
 rw [List.length_take] at this
 omega

theorem OwnV.tl {w : World} {lo c : Nat} {a : Option Addr} {xs : List Nat} (h : OwnV w lo (.slice a xs.length c) xs) : OwnV w lo (tlV a c xs) (M.aP xs) := by
 unfold tlV
 by_cases e : M.aP xs = []
 · rw [if_pos e, e]; exact OwnV.nil _ _
 · rw [if_neg e]
   have hl := qB xs
   have hd := vF xs
   have hp : 0 < (M.aP xs).length := List.length_pos_iff.2 e
   obtain ⟨a', c', ee, h1, h2, h3, h4, h5⟩ := h
   cases ee
   obtain ⟨b, off, cur, rfl, e2, e3, e4⟩ := h5 (by omega)
   refine ⟨_, _, rfl, by omega, by omega, (fun h => by cases h), fun y hy => h4 y (by rw [hd] at hy; exact List.mem_of_mem_drop hy), fun _ => ⟨b, _, cur, rfl, e2, e3, fun i hi => ?_⟩⟩
   rw [Nat.add_assoc, e4 _ (by omega)]
   conv => rhs; rw [hd]
   simp [List.getD_eq_getElem?_getD, List.getElem?_drop]

theorem OwnV.tr {w : World} {lo c : Nat} {a : Option Addr} {xs : List Nat} (h : OwnV w lo (.slice a xs.length c) xs) : OwnV w lo (.slice a (M.bY xs).length c) (M.bY xs) := by
 have hl := qF xs
 have hd := pF xs
 obtain ⟨a', c', ee, h1, h2, h3, h4, h5⟩ := h
 cases ee
 refine ⟨_, _, rfl, by omega, h2, h3, fun y hy => h4 y (by rw [hd] at hy; exact List.mem_of_mem_take hy), fun hp => ?_⟩
 obtain ⟨b, off, cur, e1, e2, e3, e4⟩ := h5 (by omega)
 refine ⟨b, off, cur, e1, e2, e3, fun i hi => ?_⟩
 rw [e4 i (by omega)]
 conv => rhs; rw [hd]
 rw [List.getD_eq_getElem?_getD, List.getD_eq_getElem?_getD, List.getElem?_take_of_lt hi]

theorem xD (a : Option Addr) (n c : Nat) (xs : List Nat) (w : World) (hl : xs.length = n) (hcap : n ≤ c) (h : RdB w a xs) (x : Value) (hx : x = tlV a c xs) :
 Calls Tryz.prog 132 #[.slice a n c, .int .u8 48] w fun e w' => e = .returned x ∧ w' = w := by
 subst hl
 have HX := hid hx; clear hx
 go_enter Tryz.func132, Tryz.ntmps132
 go_wp2_with fail
 go_loopw [0] (fun ov wr => ∃ (k : Nat) (a' : Option Addr), k ≤ xs.length ∧ ov = .slice a' (xs.length - k) (c - k) ∧ (k < xs.length → a' = a.map fun p => ⟨p.block, p.off + k, none⟩) ∧ M.aP xs = M.aP (xs.drop k) ∧ wr = w) (fun ov _ => gR ov)
 case atStart => exact ⟨0, a, by omega, rfl, fun hp => by obtain ⟨b, off, e, _⟩ := h.2 hp; rw [e]; rfl, by rw [List.drop_zero], rfl⟩
 case round =>
  obtain ⟨k, a', hk, rfl, h4, h5, rfl⟩ := hrel
  have H5 := hid h5; clear h5
  by_cases hlt : k < xs.length
  · obtain ⟨b2, o2, hbo, hc2⟩ := h.2 (by omega)
    have hck := hc2 k hlt
    have ha' := h4 hlt
    subst hbo
    simp only [Option.map_some] at ha'
    subst ha'
    obtain ⟨m, hm⟩ : ∃ m, xs.length - k = m + 1 := ⟨xs.length - k - 1, by omega⟩
    have hdr := jA xs k hlt
    rw [hm]
    have hpos : (0 : Int) < ((m + 1 : Nat) : Int) := by omega
    have hne0 : (((m + 1 : Nat) : Int) == 0) = false := by rw [beq_eq_false_iff_ne]; omega
    have hcc : m + 1 ≤ c - k := by omega
    have H := hid h; have HDR := hid hdr; have HM := hid hm
    clear h hc2 h4 hdr hm
    generalize hxk : xs.getD k 0 = y at *
    by_cases hy : y = 48
    · subst hy
      go_wp2_with fail
      refine ⟨⟨k + 1, _, by omega, by rw [show xs.length - (k + 1) = m by have := HM.out; omega, show c - (k + 1) = c - k - 1 by omega], fun hq => ?_, by rw [H5.out, HDR.out, DS], by first | rfl | trivial⟩, by simp [gR]⟩
      rw [if_neg (by have := HM.out; omega)]
      rfl
    · have hy' : ((y : Int) == 48) = false := by rw [beq_eq_false_iff_ne]; omega
      have HY := hid hy; clear hy
      go_wp2_with fail
      go_ret
      refine ⟨?_, rfl⟩
      rw [HX.out]
      have e : M.aP xs = xs.drop k := by rw [H5.out, HDR.out, DX _ HY.out]
      have e2 : (M.aP xs).length = m + 1 := by rw [e, List.length_drop]; exact HM.out
      have e3 : xs.length - (M.aP xs).length = k := by have := HM.out; omega
      unfold tlV
      rw [if_neg (fun q => by rw [q] at e2; simp at e2), e3, e2]
      rfl
  · have e : k = xs.length := by omega
    subst e
    have hnil : M.aP xs = [] := by rw [H5.out, List.drop_length]; rfl
    have HN := hid hnil
    clear hnil h4
    rw [Nat.sub_self]
    go_wp2_with fail
    go_ret
    refine ⟨?_, rfl⟩
    rw [HX.out]
    unfold tlV
    rw [if_pos HN.out]
    rfl

theorem vW (a : Option Addr) (n c : Nat) (xs : List Nat) (w : World) (hl : xs.length = n) (hn : n ≤ 10000) (hcap : n ≤ c) (h : RdB w a xs) (m : Nat) (hm : m = (M.bY xs).length) :
 Calls Tryz.prog 136 #[.slice a n c, .int .u8 48] w fun e w' => e = .returned (.slice a m c) ∧ w' = w := by
 subst hl
 have HM := hid hm; clear hm
 go_enter Tryz.func136, Tryz.ntmps136
 go_wp2_with fail
 go_loopw [0] (fun ov wr => ∃ (ys : List Nat), ov = .slice a ys.length c ∧ ys.length ≤ 10000 ∧ ys.length ≤ c ∧ RdB w a ys ∧ M.bY xs = M.bY ys ∧ wr = w) (fun ov _ => gR ov)
 case atStart => exact ⟨xs, rfl, hn, hcap, h, rfl, rfl⟩
 case round =>
  obtain ⟨ys, rfl, hyl, hyc, hrd, h5, rfl⟩ := hrel
  have H5 := hid h5
  clear h5
  rcases CA ys with rfl | ⟨q, x, rfl⟩
  · clear hrd
    go_wp2_with fail
    go_ret
    exact ⟨by rw [HM.out, H5.out]; rfl, rfl⟩
  · obtain ⟨b2, o2, hbo, hc2⟩ := hrd.2 (by simp)
    subst hbo
    have hck := hc2 q.length (by simp)
    rw [show (q ++ [x]).getD q.length 0 = x by simp] at hck
    have hql : (q ++ [x]).length = q.length + 1 := by simp
    rw [hql] at hyl hyc ⊢
    have hpos : (0 : Int) < ((q.length + 1 : Nat) : Int) := by omega
    have hm1 : ((q.length + 1 : Nat) : Int) - 1 = (q.length : Int) := by omega
    have hcc2 : q.length ≤ c := by omega
    have HRD := hid hrd
    clear hc2 hrd
    by_cases hx : x = 48
    · subst hx
      clear hql
      go_wp2_with fail
      refine ⟨⟨q, rfl, by omega, by omega, ?_, by rw [H5.out, CU], by first | rfl | trivial⟩, by simp [gR]⟩
      have := HRD.out.front q.length
      rwa [List.take_left] at this
    · have hx' : ((x : Int) == 48) = false := by rw [beq_eq_false_iff_ne]; omega
      have HX := hid hx; have HQ := hid hql
      clear hx hql
      go_wp2_with fail
      go_ret
      have e : (M.bY xs).length = q.length + 1 := by rw [H5.out, BN q HX.out, HQ.out]
      exact ⟨by rw [HM.out, e]; rfl, rfl⟩

theorem BF (a : Option Addr) (n c : Nat) (xs : List Nat) (w : World) (hl : xs.length = n) (hcap : n ≤ c) (h : RdB w a xs) (x : Value) (hx : x = tlV a c xs) :
 Calls Tryz.prog 110 #[.slice a n c, .string ⟨#[48]⟩] w fun e w' => e = .returned x ∧ w' = w := by
 subst hl
 have k := xD a xs.length c xs w rfl hcap h x hx
 have HX := hid hx; clear h hx
 by_cases h0 : xs = []
 · subst h0
   clear k
   go_enter Tryz.func110, Tryz.ntmps110
   go_wp2_with fail
   go_ret
   exact ⟨by rw [HX.out]; rfl, rfl⟩
 · have h0' : (((xs.length : Nat) : Int) == 0) = false := by
    rw [beq_eq_false_iff_ne]
    have : xs.length ≠ 0 := fun e => h0 (List.length_eq_zero_iff.1 e)
    omega
   go_enter Tryz.func110, Tryz.ntmps110
   go_wp2_with fail
   refine Calls.mono (k) ?_
   rintro e w1 ⟨rfl, rfl⟩
   go_wp2_with fail
   go_ret
   exact ⟨rfl, rfl⟩

theorem zS (a : Option Addr) (n c : Nat) (xs : List Nat) (w : World) (hl : xs.length = n) (hn : n ≤ 10000) (hcap : n ≤ c) (h : RdB w a xs) (m : Nat) (hm : m = (M.bY xs).length) :
 Calls Tryz.prog 111 #[.slice a n c, .string ⟨#[48]⟩] w fun e w' => e = .returned (.slice a m c) ∧ w' = w := by
 subst hl
 have k := vW a xs.length c xs w rfl hn hcap h m hm
 have HM := hid hm; clear h hm
 by_cases h0 : xs = []
 · subst h0
   clear k
   go_enter Tryz.func111, Tryz.ntmps111
   go_wp2_with fail
   go_ret
   exact ⟨by rw [HM.out]; rfl, rfl⟩
 · have h0' : (((xs.length : Nat) : Int) == 0) = false := by
    rw [beq_eq_false_iff_ne]
    have : xs.length ≠ 0 := fun e => h0 (List.length_eq_zero_iff.1 e)
    omega
   go_enter Tryz.func111, Tryz.ntmps111
   go_wp2_with fail
   refine Calls.mono (k) ?_
   rintro e w1 ⟨rfl, rfl⟩
   go_wp2_with fail
   go_ret
   exact ⟨rfl, rfl⟩

def bV (a : Option Addr) (c : Nat) (xs : List Nat) : Value :=
 if M.aT xs = [] then .slice none 0 0 else match tlV a c xs with
  | .slice a' _ c' => .slice a' (M.aT xs).length c'
  | v => v

theorem OwnV.bv {w : World} {lo c : Nat} {a : Option Addr} {xs : List Nat} (h : OwnV w lo (.slice a xs.length c) xs) : OwnV w lo (bV a c xs) (M.aT xs) := by
 unfold bV
 by_cases e : M.aT xs = []
 · rw [if_pos e, e]; exact OwnV.nil _ _
 · rw [if_neg e]
   have ht := h.tl
   obtain ⟨a1, c1, e1, _⟩ := id ht
   rw [e1] at ht ⊢
   exact ht.tr

theorem nS (lo : Nat) (a : Option Addr) (n c : Nat) (xs : List Nat) (x : Int) (w : World) (hl : xs.length = n) (hn : n ≤ 10000) (hx : -2000000 ≤ x ∧ x ≤ 2000000) (h : OwnV w lo (.slice a n c) xs) :
 Calls Tryz.prog 84 #[.slice a n c, .int .i64 x] w fun e w' => e = .returned (.tuple #[bV a c xs, .int .i64 (M.fF xs x)]) ∧ w' = w := by
 subst hl
 have hcap : xs.length ≤ c := by obtain ⟨_, _, e, h1, _⟩ := h; cases e; exact h1
 have k1 := BF a xs.length c xs w rfl hcap h.rd _ rfl
 have hll := qB xs
 have hv1 := h.tl
 obtain ⟨a1, c1, e1, hc1, _⟩ := id hv1
 rw [e1] at hv1 k1
 have k2 := zS a1 (M.aP xs).length c1 (M.aP xs) w rfl (by omega) hc1 hv1.rd _ rfl
 have hE : M.fF xs x = if M.aT xs = [] then 0 else x + (M.aP xs).length - (M.aT xs).length := rfl
 have hB : bV a c xs = if M.aT xs = [] then .slice none 0 0 else .slice a1 (M.aT xs).length c1 := by unfold bV; rw [e1]
 have hD : M.bY (M.aP xs) = M.aT xs := rfl
 have hdl := qF (M.aP xs)
 rw [hD] at k2 hdl
 go_enter Tryz.func84, Tryz.ntmps84
 go_wp2_with fail
 refine k1.mono ?_
 rintro e w1 ⟨rfl, rfl⟩
 go_wp2_with fail
 refine k2.mono ?_
 rintro e w2 ⟨rfl, rfl⟩
 by_cases hz : M.aT xs = []
 · have hE0 : M.fF xs x = 0 := by rw [hE, if_pos hz]
   have hB0 : bV a c xs = .slice none 0 0 := by rw [hB, if_pos hz]
   have hz0 : (M.aT xs).length = 0 := by rw [hz]; rfl
   have HE := hid hE0; have HB := hid hB0
   clear hE hE0 hB hB0 hv1 k1 k2 e1 h hz hD
   rw [hz0]
   go_wp2_with fail
   go_ret2
   exact ⟨by rw [HE.out, HB.out]; rfl, rfl⟩
 · have hz0 : (((M.aT xs).length : Int) == 0) = false := by
    rw [beq_eq_false_iff_ne]
    have : (M.aT xs).length ≠ 0 := fun e => hz (List.length_eq_zero_iff.1 e)
    omega
   have hE0 : M.fF xs x = x + (M.aP xs).length - (M.aT xs).length := by rw [hE, if_neg hz]
   have hB0 : bV a c xs = .slice a1 (M.aT xs).length c1 := by rw [hB, if_neg hz]
   have HE := hid hE0; have HB := hid hB0
   clear hE hE0 hB hB0 hv1 k1 k2 e1 h hz hD
   generalize (M.aT xs).length = nd at *
   generalize (M.aP xs).length = nl at *
   go_wp2_with fail
   go_ret2
   exact ⟨by rw [HE.out, HB.out]; rfl, rfl⟩

def OwnF (w : World) (lo : Nat) (v : Value) (xs : List Nat) : Prop :=
 ∃ a c, v = .slice a xs.length c ∧ (0 < xs.length → ∃ b off cur fz, a = some ⟨b, off, none⟩ ∧ lo ≤ b ∧ w.heap[b]? = some (.cells cur 5 fz) ∧ (∀ i, i < xs.length → fz.2 ≤ off + i ∨ off + i < fz.1) ∧ ∀ i, i < xs.length → cur[off + i]? = some (.int .u8 ((xs.getD i 0 : Nat) : Int)))

theorem OwnF.of {w : World} {lo : Nat} {v : Value} {xs : List Nat} (h : OwnV w lo v xs) : OwnF w lo v xs := by
 obtain ⟨a, c, e, h1, h2, h3, h4, h5⟩ := h
 refine ⟨a, c, e, fun hp => ?_⟩
 obtain ⟨b, off, cur, e1, e2, e3, e4⟩ := h5 hp
 exact ⟨b, off, cur, (0, 0), e1, e2, e3, fun i _ => .inl (Nat.zero_le _), e4⟩

theorem OwnF.below {w w' : World} {lo : Nat} {v : Value} {xs : List Nat} (h : OwnF w lo v xs) (hb : Below w.heap.size w w') : OwnF w' lo v xs := by
 obtain ⟨a, c, e, h5⟩ := h
 refine ⟨a, c, e, fun hp => ?_⟩
 obtain ⟨b, off, cur, fz, e1, e2, e3, e5, e4⟩ := h5 hp
 exact ⟨b, off, cur, fz, e1, e2, (hb.block b (Array.getElem?_eq_some_iff.1 e3).1).trans e3, e5, e4⟩

theorem OwnF.y {w : World} {lo : Nat} {a : Option Addr} {c : Nat} {xs : List Nat} (h : OwnF w lo (.slice a xs.length c) xs) : RdY w a xs := by
 obtain ⟨a', c', e, h2⟩ := h
 cases e
 intro hp
 obtain ⟨b, off, cur, fz, e1, _, hb, _, hc⟩ := h2 hp
 exact ⟨b, off, e1, fun i hi => by rw [cell_of_row w b (off + i) _ _ fz hb, hc i hi]⟩

def PrR (v w' : World) (e : Ending) (bs : List Nat) (k : Int) : Prop :=
 ∃ ra rc, e = .returned (.agg #[.slice ra bs.length rc, .int .i64 k]) ∧ RdY w' ra bs ∧ Below v.heap.size v w'

def PrO (v w' : World) (e : Ending) (bs : List Nat) (k : Int) : Prop :=
 ∃ ra rc, e = .returned (.agg #[.slice ra bs.length rc, .int .i64 k]) ∧ OwnF w' v.heap.size (.slice ra bs.length rc) bs ∧ Below v.heap.size v w'

theorem JL (c : Int) (n : Bool) (h l q : Int) (v : World) : Sem.run Tryz.prog (Instr.field 35 (.agg #[.int .i64 c, .bool n, .int .u64 h, .int .u64 l, .int .i64 q]) 0) v = .ok (.int .i64 c) v := by
 kernel_rfl

theorem CC (a0 : Option Addr) (n c : Nat) (w : World) (h1 : n ≤ 1048576)
 (kD : Calls Tryz.prog 4 #[.slice a0 n c] w fun e w' => ∃ (f : Int) (X : Nat), X < 2 ^ 128 ∧ e = .returned (.tuple #[.int .i64 f, .agg #[.int .u64 (M.hiN X : Int), .int .u64 (M.loN X : Int)]]) ∧ Below w.heap.size w w')
 (kA : ∀ (f : Int) (X : Nat), X < 2 ^ 128 → ∃ (bs : List Nat) (k : Int), (∀ x ∈ bs, x < 256) ∧
   (∀ v : World, Below w.heap.size w v → Calls Tryz.prog 5 #[.int .i64 f, .agg #[.int .u64 (M.hiN X : Int), .int .u64 (M.loN X : Int)]] v fun e w' => PrO v w' e bs k) ∧
   (∀ v : World, Calls Tryz.prog 6 #[.int .i64 f, .agg #[.int .u64 (M.hiN X : Int), .int .u64 (M.loN X : Int)]] v fun e w' => ∃ bs', PrR v w' e bs' k) ∧
   ((k ≠ 0 ∧ bs = []) ∨ (k = 0 ∧ ∃ (tc : Int) (tn : Bool) (th tl tq : Int) (Y : Nat) (fl : Int),
     (∀ (v : World) (a : Option Addr) (cc : Nat), Below w.heap.size w v → RdB v a bs → Calls Tryz.prog 7 #[.int .i64 f, .slice a bs.length cc] v fun e w' => e = .returned (.agg #[.int .u64 (M.hiN Y : Int), .int .u64 (M.loN Y : Int), .int .i64 0, .int .i64 0, .int .i64 fl]) ∧ Below v.heap.size v w') ∧
     (∀ v : World, Calls Tryz.prog 8 #[.int .i64 f, .agg #[.int .u64 (M.hiN X : Int), .int .u64 (M.loN X : Int)]] v fun e w' => e = .returned (.agg #[.int .i64 tc, .bool tn, .int .u64 th, .int .u64 tl, .int .i64 tq]) ∧ Below v.heap.size v w') ∧
     ((tc ≠ 5 ∧ Y = X) ∨ (tc = 5 ∧ ∃ ok : Bool, ∀ v : World, Calls Tryz.prog 9 #[.int .i64 f, .agg #[.int .i64 5, .bool false, .int .u64 0, .int .u64 0, .int .i64 0]] v fun e w' => e = .returned (.tuple #[.agg #[.int .u64 (M.hiN Y : Int), .int .u64 (M.loN Y : Int)], .bool ok]) ∧ Below v.heap.size v w'))))) :
 Calls Tryz.prog 3 #[.slice a0 n c] w fun e w' => e = .returned (.bool true) ∧ Below w.heap.size w w' := by
 have h1' : ¬ (1048576 : Int) < (n : Int) := by omega
 have fr := JL
 go_enter Tryz.func3, Tryz.ntmps3
 go_wp2_with fail
 refine kD.mono ?_
 rintro e v1 ⟨f, X, hX, rfl, b0⟩
 have hw1 := b0.size
 obtain ⟨bs, k, h256, kI, kS, kC⟩ := kA f X hX
 have HC := hid kC
 clear kA kD kC
 have cw := Cls.new v1 #[.int .u64 (M.hiN X : Int), .int .u64 (M.loN X : Int)] 25
 have hb := (Below.refl _ v1).alloc (Nat.le_refl _) (.cells #[.int .u64 (M.hiN X : Int), .int .u64 (M.loN X : Int)] 25)
 replace b0 := b0.trans (hb.mono b0.size)
 clear hb
 go_upto_region 4 with fail
 generalize v1.alloc (.cells #[.int .u64 (M.hiN X : Int), .int .u64 (M.loN X : Int)] 25) = v2 at *
 have HGW : Hid (w.heap.size ≤ v1.heap.size) := hid hw1
 clear hw1
 generalize v1.heap.size = gw at *
 have x0 := cw.cell 0 rfl
 have x1 := cw.cell 1 rfl
 go_wp2_with fail
 refine (kI _ b0).mono ?_
 rintro e v3 ⟨ra, rc, rfl, oF, hb⟩
 replace cw := cw.below hb
 replace b0 := b0.trans (hb.mono b0.size)
 clear hb x0 x1
 have cg := Cls.new v3 #[.slice ra bs.length rc, .int .i64 k] 29
 have hb := (Below.refl _ v3).alloc (Nat.le_refl _) (.cells #[.slice ra bs.length rc, .int .i64 k] 29)
 replace cw := cw.below hb
 have RB : RdB _ ra bs := ⟨h256, (oF.below hb).y⟩
 replace b0 := b0.trans (hb.mono b0.size)
 clear hb oF
 go_upto_region 5 with fail
 generalize v3.alloc (.cells #[.slice ra bs.length rc, .int .i64 k] 29) = v4 at *
 generalize v3.heap.size = gg at *
 have x0 := cw.cell 0 rfl
 have x1 := cw.cell 1 rfl
 go_wp2_with fail
 refine (kS _).mono ?_
 rintro e v5 ⟨bs', rb, rc', rfl, -, hb⟩
 replace cw := cw.below hb
 replace cg := cg.below hb
 replace RB := RB.below hb
 replace b0 := b0.trans (hb.mono b0.size)
 clear hb x0 x1
 have cn := Cls.new v5 #[.slice rb bs'.length rc', .int .i64 k] 29
 have hb := (Below.refl _ v5).alloc (Nat.le_refl _) (.cells #[.slice rb bs'.length rc', .int .i64 k] 29)
 replace cw := cw.below hb
 replace cg := cg.below hb
 replace RB := RB.below hb
 replace b0 := b0.trans (hb.mono b0.size)
 clear hb
 go_upto_region 6 with fail
 generalize v5.alloc (.cells #[.slice rb bs'.length rc', .int .i64 k] 29) = v6 at *
 generalize v5.heap.size = gn at *
 have x0 := cw.cell 0 rfl
 have x1 := cw.cell 1 rfl
 have y0 := cg.cell 0 rfl
 have y1 := cg.cell 1 rfl
 have z1 := cn.cell 1 rfl
 rcases HC.out with ⟨hk, rfl⟩ | ⟨rfl, tc, tn, th, tl, tq, Y, fl, kP, kU, hY⟩
 · have hk' : (k == 0) = false := beq_eq_false_iff_ne.2 hk
   have HB := hid b0
   clear HC b0
   go_wp2_with fail
   go_ret
   exact ⟨rfl, HB.out⟩
 · have HY := hid hY
   clear HC hY
   go_wp2_with fail
   refine (kP _ ra rc b0 RB).mono ?_
   rintro e v7 ⟨rfl, hb⟩
   replace cw := cw.below hb
   replace b0 := b0.trans (hb.mono b0.size)
   clear hb x0 x1 y0 y1 z1 RB cg cn
   have lw7 := cw.lt
   have cp := Cls.new v7 #[.int .u64 (M.hiN Y : Int), .int .u64 (M.loN Y : Int), .int .i64 0, .int .i64 0, .int .i64 fl] 32
   have hb := (Below.refl _ v7).alloc (Nat.le_refl _) (.cells #[.int .u64 (M.hiN Y : Int), .int .u64 (M.loN Y : Int), .int .i64 0, .int .i64 0, .int .i64 fl] 32)
   replace cw := cw.below hb
   replace b0 := b0.trans (hb.mono b0.size)
   clear hb
   go_upto_region 11 with fail
   generalize v7.alloc (.cells #[.int .u64 (M.hiN Y : Int), .int .u64 (M.loN Y : Int), .int .i64 0, .int .i64 0, .int .i64 fl] 32) = v8 at *
   have HGP : Hid (gw < v7.heap.size) := hid lw7
   clear lw7
   generalize v7.heap.size = gp at *
   have x0 := cw.cell 0 rfl
   have x1 := cw.cell 1 rfl
   go_wp2_with fail
   refine (kU _).mono ?_
   rintro e v9 ⟨rfl, hb⟩
   replace cw := cw.below hb
   replace cp := cp.below hb
   replace b0 := b0.trans (hb.mono b0.size)
   clear hb x0 x1
   have x0 := cw.cell 0 rfl
   have x1 := cw.cell 1 rfl
   rcases HY.out with ⟨h5, rfl⟩ | ⟨rfl, ok, kN⟩
   · have h5' : (tc == 5) = false := beq_eq_false_iff_ne.2 h5
     have q0 := cp.cell 0 rfl
     have q1 := cp.cell 1 rfl
     have q2 := cp.cell 2 rfl
     have HB := hid b0
     clear HY b0
     go_wp2_with fail
     go_ret
     exact ⟨rfl, HB.out⟩
   · clear HY
     go_wp2_with fail
     refine (kN _).mono ?_
     rintro e u1 ⟨rfl, hb⟩
     replace cw := cw.below hb
     replace cp := cp.below hb
     replace b0 := b0.trans (hb.mono b0.size)
     clear hb x0 x1
     have x0 := cw.cell 0 rfl
     have x1 := cw.cell 1 rfl
     have f0 := cw.frozen 0
     have f1 := cw.frozen 1
     have lw := HGP.out
     have HB := hid ((b0.setCell (p := ⟨gw, 0, none⟩) (show w.heap.size ≤ gw from HGW.out) (.int .u64 (M.hiN Y : Int))).setCell (p := ⟨gw, 1, none⟩) (show w.heap.size ≤ gw from HGW.out) (.int .u64 (M.loN Y : Int)))
     have cp' := (cp.far ⟨gw, 0, none⟩ (by simp only; omega) (.int .u64 (M.hiN Y : Int))).far ⟨gw, 1, none⟩ (by simp only; omega) (.int .u64 (M.loN Y : Int))
     have cw' := (cw.set 0 (.int .u64 (M.hiN Y : Int)) _ rfl).set 1 (.int .u64 (M.loN Y : Int)) #[.int .u64 (M.hiN Y : Int), .int .u64 (M.loN Y : Int)] rfl
     clear b0
     go_upto_region 13 with fail
     generalize (u1.setCell ⟨gw, 0, none⟩ (.int .u64 (M.hiN Y : Int))).setCell ⟨gw, 1, none⟩ (.int .u64 (M.loN Y : Int)) = u2 at *
     clear x0 x1 f0 f1 cw cp
     have x0 := cw'.cell 0 rfl
     have x1 := cw'.cell 1 rfl
     have q0 := cp'.cell 0 rfl
     have q1 := cp'.cell 1 rfl
     have q2 := cp'.cell 2 rfl
     go_wp2_with fail
     go_ret
     exact ⟨rfl, HB.out⟩

end Go.Proofs.YtdfljbpcjkbflaaGreatDoor
namespace Go.Proofs.YtdfljbpcjkbflaaGreatDoor.M
set_option linter.unusedVariables false
set_option maxRecDepth 100000
def dec (bs : List Nat) : Nat := bs.foldl (fun v c => v * 10 + (c - 48)) 0

theorem oK (bs : List Nat) (c : Nat) : dec (bs ++ [c]) = dec bs * 10 + (c - 48) := by simp [dec]

theorem tC (bs : List Nat) : ∀ v : Nat, bs.foldl (fun v c => v * 10 + (c - 48)) v = v * 10 ^ bs.length + dec bs := by
 induction bs with
 | nil => intro v; simp [dec]
 | cons c bs ih =>
   intro v
   have e : dec (c :: bs) = (c - 48) * 10 ^ bs.length + dec bs := by
    have h := ih (0 * 10 + (c - 48))
    rw [Nat.zero_mul, Nat.zero_add] at h
    unfold dec at h ⊢
    rw [List.foldl_cons, Nat.zero_mul, Nat.zero_add]
    exact h
   rw [List.foldl_cons, ih, e, List.length_cons, Nat.pow_succ, Nat.add_mul, Nat.mul_assoc, Nat.mul_comm 10]
   omega

theorem oD (c : Nat) (bs : List Nat) : dec (c :: bs) = (c - 48) * 10 ^ bs.length + dec bs := by
 have := tC bs (0 * 10 + (c - 48))
 rw [Nat.zero_mul, Nat.zero_add] at this
 unfold dec at this ⊢
 rw [List.foldl_cons, Nat.zero_mul, Nat.zero_add]
 exact this

theorem vV (xs ys : List Nat) : dec (xs ++ ys) = dec xs * 10 ^ ys.length + dec ys := by
 have := tC ys (dec xs)
 rw [← this]
 unfold dec
 rw [List.foldl_append]

def Dig (bs : List Nat) : Prop := ∀ c ∈ bs, 48 ≤ c ∧ c ≤ 57

theorem Dig.get {bs : List Nat} (h : Dig bs) (i : Nat) (hi : i < bs.length) : 48 ≤ bs.getD i 0 ∧ bs.getD i 0 ≤ 57 := by
 rw [List.getD_eq_getElem?_getD, List.getElem?_eq_getElem hi]
 exact h _ (List.getElem_mem hi)

theorem xO (bs : List Nat) (h : Dig bs) : dec bs < 10 ^ bs.length := by
 induction bs with
 | nil => simp [dec]
 | cons c bs ih =>
   have h1 := ih (fun x hx => h x (List.mem_cons_of_mem _ hx))
   have h2 := h c (by simp)
   rw [oD, List.length_cons, Nat.pow_succ]
   have h3 : (c - 48) * 10 ^ bs.length ≤ 9 * 10 ^ bs.length := Nat.mul_le_mul_right _ (by omega)
   omega

theorem qZ (bs : List Nat) (i t : Nat) (h : i + t < bs.length) : dec (seg bs i (t + 1)) = dec (seg bs i t) * 10 + (bs.getD (i + t) 0 - 48) := by
 have e : seg bs i (t + 1) = seg bs i t ++ [bs.getD (i + t) 0] := by
  unfold seg
  rw [i9 _ _ (by simp; omega)]
  congr 2
  simp [List.getD_eq_getElem?_getD]
 rw [e, oK]

theorem sF (bs : List Nat) (i t : Nat) (h : i + t ≤ bs.length) : dec (bs.take (i + t)) = dec (bs.take i) * 10 ^ t + dec (seg bs i t) := by
 have e : bs.take (i + t) = bs.take i ++ seg bs i t := by unfold seg; rw [List.take_add]
 rw [e, vV, dD _ _ _ h]

theorem Dig.seg {bs : List Nat} (h : Dig bs) (i t : Nat) : Dig (seg bs i t) := fun c hc => h c (List.mem_of_mem_drop (List.mem_of_mem_take hc))

def tl (v : Nat) : List Nat := if h : v = 0 then [] else (48 + v % 10) :: tl (v / 10)

termination_by v

decreasing_by omega

theorem fL : tl 0 = [] := by rw [tl]; simp

theorem eD {v : Nat} (h : v ≠ 0) : tl v = (48 + v % 10) :: tl (v / 10) := by rw [tl]; simp [h]

def txt (v : Nat) : List Nat := if v = 0 then [48] else (tl v).reverse

def pd (v n : Nat) : List Nat := (List.range n).map fun i => 48 + v / 10 ^ i % 10

theorem mF (v n : Nat) : (pd v n).length = n := by simp [pd]

theorem FN (v n : Nat) : pd v (n + 1) = pd v n ++ [48 + v / 10 ^ n % 10] := by simp [pd, List.range_succ]

theorem FJ (v n : Nat) : pd v (n + 1) = (48 + v % 10) :: pd (v / 10) n := by
 unfold pd
 rw [List.range_succ_eq_map, List.map_cons, List.map_map]
 congr 1
 · simp
 · refine List.map_congr_left fun i _ => ?_
   simp only [Function.comp]
   rw [Nat.pow_succ', Nat.div_div_eq_div_mul]

theorem IU (v n i : Nat) (h : i < n) : (pd v n).getD i 0 = 48 + v / 10 ^ i % 10 := by
 simp [pd, List.getD_eq_getElem?_getD, List.getElem?_map, List.getElem?_range h]

theorem GQ (v n m : Nat) (h : m ≤ n) : (pd v n).take m = pd v m := by
 unfold pd
 rw [← List.map_take, List.take_range, Nat.min_eq_left h]

theorem H7 : ∀ (n v : Nat), v < 10 ^ n → (0 < n → v / 10 ^ (n - 1) % 10 ≠ 0) → pd v n = tl v
 | 0, v, h, _ => by
   have : v = 0 := by simpa using h
   subst this
   rw [fL]; rfl
 | n + 1, v, h, hn => by
   have h0 : v / 10 ^ n % 10 ≠ 0 := hn (by omega)
   have hv : v ≠ 0 := by rintro rfl; simp at h0
   rw [FJ, eD hv]
   congr 1
   refine H7 n (v / 10) ?_ ?_
   · rw [Nat.pow_succ] at h; omega
   · intro hp
     rw [Nat.div_div_eq_div_mul, ← Nat.pow_succ', show (n - 1).succ = n by omega]
     exact h0

theorem JC (v : Nat) : Dig (tl v) := by
 induction v using Nat.strongRecOn with
 | ind v ih =>
   by_cases h : v = 0
   · subst h; rw [fL]; intro c hc; simp at hc
   · rw [eD h]
     intro c hc
     rcases List.mem_cons.1 hc with rfl | hc
     · omega
     · exact ih (v / 10) (by omega) c hc

theorem gG (v : Nat) : Dig (txt v) := by
 unfold txt
 by_cases h : v = 0
 · rw [if_pos h]; intro c hc; simp at hc; omega
 · rw [if_neg h]; intro c hc; exact JC v c (List.mem_reverse.1 hc)

theorem I1 (v : Nat) : dec (tl v).reverse = v := by
 induction v using Nat.strongRecOn with
 | ind v ih =>
   by_cases h : v = 0
   · subst h; rw [fL]; rfl
   · rw [eD h, List.reverse_cons, oK, ih (v / 10) (by omega)]
     omega

theorem sQ (v : Nat) : dec (txt v) = v := by
 unfold txt
 by_cases h : v = 0
 · rw [if_pos h, h]; rfl
 · rw [if_neg h]; exact I1 v

theorem sO : ∀ (n v : Nat), v < 10 ^ n → (tl v).length ≤ n
 | 0, v, h => by
   have : v = 0 := by simpa using h
   subst this
   rw [fL]; simp
 | n + 1, v, h => by
   by_cases h0 : v = 0
   · subst h0; rw [fL]; simp
   · rw [eD h0, List.length_cons]
     have := sO n (v / 10) (by rw [Nat.pow_succ] at h; omega)
     omega

theorem iC (n v : Nat) (h : v < 10 ^ (n + 1)) : (txt v).length ≤ n + 1 := by
 unfold txt
 by_cases h0 : v = 0
 · rw [if_pos h0]; simp
 · rw [if_neg h0, List.length_reverse]; exact sO _ _ h

theorem iA (v : Nat) : 0 < (txt v).length := by
 unfold txt
 by_cases h : v = 0
 · rw [if_pos h]; simp
 · rw [if_neg h, eD h]; simp

theorem DI (xs : List Nat) (k : Nat) (h : k < xs.length) : xs.reverse.take (k + 1) = xs.reverse.take k ++ [xs.getD (xs.length - 1 - k) 0] := by
 rw [i9 _ _ (by simpa using h)]
 congr 2
 rw [List.getD_eq_getElem?_getD, List.getD_eq_getElem?_getD, List.getElem?_reverse h]

end Go.Proofs.YtdfljbpcjkbflaaGreatDoor.M
