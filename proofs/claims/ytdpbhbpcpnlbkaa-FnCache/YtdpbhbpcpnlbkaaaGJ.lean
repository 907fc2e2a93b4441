import Derived.Test.YtdpbhbpcpnlbkaaaGF
set_option maxHeartbeats 1000000
namespace Go.Proofs.Ytdpbhbpcpnlbkaa
open Go.RowKit Go.Maps
set_option linter.unusedVariables false
set_option maxRecDepth 100000
def nx (n : Nat) (f : Nat → Nat) (i : Nat) : Nat := if i < n then f i else 0

def ad (n i : Nat) : Nat := if i < n then i + 1 else i

structure Rx (w : World) (g : Nat) (ao : Option Addr) (n c : Nat) (f : Nat → Nat) (i : Nat) : Prop where
 r : Cls w g #[.slice ao n c, .int .i64 (i : Int)] 56
 s : Sl w ao n (fun j => .int .u8 (f j : Int))
 ne : 0 < n → ∀ b off, ao = some ⟨b, off, none⟩ → b < g
 i : i ≤ n
 n : n ≤ 1048576
 f : ∀ j, f j < 256

theorem Rx.below {w v : World} {g : Nat} {ao : Option Addr} {n c : Nat} {f : Nat → Nat} {i : Nat} (h : Rx w g ao n c f i) (b : Below w.heap.size w v) : Rx v g ao n c f i := { h with r := h.r.below b, s := h.s.below b }

theorem nx_lt {n : Nat} {f : Nat → Nat} (hf : ∀ j, f j < 256) (i : Nat) : nx n f i < 256 := by
 unfold nx; split
 · exact hf i
 · omega

theorem Rx.adv {w v : World} {g : Nat} {ao : Option Addr} {n c : Nat} {f : Nat → Nat} {i : Nat} (h : Rx w g ao n c f i) (q : Qt w v) (hi : i < n) : Rx (v.setCell ⟨g, 1, none⟩ (.int .i64 ((i : Int) + 1))) g ao n c f (i + 1) := by
 have h2 := h.below (q.below _)
 refine { h2 with r := h2.r.set 1 _ _ (by simp), s := ?_, i := hi }
 intro h0
 obtain ⟨b, off, e, hl, hc⟩ := h2.s h0
 refine ⟨b, off, e, by simpa [World.setCell] using hl, fun j hj => ?_⟩
 have t := Tn.set (w := v) (fun k => k = g) g 1 (.int .i64 ((i : Int) + 1)) rfl
 exact (t.cell (off + j) hl (by have := h.ne (by omega) b off e; omega)).trans (hc j hj)

theorem next_any {w : World} {g : Nat} {ao : Option Addr} {n c : Nat} {f : Nat → Nat} {i : Nat} (h : Rx w g ao n c f i) :
 Calls Try.prog 22 #[.pointer (some ⟨g, 0, none⟩)] w fun e w' => e = .returned (.int .i64 (nx n f i : Int)) ∧ Rx w' g ao n c f (ad n i) ∧ Tn (fun b => b = g) w w' := by
 have H := hidQ h
 have c0 := h.r.cell 0 rfl
 have c1 := h.r.cell 1 rfl
 have z := h.r.frozen
 by_cases hi : i < n
 · obtain ⟨b, off, rfl, hl, hc⟩ := h.s (by omega)
   have cb : w.cell? ⟨b, off + i, none⟩ = some (.int .u8 (f i : Int)) := hc i hi
   have hfi := h.f i
   have hn := h.n
   have g0 : ¬ (n : Int) ≤ (i : Int) := by omega
   have g0' : decide ((n : Int) ≤ (i : Int)) = false := decide_eq_false g0
   have f1 : IntKind.i64.wrap ((i : Int) + 1) = (i : Int) + 1 := by simp only [IntKind.wrap_i64]; omega
   have f2 : IntKind.i64.wrap (f i : Int) = (f i : Int) := by simp only [IntKind.wrap_i64]; omega
   have e1 : nx n f i = f i := by unfold nx; rw [if_pos hi]
   have e2 : ad n i = i + 1 := by unfold ad; rw [if_pos hi]
   rw [e1, e2]
   generalize f i = fi at *
   have HI := hidQ hi
   clear h hc e1 e2
   go_enter Try.func22, Try.ntmps22
   go_wp2_with fail
   go_quiet (fail)
   go_wp2_with fail
   go_quiet (fail)
   go_wp2_with fail
   go_ret
   exact ⟨rfl, H.out.adv (Qt.drewN _ _) HI.out, (Tn.qt _ (Qt.drewN _ _)).trans (Tn.set _ _ _ _ rfl)⟩
 · have g0 : (n : Int) ≤ (i : Int) := by omega
   have e1 : nx n f i = 0 := by unfold nx; rw [if_neg hi]
   have e2 : ad n i = i := by unfold ad; rw [if_neg hi]
   rw [e1, e2]
   clear h hi e1 e2
   go_enter Try.func22, Try.ntmps22
   go_wp2_with fail
   go_quiet (fail)
   go_wp2_with fail
   go_ret
   exact ⟨rfl, H.out.below ((Qt.drewN _ _).below _), Tn.qt _ (Qt.drewN _ _)⟩

def cfF (k : Nat) : Int × Int := if 252 ≤ k then (((k % 3 + 1 : Nat) : Int), ((k % 3 * 32 : Nat) : Int)) else if 246 ≤ k then (((k % 2 * 17 : Nat) : Int) - 1, ((k / 3 % 5 + 1 : Nat) : Int)) else if 236 ≤ k then (16, 64) else (((k % 3 + 1 : Nat) : Int), ((k / 3 % 5 + 1 : Nat) : Int))

theorem config_any {w : World} {g : Nat} {ao : Option Addr} {n c : Nat} {f : Nat → Nat} {i : Nat} (h : Rx w g ao n c f i) :
 Calls Try.prog 21 #[.pointer (some ⟨g, 0, none⟩)] w fun e w' => e = .returned (.agg #[.int .i64 (cfF (nx n f i)).1, .int .i64 (cfF (nx n f i)).2]) ∧ Rx w' g ao n c f (ad n i) ∧ Tn (fun b => b = g) w w' := by
 obtain ⟨U, hU⟩ : ∃ U, U = w.alloc (.cells #[.int .i64 0, .int .i64 0] 24) := ⟨_, rfl⟩
 have bU : Below w.heap.size w U := by rw [hU]; exact (Below.refl _ _).alloc (Nat.le_refl _) _
 have zU : Cls U w.heap.size #[.int .i64 0, .int .i64 0] 24 := by rw [hU]; exact Cls.new w _ _
 have hg := h.r.lt
 have kN := hidQ (next_any (h.below bU))
 have hk := nx_lt h.f (n := n) i
 obtain ⟨k, hkk⟩ : ∃ k, nx n f i = k := ⟨_, rfl⟩
 rw [hkk] at kN hk ⊢
 have TU := hidQ (Tn.below (fun b => b = g) bU)
 have ZU := hidQ zU
 clear h bU zU hkk
 obtain ⟨a3, h3⟩ : ∃ a, k % 3 = a := ⟨_, rfl⟩
 obtain ⟨a2, h2⟩ : ∃ a, k % 2 = a := ⟨_, rfl⟩
 obtain ⟨d3, hd3⟩ : ∃ a, k / 3 = a := ⟨_, rfl⟩
 obtain ⟨a5, h5⟩ : ∃ a, d3 % 5 = a := ⟨_, rfl⟩
 have i3 : (k : Int) % 3 = (a3 : Int) := by rw [← h3]; simp
 have i2 : (k : Int) % 2 = (a2 : Int) := by rw [← h2]; simp
 have j3 : (k : Int) / 3 = (d3 : Int) := by rw [← hd3]; simp
 have i5 : (d3 : Int) % 5 = (a5 : Int) := by rw [← h5]; simp
 have w1 : IntKind.i64.wrap ((a3 : Int) + 1) = (a3 : Int) + 1 := by simp only [IntKind.wrap_i64]; omega
 have w2 : IntKind.i64.wrap ((a5 : Int) + 1) = (a5 : Int) + 1 := by simp only [IntKind.wrap_i64]; omega
 have w3 : IntKind.i64.wrap ((a3 : Int) * 32) = (a3 : Int) * 32 := by simp only [IntKind.wrap_i64]; omega
 have w4 : IntKind.i64.wrap ((a2 : Int) * 17) = (a2 : Int) * 17 := by simp only [IntKind.wrap_i64]; omega
 have w5 : IntKind.i64.wrap ((a2 : Int) * 17 - 1) = (a2 : Int) * 17 - 1 := by simp only [IntKind.wrap_i64]; omega
 have HF := hidQ (show cfF k = if 252 ≤ k then ((a3 : Int) + 1, (a3 : Int) * 32) else if 246 ≤ k then ((a2 : Int) * 17 - 1, (a5 : Int) + 1) else if 236 ≤ k then (16, 64) else ((a3 : Int) + 1, (a5 : Int) + 1) from by unfold cfF; rw [hd3, h3, h2, h5]; simp)
 clear h3 h2 hd3 h5
 go_enter Try.func21, Try.ntmps21
 go_upto_region 1 with fail
 rw [← hU]
 clear hU
 go_wp2_with fail
 refine kN.out.mono ?_
 rintro e v ⟨rfl, hr, ht⟩
 have HR := hidQ hr; have HT := hidQ ht
 have zv : Cls v w.heap.size #[.int .i64 0, .int .i64 0] 24 := (ht.block _ ZU.out.lt (by omega)).trans ZU.out
 have z0 := zv.cell 0 rfl; have z1 := zv.cell 1 rfl; have zf := zv.frozen
 have hlt := zv.lt
 have CL := hidQ (fun (x y p q : Value) => show ((((v.setCell ⟨w.heap.size, 0, none⟩ p).setCell ⟨w.heap.size, 1, none⟩ q)).alloc (.cells #[x, y] 24)).cell? ⟨w.heap.size, 0, none⟩ = some p ∧ ((((v.setCell ⟨w.heap.size, 0, none⟩ p).setCell ⟨w.heap.size, 1, none⟩ q)).alloc (.cells #[x, y] 24)).cell? ⟨w.heap.size, 1, none⟩ = some q from by
  have c2 := ((zv.set 0 p #[p, .int .i64 0] (by simp)).set 1 q #[p, q] (by simp)).below ((Below.refl _ _).alloc (Nat.le_refl _) (.cells #[x, y] 24))
  exact ⟨c2.cell 0 (by simp), c2.cell 1 (by simp)⟩)
 clear hr ht zv
 have FIN := hidQ (fun (x y p q : Value) => show Rx ((((v.setCell ⟨w.heap.size, 0, none⟩ p).setCell ⟨w.heap.size, 1, none⟩ q)).alloc (.cells #[x, y] 24)) g ao n c f (ad n i) ∧ Tn (fun b => b = g) w ((((v.setCell ⟨w.heap.size, 0, none⟩ p).setCell ⟨w.heap.size, 1, none⟩ q)).alloc (.cells #[x, y] 24)) from by
  have r1 := HR.out
  have t1 : Tn (fun b => b = w.heap.size) v ((v.setCell ⟨w.heap.size, 0, none⟩ p).setCell ⟨w.heap.size, 1, none⟩ q) := (Tn.set (fun b => b = w.heap.size) _ _ _ rfl).trans (Tn.set (fun b => b = w.heap.size) _ _ _ rfl)
  have r2 : Rx ((v.setCell ⟨w.heap.size, 0, none⟩ p).setCell ⟨w.heap.size, 1, none⟩ q) g ao n c f (ad n i) := { r1 with r := (t1.block g r1.r.lt (by omega)).trans r1.r, s := r1.s.tn t1 (fun h0 b off e e2 => by have := r1.ne h0 b off e; omega) }
  have b2 := TU.out.trans HT.out
  have t2 : Tn (fun b => b = g) w ((v.setCell ⟨w.heap.size, 0, none⟩ p).setCell ⟨w.heap.size, 1, none⟩ q) := ⟨b2.os, b2.tape, b2.output, by have := b2.size; simpa [World.setCell] using this, fun k' hk' hn => (t1.block k' (Nat.lt_of_lt_of_le hk' b2.size) (by omega)).trans (b2.block k' hk' hn)⟩
  generalize (v.setCell ⟨w.heap.size, 0, none⟩ p).setCell ⟨w.heap.size, 1, none⟩ q = V at *
  have b1 : Below V.heap.size V (V.alloc (.cells #[x, y] 24)) := (Below.refl _ _).alloc (Nat.le_refl _) _
  exact ⟨r2.below b1, t2.trans (Tn.below _ b1)⟩)
 by_cases c1 : 252 ≤ k
 · have c1' : (252 : Int) ≤ (k : Int) := by omega
   go_wp2_with fail
   refine bodyPost_ret (v := .agg #[.int .i64 ((a3 : Int) + 1), .int .i64 ((a3 : Int) * 32)]) (by simp [results, Try.results21, go_sem, (CL.out _ _ _ _).1, (CL.out _ _ _ _).2]) rfl ⟨by rw [HF.out, if_pos c1], FIN.out _ _ _ _⟩
 · have c1' : ¬ (252 : Int) ≤ (k : Int) := by omega
   by_cases c2 : 246 ≤ k
   · have c2' : (246 : Int) ≤ (k : Int) := by omega
     go_wp2_with fail
     refine bodyPost_ret (v := .agg #[.int .i64 ((a2 : Int) * 17 - 1), .int .i64 ((a5 : Int) + 1)]) (by simp [results, Try.results21, go_sem, (CL.out _ _ _ _).1, (CL.out _ _ _ _).2]) rfl ⟨by rw [HF.out, if_neg c1, if_pos c2], FIN.out _ _ _ _⟩
   · have c2' : ¬ (246 : Int) ≤ (k : Int) := by omega
     by_cases c3 : 236 ≤ k
     · have c3' : (236 : Int) ≤ (k : Int) := by omega
       go_wp2_with fail
       refine bodyPost_ret (v := .agg #[.int .i64 16, .int .i64 64]) (by simp [results, Try.results21, go_sem, (CL.out _ _ _ _).1, (CL.out _ _ _ _).2]) rfl ⟨by rw [HF.out, if_neg c1, if_neg c2, if_pos c3], FIN.out _ _ _ _⟩
     · have c3' : ¬ (236 : Int) ≤ (k : Int) := by omega
       go_wp2_with fail
       refine bodyPost_ret (v := .agg #[.int .i64 ((a3 : Int) + 1), .int .i64 ((a5 : Int) + 1)]) (by simp [results, Try.results21, go_sem, (CL.out _ _ _ _).1, (CL.out _ _ _ _).2]) rfl ⟨by rw [HF.out, if_neg c1, if_neg c2, if_neg c3], FIN.out _ _ _ _⟩

def pwF (n : Nat) (f : Nat → Nat) (i : Nat) : Int × Nat :=
 if nx n f i % 8 = 0 then (((nx n f i / 8 : Nat) : Int) - 15, ad n i)
 else if nx n f i % 8 = 1 then ((nx n f (ad n i) : Int) - 128, ad n (ad n i))
 else if nx n f i % 8 = 2 then (((nx n f (ad n i) * 256 % 10401 : Nat) : Int) - 5200 + ((nx n f (ad n (ad n i)) % 256 : Nat) : Int), ad n (ad n (ad n i)))
 else if nx n f i % 8 = 3 then (if 128 ≤ nx n f i then -(5199 + ((nx n f (ad n i) % 3 : Nat) : Int)) else 5199 + ((nx n f (ad n i) % 3 : Nat) : Int), ad n (ad n i))
 else (((nx n f i / 4 : Nat) : Int) - 32, ad n i)

theorem power_any {w : World} {g : Nat} {ao : Option Addr} {n c : Nat} {f : Nat → Nat} {i : Nat} (h : Rx w g ao n c f i) :
 Calls Try.prog 51 #[.pointer (some ⟨g, 0, none⟩)] w fun e w' => e = .returned (.int .i64 (pwF n f i).1) ∧ Rx w' g ao n c f (pwF n f i).2 ∧ Tn (fun b => b = g) w w' := by
 have kN := hidQ (next_any h)
 have hf := hidQ h.f
 have hk := nx_lt h.f (n := n) i
 obtain ⟨F, hF⟩ : ∃ F, pwF n f i = F := ⟨_, rfl⟩
 rw [hF]
 obtain ⟨k, hkk⟩ : ∃ k, nx n f i = k := ⟨_, rfl⟩
 unfold pwF at hF
 rw [hkk] at kN hk hF
 have HF := hidQ hF
 clear h hkk hF
 obtain ⟨m, hm⟩ : ∃ a, k % 8 = a := ⟨_, rfl⟩
 obtain ⟨d8, h8⟩ : ∃ a, k / 8 = a := ⟨_, rfl⟩
 obtain ⟨d4, h4⟩ : ∃ a, k / 4 = a := ⟨_, rfl⟩
 have im : (k : Int) % 8 = (m : Int) := by rw [← hm]; simp
 have i8 : (k : Int) / 8 = (d8 : Int) := by rw [← h8]; simp
 have i4 : (k : Int) / 4 = (d4 : Int) := by rw [← h4]; simp
 have w1 : IntKind.i64.wrap ((d8 : Int) - 15) = (d8 : Int) - 15 := by simp only [IntKind.wrap_i64]; omega
 have w2 : IntKind.i64.wrap ((d4 : Int) - 32) = (d4 : Int) - 32 := by simp only [IntKind.wrap_i64]; omega
 have m8 : m < 8 := by omega
 have HF := hidQ (by have := HF.out; rwa [hm, h8, h4] at this)
 clear hm h8 h4
 go_enter Try.func51, Try.ntmps51
 go_wp2_with fail
 refine kN.out.mono ?_
 rintro e v ⟨rfl, hr, ht⟩
 have HR := hidQ hr; have HT := hidQ ht
 have kN2 := hidQ (next_any hr)
 have hy := nx_lt hf.out (n := n) (ad n i)
 clear hr ht
 by_cases c0 : m = 0
 · subst c0
   go_wp2_with fail
   go_ret
   rw [← HF.out]
   exact ⟨rfl, HR.out, HT.out⟩
 by_cases c1 : m = 1
 · subst c1
   obtain ⟨y, hyy⟩ : ∃ k, nx n f (ad n i) = k := ⟨_, rfl⟩
   have HF := hidQ (by have := HF.out; rwa [hyy] at this)
   rw [hyy] at kN2 hy
   have w3 : IntKind.i64.wrap ((y : Int) - 128) = (y : Int) - 128 := by simp only [IntKind.wrap_i64]; omega
   clear hyy
   go_wp2_with fail
   refine kN2.out.mono ?_
   rintro e v2 ⟨rfl, hr, ht⟩
   have HR2 := hidQ hr; have HT2 := hidQ ht
   clear hr ht
   go_wp2_with fail
   go_ret
   rw [← HF.out]
   exact ⟨rfl, HR2.out, HT.out.trans HT2.out⟩
 by_cases c2 : m = 2
 · subst c2
   obtain ⟨y, hyy⟩ : ∃ k, nx n f (ad n i) = k := ⟨_, rfl⟩
   obtain ⟨z, hzz⟩ : ∃ k, nx n f (ad n (ad n i)) = k := ⟨_, rfl⟩
   have hz := nx_lt hf.out (n := n) (ad n (ad n i))
   have HF := hidQ (by have := HF.out; rwa [hyy, hzz] at this)
   rw [hyy] at kN2 hy
   rw [hzz] at hz
   obtain ⟨r, hrr⟩ : ∃ r, y * 256 % 10401 = r := ⟨_, rfl⟩
   obtain ⟨s, hss⟩ : ∃ r, z % 256 = r := ⟨_, rfl⟩
   have HF := hidQ (by have := HF.out; rwa [hrr, hss] at this)
   have w3 : IntKind.i64.wrap ((y : Int) * 256) = (y : Int) * 256 := by simp only [IntKind.wrap_i64]; omega
   have i3 : (y : Int) * 256 % 10401 = (r : Int) := by rw [← hrr]; simp
   have w4 : IntKind.i64.wrap ((r : Int) - 5200) = (r : Int) - 5200 := by simp only [IntKind.wrap_i64]; omega
   have i5 : (z : Int) % 256 = (s : Int) := by rw [← hss]; simp
   have w6 : IntKind.i64.wrap ((r : Int) - 5200 + (s : Int)) = (r : Int) - 5200 + (s : Int) := by simp only [IntKind.wrap_i64]; omega
   have HZ := hidQ hzz
   clear hyy hzz hrr hss
   go_wp2_with fail
   refine kN2.out.mono ?_
   rintro e v2 ⟨rfl, hr, ht⟩
   have HR2 := hidQ hr; have HT2 := hidQ ht
   have kN3 := hidQ (by have := next_any hr; rwa [HZ.out] at this)
   clear hr ht
   go_wp2_with fail
   refine kN3.out.mono ?_
   rintro e v3 ⟨rfl, hr, ht⟩
   have HR3 := hidQ hr; have HT3 := hidQ ht
   clear hr ht
   go_wp2_with fail
   go_ret
   rw [← HF.out]
   exact ⟨rfl, HR3.out, (HT.out.trans HT2.out).trans HT3.out⟩
 by_cases c3 : m = 3
 · subst c3
   obtain ⟨y, hyy⟩ : ∃ k, nx n f (ad n i) = k := ⟨_, rfl⟩
   rw [hyy] at kN2 hy
   obtain ⟨r, hrr⟩ : ∃ r, y % 3 = r := ⟨_, rfl⟩
   have HF := hidQ (by have := HF.out; rwa [hyy, hrr] at this)
   have i3 : (y : Int) % 3 = (r : Int) := by rw [← hrr]; simp
   have w4 : IntKind.i64.wrap (5199 + (r : Int)) = 5199 + (r : Int) := by simp only [IntKind.wrap_i64]; omega
   have w5 : IntKind.i64.wrap (-(5199 + (r : Int))) = -(5199 + (r : Int)) := by simp only [IntKind.wrap_i64]; omega
   clear hyy hrr
   by_cases c4 : 128 ≤ k
   · have c4' : (128 : Int) ≤ (k : Int) := by omega
     go_wp2_with fail
     refine kN2.out.mono ?_
     rintro e v2 ⟨rfl, hr, ht⟩
     have HR2 := hidQ hr; have HT2 := hidQ ht
     clear hr ht
     go_wp2_with fail
     go_ret
     rw [← HF.out]
     simp only [c4, if_true]
     exact ⟨rfl, HR2.out, HT.out.trans HT2.out⟩
   · have c4' : ¬ (128 : Int) ≤ (k : Int) := by omega
     go_wp2_with fail
     refine kN2.out.mono ?_
     rintro e v2 ⟨rfl, hr, ht⟩
     have HR2 := hidQ hr; have HT2 := hidQ ht
     clear hr ht
     go_wp2_with fail
     go_ret
     rw [← HF.out]
     simp only [c4, if_false]
     exact ⟨rfl, HR2.out, HT.out.trans HT2.out⟩
 have g0 : ¬ (m : Int) = 0 := by omega
 have g1 : ¬ (m : Int) = 1 := by omega
 have g2 : ¬ (m : Int) = 2 := by omega
 have g3 : ¬ (m : Int) = 3 := by omega
 go_wp2_with fail
 go_ret
 rw [← HF.out, if_neg c0, if_neg c1, if_neg c2, if_neg c3]
 exact ⟨rfl, HR.out, HT.out⟩

def wiF (k : Nat) : Int := if 240 ≤ k then ([0, -1, 129, 130, 1, 2, 127, 128] : List Int).getD (k % 8) 0 else if k % 3 = 0 then 64 else ((k % 128 : Nat) : Int) + 1

theorem width_any {w : World} {g : Nat} {ao : Option Addr} {n c : Nat} {f : Nat → Nat} {i : Nat} (h : Rx w g ao n c f i) :
 Calls Try.prog 52 #[.pointer (some ⟨g, 0, none⟩)] w fun e w' => e = .returned (.int .i64 (wiF (nx n f i))) ∧ Rx w' g ao n c f (ad n i) ∧ Tn (fun b => b = g) w w' := by
 have kN := hidQ (next_any h)
 have hk := nx_lt h.f (n := n) i
 obtain ⟨F, hF⟩ : ∃ F, wiF (nx n f i) = F := ⟨_, rfl⟩
 rw [hF]
 obtain ⟨k, hkk⟩ : ∃ k, nx n f i = k := ⟨_, rfl⟩
 unfold wiF at hF
 rw [hkk] at kN hk hF
 have HF := hidQ hF
 clear h hkk hF
 obtain ⟨m, hm⟩ : ∃ a, k % 8 = a := ⟨_, rfl⟩
 obtain ⟨a3, h3⟩ : ∃ a, k % 3 = a := ⟨_, rfl⟩
 obtain ⟨a7, h7⟩ : ∃ a, k % 128 = a := ⟨_, rfl⟩
 have im : (k : Int) % 8 = (m : Int) := by rw [← hm]; simp
 have i3 : (k : Int) % 3 = (a3 : Int) := by rw [← h3]; simp
 have i7 : (k : Int) % 128 = (a7 : Int) := by rw [← h7]; simp
 have w1 : IntKind.i64.wrap ((a7 : Int) + 1) = (a7 : Int) + 1 := by simp only [IntKind.wrap_i64]; omega
 have m8 : m < 8 := by omega
 have HF := hidQ (by have := HF.out; rwa [hm, h3, h7] at this)
 clear hm h3 h7
 go_enter Try.func52, Try.ntmps52
 go_wp2_with fail
 refine kN.out.mono ?_
 rintro e v ⟨rfl, hr, ht⟩
 have HR := hidQ hr; have HT := hidQ ht
 clear hr ht
 by_cases c0 : 240 ≤ k
 · have c0' : (240 : Int) ≤ (k : Int) := by omega
   have FIN := hidQ (fun (o : Obj) => show Rx (v.alloc o) g ao n c f (ad n i) ∧ Tn (fun b => b = g) w (v.alloc o) from by
    have b1 : Below v.heap.size v (v.alloc o) := (Below.refl _ _).alloc (Nat.le_refl _) _
    exact ⟨HR.out.below b1, HT.out.trans (Tn.below _ b1)⟩)
   rcases (show m = 0 ∨ m = 1 ∨ m = 2 ∨ m = 3 ∨ m = 4 ∨ m = 5 ∨ m = 6 ∨ m = 7 by omega) with rfl | rfl | rfl | rfl | rfl | rfl | rfl | rfl <;>
   · go_wp2_with fail
     go_ret
     rw [← HF.out, if_pos c0]
     exact ⟨rfl, FIN.out _⟩
 have c0' : ¬ (240 : Int) ≤ (k : Int) := by omega
 by_cases c1 : a3 = 0
 · subst c1
   go_wp2_with fail
   go_ret
   rw [← HF.out, if_neg c0]
   exact ⟨rfl, HR.out, HT.out⟩
 have g1 : ¬ (a3 : Int) = 0 := by omega
 go_wp2_with fail
 go_ret
 rw [← HF.out, if_neg c0, if_neg c1]
 exact ⟨rfl, HR.out, HT.out⟩

def keF (n : Nat) (f : Nat → Nat) (i : Nat) : (Int × Int) × Nat :=
 if nx n f i = 255 then (((pwF n f (ad n i)).1, wiF (nx n f (pwF n f (ad n i)).2)), ad n (pwF n f (ad n i)).2)
 else ((((nx n f i % 7 * nx n f i / 40 : Nat) : Int) - 5, if nx n f i % 5 = 1 then 32 + ((nx n f i % 3 : Nat) : Int) else 64), ad n i)

theorem key_draw {w : World} {g : Nat} {ao : Option Addr} {n c : Nat} {f : Nat → Nat} {i : Nat} (h : Rx w g ao n c f i) :
 Calls Try.prog 23 #[.pointer (some ⟨g, 0, none⟩)] w fun e w' => e = .returned (.agg #[.int .i64 (keF n f i).1.1, .int .i64 (keF n f i).1.2]) ∧ Rx w' g ao n c f (keF n f i).2 ∧ Tn (fun b => b = g) w w' := by
 obtain ⟨U, hU⟩ : ∃ U, U = w.alloc (.cells #[.int .i64 0, .int .i64 0] 36) := ⟨_, rfl⟩
 have bU : Below w.heap.size w U := by rw [hU]; exact (Below.refl _ _).alloc (Nat.le_refl _) _
 have zU : Cls U w.heap.size #[.int .i64 0, .int .i64 0] 36 := by rw [hU]; exact Cls.new w _ _
 have hg := h.r.lt
 have kN := hidQ (next_any (h.below bU))
 have hf := hidQ h.f
 have hk := nx_lt h.f (n := n) i
 obtain ⟨F, hF⟩ : ∃ F, keF n f i = F := ⟨_, rfl⟩
 rw [hF]
 obtain ⟨k, hkk⟩ : ∃ k, nx n f i = k := ⟨_, rfl⟩
 unfold keF at hF
 rw [hkk] at kN hk hF
 have HF := hidQ hF
 have TU := hidQ (Tn.below (fun b => b = g) bU)
 have ZU := hidQ zU
 clear h hkk hF bU zU
 go_enter Try.func23, Try.ntmps23
 go_upto_region 1 with fail
 rw [← hU]
 clear hU
 go_wp2_with fail
 refine kN.out.mono ?_
 rintro e v ⟨rfl, hr, ht⟩
 have HR := hidQ hr; have HT := hidQ ht
 have zv : Cls v w.heap.size #[.int .i64 0, .int .i64 0] 36 := (ht.block _ ZU.out.lt (by omega)).trans ZU.out
 have ZV := hidQ zv
 have z0 := zv.cell 0 rfl; have z1 := zv.cell 1 rfl; have zf := zv.frozen
 have hlt := zv.lt
 clear hr ht zv
 by_cases c0 : k = 255
 · subst c0
   obtain ⟨V, hV⟩ : ∃ V, V = v.alloc (.cells #[.int .i64 14, .int .i64 64] 36) := ⟨_, rfl⟩
   have bV : Below v.heap.size v V := by rw [hV]; exact (Below.refl _ _).alloc (Nat.le_refl _) _
   have yV : Cls V v.heap.size #[.int .i64 14, .int .i64 64] 36 := by rw [hV]; exact Cls.new v _ _
   have xV := ZV.out.below bV
   have hp := power_any (HR.out.below bV)
   have HP := hidQ hp
   have TV := hidQ ((TU.out.trans HT.out).trans (Tn.below (fun b => b = g) bV))
   have YV := hidQ yV; have XV := hidQ xV
   have KA := hidQ (by have := HF.out; rwa [if_pos rfl] at this)
   clear HF
   clear bV yV xV hp
   go_wp2_with fail
   rw [← hV]
   clear hV
   refine HP.out.mono ?_
   rintro e v2 ⟨rfl, hr2, ht2⟩
   obtain ⟨P, hP⟩ : ∃ P, pwF n f (ad n i) = P := ⟨_, rfl⟩
   have KB := hidQ (by have := KA.out; rwa [hP] at this)
   rw [hP] at hr2 ⊢
   have HW := hidQ (width_any hr2)
   have TV2 := hidQ (TV.out.trans ht2)
   have y2 : Cls v2 v.heap.size #[.int .i64 14, .int .i64 64] 36 := (ht2.block _ YV.out.lt (by omega)).trans YV.out
   have x2 : Cls v2 w.heap.size #[.int .i64 0, .int .i64 0] 36 := (ht2.block _ XV.out.lt (by omega)).trans XV.out
   have Y2 := hidQ y2; have X2 := hidQ x2
   obtain ⟨P1, P2⟩ := P
   have KC := hidQ (by have := KB.out; dsimp only at this; exact this)
   dsimp only at HW ⊢
   clear hr2 ht2 y2 x2 hP
   obtain ⟨W, hW⟩ : ∃ W, wiF (nx n f P2) = W := ⟨_, rfl⟩
   have KD := hidQ (by have := KC.out; rwa [hW] at this)
   rw [hW] at HW
   clear hW
   go_wp2_with fail
   refine HW.out.mono ?_
   rintro e v3 ⟨rfl, hr3, ht3⟩
   have HR3 := hidQ hr3
   have TV3 := hidQ (TV2.out.trans ht3)
   have y3 : Cls v3 v.heap.size #[.int .i64 14, .int .i64 64] 36 := (ht3.block _ Y2.out.lt (by omega)).trans Y2.out
   have x3 : Cls v3 w.heap.size #[.int .i64 0, .int .i64 0] 36 := (ht3.block _ X2.out.lt (by omega)).trans X2.out
   have Y3 := hidQ y3; have X3 := hidQ x3
   have t0 := y3.cell 0 rfl; have t1 := y3.cell 1 rfl; have tf := y3.frozen
   have s0 := x3.cell 0 rfl; have s1 := x3.cell 1 rfl; have sf := x3.frozen
   clear hr3 ht3 y3 x3 z0 z1 zf
   go_wp2_with fail
   generalize hp : Value.int .i64 P1 = p
   generalize hq : Value.int .i64 W = q
   have tA : Tn (fun b => b = v.heap.size) v3 ((v3.setCell ⟨v.heap.size, 0, none⟩ p).setCell ⟨v.heap.size, 1, none⟩ q) := (Tn.set (fun b => b = v.heap.size) _ _ _ rfl).trans (Tn.set (fun b => b = v.heap.size) _ _ _ rfl)
   have xA : Cls ((v3.setCell ⟨v.heap.size, 0, none⟩ p).setCell ⟨v.heap.size, 1, none⟩ q) w.heap.size #[.int .i64 0, .int .i64 0] 36 := (tA.block _ X3.out.lt (by omega)).trans X3.out
   generalize (v3.setCell ⟨v.heap.size, 0, none⟩ p).setCell ⟨v.heap.size, 1, none⟩ q = A at *
   have tB : Tn (fun b => b = w.heap.size) A ((A.setCell ⟨w.heap.size, 0, none⟩ p).setCell ⟨w.heap.size, 1, none⟩ q) := (Tn.set (fun b => b = w.heap.size) _ _ _ rfl).trans (Tn.set (fun b => b = w.heap.size) _ _ _ rfl)
   have cB := ((xA.set 0 p #[p, .int .i64 0] (by simp)).set 1 q #[p, q] (by simp))
   generalize (A.setCell ⟨w.heap.size, 0, none⟩ p).setCell ⟨w.heap.size, 1, none⟩ q = B at *
   have e0 : B.cell? ⟨w.heap.size, 0, none⟩ = some p := cB.cell 0 (by simp)
   have e1 : B.cell? ⟨w.heap.size, 1, none⟩ = some q := cB.cell 1 (by simp)
   have r3 := HR3.out
   have T3 := TV3.out
   have rA : Rx A g ao n c f (ad n P2) := { r3 with r := (tA.block g r3.r.lt (by omega)).trans r3.r, s := r3.s.tn tA (fun h0 b off e e2 => by have := r3.ne h0 b off e; omega) }
   have rB : Rx B g ao n c f (ad n P2) := { rA with r := (tB.block g rA.r.lt (by omega)).trans rA.r, s := rA.s.tn tB (fun h0 b off e e2 => by have := rA.ne h0 b off e; omega) }
   refine bodyPost_ret (v := .agg #[p, q]) (by simp [results, Try.results23, go_sem, e0, e1]) rfl ?_
   rw [← KD.out, ← hp, ← hq]
   refine ⟨rfl, rB, ?_⟩
   exact ⟨tB.os.trans (tA.os.trans T3.os), tB.tape.trans (tA.tape.trans T3.tape), tB.output.trans (tA.output.trans T3.output), Nat.le_trans T3.size (Nat.le_trans tA.size tB.size), fun k' hk' hn => (tB.block k' (Nat.lt_of_lt_of_le hk' (Nat.le_trans T3.size tA.size)) (by omega)).trans ((tA.block k' (Nat.lt_of_lt_of_le hk' T3.size) (by omega)).trans (T3.block k' hk' hn))⟩
 · have c0' : ¬ (k : Int) = 255 := by omega
   have zv := ZV.out
   have CL := hidQ (fun (x y p q : Value) => show ((((v.setCell ⟨w.heap.size, 0, none⟩ p).setCell ⟨w.heap.size, 1, none⟩ q)).alloc (.cells #[x, y] 36)).cell? ⟨w.heap.size, 0, none⟩ = some p ∧ ((((v.setCell ⟨w.heap.size, 0, none⟩ p).setCell ⟨w.heap.size, 1, none⟩ q)).alloc (.cells #[x, y] 36)).cell? ⟨w.heap.size, 1, none⟩ = some q from by
    have c2 := ((zv.set 0 p #[p, .int .i64 0] (by simp)).set 1 q #[p, q] (by simp)).below ((Below.refl _ _).alloc (Nat.le_refl _) (.cells #[x, y] 36))
    exact ⟨c2.cell 0 (by simp), c2.cell 1 (by simp)⟩)
   clear zv
   have FIN := hidQ (fun (x y p q : Value) => show Rx ((((v.setCell ⟨w.heap.size, 0, none⟩ p).setCell ⟨w.heap.size, 1, none⟩ q)).alloc (.cells #[x, y] 36)) g ao n c f (ad n i) ∧ Tn (fun b => b = g) w ((((v.setCell ⟨w.heap.size, 0, none⟩ p).setCell ⟨w.heap.size, 1, none⟩ q)).alloc (.cells #[x, y] 36)) from by
    have r1 := HR.out
    have t1 : Tn (fun b => b = w.heap.size) v ((v.setCell ⟨w.heap.size, 0, none⟩ p).setCell ⟨w.heap.size, 1, none⟩ q) := (Tn.set (fun b => b = w.heap.size) _ _ _ rfl).trans (Tn.set (fun b => b = w.heap.size) _ _ _ rfl)
    have r2 : Rx ((v.setCell ⟨w.heap.size, 0, none⟩ p).setCell ⟨w.heap.size, 1, none⟩ q) g ao n c f (ad n i) := { r1 with r := (t1.block g r1.r.lt (by omega)).trans r1.r, s := r1.s.tn t1 (fun h0 b off e e2 => by have := r1.ne h0 b off e; omega) }
    have b2 := TU.out.trans HT.out
    have t2 : Tn (fun b => b = g) w ((v.setCell ⟨w.heap.size, 0, none⟩ p).setCell ⟨w.heap.size, 1, none⟩ q) := ⟨b2.os, b2.tape, b2.output, by have := b2.size; simpa [World.setCell] using this, fun k' hk' hn => (t1.block k' (Nat.lt_of_lt_of_le hk' b2.size) (by omega)).trans (b2.block k' hk' hn)⟩
    generalize (v.setCell ⟨w.heap.size, 0, none⟩ p).setCell ⟨w.heap.size, 1, none⟩ q = V at *
    have b1 : Below V.heap.size V (V.alloc (.cells #[x, y] 36)) := (Below.refl _ _).alloc (Nat.le_refl _) _
    exact ⟨r2.below b1, t2.trans (Tn.below _ b1)⟩)
   obtain ⟨a7, h7⟩ : ∃ a, k % 7 = a := ⟨_, rfl⟩
   obtain ⟨a5, h5⟩ : ∃ a, k % 5 = a := ⟨_, rfl⟩
   obtain ⟨a3, h3⟩ : ∃ a, k % 3 = a := ⟨_, rfl⟩
   have HF := hidQ (by have := HF.out; rwa [if_neg c0, h7, h5, h3] at this)
   obtain ⟨p, hp⟩ : ∃ a, a7 * k = a := ⟨_, rfl⟩
   obtain ⟨d, hd⟩ : ∃ a, p / 40 = a := ⟨_, rfl⟩
   have HF := hidQ (by have := HF.out; rwa [hp, hd] at this)
   have i7 : (k : Int) % 7 = (a7 : Int) := by rw [← h7]; simp
   have i5 : (k : Int) % 5 = (a5 : Int) := by rw [← h5]; simp
   have i3 : (k : Int) % 3 = (a3 : Int) := by rw [← h3]; simp
   have ip : (a7 : Int) * (k : Int) = (p : Int) := by rw [← hp]; simp
   have id' : (p : Int) / 40 = (d : Int) := by rw [← hd]; simp
   have hpb : p < 2048 := by
    have h1 : a7 * k ≤ 6 * k := Nat.mul_le_mul_right k (by omega)
    omega
   have wp : IntKind.i64.wrap (p : Int) = (p : Int) := by simp only [IntKind.wrap_i64]; omega
   have wd : IntKind.i64.wrap ((d : Int) - 5) = (d : Int) - 5 := by simp only [IntKind.wrap_i64]; omega
   have wt : IntKind.i64.wrap (32 + (a3 : Int)) = 32 + (a3 : Int) := by simp only [IntKind.wrap_i64]; omega
   clear h7 h5 h3 hp hd
   by_cases c1 : a5 = 1
   · subst c1
     go_wp2_with fail
     refine bodyPost_ret (v := .agg #[.int .i64 ((d : Int) - 5), .int .i64 (32 + (a3 : Int))]) (by simp [results, Try.results23, go_sem, (CL.out _ _ _ _).1, (CL.out _ _ _ _).2]) rfl ?_
     rw [← HF.out]
     exact ⟨rfl, FIN.out _ _ _ _⟩
   · have g1 : ¬ (a5 : Int) = 1 := by omega
     go_wp2_with fail
     refine bodyPost_ret (v := .agg #[.int .i64 ((d : Int) - 5), .int .i64 64]) (by simp [results, Try.results23, go_sem, (CL.out _ _ _ _).1, (CL.out _ _ _ _).2]) rfl ?_
     rw [← HF.out, if_neg c1]
     exact ⟨rfl, FIN.out _ _ _ _⟩

end Go.Proofs.Ytdpbhbpcpnlbkaa
