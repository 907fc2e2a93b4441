import Derived.RangeFuncNested
import Derived.RangeFuncBound
import Derived.RangeFuncCalls
import Derived.RangeFuncLeaves
import Derived.RangeFuncBox
import Derived.RangeFuncWrites
import Derived.Shelf.Abstract
import Derived.Shelf.RegionOpen
import Derived.OwnWalkIn
import Derived.TacticsInMore
import Derived.LoopNIn
import Derived.LoopIn
import Derived.Shelf.RegionOpenPlain
import Derived.Maps.AppendAt
import Derived.Maps.OwnIn
import Derived.Test.YtdfljbpcjkbflaaGreatDoorrHAM
set_option maxHeartbeats 4000000
set_option maxRecDepth 100000
namespace Go.Proofs.YtdfljbpcjkbflaaGreatDoor
open Go.RowKit
set_option linter.unusedVariables false
set_option maxRecDepth 100000
theorem sJ {x y : Nat} : (aR (x : Int) (y : Int) ≤ 0) = (x ≤ y) := by
 unfold aR
 by_cases h : (x : Int) < y
 · rw [if_pos h]; simp; omega
 · rw [if_neg h]
   by_cases h2 : (y : Int) < x
   · rw [if_pos h2]; simp; omega
   · rw [if_neg h2]; simp; omega

theorem kZ (a b K : Nat) (h1 : (L a).length ≤ K) (h2 : (L b).length ≤ K) : (L (a + b)).length ≤ K + 1 := by
 refine M.len_of_lt (B := 18446744073709551616) (by omega) _ _ ?_
 have x1 := iL a K h1
 have x2 := iL b K h2
 rw [Nat.pow_succ]
 omega

structure Rch (v : World) (g : Nat) (ex : Int) (N De W Ls Ms : Nat) : Prop where
 box : ∃ a1 c1 a2 c2 a3 c3 a4 c4 a5 c5, Cls v g #[.int .i64 ex, .slice a1 (L N).length c1, .slice a2 (L De).length c2, .slice a3 (L W).length c3, .slice a4 (L Ls).length c4, .slice a5 (L Ms).length c5] 75 ∧ Rd v a1 (L N) ∧ Rd v a2 (L De) ∧ Rd v a3 (L W) ∧ Rd v a4 (L Ls) ∧ Rd v a5 (L Ms)

theorem Rch.below {v v' : World} {g : Nat} {ex : Int} {N De W Ls Ms : Nat} (h : Rch v g ex N De W Ls Ms) (hb : Below v.heap.size v v') : Rch v' g ex N De W Ls Ms := by
 obtain ⟨a1, c1, a2, c2, a3, c3, a4, c4, a5, c5, h0, h1, h2, h3, h4, h5⟩ := h.box
 exact ⟨⟨a1, c1, a2, c2, a3, c3, a4, c4, a5, c5, h0.below hb, h1.below hb, h2.below hb, h3.below hb, h4.below hb, h5.below hb⟩⟩

theorem GE (g : Nat) (ex : Int) (N De W Ls Ms z : Nat) (w : World) (h : Rch w g ex N De W Ls Ms) (hz : z ≤ 1000) (hW : (L W).length ≤ 1000) (hL : (L Ls).length ≤ 1000) (hM : (L Ms).length ≤ 1000) :
 Calls Tryz.prog 81 #[.int .i64 (z : Int), .pointer (some ⟨g, 0, none⟩)] w fun e w' => e = .returned (.bool (decide (Ls ≤ W / 10 ^ z * 10 ^ z) || decide (W / 10 ^ z * 10 ^ z + 10 ^ z ≤ Ms))) ∧ Below w.heap.size w w' := by
 obtain ⟨a1, c1, a2, c2, a3, c3, a4, c4, a5, c5, h0, h1, h2, h3, h4, h5⟩ := h.box
 have l1 : (L (W / 10 ^ z * 10 ^ z)).length ≤ 4194304 := Nat.le_trans (dB (Nat.div_mul_le_self _ _)) (by omega)
 have l2 : (L (W / 10 ^ z * 10 ^ z + 10 ^ z)).length ≤ 4194304 := Nat.le_trans (kZ _ _ 1201 (Nat.le_trans (dB (Nat.div_mul_le_self _ _)) (by omega)) (eV 10 z (dU z (by omega)))) (by omega)
 have kn := qP ex (.slice a1 (L N).length c1) (.slice a2 (L De).length c2) (.slice a4 (L Ls).length c4) (.slice a5 (L Ms).length c5) a3 c3 W z w hz hW h3
 obtain ⟨B1, hB1⟩ : ∃ B1, B1 = W / 10 ^ z * 10 ^ z := ⟨_, rfl⟩
 obtain ⟨B2, hB2⟩ : ∃ B2, B2 = B1 + 10 ^ z := ⟨_, rfl⟩
 rw [← hB1] at kn l1 l2 ⊢
 rw [← hB2] at kn l2 ⊢
 clear hB1 hB2
 have y0 := h0.cell 0 rfl
 have y1 := h0.cell 1 rfl
 have y2 := h0.cell 2 rfl
 have y3 := h0.cell 3 rfl
 have y4 := h0.cell 4 rfl
 have y5 := h0.cell 5 rfl
 have k1 := sJ (x := Ls) (y := B1)
 have k2 := sJ (x := B2) (y := Ms)
 go_enter Tryz.func81, Tryz.ntmps81
 go_wp2_with fail
 refine kn.mono ?_
 rintro e v1 ⟨b1, d1, b2, d2, rfl, r1, r2, hb⟩
 replace h0 := h0.below hb
 replace h4 := h4.below hb
 replace h5 := h5.below hb
 clear y0 y1 y2 y3 y4 y5 kn
 have y4 := h0.cell 4 rfl
 have y5 := h0.cell 5 rfl
 have HB := hid hb; clear hb
 have K1 := hid k1; have K2 := hid k2; clear k1 k2
 go_wp2_with fail
 refine (bF a4 b1 _ _ c4 d1 Ls B1 _ rfl rfl (by omega) l1 h4 r1).mono ?_
 rintro e v2 ⟨rfl, q, rfl⟩
 by_cases hc : Ls ≤ B1
 · have k3 : aR (Ls : Int) (B1 : Int) ≤ 0 := by rw [K1.out]; exact hc
   go_wp2_with fail
   go_ret
   exact ⟨by simp [hc], below_drewN HB.out q⟩
 · have k3 : ¬ aR (Ls : Int) (B1 : Int) ≤ 0 := by rw [K1.out]; exact hc
   have bq : Below v1.heap.size v1 (v1.drewN q) := below_drewN (Below.refl _ _) q
   have y5' := (h0.below bq).cell 5 rfl
   replace HB := hid (below_drewN HB.out q)
   replace r2 := r2.below bq
   replace h5 := h5.below bq
   clear y4 y5
   generalize v1.drewN q = v3 at *
   go_wp2_with fail
   refine (bF b2 a5 _ _ d2 c5 B2 Ms _ rfl rfl l2 (by omega) r2 h5).mono ?_
   rintro e v4 ⟨rfl, q2, rfl⟩
   go_wp2_with fail
   go_ret
   exact ⟨by simp [hc, K2.out]; exact fun h => absurd h (by omega), below_drewN HB.out q2⟩

theorem BT {x y : Int} (h : x < y) : ∃ m : Int, m = y - (y - x) / 2 ∧ x < m ∧ m ≤ y := ⟨_, rfl, by omega, by omega⟩

theorem mA (lo hi : Int) (P : Int → Bool) (g : Value) (W : World) (h1 : -1000000 ≤ lo) (h2 : lo ≤ hi) (h3 : hi ≤ 1000000)
 (hk : ∀ (x : Int) (v : World), lo ≤ x → x ≤ hi → Below W.heap.size W v → Calls Tryz.prog 81 #[.int .i64 x, g] v fun e v' => e = .returned (.bool (P x)) ∧ Below v.heap.size v v') :
 Calls Tryz.prog 79 #[.int .i64 lo, .int .i64 hi, .func (.func 81) #[] #[g]] W fun e w' => ∃ r, e = .returned (.int .i64 r) ∧ lo ≤ r ∧ r ≤ hi ∧ (lo < r → P r = true) ∧ (r < hi → P (r + 1) = false) ∧ Below W.heap.size W w' := by
 go_enter Tryz.func79, Tryz.ntmps79
 go_wp2_with fail
 go_loopw [0, 1] (fun l h wr => ∃ x y : Int, l = .int .i64 x ∧ h = .int .i64 y ∧ lo ≤ x ∧ x ≤ y ∧ y ≤ hi ∧ Hid (lo < x → P x = true) ∧ Hid (y < hi → P (y + 1) = false) ∧ Below W.heap.size W wr) (fun l h _ => (intOf h - intOf l).toNat)
 case atStart =>
  exact ⟨lo, hi, rfl, rfl, by omega, by omega, by omega, hid (fun h => by omega), hid (fun h => by omega), Below.refl _ _⟩
 case round =>
  obtain ⟨x, y, rfl, rfl, hx, hxy, hy, HX, HY, hb⟩ := hrel
  by_cases hlt : x < y
  · obtain ⟨m, hm, hm1, hm2⟩ := BT hlt
    have hk1 := hk m
    rw [hm] at hm1 hm2 hk1
    clear hm
    go_wp2_with fail
    refine (hk1 _ (by omega) (by omega) hb).mono ?_
    rintro e w2 ⟨rfl, hb2⟩
    have hb3 := cB hb hb2
    cases hP : P (y - (y - x) / 2)
    · go_wp2_with fail
      go_roundw
      case rel =>
       have R : ∃ x1 y1 : Int, Value.int .i64 x = .int .i64 x1 ∧ Value.int .i64 ((y - (y - x) / 2) - 1) = .int .i64 y1 ∧ lo ≤ x1 ∧ x1 ≤ y1 ∧ y1 ≤ hi ∧ Hid (lo < x1 → P x1 = true) ∧ Hid (y1 < hi → P (y1 + 1) = false) ∧ Below W.heap.size W w2 :=
        ⟨x, (y - (y - x) / 2) - 1, rfl, rfl, by omega, by omega, by omega, HX, hid (fun _ => by rw [show (y - (y - x) / 2) - 1 + 1 = (y - (y - x) / 2) by omega]; exact hP), hb3⟩
       first | exact R | ((repeat apply Exists.intro); exact ⟨R, rfl⟩)
      case measure => simp [intOf]; omega
    · go_wp2_with fail
      go_roundw
      case rel =>
       have R : ∃ x1 y1 : Int, Value.int .i64 (y - (y - x) / 2) = .int .i64 x1 ∧ Value.int .i64 y = .int .i64 y1 ∧ lo ≤ x1 ∧ x1 ≤ y1 ∧ y1 ≤ hi ∧ Hid (lo < x1 → P x1 = true) ∧ Hid (y1 < hi → P (y1 + 1) = false) ∧ Below W.heap.size W w2 :=
        ⟨(y - (y - x) / 2), y, rfl, rfl, by omega, by omega, by omega, hid (fun _ => hP), HY, hb3⟩
       first | exact R | ((repeat apply Exists.intro); exact ⟨R, rfl⟩)
      case measure => simp [intOf]; omega
  · go_wp2_with fail
    go_ret
    have e1 : x = y := by omega
    subst e1
    exact ⟨x, rfl, hx, hy, HX.out, HY.out, hb⟩

open Go.Shelf
variable {F : Fence} {n : Nat} {P : Program}

def yQ (F : Fence) (n : Nat) (P : Program) (gf : Nat) (first lb : Array Value) (encs : Nat → Array Value) (go S : Nat → Prop) (t : TypeId) (W : World) : Prop :=
 ∀ (l : Nat) (J : Nat → Nat → World → Prop), (∀ W' r, Below W.heap.size W W' → W.heap.size ≤ r → J r 0 W') → (∀ r k A B, W.heap.size ≤ r → J r k A → A.grownBy B (some r) → J r k B) →
   (∀ r k A, W.heap.size ≤ r → (∃ zs, A.heap[r]? = some (.cells zs t (0, 0))) → J r k A → go k → YieldAt F (n - 1) P l (encs k) A fun e B => e = .returned (.bool true) ∧ J r (k + 1) B ∧ B.heap[r]? = A.heap[r]?) →
   CallsIn F n P gf (first ++ #[.func (.yield l) #[] #[]] ++ lb) W fun e W' => (∃ v, e = .returned v) ∧ ∃ r k, W.heap.size ≤ r ∧ S k ∧ J r k W'

def I0 (B r : Nat) (I : World → Prop) (W : World) : Exit → Act → World → Prop
 | .normal, _, W' => KeepsFrom B W W' ∧ W'.heap[r]? = W.heap[r]? ∧ I W'
 | _, _, _ => False

theorem j5 {g : Operand} {ps : Array Tmp} {assign body : Code} {Q : Exit → Act → World → Prop} {a : Act} {w : World}
 (hro : F.round = none) (h1 : 1 ≤ n) {gf : Nat} {first lb : Array Value} (hg : a.eval g = .func (.func gf) first lb) (hFg : F.fn gf) (eg : ∀ args w, (callFunc gf args).run P w = .ok (.enter gf args) w)
 {encs : Nat → Array Value} {go S : Nat → Prop} {t : TypeId} (hseq : ∀ W, Below w.heap.size w W → W.heap.size = w.heap.size + 2 → yQ F (n - 1) P gf first lb encs go S t W) (hps : ∀ x, (encs x).size = ps.size)
 (I : Nat → Nat → World → Prop) (hI : ∀ r, OwnFrom w.heap.size (I r)) (hIr : ∀ r k A B, w.heap.size + 2 ≤ r → I r k A → A.grownBy B (some r) → I r k B)
 (h0 : ∀ r W, w.heap.size + 2 ≤ r → Below w.heap.size w W → I r 0 W) (a₁ : Nat → Act)
 (hassign : ∀ (l : Nat) (x : Nat) (W : World) (K : Act → World → Prop), K (a₁ x) W →
   assign.wpIn (F.inRound l) (n - 1 - 1) P (Exit.then K (fun _ _ _ => False)) { tmps := (ps.zip (encs x)).foldl (fun t (p, v) => t.setIfInBounds p v) a.tmps, defers := [] } W)
 (hbody : ∀ (l r k : Nat) (W : World), w.heap.size + 2 ≤ r → (∃ zs, W.heap[r]? = some (.cells zs t (0, 0))) → I r k W → go k → body.wpIn (F.inRound l) (n - 1 - 1) P (I0 w.heap.size r (I r (k + 1)) W) (a₁ k) W)
 (hdone : ∀ (D r k : Nat) (W : World), w.heap.size ≤ D → w.heap.size + 2 ≤ r → S k → I r k W → W.heap[D]? = some (.deferred (some [])) → Q .normal { a with defers := { target := .collected D, args := #[] } :: a.defers } W) :
 (Code.rangeFunc g ps assign body).wpIn F n P Q a w := by
 refine wpIn_rangeFunc ?_
 intro fn hfn
 rw [hro]
 obtain ⟨rec, hrec⟩ : ∃ rec : LoopState → Option Code → Loop, rec = fun st pe => { state := st, pending := pe, fn, tmps := a.tmps, params := ps, assign, body, defers := w.heap.size } := ⟨_, rfl⟩
 obtain ⟨W1, hW1⟩ : ∃ W1, (w.alloc (.deferred (some []))).alloc (.loop (rec .ready none)) = W1 := ⟨_, rfl⟩
 have hL1 : W1.heap[w.heap.size + 1]? = some (.loop (rec .ready none)) := by
  rw [← hW1]; have := World.alloc_heap_new (w.alloc (.deferred (some []))) (.loop (rec .ready none)); rwa [World.size_alloc] at this
 have hK1 : W1.heap[w.heap.size]? = some (.deferred (some [])) := by
  rw [← hW1]; exact (Below.heap_alloc _ _ _ (by simp)).trans (World.alloc_heap_new w _)
 have hb1 : Below w.heap.size w W1 := by
  rw [← hW1]; exact (((Below.refl _ w).alloc (Nat.le_refl _) _).alloc (by simp) _)
 have hs1 : W1.heap.size = w.heap.size + 2 := by rw [← hW1]; simp
 refine ⟨w.heap.size + 1, [{ target := .collected w.heap.size, args := #[] }], W1, { target := .fn (.func gf) lb, args := first ++ #[.func (.yield (w.heap.size + 1)) #[] #[]] }, W1, gf,
  first ++ #[.func (.yield (w.heap.size + 1)) #[] #[]] ++ lb, W1, ?_, ?_, ?_, ?_, fun _ => h1, ?_⟩
 · rw [← hW1, hrec]; exact run_enterLoop_outer _ _ _ _ _
 · simp only [resolve, hg]
   simp [go_sem]
 · intro f' hf'; simp [Target.leads] at hf'; subst hf'; exact hFg
 · simp [invoke, go_sem, eg]
 · refine (hseq W1 hb1 hs1 (w.heap.size + 1)
    (fun r k W => I r k W ∧ W.heap[w.heap.size + 1]? = some (.loop (rec .ready none)) ∧ W.heap[w.heap.size]? = some (.deferred (some [])))
    (fun W' r hb hr => ⟨h0 r W' (by omega) (hb1.trans (hb.mono (by omega))), (hb.block _ (by omega)).trans hL1, (hb.block _ (by omega)).trans hK1⟩)
    (fun r k A B hr hs hg' => ⟨hIr r k A B (by omega) hs.1 hg', (hg'.block _ (Array.getElem?_eq_some_iff.1 hs.2.1).1 (by intro e; injection e; omega)).trans hs.2.1, (hg'.block _ (Array.getElem?_eq_some_iff.1 hs.2.2).1 (by intro e; injection e; omega)).trans hs.2.2⟩)
    ?_).mono ?_
   · rintro r k W hr ⟨zs, hrl⟩ ⟨hi, hl, hk⟩ hgo
     have hlt : w.heap.size + 1 < W.heap.size := (Array.getElem?_eq_some_iff.1 hl).1
     have hy := run_yield (P := P) (args := encs k) hl (by rw [hrec]; exact hps k)
     rw [hrec] at hy
     refine ⟨fn, _, assign, body, hy, roundIn_of_wpIn hfn (hassign _ k W _ ⟨_, run_beginRound hl (by rw [hrec]), ?_⟩)⟩
     have hl2 : (W.putObj (w.heap.size + 1) (.loop { rec .ready none with state := .busy })).heap[w.heap.size + 1]? = some (.loop { rec .ready none with state := .busy }) := World.putObj_heap_same hlt
     have hk2 : (W.putObj (w.heap.size + 1) (.loop { rec .ready none with state := .busy })).heap[w.heap.size]? = some (.deferred (some [])) := (World.putObj_heap_other (by omega)).trans hk
     refine wpIn_mono (hbody _ r k _ (by omega) ⟨zs, (World.putObj_heap_other (by omega)).trans hrl⟩ ((hI r).putObj _ hi (by omega) hl rfl) hgo) ?_
     rintro e a3 W3 hp
     cases e with
     | normal =>
       obtain ⟨hk3, hr3, hi3⟩ := hp
       have hl3 := hk3.same _ _ (by omega) hl2 rfl
       have he := run_endRound (P := P) none hl3
       rw [hrec] at he
       refine ⟨_, _, he, rfl, ⟨(hI r).putObj _ hi3 (by omega) hl3 rfl, ?_, ?_⟩, ?_⟩
       · rw [hrec]; exact World.putObj_heap_same (Array.getElem?_eq_some_iff.1 hl3).1
       · exact (World.putObj_heap_other (by omega)).trans (hk3.same _ _ (Nat.le_refl _) hk2 rfl)
       · exact (World.putObj_heap_other (by omega)).trans (hr3.trans (World.putObj_heap_other (by omega)))
     | ret => exact hp.elim
     | exit id => exact hp.elim
     | goto t => exact hp.elim
     | panic ch => exact hp.elim
     | outgrown => exact hp.elim
   · rintro e W2 ⟨⟨v, rfl⟩, r, k, hr, hS, hi, hl, hk⟩
     exact ⟨none, _, by have := run_endLoop (P := P) hl (by rw [hrec]; simp); rw [hrec] at this; exact this, hdone _ r k _ (Nat.le_refl _) (by omega) hS ((hI r).putObj _ hi (by omega) hl rfl) ((World.putObj_heap_other (by omega)).trans hk)⟩

theorem pP {a b : World} {base e n : Nat} {v : Value} {xs : List Value} {row : Option Nat} (h : a.ownsRow base e 1 v n xs) (hg : a.grownBy b row) (hr : ∀ r, row = some r → ∃ o : Obj, a.heap[r]? = some o ∧ o.isCells = false) : b.ownsRow base e 1 v n xs := by
 refine ⟨h.1, ?_⟩
 rcases h.2 with h' | ⟨g, cap', cur, e1, hb, hh, r⟩
 · exact .inl h'
 · refine .inr ⟨g, cap', cur, e1, hb, ?_, r⟩
   refine (hg.block g (Array.getElem?_eq_some_iff.1 hh).1 ?_).trans hh
   intro e2
   obtain ⟨o, ho, hc⟩ := hr g e2.symm
   rw [hh] at ho
   injection ho with ho
   rw [← ho] at hc
   simp [Obj.isCells] at hc

attribute [local go_sem] Oper.semAt_some

def gq (v k : Nat) : Nat := v / 10 ^ (19 * k)

def gd (v k : Nat) : Nat := gq v k % 10000000000000000000

theorem yA (v : Nat) : gq v 0 = v := by simp [gq]

theorem yN (v k : Nat) : gq v (k + 1) = gq v k / 10000000000000000000 := by
 unfold gq
 rw [Nat.div_div_eq_div_mul, Nat.mul_add, Nat.pow_add]

theorem J8 (v k : Nat) : gd v k < 10000000000000000000 := Nat.mod_lt _ (by omega)

theorem tY (v k N : Nat) (hN : (L v).length ≤ N) (h : 0 < gq v k) : k ≤ 2 * N := by
 have h1 := iL v N hN
 have h2 : 10 ^ (19 * k) ≤ v := by
  unfold gq at h
  rcases Nat.lt_or_ge v (10 ^ (19 * k)) with e | e
  · rw [Nat.div_eq_of_lt e] at h; omega
  · exact e
 have h3 : (2 : Nat) ^ (57 * k) ≤ 10 ^ (19 * k) := by
  rw [Nat.pow_mul, Nat.pow_mul]; exact Nat.pow_le_pow_left (by decide) _
 have h4 : (18446744073709551616 : Nat) ^ N = 2 ^ (64 * N) := by rw [Nat.pow_mul]
 rw [h4] at h1
 have h5 : (2 : Nat) ^ (57 * k) < 2 ^ (64 * N) := by omega
 have h6 := (Nat.pow_lt_pow_iff_right (a := 2) (by omega)).1 h5
 omega

theorem FI (v k t : Nat) (ht : t < 19) : gd v k / 10 ^ t % 10 = v / 10 ^ (19 * k + t) % 10 := by
 have e : (10000000000000000000 : Nat) = 10 ^ t * 10 ^ (19 - t) := by rw [← Nat.pow_add, show t + (19 - t) = 19 by omega]
 unfold gd
 rw [e, Nat.mod_mul_right_div_self, Nat.mod_mod_of_dvd _ (Nat.dvd_of_pow_dvd (by omega) (Nat.dvd_refl _)), gq, Nat.div_div_eq_div_mul, ← Nat.pow_add]

theorem mL (v : Nat) : (L v).length = 0 ↔ v = 0 := by
 constructor
 · intro h
   have := iL v 0 (by omega)
   omega
 · rintro rfl
   have := M.len_of_lt (B := 18446744073709551616) (by omega) 0 0 (by omega)
   have e : (L 0).length ≤ 0 := this
   omega

theorem IA : ∀ {xs ys : List Nat}, U xs = U ys → xs = ys
 | [], [], _ => rfl
 | [], _ :: _, h => by simp [U] at h
 | _ :: _, [], h => by simp [U] at h
 | x :: xs, y :: ys, h => by
   have h' : (Value.int .u64 (x : Int)) :: U xs = (Value.int .u64 (y : Int)) :: U ys := h
   injection h' with h1 h2
   injection h1 with _ h3
   rw [IA h2, show x = y by omega]

theorem Blk.inj {w : World} {g : Nat} {xs ys : List Nat} (h : Blk w g xs) (k : Blk w g ys) : xs = ys := by
 have := h.symm.trans k
 simp only [Option.some.injEq, Obj.cells.injEq, and_true] at this
 exact IA (by simpa using this)

noncomputable def IL (B : Nat) (rs : Value) (w : World) : Nat :=
 open Classical in
 match rs with
 | .slice _ n _ => if h : ∃ cur, Blk w B cur then V ((Classical.choose h).take n) else 0
 | _ => 0

theorem yT {B : Nat} {w : World} {cur : List Nat} (h : Blk w B cur) (a : Option Addr) (n c : Nat) : IL B (.slice a n c) w = V (cur.take n) := by
 have hx : ∃ cur, Blk w B cur := ⟨cur, h⟩
 unfold IL
 simp only [dif_pos hx]
 rw [Blk.inj (Classical.choose_spec hx) h]

theorem rV (n : Nat) (hn : 1 ≤ n) (v : Nat) (ao : Option Addr) (N cap : Nat) (W : World) (hN : (L v).length = N) (hm : N ≤ 1000000) (hr : Rd W ao (L v)) :
 yQ Fence.wide n Tryz.prog 107 #[.slice ao N cap] #[] (fun k => #[.int .u64 ((gd v k : Nat) : Int)]) (fun k => 0 < gq v k) (fun k => gq v k = 0) 23 W := by
 intro l J h0 hg hY
 refine callsIn_of_wp Tryz.func107 rfl trivial ?_ rfl
 simp only [Tryz.ntmps107, List.size_toArray, List.length_cons, List.length_nil, Nat.reduceAdd, Nat.reduceSub, Array.replicate_succ, Array.replicate_zero, List.push_toArray, List.append_toArray, List.nil_append, List.cons_append]
 gi_wp2
 refine ⟨trivial, (callsIn_wide.2 (eY ao N cap 0 (L v) _ hN (by omega) (by omega) hr)).mono ?_⟩
 rintro e W1 ⟨rfl, hB1, hb1⟩
 have hJ1 : J W.heap.size 0 W1 := h0 W1 _ hb1 (Nat.le_refl _)
 rw [List.replicate_zero, List.append_nil] at hB1
 gi_wp2
 gi_loopw [4] (fun rs wr => ∃ (k m : Nat) (cur : List Nat), rs = .slice (some ⟨W.heap.size, 0, none⟩) m N ∧ (L (gq v k)).length = m ∧ Blk wr W.heap.size cur ∧ cur.length = N ∧ F64 cur ∧ V (cur.take m) = gq v k ∧ m ≤ N ∧ J W.heap.size k wr) (fun rs wr => IL W.heap.size rs wr)
 case atStart =>
  exact ⟨0, N, L v, rfl, by rw [yA]; exact hN, hB1, hN, eN v, by rw [yA, List.take_of_length_le (by omega), V_L], Nat.le_refl _, hJ1⟩
 case round =>
  obtain ⟨k, m, cur, rfl, hlm, hB, hcl, hcf, hcv, hmN, hJs⟩ := hrel
  by_cases hq : 0 < gq v k
  · have hm0 : 0 < m := by
     rcases Nat.eq_zero_or_pos m with e | e
     · rw [e] at hlm; have := (mL _).1 hlm; omega
     · exact e
    have hm0' : (0 : Int) < (m : Int) := by omega
    have kD := fun (v0 : World) (hB0 : Blk v0 W.heap.size cur) => jO W.heap.size m N 10000000000000000000 (some ⟨W.heap.size, 0, none⟩) cur v0 (fun _ => rfl) hB0 hcf (by omega) (by omega) (by omega) (by omega)
    have HB := hid hB; clear hB
    have HLM := hid hlm; clear hlm
    have HCV := hid hcv; clear hcv hB1 hr
    gi_wp2
    refine ⟨trivial, (callsIn_wide.2 (kD _ HB.out)).mono ?_⟩
    obtain ⟨gk, hgk⟩ : ∃ gk, gk = gd v k := ⟨_, rfl⟩
    have hgk2 : gq v k % 10000000000000000000 = gk := by rw [hgk]; rfl
    rw [HCV.out, hgk2]
    have HGK := hid hgk; clear hgk hgk2
    rintro e W2 ⟨rfl, hg2, cur2, hB2, hW2, hv2⟩
    rw [← yN] at hv2
    have hl2 : (cur2.take m).length = m := by rw [List.length_take, hW2.len]; omega
    have hJ2 := hg _ k wr W2 (Nat.le_refl _) hJs hg2
    have hf2 : F64 (cur2.take m) := fun x hx => hW2.lt x (List.mem_of_mem_take hx)
    have kT := cE (some ⟨W.heap.size, 0, none⟩) m N (cur2.take m) W2 hl2 (by omega) (by omega) hf2 (by have := hB2.rd 0 m (by rw [hW2.len]; omega); rwa [List.drop_zero] at this)
    gi_wp2
    refine ⟨trivial, (callsIn_wide.2 kT).mono ?_⟩
    rw [hv2]
    rintro e W3 ⟨rfl, rfl⟩
    obtain ⟨m2, hm2⟩ : ∃ m2, m2 = (L (gq v (k + 1))).length := ⟨_, rfl⟩
    rw [← hm2]
    have hm2' : m2 ≤ m := by
     have := iX (cur2.take m) hf2
     rw [hv2, hl2] at this; omega
    have HM2 := hid hm2; clear hm2
    obtain ⟨fn, tmps, assign, body, hy, hR⟩ := hY _ k W3 (Nat.le_refl _) ⟨_, hB2⟩ hJ2 hq
    simp only [← HGK.out] at hy
    gi_wp2
    refine hR.mono ?_
    rintro e W4 ⟨rfl, hJ4, hk4⟩
    have hB4 : Blk W4 W.heap.size cur2 := hk4.trans hB2
    gi_wp2
    go_roundw
    case rel =>
     refine ⟨k + 1, m2, cur2, rfl, HM2.out.symm, hB4, by rw [hW2.len]; exact hcl, hW2.lt, ?_, by omega, hJ4⟩
     have h1 := gK (cur2.take m) hf2
     rw [hv2, ← HM2.out, List.take_take, Nat.min_eq_left hm2'] at h1
     rw [h1, V_L]
    case measure =>
     rw [yT hB4, yT HB.out, HCV.out]
     have h1 := gK (cur2.take m) hf2
     rw [hv2, ← HM2.out, List.take_take, Nat.min_eq_left hm2'] at h1
     rw [h1, V_L, yN]
     omega
  · have hq0 : gq v k = 0 := by omega
    have hm0 : m = 0 := by rw [hq0] at hlm; rw [← hlm]; exact (mL 0).2 rfl
    subst hm0
    gi_wp2
    go_end0
    exact ⟨⟨_, rfl⟩, W.heap.size, k, Nat.le_refl _, hq0, hJs⟩

def Rvk (xs ys : List Nat) (n k : Nat) : Prop := ys.length = n ∧ ∀ p, p < n → ys.getD p 0 = if p < k ∨ n < p + 1 + k then xs.getD (n - 1 - p) 0 else xs.getD p 0

theorem Rvk.done {xs ys : List Nat} {n k : Nat} (h : Rvk xs ys n k) (hl : xs.length = n) (hk : n ≤ 2 * k + 1) : ys = xs.reverse := by
 refine List.ext_getElem (by simp [h.1, hl]) fun p h1 h2 => ?_
 have hp : p < n := by rw [← h.1]; exact h1
 have h3 := h.2 p hp
 have e1 : ys.getD p 0 = ys[p] := by simp [List.getD_eq_getElem?_getD, h1]
 have e2 : (xs.reverse)[p] = xs.getD (n - 1 - p) 0 := by
  rw [List.getElem_reverse, List.getD_eq_getElem?_getD, List.getElem?_eq_getElem (by omega), Option.getD_some]
  congr 1
  omega
 rw [e2, ← e1, h3]
 by_cases hc : p < k ∨ n < p + 1 + k
 · rw [if_pos hc]
 · rw [if_neg hc, show n - 1 - p = p by omega]

theorem Rvk.step {xs ys : List Nat} {n k j : Nat} (h : Rvk xs ys n k) (hl : xs.length = n) (hk : k < j) (hj : j + 1 + k = n) : Rvk xs ((ys.set k (ys.getD j 0)).set j (ys.getD k 0)) n (k + 1) := by
 refine ⟨by simp [h.1], fun p hp => ?_⟩
 have hyl := h.1
 have h1 := h.2 k (by omega)
 have h2 := h.2 j (by omega)
 rw [if_neg (by omega)] at h1 h2
 by_cases e1 : p = j
 · subst e1
   rw [M.aY _ _ _ (by simp; omega), h1, if_pos (by omega), show n - 1 - p = k by omega]
 · rw [M.aX _ _ _ _ (fun e => e1 e.symm)]
   by_cases e2 : p = k
   · subst e2
     rw [M.aY _ _ _ (by omega), h2, if_pos (by omega), show n - 1 - p = j by omega]
   · rw [M.aX _ _ _ _ (fun e => e2 e.symm), h.2 p hp]
     by_cases hc : p < k ∨ n < p + 1 + k
     · rw [if_pos hc, if_pos (by omega)]
     · rw [if_neg hc, if_neg (by omega)]

theorem CV (base : Nat) (ao : Option Addr) (n cap : Nat) (xs : List Nat) (w : World) (hl : xs.length = n) (hn : n ≤ 4194304) (hown : w.ownsRow base 5 1 (.slice ao n cap) n (UB xs)) :
 Calls Tryz.prog 108 #[.slice ao n cap] w fun e w' => (∃ v, e = .returned v) ∧ w'.ownsRow base 5 1 (.slice ao n cap) n (UB xs.reverse) ∧ w.grownBy w' (Value.slice ao n cap).ownBlock := by
 have HO := hid hown; clear hown
 go_enter Tryz.func108, Tryz.ntmps108
 go_wp2
 go_loopw [2, 3] (fun i j wr => ∃ (k : Nat) (ys : List Nat), 2 * k ≤ n + 1 ∧ i = .int .i64 (k : Int) ∧ j = .int .i64 ((n : Int) - 1 - k) ∧ Rvk xs ys n k ∧ wr.ownsRow base 5 1 (.slice ao n cap) n (UB ys) ∧ w.grownBy wr (Value.slice ao n cap).ownBlock) (fun i _ _ => n + 1 - (intOf i).toNat)
 case atStart => exact ⟨0, xs, by omega, rfl, by go_num, ⟨hl, fun p hp => by rw [if_neg (by omega)]⟩, HO.out, World.grownBy.refl _ _⟩
 case round =>
  obtain ⟨k, ys, hk, rfl, rfl, hR, ho, hg⟩ := hrel
  by_cases hlt : k + 1 + k < n
  · obtain ⟨j, hj⟩ : ∃ j, j + 1 + k = n := ⟨n - 1 - k, by omega⟩
    have e1 : (n : Int) - 1 - k = (j : Int) := by omega
    rw [e1]
    have hkj : k < j := by omega
    have hjn : j < n := by omega
    have hkn : k < n := by omega
    have mixed : Tryz.prog.follows Departure.mixedOrders = true := by kernel_rfl
    have hkj' : (k : Int) < (j : Int) := by omega
    obtain ⟨g, hao, hbg⟩ := qN ho (by omega)
    subst hao
    have hc := ho.cellAt k (by omega)
    have hc2 := ho.cellAt j (by omega)
    rw [gV _ k (by have := dW ho; omega)] at hc
    rw [gV _ j (by have := dW ho; omega)] at hc2
    have hf := ho.frozenAt k
    have hf2 := ho.frozenAt j
    have hst := hR.step hl hkj hj
    obtain ⟨x, hx⟩ : ∃ x : Nat, x = ys.getD k 0 := ⟨_, rfl⟩
    obtain ⟨y, hy⟩ : ∃ y : Nat, y = ys.getD j 0 := ⟨_, rfl⟩
    rw [← hx, ← hy] at hst
    rw [← hx] at hc
    rw [← hy] at hc2
    have HX := hid hx; have HY := hid hy; have HB := hid ho; have HG := hid hg; have HST := hid hst; have HR := hid hR
    clear hx hy ho hg hst hR
    go_wp2_with fail
    go_region_o
    go_wp2
    go_roundw
    case rel =>
     obtain ⟨h1, h2⟩ := HB.out.stored k (.int .u8 (y : Int))
     rw [yI _ k y _ rfl] at h1
     obtain ⟨h3, h4⟩ := h1.stored j (.int .u8 (x : Int))
     rw [yI _ j x _ rfl] at h3
     exact ⟨k + 1, _, by omega, by go_num, by congr 1; omega, HST.out, h3, aA (aA HG.out (aA h2 h4)) (bM _ 1 _)⟩
    case measure => simp [intOf]; omega
  · have hge : ¬ (k : Int) < (n : Int) - 1 - k := by omega
    have HB := hid ho; have HG := hid hg; clear ho hg
    go_wp2
    go_end0
    rw [← hR.done hl (by omega)]
    exact ⟨⟨_, rfl⟩, HB.out, HG.out⟩

attribute [local go_sem] Oper.semAt_some

def DgI (w : World) (v N : Nat) (r k : Nat) (W : World) : Prop :=
 (∃ ta tc, Boxed W w.heap.size 22 (.slice ta (19 * k) tc) ∧ W.ownsRow w.heap.size 5 1 (.slice ta (19 * k) tc) (19 * k) (UB (M.pd v (19 * k))) ∧ (Value.slice ta (19 * k) tc).ownBlock ≠ some r ∧ k ≤ 2 * N + 1) ∧ Below w.heap.size w W

theorem DgI.own (w : World) (v N r B : Nat) (hB : w.heap.size ≤ B) : OwnFrom B (DgI w v N r) :=
 OwnFrom.and (Own.from (fun s a b row hs hg hr => by
  obtain ⟨ta, tc, h1, h2, h3⟩ := hs
  exact ⟨ta, tc, boxed_own _ _ (fun _ => _) s a b row h1 hg hr, pP h2 hg hr, h3⟩) _) (ownFrom_below (Nat.le_refl _) hB)

theorem zF {w : World} {base n cap m g : Nat} {xs : List Nat} (h : w.ownsRow base 5 1 (.slice (some ⟨g, 0, none⟩) n cap) n (UB xs)) (hm : m ≤ n) : w.ownsRow base 5 1 (.slice (some ⟨g, 0, none⟩) m cap) m (UB (xs.take m)) := by
 have hl := dW h
 refine ⟨by rw [aU, List.length_take]; omega, .inr ?_⟩
 rcases h.2 with ⟨he, h0⟩ | ⟨g', cap', cur, he, hb, hg, hc, hcm, hsz, ht⟩
 · simp at he
 · simp only [Value.slice.injEq, Option.some.injEq, Addr.mk.injEq] at he
   obtain ⟨⟨rfl, _⟩, _, rfl⟩ := he
   refine ⟨g, cap, cur, rfl, hb, hg, by omega, hcm, hsz, ?_⟩
   have e : UB (xs.take m) = (UB xs).take m := by simp [UB, List.map_take]
   rw [e, ← ht, List.take_take]
   congr 1
   omega

def FH (w : World) (b : Nat) : Nat := match w.cell? ⟨b, 0, none⟩ with | some (.slice _ n _) => n | _ => 0

theorem rC {W : World} {base e sz k r : Nat} {v : Value} {xs : List Value} {zs : Array Value} {t : TypeId} {fz : Nat × Nat} (h : W.ownsRow base e sz v k xs) (hr : W.heap[r]? = some (.cells zs t fz)) (hte : t ≠ e) : v.ownBlock ≠ some r := by
 rcases h.2 with ⟨rfl, _⟩ | ⟨g, cap, cur, rfl, _, hgb, _⟩
 · simp [Value.ownBlock]
 · intro e'
   have e2 : g = r := by simpa [Value.ownBlock] using e'
   subst e2
   have := hr.symm.trans hgb
   simp at this
   exact hte this.2.1

theorem jU (v : Nat) (ao : Option Addr) (N cap : Nat) (w : World) (hN : (L v).length = N) (hm : N ≤ 100000) (hr : Rd w ao (L v)) :
 Calls Tryz.prog 80 #[.slice ao N cap] w fun e w' => ∃ ra rc, e = .returned (.slice ra (M.txt v).length rc) ∧ w'.ownsRow w.heap.size 5 1 (.slice ra (M.txt v).length rc) (M.txt v).length (UB (M.txt v)) ∧ Below w.heap.size w w' := by
 refine (callsIn_wide (n := 3)).1 ?_
 obtain ⟨i0, hi, hz0, hz1, hz2⟩ := info_parts Tryz.infoY
 refine callsIn_of_wp_marks Tryz.func80 rfl trivial ?_ rfl
 simp only [Tryz.ntmps80, List.size_toArray, List.length_cons, List.length_nil, Nat.reduceAdd, Nat.reduceSub, Array.replicate_succ, Array.replicate_zero, List.push_toArray, List.append_toArray, List.nil_append, List.cons_append]
 by_cases hv : v = 0
 · subst hv
   have hN0 : N = 0 := by rw [← hN]; exact (mL 0).2 rfl
   subst hN0
   gi_wp2
   have hb1 : BlkY (w.alloc (.cells #[.int .u8 48] 5)) w.heap.size [48] := heap_alloc_new w _
   refine ⟨_, results_tmp rfl _ _ _, some ⟨w.heap.size, 0, none⟩, 1, rfl, hb1.own (n := 1) (Nat.le_refl _) rfl (by decide), (Below.refl _ w).alloc (Nat.le_refl _) _⟩
 · have hN0 : ¬ N = 0 := by rw [← hN]; intro e; exact hv ((mL v).1 e)
   have hN0' : ((N : Int) == 0) = false := by simp; omega
   gi_wp2
   obtain ⟨W0, hW0⟩ : ∃ W0, w.alloc (.cells #[.slice none 0 0] 22) = W0 := ⟨_, rfl⟩
   have bT : Boxed W0 w.heap.size 22 (.slice none 0 0) := by rw [← hW0]; exact Boxed.new w _ _
   have hB0 : Below w.heap.size w W0 := by rw [← hW0]; exact (Below.refl _ w).alloc (Nat.le_refl _) _
   have hS0 : W0.heap.size = w.heap.size + 1 := by rw [← hW0]; simp
   rw [hW0]
   refine j5 rfl (by omega) (gf := 107) (first := #[.slice ao N cap]) (lb := #[]) rfl trivial (enters_of Tryz.func107 (by kernel_rfl) rfl)
    (fun W hb hs => rV 2 (by omega) v ao N cap W hN (by omega) (hr.below (hB0.trans (hb.mono (by omega))))) (fun _ => rfl)
    (DgI w v N) (fun r => DgI.own w v N r _ (by omega)) ?keep ?start
    (fun x => { tmps := #[.slice ao N cap, undef, .slice none 0 0, .pointer (some ⟨w.heap.size, 0, none⟩), .int .u64 ((gd v x : Nat) : Int), .slice ao N cap, .int .i64 (N : Int), .bool false, undef, .slice ao N cap, .func (.func 107) #[.slice ao N cap] #[], .int .u64 ((gd v x : Nat) : Int), undef, undef, undef, undef, undef, undef, undef, undef, undef, undef, undef, undef, undef, undef, undef, undef, undef, undef, undef, undef, undef, undef, undef, undef, undef, undef, undef, undef, undef, undef, undef, undef], defers := [] }) ?assign ?body ?done
   case keep =>
    rintro r k A B hr2 ⟨⟨ta, tc, h1, h2, h3⟩, hb⟩ hg
    exact ⟨⟨ta, tc, h1.kept hg (by intro e; injection e; omega), h2.kept hg (.inr h3.1), h3⟩, hb.grown hg hb.size (fun k e => by cases e; omega)⟩
   case start =>
    intro r W hr2 hb
    exact ⟨⟨none, 0, (hb.block _ (by omega)).trans bT, World.ownsRow_nil _ _ _ _, by simp [Value.ownBlock], by omega⟩, hB0.trans (hb.mono (by omega))⟩
   case assign =>
    intro l x W K hK
    gi_wp2
    exact hK
   case body =>
    rintro l r k W hr2 ⟨zs, hzs⟩ ⟨⟨ta, tc, hbx, hrow, hne, hkN⟩, hB⟩ hgo
    obtain ⟨g0, hg0⟩ : ∃ g0, g0 = gd v k := ⟨_, rfl⟩
    have hg1 : g0 < 10000000000000000000 := by rw [hg0]; exact J8 v k
    rw [← hg0]
    have HG := hid hg0; clear hg0
    have HBX := hid hbx; have HROW := hid hrow; have HZS := hid hzs
    clear hbx hrow hzs bT
    gi_wp2
    gi_loopw [4, 12] (fun g i wr => ∃ (t : Nat) (ta : Option Addr) (tc : Nat), t ≤ 19 ∧ i = .int .i64 (t : Int) ∧ g = .int .u64 ((g0 / 10 ^ t : Nat) : Int) ∧ Boxed wr w.heap.size 22 (.slice ta (19 * k + t) tc) ∧ wr.ownsRow w.heap.size 5 1 (.slice ta (19 * k + t) tc) (19 * k + t) (UB (M.pd v (19 * k + t))) ∧ KeepsFrom W0.heap.size W wr ∧ wr.heap[r]? = W.heap[r]? ∧ Below w.heap.size w wr) (fun _ i _ => 19 - (intOf i).toNat)
    case atStart => exact ⟨0, ta, tc, by omega, rfl, by simp, HBX.out, HROW.out, KeepsFrom.refl _ _, rfl, hB⟩
    case round =>
     obtain ⟨t, ta, tc, ht, rfl, rfl, bx, row, kf, hrk, hbl⟩ := hrel
     by_cases hlt : t < 19
     · have hlt' : (t : Int) < 19 := by omega
       have hc := bx.cell
       have hdg := FI v k t hlt
       rw [← HG.out] at hdg
       obtain ⟨x, hx⟩ : ∃ x, x = g0 / 10 ^ t := ⟨_, rfl⟩
       have hxl : x < 10000000000000000000 := by rw [hx]; exact Nat.lt_of_le_of_lt (Nat.div_le_self _ _) hg1
       rw [← hx] at hdg ⊢
       obtain ⟨c, hcv⟩ : ∃ c, c = 48 + x % 10 := ⟨_, rfl⟩
       have hcb : c ≤ 57 := by omega
       have s1 : (x : Int).tmod 10 = ((x % 10 : Nat) : Int) := by rw [Int.tmod_eq_emod_of_nonneg (by omega)]; omega
       have s2 : IntKind.u64.wrap (48 + (x : Int) % 10) = (c : Int) := by rw [IntKind.wrap_u64]; omega
       have s3 : (c : Int) % 256 = (c : Int) := by omega
       have s4 : (x : Int).tdiv 10 = ((x / 10 : Nat) : Int) := by rw [Int.tdiv_eq_ediv_of_nonneg (by omega)]; omega
       have HX := hid hx; have HC := hid hcv; have HD := hid hdg; have HROW := hid row; have HKF := hid kf; have HRK := hid hrk; have HBL := hid hbl
       clear hx hcv hdg row kf hrk hbl
       have hnew : ∀ j u, (UB [c])[j]? = some u → (wr.alloc (.cells #[.int .u8 (c : Int)] 5)).cell? ((⟨wr.heap.size, 0, none⟩ : Addr).add j) = some u := by
        intro j u hj
        match j, hj with
        | 0, hj => simp [UB] at hj; subst hj; simp [Addr.add]
       have hk2 := tY v k N (by omega) hgo
       gi_wp2_with (gi_at_builtin; refine wpListIn_append_own _ rfl _ _ 22 rfl w.heap.size 5 i0 (.int .u8 0) 1 1 Tryz.underlying22 hi hz0 hz1 hz2 rfl (by decide) _ _ _ rfl (HROW.out.alloc _) ⟨wr.heap.size, 0, none⟩ 1 1 (UB [c]) rfl rfl hnew (jT _) (by unfold maxLen; omega) (by omega) (by have := HBL.out.size; simp; omega) ?_; intro v' w1 hown' hgrow _; obtain ⟨g', cap', rfl⟩ := ownsRow_succ hown'; obtain ⟨hv1, hv2, hr3, hk3, hb3⟩ := bx.appended (by decide) HROW.out HBL.out.size (Nat.le_refl _) hown' hgrow; have hc1 := hv1.cell; have hf1 := hv1.frozen)
       go_roundw
       case rel =>
        refine ⟨t + 1, _, _, by omega, by go_num, ?_, hv2, ?_, HKF.out.trans (hk3.from _), ?_, HBL.out.trans hb3⟩
        · rw [Nat.pow_succ, ← Nat.div_div_eq_div_mul, ← HX.out]; congr 1
        · rw [← Nat.add_assoc, M.FN, ← HD.out, ← HC.out, bZ]
          exact hr3
        · have hne3 := rC HROW.out (HRK.out.trans HZS.out) (by decide)
          have hlt3 : r < wr.heap.size := (Array.getElem?_eq_some_iff.1 (HRK.out.trans HZS.out)).1
          refine ((Below.heap_setCell _ _ _ r (by simp only; omega)).trans ((hgrow.block r (by simp; omega) (fun e => hne3 e.symm)).trans (Below.heap_alloc _ _ r hlt3))).trans HRK.out
       case measure => simp [intOf]; omega
     · have e : t = 19 := by omega
       subst e
       have hlt' : ¬ ((19 : Nat) : Int) < 19 := by omega
       have hne3 := rC row (hrk.trans HZS.out) (by decide)
       gi_wp2
       exact ⟨by rw [← hS0]; exact kf, hrk, ⟨⟨ta, tc, bx, row, hne3, by have := tY v k N (by omega) hgo; omega⟩, hbl⟩⟩
   case done =>
    rintro D r k W hD hr2 hS ⟨⟨ta, tc, hbx, hrow, hne, hkN⟩, hB⟩ hK
    have HKB : 19 * k ≤ 4000000 := by omega
    have hvl : v < 10 ^ (19 * k) := by
     rcases Nat.lt_or_ge v (10 ^ (19 * k)) with e | e
     · exact e
     · have := Nat.div_pos e (Nat.pow_pos (by omega)); unfold gq at hS; omega
    have HBX := hid hbx; have HROW := hid hrow; have HK := hid hK; have HB := hid hB
    clear hbx hrow hK hB bT
    gi_wp2
    gi_loopw [] (fun wr => ∃ (m : Nat) (ta : Option Addr) (tc : Nat), Boxed wr w.heap.size 22 (.slice ta m tc) ∧ wr.ownsRow w.heap.size 5 1 (.slice ta m tc) m (UB (M.pd v m)) ∧ v < 10 ^ m ∧ m ≤ 19 * k ∧ Below w.heap.size w wr ∧ wr.heap[D]? = some (.deferred (some []))) (fun wr => FH wr w.heap.size)
    case atStart => exact ⟨19 * k, ta, tc, HBX.out, HROW.out, hvl, Nat.le_refl _, HB.out, HK.out⟩
    case round =>
     obtain ⟨m, ta, tc, bx, row, hvm, hmk, hbl, hkd⟩ := hrel
     obtain ⟨q, rfl⟩ : ∃ q, m = q + 1 := by
      rcases Nat.eq_zero_or_pos m with e | e
      · subst e; simp at hvm; omega
      · exact ⟨m - 1, by omega⟩
     have hcap := j6 row
     obtain ⟨g, hao, hbg⟩ := qN row (by omega)
     subst hao
     have hc := row.cellAt q (by omega)
     rw [gV _ q (by rw [M.mF]; omega), M.IU _ _ _ (by omega)] at hc
     have hb1 := bx.cell
     have hf1 := bx.frozen
     obtain ⟨x, hx⟩ : ∃ x : Nat, x = 48 + v / 10 ^ q % 10 := ⟨_, rfl⟩
     rw [← hx] at hc
     have i1 : ((q + 1 : Nat) : Int) - 1 = (q : Int) := by omega
     have i2 : (0 : Int) < ((q + 1 : Nat) : Int) := by omega
     have HX := hid hx; have HROW := hid row; have HBL := hid hbl; have HKD := hid hkd; have HVM := hid hvm
     clear hx row hbl hkd hvm
     by_cases hx0 : x = 48
     · have hxb : ((x : Int) == 48) = true := by simp [hx0]
       have HX0 := hid hx0; clear hx0
       gi_wp2
       go_roundw
       case rel =>
        refine ⟨q, _, tc, bx.set _, ?_, ?_, by omega, HBL.out.setCell (p := ⟨w.heap.size, 0, none⟩) (Nat.le_refl _) _, (KeepsOthers.setCell _ _ _).same D _ HKD.out rfl⟩
        · have h1 := zF HROW.out (m := q) (by omega)
          rw [M.GQ _ _ _ (by omega)] at h1
          exact h1.kept (grownBy_setCell' wr w.heap.size _) (.inr (rC h1 bx (by decide)))
        · have h1 := HX.out; have h2 := HX0.out; have h3 := HVM.out
          have h4 : v / 10 ^ q % 10 = 0 := by omega
          have h5 : v / 10 ^ q < 10 := by
           rw [Nat.div_lt_iff_lt_mul (Nat.pow_pos (by omega)), Nat.mul_comm, ← Nat.pow_succ]; exact h3
          have h6 : v / 10 ^ q = 0 := by generalize v / 10 ^ q = z at h4 h5 ⊢; omega
          exact (Nat.div_eq_zero_iff.1 h6).resolve_left (by have : 0 < 10 ^ q := Nat.pow_pos (by omega); omega)
       case measure =>
        unfold FH
        rw [(bx.set _).cell, bx.cell]
        simp only; omega
     · have hxb : ((x : Int) == 48) = false := by simp; omega
       have HX0 := hid hx0; clear hx0
       have htl : M.pd v (q + 1) = M.tl v := M.H7 (q + 1) v HVM.out (fun _ => by have := HX.out; have := HX0.out; rw [Nat.add_sub_cancel]; omega)
       rw [htl] at HROW
       gi_wp2
       refine ⟨trivial, (callsIn_wide.2 (CV w.heap.size (some ⟨g, 0, none⟩) (q + 1) tc (M.tl v) wr (by rw [← htl, M.mF]) (by omega) HROW.out)).mono ?_⟩
       rintro e W5 ⟨⟨u, rfl⟩, row5, hg5⟩
       have bx5 : Boxed W5 w.heap.size 22 (.slice (some ⟨g, 0, none⟩) (q + 1) tc) := bx.kept hg5 (fun e => rC HROW.out bx (by decide) e.symm)
       have hc5 := bx5.cell
       have b5 : Below w.heap.size w W5 := HBL.out.grown hg5 HBL.out.size (fun k e => by simp [Value.ownBlock] at e; omega)
       have hD5 : W5.heap[D]? = some (.deferred (some [])) := (hg5.block D (Array.getElem?_eq_some_iff.1 HKD.out).1 (by
        intro e
        simp only [Value.ownBlock, Option.some.injEq] at e
        subst e
        rcases HROW.out.2 with ⟨he, _⟩ | ⟨g', c', cur, he, _, hgb, _⟩
        · simp at he
        · simp only [Value.slice.injEq, Option.some.injEq, Addr.mk.injEq] at he
          obtain ⟨⟨rfl, _⟩, _⟩ := he
          rw [HKD.out] at hgb; simp at hgb)).trans HKD.out
       gi_wp2
       refine ⟨by simp, .inl ⟨_, _, rfl, run_takeDeferred hD5, ?_⟩⟩
       have hB5 := b5.trans (belowK_b (w := w) (Nat.le_refl _) W5 D _ (.deferred none) (by omega) hD5 rfl rfl)
       have etx : M.txt v = (M.tl v).reverse := by unfold M.txt; rw [if_neg hv]
       have eln : (M.txt v).length = q + 1 := by rw [etx, List.length_reverse, ← htl, M.mF]
       rw [eln, etx]
       exact ⟨_, results_tmp rfl _ _ _, _, _, rfl, ownsRow_putObj row5 _ hD5 rfl, hB5⟩

end Go.Proofs.YtdfljbpcjkbflaaGreatDoor
