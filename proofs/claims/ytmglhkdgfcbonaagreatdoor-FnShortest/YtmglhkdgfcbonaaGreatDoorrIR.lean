import Derived.RangeFuncNested
import Derived.RangeFuncBound
import Derived.RangeFuncCalls
import Derived.RangeFuncLeaves
import Derived.RangeFuncBox
import Derived.RangeFuncWrites
import Derived.Shelf.Abstract
import Derived.Shelf.RegionOpen
import Derived.OwnWalkIn
import Derived.TacticsInMore
import Derived.LoopNIn
import Derived.LoopIn
import Derived.Shelf.RegionOpenPlain
import Derived.Lib.Walk
import Derived.Test.YtmglhkdgfcbonaaGreatDoorrBY
set_option maxHeartbeats 1000000
namespace Go.Proofs.YtmglhkdgfcbonaaGreatDoor
open Go.RowKit Go.Shelf
set_option linter.unusedVariables false
set_option maxRecDepth 100000
variable {F : Fence} {n : Nat} {P : Program}

def ItGives (F : Fence) (n : Nat) (P : Program) (gf : Nat) (first lb : Array Value) (encs : Nat → Array Value) (go S : Nat → Prop) (t : TypeId) (W : World) : Prop :=
 ∀ (l : Nat) (J : Nat → Nat → World → Prop), (∀ W' r, Below W.heap.size W W' → W.heap.size ≤ r → J r 0 W') → (∀ r k A B, W.heap.size ≤ r → J r k A → A.grownBy B (some r) → J r k B) →
   (∀ r k A, W.heap.size ≤ r → (∃ zs, A.heap[r]? = some (.cells zs t (0, 0))) → J r k A → go k → YieldAt F (n - 1) P l (encs k) A fun e B => e = .returned (.bool true) ∧ J r (k + 1) B ∧ B.heap[r]? = A.heap[r]?) →
   CallsIn F n P gf (first ++ #[.func (.yield l) #[] #[]] ++ lb) W fun e W' => (∃ v, e = .returned v) ∧ ∃ r k, W.heap.size ≤ r ∧ S k ∧ J r k W'

def itPost (B r : Nat) (I : World → Prop) (W : World) : Exit → Act → World → Prop
 | .normal, _, W' => KeepsFrom B W W' ∧ W'.heap[r]? = W.heap[r]? ∧ I W'
 | _, _, _ => False

theorem wpIn_rangeFunc_it {g : Operand} {ps : Array Tmp} {assign body : Code} {Q : Exit → Act → World → Prop} {a : Act} {w : World}
 (hro : F.round = none) (h1 : 1 ≤ n) {gf : Nat} {first lb : Array Value} (hg : a.eval g = .func (.func gf) first lb) (hFg : F.fn gf) (eg : ∀ args w, (callFunc gf args).run P w = .ok (.enter gf args) w)
 {encs : Nat → Array Value} {go S : Nat → Prop} {t : TypeId} (hseq : ∀ W, Below w.heap.size w W → W.heap.size = w.heap.size + 2 → ItGives F (n - 1) P gf first lb encs go S t W) (hps : ∀ x, (encs x).size = ps.size)
 (I : Nat → Nat → World → Prop) (hI : ∀ r, OwnFrom w.heap.size (I r)) (hIr : ∀ r k A B, w.heap.size + 2 ≤ r → I r k A → A.grownBy B (some r) → I r k B)
 (h0 : ∀ r W, w.heap.size + 2 ≤ r → Below w.heap.size w W → I r 0 W) (a₁ : Nat → Act)
 (hassign : ∀ (l : Nat) (x : Nat) (W : World) (K : Act → World → Prop), K (a₁ x) W →
   assign.wpIn (F.inRound l) (n - 1 - 1) P (Exit.then K (fun _ _ _ => False)) { tmps := (ps.zip (encs x)).foldl (fun t (p, v) => t.setIfInBounds p v) a.tmps, defers := [] } W)
 (hbody : ∀ (l r k : Nat) (W : World), w.heap.size + 2 ≤ r → (∃ zs, W.heap[r]? = some (.cells zs t (0, 0))) → I r k W → go k → body.wpIn (F.inRound l) (n - 1 - 1) P (itPost w.heap.size r (I r (k + 1)) W) (a₁ k) W)
 (hdone : ∀ (D r k : Nat) (W : World), w.heap.size ≤ D → w.heap.size + 2 ≤ r → S k → I r k W → W.heap[D]? = some (.deferred (some [])) → Q .normal { a with defers := { target := .collected D, args := #[] } :: a.defers } W) :
 (Code.rangeFunc g ps assign body).wpIn F n P Q a w := by
 refine wpIn_rangeFunc ?_
 intro fn hfn
 rw [hro]
 obtain ⟨rec, hrec⟩ : ∃ rec : LoopState → Option Code → Loop, rec = fun st pe => { state := st, pending := pe, fn, tmps := a.tmps, params := ps, assign, body, defers := w.heap.size } := ⟨_, rfl⟩
 obtain ⟨W1, hW1⟩ : ∃ W1, (w.alloc (.deferred (some []))).alloc (.loop (rec .ready none)) = W1 := ⟨_, rfl⟩
 have hL1 : W1.heap[w.heap.size + 1]? = some (.loop (rec .ready none)) := by
  rw [← hW1]; have := World.alloc_heap_new (w.alloc (.deferred (some []))) (.loop (rec .ready none)); rwa [World.size_alloc] at this
 have hK1 : W1.heap[w.heap.size]? = some (.deferred (some [])) := by
  rw [← hW1]; exact (Below.heap_alloc _ _ _ (by simp)).trans (World.alloc_heap_new w _)
 have hb1 : Below w.heap.size w W1 := by
  rw [← hW1]; exact (((Below.refl _ w).alloc (Nat.le_refl _) _).alloc (by simp) _)
 have hs1 : W1.heap.size = w.heap.size + 2 := by rw [← hW1]; simp
 refine ⟨w.heap.size + 1, [{ target := .collected w.heap.size, args := #[] }], W1, { target := .fn (.func gf) lb, args := first ++ #[.func (.yield (w.heap.size + 1)) #[] #[]] }, W1, gf,
  first ++ #[.func (.yield (w.heap.size + 1)) #[] #[]] ++ lb, W1, ?_, ?_, ?_, ?_, fun _ => h1, ?_⟩
 · rw [← hW1, hrec]; exact run_enterLoop_outer _ _ _ _ _
 · simp only [resolve, hg]
   simp [go_sem]
 · intro f' hf'; simp [Target.leads] at hf'; subst hf'; exact hFg
 · simp [invoke, go_sem, eg]
 · refine (hseq W1 hb1 hs1 (w.heap.size + 1)
    (fun r k W => I r k W ∧ W.heap[w.heap.size + 1]? = some (.loop (rec .ready none)) ∧ W.heap[w.heap.size]? = some (.deferred (some [])))
    (fun W' r hb hr => ⟨h0 r W' (by omega) (hb1.trans (hb.mono (by omega))), (hb.block _ (by omega)).trans hL1, (hb.block _ (by omega)).trans hK1⟩)
    (fun r k A B hr hs hg' => ⟨hIr r k A B (by omega) hs.1 hg', (hg'.block _ (Array.getElem?_eq_some_iff.1 hs.2.1).1 (by intro e; injection e; omega)).trans hs.2.1, (hg'.block _ (Array.getElem?_eq_some_iff.1 hs.2.2).1 (by intro e; injection e; omega)).trans hs.2.2⟩)
    ?_).mono ?_
   · rintro r k W hr ⟨zs, hrl⟩ ⟨hi, hl, hk⟩ hgo
     have hlt : w.heap.size + 1 < W.heap.size := (Array.getElem?_eq_some_iff.1 hl).1
     have hy := run_yield (P := P) (args := encs k) hl (by rw [hrec]; exact hps k)
     rw [hrec] at hy
     refine ⟨fn, _, assign, body, hy, roundIn_of_wpIn hfn (hassign _ k W _ ⟨_, run_beginRound hl (by rw [hrec]), ?_⟩)⟩
     have hl2 : (W.putObj (w.heap.size + 1) (.loop { rec .ready none with state := .busy })).heap[w.heap.size + 1]? = some (.loop { rec .ready none with state := .busy }) := World.putObj_heap_same hlt
     have hk2 : (W.putObj (w.heap.size + 1) (.loop { rec .ready none with state := .busy })).heap[w.heap.size]? = some (.deferred (some [])) := (World.putObj_heap_other (by omega)).trans hk
     refine wpIn_mono (hbody _ r k _ (by omega) ⟨zs, (World.putObj_heap_other (by omega)).trans hrl⟩ ((hI r).putObj _ hi (by omega) hl rfl) hgo) ?_
     rintro e a3 W3 hp
     cases e with
     | normal =>
       obtain ⟨hk3, hr3, hi3⟩ := hp
       have hl3 := hk3.same _ _ (by omega) hl2 rfl
       have he := run_endRound (P := P) none hl3
       rw [hrec] at he
       refine ⟨_, _, he, rfl, ⟨(hI r).putObj _ hi3 (by omega) hl3 rfl, ?_, ?_⟩, ?_⟩
       · rw [hrec]; exact World.putObj_heap_same (Array.getElem?_eq_some_iff.1 hl3).1
       · exact (World.putObj_heap_other (by omega)).trans (hk3.same _ _ (Nat.le_refl _) hk2 rfl)
       · exact (World.putObj_heap_other (by omega)).trans (hr3.trans (World.putObj_heap_other (by omega)))
     | ret => exact hp.elim
     | exit id => exact hp.elim
     | goto t => exact hp.elim
     | panic ch => exact hp.elim
     | outgrown => exact hp.elim
   · rintro e W2 ⟨⟨v, rfl⟩, r, k, hr, hS, hi, hl, hk⟩
     exact ⟨none, _, by have := run_endLoop (P := P) hl (by rw [hrec]; simp); rw [hrec] at this; exact this, hdone _ r k _ (Nat.le_refl _) (by omega) hS ((hI r).putObj _ hi (by omega) hl rfl) ((World.putObj_heap_other (by omega)).trans hk)⟩

theorem ownsRow_keptD {a b : World} {base e n : Nat} {v : Value} {xs : List Value} {row : Option Nat} (h : a.ownsRow base e 1 v n xs) (hg : a.grownBy b row) (hr : ∀ r, row = some r → ∃ o : Obj, a.heap[r]? = some o ∧ o.isCells = false) : b.ownsRow base e 1 v n xs := by
 refine ⟨h.1, ?_⟩
 rcases h.2 with h' | ⟨g, cap', cur, e1, hb, hh, r⟩
 · exact .inl h'
 · refine .inr ⟨g, cap', cur, e1, hb, ?_, r⟩
   refine (hg.block g (Array.getElem?_eq_some_iff.1 hh).1 ?_).trans hh
   intro e2
   obtain ⟨o, ho, hc⟩ := hr g e2.symm
   rw [hh] at ho
   injection ho with ho
   rw [← ho] at hc
   simp [Obj.isCells] at hc

def Rvk (xs ys : List Nat) (n k : Nat) : Prop := ys.length = n ∧ ∀ p, p < n → ys.getD p 0 = if p < k ∨ n < p + 1 + k then xs.getD (n - 1 - p) 0 else xs.getD p 0

theorem Rvk.done {xs ys : List Nat} {n k : Nat} (h : Rvk xs ys n k) (hl : xs.length = n) (hk : n ≤ 2 * k + 1) : ys = xs.reverse := by
 refine List.ext_getElem (by simp [h.1, hl]) fun p h1 h2 => ?_
 have hp : p < n := by rw [← h.1]; exact h1
 have h3 := h.2 p hp
 have e1 : ys.getD p 0 = ys[p] := by simp [List.getD_eq_getElem?_getD, h1]
 have e2 : (xs.reverse)[p] = xs.getD (n - 1 - p) 0 := by
  rw [List.getElem_reverse, List.getD_eq_getElem?_getD, List.getElem?_eq_getElem (by omega), Option.getD_some]
  congr 1
  omega
 rw [e2, ← e1, h3]
 by_cases hc : p < k ∨ n < p + 1 + k
 · rw [if_pos hc]
 · rw [if_neg hc, show n - 1 - p = p by omega]

theorem Rvk.step {xs ys : List Nat} {n k j : Nat} (h : Rvk xs ys n k) (hl : xs.length = n) (hk : k < j) (hj : j + 1 + k = n) : Rvk xs ((ys.set k (ys.getD j 0)).set j (ys.getD k 0)) n (k + 1) := by
 refine ⟨by simp [h.1], fun p hp => ?_⟩
 have hyl := h.1
 have h1 := h.2 k (by omega)
 have h2 := h.2 j (by omega)
 rw [if_neg (by omega)] at h1 h2
 by_cases e1 : p = j
 · subst e1
   rw [M.getD_set_eq _ _ _ (by simp; omega), h1, if_pos (by omega), show n - 1 - p = k by omega]
 · rw [M.getD_set_ne _ _ _ _ (fun e => e1 e.symm)]
   by_cases e2 : p = k
   · subst e2
     rw [M.getD_set_eq _ _ _ (by omega), h2, if_pos (by omega), show n - 1 - p = j by omega]
   · rw [M.getD_set_ne _ _ _ _ (fun e => e2 e.symm), h.2 p hp]
     by_cases hc : p < k ∨ n < p + 1 + k
     · rw [if_pos hc, if_pos (by omega)]
     · rw [if_neg hc, if_neg (by omega)]

theorem revB_any (base : Nat) (ao : Option Addr) (n cap : Nat) (xs : List Nat) (w : World) (hl : xs.length = n) (hn : n ≤ 4194304) (hown : w.ownsRow base 5 1 (.slice ao n cap) n (UB xs)) :
 Calls Tryz.prog 119 #[.slice ao n cap] w fun e w' => (∃ v, e = .returned v) ∧ w'.ownsRow base 5 1 (.slice ao n cap) n (UB xs.reverse) ∧ w.grownBy w' (Value.slice ao n cap).ownBlock := by
 have HO := hid hown; clear hown
 go_enter Tryz.func119, Tryz.ntmps119
 go_wp2
 go_loopw [2, 3] (fun i j wr => ∃ (k : Nat) (ys : List Nat), 2 * k ≤ n + 1 ∧ i = .int .i64 (k : Int) ∧ j = .int .i64 ((n : Int) - 1 - k) ∧ Rvk xs ys n k ∧ wr.ownsRow base 5 1 (.slice ao n cap) n (UB ys) ∧ w.grownBy wr (Value.slice ao n cap).ownBlock) (fun i _ _ => n + 1 - (intOf i).toNat)
 case atStart => exact ⟨0, xs, by omega, rfl, by go_num, ⟨hl, fun p hp => by rw [if_neg (by omega)]⟩, HO.out, World.grownBy.refl _ _⟩
 case round =>
  obtain ⟨k, ys, hk, rfl, rfl, hR, ho, hg⟩ := hrel
  by_cases hlt : k + 1 + k < n
  · obtain ⟨j, hj⟩ : ∃ j, j + 1 + k = n := ⟨n - 1 - k, by omega⟩
    have e1 : (n : Int) - 1 - k = (j : Int) := by omega
    rw [e1]
    have hkj : k < j := by omega
    have hjn : j < n := by omega
    have hkn : k < n := by omega
    have mixed : Tryz.prog.follows Departure.mixedOrders = true := by kernel_rfl
    have hkj' : (k : Int) < (j : Int) := by omega
    obtain ⟨g, hao, hbg⟩ := ownY_addr ho (by omega)
    subst hao
    have hc := ho.cellAt k (by omega)
    have hc2 := ho.cellAt j (by omega)
    rw [UB_get _ k (by have := ownY_len ho; omega)] at hc
    rw [UB_get _ j (by have := ownY_len ho; omega)] at hc2
    have hf := ho.frozenAt k
    have hf2 := ho.frozenAt j
    have hst := hR.step hl hkj hj
    obtain ⟨x, hx⟩ : ∃ x : Nat, x = ys.getD k 0 := ⟨_, rfl⟩
    obtain ⟨y, hy⟩ : ∃ y : Nat, y = ys.getD j 0 := ⟨_, rfl⟩
    rw [← hx, ← hy] at hst
    rw [← hx] at hc
    rw [← hy] at hc2
    have HX := hid hx; have HY := hid hy; have HB := hid ho; have HG := hid hg; have HST := hid hst; have HR := hid hR
    clear hx hy ho hg hst hR
    go_wp2_with fail
    go_region_o
    go_wp2
    go_roundw
    case rel =>
     obtain ⟨h1, h2⟩ := HB.out.stored k (.int .u8 (y : Int))
     rw [UB_setI _ k y _ rfl] at h1
     obtain ⟨h3, h4⟩ := h1.stored j (.int .u8 (x : Int))
     rw [UB_setI _ j x _ rfl] at h3
     exact ⟨k + 1, _, by omega, by go_num, by congr 1; omega, HST.out, h3, grown_trans (grown_trans HG.out (grown_trans h2 h4)) (grown_drewN _ 1 _)⟩
    case measure => simp [intOf]; omega
  · have hge : ¬ (k : Int) < (n : Int) - 1 - k := by omega
    have HB := hid ho; have HG := hid hg; clear ho hg
    go_wp2
    go_end0
    rw [← hR.done hl (by omega)]
    exact ⟨⟨_, rfl⟩, HB.out, HG.out⟩

end Go.Proofs.YtmglhkdgfcbonaaGreatDoor
