import Derived.Test.YtdpbhbpcpnlbkaaaCs2
import Derived.Test.YtdpbhbpcpnlbkaaaCs4
import Derived.Test.YtdpbhbpcpnlbkaaaCaO
import Derived.Test.YtdpbhbpcpnlbkaaaCaR
namespace Go.Proofs.Ytdpbhbpcpnlbkaa
open Go.RowKit Go.Maps
set_option linter.unusedVariables false
set_option maxRecDepth 100000
theorem Bk.nil {w : World} {mb : Nat} (h : w.heap[mb]? = some (.map #[] 0)) : Bk w mb [] := by
 obtain ⟨es, cl, e, fit, hs, hD⟩ := World.ownsMap_made (H := Unit) w Try.prog 36 (plainElem Try.prog 3)
 rw [heap_alloc_new] at e
 injection e with e
 injection e with e1 e2
 subst e1; subst e2
 refine ⟨0, .map [], ⟨#[], 0, h, fit, Nat.le_refl _, rfl⟩, Nat.le_refl _, fun k m kl _ => ⟨?_, ?_⟩⟩
 · rw [num_zero.2 (by simp)]; rfl
 · rw [num_zero.2 (by simp)]; rfl

def fsk (cb : Nat) (kx : Nat → Option Addr) (kc len ob : Nat → Nat) (t : Nat) : Nat → Value := fun i => (#[.pointer (some ⟨cb, 0, none⟩), .slice (kx t) (len t) (kc t), .slice (some ⟨ob t, 0, none⟩) (len t) (len t), .int .i64 0, .pointer none, .int .i64 0] : Array Value).getD i default

def SK (w1 : World) (gb cb n : Nat) (kx : Nat → Option Addr) (kc len : Nat → Nat) (k : Nat) (wr : World) : Prop :=
 ∃ kb ob : Nat → Nat, Bf wr gb 66 n (fun t => if t < k then .pointer (some ⟨kb t, 0, none⟩) else .pointer none) ∧
   (∀ t, t < k → Bf wr (kb t) 116 6 (fsk cb kx kc len ob t) ∧ Bf wr (ob t) 3 (len t) (fun _ => .int .i64 0) ∧ w1.heap.size ≤ kb t ∧ w1.heap.size ≤ ob t) ∧
   (∀ i j, i < k → j < k → kb i = kb j → i = j) ∧ (∀ i j, i < k → j < k → ob i = ob j → i = j) ∧ Tn (fun g => g = gb) w1 wr

theorem SK.step {w1 wr u : World} {gb cb n k : Nat} {kx : Nat → Option Addr} {kc len : Nat → Nat} (h : SK w1 gb cb n kx kc len k wr) (hk : k < n) (q : Qt (((wr.alloc (.cells (madeCells #[.int .i64 0] (len k)) 3)).alloc (.cells #[.pointer (some ⟨cb, 0, none⟩), .slice (kx k) (len k) (kc k), .slice (some ⟨wr.heap.size, 0, none⟩) (len k) (len k), .int .i64 0, .pointer none, .int .i64 0] 116)).setCell ⟨gb, k, none⟩ (.pointer (some ⟨wr.heap.size + 1, 0, none⟩))) u) : SK w1 gb cb n kx kc len (k + 1) u := by
 obtain ⟨kb, ob, hG, hS, ik, io, tn⟩ := h
 obtain ⟨U, hU⟩ : ∃ U, U = ((wr.alloc (.cells (madeCells #[.int .i64 0] (len k)) 3)).alloc (.cells #[.pointer (some ⟨cb, 0, none⟩), .slice (kx k) (len k) (kc k), .slice (some ⟨wr.heap.size, 0, none⟩) (len k) (len k), .int .i64 0, .pointer none, .int .i64 0] 116)) := ⟨_, rfl⟩
 have s1 : (wr.alloc (.cells (madeCells #[.int .i64 0] (len k)) 3)).heap.size = wr.heap.size + 1 := by simp
 have bU : Below wr.heap.size wr U := by rw [hU]; exact ((Below.refl _ _).alloc (Nat.le_refl _) _).alloc (by omega) _
 have nO : Bf U wr.heap.size 3 (len k) (fun _ => .int .i64 0) := by
  rw [hU]; exact ⟨_, by rw [Below.heap_alloc _ _ _ (by omega)]; exact heap_alloc_new _ _, size_madeCells _ _, fun i hi => made1 _ i hi⟩
 have nK : Bf U (wr.heap.size + 1) 116 6 (fsk cb kx kc len (fun t => if t = k then wr.heap.size else ob t) k) := by
  rw [hU]; refine ⟨_, by rw [← s1]; exact heap_alloc_new _ _, rfl, fun i hi => ?_⟩
  simp [fsk, Array.getD, show i < 6 from hi]
 rw [← hU] at q
 have G' := hG.below bU
 have sz := tn.size
 refine ⟨fun t => if t = k then wr.heap.size + 1 else kb t, fun t => if t = k then wr.heap.size else ob t, ((G'.set k _).congr ?_).qt q, fun t ht => ?_, fun i j hi hj => ?_, fun i j hi hj => ?_, ?_⟩
 · intro t ht
   by_cases e : t = k
   · subst e; rw [upd_at]; simp
   · rw [upd_ne _ _ e]
     by_cases e2 : t < k
     · rw [if_pos e2, if_pos (by omega)]; simp only [if_neg e]
     · rw [if_neg e2, if_neg (by omega)]
 · by_cases e : t = k
   · subst e
     simp only [if_true]
     exact ⟨(nK.far _ _ _ (nK.ne G' (by decide))).qt q, (nO.far _ _ _ (nO.ne G' (by decide))).qt q, by omega, by omega⟩
   · simp only [if_neg e]
     obtain ⟨a, b, c, d⟩ := hS t (by omega)
     have a' := a.below bU; have b' := b.below bU
     refine ⟨((a'.far _ _ _ (a'.ne G' (by decide))).qt q).congr ?_, (b'.far _ _ _ (b'.ne G' (by decide))).qt q, c, d⟩
     intro i hi
     simp [fsk, e]
 · by_cases e1 : i = k <;> by_cases e2 : j = k
   · intro _; rw [e1, e2]
   · simp only [if_pos e1, if_neg e2]; intro e; have := (hS j (by omega)).1.lt; omega
   · simp only [if_neg e1, if_pos e2]; intro e; have := (hS i (by omega)).1.lt; omega
   · simp only [if_neg e1, if_neg e2]; exact ik i j (by omega) (by omega)
 · by_cases e1 : i = k <;> by_cases e2 : j = k
   · intro _; rw [e1, e2]
   · simp only [if_pos e1, if_neg e2]; intro e; have := (hS j (by omega)).2.1.lt; omega
   · simp only [if_neg e1, if_pos e2]; intro e; have := (hS i (by omega)).2.1.lt; omega
   · simp only [if_neg e1, if_neg e2]; exact io i j (by omega) (by omega)
 · exact (tn.trans ((Tn.below _ bU).trans (Tn.set _ _ _ _ rfl))).trans (Tn.qt _ q)

theorem run_first {w0 w wA wB : World} {N S cb mb hb gb : Nat} {tasks : List (List (Int × Int))} {kx : Nat → Option Addr} {kc : Nat → Nat} (nk : NK w0 N S cb mb hb N w) (h0 : Bf wA gb 66 tasks.length (fun _ => .pointer none)) (bA : Below w.heap.size w wA) (hgb : w.heap.size ≤ gb) (sk : SK wA gb cb tasks.length kx kc (Q.lenAt tasks) tasks.length wB) :
 ∃ L : Lay, L.base = w0.heap.size ∧ L.cb = cb ∧ L.N = N ∧ L.S = S ∧ L.T = tasks.length ∧ L.len = Q.lenAt tasks ∧ Mem wB L tasks kx kc Q.Rst.init 0 ∧ Below w0.heap.size w0 wB ∧ Bf wB gb 66 tasks.length (fun t => .pointer (some ⟨L.kb t, 0, none⟩)) := by
 obtain ⟨sb, l1, l2, l3, hC, hM, hH, hsl, hin, hbl, -⟩ := nk
 obtain ⟨kb, ob, hG, hS, ik, io, tn⟩ := sk
 have ww : w0.heap.size ≤ w.heap.size := hbl.size
 have wA' : w.heap.size ≤ wA.heap.size := bA.size
 have C := (hC.below bA).tn tn (by have := hC.lt; omega)
 have H := (hH.below bA).tn tn (by have := hH.lt; omega)
 have hMl : mb < w.heap.size := (Array.getElem?_eq_some_iff.1 hM).1
 have M : wB.heap[mb]? = some (.map #[] 0) := (tn.block mb (by omega) (by omega)).trans ((bA.block mb hMl).trans hM)
 refine ⟨{ base := w0.heap.size, cb := cb, mb := mb, hb := hb, sb := sb, kb := kb, ob := ob, qb := fun _ => 0, act := fun _ => false, N := N, S := S, T := tasks.length, len := Q.lenAt tasks }, rfl, rfl, rfl, rfl, rfl, rfl, ?_, ?_, ?_⟩
 · refine ⟨_, { c := fnc N S mb hb, h := fsh S sb N, s := fun _ => fsl, k := fun t => fsk cb kx kc (Q.lenAt tasks) ob t, o := fun _ _ => .int .i64 0, q := fun _ _ => default, ks := [], kv := .slice none 0 0 }, LE.refl _, ?_, ?_, Nat.le_refl _, ?_⟩
   · refine ⟨C, H, fun i hi => ?_, fun t ht => (hS t ht).1, fun t ht => (hS t ht).2.1, fun t ht ha => by simp at ha, Bk.nil M, World.ownsRow_nil _ _ _ _, hin, ik, io, fun i j hi hj ha => by simp at ha, Nat.le_of_lt l1, Nat.le_of_lt l2, Nat.le_of_lt l3, fun i hi => Nat.le_of_lt (hsl i hi).2, fun t ht => ?_, fun t ht => ?_, fun t ht ha => by simp at ha⟩
     · exact ((hsl i hi).1.below bA).tn tn (by have := (hsl i hi).1.lt; omega)
     · have := (hS t ht).2.2.1; simp only; omega
     · have := (hS t ht).2.2.2; simp only; omega
   · refine ⟨⟨rfl, rfl, rfl, rfl, rfl, rfl, rfl, rfl, rfl, rfl, fun i hi => ?_, fun i hi => ?_, fun i j hi hj => ?_, fun i j hi hj => ?_, fun i j hi hj => ?_, fun i j k hi hj h => by simp [Q.Rst.init] at h⟩, fun t ht => rfl, fun t ht => rfl, fun t ht => rfl, fun t ht => rfl, fun t ht => rfl, fun t ht => rfl, fun t i ht hi => rfl, fun t ht ha => by simp at ha, fun t ht ha => rfl, fun t ht => rfl, rfl⟩
     · have e1 : i * 2 % 2 = 0 := by omega
       have e2 : i * 2 / 2 = i := by omega
       simp only [fsh]; rw [if_pos e1, e2, if_pos hi]
     · have e1 : ¬ (i * 2 + 1) % 2 = 0 := by omega
       simp only [fsh]; rw [if_neg e1]; rfl
     · have e1 : ¬ (j * 3) % 3 = 1 := by omega
       simp only [fsl]; rw [if_neg e1]; rfl
     · have e1 : (j * 3 + 1) % 3 = 1 := by omega
       simp only [fsl]; rw [if_pos e1]; rfl
     · have e1 : ¬ (j * 3 + 2) % 3 = 1 := by omega
       simp only [fsl]; rw [if_neg e1]; rfl
   · simp only; have := tn.size; omega
 · exact (hbl.trans (bA.mono ww)).trans (tn.under _ (by omega) (fun k e => by omega))
 · exact hG.congr (fun t ht => by rw [if_pos ht])

def Rpt (w : World) (B : Nat) (v : Value) (done : Bool) (n : Nat) (c : Q.Cch) (T : Nat) (ts len : Nat → Nat) (out : Nat → Nat → Nat) (vs : List (Nat × Nat × (Int × Int) × Bool)) : Prop :=
 ∃ (tv ov sv : Value) (ob : Nat → Nat), v = .agg (rpc done n tv ov c sv) ∧ w.ownsRow B 3 1 tv T ((List.range T).map fun t => .int .i64 (ts t)) ∧ w.ownsRow B 26 1 ov T ((List.range T).map fun t => .slice (some ⟨ob t, 0, none⟩) (len t) (len t)) ∧ OwV w B sv vs ∧
   (∀ t, t < T → Bf w (ob t) 3 (len t) (fun i => .int .i64 (out t i)) ∧ B ≤ ob t ∧ tv.ownBlock ≠ some (ob t)) ∧ (∀ t t', t < T → t' < T → ob t = ob t' → t = t')

end Go.Proofs.Ytdpbhbpcpnlbkaa
