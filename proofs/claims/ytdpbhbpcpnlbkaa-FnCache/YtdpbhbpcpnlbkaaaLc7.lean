import Derived.Test.YtdpbhbpcpnlbkaaaGN
namespace Go.Proofs.Ytdpbhbpcpnlbkaa
open Go.RowKit Go.Maps
set_option linter.unusedVariables false
set_option maxRecDepth 100000
structure RD where
 ok : Bool
 dn : Bool
 n : Nat
 h : Nat
 md : Nat
 pb : Nat
 ev : Nat
 ls : Nat
 T : Nat
 ts : Nat → Nat
 len : Nat → Nat
 out : Nat → Nat → Nat
 vs : List (Nat × Nat × (Int × Int) × Bool)

def RDv (D : RD) (tv ov sv : Value) : Array Value := #[.bool D.ok, .bool D.dn, .int .i64 (D.n : Int), tv, ov, .int .i64 (D.h : Int), .int .i64 (D.md : Int), .int .i64 (D.pb : Int), .int .i64 (D.ev : Int), .int .i64 (D.ls : Int), sv]

def GRp (w : World) (B : Nat) (v : Value) (D : RD) : Prop :=
 ∃ (tv ov sv : Value) (ob : Nat → Nat), v = .agg (RDv D tv ov sv) ∧ w.ownsRow B 3 1 tv D.T ((List.range D.T).map fun t => .int .i64 (D.ts t : Int)) ∧ w.ownsRow B 26 1 ov D.T ((List.range D.T).map fun t => .slice (some ⟨ob t, 0, none⟩) (D.len t) (D.len t)) ∧ OwV w B sv D.vs ∧
   (∀ t, t < D.T → Bf w (ob t) 3 (D.len t) (fun i => .int .i64 (D.out t i : Int)) ∧ B ≤ ob t ∧ tv.ownBlock ≠ some (ob t)) ∧ (∀ t t', t < D.T → t' < D.T → ob t = ob t' → t = t')

structure RDok (D : RD) : Prop where
 T : D.T ≤ 1000
 len : ∀ t, t < D.T → D.len t ≤ 1000
 vs : D.vs.length ≤ 100000

structure RRp (w : World) (D : RD) (ta oa sa : Option Addr) (ob : Nat → Nat) : Prop where
 t : Sl w ta D.T (fun t => .int .i64 (D.ts t : Int))
 o : Sl w oa D.T (fun t => .slice (some ⟨ob t, 0, none⟩) (D.len t) (D.len t))
 oo : ∀ t, t < D.T → Sl w (some ⟨ob t, 0, none⟩) (D.len t) (fun i => .int .i64 (D.out t i : Int))
 s : Sl w sa (D.vs.length * 5) (vf (fun i => D.vs.getD i (0, 0, (0, 0), false)))

theorem RRp.below {w v : World} {D : RD} {ta oa sa : Option Addr} {ob : Nat → Nat} (h : RRp w D ta oa sa ob) (b : Below w.heap.size w v) : RRp v D ta oa sa ob := ⟨h.t.below b, h.o.below b, fun t ht => (h.oo t ht).below b, h.s.below b⟩

theorem own_sl {w : World} {B sz n c : Nat} {t : TypeId} {ao : Option Addr} {xs : List Value} {f : Nat → Value} (h : w.ownsRow B t sz (.slice ao n c) n xs) (hf : ∀ i, i < n * sz → xs[i]? = some (f i)) : Sl w ao (n * sz) f := by
 intro h0
 rcases h.2 with ⟨e, h'⟩ | ⟨g, cap', cur, e, hb, hh, r⟩
 · subst h'; simp at h0
 · injection e with e1 e2 e3
   subst e1; subst e3
   refine ⟨g, 0, rfl, (Array.getElem?_eq_some_iff.1 hh).1, fun i hi => ?_⟩
   rw [Nat.zero_add]
   exact (h.cellAt i hi).trans (hf i hi)

theorem own_bf {w : World} {B sz n c g : Nat} {t : TypeId} {xs : List Value} (h : w.ownsRow B t sz (.slice (some ⟨g, 0, none⟩) n c) n xs) : ∃ f, Bf w g t (c * sz) f ∧ n ≤ c := by
 rcases h.2 with ⟨e, h'⟩ | ⟨g', cap', cur, e, hb, hh, hnc, hcm, hcs, r⟩
 · simp at e
 · injection e with e1 e2 e3
   injection e1 with e1
   injection e1 with e1
   subst e1; subst e3
   exact ⟨fun i => cur.getD i default, ⟨cur, hh, hcs, fun i hi => by simp [Array.getD, hcs, hi]⟩, hnc⟩

theorem VL_vf (vs : List (Nat × Nat × (Int × Int) × Bool)) (i : Nat) (hi : i < vs.length * 5) : (VL vs)[i]? = some (vf (fun j => vs.getD j (0, 0, (0, 0), false)) i) := by
 induction vs generalizing i with
 | nil => simp at hi
 | cons a r ih =>
   by_cases h5 : i < 5
   · have : i = 0 ∨ i = 1 ∨ i = 2 ∨ i = 3 ∨ i = 4 := by omega
     rcases this with rfl | rfl | rfl | rfl | rfl <;> simp [VL, encV, vf]
   · obtain ⟨j, rfl⟩ : ∃ j, i = j + 5 := ⟨i - 5, by omega⟩
     have hj : j < r.length * 5 := by simp at hi; omega
     have e1 : (j + 5) % 5 = j % 5 := by omega
     have e2 : (j + 5) / 5 = j / 5 + 1 := by omega
     have := ih j hj
     have hv : vf (fun j => (a :: r).getD j (0, 0, (0, 0), false)) (j + 5) = vf (fun j => r.getD j (0, 0, (0, 0), false)) j := by
      simp only [vf, e1, e2]; simp
     rw [hv, ← this]
     simp [VL, encV]

theorem GRp.read {w : World} {B : Nat} {v : Value} {D : RD} (h : GRp w B v D) : ∃ ta tc oa oc sa sc ob, v = .agg (RDv D (.slice ta D.T tc) (.slice oa D.T oc) (.slice sa D.vs.length sc)) ∧ RRp w D ta oa sa ob := by
 obtain ⟨tv, ov, sv, ob, rfl, h1, h2, h3, h4, h5⟩ := h
 obtain ⟨ta, tc, rfl⟩ := own_any h1
 obtain ⟨oa, oc, rfl⟩ := own_any h2
 obtain ⟨sa, sc, rfl⟩ := own_any h3
 refine ⟨ta, tc, oa, oc, sa, sc, ob, rfl, ?_, ?_, fun t ht => Sl.of (h4 t ht).1, own_sl h3 (fun i hi => VL_vf _ i hi)⟩
 · have := own_sl (f := fun t => .int .i64 (D.ts t : Int)) h1 (fun i hi => by rw [List.getElem?_map, List.getElem?_range (by omega)]; rfl)
   rw [Nat.mul_one] at this; exact this
 · have := own_sl (f := fun t => .slice (some ⟨ob t, 0, none⟩) (D.len t) (D.len t)) h2 (fun i hi => by rw [List.getElem?_map, List.getElem?_range (by omega)]; rfl)
   rw [Nat.mul_one] at this; exact this

end Go.Proofs.Ytdpbhbpcpnlbkaa
