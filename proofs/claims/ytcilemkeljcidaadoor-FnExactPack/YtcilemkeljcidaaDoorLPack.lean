import Derived.Test.YtcilemkeljcidaaDoorPkB
import Derived.Test.YtcilemkeljcidaaDoorPk6
import Derived.Test.YtcilemkeljcidaaDoorLPk0
import Derived.Test.YtcilemkeljcidaaDoorIU
namespace Go.Proofs.YtcilemkeljcidaaDoor
open Go.RowKit
set_option linter.unusedVariables false
set_option maxRecDepth 100000

theorem pki_zero {F : M.Fm} (h : F.Ok) (n : Bool) (s : Nat) (q : Int) : F.upk (pki F 0 n s q) = ⟨1, n, 0, 0⟩ := by
  have ht := h.top2
  have lp := h.leadPos
  have a2 : F.lead ≤ 0 ↔ 0 < 0 := by omega
  have hl := (h.fields n 0 0 (by omega) (by omega) a2).2.2.2
  have e : pki F 0 n s q = F.word n 0 0 := by
    have : pki F 0 n s q = jn F n ((0 : Nat) : Int) 0 := by simp [pki]
    rw [this]
    exact jn_word h n (by omega) (by omega) (fun hh => by omega) (Nat.lt_of_lt_of_le hl h.width.2.2)
  rw [e, h.upk_word n 0 0 (by omega) (by omega) a2]
  have : ¬ 0 = F.top := by omega
  simp [this]

theorem ipack_any (f : Nat) (hf : f < 4) (c : Int) (n : Bool) (s : Nat) (hs : s < 2 ^ 128) (q : Int) (w : World) (hm : Fmt w) :
    Calls Tryd.prog 19 #[.int .i64 (f : Int), .agg #[.int .i64 c, .bool n, .int .u64 (M.hiN s : Int), .int .u64 (M.loN s : Int), .int .i64 q]] w fun e w' => e = .returned (.tuple #[.agg #[.int .u64 (M.hiN (ansN (M.fm f) ⟨c, n, s, q⟩) : Int), .int .u64 (M.loN (ansN (M.fm f) ⟨c, n, s, q⟩) : Int)], .bool (decide ((M.fm f).Proper ⟨c, n, s, q⟩))]) ∧ Below w.heap.size w w' := by
  have kE := fun (v : World) (hv : Fmt v) => describe_ok f hf v hv
  have h := M.fm_ok f
  generalize M.fm f = F at *
  have kK := fun v : World => dKnown F h v
  have kP := fun v : World => dpack F h c n s q hs v
  have kU := fun v : World => unpack_any F h (pki F c n s q) (pki_lt F c n s q) v
  simp only [dv, pv] at kE kK kP kU
  refine ipack_key (f : Int) c n s q (F.upk (pki F c n s q)) (pki F c n s q) _ _ _ _ _ _ w hm kE kK kP kU _ _ ?_ ?_
  · intro e
    have e' := pt_eq.1 e
    by_cases hc : c = 0
    · subst hc
      rw [pki_zero h] at e'
      have := congrArg M.Pt.c e'
      simp at this
    · exact (pk_ans h ⟨c, n, s, q⟩ (pki F c n s q) hc (fun hp => (pki_pk h _ hp).symm)).1 e'
  · intro e
    have e' : ¬ F.upk (pki F c n s q) = ⟨c, n, s, q⟩ := fun e' => e (pt_eq.2 e')
    by_cases hc : c = 0
    · subst hc
      have hn : ¬ F.Proper ⟨0, n, s, q⟩ := notProper0 (by omega) (by omega) (by omega) (by omega) (by omega)
      exact ⟨if_neg hn, decide_eq_false hn⟩
    · exact (pk_ans h ⟨c, n, s, q⟩ (pki F c n s q) hc (fun hp => (pki_pk h _ hp).symm)).2 e'

set_option maxHeartbeats 1000000 in
theorem spack_no (f : Int) (hf : f < 0 ∨ 4 ≤ f) (c : Int) (n : Bool) (a b q : Int) (w : World) :
    Calls Tryd.prog 17 #[.int .i64 f, .agg #[.int .i64 c, .bool n, .int .u64 a, .int .u64 b, .int .i64 q]] w fun e w' => e = .returned (.tuple #[.agg #[.int .u64 0, .int .u64 0], .bool false]) ∧ Below w.heap.size w w' := by
  have b0 := ((Below.refl w.heap.size w).alloc (Nat.le_refl _) (.cells #[.int .i64 c, .bool n, .int .u64 a, .int .u64 b, .int .i64 q] 32)).alloc (by simp) (.cells #[.int .u64 0, .int .u64 0] 30)
  go_enter Tryd.func17, Tryd.ntmps17
  go_wp2_with fail
  refine (sdescribeNo f _ hf).mono ?_
  rintro e v1 ⟨rfl, hb⟩
  have r0 : v1.cell? ⟨w.heap.size + 1, 0, none⟩ = some (.int .u64 0) := (hb.cell (by simp)).trans (by simp [go_sem])
  have r1 : v1.cell? ⟨w.heap.size + 1, 1, none⟩ = some (.int .u64 0) := (hb.cell (by simp)).trans (by simp [go_sem])
  have z0 : v1.frozen? ⟨w.heap.size + 1, 0, none⟩ = false := (hb.frozen (by simp)).trans (by simp [go_sem])
  have z1 : v1.frozen? ⟨w.heap.size + 1, 1, none⟩ = false := (hb.frozen (by simp)).trans (by simp [go_sem])
  have l0 : w.heap.size + 1 < v1.heap.size := by have := hb.size; simp at this; omega
  have l1 : w.heap.size + 1 ≠ v1.heap.size := by omega
  replace b0 := b0.trans (hb.mono b0.size)
  clear hb
  go_upto_region 2 with fail
  have bd : Below v1.heap.size v1 (v1.alloc (.cells #[.int .i64 0, .int .i64 0, .int .i64 0, .int .i64 0, .int .i64 0, .bool false] 23)) := (Below.refl _ _).alloc (Nat.le_refl _) _
  have d0 : (v1.alloc (.cells #[.int .i64 0, .int .i64 0, .int .i64 0, .int .i64 0, .int .i64 0, .bool false] 23)).cell? ⟨v1.heap.size, 0, none⟩ = some (.int .i64 0) := by simp [go_sem]
  replace r0 := (bd.cell (p := ⟨w.heap.size + 1, 0, none⟩) l0).trans r0
  replace r1 := (bd.cell (p := ⟨w.heap.size + 1, 1, none⟩) l0).trans r1
  replace z0 := (bd.frozen (p := ⟨w.heap.size + 1, 0, none⟩) l0).trans z0
  replace z1 := (bd.frozen (p := ⟨w.heap.size + 1, 1, none⟩) l0).trans z1
  replace b0 := b0.trans (bd.mono b0.size)
  clear bd l0 l1
  generalize (v1.alloc (.cells #[.int .i64 0, .int .i64 0, .int .i64 0, .int .i64 0, .int .i64 0, .bool false] 23)) = v2 at *
  generalize v1.heap.size = gd at *
  have bb := (b0.setCell (p := ⟨w.heap.size + 1, 0, none⟩) (by simp only; omega) (.int .u64 0)).setCell (p := ⟨w.heap.size + 1, 1, none⟩) (by simp only; omega) (.int .u64 0)
  have HB := hid bb
  clear bb
  go_wp2_with fail
  exact bodyPost_ret (v := .tuple #[.agg #[.int .u64 0, .int .u64 0], .bool false]) (by simp [results, Tryd.results17, go_sem, r0, r1]) rfl ⟨rfl, HB.out⟩

set_option maxHeartbeats 1000000 in
theorem ipack_no (f : Int) (hf : f < 0 ∨ 4 ≤ f) (c : Int) (n : Bool) (a b q : Int) (w : World) :
    Calls Tryd.prog 19 #[.int .i64 f, .agg #[.int .i64 c, .bool n, .int .u64 a, .int .u64 b, .int .i64 q]] w fun e w' => e = .returned (.tuple #[.agg #[.int .u64 0, .int .u64 0], .bool false]) ∧ Below w.heap.size w w' := by
  have b0 := ((Below.refl w.heap.size w).alloc (Nat.le_refl _) (.cells #[.int .i64 c, .bool n, .int .u64 a, .int .u64 b, .int .i64 q] 32)).alloc (by simp) (.cells #[.int .u64 0, .int .u64 0] 30)
  go_enter Tryd.func19, Tryd.ntmps19
  go_wp2_with fail
  refine (describeNo f _ hf).mono ?_
  rintro e v1 ⟨rfl, hb⟩
  have r0 : v1.cell? ⟨w.heap.size + 1, 0, none⟩ = some (.int .u64 0) := (hb.cell (by simp)).trans (by simp [go_sem])
  have r1 : v1.cell? ⟨w.heap.size + 1, 1, none⟩ = some (.int .u64 0) := (hb.cell (by simp)).trans (by simp [go_sem])
  have z0 : v1.frozen? ⟨w.heap.size + 1, 0, none⟩ = false := (hb.frozen (by simp)).trans (by simp [go_sem])
  have z1 : v1.frozen? ⟨w.heap.size + 1, 1, none⟩ = false := (hb.frozen (by simp)).trans (by simp [go_sem])
  have l0 : w.heap.size + 1 < v1.heap.size := by have := hb.size; simp at this; omega
  replace b0 := b0.trans (hb.mono b0.size)
  clear hb
  go_wp2_with fail
  refine (dKnown0 _).mono ?_
  rintro e v2 ⟨rfl, hb2⟩
  have hb : Below v1.heap.size v1 v2 := ((Below.refl v1.heap.size v1).alloc (Nat.le_refl _) (.cells #[.int .i64 0, .int .i64 0, .int .i64 0, .int .i64 0, .int .i64 0, .bool false] 23)).trans (hb2.mono (by simp))
  replace r0 := (hb.cell (p := ⟨w.heap.size + 1, 0, none⟩) l0).trans r0
  replace r1 := (hb.cell (p := ⟨w.heap.size + 1, 1, none⟩) l0).trans r1
  replace z0 := (hb.frozen (p := ⟨w.heap.size + 1, 0, none⟩) l0).trans z0
  replace z1 := (hb.frozen (p := ⟨w.heap.size + 1, 1, none⟩) l0).trans z1
  replace b0 := b0.trans (hb.mono b0.size)
  clear hb hb2 l0
  have bb := (b0.setCell (p := ⟨w.heap.size + 1, 0, none⟩) (by simp only; omega) (.int .u64 0)).setCell (p := ⟨w.heap.size + 1, 1, none⟩) (by simp only; omega) (.int .u64 0)
  have HB := hid bb
  clear bb
  go_wp2_with fail
  exact bodyPost_ret (v := .tuple #[.agg #[.int .u64 0, .int .u64 0], .bool false]) (by simp [results, Tryd.results19, go_sem, r0, r1]) rfl ⟨rfl, HB.out⟩

theorem lawPack (f c : Int) (n : Bool) (a b q : Int) (w : World) (wf0 : (Lit.int .i64 f).wf = true) (wc : (Lit.int .i64 c).wf = true) (wa : (Lit.int .u64 a).wf = true) (wb : (Lit.int .u64 b).wf = true) (wq : (Lit.int .i64 q).wf = true) (h : Fmt w) :
    Calls Tryd.prog 6 #[.int .i64 f, .agg #[.int .i64 c, .bool n, .int .u64 a, .int .u64 b, .int .i64 q]] w fun e w' => e = .returned (.bool true) ∧ Below w.heap.size w w' := by
  by_cases hf : 0 ≤ f ∧ f < 4
  · obtain ⟨k, rfl⟩ : ∃ k : Nat, f = (k : Int) := ⟨f.toNat, by omega⟩
    have ha := bounds_u64 wa
    have hb := bounds_u64 wb
    have hq := bounds_i64 wq
    obtain ⟨x, rfl⟩ : ∃ x : Nat, a = (x : Int) := ⟨a.toNat, by omega⟩
    obtain ⟨y, rfl⟩ : ∃ y : Nat, b = (y : Int) := ⟨b.toNat, by omega⟩
    obtain ⟨s, hs, e1, e2⟩ : ∃ s : Nat, s < 2 ^ 128 ∧ (x : Int) = (M.hiN s : Int) ∧ (y : Int) = (M.loN s : Int) := ⟨x * 18446744073709551616 + y, by omega, by rw [M.hiOf x y (by omega)], by rw [M.loOf x y (by omega)]⟩
    rw [e1, e2]
    exact lawPackKey _ _ _ _ _ _ _ _ _ w h (fun v => toParts_any _ _ _ _ _ v) (fun v => spack_any k (by omega) c n s hs q (by omega) (by omega) v) (fun v hv => ipack_any k (by omega) c n s hs q v hv)
  · have hn : f < 0 ∨ 4 ≤ f := by omega
    exact lawPackKey _ _ _ _ _ _ _ _ _ w h (fun v => toParts_any _ _ _ _ _ v) (fun v => spack_no f hn _ _ _ _ _ v) (fun v hv => ipack_no f hn _ _ _ _ _ v)

end Go.Proofs.YtcilemkeljcidaaDoor
