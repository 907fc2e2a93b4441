import Derived.Test.YtodgblbaclionaaGreatDoorrBX
namespace Go.Proofs.YtodgblbaclionaaGreatDoor

open Go.RowKit

set_option linter.unusedVariables false
set_option maxRecDepth 100000

/-- 'copy' into the head of an array of the call's own. -/
theorem copy_arr (dT sT t : TypeId) (hu : Tryz.prog.underlying dT = some (.slice 23)) (w1 : World) (g dn dc : Nat) (zs : List Value) (hg : w1.heap[g]? = some (.cells zs.toArray t (0, 0)))
    (ao : Option Addr) (ys : List Nat) (sn sc : Nat) (hy : ys.length = sn) (hr : Rd w1 ao ys) (h1 : sn ≤ dn) (h2 : sn ≤ zs.length) :
    ∃ w2, (Builtin.copy_ #[dT, sT] 3 #[.slice (some ⟨g, 0, none⟩) dn dc, .slice ao sn sc]).run Tryz.prog w1 = .ok (.int .i64 (sn : Int)) w2 ∧
      w2.heap[g]? = some (.cells (U ys ++ zs.drop sn).toArray t (0, 0)) ∧ w1.grownBy w2 (some g) := by
  have hs : (Tryz.prog.info? 23).map (·.size) = some 1 := by
    obtain ⟨i0, hi, hz0, hz1, hz2⟩ := info_parts Tryz.infoU
    rw [hi]; simp [hz1]
  by_cases h0 : sn = 0
  · subst h0
    have : ys = [] := List.eq_nil_of_length_eq_zero hy
    subst this
    refine ⟨w1, run_copy_none w1 dT sT 3 23 _ ao dn dc 0 sc hu hs (by simp), ?_, World.grownBy.refl _ _⟩
    simpa [U] using hg
  · obtain ⟨b, off, rfl, hc⟩ := hr (by omega)
    have hl : (U ys).length = sn := by rw [U_length, hy]
    have e := run_copy_row (P := Tryz.prog) w1 dT sT 3 23 g 0 dn dc ⟨b, off, none⟩ sn sc zs.toArray t (U ys) hu hs hg (by rw [hl]; show sn = min sn dn; omega) (Rd.cellAdd (ao := none) hc) (by simp [hl]; omega) (U_one ys)
    rw [hl] at e
    refine ⟨_, e, ?_, ?_⟩
    · rw [setRow_heap w1 g _ _ _ _ hg]; simp
    · exact ⟨rfl, rfl, rfl, by simp, fun k _ hk => setRow_other w1 g k _ (fun e => hk (by simp [e]))⟩

theorem L_get2 (a k : Nat) : (L a).getD k 0 = a / 18446744073709551616 ^ k % 18446744073709551616 := M.dig_get (by omega) k a

/-- Two limbs laid over zeros. -/
theorem lay2 (a : Nat) (h : (L a).length ≤ 2) (ha : a < 2 ^ 128) : U (L a) ++ (U [0, 0]).drop (L a).length = U [M.loN a, M.hiN a] := by
  have e2 : L a ++ [0, 0].drop (L a).length = [M.loN a, M.hiN a] := by
    have h0 := L_get2 a 0
    have h1 := L_get2 a 1
    have hh := M.hiLt ha
    have hlo : M.loN a = a % 18446744073709551616 := rfl
    have hhi : M.hiN a = a / 18446744073709551616 := rfl
    match hL : L a, h with
    | [], _ =>
      rw [hL] at h0 h1
      simp at h0 h1 ⊢
      exact ⟨by omega, by omega⟩
    | [x], _ =>
      rw [hL] at h0 h1
      simp at h0 h1 ⊢
      exact ⟨by omega, by omega⟩
    | [x, y], _ =>
      rw [hL] at h0 h1
      simp at h0 h1 ⊢
      exact ⟨by omega, by omega⟩
  rw [← e2, U_append]
  simp [U]

theorem cell_arr {w : World} {g x y : Nat} {t : TypeId} (h : w.heap[g]? = some (.cells (U [x, y]).toArray t (0, 0))) : w.cell? ⟨g, 0, none⟩ = some (.int .u64 (x : Int)) ∧ w.cell? ⟨g, 1, none⟩ = some (.int .u64 (y : Int)) := by
  simp [World.cell?, h, U]

set_option maxHeartbeats 1000000 in
theorem wordOf_any (ao : Option Addr) (n c a : Nat) (w : World) (hl : (L a).length = n) (ha : a < 2 ^ 128) (hr : Rd w ao (L a)) :
    Calls Tryz.prog 106 #[.slice ao n c] w fun e w' => e = .returned (.agg #[.int .u64 (M.hiN a : Int), .int .u64 (M.loN a : Int)]) ∧ Below w.heap.size w w' := by
  have hn : n ≤ 2 := by rw [← hl]; exact M.len_of_lt (by omega) a 2 (by omega)
  have b0 : Below w.heap.size w ((w.alloc (.cells #[.int .u64 0, .int .u64 0] 25)).alloc (.cells #[.int .u64 0, .int .u64 0] 154)) := ((Below.refl _ _).alloc (Nat.le_refl _) _).alloc (by simp) _
  have HG : ((w.alloc (.cells #[.int .u64 0, .int .u64 0] 25)).alloc (.cells #[.int .u64 0, .int .u64 0] 154)).heap[w.heap.size + 1]? = some (.cells (U [0, 0]).toArray 154 (0, 0)) := by
    have := heap_alloc_new (w.alloc (.cells #[.int .u64 0, .int .u64 0] 25)) (.cells #[.int .u64 0, .int .u64 0] 154)
    simpa [U] using this
  obtain ⟨w2, hcp, hg2, hgr2⟩ := copy_arr 51 82 154 Tryz.underlying51 _ (w.heap.size + 1) 2 2 (U [0, 0]) HG ao (L a) n c hl (hr.below b0) hn (by simp [U]; exact hn)
  rw [← hl, lay2 a (by omega) ha] at hg2
  obtain ⟨q0, q1⟩ := cell_arr hg2
  obtain ⟨t0, t1, t2, t3⟩ := two_new w 25 (.int .u64 0) (.int .u64 0)
  have ba : Below (w.alloc (.cells #[.int .u64 0, .int .u64 0] 25)).heap.size (w.alloc (.cells #[.int .u64 0, .int .u64 0] 25)) w2 := ((Below.refl _ _).alloc (Nat.le_refl _) _).grown hgr2 (by simp) (fun k hk => by cases hk; simp)
  have bb : Below w.heap.size w w2 := ((Below.refl w.heap.size w).alloc (Nat.le_refl _) _).trans (ba.mono (by simp))
  have r0 := (ba.cell (p := ⟨w.heap.size, 0, none⟩) (by simp)).trans t0
  have r1 := (ba.cell (p := ⟨w.heap.size, 1, none⟩) (by simp)).trans t1
  have z0 := (ba.frozen (p := ⟨w.heap.size, 0, none⟩) (by simp)).trans t2
  have z1 := (ba.frozen (p := ⟨w.heap.size, 1, none⟩) (by simp)).trans t3
  clear t0 t1 t2 t3 ba HG hgr2 hg2 hl
  go_enter Tryz.func106, Tryz.ntmps106
  go_wp2_with fail
  exact bodyPost_ret (v := .agg #[.int .u64 (M.hiN a : Int), .int .u64 (M.loN a : Int)]) (by simp [results, Tryz.results106, go_sem, r0, r1]) rfl ⟨rfl, (bb.setCell (p := ⟨w.heap.size, 0, none⟩) (Nat.le_refl _) _).setCell (p := ⟨w.heap.size, 1, none⟩) (Nat.le_refl _) _⟩

end Go.Proofs.YtodgblbaclionaaGreatDoor

namespace Go.Proofs.YtodgblbaclionaaGreatDoor

open Go.RowKit

set_option linter.unusedVariables false
set_option maxRecDepth 100000

theorem and_one (z : Int) (h0 : 0 ≤ z) (h1 : z < 18446744073709551616) : bits .and .u64 z 1 = z % 2 := by go_bits2

set_option maxRecDepth 100000 in
set_option maxHeartbeats 1000000 in
theorem even_any (X : Nat) (w : World) :
    Calls Tryz.prog 108 #[.agg #[.int .u64 (M.hiN X : Int), .int .u64 (M.loN X : Int)]] w fun e w' => e = .returned (.bool (decide (X % 2 = 0))) ∧ Below w.heap.size w w' := by
  go_enter Tryz.func108, Tryz.ntmps108
  have hb : (bits BinOp.and IntKind.u64 (M.loN X : Int) 1 == 0) = decide (X % 2 = 0) := by
    have e : bits BinOp.and IntKind.u64 (M.loN X : Int) 1 = ((M.loN X % 2 : Nat) : Int) := by
      have := M.loLt X
      rw [and_one _ (by omega) (by omega)]; omega
    rw [e]
    have : M.loN X % 2 = X % 2 := by unfold M.loN; omega
    rw [this]
    by_cases h : X % 2 = 0
    · simp [h]
    · have h2 : X % 2 = 1 := by omega
      simp [h2]
  go_wp2_with fail
  go_ret
  exact ⟨by rw [← hb]; rfl, (Below.refl _ _).alloc (Nat.le_refl _) _⟩

end Go.Proofs.YtodgblbaclionaaGreatDoor

