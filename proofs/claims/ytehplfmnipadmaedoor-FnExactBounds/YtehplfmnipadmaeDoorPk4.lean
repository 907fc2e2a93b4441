import Derived.Test.YtehplfmnipadmaeDoorPk3
namespace Go.Proofs.YtehplfmnipadmaeDoor
open Go.RowKit
set_option linter.unusedVariables false
set_option maxRecDepth 100000

theorem jn_lt (F : M.Fm) (n : Bool) (fld : Int) (sg : Nat) : jn F n fld sg < 2 ^ 128 := by
  unfold jn; split
  · exact Nat.mod_lt _ (by omega)
  · exact Nat.mod_lt _ (by omega)
theorem pki_lt (F : M.Fm) (c : Int) (n : Bool) (s : Nat) (q : Int) : pki F c n s q < 2 ^ 128 := by
  unfold pki
  repeat' split
  all_goals exact jn_lt _ _ _ _

theorem dpack (F : M.Fm) (h : F.Ok) (c : Int) (n : Bool) (s : Nat) (q : Int) (hs : s < 2 ^ 128) (w : World) :
    Calls Tryd.prog 81 #[.agg #[.int .i64 (F.p : Int), .int .i64 (1 - (F.emax : Int)), .int .i64 (F.emax : Int), .int .i64 (F.wd : Int), .int .i64 (F.e : Int), .bool F.x], .agg #[.int .i64 c, .bool n, .int .u64 (M.hiN s : Int), .int .u64 (M.loN s : Int), .int .i64 q]] w fun e w' => e = .returned (.agg #[.int .u64 (M.hiN (pki F c n s q) : Int), .int .u64 (M.loN (pki F c n s q) : Int)]) ∧ Below w.heap.size w w' := by
  unfold pki
  by_cases h2 : c = 2
  · rw [if_pos h2, h2]; exact dpack2 F h n s q hs w
  · rw [if_neg h2]
    by_cases h3 : c = 3
    · rw [if_pos h3, h3]; exact dpack3 F h n s q hs w
    · rw [if_neg h3]
      by_cases h4 : c = 4
      · rw [if_pos h4, h4]; exact dpack4 F h n s q hs w
      · rw [if_neg h4]
        by_cases h5 : c = 5
        · rw [if_pos h5, h5]; exact dpack5 F h n s q hs w
        · rw [if_neg h5]; exact dpack0 F h c n s q hs w h2 h3 h4 h5


/-- The variables of Pack: the parts, the result, the description. -/
structure Qv (w v : World) (c : Int) (n : Bool) (s : Nat) (q : Int) : Prop where
  b : Below w.heap.size w v
  p : v.cell? ⟨w.heap.size, 0, none⟩ = some (.int .i64 c) ∧ v.cell? ⟨w.heap.size, 1, none⟩ = some (.bool n) ∧ v.cell? ⟨w.heap.size, 2, none⟩ = some (.int .u64 (M.hiN s : Int)) ∧ v.cell? ⟨w.heap.size, 3, none⟩ = some (.int .u64 (M.loN s : Int)) ∧ v.cell? ⟨w.heap.size, 4, none⟩ = some (.int .i64 q)
  r : W2 v (w.heap.size + 1) 0

theorem Qv.below {w v v' : World} {c : Int} {n : Bool} {s : Nat} {q : Int} (h : Qv w v c n s q) (hb : Below v.heap.size v v') : Qv w v' c n s q := by
  have hl : w.heap.size < v.heap.size := Nat.lt_trans (Nat.lt_succ_self _) h.r.2.2.2.2
  obtain ⟨d0, d1, d2, d3, d4⟩ := h.p
  exact ⟨h.b.trans (hb.mono h.b.size), ⟨(hb.cell hl).trans d0, (hb.cell hl).trans d1, (hb.cell hl).trans d2, (hb.cell hl).trans d3, (hb.cell hl).trans d4⟩, h.r.below hb⟩

end Go.Proofs.YtehplfmnipadmaeDoor
