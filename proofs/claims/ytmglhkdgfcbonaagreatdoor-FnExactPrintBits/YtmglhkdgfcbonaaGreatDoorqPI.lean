import Derived.Lib.SlBytesConst
import Derived.Test.YtmglhkdgfcbonaaGreatDoorqLS
import Derived.Test.YtmglhkdgfcbonaaGreatDoorqPA
namespace Go.Proofs.YtmglhkdgfcbonaaGreatDoor

open Go.RowKit

set_option linter.unusedVariables false
set_option maxRecDepth 100000

theorem pr_end {w v2 v5 : World} {n rc : Nat} {ra : Option Addr} {xs : List Nat} (T : Tx v2.heap.size v2 v5 ra n rc xs) (h : ∀ x ∈ xs, x < 256) (b0 : Below w.heap.size w v2) (hlt : w.heap.size + 1 < v2.heap.size) (k : Int) :
    PrO w ((v5.setCell ⟨w.heap.size + 1, 0, none⟩ (.slice ra n rc)).setCell ⟨w.heap.size + 1, 1, none⟩ (.int .i64 k)) (.returned (.agg #[.slice ra n rc, .int .i64 k])) xs k := by
  obtain ⟨h1, h2, h3, h4⟩ := T
  subst h1
  have o1 := OwnV.of_own h2 h
  have o2 := ((o1.far ⟨w.heap.size + 1, 0, none⟩ hlt (.slice ra xs.length rc)).far ⟨w.heap.size + 1, 1, none⟩ hlt (.int .i64 k)).low b0.size
  exact ⟨ra, rc, rfl, OwnF.of o2, (((b0.trans (h3.mono b0.size)).setCell (p := ⟨w.heap.size + 1, 0, none⟩) (Nat.le_succ _) _).setCell (p := ⟨w.heap.size + 1, 1, none⟩) (Nat.le_succ _) _)⟩

theorem pr_nan {w v : World} (b0 : Below w.heap.size w v) (hlt : w.heap.size + 1 < v.heap.size) (x y : Value) :
    PrO w (((v.setCell ⟨w.heap.size + 1, 0, none⟩ x).setCell ⟨w.heap.size + 1, 1, none⟩ y).alloc (.cells #[.int .u8 78, .int .u8 97, .int .u8 78] 5 (3, 4))) (.returned (.agg #[.slice (some ⟨v.heap.size, 0, none⟩) 3 3, .int .i64 0])) [78, 97, 78] 0 := by
  have b1 := (b0.setCell (p := ⟨w.heap.size + 1, 0, none⟩) (Nat.le_succ _) x).setCell (p := ⟨w.heap.size + 1, 1, none⟩) (Nat.le_succ _) y
  have hs : ((v.setCell ⟨w.heap.size + 1, 0, none⟩ x).setCell ⟨w.heap.size + 1, 1, none⟩ y).heap.size = v.heap.size := by simp
  refine ⟨some ⟨v.heap.size, 0, none⟩, 3, rfl, ⟨_, _, rfl, fun _ => ⟨v.heap.size, 0, #[.int .u8 78, .int .u8 97, .int .u8 78], (3, 4), rfl, b0.size, ?_, fun i hi => .inr (by simp at hi ⊢; omega), fun i hi => ?_⟩⟩, b1.alloc b1.size _⟩
  · rw [← hs]
    exact heap_alloc_new _ _
  · match i, hi with
    | 0, _ => rfl
    | 1, _ => rfl
    | 2, _ => rfl

set_option maxHeartbeats 16000000 in
theorem iprint_no (f a b : Int) (w : World) (hm : Fmt w) (k : Int) (hk : k ≠ 0)
    (kS : ∀ v : World, Fmt v → Calls Tryz.prog 8 #[.int .i64 f, .agg #[.int .u64 a, .int .u64 b]] v fun e w' => ShO v w' e [] 0 false k) :
    Calls Tryz.prog 13 #[.int .i64 f, .agg #[.int .u64 a, .int .u64 b]] w fun e w' => PrO w w' e [] k := by
  obtain ⟨cw, cr, b0⟩ := Cls.new2 w #[.int .u64 a, .int .u64 b] #[.slice none 0 0, .int .i64 0] 29 35
  have x0 := cw.cell 0 rfl
  have x1 := cw.cell 1 rfl
  go_enter Tryz.func13, Tryz.ntmps13
  go_wp2_with fail
  refine (kS _ (hm.below b0)).mono ?_
  rintro e v1 ⟨sa, sc, rfl, oS, hb⟩
  replace cw := cw.below hb
  replace cr := cr.below hb
  replace b0 := b0.trans (hb.mono b0.size)
  clear hb x0 x1
  go_upto_region 2 with fail
  have bA := (Below.refl v1.heap.size v1).alloc (Nat.le_refl _) (.cells #[.slice sa 0 sc, .int .i64 0, .bool false, .int .i64 k] 27)
  have cs := Cls.new v1 #[.slice sa 0 sc, .int .i64 0, .bool false, .int .i64 k] 27
  replace cw := cw.below bA
  replace cr := cr.below bA
  replace oS := oS.below bA
  replace b0 := b0.trans (bA.mono b0.size)
  clear bA
  generalize v1.alloc (.cells #[.slice sa 0 sc, .int .i64 0, .bool false, .int .i64 k] 27) = v2 at *
  obtain ⟨gs, hgs⟩ : ∃ gs, gs = v1.heap.size := ⟨_, rfl⟩
  rw [← hgs] at cs ⊢
  clear hgs
  have p3 := cs.cell 3 rfl
  have lr : w.heap.size + 1 < v2.heap.size := cr.lt
  have r0 := cr.cell 0 rfl
  have r1 := cr.cell 1 rfl
  have z0 := cr.frozen 0
  have z1 := cr.frozen 1
  have hk' : (k != 0) = true := by simpa using hk
  go_wp2_with fail
  refine bodyPost_ret (v := .agg #[.slice none 0 0, .int .i64 k]) (by simp [results, Tryz.results13, go_sem, r0, r1]) rfl ?_
  exact (pr_end (Tx.nil v2) (by simp) b0 lr k)

set_option maxHeartbeats 16000000 in
theorem iprint (f a b tc : Int) (tn : Bool) (th tl tq : Int) (ds : List Nat) (x : Int) (ng : Bool) (bs : List Nat) (w : World) (hm : Fmt w) (ht : Pw w.heap.size w)
    (hcase : (tc = 5 ∧ bs = [78, 97, 78]) ∨ tc ≠ 5 ∧ ((tc = 4 ∧ bs = M.sgl ng ++ [105, 110, 102]) ∨ (tc = 1 ∧ bs = M.sgl ng ++ [48]) ∨ (tc ≠ 1 ∧ tc ≠ 4 ∧ (1 ≤ ds.length ∧ ds.length ≤ 10000) ∧ ∃ p, (ds.length : Int) + x = p ∧ (-9000 < p ∧ p < 9000) ∧ bs = M.sgl ng ++ M.pt ds p)))
    (kS : ∀ v : World, Fmt v → Calls Tryz.prog 8 #[.int .i64 f, .agg #[.int .u64 a, .int .u64 b]] v fun e w' => ShO v w' e ds x ng 0)
    (kU : ∀ v : World, Fmt v → Calls Tryz.prog 54 #[.int .i64 f, .agg #[.int .u64 a, .int .u64 b]] v fun e w' => e = .returned (.agg #[.int .i64 tc, .bool tn, .int .u64 th, .int .u64 tl, .int .i64 tq]) ∧ Below v.heap.size v w') :
    Calls Tryz.prog 13 #[.int .i64 f, .agg #[.int .u64 a, .int .u64 b]] w fun e w' => PrO w w' e bs 0 := by
  have HC := hid hcase; clear hcase
  have fc := fld_cls
  have HT := hid ht; clear ht
  obtain ⟨cw, cr, b0⟩ := Cls.new2 w #[.int .u64 a, .int .u64 b] #[.slice none 0 0, .int .i64 0] 29 35
  have x0 := cw.cell 0 rfl
  have x1 := cw.cell 1 rfl
  go_enter Tryz.func13, Tryz.ntmps13
  go_wp2_with fail
  refine (kS _ (hm.below b0)).mono ?_
  rintro e v1 ⟨sa, sc, rfl, oS, hb⟩
  replace cw := cw.below hb
  replace cr := cr.below hb
  replace b0 := b0.trans (hb.mono b0.size)
  clear hb x0 x1
  go_upto_region 2 with fail
  have bA := (Below.refl v1.heap.size v1).alloc (Nat.le_refl _) (.cells #[.slice sa ds.length sc, .int .i64 x, .bool ng, .int .i64 0] 27)
  have cs := Cls.new v1 #[.slice sa ds.length sc, .int .i64 x, .bool ng, .int .i64 0] 27
  replace cw := cw.below bA
  replace cr := cr.below bA
  replace oS := oS.below bA
  replace b0 := b0.trans (bA.mono b0.size)
  clear bA
  generalize v1.alloc (.cells #[.slice sa ds.length sc, .int .i64 x, .bool ng, .int .i64 0] 27) = v2 at *
  obtain ⟨gs, hgs⟩ : ∃ gs, gs = v1.heap.size := ⟨_, rfl⟩
  rw [← hgs] at cs ⊢
  clear hgs
  have lr : w.heap.size + 1 < v2.heap.size := cr.lt
  have p2 := cs.cell 2 rfl
  have p3 := cs.cell 3 rfl
  go_upto_if 17 with fail
  go_cut [6] (fun z wx => ∃ ra n1 rc, z = .slice ra n1 rc ∧ n1 ≤ 1 ∧ Tx v2.heap.size v2 wx ra n1 rc (M.sgl ng))
  case first =>
    cases ng
    · go_wp2_with fail
      go_meet
      case rel => exact ⟨none, 0, 0, rfl, by omega, Tx.nil v2⟩
    · go_wp2_with (at_builtin; refine (Tx.nil v2).one 45 45 rfl (by omega) rfl _ _ rfl rfl rfl (by omega) ?_)
      intro ra rc v3 T3
      go_wp2_with fail
      go_meet
      case rel => exact ⟨ra, 1, rc, rfl, by omega, T3⟩
  case rest =>
  obtain ⟨ra, n1, rc, rfl, hn1, T3⟩ := hcut
  have b3 := T3.2.2.1
  have cw3 := cw.below b3
  have x0 := cw3.cell 0 rfl
  have x1 := cw3.cell 1 rfl
  go_wp2_with fail
  refine (kU _ ((hm.below b0).below b3)).mono ?_
  rintro e v4 ⟨rfl, hb⟩
  have T4 := T3.below hb
  have b4 := T4.2.2.1
  have cr4 := cr.below b4
  have cs4 := cs.below b4
  clear hb x0 x1 cw3 p2 p3
  have p0 := cs4.cell 0 rfl
  have p1 := cs4.cell 1 rfl
  rcases HC.out with ⟨rfl, rfl⟩ | ⟨t5, ⟨rfl, rfl⟩ | ⟨rfl, rfl⟩ | ⟨t1, t4, ⟨l1, l2⟩, p, ep, hp, rfl⟩⟩
  · have l4 : w.heap.size + 1 < v4.heap.size := cr4.lt
    have r0 := cr4.cell 0 rfl
    have r1 := cr4.cell 1 rfl
    have z0 := cr4.frozen 0
    have z1 := cr4.frozen 1
    have kc := Lib.run_convert_bytes_const (P := Tryz.prog) v4 25 5 #[.int .u8 78, .int .u8 97, .int .u8 78] 3 3 Tryz.underlying25 Tryz.underlying5
    have r0' := Lib.cell?_alloc_marked (.cells #[.int .u8 78, .int .u8 97, .int .u8 78] 5 (3, 4)) r0
    have r1' := Lib.cell?_alloc_marked (.cells #[.int .u8 78, .int .u8 97, .int .u8 78] 5 (3, 4)) r1
    go_wp2_with fail
    have RB := ((cr4.set 0 (.slice (some ⟨v4.heap.size, 0, none⟩) 3 3) _ rfl).set 1 (.int .i64 0) _ rfl).below ((Below.refl _ _).alloc (Nat.le_refl _) (.cells #[.int .u8 78, .int .u8 97, .int .u8 78] 5 (3, 4)))
    have q0 := RB.cell 0 (x := .slice (some ⟨v4.heap.size, 0, none⟩) 3 3) rfl
    have q1 := RB.cell 1 (x := .int .i64 0) rfl
    refine bodyPost_ret (v := .agg #[.slice (some ⟨v4.heap.size, 0, none⟩) 3 3, .int .i64 0]) (by simp [results, Tryz.results13, go_sem, q0, q1]) rfl ?_
    exact (pr_nan (b0.trans (b4.mono b0.size)) l4 _ _)
  · have e45 : ((4 : Int) == 5) = false := by decide
    go_wp2_with (at_builtin; refine T4.str rfl _ _ rfl rfl _ 3 [105, 110, 102] rfl rfl rfl (by omega) ?_)
    intro ra9 rc9 v9 T9
    have cr9 := cr.below T9.2.2.1
    have r0 := cr9.cell 0 rfl
    have r1 := cr9.cell 1 rfl
    have z0 := cr9.frozen 0
    have z1 := cr9.frozen 1
    go_wp2_with fail
    refine bodyPost_ret (v := .agg #[.slice ra9 (n1 + 3) rc9, .int .i64 0]) (by simp [results, Tryz.results13, go_sem, r0, r1]) rfl ?_
    exact (pr_end T9 (by cases ng <;> simp [M.sgl]) b0 lr 0)
  · have e15 : ((1 : Int) == 5) = false := by decide
    have e14 : ((1 : Int) == 4) = false := by decide
    go_wp2_with (at_builtin; refine T4.one 48 48 rfl (by omega) rfl _ _ rfl rfl rfl (by omega) ?_)
    intro ra9 rc9 v9 T9
    have cr9 := cr.below T9.2.2.1
    have r0 := cr9.cell 0 rfl
    have r1 := cr9.cell 1 rfl
    have z0 := cr9.frozen 0
    have z1 := cr9.frozen 1
    go_wp2_with fail
    refine bodyPost_ret (v := .agg #[.slice ra9 (n1 + 1) rc9, .int .i64 0]) (by simp [results, Tryz.results13, go_sem, r0, r1]) rfl ?_
    exact (pr_end T9 (by cases ng <;> simp [M.sgl]) b0 lr 0)
  · have e1 : (tc == 1) = false := beq_eq_false_iff_ne.2 t1
    have e4 : (tc == 4) = false := beq_eq_false_iff_ne.2 t4
    have e5 : (tc == 5) = false := beq_eq_false_iff_ne.2 t5
    have hrd := oS.rd
    obtain ⟨sa', sc', es, hcap, hcm, hno, h256, hblk⟩ := oS
    cases es
    obtain ⟨sb, so, cur, rfl, _, _, _⟩ := hblk (by omega)
    have HR : Hid (∀ u, Below v2.heap.size v2 u → RdB u (some ⟨sb, so, none⟩) ds) := hid (fun u hu => hrd.below hu)
    have HB := hid b0
    have H5 := hid (show ∀ y ∈ M.sgl ng ++ M.pt ds p, y < 256 from fun y hy => (List.mem_append.1 hy).elim (M.sgl_256 ng y) (M.pt_256 ds p h256 y))
    have HEP := hid ep
    clear hrd hblk h256 hno ep HC
    go_wp2_with fail
    refine (appDec_any v2.heap.size v2 v4 ra n1 rc _ T4 (by omega) sb so ds.length sc ds rfl l1 l2 hcap hcm HR.out x p HEP.out hp (fun u hu => HT.out.on HB.out u (hu.mono HB.out.size))).mono ?_
    rintro e v9 ⟨ra9, rc9, n9, rfl, T9⟩
    have cr9 := cr.below T9.2.2.1
    have r0 := cr9.cell 0 rfl
    have r1 := cr9.cell 1 rfl
    have z0 := cr9.frozen 0
    have z1 := cr9.frozen 1
    go_wp2_with fail
    refine bodyPost_ret (v := .agg #[.slice ra9 (n9) rc9, .int .i64 0]) (by simp [results, Tryz.results13, go_sem, r0, r1]) rfl ?_
    exact (pr_end T9 H5.out b0 lr 0)

end Go.Proofs.YtmglhkdgfcbonaaGreatDoor

