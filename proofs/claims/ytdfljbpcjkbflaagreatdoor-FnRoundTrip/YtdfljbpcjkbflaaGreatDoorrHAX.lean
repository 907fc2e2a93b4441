import Derived.Lib.SlBytesConst
import Derived.Deep.LoopGhost
import Derived.Test.YtdfljbpcjkbflaaGreatDoorrHAW
set_option maxHeartbeats 16000000
namespace Go.Proofs.YtdfljbpcjkbflaaGreatDoor
open Go.RowKit
set_option linter.unusedVariables false
set_option maxRecDepth 100000
theorem fU {w v2 v5 : World} {n rc : Nat} {ra : Option Addr} {xs : List Nat} (T : Tx v2.heap.size v2 v5 ra n rc xs) (h : ∀ x ∈ xs, x < 256) (b0 : Below w.heap.size w v2) (hlt : w.heap.size + 1 < v2.heap.size) (k : Int) :
 PrO w ((v5.setCell ⟨w.heap.size + 1, 0, none⟩ (.slice ra n rc)).setCell ⟨w.heap.size + 1, 1, none⟩ (.int .i64 k)) (.returned (.agg #[.slice ra n rc, .int .i64 k])) xs k := by
 obtain ⟨h1, h2, h3, h4⟩ := T
 subst h1
 have o1 := OwnV.of_own h2 h
 have o2 := ((o1.far ⟨w.heap.size + 1, 0, none⟩ hlt (.slice ra xs.length rc)).far ⟨w.heap.size + 1, 1, none⟩ hlt (.int .i64 k)).low b0.size
 exact ⟨ra, rc, rfl, OwnF.of o2, (((b0.trans (h3.mono b0.size)).setCell (p := ⟨w.heap.size + 1, 0, none⟩) (Nat.le_succ _) _).setCell (p := ⟨w.heap.size + 1, 1, none⟩) (Nat.le_succ _) _)⟩

theorem DA {w v : World} (b0 : Below w.heap.size w v) (hlt : w.heap.size + 1 < v.heap.size) (x y : Value) :
 PrO w (((v.setCell ⟨w.heap.size + 1, 0, none⟩ x).setCell ⟨w.heap.size + 1, 1, none⟩ y).alloc (.cells #[.int .u8 78, .int .u8 97, .int .u8 78] 5 (3, 4))) (.returned (.agg #[.slice (some ⟨v.heap.size, 0, none⟩) 3 3, .int .i64 0])) [78, 97, 78] 0 := by
 have b1 := (b0.setCell (p := ⟨w.heap.size + 1, 0, none⟩) (Nat.le_succ _) x).setCell (p := ⟨w.heap.size + 1, 1, none⟩) (Nat.le_succ _) y
 have hs : ((v.setCell ⟨w.heap.size + 1, 0, none⟩ x).setCell ⟨w.heap.size + 1, 1, none⟩ y).heap.size = v.heap.size := by simp
 refine ⟨some ⟨v.heap.size, 0, none⟩, 3, rfl, ⟨_, _, rfl, fun _ => ⟨v.heap.size, 0, #[.int .u8 78, .int .u8 97, .int .u8 78], (3, 4), rfl, b0.size, ?_, fun i hi => .inr (by simp at hi ⊢; omega), fun i hi => ?_⟩⟩, b1.alloc b1.size _⟩
 · rw [← hs]
   exact heap_alloc_new _ _
 · match i, hi with
   | 0, _ => rfl
   | 1, _ => rfl
   | 2, _ => rfl

theorem qU (f a b : Int) (w : World) (hm : Fmt w) (k : Int) (hk : k ≠ 0)
 (kS : ∀ v : World, Fmt v → Calls Tryz.prog 11 #[.int .i64 f, .agg #[.int .u64 a, .int .u64 b]] v fun e w' => ShO v w' e [] 0 false k) :
 Calls Tryz.prog 5 #[.int .i64 f, .agg #[.int .u64 a, .int .u64 b]] w fun e w' => PrO w w' e [] k := by
 obtain ⟨cw, cr, b0⟩ := Cls.new2 w #[.int .u64 a, .int .u64 b] #[.slice none 0 0, .int .i64 0] 25 29
 have x0 := cw.cell 0 rfl
 have x1 := cw.cell 1 rfl
 go_enter Tryz.func5, Tryz.ntmps5
 go_wp2_with fail
 refine (kS _ (hm.below b0)).mono ?_
 rintro e v1 ⟨sa, sc, rfl, oS, hb⟩
 replace cw := cw.below hb
 replace cr := cr.below hb
 replace b0 := b0.trans (hb.mono b0.size)
 clear hb x0 x1
 go_upto_region 2 with fail
 have bA := (Below.refl v1.heap.size v1).alloc (Nat.le_refl _) (.cells #[.slice sa 0 sc, .int .i64 0, .bool false, .int .i64 k] 41)
 have cs := Cls.new v1 #[.slice sa 0 sc, .int .i64 0, .bool false, .int .i64 k] 41
 replace cw := cw.below bA
 replace cr := cr.below bA
 replace oS := oS.below bA
 replace b0 := b0.trans (bA.mono b0.size)
 clear bA
 generalize v1.alloc (.cells #[.slice sa 0 sc, .int .i64 0, .bool false, .int .i64 k] 41) = v2 at *
 obtain ⟨gs, hgs⟩ : ∃ gs, gs = v1.heap.size := ⟨_, rfl⟩
 rw [← hgs] at cs ⊢
 clear hgs
 have p3 := cs.cell 3 rfl
 have lr : w.heap.size + 1 < v2.heap.size := cr.lt
 have r0 := cr.cell 0 rfl
 have r1 := cr.cell 1 rfl
 have z0 := cr.frozen 0
 have z1 := cr.frozen 1
 have hk' : (k != 0) = true := by simpa using hk
 go_wp2_with fail
 refine bodyPost_ret (v := .agg #[.slice none 0 0, .int .i64 k]) (by simp [results, Tryz.results5, go_sem, r0, r1]) rfl ?_
 exact (fU (Tx.nil v2) (by simp) b0 lr k)

theorem sY (f a b tc : Int) (tn : Bool) (th tl tq : Int) (ds : List Nat) (x : Int) (ng : Bool) (bs : List Nat) (w : World) (hm : Fmt w) (ht : Pw w.heap.size w)
 (hcase : (tc = 5 ∧ bs = [78, 97, 78]) ∨ tc ≠ 5 ∧ ((tc = 4 ∧ bs = M.sgl ng ++ [105, 110, 102]) ∨ (tc = 1 ∧ bs = M.sgl ng ++ [48]) ∨ (tc ≠ 1 ∧ tc ≠ 4 ∧ (1 ≤ ds.length ∧ ds.length ≤ 10000) ∧ ∃ p, (ds.length : Int) + x = p ∧ (-9000 < p ∧ p < 9000) ∧ bs = M.sgl ng ++ M.pt ds p)))
 (kS : ∀ v : World, Fmt v → Calls Tryz.prog 11 #[.int .i64 f, .agg #[.int .u64 a, .int .u64 b]] v fun e w' => ShO v w' e ds x ng 0)
 (kU : ∀ v : World, Fmt v → Calls Tryz.prog 12 #[.int .i64 f, .agg #[.int .u64 a, .int .u64 b]] v fun e w' => e = .returned (.agg #[.int .i64 tc, .bool tn, .int .u64 th, .int .u64 tl, .int .i64 tq]) ∧ Below v.heap.size v w') :
 Calls Tryz.prog 5 #[.int .i64 f, .agg #[.int .u64 a, .int .u64 b]] w fun e w' => PrO w w' e bs 0 := by
 have HC := hid hcase; clear hcase
 have fc := FT
 have HT := hid ht; clear ht
 obtain ⟨cw, cr, b0⟩ := Cls.new2 w #[.int .u64 a, .int .u64 b] #[.slice none 0 0, .int .i64 0] 25 29
 have x0 := cw.cell 0 rfl
 have x1 := cw.cell 1 rfl
 go_enter Tryz.func5, Tryz.ntmps5
 go_wp2_with fail
 refine (kS _ (hm.below b0)).mono ?_
 rintro e v1 ⟨sa, sc, rfl, oS, hb⟩
 replace cw := cw.below hb
 replace cr := cr.below hb
 replace b0 := b0.trans (hb.mono b0.size)
 clear hb x0 x1
 go_upto_region 2 with fail
 have bA := (Below.refl v1.heap.size v1).alloc (Nat.le_refl _) (.cells #[.slice sa ds.length sc, .int .i64 x, .bool ng, .int .i64 0] 41)
 have cs := Cls.new v1 #[.slice sa ds.length sc, .int .i64 x, .bool ng, .int .i64 0] 41
 replace cw := cw.below bA
 replace cr := cr.below bA
 replace oS := oS.below bA
 replace b0 := b0.trans (bA.mono b0.size)
 clear bA
 generalize v1.alloc (.cells #[.slice sa ds.length sc, .int .i64 x, .bool ng, .int .i64 0] 41) = v2 at *
 obtain ⟨gs, hgs⟩ : ∃ gs, gs = v1.heap.size := ⟨_, rfl⟩
 rw [← hgs] at cs ⊢
 clear hgs
 have lr : w.heap.size + 1 < v2.heap.size := cr.lt
 have p2 := cs.cell 2 rfl
 have p3 := cs.cell 3 rfl
 go_upto_if 17 with fail
 go_cut [6] (fun z wx => ∃ ra n1 rc, z = .slice ra n1 rc ∧ n1 ≤ 1 ∧ Tx v2.heap.size v2 wx ra n1 rc (M.sgl ng))
 case first =>
  cases ng
  · go_wp2_with fail
    go_meet
    case rel => exact ⟨none, 0, 0, rfl, by omega, Tx.nil v2⟩
  · go_wp2_with (at_builtin; refine (Tx.nil v2).one 45 45 rfl (by omega) rfl _ _ rfl rfl rfl (by omega) ?_)
    intro ra rc v3 T3
    go_wp2_with fail
    go_meet
    case rel => exact ⟨ra, 1, rc, rfl, by omega, T3⟩
 case rest =>
 obtain ⟨ra, n1, rc, rfl, hn1, T3⟩ := hcut
 have b3 := T3.2.2.1
 have cw3 := cw.below b3
 have x0 := cw3.cell 0 rfl
 have x1 := cw3.cell 1 rfl
 go_wp2_with fail
 refine (kU _ ((hm.below b0).below b3)).mono ?_
 rintro e v4 ⟨rfl, hb⟩
 have T4 := T3.below hb
 have b4 := T4.2.2.1
 have cr4 := cr.below b4
 have cs4 := cs.below b4
 clear hb x0 x1 cw3 p2 p3
 have p0 := cs4.cell 0 rfl
 have p1 := cs4.cell 1 rfl
 rcases HC.out with ⟨rfl, rfl⟩ | ⟨t5, ⟨rfl, rfl⟩ | ⟨rfl, rfl⟩ | ⟨t1, t4, ⟨l1, l2⟩, p, ep, hp, rfl⟩⟩
 · have l4 : w.heap.size + 1 < v4.heap.size := cr4.lt
   have r0 := cr4.cell 0 rfl
   have r1 := cr4.cell 1 rfl
   have z0 := cr4.frozen 0
   have z1 := cr4.frozen 1
   have kc := Lib.run_convert_bytes_const (P := Tryz.prog) v4 22 5 #[.int .u8 78, .int .u8 97, .int .u8 78] 3 3 Tryz.underlying22 Tryz.underlying5
   have r0' := Lib.cell?_alloc_marked (.cells #[.int .u8 78, .int .u8 97, .int .u8 78] 5 (3, 4)) r0
   have r1' := Lib.cell?_alloc_marked (.cells #[.int .u8 78, .int .u8 97, .int .u8 78] 5 (3, 4)) r1
   go_wp2_with fail
   have RB := ((cr4.set 0 (.slice (some ⟨v4.heap.size, 0, none⟩) 3 3) _ rfl).set 1 (.int .i64 0) _ rfl).below ((Below.refl _ _).alloc (Nat.le_refl _) (.cells #[.int .u8 78, .int .u8 97, .int .u8 78] 5 (3, 4)))
   have q0 := RB.cell 0 (x := .slice (some ⟨v4.heap.size, 0, none⟩) 3 3) rfl
   have q1 := RB.cell 1 (x := .int .i64 0) rfl
   refine bodyPost_ret (v := .agg #[.slice (some ⟨v4.heap.size, 0, none⟩) 3 3, .int .i64 0]) (by simp [results, Tryz.results5, go_sem, q0, q1]) rfl ?_
   exact (DA (b0.trans (b4.mono b0.size)) l4 _ _)
 · have e45 : ((4 : Int) == 5) = false := by decide
   go_wp2_with (at_builtin; refine T4.str rfl _ _ rfl rfl _ 3 [105, 110, 102] rfl rfl rfl (by omega) ?_)
   intro ra9 rc9 v9 T9
   have cr9 := cr.below T9.2.2.1
   have r0 := cr9.cell 0 rfl
   have r1 := cr9.cell 1 rfl
   have z0 := cr9.frozen 0
   have z1 := cr9.frozen 1
   go_wp2_with fail
   refine bodyPost_ret (v := .agg #[.slice ra9 (n1 + 3) rc9, .int .i64 0]) (by simp [results, Tryz.results5, go_sem, r0, r1]) rfl ?_
   exact (fU T9 (by cases ng <;> simp [M.sgl]) b0 lr 0)
 · have e15 : ((1 : Int) == 5) = false := by decide
   have e14 : ((1 : Int) == 4) = false := by decide
   go_wp2_with (at_builtin; refine T4.one 48 48 rfl (by omega) rfl _ _ rfl rfl rfl (by omega) ?_)
   intro ra9 rc9 v9 T9
   have cr9 := cr.below T9.2.2.1
   have r0 := cr9.cell 0 rfl
   have r1 := cr9.cell 1 rfl
   have z0 := cr9.frozen 0
   have z1 := cr9.frozen 1
   go_wp2_with fail
   refine bodyPost_ret (v := .agg #[.slice ra9 (n1 + 1) rc9, .int .i64 0]) (by simp [results, Tryz.results5, go_sem, r0, r1]) rfl ?_
   exact (fU T9 (by cases ng <;> simp [M.sgl]) b0 lr 0)
 · have e1 : (tc == 1) = false := beq_eq_false_iff_ne.2 t1
   have e4 : (tc == 4) = false := beq_eq_false_iff_ne.2 t4
   have e5 : (tc == 5) = false := beq_eq_false_iff_ne.2 t5
   have hrd := oS.rd
   obtain ⟨sa', sc', es, hcap, hcm, hno, h256, hblk⟩ := oS
   cases es
   obtain ⟨sb, so, cur, rfl, _, _, _⟩ := hblk (by omega)
   have HR : Hid (∀ u, Below v2.heap.size v2 u → RdB u (some ⟨sb, so, none⟩) ds) := hid (fun u hu => hrd.below hu)
   have HB := hid b0
   have H5 := hid (show ∀ y ∈ M.sgl ng ++ M.pt ds p, y < 256 from fun y hy => (List.mem_append.1 hy).elim (M.sG ng y) (M.xT ds p h256 y))
   have HEP := hid ep
   clear hrd hblk h256 hno ep HC
   go_wp2_with fail
   refine (wY v2.heap.size v2 v4 ra n1 rc _ T4 (by omega) sb so ds.length sc ds rfl l1 l2 hcap hcm HR.out x p HEP.out hp (fun u hu => HT.out.on HB.out u (hu.mono HB.out.size))).mono ?_
   rintro e v9 ⟨ra9, rc9, n9, rfl, T9⟩
   have cr9 := cr.below T9.2.2.1
   have r0 := cr9.cell 0 rfl
   have r1 := cr9.cell 1 rfl
   have z0 := cr9.frozen 0
   have z1 := cr9.frozen 1
   go_wp2_with fail
   refine bodyPost_ret (v := .agg #[.slice ra9 (n9) rc9, .int .i64 0]) (by simp [results, Tryz.results5, go_sem, r0, r1]) rfl ?_
   exact (fU T9 H5.out b0 lr 0)

theorem FA (xs : List Nat) (k : Nat) (h : k < xs.length) : X (xs.drop k) = xs.getD k 0 + 4294967296 * X (xs.drop (k + 1)) := by
 rw [List.drop_eq_getElem_cons h]
 simp [X, M.val, List.getD_eq_getElem?_getD, List.getElem?_eq_getElem h]

theorem vE {T' T r x q r' d : Nat} {B : Nat} (h : T' * d + r = T) (hq : q * d + r' = r * B + x) : (q + B * T') * d + r' = x + B * T := by
 rw [← h, Nat.add_mul, Nat.mul_add, Nat.mul_assoc, Nat.mul_comm B r]
 omega

theorem uD (ao : Option Addr) (n cap d a : Nat) (w : World) (hl : (D a).length = n) (hn : n ≤ 4194304) (hd : 0 < d) (hdb : d ≤ 4294967296) (hr : Rd w ao (D a)) :
 Calls Tryz.prog 89 #[.slice ao n cap, .int .u64 (d : Int)] w fun e w' => ∃ qa qc, e = .returned (.tuple #[.slice qa (D (a / d)).length qc, .int .u64 ((a % d : Nat) : Int)]) ∧ w'.ownsRow w.heap.size 23 1 (.slice qa (D (a / d)).length qc) (D (a / d)).length (U (D (a / d))) ∧ Below w.heap.size w w' := by
 obtain ⟨i0, hi, hz0, hz1, hz2⟩ := info_parts Tryz.infoU
 have hmk := fun (wx : World) => run_make (P := Tryz.prog) wx 53 23 i0 (.int .u64 0) Tryz.underlying53 hi hz0 .i64 .i64 (n : Int) (n : Int) (by omega) (Int.le_refl _) (by rw [hz2]; omega) (by omega)
 have et : ((n : Int)).toNat = n := by omega
 rw [et] at hmk
 go_enter Tryz.func89, Tryz.ntmps89
 go_wp2
 go_loopw [7, 8] (fun rs i wr => ∃ (k : Nat) (cur : List Nat) (r : Nat), k ≤ n ∧ i = .int .i64 ((k : Int) - 1) ∧ rs = .int .u64 (r : Int) ∧ r < d ∧ Blk wr w.heap.size cur ∧ cur.length = n ∧ (∀ x ∈ cur, x < 4294967296) ∧ Below w.heap.size w wr ∧ X (cur.drop k) * d + r = X ((D a).drop k)) (fun _ i _ => (intOf i + 1).toNat)
 case atStart =>
  refine ⟨n, List.replicate n 0, 0, Nat.le_refl _, by go_num, rfl, hd, dQ _ _, by simp, ?_, (Below.refl _ _).alloc (Nat.le_refl _) _, ?_⟩
  · intro x hx; rw [List.eq_of_mem_replicate hx]; omega
  · rw [List.drop_of_length_le (by simp), List.drop_of_length_le (by omega)]; simp [X, M.val]
 case round =>
  obtain ⟨k, cur, r, hk, rfl, rfl, hrd, hB, hcl, hcf, hbl, hv⟩ := hrel
  have HV := hid hv; clear hv
  by_cases hlt : 0 < k
  · obtain ⟨k, rfl⟩ : ∃ k', k = k' + 1 := ⟨k - 1, by omega⟩
    have e1 : (((k + 1 : Nat) : Int) - 1) = (k : Int) := by omega
    rw [e1]
    obtain ⟨b2, o2, hao, hc2⟩ := hr (by omega)
    subst hao
    have hca := (hbl.cell (p := ⟨b2, o2 + k, none⟩) (World.block_lt_of_cell? w _ (hc2 k (by omega)))).trans (hc2 k (by omega))
    clear hc2
    have hcs := hB.cell k (by omega)
    have hfs := hB.frozen k
    have hx1 : (D a).getD k 0 < 4294967296 := (fS a).get k
    have hxs := FA (D a) k (by omega)
    obtain ⟨x, hxx⟩ : ∃ x : Nat, x = (D a).getD k 0 := ⟨_, rfl⟩
    rw [← hxx] at hca hx1 hxs
    obtain ⟨o, hoo⟩ : ∃ o : Nat, o = cur.getD k 0 := ⟨_, rfl⟩
    rw [← hoo] at hcs
    clear hxx hoo
    have hge : (0 : Int) ≤ (k : Int) := by omega
    have hlt2 : (k : Int) < (n : Int) := by omega
    obtain ⟨s, hs⟩ : ∃ s, s = x + r * 4294967296 := ⟨_, rfl⟩
    have hsb : s < d * 4294967296 := by
     have : (r + 1) * 4294967296 ≤ d * 4294967296 := Nat.mul_le_mul_right _ hrd
     omega
    have hs64 : s < 18446744073709551616 := by omega
    have hor : bits BinOp.or IntKind.u64 ((r : Int) * 4294967296) (x : Int) = (s : Int) := by
     have h1 := rW x r hx1 (by omega)
     have h2 : bits BinOp.or IntKind.u64 ((r : Int) * 4294967296) (x : Int) = bits BinOp.or IntKind.u64 (x : Int) ((r : Int) * 4294967296) := by
      simp only [bits]
      rw [BitVec.or_comm]
     rw [h2, h1, hs]
    have hsh : IntKind.u64.wrap ((r : Int) * 4294967296) = (r : Int) * 4294967296 := by rw [IntKind.wrap_u64]; omega
    obtain ⟨Q, hQ⟩ : ∃ Q, Q = s / d := ⟨_, rfl⟩
    obtain ⟨R, hR⟩ : ∃ R, R = s % d := ⟨_, rfl⟩
    have hRd : R < d := by rw [hR]; exact Nat.mod_lt _ hd
    have hsum : Q * d + R = r * 4294967296 + x := by rw [hQ, hR, Nat.mul_comm, Nat.div_add_mod, hs]; omega
    have hQb : Q < 4294967296 := by rw [hQ, Nat.div_lt_iff_lt_mul hd, Nat.mul_comm]; exact hsb
    have hq' : (s : Int).tdiv (d : Int) = (Q : Int) := by rw [hQ]; rfl
    have hr' : (s : Int).tmod (d : Int) = (R : Int) := by rw [hR]; rfl
    have hd0 : ((d : Int) == 0) = false := by simp; omega
    have hd1 : ¬ (d : Int) = 0 := by omega
    have HS := hid hs; have HQ := hid hQ; have HR := hid hR; have HSM := hid hsum; have HB := hid hB; have HBL := hid hbl; have HXS := hid hxs
    clear hs hQ hR hsum hB hbl hxs
    go_wp2_with fail
    go_roundw
    case rel =>
     refine ⟨k, cur.set k Q, R, by omega, rfl, rfl, hRd, HB.out.set k Q _ rfl, by simp [hcl], ?_, HBL.out.setCell (p := ⟨w.heap.size, k, none⟩) (Nat.le_refl _) _, ?_⟩
     · intro y hy
       rcases List.mem_or_eq_of_mem_set hy with h | h
       · exact hcf y h
       · omega
     · rw [FA _ k (by simp; omega), M.aY _ _ _ (by omega), List.drop_set_of_lt (by omega), HXS.out]
       exact vE HV.out HSM.out
    case measure => simp [intOf]
  · have hk0 : k = 0 := by omega
    subst hk0
    have hv := HV.out
    rw [List.drop_zero, List.drop_zero, X_D] at hv
    have hq : X cur = a / d := by
     rw [← hv, Nat.mul_comm, Nat.mul_add_div hd, Nat.div_eq_of_lt hrd, Nat.add_zero]
    have hm : a % d = r := by rw [← hv, Nat.mul_comm, Nat.mul_add_mod, Nat.mod_eq_of_lt hrd]
    have kT := aZ 4294967296 (by omega) (some ⟨w.heap.size, 0, none⟩) n n cur wr hcl (Nat.le_refl _) (by omega) hcf hB.rd0
    have HB := hid hB; have HBL := hid hbl; have HM := hid hm; have HQ := hid hq
    clear hB hbl hm hq hv
    go_wp2_with fail
    refine kT.mono ?_
    rintro e w2 ⟨qa, qc, rfl, ho, hb⟩
    have e1 : M.dig 4294967296 (M.val 4294967296 cur) = D (a / d) := by show D (X cur) = _; rw [HQ.out]
    rw [e1] at ho ⊢
    go_wp2_with fail
    go_ret2
    rw [HM.out]
    exact ⟨qa, qc, rfl, aO ho HBL.out.size, HBL.out.trans (hb.mono HBL.out.size)⟩

theorem mO (v : Nat) : (D v).length = 0 ↔ v = 0 := by
 constructor
 · intro h
   have := oX v 0 (by omega)
   omega
 · rintro rfl
   have := M.len_of_lt (B := 4294967296) (by omega) 0 0 (by omega)
   have e : (D 0).length ≤ 0 := this
   omega

theorem fH (u t : Nat) (h : t ≤ 9) : u / 10 ^ t = u / 1000000000 * 10 ^ (9 - t) + u % 1000000000 / 10 ^ t := by
 have e : (1000000000 : Nat) = 10 ^ t * 10 ^ (9 - t) := by rw [← Nat.pow_add, show t + (9 - t) = 9 by omega]
 have h1 : 10 ^ t * (10 ^ (9 - t) * (u / 1000000000)) + u % 1000000000 = u := by
  rw [← Nat.mul_assoc, ← e]; exact Nat.div_add_mod u 1000000000
 have h2 : u / 10 ^ t = (10 ^ t * (10 ^ (9 - t) * (u / 1000000000)) + u % 1000000000) / 10 ^ t := by rw [h1]
 rw [h2, Nat.mul_add_div (Nat.pow_pos (by omega)), Nat.mul_comm (10 ^ (9 - t))]

theorem yR {W : World} {b1 b2 e1 e2 k1 k2 : Nat} {v1 v2 : Value} {xs ys : List Value} (h1 : W.ownsRow b1 e1 1 v1 k1 xs) (h2 : W.ownsRow b2 e2 1 v2 k2 ys) (hne : e1 ≠ e2) : v1.ownBlock = none ∨ v1.ownBlock ≠ v2.ownBlock := by
 rcases h1.2 with ⟨rfl, _⟩ | ⟨g, cap, cur, rfl, _, hg, _⟩
 · exact .inl rfl
 · rcases h2.2 with ⟨rfl, _⟩ | ⟨g2, cap2, cur2, rfl, _, hg2, _⟩
   · exact .inr (by simp [Value.ownBlock])
   · refine .inr ?_
     intro e
     simp only [Value.ownBlock, Option.some.injEq] at e
     subst e
     have := hg.symm.trans hg2
     simp at this
     exact hne this.2

theorem oG (a n : Nat) (h : (D a).length ≤ n) : (M.tl a).length ≤ 10 * n := by
 refine M.sO _ _ ?_
 have h1 := oX a n h
 have h2 : (4294967296 : Nat) ^ n ≤ 10 ^ (10 * n) := by rw [Nat.pow_mul]; exact Nat.pow_le_pow_left (by decide) _
 omega

theorem AW (a d n : Nat) (h : (D a).length ≤ n) : (D (a / d)).length ≤ n :=
 M.len_of_lt (B := 4294967296) (by omega) _ _ (Nat.lt_of_le_of_lt (Nat.div_le_self _ _) (oX a n h))

theorem j3 (ao : Option Addr) (n cap v : Nat) (w : World) (hl : (D v).length = n) (hn : n ≤ 100000) (hr : Rd w ao (D v)) :
 Calls Tryz.prog 48 #[.slice ao n cap] w fun e w' => RetR w w' e (M.txt v) ∧ (v ≠ 0 → RetY w w' e (M.txt v)) := by
 obtain ⟨i0, hi, hz0, hz1, hz2⟩ := info_parts Tryz.infoY
 by_cases hv : v = 0
 · subst hv
   have hn0 : n = 0 := by rw [← hl]; exact (mO 0).2 rfl
   subst hn0
   have hcv := fun (W : World) => Go.Lib.run_convert_bytes_const (P := Tryz.prog) W 22 5 #[.int .u8 48] 1 1 Tryz.underlying22 Tryz.underlying5
   go_enter Tryz.func48, Tryz.ntmps48
   go_wp2_with fail
   go_ret
   refine ⟨⟨some ⟨w.heap.size, 0, none⟩, 1, rfl, ?_, by decide, (Below.refl _ _).alloc (Nat.le_refl _) _⟩, fun h => absurd rfl h⟩
   intro _
   refine ⟨w.heap.size, 0, rfl, fun i hi => ?_⟩
   have hi0 : i = 0 := by have : (M.txt 0).length = 1 := rfl; omega
   subst hi0
   have hh : (w.alloc (Obj.cells #[Value.int IntKind.u8 48] 5 (1, 2))).heap[w.heap.size]? = some (Obj.cells #[Value.int IntKind.u8 48] 5 (1, 2)) := heap_alloc_new w _
   show World.cell? _ _ = _
   unfold World.cell?
   rw [Nat.zero_add]
   simp only [hh]
   rfl
 · have hn0 : ¬ n = 0 := by rw [← hl]; intro e; exact hv ((mO v).1 e)
   have hn0' : ((n : Int) == 0) = false := by simp; omega
   have HV := hid hv; clear hv
   go_enter Tryz.func48, Tryz.ntmps48
   go_wp2_with fail
   go_loopg [0, 3] v (fun u av bk wr => ∃ (m c1 k c2 : Nat) (aa bb : Option Addr) (bs : List Nat), av = .slice aa m c1 ∧ (D u).length = m ∧ m ≤ n ∧ Rd wr aa (D u) ∧ bk = .slice bb k c2 ∧ wr.ownsRow w.heap.size 5 1 (.slice bb k c2) k (UB bs) ∧ M.tl v = bs ++ M.tl u ∧ Below w.heap.size w wr)
   case atStart => exact ⟨n, cap, 0, 0, ao, none, [], rfl, hl, Nat.le_refl _, hr, rfl, World.ownsRow_nil _ _ _ _, rfl, Below.refl _ _⟩
   case round =>
    obtain ⟨m, c1, k, c2, aa, bb, bs, rfl, hlm, hmn, hrd, rfl, hown, htl, hbl⟩ := hrel
    obtain ⟨u, hgk⟩ : ∃ u, u = gk := ⟨_, rfl⟩
    subst hgk
    by_cases hu : u = 0
    · have hm0 : m = 0 := by rw [← hlm, hu]; exact (mO 0).2 rfl
      subst hm0
      have hbs : M.tl v = bs := by rw [htl, hu, M.fL, List.append_nil]
      have hkl : bs.length = k := dW hown
      have hkb : k ≤ 1000000 := by rw [← hkl, ← hbs]; have := oG v n (by omega); omega
      have hrb := RdY.own hown
      have hk0 : 0 < bs.length := by rw [← hbs, M.eD HV.out]; simp
      obtain ⟨b2, o2, rfl, hcc⟩ := hrb hk0
      have HBS := hid hbs; have HBL := hid hbl
      clear hown htl hbl hbs hrd hu
      go_wp2_with fail
      go_loopw [7, 8] (fun ov i wx => ∃ (t oc : Nat) (oa : Option Addr), t ≤ k ∧ i = .int .i64 ((k : Int) - 1 - t) ∧ ov = .slice oa t oc ∧ wx.ownsRow wr.heap.size 5 1 (.slice oa t oc) t (UB (bs.reverse.take t)) ∧ Below wr.heap.size wr wx) (fun _ i _ => (intOf i + 1).toNat)
      case atStart => exact ⟨0, 0, none, by omega, by go_num, rfl, by rw [List.take_zero]; exact World.ownsRow_nil _ _ _ _, Below.refl _ _⟩
      case round =>
       rename World => wx
       obtain ⟨t, oc, oa, ht, rfl, rfl, own3, b3⟩ := hrel
       by_cases hlt : t < k
       · obtain ⟨j, hj⟩ : ∃ j, j + 1 + t = k := ⟨k - 1 - t, by omega⟩
         have e1 : (k : Int) - 1 - t = (j : Int) := by omega
         rw [e1]
         have hcj := (b3.cell (p := ⟨b2, o2 + j, none⟩) (World.block_lt_of_cell? wr _ (hcc j (by omega)))).trans (hcc j (by omega))
         have hge : (0 : Int) ≤ (j : Int) := by omega
         have hjk : (j : Int) < (k : Int) := by omega
         have hst := M.DI bs t (by omega)
         rw [show bs.length - 1 - t = j by omega] at hst
         obtain ⟨x, hx⟩ : ∃ x, x = bs.getD j 0 := ⟨_, rfl⟩
         rw [← hx] at hcj hst
         have HST := hid hst; have OWN3 := hid own3; have B3 := hid b3
         clear hx hst own3 b3
         go_wp2_with (at_builtin; refine wpList_append_own _ rfl _ _ 22 rfl wr.heap.size 5 i0 (.int .u8 0) 1 1 Tryz.underlying22 hi hz0 hz1 hz2 rfl (by decide) _ _ _ rfl (OWN3.out.alloc _) ⟨wx.heap.size, 0, none⟩ 1 1 (UB [x]) rfl rfl ?c1 ?c2 ?c3 ?c4 ?c5 ?_)
         case c1 =>
          intro j u hj
          match j, hj with
          | 0, hj => simp [UB] at hj; subst hj; simp [Addr.add]
         case c2 => exact jT _
         case c3 => unfold maxLen; omega
         case c4 => omega
         case c5 => have := B3.out.size; simp; omega
         intro v' w3 hown' hgrow _
         obtain ⟨oa3, cap', rfl⟩ := dF hown'
         go_wp2_with fail
         go_roundw
         case rel =>
          refine ⟨t + 1, cap', oa3, by omega, by congr 1; omega, rfl, by rw [HST.out, bZ]; exact hown', ?_⟩
          exact (B3.out.alloc B3.out.size _).grown hgrow (by have := B3.out.size; simp; omega) (fun j e => dN OWN3.out e)
         case measure => simp [intOf]
       · have e : t = k := by omega
         subst e
         have hge : ¬ (0 : Int) ≤ (t : Int) - 1 - t := by omega
         have OWN3 := hid own3; have B3 := hid b3
         clear own3 b3
         go_wp2_with fail
         go_ret
         have etx : M.txt v = bs.reverse := by unfold M.txt; rw [if_neg HV.out, HBS.out]
         have hy : RetY w wx (.returned (.slice oa t oc)) (M.txt v) := by
          have h1 := OWN3.out
          rw [List.take_of_length_le (by simp; omega)] at h1
          have eln : (M.txt v).length = t := by rw [etx]; simp [hkl]
          unfold RetY
          rw [eln, etx]
          exact ⟨oa, oc, rfl, zM h1 HBL.out.size, HBL.out.trans (B3.out.mono HBL.out.size)⟩
         exact ⟨hy.toR, fun _ => hy⟩
    · have hm0 : (0 : Int) < (m : Int) := by
       have : m ≠ 0 := by rw [← hlm]; intro e; exact hu ((mO u).1 e)
       omega
      have HOWN := hid hown; have HTL := hid htl; have HBL := hid hbl
      clear hown htl hbl
      have kS := uD aa m c1 1000000000 u wr hlm (by omega) (by omega) (by omega) hrd
      go_wp2_with fail
      refine kS.mono ?_
      rintro e w1 ⟨qa, qc, rfl, hq1, hb1⟩
      have hqn := AW u 1000000000 m (by omega)
      have own1 := nW HOWN.out hb1
      have b1 := HBL.out.trans (hb1.mono HBL.out.size)
      have BB := hid HBL.out.size
      clear hb1 HOWN HBL
      obtain ⟨q, hq⟩ : ∃ q, q = u / 1000000000 := ⟨_, rfl⟩
      obtain ⟨r0, hr0⟩ : ∃ r0, r0 = u % 1000000000 := ⟨_, rfl⟩
      rw [← hq] at hq1 hqn ⊢
      rw [← hr0]
      obtain ⟨m2, hm2⟩ : ∃ m2, m2 = (D q).length := ⟨_, rfl⟩
      rw [← hm2] at hq1 hqn ⊢
      have HQ := hid hq; have HR0 := hid hr0; have HM2 := hid hm2; have OWN1 := hid own1; have HQ1 := hid hq1; have B1 := hid b1
      clear hq hr0 hm2 own1 hq1 b1
      go_wp2_with fail
      go_loopw [3, 5, 6] (fun bk rs j wi => ∃ (t k2 c3 : Nat) (bb2 : Option Addr) (bs2 : List Nat), t ≤ 9 ∧ j = .int .i64 (t : Int) ∧ rs = .int .u64 ((r0 / 10 ^ t : Nat) : Int) ∧ bk = .slice bb2 k2 c3 ∧ wi.ownsRow w.heap.size 5 1 (.slice bb2 k2 c3) k2 (UB bs2) ∧ M.tl v = bs2 ++ M.tl (u / 10 ^ t) ∧ wi.ownsRow w.heap.size 23 1 (.slice qa m2 qc) m2 (U (D q)) ∧ Below w.heap.size w wi) (fun _ _ j _ => 9 - (intOf j).toNat)
      case atStart => exact ⟨0, k, c2, bb, bs, by omega, rfl, by simp, rfl, OWN1.out, by rw [Nat.pow_zero, Nat.div_one]; exact HTL.out, aO HQ1.out BB.out, B1.out⟩
      case round =>
       rename World => wi
       obtain ⟨t, k2, c3, bb2, bs2, ht, rfl, rfl, rfl, own2, htl2, hq2, b2⟩ := hrel
       by_cases ht9 : t < 9
       · have hlt' : (t : Int) < 9 := by omega
         by_cases hq0 : 0 < m2
         · have hc2' : (0 : Int) < (m2 : Int) := by omega
           have hqp : 0 < q := by
            rcases Nat.eq_zero_or_pos q with e | e
            · have h1 := HM2.out; rw [e] at h1; rw [(mO 0).2 rfl] at h1; omega
            · exact e
           have hk1 : bs2.length ≤ 1000000 := by have h1 := congrArg List.length htl2; rw [List.length_append] at h1; have h2 := oG v n (by omega); omega
           have hk2 : bs2.length = k2 := dW own2
           have hut : u / 10 ^ t ≠ 0 := by
            rw [fH u t ht, ← HQ.out, ← HR0.out]
            generalize r0 / 10 ^ t = z at *
            have h2 : 0 < q * 10 ^ (9 - t) := Nat.mul_pos hqp (Nat.pow_pos (by omega))
            omega
           have htl3 := M.eD hut
           have hdg : u / 10 ^ t % 10 = r0 / 10 ^ t % 10 := by
            rw [fH u t ht, ← HQ.out, ← HR0.out, show 9 - t = (8 - t) + 1 by omega, Nat.pow_succ, ← Nat.mul_assoc, Nat.add_comm, Nat.add_mul_mod_self_right]
           obtain ⟨x, hx⟩ : ∃ x, x = r0 / 10 ^ t := ⟨_, rfl⟩
           have hxl : x < 1000000000 := by rw [hx]; exact Nat.lt_of_le_of_lt (Nat.div_le_self _ _) (by rw [HR0.out]; exact Nat.mod_lt _ (by omega))
           rw [← hx] at hdg ⊢
           obtain ⟨c, hcv⟩ : ∃ c, c = 48 + x % 10 := ⟨_, rfl⟩
           have hcb : c ≤ 57 := by omega
           have s1 : (x : Int).tmod 10 = ((x % 10 : Nat) : Int) := by rw [Int.tmod_eq_emod_of_nonneg (by omega)]; omega
           have s2 : IntKind.u64.wrap (48 + (x : Int) % 10) = (c : Int) := by rw [IntKind.wrap_u64]; omega
           have s3 : (c : Int) % 256 = (c : Int) := by omega
           have s4 : (x : Int).tdiv 10 = ((x / 10 : Nat) : Int) := by rw [Int.tdiv_eq_ediv_of_nonneg (by omega)]; omega
           have HX := hid hx; have HC := hid hcv; have HD := hid hdg; have OWN2 := hid own2; have HTL2 := hid htl2; have HTL3 := hid htl3; have HQ2 := hid hq2; have B2 := hid b2
           clear hx hcv hdg own2 htl2 htl3 hq2 b2
           have hnew : ∀ j u, (UB [c])[j]? = some u → (wi.alloc (.cells #[.int .u8 (c : Int)] 5)).cell? ((⟨wi.heap.size, 0, none⟩ : Addr).add j) = some u := by
            intro j u hj
            match j, hj with
            | 0, hj => simp [UB] at hj; subst hj; simp [Addr.add]
           go_wp2_with (at_builtin; refine wpList_append_own _ rfl _ _ 22 rfl w.heap.size 5 i0 (.int .u8 0) 1 1 Tryz.underlying22 hi hz0 hz1 hz2 rfl (by decide) _ _ _ rfl (OWN2.out.alloc _) ⟨wi.heap.size, 0, none⟩ 1 1 (UB [c]) rfl rfl ?c1 ?c2 ?c3 ?c4 ?c5 ?_)
           case c1 => first | exact hnew | (intro j u hj; simpa [UB] using hj)
           case c2 => exact jT _
           case c3 => unfold maxLen; omega
           case c4 => omega
           case c5 => have := B2.out.size; simp; omega
           intro v' w3 hown' hgrow _
           obtain ⟨oa3, cap', rfl⟩ := dF hown'
           go_wp2_with fail
           go_roundw
           case rel =>
            refine ⟨t + 1, k2 + 1, cap', oa3, bs2 ++ [c], by omega, by go_num, ?_, rfl, by rw [bZ]; exact hown', ?_, ?_, ?_⟩
            · rw [Nat.pow_succ, ← Nat.div_div_eq_div_mul, ← HX.out]; congr 1
            · rw [HTL2.out, HTL3.out, HD.out, ← HC.out, Nat.pow_succ, ← Nat.div_div_eq_div_mul, List.append_assoc]; rfl
            · exact (HQ2.out.alloc _).kept hgrow (yR HQ2.out OWN2.out (by decide))
            · exact (B2.out.alloc B2.out.size _).grown hgrow (by have := B2.out.size; simp; omega) (fun j e => dN OWN2.out e)
           case measure => simp [intOf]; omega
         · have hq1 : q = 0 := (mO q).1 (by rw [← HM2.out]; omega)
           have hq3 : ¬ (0 : Int) < (m2 : Int) := by omega
           by_cases hr1 : 0 < r0 / 10 ^ t
           · have hc2' : 0 < r0 / 10 ^ t := hr1
             have hc4 : (0 : Int) < ((r0 / 10 ^ t : Nat) : Int) := by omega
             have hk1 : bs2.length ≤ 1000000 := by have h1 := congrArg List.length htl2; rw [List.length_append] at h1; have h2 := oG v n (by omega); omega
             have hk2 : bs2.length = k2 := dW own2
             have hut : u / 10 ^ t ≠ 0 := by
              rw [fH u t ht, ← HQ.out, ← HR0.out]
              generalize r0 / 10 ^ t = z at *
              omega
             have htl3 := M.eD hut
             have hdg : u / 10 ^ t % 10 = r0 / 10 ^ t % 10 := by
              rw [fH u t ht, ← HQ.out, ← HR0.out, show 9 - t = (8 - t) + 1 by omega, Nat.pow_succ, ← Nat.mul_assoc, Nat.add_comm, Nat.add_mul_mod_self_right]
             obtain ⟨x, hx⟩ : ∃ x, x = r0 / 10 ^ t := ⟨_, rfl⟩
             have hxl : x < 1000000000 := by rw [hx]; exact Nat.lt_of_le_of_lt (Nat.div_le_self _ _) (by rw [HR0.out]; exact Nat.mod_lt _ (by omega))
             rw [← hx] at hdg hc2' hc4 hr1 ⊢
             obtain ⟨c, hcv⟩ : ∃ c, c = 48 + x % 10 := ⟨_, rfl⟩
             have hcb : c ≤ 57 := by omega
             have s1 : (x : Int).tmod 10 = ((x % 10 : Nat) : Int) := by rw [Int.tmod_eq_emod_of_nonneg (by omega)]; omega
             have s2 : IntKind.u64.wrap (48 + (x : Int) % 10) = (c : Int) := by rw [IntKind.wrap_u64]; omega
             have s3 : (c : Int) % 256 = (c : Int) := by omega
             have s4 : (x : Int).tdiv 10 = ((x / 10 : Nat) : Int) := by rw [Int.tdiv_eq_ediv_of_nonneg (by omega)]; omega
             have HX := hid hx; have HC := hid hcv; have HD := hid hdg; have OWN2 := hid own2; have HTL2 := hid htl2; have HTL3 := hid htl3; have HQ2 := hid hq2; have B2 := hid b2
             clear hx hcv hdg own2 htl2 htl3 hq2 b2
             have hnew : ∀ j u, (UB [c])[j]? = some u → (wi.alloc (.cells #[.int .u8 (c : Int)] 5)).cell? ((⟨wi.heap.size, 0, none⟩ : Addr).add j) = some u := by
              intro j u hj
              match j, hj with
              | 0, hj => simp [UB] at hj; subst hj; simp [Addr.add]
             go_wp2_with (at_builtin; refine wpList_append_own _ rfl _ _ 22 rfl w.heap.size 5 i0 (.int .u8 0) 1 1 Tryz.underlying22 hi hz0 hz1 hz2 rfl (by decide) _ _ _ rfl (OWN2.out.alloc _) ⟨wi.heap.size, 0, none⟩ 1 1 (UB [c]) rfl rfl ?c1 ?c2 ?c3 ?c4 ?c5 ?_)
             case c1 => first | exact hnew | (intro j u hj; simpa [UB] using hj)
             case c2 => exact jT _
             case c3 => unfold maxLen; omega
             case c4 => omega
             case c5 => have := B2.out.size; simp; omega
             intro v' w3 hown' hgrow _
             obtain ⟨oa3, cap', rfl⟩ := dF hown'
             go_wp2_with fail
             go_roundw
             case rel =>
              refine ⟨t + 1, k2 + 1, cap', oa3, bs2 ++ [c], by omega, by go_num, ?_, rfl, by rw [bZ]; exact hown', ?_, ?_, ?_⟩
              · rw [Nat.pow_succ, ← Nat.div_div_eq_div_mul, ← HX.out]; congr 1
              · rw [HTL2.out, HTL3.out, HD.out, ← HC.out, Nat.pow_succ, ← Nat.div_div_eq_div_mul, List.append_assoc]; rfl
              · exact (HQ2.out.alloc _).kept hgrow (yR HQ2.out OWN2.out (by decide))
              · exact (B2.out.alloc B2.out.size _).grown hgrow (by have := B2.out.size; simp; omega) (fun j e => dN OWN2.out e)
             case measure => simp [intOf]; omega
           · have hz : r0 / 10 ^ t = 0 := Nat.eq_zero_of_not_pos hr1
             rw [hz]
             have htlq : M.tl v = bs2 ++ M.tl q := by
              rw [htl2, fH u t ht, ← HQ.out, ← HR0.out, hz, hq1]
              simp
             have HU := hid htlq; have OWN2 := hid own2; have HQ2 := hid hq2; have B2 := hid b2
             clear htlq own2 hq2 b2 htl2
             go_wp2_with fail
             go_roundg q
             case measure => rw [HQ.out]; omega
             case rel => exact ⟨m2, qc, k2, c3, qa, bb2, bs2, rfl, HM2.out.symm, by omega, Rd.own HQ2.out, rfl, OWN2.out, HU.out, B2.out⟩
       · have hlt' : ¬ (t : Int) < 9 := by omega
         have e9 : t = 9 := by omega
         subst e9
         have htlq : M.tl v = bs2 ++ M.tl q := by rw [htl2, HQ.out]
         obtain ⟨x9, hx9⟩ : ∃ x, x = r0 / 10 ^ 9 := ⟨_, rfl⟩
         rw [← hx9]
         clear hx9
         have HU := hid htlq; have OWN2 := hid own2; have HQ2 := hid hq2; have B2 := hid b2
         clear htlq own2 hq2 b2 htl2
         go_wp2_with fail
         go_roundg q
         case measure => rw [HQ.out]; omega
         case rel => exact ⟨m2, qc, k2, c3, qa, bb2, bs2, rfl, HM2.out.symm, by omega, Rd.own HQ2.out, rfl, OWN2.out, HU.out, B2.out⟩

theorem BD (z : Int) (hz : -10000 < z ∧ z < 10000) (w : World) :
 Calls Tryz.prog 15 #[.int .i64 z] w fun e w' => RetR w w' e (M.cZ z) := by
 by_cases h0 : z < 0
 · obtain ⟨u, eu⟩ : ∃ u : Nat, z = -(u : Int) := ⟨z.natAbs, by omega⟩
   have hei : M.cZ z = 45 :: M.txt u := by unfold M.cZ; rw [if_pos h0, show z.natAbs = u by omega]; rfl
   have hu1 : IntKind.i64.wrap (-z) = (u : Int) := by rw [IntKind.wrap_i64]; omega
   have hu2 : IntKind.u64.wrap (u : Int) = (u : Int) := by rw [IntKind.wrap_u64]; omega
   have kc := Lib.run_convert_bytes_const (P := Tryz.prog) w 22 5 #[.int .u8 45] 1 1 Tryz.underlying22 Tryz.underlying5
   have hl : (D u).length ≤ 6 := fA u (by omega)
   have b1 : Below w.heap.size w (w.alloc (.cells #[.int .u8 45] 5 (1, 2))) := (Below.refl _ _).alloc (Nat.le_refl _) _
   have R1 : RdB (w.alloc (.cells #[.int .u8 45] 5 (1, 2))) (some ⟨w.heap.size, 0, none⟩) [45] := by
    refine ⟨fun x hx => by simp at hx; omega, fun _ => ⟨w.heap.size, 0, rfl, fun i hi => ?_⟩⟩
    obtain rfl : i = 0 := by simp at hi; exact hi
    rw [cell_of_row _ w.heap.size (0 + 0) _ _ (1, 2) (heap_alloc_new w _)]
    rfl
   have HE := hid hei; have HU := hid (show 1 ≤ u ∧ u < 10000 by omega); have HR1 := hid R1; have HB1 := hid b1
   clear hei eu R1 b1
   go_enter Tryz.func15, Tryz.ntmps15
   go_wp2_with fail
   refine (dA u _ (by have := HU.out; omega)).mono ?_
   rintro e v1 ⟨la, lc, rfl, lo, hb1⟩
   go_wp2_with fail
   refine (j3 la _ lc u _ rfl (by omega) (Rd.own lo)).mono ?_
   rintro e v2 ⟨_, hY⟩
   obtain ⟨ta, tc, rfl, town, hb2⟩ := hY (by have := HU.out; omega)
   have r2 := (HR1.out.below hb1).below hb2
   have B2 := (HB1.out.trans (hb1.mono HB1.out.size)).trans (hb2.mono (HB1.out.trans (hb1.mono HB1.out.size)).size)
   have hp := M.iA u
   have hlt := M.iC 3 u (by have := HU.out; omega)
   obtain ⟨g, cap, etx, _, _⟩ := town.form hp
   cases etx
   have rt : RdB v2 (some ⟨g, 0, none⟩) (M.txt u) := (OwnV.of_own town (M.yM u)).rd
   have HB2 := hid B2; have HRT := hid rt; have HR2 := hid r2
   obtain ⟨m, em⟩ : ∃ m, m = (M.txt u).length := ⟨_, rfl⟩
   rw [← em] at hp hlt ⊢
   have HEM := hid em
   clear hb1 hb2 lo town rt r2 B2 em hY
   go_wp2_with (at_builtin; refine tO rfl _ _ rfl v2 ⟨w.heap.size, 0, none⟩ 1 [45] rfl rfl (by omega) HR2.out ⟨g, 0, none⟩ m tc (M.txt u) rfl HEM.out.symm hp HRT.out (by omega) ?_)
   intro ra rc v3 own3 b3
   go_wp2_with fail
   go_ret
   have h3 : (M.cZ z).length = 1 + m := by rw [HE.out, List.length_cons, ← HEM.out]; omega
   have o3 := OwnV.of_own own3 (by rw [← HE.out]; exact M.oT z)
   have hc := j6 own3
   rw [← HE.out] at o3
   rw [← h3] at o3 hc
   exact ⟨ra, rc, by rw [h3]; rfl, o3.rd.y, hc, HB2.out.trans (b3.mono HB2.out.size)⟩
 · obtain ⟨u, rfl⟩ : ∃ u : Nat, z = (u : Int) := ⟨z.toNat, by omega⟩
   have hei : M.cZ (u : Int) = M.txt u := by unfold M.cZ; rw [if_neg h0, List.nil_append]; rfl
   have hu2 : IntKind.u64.wrap (u : Int) = (u : Int) := by rw [IntKind.wrap_u64]; omega
   have hl : (D u).length ≤ 6 := fA u (by omega)
   rw [hei]
   go_enter Tryz.func15, Tryz.ntmps15
   go_wp2_with fail
   refine (dA u _ (by omega)).mono ?_
   rintro e v1 ⟨la, lc, rfl, lo, hb1⟩
   go_wp2_with fail
   refine (j3 la _ lc u _ rfl (by omega) (Rd.own lo)).mono ?_
   rintro e v2 ⟨hR, _⟩
   have HR := hid (hR.later hb1)
   obtain ⟨ra, rc, rfl, _, _, _⟩ := hR
   go_wp2_with fail
   go_ret
   exact HR.out

end Go.Proofs.YtdfljbpcjkbflaaGreatDoor
