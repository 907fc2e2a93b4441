import Derived.BigRegion
import Derived.Test.YtdpbhbpcpnlbkaaaGD
import Derived.Test.YtdpbhbpcpnlbkaaaCaP
set_option maxHeartbeats 4000000
namespace Go.Proofs.Ytdpbhbpcpnlbkaa
open Go.RowKit Go.Maps
set_option linter.unusedVariables false
set_option maxRecDepth 100000
theorem key_any (cb base m : Nat) (kv : Value) (ks : List (Int × Int)) (k : Int × Int) (w : World) (c8 : w.cell? ⟨cb, 8, none⟩ = some kv) (lc : cb < w.heap.size) (ow : w.ownsRow base 36 2 kv ks.length (KL ks)) (hk : ks[m]? = some k) (hl : ks.length < 1000000) :
 Calls Try.prog 69 #[.pointer (some ⟨cb, 7, none⟩), .int .i64 ((m + 1 : Nat) : Int)] w fun e w' => e = .returned (.agg #[.int .i64 k.1, .int .i64 k.2]) ∧ Below w.heap.size w w' := by
 have hm := (List.getElem?_eq_some_iff.1 hk).1
 obtain ⟨h0, h1⟩ := KL_get ks m k hk
 obtain ⟨n, hn⟩ : ∃ n, ks.length = n + 1 := ⟨ks.length - 1, by omega⟩
 rw [hn] at ow
 obtain ⟨g, cap, rfl, hg, -⟩ := own_form ow
 have bW : Below w.heap.size w (w.alloc (.cells #[.int .i64 0, .int .i64 0] 36)) := (Below.refl _ _).alloc (Nat.le_refl _) _
 have a0 := ow.cellAt (m * 2) (by omega)
 have a1 := ow.cellAt (m * 2 + 1) (by omega)
 rw [h0] at a0
 rw [h1] at a1
 have d0 := (bW.cell (p := ⟨g, m * 2, none⟩) hg).trans a0
 have d1 := (bW.cell (p := ⟨g, m * 2 + 1, none⟩) hg).trans a1
 have d8 := (bW.cell (p := ⟨cb, 8, none⟩) lc).trans c8
 have f1 : IntKind.i64.wrap (((m + 1 : Nat) : Int) - 1) = (m : Int) := by simp only [IntKind.wrap_i64]; omega
 have f2 : (m : Int) < ((n + 1 : Nat) : Int) := by omega
 generalize ((m + 1 : Nat) : Int) = m1 at f1 ⊢
 clear ow hk h0 h1
 go_enter Try.func69, Try.ntmps69
 go_wp2_with fail
 exact bodyPost_ret (v := .agg #[.int .i64 k.1, .int .i64 k.2]) (by simp [results, Try.results69, go_sem]) rfl ⟨rfl, (Below.refl _ _).alloc (Nat.le_refl _) _⟩

def OwV (w : World) (base : Nat) (v : Value) (vs : List (Nat × Nat × (Int × Int) × Bool)) : Prop := w.ownsRow base 38 5 v vs.length (VL vs)

theorem OwV.below {w u : World} {base : Nat} {v : Value} {vs : List (Nat × Nat × (Int × Int) × Bool)} (h : OwV w base v vs) (k : Below w.heap.size w u) : OwV u base v vs := own_tn h (Tn.below (fun _ => False) k) (fun _ _ e => e)

theorem views_any {w : World} {L : Lay} {R : Raw} {c : Q.Cch} (d : Dim L) (ri : RI w L R) (lc : LC L R c) (hks : R.ks.length < 100000) :
 Calls Try.prog 60 #[.pointer (some ⟨L.cb, 0, none⟩)] w fun e w' => ∃ v, e = .returned v ∧ OwV w' w.heap.size v (Q.vws L.S c (L.N * L.S)) ∧ Below w.heap.size w w' := by
 have dN := d.N; have dS := d.S
 have c9 := (ri.c.cell 9 (by omega)).trans (congrArg some lc.c9)
 have lcb := ri.c.lt
 have H0 := hidQ (fun (v : World) (hv : Below w.heap.size w v) i (hi : i < L.N) => (hv.cell (p := ⟨L.hb, i * 2, none⟩) ri.h.lt).trans ((ri.h.cell (i * 2) (by omega)).trans (congrArg some (lc.h0 i hi))))
 have H1 := hidQ (fun (v : World) (hv : Below w.heap.size w v) i (hi : i < L.N) => (hv.cell (p := ⟨L.hb, i * 2 + 1, none⟩) ri.h.lt).trans ((ri.h.cell (i * 2 + 1) (by omega)).trans (congrArg some (lc.h1 i hi))))
 have S0 := hidQ (fun (v : World) (hv : Below w.heap.size w v) i j (hi : i < L.N) (hj : j < L.S) => (hv.cell (p := ⟨L.sb i, j * 3, none⟩) (ri.s i hi).lt).trans (((ri.s i hi).cell (j * 3) (by omega)).trans (congrArg some (lc.s0 i j hi hj))))
 have S1 := hidQ (fun (v : World) (hv : Below w.heap.size w v) i j (hi : i < L.N) (hj : j < L.S) => (hv.cell (p := ⟨L.sb i, j * 3 + 1, none⟩) (ri.s i hi).lt).trans (((ri.s i hi).cell (j * 3 + 1) (by omega)).trans (congrArg some (lc.s1 i j hi hj))))
 have S2 := hidQ (fun (v : World) (hv : Below w.heap.size w v) i j (hi : i < L.N) (hj : j < L.S) => (hv.cell (p := ⟨L.sb i, j * 3 + 2, none⟩) (ri.s i hi).lt).trans (((ri.s i hi).cell (j * 3 + 2) (by omega)).trans (congrArg some (lc.s2 i j hi hj))))
 have KA := hidQ (fun (k : Int × Int) (hk : k ∈ R.ks) (v : World) (hv : Below w.heap.size w v) => show Calls Try.prog 69 #[.pointer (some ⟨L.cb, 7, none⟩), .int .i64 ((num R.ks k : Nat) : Int)] v fun e w' => e = .returned (.agg #[.int .i64 k.1, .int .i64 k.2]) ∧ Below v.heap.size v w' from by
  obtain ⟨m, hm⟩ : ∃ m, num R.ks k = m + 1 := ⟨num R.ks k - 1, by have := mt num_zero.1 (fun h => h hk); omega⟩
  rw [hm]
  exact key_any L.cb L.base m R.kv R.ks k v ((hv.cell (p := ⟨L.cb, 8, none⟩) lcb).trans ((ri.c.cell 8 (by omega)).trans (congrArg some lc.c8))) (Nat.lt_of_lt_of_le lcb hv.size) (own_tn ri.ow (Tn.below (fun _ => False) hv) (fun _ _ e => e)) (num_get hm) (by omega))
 have MEM := hidQ lc.mem
 clear ri lc d
 obtain ⟨cb, hcb⟩ : ∃ cb, L.cb = cb := ⟨_, rfl⟩
 obtain ⟨hb, hhb⟩ : ∃ hb, L.hb = hb := ⟨_, rfl⟩
 obtain ⟨N, hN⟩ : ∃ N, L.N = N := ⟨_, rfl⟩
 obtain ⟨S, hS⟩ : ∃ S, L.S = S := ⟨_, rfl⟩
 obtain ⟨sb, hsb⟩ : ∃ sb, L.sb = sb := ⟨_, rfl⟩
 obtain ⟨ks, hkk⟩ : ∃ ks, R.ks = ks := ⟨_, rfl⟩
 rw [hcb] at c9 KA lcb ⊢
 rw [hhb] at c9 H0 H1
 rw [hN] at dN c9 H0 H1 S0 S1 S2 MEM ⊢
 rw [hS] at dS H0 S0 S1 S2 MEM ⊢
 rw [hsb] at H0 S0 S1 S2
 rw [hkk] at S0 KA MEM hks
 clear hcb hhb hN hS hsb hkk
 go_enter Try.func60, Try.ntmps60
 go_wp2_with fail
 go_loopw [3, 13] (fun v i wr => ∃ k : Nat, k ≤ N ∧ i = .int .i64 k ∧ OwV wr w.heap.size v (Q.vws S c (k * S)) ∧ Below w.heap.size w wr) (fun _ i _ => N - (intOf i).toNat)
 case atStart => exact ⟨0, by omega, rfl, by rw [Nat.zero_mul]; exact World.ownsRow_nil _ _ _ _, Below.refl _ _⟩
 case round =>
  obtain ⟨k, hk, rfl, hv, hb0⟩ := hrel
  obtain ⟨ra, rc, rfl⟩ := own_any hv
  have HV := hidQ hv
  have HB := hidQ hb0
  by_cases hlt : k < N
  · have e0 := H0.out wr hb0 k hlt
    have e1 := H1.out wr hb0 k hlt
    have f1 : IntKind.i64.wrap ((k : Int) + 1) = (k : Int) + 1 := by simp only [IntKind.wrap_i64]; omega
    clear hv hb0
    go_wp2_with fail
    have bA : Below w.heap.size w (wr.alloc (.cells #[.slice (some ⟨sb k, 0, none⟩) S S, .int .i64 (c.hand k : Int)] 113)) := HB.out.alloc HB.out.size _
    have vA : OwV (wr.alloc (.cells #[.slice (some ⟨sb k, 0, none⟩) S S, .int .i64 (c.hand k : Int)] 113)) w.heap.size (.slice ra (Q.vws S c (k * S)).length rc) (Q.vws S c (k * S)) := OwV.below HV.out ((Below.refl _ _).alloc (Nat.le_refl _) _)
    have BA := hidQ bA; have VA := hidQ vA
    clear bA vA
    go_loopw [3, 21] (fun v i wq => ∃ j : Nat, j ≤ S ∧ i = .int .i64 j ∧ OwV wq w.heap.size v (Q.vws S c (k * S + j)) ∧ Below w.heap.size w wq) (fun _ i _ => S - (intOf i).toNat)
    case atStart => exact ⟨0, by omega, rfl, VA.out, BA.out⟩
    case round =>
     clear BA VA HV HB e0 e1
     rename World => wq
     obtain ⟨j, hj, rfl, hv, hb0⟩ := hrel
     obtain ⟨ra, rc, rfl⟩ := own_any hv
     have HV := hidQ hv
     have HB := hidQ hb0
     by_cases hjl : j < S
     · have g0 := S0.out wq hb0 k j hlt hjl
       have g1 := S1.out wq hb0 k j hlt hjl
       have g2 := S2.out wq hb0 k j hlt hjl
       have f2 : IntKind.i64.wrap ((j : Int) + 1) = (j : Int) + 1 := by simp only [IntKind.wrap_i64]; omega
       have vno := hidQ (fun h => Q.vws_no (S := S) (i := k) (j := j) (c := c) hjl h)
       have vyes := hidQ (fun kk h => Q.vws_yes (S := S) (i := k) (j := j) (c := c) (k := kk) hjl h)
       have vlen := Q.vws_len S c (k * S + j)
       have flt : k * S + j < 1024 := by
        have : (k + 1) * S ≤ 16 * 64 := Nat.mul_le_mul (by omega) (by omega)
        rw [Nat.add_mul] at this; omega
       have mem := hidQ (fun kk h => MEM.out k j kk hlt hjl h)
       clear hv hb0
       generalize hks2 : (c.sl k j).key = ky at g0 vno vyes mem
       generalize (c.sl k j).mark = mk at g1 vyes
       generalize (c.sl k j).stamp = st at g2
       clear hks2
       cases ky with
       | none =>
         have vno' := hidQ (vno.out rfl)
         simp only [numO] at g0
         go_wp2_with fail
         go_roundw
         case rel => exact ⟨j + 1, by omega, by simp, by rw [← Nat.add_assoc, vno'.out]; exact OwV.below HV.out ((Below.refl _ _).alloc (Nat.le_refl _) _), HB.out.alloc HB.out.size _⟩
         case measure => simp [intOf]; omega
       | some kk =>
         have vyes' := hidQ (vyes.out kk rfl)
         have hmem := mem.out kk rfl
         have kc := hidQ (KA.out kk hmem)
         have hne := mt num_zero.1 (fun h => h hmem)
         simp only [numO] at g0
         generalize num ks kk = nm at g0 kc hne
         have hne' : ¬ (nm : Int) = 0 := by omega
         go_upto_region 9 with fail
         obtain ⟨U, hU⟩ : ∃ U, U = wq.alloc (.cells #[.int .i64 (nm : Int), .bool mk, .int .i64 (st : Int)] 131) := ⟨_, rfl⟩
         have bU : Below wq.heap.size wq U := by rw [hU]; exact (Below.refl _ _).alloc (Nat.le_refl _) _
         have x0 : U.cell? ⟨wq.heap.size, 0, none⟩ = some (.int .i64 (nm : Int)) := by rw [hU]; simp [go_sem]
         have x1 : U.cell? ⟨wq.heap.size, 1, none⟩ = some (.bool mk) := by rw [hU]; simp [go_sem]
         have sU : wq.heap.size < U.heap.size := by rw [hU]; simp
         have wU : Below w.heap.size w U := HB.out.trans (bU.mono HB.out.size)
         have vU : OwV U w.heap.size (.slice ra (Q.vws S c (k * S + j)).length rc) (Q.vws S c (k * S + j)) := OwV.below HV.out bU
         rw [← hU]
         clear hU g0 g1 g2 bU
         have A0 : Below U.heap.size U U.drew := (Below.refl _ _).drew
         have KB : ∀ u, Below U.heap.size U u → (fun u : World => u.cell? ⟨wq.heap.size, 0, none⟩ = some (.int .i64 (nm : Int)) ∧ u.cell? ⟨wq.heap.size, 1, none⟩ = some (.bool mk)) u := fun u b => ⟨(b.cell (p := ⟨wq.heap.size, 0, none⟩) sU).trans x0, (b.cell (p := ⟨wq.heap.size, 1, none⟩) sU).trans x1⟩
         have OA : ∀ (u : World) (o : Obj), Below U.heap.size U u → (u.alloc o).ownsRow w.heap.size 38 5 (.slice ra (Q.vws S c (k * S + j)).length rc) (Q.vws S c (k * S + j)).length (VL (Q.vws S c (k * S + j))) := fun u o b => OwV.below vU (b.alloc b.size o)
         have SZ : ∀ (u : World) (o : Obj), Below U.heap.size U u → w.heap.size ≤ (u.alloc o).heap.size := fun u o b => Nat.le_trans wU.size (b.alloc b.size o).size
         have vlt : ∀ g, Value.ownBlock (.slice ra (Q.vws S c (k * S + j)).length rc) = some g → g < wq.heap.size ∧ w.heap.size ≤ g := fun g e => own_lt HV.out e
         have KC : ∀ (u : World) (o : Obj) (w1 : World), Below U.heap.size U u → Tn (fun k' => Value.ownBlock (.slice ra (Q.vws S c (k * S + j)).length rc) = some k') (u.alloc o) w1 → (fun u : World => u.cell? ⟨wq.heap.size, 0, none⟩ = some (.int .i64 (nm : Int)) ∧ u.cell? ⟨wq.heap.size, 1, none⟩ = some (.bool mk)) w1 := fun u o w1 b t => by
          have b2 := b.alloc b.size o
          have hs := Nat.lt_of_lt_of_le sU b2.size
          have hn : ¬ Value.ownBlock (.slice ra (Q.vws S c (k * S + j)).length rc) = some wq.heap.size := fun e => by have := (vlt _ e).1; omega
          exact ⟨(t.cell 0 hs hn).trans (KB _ b2).1, (t.cell 1 hs hn).trans (KB _ b2).2⟩
         have hvl : (Q.vws S c (k * S + j)).length < 1000000 := by omega
         go_region_held3 (fun u : World => u.cell? ⟨wq.heap.size, 0, none⟩ = some (.int .i64 (nm : Int)) ∧ u.cell? ⟨wq.heap.size, 1, none⟩ = some (.bool mk)) (first | with_reducible exact KB _ A0 | with_reducible exact KB _ B1 | with_reducible exact KB _ (B1.alloc B1.size _) | with_reducible exact KC _ _ _ B1 t1)
          (first
            | (go_at_call 69; refine (kc.out _ (by with_reducible exact wU.trans (A0.mono wU.size))).mono ?_; rintro e u1 ⟨rfl, hb1⟩; have B1 := keepC1 A0 hb1; clear hb1)
            | (refine apV_step rfl _ _ rfl _ w.heap.size (.slice ra (Q.vws S c (k * S + j)).length rc) (Q.vws S c (k * S + j)) rfl (by with_reducible exact OA _ _ B1) u1.heap.size 1 rfl (k, j, kk, mk) ?c0 ?c1 ?c2 ?c3 ?c4 hvl (by with_reducible exact SZ _ _ B1) ?_; (case c0 => simp [go_sem]); (case c1 => simp [go_sem]); (case c2 => simp [go_sem]); (case c3 => simp [go_sem]); (case c4 => simp [go_sem]); intro g cap w1 own1 t1 at1 lt1))
         go_wp2_with fail
         go_roundw
         case rel =>
          have wu1 := wU.trans (B1.mono wU.size)
          have wu2 := wu1.alloc wu1.size (.cells #[.int .i64 (k : Int), .int .i64 (j : Int), .int .i64 kk.1, .int .i64 kk.2, .bool mk] 38)
          refine ⟨j + 1, by omega, by simp, ?_, wu2.trans (t1.under _ wu2.size (fun g e => (vlt g e).2))⟩
          rw [← Nat.add_assoc, vyes'.out]
          exact own1
         case measure => simp [intOf]; omega
     · have hjn : j = S := by omega
       subst hjn
       clear hv hb0
       go_wp2_with fail
       refine ⟨⟨k + 1, by omega, by simp, ?_, HB.out⟩, by simp [intOf]; omega⟩
       rw [show (k + 1) * j = k * j + j by rw [Nat.add_mul, Nat.one_mul]]
       exact HV.out
  · have hkn : k = N := by omega
    subst hkn
    clear hv hb0
    go_wp2_with fail
    go_ret
    exact ⟨_, rfl, HV.out, HB.out⟩

end Go.Proofs.Ytdpbhbpcpnlbkaa
