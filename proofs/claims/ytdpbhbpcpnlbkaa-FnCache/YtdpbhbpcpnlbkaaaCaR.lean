import Derived.Test.YtdpbhbpcpnlbkaaaCaQ
set_option maxHeartbeats 4000000
namespace Go.Proofs.Ytdpbhbpcpnlbkaa
open Go.RowKit Go.Maps
set_option linter.unusedVariables false
set_option maxRecDepth 100000
def rpc (done : Bool) (n : Nat) (tv ov : Value) (c : Q.Cch) (sv : Value) : Array Value := #[.bool true, .bool done, .int .i64 n, tv, ov, .int .i64 c.hits, .int .i64 c.made, .int .i64 c.pub, .int .i64 c.ev, .int .i64 c.lost, sv]

def zrp : Array Value := #[.bool false, .bool false, .int .i64 0, .slice none 0 0, .slice none 0 0, .int .i64 0, .int .i64 0, .int .i64 0, .int .i64 0, .int .i64 0, .slice none 0 0]

theorem below11 {n g : Nat} {w u : World} (b : Below n w u) (h : n ≤ g) (x0 x1 x2 x3 x4 x5 x6 x7 x8 x9 x10 : Value) : Below n w (((((((((((u.setCell ⟨g, 0, none⟩ x0).setCell ⟨g, 1, none⟩ x1).setCell ⟨g, 2, none⟩ x2).setCell ⟨g, 3, none⟩ x3).setCell ⟨g, 4, none⟩ x4).setCell ⟨g, 5, none⟩ x5).setCell ⟨g, 6, none⟩ x6).setCell ⟨g, 7, none⟩ x7).setCell ⟨g, 8, none⟩ x8).setCell ⟨g, 9, none⟩ x9).setCell ⟨g, 10, none⟩ x10) := (((((((((((b.setCell (p := ⟨g, 0, none⟩) h x0).setCell (p := ⟨g, 1, none⟩) h x1).setCell (p := ⟨g, 2, none⟩) h x2).setCell (p := ⟨g, 3, none⟩) h x3).setCell (p := ⟨g, 4, none⟩) h x4).setCell (p := ⟨g, 5, none⟩) h x5).setCell (p := ⟨g, 6, none⟩) h x6).setCell (p := ⟨g, 7, none⟩) h x7).setCell (p := ⟨g, 8, none⟩) h x8).setCell (p := ⟨g, 9, none⟩) h x9).setCell (p := ⟨g, 10, none⟩) h x10)

theorem tn11 (u : World) (g : Nat) (x0 x1 x2 x3 x4 x5 x6 x7 x8 x9 x10 : Value) : Tn (fun k => k = g) u (((((((((((u.setCell ⟨g, 0, none⟩ x0).setCell ⟨g, 1, none⟩ x1).setCell ⟨g, 2, none⟩ x2).setCell ⟨g, 3, none⟩ x3).setCell ⟨g, 4, none⟩ x4).setCell ⟨g, 5, none⟩ x5).setCell ⟨g, 6, none⟩ x6).setCell ⟨g, 7, none⟩ x7).setCell ⟨g, 8, none⟩ x8).setCell ⟨g, 9, none⟩ x9).setCell ⟨g, 10, none⟩ x10) := (((((((((((Tn.set (w := u) (fun k => k = g) g 0 x0 rfl).trans (Tn.set _ g 1 x1 rfl)).trans (Tn.set _ g 2 x2 rfl)).trans (Tn.set _ g 3 x3 rfl)).trans (Tn.set _ g 4 x4 rfl)).trans (Tn.set _ g 5 x5 rfl)).trans (Tn.set _ g 6 x6 rfl)).trans (Tn.set _ g 7 x7 rfl)).trans (Tn.set _ g 8 x8 rfl)).trans (Tn.set _ g 9 x9 rfl)).trans (Tn.set _ g 10 x10 rfl))

theorem cls11 {u : World} {g : Nat} {t : TypeId} {z0 z1 z2 z3 z4 z5 z6 z7 z8 z9 z10 : Value} (z : Cls u g #[z0, z1, z2, z3, z4, z5, z6, z7, z8, z9, z10] t) (x0 x1 x2 x3 x4 x5 x6 x7 x8 x9 x10 : Value) : Cls (((((((((((u.setCell ⟨g, 0, none⟩ x0).setCell ⟨g, 1, none⟩ x1).setCell ⟨g, 2, none⟩ x2).setCell ⟨g, 3, none⟩ x3).setCell ⟨g, 4, none⟩ x4).setCell ⟨g, 5, none⟩ x5).setCell ⟨g, 6, none⟩ x6).setCell ⟨g, 7, none⟩ x7).setCell ⟨g, 8, none⟩ x8).setCell ⟨g, 9, none⟩ x9).setCell ⟨g, 10, none⟩ x10) g #[x0, x1, x2, x3, x4, x5, x6, x7, x8, x9, x10] t := (((((((((((z.set 0 x0 #[x0, z1, z2, z3, z4, z5, z6, z7, z8, z9, z10] (by rfl)).set 1 x1 #[x0, x1, z2, z3, z4, z5, z6, z7, z8, z9, z10] (by rfl)).set 2 x2 #[x0, x1, x2, z3, z4, z5, z6, z7, z8, z9, z10] (by rfl)).set 3 x3 #[x0, x1, x2, x3, z4, z5, z6, z7, z8, z9, z10] (by rfl)).set 4 x4 #[x0, x1, x2, x3, x4, z5, z6, z7, z8, z9, z10] (by rfl)).set 5 x5 #[x0, x1, x2, x3, x4, x5, z6, z7, z8, z9, z10] (by rfl)).set 6 x6 #[x0, x1, x2, x3, x4, x5, x6, z7, z8, z9, z10] (by rfl)).set 7 x7 #[x0, x1, x2, x3, x4, x5, x6, x7, z8, z9, z10] (by rfl)).set 8 x8 #[x0, x1, x2, x3, x4, x5, x6, x7, x8, z9, z10] (by rfl)).set 9 x9 #[x0, x1, x2, x3, x4, x5, x6, x7, x8, x9, z10] (by rfl)).set 10 x10 #[x0, x1, x2, x3, x4, x5, x6, x7, x8, x9, x10] (by rfl))

theorem own_ne {w : World} {base base' n n' sz sz' g : Nat} {t t' : TypeId} {x x' : Value} {xs xs' : List Value} (h : w.ownsRow base t sz x n xs) (h' : w.ownsRow base' t' sz' x' n' xs') (ht : t ≠ t') (e : x.ownBlock = some g) : x'.ownBlock ≠ some g := by
 rcases h.2 with ⟨h1, _⟩ | ⟨g1, cap1, cur1, e1, hg1, hh1, _⟩
 · rw [h1] at e; cases e
 · rw [e1] at e; simp [Value.ownBlock] at e; subst e
   intro e2
   rcases h'.2 with ⟨h2, _⟩ | ⟨g2, cap2, cur2, e3, hg2, hh2, _⟩
   · rw [h2] at e2; cases e2
   · rw [e3] at e2; simp [Value.ownBlock] at e2; subst e2
     rw [hh1] at hh2; injection hh2 with hh2; injection hh2 with _ hh2; exact ht hh2

def RJ (U0 : World) (rb : Nat) (done : Bool) (n : Nat) (c : Q.Cch) (ts len ob : Nat → Nat) (vs : List (Nat × Nat × (Int × Int) × Bool)) (a b : Nat) (tv ov sv : Value) (wr : World) : Prop :=
 Cls wr rb (rpc done n tv ov c sv) 32 ∧ wr.ownsRow U0.heap.size 3 1 tv a ((List.range a).map fun t => .int .i64 (ts t)) ∧ wr.ownsRow U0.heap.size 26 1 ov b ((List.range b).map fun t => .slice (some ⟨ob t, 0, none⟩) (len t) (len t)) ∧ OwV wr U0.heap.size sv vs ∧ Below U0.heap.size U0 wr

theorem RJ.step5 {U0 wr U w1 : World} {rb n k b : Nat} {done : Bool} {c : Q.Cch} {ts len ob : Nat → Nat} {vs : List (Nat × Nat × (Int × Int) × Bool)} {tv tv' ov sv : Value} (h : RJ U0 rb done n c ts len ob vs k b tv ov sv wr) (bU : Below wr.heap.size wr U) (t1 : Tn (fun k' => tv.ownBlock = some k') U w1)
 (own1 : w1.ownsRow U0.heap.size 3 1 tv' (k + 1) (((List.range k).map fun t => .int .i64 (ts t)) ++ [.int .i64 (ts k : Int)])) (hrb : U0.heap.size ≤ rb) : RJ U0 rb done n c ts len ob vs (k + 1) b tv' ov sv (w1.setCell ⟨rb, 3, none⟩ tv') := by
 obtain ⟨hC, ht, ho, hv, hb⟩ := h
 have c1 : Cls w1 rb (rpc done n tv ov c sv) 32 := (t1.block rb (hC.below bU).lt (own_ty ht (Bf.cls hC) (by decide))).trans (hC.below bU)
 have c1' : Cls w1 rb #[.bool true, .bool done, .int .i64 n, tv, ov, .int .i64 c.hits, .int .i64 c.made, .int .i64 c.pub, .int .i64 c.ev, .int .i64 c.lost, sv] 32 := c1
 have o1 := own_tn (own_tn ho (Tn.below (fun _ => False) bU) (fun _ _ h => h)) t1 (fun g e e2 => own_ne ht ho (by decide) e2 e)
 have v1 := own_tn (own_tn hv (Tn.below (fun _ => False) bU) (fun _ _ h => h)) t1 (fun g e e2 => own_ne ht hv (by decide) e2 e)
 have ts1 := Tn.set (w := w1) (fun k => k = rb) rb 3 tv' rfl
 have b1 : Below U0.heap.size U0 U := hb.trans (bU.mono hb.size)
 refine ⟨c1'.set 3 tv' _ rfl, ?_, own_tn o1 ts1 (fun g e e2 => own_ty o1 (Bf.cls c1) (by decide) (e2 ▸ e)), own_tn v1 ts1 (fun g e e2 => own_ty v1 (Bf.cls c1) (by decide) (e2 ▸ e)), ?_⟩
 · rw [List.range_succ, List.map_append]
   exact own_tn own1 ts1 (fun g e e2 => own_ty own1 (Bf.cls c1) (by decide) (e2 ▸ e))
 · exact (b1.trans (t1.under _ b1.size (fun g e => (own_lt ht e).2))).setCell (p := ⟨rb, 3, none⟩) hrb _

theorem RJ.step6 {U0 wr U w1 : World} {rb n k a : Nat} {done : Bool} {c : Q.Cch} {ts len ob : Nat → Nat} {vs : List (Nat × Nat × (Int × Int) × Bool)} {tv ov ov' sv : Value} (h : RJ U0 rb done n c ts len ob vs a k tv ov sv wr) (bU : Below wr.heap.size wr U) (t1 : Tn (fun k' => ov.ownBlock = some k') U w1)
 (own1 : w1.ownsRow U0.heap.size 26 1 ov' (k + 1) (((List.range k).map fun t => .slice (some ⟨ob t, 0, none⟩) (len t) (len t)) ++ [.slice (some ⟨ob k, 0, none⟩) (len k) (len k)])) (hrb : U0.heap.size ≤ rb) : RJ U0 rb done n c ts len ob vs a (k + 1) tv ov' sv (w1.setCell ⟨rb, 4, none⟩ ov') := by
 obtain ⟨hC, ht, ho, hv, hb⟩ := h
 have c1 : Cls w1 rb (rpc done n tv ov c sv) 32 := (t1.block rb (hC.below bU).lt (own_ty ho (Bf.cls hC) (by decide))).trans (hC.below bU)
 have c1' : Cls w1 rb #[.bool true, .bool done, .int .i64 n, tv, ov, .int .i64 c.hits, .int .i64 c.made, .int .i64 c.pub, .int .i64 c.ev, .int .i64 c.lost, sv] 32 := c1
 have o1 := own_tn (own_tn ht (Tn.below (fun _ => False) bU) (fun _ _ h => h)) t1 (fun g e e2 => own_ne ho ht (by decide) e2 e)
 have v1 := own_tn (own_tn hv (Tn.below (fun _ => False) bU) (fun _ _ h => h)) t1 (fun g e e2 => own_ne ho hv (by decide) e2 e)
 have ts1 := Tn.set (w := w1) (fun k => k = rb) rb 4 ov' rfl
 have b1 : Below U0.heap.size U0 U := hb.trans (bU.mono hb.size)
 refine ⟨c1'.set 4 ov' _ rfl, own_tn o1 ts1 (fun g e e2 => own_ty o1 (Bf.cls c1) (by decide) (e2 ▸ e)), ?_, own_tn v1 ts1 (fun g e e2 => own_ty v1 (Bf.cls c1) (by decide) (e2 ▸ e)), ?_⟩
 · rw [List.range_succ, List.map_append]
   exact own_tn own1 ts1 (fun g e e2 => own_ty own1 (Bf.cls c1) (by decide) (e2 ▸ e))
 · exact (b1.trans (t1.under _ b1.size (fun g e => (own_lt ho e).2))).setCell (p := ⟨rb, 4, none⟩) hrb _

theorem report_any {w : World} {L : Lay} {R : Raw} {c : Q.Cch} (d : Dim L) (ri : RI w L R) (lc : LC L R c) (hks : R.ks.length < 100000) (gb gc n : Nat) (done : Bool) (hg : gb < w.heap.size) (hT : L.T ≤ 1000) (row : ∀ t, t < L.T → w.cell? ⟨gb, t, none⟩ = some (.pointer (some ⟨L.kb t, 0, none⟩)))
 (ts : Nat → Nat) (k2 : ∀ t, t < L.T → R.k t 2 = .slice (some ⟨L.ob t, 0, none⟩) (L.len t) (L.len t)) (k5 : ∀ t, t < L.T → R.k t 5 = .int .i64 (ts t)) :
 Calls Try.prog 31 #[.pointer (some ⟨L.cb, 0, none⟩), .slice (some ⟨gb, 0, none⟩) L.T gc, .int .i64 n, .bool done] w fun e w' => ∃ tv ov sv, e = .returned (.agg (rpc done n tv ov c sv)) ∧ w'.ownsRow w.heap.size 3 1 tv L.T ((List.range L.T).map fun t => .int .i64 (ts t)) ∧ w'.ownsRow w.heap.size 26 1 ov L.T ((List.range L.T).map fun t => .slice (some ⟨L.ob t, 0, none⟩) (L.len t) (L.len t)) ∧ OwV w' w.heap.size sv (Q.vws L.S c (L.N * L.S)) ∧ Below w.heap.size w w' := by
 obtain ⟨i0, E0⟩ := elI
 obtain ⟨i1, E1⟩ := elS
 have HE0 := hidQ E0; have HE1 := hidQ E1
 have KV := hidQ (fun (v : World) (hv : Below w.heap.size w v) => views_any d (ri.below hv) lc hks)
 have lcb := ri.c.lt
 have C0 := (ri.c.cell 0 (by omega)).trans (congrArg some lc.c0)
 have C1 := (ri.c.cell 1 (by omega)).trans (congrArg some lc.c1)
 have C2 := (ri.c.cell 2 (by omega)).trans (congrArg some lc.c2)
 have C3 := (ri.c.cell 3 (by omega)).trans (congrArg some lc.c3)
 have C4 := (ri.c.cell 4 (by omega)).trans (congrArg some lc.c4)
 have KR := hidQ (fun (v : World) (hv : Below w.heap.size w v) t (ht : t < L.T) => (hv.cell (p := ⟨gb, t, none⟩) hg).trans (row t ht))
 have K2 := hidQ (fun (v : World) (hv : Below w.heap.size w v) t (ht : t < L.T) => (hv.cell (p := ⟨L.kb t, 2, none⟩) (ri.k t ht).lt).trans (((ri.k t ht).cell 2 (by omega)).trans (congrArg some (k2 t ht))))
 have K5 := hidQ (fun (v : World) (hv : Below w.heap.size w v) t (ht : t < L.T) => (hv.cell (p := ⟨L.kb t, 5, none⟩) (ri.k t ht).lt).trans (((ri.k t ht).cell 5 (by omega)).trans (congrArg some (k5 t ht))))
 clear E0 E1 d ri lc hks hg row k2 k5
 obtain ⟨cb, hcb⟩ : ∃ cb, L.cb = cb := ⟨_, rfl⟩
 obtain ⟨T, hTT⟩ : ∃ T, L.T = T := ⟨_, rfl⟩
 obtain ⟨ob, hob⟩ : ∃ ob, L.ob = ob := ⟨_, rfl⟩
 obtain ⟨kb, hkb⟩ : ∃ kb, L.kb = kb := ⟨_, rfl⟩
 obtain ⟨len, hlen⟩ : ∃ len, L.len = len := ⟨_, rfl⟩
 obtain ⟨vs, hvs⟩ : ∃ vs, Q.vws L.S c (L.N * L.S) = vs := ⟨_, rfl⟩
 rw [hcb] at KV C0 C1 C2 C3 C4 lcb ⊢
 rw [hTT] at KR K2 K5 hT ⊢
 rw [hob, hlen] at K2 ⊢
 rw [hkb] at KR K2 K5
 rw [hvs] at KV ⊢
 clear hcb hTT hob hkb hlen hvs
 go_enter Try.func31, Try.ntmps31
 go_upto_region 1 with fail
 obtain ⟨U0, hU0⟩ : ∃ U, U = w.alloc (.cells zrp 32) := ⟨_, rfl⟩
 have bU : Below w.heap.size w U0 := by rw [hU0]; exact (Below.refl _ _).alloc (Nat.le_refl _) _
 have cU : Cls U0 w.heap.size zrp 32 := by rw [hU0]; exact Cls.new w _ _
 have sU : w.heap.size < U0.heap.size := by rw [hU0]; simp
 unfold zrp at hU0
 rw [← hU0]
 clear hU0
 have A0 : Below w.heap.size w U0.drew := bU.drew
 have A1 : Below w.heap.size w (U0.alloc (.cells zrp 32)).drew := (bU.alloc bU.size _).drew
 have KB : ∀ u : World, Below w.heap.size w u → (fun u : World => u.cell? ⟨cb, 0, none⟩ = some (.int .i64 c.hits) ∧ u.cell? ⟨cb, 1, none⟩ = some (.int .i64 c.made) ∧ u.cell? ⟨cb, 2, none⟩ = some (.int .i64 c.pub) ∧ u.cell? ⟨cb, 3, none⟩ = some (.int .i64 c.ev) ∧ u.cell? ⟨cb, 4, none⟩ = some (.int .i64 c.lost)) u := fun u b => ⟨(b.cell (p := ⟨cb, 0, none⟩) lcb).trans C0, (b.cell (p := ⟨cb, 1, none⟩) lcb).trans C1, (b.cell (p := ⟨cb, 2, none⟩) lcb).trans C2, (b.cell (p := ⟨cb, 3, none⟩) lcb).trans C3, (b.cell (p := ⟨cb, 4, none⟩) lcb).trans C4⟩
 have Z0 : Cls (U0.alloc (.cells zrp 32)).drew U0.heap.size zrp 32 := Cls.new U0 zrp _
 unfold zrp at A1
 have hz : (U0.alloc (.cells zrp 32)).drew = (U0.alloc (.cells #[.bool false, .bool false, .int .i64 0, .slice none 0 0, .slice none 0 0, .int .i64 0, .int .i64 0, .int .i64 0, .int .i64 0, .int .i64 0, .slice none 0 0] 32)).drew := rfl
 rw [hz] at Z0
 clear hz
 have us : w.heap.size ≤ U0.heap.size := bU.size
 have F0 : Below U0.heap.size U0 U0.drew := (Below.refl _ _).drew
 have F1 : Below U0.heap.size U0 (U0.alloc (.cells #[.bool false, .bool false, .int .i64 0, .slice none 0 0, .slice none 0 0, .int .i64 0, .int .i64 0, .int .i64 0, .int .i64 0, .int .i64 0, .slice none 0 0] 32)).drew := ((Below.refl _ _).alloc (Nat.le_refl _) _).drew
 clear C0 C1 C2 C3 C4
 go_cut [9] (fun p wx => ∃ rb sv, p = .pointer (some ⟨rb, 0, none⟩) ∧ Cls wx rb (rpc done n (.slice none 0 0) (.slice none 0 0) c sv) 32 ∧ OwV wx U0.heap.size sv vs ∧ U0.heap.size ≤ rb ∧ Below U0.heap.size U0 wx)
 case first =>
  go_region_held3 (fun u : World => u.cell? ⟨cb, 0, none⟩ = some (.int .i64 c.hits) ∧ u.cell? ⟨cb, 1, none⟩ = some (.int .i64 c.made) ∧ u.cell? ⟨cb, 2, none⟩ = some (.int .i64 c.pub) ∧ u.cell? ⟨cb, 3, none⟩ = some (.int .i64 c.ev) ∧ u.cell? ⟨cb, 4, none⟩ = some (.int .i64 c.lost)) (first | with_reducible exact KB _ A0 | with_reducible exact KB _ A1 | with_reducible exact KB _ B1 | with_reducible exact KB _ (B1.alloc B1.size _) | with_reducible exact KB _ (below11 B1 us _ _ _ _ _ _ _ _ _ _ _))
   (first
     | (go_at_call 60; refine (KV.out _ (by with_reducible exact A0)).mono ?_; rintro e u1 ⟨sv, rfl, hv1, hb1⟩; obtain ⟨sa, sc, rfl⟩ := own_any hv1; have B1 := A0.trans (hb1.mono A0.size); have D1 : Below U0.heap.size U0 u1 := F0.trans (hb1.mono F0.size))
     | (go_at_call 60; refine (KV.out _ (by with_reducible exact A1)).mono ?_; rintro e u1 ⟨sv, rfl, hv1, hb1⟩; obtain ⟨sa, sc, rfl⟩ := own_any hv1; have B1 := A1.trans (hb1.mono A1.size); have D1 : Below U0.heap.size U0 u1 := F1.trans (hb1.mono F1.size); have Z1 := Z0.below hb1; have z0 := Z1.cell 0 rfl; have z1 := Z1.cell 1 rfl; have z2 := Z1.cell 2 rfl; have z3 := Z1.cell 3 rfl; have z4 := Z1.cell 4 rfl; have z5 := Z1.cell 5 rfl; have z6 := Z1.cell 6 rfl; have z7 := Z1.cell 7 rfl; have z8 := Z1.cell 8 rfl; have z9 := Z1.cell 9 rfl; have z10 := Z1.cell 10 rfl; have zf := Z1.frozen))
  all_goals go_wp2_with fail
  all_goals go_meet
  · exact ⟨_, _, rfl, Cls.new u1 _ _, OwV.below hv1 ((Below.refl _ _).alloc (Nat.le_refl _) _), D1.size, D1.alloc D1.size _⟩
  · refine ⟨_, _, rfl, cls11 Z1 _ _ _ _ _ _ _ _ _ _ _, ?_, Nat.le_refl _, below11 D1 (Nat.le_refl _) _ _ _ _ _ _ _ _ _ _ _⟩
    exact own_mono (own_tn hv1 (tn11 _ _ _ _ _ _ _ _ _ _ _ _ _) (fun g e e2 => own_ty hv1 (Bf.cls Z1) (by decide) (e2 ▸ e))) F1.size
 case rest =>
  clear KB A0 A1 Z0 F0 F1 us KV
  rename World => wx
  obtain ⟨rb, sv, rfl, hC, hv, hrb, hbx⟩ := hcut
  obtain ⟨sa, sc, rfl⟩ := own_any hv
  have SV := hidQ hv
  clear hv
  have BB := hidQ (fun (v : World) (hv : Below U0.heap.size U0 v) => (show Below w.heap.size w v from bU.trans (hv.mono bU.size)))
  have CU := hidQ cU
  clear cU
  go_wp2_with fail
  go_loopw [44] (fun i wr => ∃ (k : Nat) (tv ov : Value), k ≤ T ∧ i = .int .i64 k ∧ Cls wr rb (rpc done n tv ov c (.slice sa vs.length sc)) 32 ∧ wr.ownsRow U0.heap.size 3 1 tv k ((List.range k).map fun t => .int .i64 (ts t)) ∧ wr.ownsRow U0.heap.size 26 1 ov k ((List.range k).map fun t => .slice (some ⟨ob t, 0, none⟩) (len t) (len t)) ∧ OwV wr U0.heap.size (.slice sa vs.length sc) vs ∧ Below U0.heap.size U0 wr) (fun i _ => T - (intOf i).toNat)
  case atStart => exact ⟨0, _, _, by omega, rfl, hC, World.ownsRow_nil _ _ _ _, World.ownsRow_nil _ _ _ _, SV.out, hbx⟩
  case round =>
   obtain ⟨k, tv, ov, hk, rfl, hC, ht, ho, hv, hb0⟩ := hrel
   obtain ⟨ta, tc, rfl⟩ := own_any ht
   obtain ⟨oa, oc, rfl⟩ := own_any ho
   have HT := hidQ ht; have HO := hidQ ho; have HV := hidQ hv; have HB := hidQ hb0; have HC := hidQ hC
   have hC2 : Cls wr rb #[.bool true, .bool done, .int .i64 n, .slice ta k tc, .slice oa k oc, .int .i64 c.hits, .int .i64 c.made, .int .i64 c.pub, .int .i64 c.ev, .int .i64 c.lost, .slice sa vs.length sc] 32 := hC
   by_cases hlt : k < T
   · have e0 := KR.out wr (BB.out wr hb0) k hlt
     have e5 := K5.out wr (BB.out wr hb0) k hlt
     have q3 := hC2.cell 3 rfl
     have nT := own_ty ht (Bf.cls hC) (by decide)
     have tl := fun g => own_lt (g := g) ht
     obtain ⟨U, hU⟩ : ∃ U, U = (wr.alloc (.cells #[.int .i64 (ts k : Int)] 3)).drew := ⟨_, rfl⟩
     have bU1 : Below wr.heap.size wr U := by rw [hU]; exact ((Below.refl _ _).alloc (Nat.le_refl _) _).drew
     have uU : U.ownsRow U0.heap.size 3 1 (.slice ta k tc) k ((List.range k).map fun t => .int .i64 (ts t)) := own_tn ht (Tn.below (fun _ => False) bU1) (fun _ _ h => h)
     have cU1 := hC2.below bU1
     have xU : U.cell? ⟨wr.heap.size, 0, none⟩ = some (.int .i64 (ts k : Int)) := by rw [hU]; simp [go_sem]
     have hbs : U0.heap.size ≤ U.heap.size := Nat.le_trans hb0.size bU1.size
     have q3u : (wr.alloc (.cells #[.int .i64 (ts k : Int)] 3)).cell? ⟨rb, 3, none⟩ = some (.slice ta k tc) := (hC2.below ((Below.refl _ _).alloc (Nat.le_refl _) _)).cell 3 rfl
     have HU := hidQ hU
     have AFT := hidQ (fun (g cap : Nat) (w1 : World) (own1 : w1.ownsRow U0.heap.size 3 1 (.slice (some ⟨g, 0, none⟩) (k + 1) cap) (k + 1) (((List.range k).map fun t => .int .i64 (ts t)) ++ [.int .i64 (ts k : Int)])) (t1 : Tn (fun k' => Value.ownBlock (.slice ta k tc) = some k') U w1) =>
      show (w1.cell? ⟨rb, 3, none⟩ = some (.slice ta k tc) ∧ w1.frozen? ⟨rb, 3, none⟩ = false) ∧ RJ U0 rb done n c ts len ob vs (k + 1) k (.slice (some ⟨g, 0, none⟩) (k + 1) cap) (.slice oa k oc) (.slice sa vs.length sc) (w1.setCell ⟨rb, 3, none⟩ (.slice (some ⟨g, 0, none⟩) (k + 1) cap)) from by
       have c1 : Cls w1 rb #[.bool true, .bool done, .int .i64 n, .slice ta k tc, .slice oa k oc, .int .i64 c.hits, .int .i64 c.made, .int .i64 c.pub, .int .i64 c.ev, .int .i64 c.lost, .slice sa vs.length sc] 32 := (t1.block rb cU1.lt nT).trans cU1
       exact ⟨⟨c1.cell 3 rfl, c1.frozen 3⟩, RJ.step5 ⟨HC.out, HT.out, HO.out, HV.out, HB.out⟩ bU1 t1 own1 hrb⟩)
     clear ht ho hv hb0 hC hC2 hU
     go_upto_region 5 with fail
     go_cut [] (fun wy => ∃ g cap, RJ U0 rb done n c ts len ob vs (k + 1) k (.slice (some ⟨g, 0, none⟩) (k + 1) cap) (.slice oa k oc) (.slice sa vs.length sc) wy)
     case first =>
      go_region_law (refine ap_step HE0.out rfl _ _ rfl _ U0.heap.size (.slice ta k tc) k _ (by simp [Act.eval]) (by with_reducible exact HU.out ▸ uU) wr.heap.size 1 (by simp [Act.eval]) (.int .i64 (ts k : Int)) (HU.out ▸ xU) rfl (by omega) (HU.out ▸ hbs) ?_; intro g cap w1 own1 t1 at1 lt1; obtain ⟨⟨x7, x8⟩, fin⟩ := AFT.out g cap w1 own1 (HU.out ▸ t1); have FIN := hidQ fin; clear fin)
      all_goals go_wp2_with fail
      all_goals go_meet
      all_goals exact ⟨_, _, FIN.out⟩
     case rest =>
      clear AFT HU q3u hbs xU cU1 uU bU1 tl nT q3 e5 e0 HT HO HV HB HC U
      rename World => wy
      obtain ⟨g, cap, rj⟩ := hcut
      have RJ0 := hidQ rj
      obtain ⟨hC, ht, ho, hv, hb0⟩ := rj
      have hC2 : Cls wy rb #[.bool true, .bool done, .int .i64 n, .slice (some ⟨g, 0, none⟩) (k + 1) cap, .slice oa k oc, .int .i64 c.hits, .int .i64 c.made, .int .i64 c.pub, .int .i64 c.ev, .int .i64 c.lost, .slice sa vs.length sc] 32 := hC
      have e2 := K2.out wy (BB.out wy hb0) k hlt
      have q4 := hC2.cell 4 rfl
      obtain ⟨U, hU⟩ : ∃ U, U = (wy.alloc (.cells #[.slice (some ⟨ob k, 0, none⟩) (len k) (len k)] 26)).drew := ⟨_, rfl⟩
      have bU1 : Below wy.heap.size wy U := by rw [hU]; exact ((Below.refl _ _).alloc (Nat.le_refl _) _).drew
      have uU : U.ownsRow U0.heap.size 26 1 (.slice oa k oc) k ((List.range k).map fun t => .slice (some ⟨ob t, 0, none⟩) (len t) (len t)) := own_tn ho (Tn.below (fun _ => False) bU1) (fun _ _ h => h)
      have cU1 := hC2.below bU1
      have nO := own_ty ho (Bf.cls hC) (by decide)
      have xU : U.cell? ⟨wy.heap.size, 0, none⟩ = some (.slice (some ⟨ob k, 0, none⟩) (len k) (len k)) := by rw [hU]; simp [go_sem]
      have hbs : U0.heap.size ≤ U.heap.size := Nat.le_trans hb0.size bU1.size
      have q4u : (wy.alloc (.cells #[.slice (some ⟨ob k, 0, none⟩) (len k) (len k)] 26)).cell? ⟨rb, 4, none⟩ = some (.slice oa k oc) := (hC2.below ((Below.refl _ _).alloc (Nat.le_refl _) _)).cell 4 rfl
      have HU := hidQ hU
      have f1 : IntKind.i64.wrap ((k : Int) + 1) = (k : Int) + 1 := by simp only [IntKind.wrap_i64]; omega
      have AFT := hidQ (fun (g1 cap1 : Nat) (w1 : World) (own1 : w1.ownsRow U0.heap.size 26 1 (.slice (some ⟨g1, 0, none⟩) (k + 1) cap1) (k + 1) (((List.range k).map fun t => .slice (some ⟨ob t, 0, none⟩) (len t) (len t)) ++ [.slice (some ⟨ob k, 0, none⟩) (len k) (len k)])) (t1 : Tn (fun k' => Value.ownBlock (.slice oa k oc) = some k') U w1) =>
       show (w1.cell? ⟨rb, 4, none⟩ = some (.slice oa k oc) ∧ w1.frozen? ⟨rb, 4, none⟩ = false) ∧ RJ U0 rb done n c ts len ob vs (k + 1) (k + 1) (.slice (some ⟨g, 0, none⟩) (k + 1) cap) (.slice (some ⟨g1, 0, none⟩) (k + 1) cap1) (.slice sa vs.length sc) (w1.setCell ⟨rb, 4, none⟩ (.slice (some ⟨g1, 0, none⟩) (k + 1) cap1)) from by
        have c1 : Cls w1 rb #[.bool true, .bool done, .int .i64 n, .slice (some ⟨g, 0, none⟩) (k + 1) cap, .slice oa k oc, .int .i64 c.hits, .int .i64 c.made, .int .i64 c.pub, .int .i64 c.ev, .int .i64 c.lost, .slice sa vs.length sc] 32 := (t1.block rb cU1.lt nO).trans cU1
        exact ⟨⟨c1.cell 4 rfl, c1.frozen 4⟩, RJ.step6 RJ0.out bU1 t1 own1 hrb⟩)
      clear ht ho hv hb0 hC hC2 hU
      go_upto_region 6 with fail
      go_region_law (refine ap_step HE1.out rfl _ _ rfl _ U0.heap.size (.slice oa k oc) k _ (by simp [Act.eval]) (by with_reducible exact HU.out ▸ uU) wy.heap.size 1 (by simp [Act.eval]) (.slice (some ⟨ob k, 0, none⟩) (len k) (len k)) (HU.out ▸ xU) rfl (by omega) (HU.out ▸ hbs) ?_; intro g1 cap1 w1 own1 t1 at1 lt1; obtain ⟨⟨x7, x8⟩, fin⟩ := AFT.out g1 cap1 w1 own1 (HU.out ▸ t1); have FIN := hidQ fin; clear fin)
      all_goals go_wp2_with fail
      all_goals go_roundw
      all_goals first | exact ⟨k + 1, _, _, by omega, by simp, FIN.out⟩ | (simp [intOf]; omega)
   · have hkn : k = T := by omega
     subst hkn
     have z := CU.out.below hb0
     have hne : rb ≠ w.heap.size := by omega
     have z' : Cls wr w.heap.size #[.bool false, .bool false, .int .i64 0, .slice none 0 0, .slice none 0 0, .int .i64 0, .int .i64 0, .int .i64 0, .int .i64 0, .int .i64 0, .slice none 0 0] 32 := z
     clear ht ho hv hC z
     have q0 := hC2.cell 0 rfl; have q1 := hC2.cell 1 rfl; have q2 := hC2.cell 2 rfl; have q3 := hC2.cell 3 rfl; have q4 := hC2.cell 4 rfl; have q5 := hC2.cell 5 rfl; have q6 := hC2.cell 6 rfl; have q7 := hC2.cell 7 rfl; have q8 := hC2.cell 8 rfl; have q9 := hC2.cell 9 rfl; have q10 := hC2.cell 10 rfl
     have z0 := z'.cell 0 rfl; have z1 := z'.cell 1 rfl; have z2 := z'.cell 2 rfl; have z3 := z'.cell 3 rfl; have z4 := z'.cell 4 rfl; have z5 := z'.cell 5 rfl; have z6 := z'.cell 6 rfl; have z7 := z'.cell 7 rfl; have z8 := z'.cell 8 rfl; have z9 := z'.cell 9 rfl; have z10 := z'.cell 10 rfl
     have zf := z'.frozen
     have HZ := hidQ z'
     clear hC2 z' hb0
     go_wp2_with fail
     refine bodyPost_ret (v := .agg (rpc done n (.slice ta k tc) (.slice oa k oc) c (.slice sa vs.length sc))) (by simp [results, Try.results31, go_sem, rpc, z0, z1, z2, z3, z4, z5, z6, z7, z8, z9, z10]) rfl ⟨_, _, _, rfl, ?_, ?_, ?_, ?_⟩
     · exact own_mono (own_tn HT.out (tn11 _ _ _ _ _ _ _ _ _ _ _ _ _) (fun g e e2 => own_ty HT.out (Bf.cls HZ.out) (by decide) (e2 ▸ e))) (Nat.le_of_lt sU)
     · exact own_mono (own_tn HO.out (tn11 _ _ _ _ _ _ _ _ _ _ _ _ _) (fun g e e2 => own_ty HO.out (Bf.cls HZ.out) (by decide) (e2 ▸ e))) (Nat.le_of_lt sU)
     · exact own_mono (own_tn HV.out (tn11 _ _ _ _ _ _ _ _ _ _ _ _ _) (fun g e e2 => own_ty HV.out (Bf.cls HZ.out) (by decide) (e2 ▸ e))) (Nat.le_of_lt sU)
     · exact below11 (BB.out _ HB.out) (Nat.le_refl _) _ _ _ _ _ _ _ _ _ _ _

end Go.Proofs.Ytdpbhbpcpnlbkaa
