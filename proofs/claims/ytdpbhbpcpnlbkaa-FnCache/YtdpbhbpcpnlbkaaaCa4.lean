import Derived.Test.YtdpbhbpcpnlbkaaaSh1
import Derived.Test.YtdpbhbpcpnlbkaaaCa3
set_option maxHeartbeats 2000000
namespace Go.Proofs.Ytdpbhbpcpnlbkaa
open Go.RowKit Go.Maps
set_option linter.unusedVariables false
set_option maxRecDepth 100000
theorem Try.infoK : (Try.prog.info? 36).map (fun i => (i.zero, i.size, i.bytes)) = some (some (.agg #[.int .i64 0, .int .i64 0]), 2, 16) := by kernel_rfl

theorem own_tn {p : Nat → Prop} {w v : World} {base n sz : Nat} {t : TypeId} {x : Value} {xs : List Value} (h : w.ownsRow base t sz x n xs) (k : Tn p w v) (hn : ∀ g, x.ownBlock = some g → ¬ p g) : v.ownsRow base t sz x n xs := by
 refine ⟨h.1, ?_⟩
 rcases h.2 with h' | ⟨g, cap', cur, e, hg, hh, r⟩
 · exact .inl h'
 · exact .inr ⟨g, cap', cur, e, hg, by rw [k.block g (Array.getElem?_eq_some_iff.1 hh).1 (hn g (by rw [e]; rfl))]; exact hh, r⟩

theorem own_ty {w : World} {base n sz g m : Nat} {t t' : TypeId} {x : Value} {xs : List Value} {f : Nat → Value} (h : w.ownsRow base t sz x n xs) (k : Bf w g t' m f) (ht : t ≠ t') : x.ownBlock ≠ some g := by
 intro e
 rcases h.2 with ⟨h', _⟩ | ⟨g', cap', cur, e', hg, hh, r⟩
 · rw [h'] at e; cases e
 · rw [e'] at e; simp [Value.ownBlock] at e; subst e
   obtain ⟨A, h, _⟩ := k; rw [hh] at h; injection h with h; injection h with _ h; exact ht h

theorem own_nomap {w : World} {base n sz mb : Nat} {t : TypeId} {x : Value} {xs : List Value} {ks : List (Int × Int)} (h : w.ownsRow base t sz x n xs) (k : Bk w mb ks) : x.ownBlock ≠ some mb := by
 intro e
 rcases h.2 with ⟨h', _⟩ | ⟨g', cap', cur, e', hg, hh, r⟩
 · rw [h'] at e; cases e
 · rw [e'] at e; simp [Value.ownBlock] at e; subst e
   obtain ⟨n, D, ⟨es, cl, hb, _⟩, _⟩ := k; rw [hh] at hb; cases hb

theorem own_lt {w : World} {base n sz g : Nat} {t : TypeId} {x : Value} {xs : List Value} (h : w.ownsRow base t sz x n xs) (e : x.ownBlock = some g) : g < w.heap.size ∧ base ≤ g := by
 rcases h.2 with ⟨h', _⟩ | ⟨g', cap', cur, e', hg, hh, r⟩
 · rw [h'] at e; cases e
 · rw [e'] at e; simp [Value.ownBlock] at e; subst e
   exact ⟨(Array.getElem?_eq_some_iff.1 hh).1, hg⟩

theorem wfk {k m : Int} (h : keyOk k m) : (Lit.int .i64 k).wf = true ∧ (Lit.int .i64 m).wf = true := by
 obtain ⟨h1, h2, h3, h4⟩ := h
 constructor <;> · simp [Lit.wf, IntKind.min, IntKind.max, IntKind.bits, IntKind.signed]; omega

theorem number_old (cb mb : Nat) (ks : List (Int × Int)) (k m : Int) (w : World) (c7 : w.cell? ⟨cb, 7, none⟩ = some (.map (some mb))) (lc : cb < w.heap.size) (hB : Bk w mb ks) (hk : keyOk k m) (n : Nat) (hn : num ks (k, m) = n) (h0 : n ≠ 0) :
 Calls Try.prog 89 #[.pointer (some ⟨cb, 7, none⟩), .agg #[.int .i64 k, .int .i64 m]] w fun e w' => e = .returned (.int .i64 n) ∧ Below w.heap.size w w' := by
 have b0 : Below w.heap.size w (w.alloc (.cells #[.int .i64 k, .int .i64 m] 36)) := (Below.refl _ _).alloc (Nat.le_refl _) _
 have hl := (hB.of_block (v := (w.alloc (.cells #[.int .i64 k, .int .i64 m] 36)).drew) (b0.block mb hB.lt)).look k m (wfk hk).1 (wfk hk).2
 rw [hn, decide_eq_true h0] at hl
 have c7' := (b0.cell (p := ⟨cb, 7, none⟩) lc).trans c7
 clear hB hn hk
 go_enter Try.func89, Try.ntmps89
 go_wp2_with fail
 go_region
 go_wp2_with fail
 go_ret
 exact ⟨rfl, b0.drew⟩

theorem number_new (cb mb base : Nat) (fc : Nat → Value) (kv : Value) (ks : List (Int × Int)) (k m : Int) (w : World) (hC : Bf w cb 110 10 fc) (e7 : fc 7 = .map (some mb)) (e8 : fc 8 = kv) (hB : Bk w mb ks) (hk : keyOk k m) (h0 : (k, m) ∉ ks) (hO : w.ownsRow base 36 2 kv ks.length (KL ks)) (hb : base ≤ w.heap.size) (hl : ks.length < 100000) :
 Calls Try.prog 89 #[.pointer (some ⟨cb, 7, none⟩), .agg #[.int .i64 k, .int .i64 m]] w fun e w' => e = .returned (.int .i64 ((ks.length : Int) + 1)) ∧ Tn (fun g => g = cb ∨ g = mb ∨ kv.ownBlock = some g) w w' ∧ ∃ kv', Bf w' cb 110 10 (upd fc 8 kv') ∧ Bk w' mb (ks ++ [(k, m)]) ∧ w'.ownsRow base 36 2 kv' (ks.length + 1) (KL (ks ++ [(k, m)])) := by
 have b0 : Below w.heap.size w (w.alloc (.cells #[.int .i64 k, .int .i64 m] 36)) := (Below.refl _ _).alloc (Nat.le_refl _) _
 have lc := hC.lt
 have hlk := (hB.of_block (v := (w.alloc (.cells #[.int .i64 k, .int .i64 m] 36)).drew) (b0.block mb hB.lt)).look k m (wfk hk).1 (wfk hk).2
 rw [num_zero.2 h0] at hlk
 have c7 := (hC.cell 7 (by omega)).trans (congrArg some e7)
 have c8 := (hC.cell 8 (by omega)).trans (congrArg some e8)
 obtain ⟨i0, hi, hz0, hz1, hz2⟩ := info_parts Try.infoK
 have hOw : ∀ v : World, Below w.heap.size w v → v.ownsRow base 36 2 kv ks.length (KL ks) := fun v hv => own_tn hO (Tn.below (fun _ => False) hv) (fun _ _ h => h)
 have hnx : ks.length + 1 ≤ maxLen := by unfold maxLen; omega
 have hny : (ks.length + 1) * 16 ≤ 140737488355328 := by omega
 obtain ⟨U, hU⟩ : ∃ U, U = ((w.alloc (.cells #[.int .i64 k, .int .i64 m] 36)).alloc (.cells #[.int .i64 k, .int .i64 m] 36)).drew.drew := ⟨_, rfl⟩
 have bU : Below w.heap.size w U := by rw [hU]; exact (b0.alloc (by simp) _).drew.drew
 have sU : U.heap.size = w.heap.size + 2 := by rw [hU]; show ((w.heap.push _).push _).size = _; rw [Array.size_push, Array.size_push]
 have k0 : Bf U w.heap.size 36 2 (fun i => (#[Value.int .i64 k, .int .i64 m] : Array Value).getD i default) := by
  rw [hU]; exact (((Bf.of_new w #[.int .i64 k, .int .i64 m] 36).below ((Below.refl _ _).alloc (Nat.le_refl _) _)).qt (Qt.drew _)).qt (Qt.drew _)
 have k1 : Bf U (w.heap.size + 1) 36 2 (fun i => (#[Value.int .i64 k, .int .i64 m] : Array Value).getD i default) := by
  rw [hU]
  have := ((Bf.of_new (w.alloc (.cells #[.int .i64 k, .int .i64 m] 36)) #[.int .i64 k, .int .i64 m] 36).qt (Qt.drew _)).qt (Qt.drew _)
  simpa using this
 have hnews : ∀ j u, [Value.int .i64 k, .int .i64 m][j]? = some u → U.cell? (Addr.add ⟨w.heap.size + 1, 0, none⟩ j) = some u := by
  intro j u hj
  rw [Addr.add_lit, Nat.zero_add]
  match j, hj with
  | 0, hj => simp at hj; subst hj; exact k1.cell 0 (by omega)
  | 1, hj => simp at hj; subst hj; exact k1.cell 1 (by omega)
 have hone : ∀ u ∈ [Value.int .i64 k, .int .i64 m], u.oneCell' = true := by simp [Value.oneCell']
 have nC : kv.ownBlock ≠ some cb := own_ty hO hC (by decide)
 have nM : kv.ownBlock ≠ some mb := own_nomap hO hB
 have mC : mb ≠ cb := hB.ne hC
 have lO := fun g => own_lt (g := g) hO
 have AFT : Hid (∀ (g cap : Nat) (w1 : World), w1.ownsRow base 36 2 (.slice (some ⟨g, 0, none⟩) (ks.length + 1) cap) (ks.length + 1) (KL ks ++ [.int .i64 k, .int .i64 m]) → U.grownBy w1 kv.ownBlock → (kv.ownBlock = some g ∨ g = U.heap.size) → g < w1.heap.size →
  (w1.cell? ⟨cb, 7, none⟩ = some (.map (some mb)) ∧ w1.cell? ⟨cb, 8, none⟩ = some kv ∧ w1.frozen? ⟨cb, 8, none⟩ = false ∧ w1.cell? ⟨w.heap.size, 0, none⟩ = some (.int .i64 k) ∧ w1.cell? ⟨w.heap.size, 1, none⟩ = some (.int .i64 m) ∧ cb ≠ w.heap.size) ∧
  ∃ v2, (Instr.mapUpdate 102 (.map (some mb)) (.agg #[.int .i64 k, .int .i64 m]) (.int .i64 ((ks.length : Int) + 1))).run Try.prog (w1.setCell ⟨cb, 8, none⟩ (.slice (some ⟨g, 0, none⟩) (ks.length + 1) cap)).drew = .ok () v2 ∧ Tn (fun g => g = cb ∨ g = mb ∨ kv.ownBlock = some g) w v2 ∧ ∃ kv', Bf v2 cb 110 10 (upd fc 8 kv') ∧ Bk v2 mb (ks ++ [(k, m)]) ∧ v2.ownsRow base 36 2 kv' (ks.length + 1) (KL (ks ++ [(k, m)]))) := by
  intro g cap w1 own1 gr1 at1 lt1
  have t1 : Tn (fun g => kv.ownBlock = some g) U w1 := Tn.grown _ gr1 (fun k e => e)
  have hC1 := (hC.below bU).tn t1 nC
  have hB1 : Bk w1 mb ks := hB.of_block ((t1.block mb (Nat.lt_of_lt_of_le hB.lt bU.size) nM).trans (bU.block mb hB.lt))
  have hk0 := k0.tn t1 (fun e => by have := (lO _ e).1; omega)
  have hg : g ≠ cb := by rcases at1 with h | h
                         · intro e; subst e; exact nC h
                         · omega
  have hgm : g ≠ mb := by rcases at1 with h | h
                          · intro e; subst e; exact nM h
                          · have := hB.lt; omega
  refine ⟨⟨(hC1.cell 7 (by omega)).trans (congrArg some e7), (hC1.cell 8 (by omega)).trans (congrArg some e8), hC1.frozen 8, hk0.cell 0 (by omega), hk0.cell 1 (by omega), by omega⟩, ?_⟩
  have hB2 : Bk (w1.setCell ⟨cb, 8, none⟩ (.slice (some ⟨g, 0, none⟩) (ks.length + 1) cap)).drew mb ks := hB1.of_block (Below.heap_setCell _ _ _ _ mC)
  obtain ⟨v2, hr, hbk, ht⟩ := hB2.store k m (wfk hk).1 (wfk hk).2 h0 hl _ rfl
  have t2 : Tn (fun g => g = mb) (w1.setCell ⟨cb, 8, none⟩ (.slice (some ⟨g, 0, none⟩) (ks.length + 1) cap)).drew v2 := Tn.grown _ ht.grown (fun k e => by cases e; rfl)
  refine ⟨v2, hr, ?_, .slice (some ⟨g, 0, none⟩) (ks.length + 1) cap, ?_, hbk, ?_⟩
  · refine (Tn.below _ bU).trans ?_
    refine (t1.mono (fun k _ e => .inr (.inr e))).trans ?_
    refine (Tn.set (w := w1) _ cb 8 (.slice (some ⟨g, 0, none⟩) (ks.length + 1) cap) (.inl rfl)).trans ?_
    exact (Tn.qt _ (Qt.drew _)).trans (t2.mono (fun k _ e => .inr (.inl e)))
  · exact ((hC1.set 8 _).qt (Qt.drew _)).tn t2 (Ne.symm mC)
  · rw [KL_append]
    have : w1.ownsRow base 36 2 (.slice (some ⟨g, 0, none⟩) (ks.length + 1) cap) (ks.length + 1) (KL ks ++ KL [(k, m)]) := own1
    refine own_tn (own_tn this ((Tn.set (w := w1) (fun g => g = cb) cb 8 _ rfl).trans (Tn.qt _ (Qt.drew _))) ?_) t2 ?_
    · intro g' e; simp [Value.ownBlock] at e; subst e; exact hg
    · intro g' e; simp [Value.ownBlock] at e; subst e; exact hgm
 have hOU := hOw U bU
 have hbU : base ≤ U.heap.size := by omega
 clear hOw hC hB hO hk hl h0 e7 e8 k0 k1 nC nM mC lO
 have HU : Hid (U = _) := hU
 clear hU
 go_enter Try.func89, Try.ntmps89
 go_wp2_with fail
 go_region
 go_wp2_with fail
 go_region_law (refine step_append_lies _ rfl (.tmp 22) (.tmp 24) 34 rfl base 36 i0 _ 2 16 Try.underlying34 hi hz0 hz1 hz2 rfl (by decide) kv ks.length (KL ks) (by simp [Act.eval]) (by with_reducible exact HU.out ▸ hOU) ⟨w.heap.size + 1, 0, none⟩ 1 1 [.int .i64 k, .int .i64 m] (by simp [Act.eval]) rfl (HU.out ▸ hnews) hone (by omega) hnx hny (HU.out ▸ hbU) _ rfl ?_; intro g cap w1 own1 gr1 at1 lt1; obtain ⟨⟨x7, x8, y8, z0, z1, nz⟩, v2, hr2, fin⟩ := AFT.out g cap w1 own1 (HU.out ▸ gr1) (HU.out ▸ at1) lt1)
 all_goals go_wp2_with fail
 all_goals go_region
 all_goals go_wp2_with fail
 all_goals go_ret
 all_goals exact ⟨rfl, fin⟩

end Go.Proofs.Ytdpbhbpcpnlbkaa
