import Derived.Maps.AppendAt
import Derived.Maps.OwnIn
import Derived.Test.YtmglhkdgfcbonaaGreatDoorrCA
import Derived.Test.YtmglhkdgfcbonaaGreatDoorrBS
import Derived.Test.YtmglhkdgfcbonaaGreatDoorrIR
set_option maxHeartbeats 4000000
set_option maxRecDepth 100000
namespace Go.Proofs.YtmglhkdgfcbonaaGreatDoor
open Go.RowKit Go.Shelf
attribute [local go_sem] Oper.semAt_some

set_option linter.unusedVariables false
set_option maxRecDepth 100000
def gq (v k : Nat) : Nat := v / 10 ^ (19 * k)

def gd (v k : Nat) : Nat := gq v k % 10000000000000000000

theorem gq_zero (v : Nat) : gq v 0 = v := by simp [gq]

theorem gq_succ (v k : Nat) : gq v (k + 1) = gq v k / 10000000000000000000 := by
 unfold gq
 rw [Nat.div_div_eq_div_mul, Nat.mul_add, Nat.pow_add]

theorem gd_lt (v k : Nat) : gd v k < 10000000000000000000 := Nat.mod_lt _ (by omega)

theorem gq_bound (v k N : Nat) (hN : (L v).length ≤ N) (h : 0 < gq v k) : k ≤ 2 * N := by
 have h1 := L_lt v N hN
 have h2 : 10 ^ (19 * k) ≤ v := by
  unfold gq at h
  rcases Nat.lt_or_ge v (10 ^ (19 * k)) with e | e
  · rw [Nat.div_eq_of_lt e] at h; omega
  · exact e
 have h3 : (2 : Nat) ^ (57 * k) ≤ 10 ^ (19 * k) := by
  rw [Nat.pow_mul, Nat.pow_mul]; exact Nat.pow_le_pow_left (by decide) _
 have h4 : (18446744073709551616 : Nat) ^ N = 2 ^ (64 * N) := by rw [Nat.pow_mul]
 rw [h4] at h1
 have h5 : (2 : Nat) ^ (57 * k) < 2 ^ (64 * N) := by omega
 have h6 := (Nat.pow_lt_pow_iff_right (a := 2) (by omega)).1 h5
 omega

theorem gd_digit (v k t : Nat) (ht : t < 19) : gd v k / 10 ^ t % 10 = v / 10 ^ (19 * k + t) % 10 := by
 have e : (10000000000000000000 : Nat) = 10 ^ t * 10 ^ (19 - t) := by rw [← Nat.pow_add, show t + (19 - t) = 19 by omega]
 unfold gd
 rw [e, Nat.mod_mul_right_div_self, Nat.mod_mod_of_dvd _ (Nat.dvd_of_pow_dvd (by omega) (Nat.dvd_refl _)), gq, Nat.div_div_eq_div_mul, ← Nat.pow_add]

theorem L_zero (v : Nat) : (L v).length = 0 ↔ v = 0 := by
 constructor
 · intro h
   have := L_lt v 0 (by omega)
   omega
 · rintro rfl
   have := M.len_of_lt (B := 18446744073709551616) (by omega) 0 0 (by omega)
   have e : (L 0).length ≤ 0 := this
   omega

theorem U_inj : ∀ {xs ys : List Nat}, U xs = U ys → xs = ys
 | [], [], _ => rfl
 | [], _ :: _, h => by simp [U] at h
 | _ :: _, [], h => by simp [U] at h
 | x :: xs, y :: ys, h => by
   have h' : (Value.int .u64 (x : Int)) :: U xs = (Value.int .u64 (y : Int)) :: U ys := h
   injection h' with h1 h2
   injection h1 with _ h3
   rw [U_inj h2, show x = y by omega]

theorem Blk.inj {w : World} {g : Nat} {xs ys : List Nat} (h : Blk w g xs) (k : Blk w g ys) : xs = ys := by
 have := h.symm.trans k
 simp only [Option.some.injEq, Obj.cells.injEq, and_true] at this
 exact U_inj (by simpa using this)

noncomputable def bval (B : Nat) (rs : Value) (w : World) : Nat :=
 open Classical in
 match rs with
 | .slice _ n _ => if h : ∃ cur, Blk w B cur then V ((Classical.choose h).take n) else 0
 | _ => 0

theorem bval_eq {B : Nat} {w : World} {cur : List Nat} (h : Blk w B cur) (a : Option Addr) (n c : Nat) : bval B (.slice a n c) w = V (cur.take n) := by
 have hx : ∃ cur, Blk w B cur := ⟨cur, h⟩
 unfold bval
 simp only [dif_pos hx]
 rw [Blk.inj (Classical.choose_spec hx) h]

theorem groups_gives (n : Nat) (hn : 1 ≤ n) (v : Nat) (ao : Option Addr) (N cap : Nat) (W : World) (hN : (L v).length = N) (hm : N ≤ 1000000) (hr : Rd W ao (L v)) :
 ItGives Fence.wide n Tryz.prog 118 #[.slice ao N cap] #[] (fun k => #[.int .u64 ((gd v k : Nat) : Int)]) (fun k => 0 < gq v k) (fun k => gq v k = 0) 22 W := by
 intro l J h0 hg hY
 refine callsIn_of_wp Tryz.func118 rfl trivial ?_ rfl
 simp only [Tryz.ntmps118, List.size_toArray, List.length_cons, List.length_nil, Nat.reduceAdd, Nat.reduceSub, Array.replicate_succ, Array.replicate_zero, List.push_toArray, List.append_toArray, List.nil_append, List.cons_append]
 gi_wp2
 refine ⟨trivial, (callsIn_wide.2 (clone_any ao N cap 0 (L v) _ hN (by omega) (by omega) hr)).mono ?_⟩
 rintro e W1 ⟨rfl, hB1, hb1⟩
 have hJ1 : J W.heap.size 0 W1 := h0 W1 _ hb1 (Nat.le_refl _)
 rw [List.replicate_zero, List.append_nil] at hB1
 gi_wp2
 gi_loopw [4] (fun rs wr => ∃ (k m : Nat) (cur : List Nat), rs = .slice (some ⟨W.heap.size, 0, none⟩) m N ∧ (L (gq v k)).length = m ∧ Blk wr W.heap.size cur ∧ cur.length = N ∧ F64 cur ∧ V (cur.take m) = gq v k ∧ m ≤ N ∧ J W.heap.size k wr) (fun rs wr => bval W.heap.size rs wr)
 case atStart =>
  exact ⟨0, N, L v, rfl, by rw [gq_zero]; exact hN, hB1, hN, F64_L v, by rw [gq_zero, List.take_of_length_le (by omega), V_L], Nat.le_refl _, hJ1⟩
 case round =>
  obtain ⟨k, m, cur, rfl, hlm, hB, hcl, hcf, hcv, hmN, hJs⟩ := hrel
  by_cases hq : 0 < gq v k
  · have hm0 : 0 < m := by
     rcases Nat.eq_zero_or_pos m with e | e
     · rw [e] at hlm; have := (L_zero _).1 hlm; omega
     · exact e
    have hm0' : (0 : Int) < (m : Int) := by omega
    have kD := fun (v0 : World) (hB0 : Blk v0 W.heap.size cur) => divLimbIn_any W.heap.size m N 10000000000000000000 (some ⟨W.heap.size, 0, none⟩) cur v0 (fun _ => rfl) hB0 hcf (by omega) (by omega) (by omega) (by omega)
    have HB := hid hB; clear hB
    have HLM := hid hlm; clear hlm
    have HCV := hid hcv; clear hcv hB1 hr
    gi_wp2
    refine ⟨trivial, (callsIn_wide.2 (kD _ HB.out)).mono ?_⟩
    obtain ⟨gk, hgk⟩ : ∃ gk, gk = gd v k := ⟨_, rfl⟩
    have hgk2 : gq v k % 10000000000000000000 = gk := by rw [hgk]; rfl
    rw [HCV.out, hgk2]
    have HGK := hid hgk; clear hgk hgk2
    rintro e W2 ⟨rfl, hg2, cur2, hB2, hW2, hv2⟩
    rw [← gq_succ] at hv2
    have hl2 : (cur2.take m).length = m := by rw [List.length_take, hW2.len]; omega
    have hJ2 := hg _ k wr W2 (Nat.le_refl _) hJs hg2
    have hf2 : F64 (cur2.take m) := fun x hx => hW2.lt x (List.mem_of_mem_take hx)
    have kT := trim_any (some ⟨W.heap.size, 0, none⟩) m N (cur2.take m) W2 hl2 (by omega) (by omega) hf2 (by have := hB2.rd 0 m (by rw [hW2.len]; omega); rwa [List.drop_zero] at this)
    gi_wp2
    refine ⟨trivial, (callsIn_wide.2 kT).mono ?_⟩
    rw [hv2]
    rintro e W3 ⟨rfl, rfl⟩
    obtain ⟨m2, hm2⟩ : ∃ m2, m2 = (L (gq v (k + 1))).length := ⟨_, rfl⟩
    rw [← hm2]
    have hm2' : m2 ≤ m := by
     have := L_len (cur2.take m) hf2
     rw [hv2, hl2] at this; omega
    have HM2 := hid hm2; clear hm2
    obtain ⟨fn, tmps, assign, body, hy, hR⟩ := hY _ k W3 (Nat.le_refl _) ⟨_, hB2⟩ hJ2 hq
    simp only [← HGK.out] at hy
    gi_wp2
    refine hR.mono ?_
    rintro e W4 ⟨rfl, hJ4, hk4⟩
    have hB4 : Blk W4 W.heap.size cur2 := hk4.trans hB2
    gi_wp2
    go_roundw
    case rel =>
     refine ⟨k + 1, m2, cur2, rfl, HM2.out.symm, hB4, by rw [hW2.len]; exact hcl, hW2.lt, ?_, by omega, hJ4⟩
     have h1 := L_take (cur2.take m) hf2
     rw [hv2, ← HM2.out, List.take_take, Nat.min_eq_left hm2'] at h1
     rw [h1, V_L]
    case measure =>
     rw [bval_eq hB4, bval_eq HB.out, HCV.out]
     have h1 := L_take (cur2.take m) hf2
     rw [hv2, ← HM2.out, List.take_take, Nat.min_eq_left hm2'] at h1
     rw [h1, V_L, gq_succ]
     omega
  · have hq0 : gq v k = 0 := by omega
    have hm0 : m = 0 := by rw [hq0] at hlm; rw [← hlm]; exact (L_zero 0).2 rfl
    subst hm0
    gi_wp2
    go_end0
    exact ⟨⟨_, rfl⟩, W.heap.size, k, Nat.le_refl _, hq0, hJs⟩

attribute [local go_sem] Oper.semAt_some

def DgI (w : World) (v N : Nat) (r k : Nat) (W : World) : Prop :=
 (∃ ta tc, Boxed W w.heap.size 25 (.slice ta (19 * k) tc) ∧ W.ownsRow w.heap.size 5 1 (.slice ta (19 * k) tc) (19 * k) (UB (M.pd v (19 * k))) ∧ (Value.slice ta (19 * k) tc).ownBlock ≠ some r ∧ k ≤ 2 * N + 1) ∧ Below w.heap.size w W

theorem DgI.own (w : World) (v N r B : Nat) (hB : w.heap.size ≤ B) : OwnFrom B (DgI w v N r) :=
 OwnFrom.and (Own.from (fun s a b row hs hg hr => by
  obtain ⟨ta, tc, h1, h2, h3⟩ := hs
  exact ⟨ta, tc, boxed_own _ _ (fun _ => _) s a b row h1 hg hr, ownsRow_keptD h2 hg hr, h3⟩) _) (ownFrom_below (Nat.le_refl _) hB)

theorem ownY_take {w : World} {base n cap m g : Nat} {xs : List Nat} (h : w.ownsRow base 5 1 (.slice (some ⟨g, 0, none⟩) n cap) n (UB xs)) (hm : m ≤ n) : w.ownsRow base 5 1 (.slice (some ⟨g, 0, none⟩) m cap) m (UB (xs.take m)) := by
 have hl := ownY_len h
 refine ⟨by rw [UB_length, List.length_take]; omega, .inr ?_⟩
 rcases h.2 with ⟨he, h0⟩ | ⟨g', cap', cur, he, hb, hg, hc, hcm, hsz, ht⟩
 · simp at he
 · simp only [Value.slice.injEq, Option.some.injEq, Addr.mk.injEq] at he
   obtain ⟨⟨rfl, _⟩, _, rfl⟩ := he
   refine ⟨g, cap, cur, rfl, hb, hg, by omega, hcm, hsz, ?_⟩
   have e : UB (xs.take m) = (UB xs).take m := by simp [UB, List.map_take]
   rw [e, ← ht, List.take_take]
   congr 1
   omega

def boxLen (w : World) (b : Nat) : Nat := match w.cell? ⟨b, 0, none⟩ with | some (.slice _ n _) => n | _ => 0

theorem row_ne {W : World} {base e sz k r : Nat} {v : Value} {xs : List Value} {zs : Array Value} {t : TypeId} {fz : Nat × Nat} (h : W.ownsRow base e sz v k xs) (hr : W.heap[r]? = some (.cells zs t fz)) (hte : t ≠ e) : v.ownBlock ≠ some r := by
 rcases h.2 with ⟨rfl, _⟩ | ⟨g, cap, cur, rfl, _, hgb, _⟩
 · simp [Value.ownBlock]
 · intro e'
   have e2 : g = r := by simpa [Value.ownBlock] using e'
   subst e2
   have := hr.symm.trans hgb
   simp at this
   exact hte this.2.1

theorem digits_any (v : Nat) (ao : Option Addr) (N cap : Nat) (w : World) (hN : (L v).length = N) (hm : N ≤ 100000) (hr : Rd w ao (L v)) :
 Calls Tryz.prog 94 #[.slice ao N cap] w fun e w' => ∃ ra rc, e = .returned (.slice ra (M.txt v).length rc) ∧ w'.ownsRow w.heap.size 5 1 (.slice ra (M.txt v).length rc) (M.txt v).length (UB (M.txt v)) ∧ Below w.heap.size w w' := by
 refine (callsIn_wide (n := 3)).1 ?_
 obtain ⟨i0, hi, hz0, hz1, hz2⟩ := info_parts Tryz.infoY
 refine callsIn_of_wp_marks Tryz.func94 rfl trivial ?_ rfl
 simp only [Tryz.ntmps94, List.size_toArray, List.length_cons, List.length_nil, Nat.reduceAdd, Nat.reduceSub, Array.replicate_succ, Array.replicate_zero, List.push_toArray, List.append_toArray, List.nil_append, List.cons_append]
 by_cases hv : v = 0
 · subst hv
   have hN0 : N = 0 := by rw [← hN]; exact (L_zero 0).2 rfl
   subst hN0
   gi_wp2
   have hb1 : BlkY (w.alloc (.cells #[.int .u8 48] 5)) w.heap.size [48] := heap_alloc_new w _
   refine ⟨_, results_tmp rfl _ _ _, some ⟨w.heap.size, 0, none⟩, 1, rfl, hb1.own (n := 1) (Nat.le_refl _) rfl (by decide), (Below.refl _ w).alloc (Nat.le_refl _) _⟩
 · have hN0 : ¬ N = 0 := by rw [← hN]; intro e; exact hv ((L_zero v).1 e)
   have hN0' : ((N : Int) == 0) = false := by simp; omega
   gi_wp2
   obtain ⟨W0, hW0⟩ : ∃ W0, w.alloc (.cells #[.slice none 0 0] 25) = W0 := ⟨_, rfl⟩
   have bT : Boxed W0 w.heap.size 25 (.slice none 0 0) := by rw [← hW0]; exact Boxed.new w _ _
   have hB0 : Below w.heap.size w W0 := by rw [← hW0]; exact (Below.refl _ w).alloc (Nat.le_refl _) _
   have hS0 : W0.heap.size = w.heap.size + 1 := by rw [← hW0]; simp
   rw [hW0]
   refine wpIn_rangeFunc_it rfl (by omega) (gf := 118) (first := #[.slice ao N cap]) (lb := #[]) rfl trivial (enters_of Tryz.func118 (by kernel_rfl) rfl)
    (fun W hb hs => groups_gives 2 (by omega) v ao N cap W hN (by omega) (hr.below (hB0.trans (hb.mono (by omega))))) (fun _ => rfl)
    (DgI w v N) (fun r => DgI.own w v N r _ (by omega)) ?keep ?start
    (fun x => { tmps := #[.slice ao N cap, undef, .slice none 0 0, .pointer (some ⟨w.heap.size, 0, none⟩), .int .u64 ((gd v x : Nat) : Int), .slice ao N cap, .int .i64 (N : Int), .bool false, undef, .slice ao N cap, .func (.func 118) #[.slice ao N cap] #[], .int .u64 ((gd v x : Nat) : Int), undef, undef, undef, undef, undef, undef, undef, undef, undef, undef, undef, undef, undef, undef, undef, undef, undef, undef, undef, undef, undef, undef, undef, undef, undef, undef, undef, undef, undef, undef, undef, undef], defers := [] }) ?assign ?body ?done
   case keep =>
    rintro r k A B hr2 ⟨⟨ta, tc, h1, h2, h3⟩, hb⟩ hg
    exact ⟨⟨ta, tc, h1.kept hg (by intro e; injection e; omega), h2.kept hg (.inr h3.1), h3⟩, hb.grown hg hb.size (fun k e => by cases e; omega)⟩
   case start =>
    intro r W hr2 hb
    exact ⟨⟨none, 0, (hb.block _ (by omega)).trans bT, World.ownsRow_nil _ _ _ _, by simp [Value.ownBlock], by omega⟩, hB0.trans (hb.mono (by omega))⟩
   case assign =>
    intro l x W K hK
    gi_wp2
    exact hK
   case body =>
    rintro l r k W hr2 ⟨zs, hzs⟩ ⟨⟨ta, tc, hbx, hrow, hne, hkN⟩, hB⟩ hgo
    obtain ⟨g0, hg0⟩ : ∃ g0, g0 = gd v k := ⟨_, rfl⟩
    have hg1 : g0 < 10000000000000000000 := by rw [hg0]; exact gd_lt v k
    rw [← hg0]
    have HG := hid hg0; clear hg0
    have HBX := hid hbx; have HROW := hid hrow; have HZS := hid hzs
    clear hbx hrow hzs bT
    gi_wp2
    gi_loopw [4, 12] (fun g i wr => ∃ (t : Nat) (ta : Option Addr) (tc : Nat), t ≤ 19 ∧ i = .int .i64 (t : Int) ∧ g = .int .u64 ((g0 / 10 ^ t : Nat) : Int) ∧ Boxed wr w.heap.size 25 (.slice ta (19 * k + t) tc) ∧ wr.ownsRow w.heap.size 5 1 (.slice ta (19 * k + t) tc) (19 * k + t) (UB (M.pd v (19 * k + t))) ∧ KeepsFrom W0.heap.size W wr ∧ wr.heap[r]? = W.heap[r]? ∧ Below w.heap.size w wr) (fun _ i _ => 19 - (intOf i).toNat)
    case atStart => exact ⟨0, ta, tc, by omega, rfl, by simp, HBX.out, HROW.out, KeepsFrom.refl _ _, rfl, hB⟩
    case round =>
     obtain ⟨t, ta, tc, ht, rfl, rfl, bx, row, kf, hrk, hbl⟩ := hrel
     by_cases hlt : t < 19
     · have hlt' : (t : Int) < 19 := by omega
       have hc := bx.cell
       have hdg := gd_digit v k t hlt
       rw [← HG.out] at hdg
       obtain ⟨x, hx⟩ : ∃ x, x = g0 / 10 ^ t := ⟨_, rfl⟩
       have hxl : x < 10000000000000000000 := by rw [hx]; exact Nat.lt_of_le_of_lt (Nat.div_le_self _ _) hg1
       rw [← hx] at hdg ⊢
       obtain ⟨c, hcv⟩ : ∃ c, c = 48 + x % 10 := ⟨_, rfl⟩
       have hcb : c ≤ 57 := by omega
       have s1 : (x : Int).tmod 10 = ((x % 10 : Nat) : Int) := by rw [Int.tmod_eq_emod_of_nonneg (by omega)]; omega
       have s2 : IntKind.u64.wrap (48 + (x : Int) % 10) = (c : Int) := by rw [IntKind.wrap_u64]; omega
       have s3 : (c : Int) % 256 = (c : Int) := by omega
       have s4 : (x : Int).tdiv 10 = ((x / 10 : Nat) : Int) := by rw [Int.tdiv_eq_ediv_of_nonneg (by omega)]; omega
       have HX := hid hx; have HC := hid hcv; have HD := hid hdg; have HROW := hid row; have HKF := hid kf; have HRK := hid hrk; have HBL := hid hbl
       clear hx hcv hdg row kf hrk hbl
       have hnew : ∀ j u, (UB [c])[j]? = some u → (wr.alloc (.cells #[.int .u8 (c : Int)] 5)).cell? ((⟨wr.heap.size, 0, none⟩ : Addr).add j) = some u := by
        intro j u hj
        match j, hj with
        | 0, hj => simp [UB] at hj; subst hj; simp [Addr.add]
       have hk2 := gq_bound v k N (by omega) hgo
       gi_wp2_with (gi_at_builtin; refine wpListIn_append_own _ rfl _ _ 25 rfl w.heap.size 5 i0 (.int .u8 0) 1 1 Tryz.underlying25 hi hz0 hz1 hz2 rfl (by decide) _ _ _ rfl (HROW.out.alloc _) ⟨wr.heap.size, 0, none⟩ 1 1 (UB [c]) rfl rfl hnew (UB_one _) (by unfold maxLen; omega) (by omega) (by have := HBL.out.size; simp; omega) ?_; intro v' w1 hown' hgrow _; obtain ⟨g', cap', rfl⟩ := ownsRow_succ hown'; obtain ⟨hv1, hv2, hr3, hk3, hb3⟩ := bx.appended (by decide) HROW.out HBL.out.size (Nat.le_refl _) hown' hgrow; have hc1 := hv1.cell; have hf1 := hv1.frozen)
       go_roundw
       case rel =>
        refine ⟨t + 1, _, _, by omega, by go_num, ?_, hv2, ?_, HKF.out.trans (hk3.from _), ?_, HBL.out.trans hb3⟩
        · rw [Nat.pow_succ, ← Nat.div_div_eq_div_mul, ← HX.out]; congr 1
        · rw [← Nat.add_assoc, M.pd_snoc, ← HD.out, ← HC.out, UB_append]
          exact hr3
        · have hne3 := row_ne HROW.out (HRK.out.trans HZS.out) (by decide)
          have hlt3 : r < wr.heap.size := (Array.getElem?_eq_some_iff.1 (HRK.out.trans HZS.out)).1
          refine ((Below.heap_setCell _ _ _ r (by simp only; omega)).trans ((hgrow.block r (by simp; omega) (fun e => hne3 e.symm)).trans (Below.heap_alloc _ _ r hlt3))).trans HRK.out
       case measure => simp [intOf]; omega
     · have e : t = 19 := by omega
       subst e
       have hlt' : ¬ ((19 : Nat) : Int) < 19 := by omega
       have hne3 := row_ne row (hrk.trans HZS.out) (by decide)
       gi_wp2
       exact ⟨by rw [← hS0]; exact kf, hrk, ⟨⟨ta, tc, bx, row, hne3, by have := gq_bound v k N (by omega) hgo; omega⟩, hbl⟩⟩
   case done =>
    rintro D r k W hD hr2 hS ⟨⟨ta, tc, hbx, hrow, hne, hkN⟩, hB⟩ hK
    have HKB : 19 * k ≤ 4000000 := by omega
    have hvl : v < 10 ^ (19 * k) := by
     rcases Nat.lt_or_ge v (10 ^ (19 * k)) with e | e
     · exact e
     · have := Nat.div_pos e (Nat.pow_pos (by omega)); unfold gq at hS; omega
    have HBX := hid hbx; have HROW := hid hrow; have HK := hid hK; have HB := hid hB
    clear hbx hrow hK hB bT
    gi_wp2
    gi_loopw [] (fun wr => ∃ (m : Nat) (ta : Option Addr) (tc : Nat), Boxed wr w.heap.size 25 (.slice ta m tc) ∧ wr.ownsRow w.heap.size 5 1 (.slice ta m tc) m (UB (M.pd v m)) ∧ v < 10 ^ m ∧ m ≤ 19 * k ∧ Below w.heap.size w wr ∧ wr.heap[D]? = some (.deferred (some []))) (fun wr => boxLen wr w.heap.size)
    case atStart => exact ⟨19 * k, ta, tc, HBX.out, HROW.out, hvl, Nat.le_refl _, HB.out, HK.out⟩
    case round =>
     obtain ⟨m, ta, tc, bx, row, hvm, hmk, hbl, hkd⟩ := hrel
     obtain ⟨q, rfl⟩ : ∃ q, m = q + 1 := by
      rcases Nat.eq_zero_or_pos m with e | e
      · subst e; simp at hvm; omega
      · exact ⟨m - 1, by omega⟩
     have hcap := ownY_cap row
     obtain ⟨g, hao, hbg⟩ := ownY_addr row (by omega)
     subst hao
     have hc := row.cellAt q (by omega)
     rw [UB_get _ q (by rw [M.pd_length]; omega), M.pd_get _ _ _ (by omega)] at hc
     have hb1 := bx.cell
     have hf1 := bx.frozen
     obtain ⟨x, hx⟩ : ∃ x : Nat, x = 48 + v / 10 ^ q % 10 := ⟨_, rfl⟩
     rw [← hx] at hc
     have i1 : ((q + 1 : Nat) : Int) - 1 = (q : Int) := by omega
     have i2 : (0 : Int) < ((q + 1 : Nat) : Int) := by omega
     have HX := hid hx; have HROW := hid row; have HBL := hid hbl; have HKD := hid hkd; have HVM := hid hvm
     clear hx row hbl hkd hvm
     by_cases hx0 : x = 48
     · have hxb : ((x : Int) == 48) = true := by simp [hx0]
       have HX0 := hid hx0; clear hx0
       gi_wp2
       go_roundw
       case rel =>
        refine ⟨q, _, tc, bx.set _, ?_, ?_, by omega, HBL.out.setCell (p := ⟨w.heap.size, 0, none⟩) (Nat.le_refl _) _, (KeepsOthers.setCell _ _ _).same D _ HKD.out rfl⟩
        · have h1 := ownY_take HROW.out (m := q) (by omega)
          rw [M.pd_take _ _ _ (by omega)] at h1
          exact h1.kept (grownBy_setCell' wr w.heap.size _) (.inr (row_ne h1 bx (by decide)))
        · have h1 := HX.out; have h2 := HX0.out; have h3 := HVM.out
          have h4 : v / 10 ^ q % 10 = 0 := by omega
          have h5 : v / 10 ^ q < 10 := by
           rw [Nat.div_lt_iff_lt_mul (Nat.pow_pos (by omega)), Nat.mul_comm, ← Nat.pow_succ]; exact h3
          have h6 : v / 10 ^ q = 0 := by generalize v / 10 ^ q = z at h4 h5 ⊢; omega
          exact (Nat.div_eq_zero_iff.1 h6).resolve_left (by have : 0 < 10 ^ q := Nat.pow_pos (by omega); omega)
       case measure =>
        unfold boxLen
        rw [(bx.set _).cell, bx.cell]
        simp only; omega
     · have hxb : ((x : Int) == 48) = false := by simp; omega
       have HX0 := hid hx0; clear hx0
       have htl : M.pd v (q + 1) = M.tl v := M.pd_tl (q + 1) v HVM.out (fun _ => by have := HX.out; have := HX0.out; rw [Nat.add_sub_cancel]; omega)
       rw [htl] at HROW
       gi_wp2
       refine ⟨trivial, (callsIn_wide.2 (revB_any w.heap.size (some ⟨g, 0, none⟩) (q + 1) tc (M.tl v) wr (by rw [← htl, M.pd_length]) (by omega) HROW.out)).mono ?_⟩
       rintro e W5 ⟨⟨u, rfl⟩, row5, hg5⟩
       have bx5 : Boxed W5 w.heap.size 25 (.slice (some ⟨g, 0, none⟩) (q + 1) tc) := bx.kept hg5 (fun e => row_ne HROW.out bx (by decide) e.symm)
       have hc5 := bx5.cell
       have b5 : Below w.heap.size w W5 := HBL.out.grown hg5 HBL.out.size (fun k e => by simp [Value.ownBlock] at e; omega)
       have hD5 : W5.heap[D]? = some (.deferred (some [])) := (hg5.block D (Array.getElem?_eq_some_iff.1 HKD.out).1 (by
        intro e
        simp only [Value.ownBlock, Option.some.injEq] at e
        subst e
        rcases HROW.out.2 with ⟨he, _⟩ | ⟨g', c', cur, he, _, hgb, _⟩
        · simp at he
        · simp only [Value.slice.injEq, Option.some.injEq, Addr.mk.injEq] at he
          obtain ⟨⟨rfl, _⟩, _⟩ := he
          rw [HKD.out] at hgb; simp at hgb)).trans HKD.out
       gi_wp2
       refine ⟨by simp, .inl ⟨_, _, rfl, run_takeDeferred hD5, ?_⟩⟩
       have hB5 := b5.trans (belowK_b (w := w) (Nat.le_refl _) W5 D _ (.deferred none) (by omega) hD5 rfl rfl)
       have etx : M.txt v = (M.tl v).reverse := by unfold M.txt; rw [if_neg hv]
       have eln : (M.txt v).length = q + 1 := by rw [etx, List.length_reverse, ← htl, M.pd_length]
       rw [eln, etx]
       exact ⟨_, results_tmp rfl _ _ _, _, _, rfl, ownsRow_putObj row5 _ hD5 rfl, hB5⟩

end Go.Proofs.YtmglhkdgfcbonaaGreatDoor
