import Derived.Test.YtdpbhbpcpnlbkaaaCaK
import Derived.Test.YtdpbhbpcpnlbkaaaGD
set_option maxHeartbeats 2000000
namespace Go.Proofs.Ytdpbhbpcpnlbkaa
open Go.RowKit Go.Maps
set_option linter.unusedVariables false
set_option maxRecDepth 100000
theorem NK.qt {w v u : World} {N S cb mb hb k : Nat} (h : NK w N S cb mb hb k v) (q : Qt v u) : NK w N S cb mb hb k u := by
 obtain ⟨sb, l1, l2, l3, hC, hM, hH, hsl, hin, hbl, hc⟩ := h
 exact ⟨sb, l1, l2, l3, hC.qt q, by rw [q.heap]; exact hM, hH.qt q, fun i hi => ⟨(hsl i hi).1.qt q, (hsl i hi).2⟩, hin, hbl.trans (q.below _), (q.cell _).trans hc⟩

theorem made3 (S : Nat) (i : Nat) (hi : i < S * 3) : (madeCells #[.int .i64 0, .bool false, .int .i64 0] (S * 3))[i]? = some (fsl i) := by
 have h2 : i % 3 = 0 ∨ i % 3 = 1 ∨ i % 3 = 2 := by omega
 simp only [madeCells, fsl]
 rw [Array.getElem?_map, Array.getElem?_eq_getElem (by simpa using hi)]
 rcases h2 with h | h | h <;> simp [h]

theorem nk_succ {w v u : World} {N S cb mb hb k : Nat} (h : NK w N S cb mb hb k v) (hk : k < N) (q : Qt ((v.alloc (.cells (madeCells #[.int .i64 0, .bool false, .int .i64 0] (S * 3)) 131)).setCell ⟨hb, k * 2, none⟩ (.slice (some ⟨v.heap.size, 0, none⟩) S S)) u) : NK w N S cb mb hb (k + 1) u := by
 refine NK.qt ?_ q
 obtain ⟨sb, l1, l2, l3, hC, hM, hH, hsl, hin, hbl, hc⟩ := h
 obtain ⟨U, hU⟩ : ∃ U, U = v.alloc (.cells (madeCells #[.int .i64 0, .bool false, .int .i64 0] (S * 3)) 131) := ⟨_, rfl⟩
 have bU : Below v.heap.size v U := by rw [hU]; exact (Below.refl _ _).alloc (Nat.le_refl _) _
 have nU : Bf U v.heap.size 131 (S * 3) fsl := by rw [hU]; exact ⟨_, heap_alloc_new v _, size_madeCells _ _, fun i hi => made3 S i hi⟩
 rw [← hU]
 have hC' := hC.below bU; have hH' := hH.below bU
 have hMl : mb < v.heap.size := (Array.getElem?_eq_some_iff.1 hM).1
 have hM' : U.heap[mb]? = some (.map #[] 0) := (bU.block mb hMl).trans hM
 have hmh : mb ≠ hb := by
  obtain ⟨A, hA, _⟩ := hH'
  intro e; rw [e, hA] at hM'; cases hM'
 have wv : w.heap.size < v.heap.size := Nat.lt_trans l1 hC.lt
 refine ⟨fun i => if i = k then v.heap.size else sb i, l1, l2, l3, hC'.far _ _ _ (hC'.ne hH' (by decide)), (Below.heap_setCell _ _ _ _ hmh).trans hM', (hH'.set _ _).congr ?_, fun i hi => ?_, fun i j hi hj => ?_, ?_, ?_⟩
 · intro i hi
   by_cases e : i = k * 2
   · subst e
     rw [upd_at]
     have e1 : k * 2 % 2 = 0 := by omega
     have e2 : k * 2 / 2 = k := by omega
     simp [fsh]
   · rw [upd_ne _ _ e]
     simp only [fsh]
     by_cases e1 : i % 2 = 0
     · have e2 : i / 2 ≠ k := by omega
       by_cases e3 : i / 2 < k
       · rw [if_pos e1, if_pos e1, if_pos e3, if_pos (by omega), if_neg e2]
       · rw [if_pos e1, if_pos e1, if_neg e3, if_neg (by omega)]
     · rw [if_neg e1, if_neg e1]
 · by_cases e : i = k
   · simp only [if_pos e]
     exact ⟨nU.far _ _ _ (nU.ne hH' (by decide)), wv⟩
   · simp only [if_neg e]
     have h1 := (hsl i (by omega)).1.below bU
     exact ⟨h1.far _ _ _ (h1.ne hH' (by decide)), (hsl i (by omega)).2⟩
 · by_cases e1 : i = k <;> by_cases e2 : j = k
   · intro _; rw [e1, e2]
   · simp only [if_pos e1, if_neg e2]; intro e; have := (hsl j (by omega)).1.lt; omega
   · simp only [if_neg e1, if_pos e2]; intro e; have := (hsl i (by omega)).1.lt; omega
   · simp only [if_neg e1, if_neg e2]; exact hin i j (by omega) (by omega)
 · exact (hbl.trans (bU.mono (Nat.le_of_lt wv))).setCell (p := ⟨hb, k * 2, none⟩) (Nat.le_of_lt l3) _
 · have hne : w.heap.size ≠ hb := by omega
   have : U.cell? ⟨w.heap.size, 1, none⟩ = some (.int .i64 (S : Int)) := (bU.cell (p := ⟨w.heap.size, 1, none⟩) wv).trans hc
   rw [← this]
   unfold World.cell?
   simp only [Below.heap_setCell U ⟨hb, k * 2, none⟩ _ _ hne]

theorem newCache_any (N S : Nat) (hN : 0 < N ∧ N ≤ 16) (hS : 0 < S ∧ S ≤ 64) (w : World) :
 Calls Try.prog 27 #[.agg #[.int .i64 N, .int .i64 S]] w fun e w' => ∃ cb mb hb : Nat, e = .returned (.pointer (some ⟨cb, 0, none⟩)) ∧ NK w N S cb mb hb N w' := by
 obtain ⟨i0, hi, hz0, hz1, hz2⟩ := info_parts infoSh
 obtain ⟨i1, hi1, hy0, hy1, hy2⟩ := info_parts infoSl
 have hmk := fun (wx : World) => run_make (P := Try.prog) wx 106 113 i0 _ Try.underlying106 hi hz0 .i64 .i64 ((N : Nat) : Int) ((N : Nat) : Int) (by omega) (Int.le_refl _) (by rw [hz2]; omega) (by omega)
 have hmk1 := fun (wx : World) => run_make (P := Try.prog) wx 111 131 i1 _ Try.underlying111 hi1 hy0 .i64 .i64 ((S : Nat) : Int) ((S : Nat) : Int) (by omega) (Int.le_refl _) (by rw [hy2]; omega) (by omega)
 simp only [Int.toNat_natCast, hz1, hy1, Value.cells] at hmk hmk1
 have HM1 : Hid _ := hmk1
 clear hi hz0 hz1 hz2 hi1 hy0 hy1 hy2 hmk1
 obtain ⟨U, hU⟩ : ∃ U, U = w.alloc (.cells #[.int .i64 (N : Int), .int .i64 (S : Int)] 24) := ⟨_, rfl⟩
 have bU : Below w.heap.size w U := by rw [hU]; exact (Below.refl _ _).alloc (Nat.le_refl _) _
 have sU : U.heap.size = w.heap.size + 1 := by rw [hU]; show (w.heap.push _).size = _; rw [Array.size_push]
 have cU : U.cell? ⟨w.heap.size, 1, none⟩ = some (.int .i64 (S : Int)) := by rw [hU]; simp [go_sem]
 have NA := fun (o0 : Obj) => nc_a w U N S (w.heap.size + 1 + 1) (w.heap.size + 1 + 1 + 1) o0 bU (by omega) cU (by omega) (by omega) (w.heap.size + 1 + 1 + 1 + 1) (by omega)
 have NB := fun (o0 : Obj) => nc_b w U N S (w.heap.size + 1 + 1 + 1) (w.heap.size + 1) o0 bU (by omega) cU (by omega) (by omega) (w.heap.size + 1 + 1 + 1 + 1) (by omega)
 rw [hU] at NA NB
 have HA : Hid _ := NA; have HB : Hid _ := NB
 clear NA NB hU bU sU cU U
 go_enter Try.func27, Try.ntmps27
 go_upto_region 1 with fail
 go_cut [3] (fun p wx => NC w N S p wx)
 case first =>
  go_region_with (go_at_call 55; refine (newBook_any _).mono ?_; rintro e v ⟨rfl, rfl⟩)
  all_goals go_wp2_with fail
  all_goals go_meet
  all_goals first | with_reducible exact NC.drew (HA.out _) | with_reducible exact NC.drew (HB.out _)
 case rest =>
  rename World => wx
  obtain ⟨cb, mb, hb, rfl, nk⟩ := nk_zero hcut
  obtain ⟨sb0, q1, q2, q3, hC0, qr⟩ := nk
  have c9 : wx.cell? ⟨cb, 9, none⟩ = some (.slice (some ⟨hb, 0, none⟩) N N) := (hC0.cell 9 (by omega)).trans rfl
  have NK0 : Hid (NK w N S cb mb hb 0 wx) := ⟨sb0, q1, q2, q3, hC0, qr⟩
  clear qr hC0 hcut
  go_wp2_with fail
  go_loopw [17] (fun i wr => ∃ k : Nat, k ≤ N ∧ i = .int .i64 k ∧ NK w N S cb mb hb k wr) (fun i _ => N - (intOf i).toNat)
  case atStart => exact ⟨0, by omega, rfl, NK0.out⟩
  case round =>
   obtain ⟨k, hk, rfl, nk⟩ := hrel
   have nk' : Hid _ := nk
   obtain ⟨sb, -, -, l3, hC, hM, hH, hsl, hinj, hbl, hcx⟩ := nk
   have d9 : wr.cell? ⟨cb, 9, none⟩ = some (.slice (some ⟨hb, 0, none⟩) N N) := (hC.cell 9 (by omega)).trans rfl
   by_cases hlt : k < N
   · have hk2 : wr.cell? ⟨hb, k * 2, none⟩ = some (.slice none 0 0) := (hH.cell (k * 2) (by omega)).trans (by simp [fsh])
     have fk2 := hH.frozen (k * 2)
     have hm1 := HM1.out
     have f1 : IntKind.i64.wrap ((k : Int) + 1) = (k : Int) + 1 := by simp only [IntKind.wrap_i64]; omega
     have lw := Nat.lt_of_lt_of_le (Nat.lt_succ_self w.heap.size) (show w.heap.size + 1 ≤ wr.heap.size by have := hC.lt; omega)
     obtain ⟨U, hU⟩ : ∃ U, U = wr.alloc (.cells (madeCells #[.int .i64 0, .bool false, .int .i64 0] (S * 3)) 131) := ⟨_, rfl⟩
     have bU : Below wr.heap.size wr U := by rw [hU]; exact (Below.refl _ _).alloc (Nat.le_refl _) _
     have u9 : U.cell? ⟨cb, 9, none⟩ = some (.slice (some ⟨hb, 0, none⟩) N N) := (bU.cell (p := ⟨cb, 9, none⟩) hC.lt).trans d9
     have uk2 : U.cell? ⟨hb, k * 2, none⟩ = some (.slice none 0 0) := (bU.cell (p := ⟨hb, k * 2, none⟩) hH.lt).trans hk2
     have vk2 : U.frozen? ⟨hb, k * 2, none⟩ = false := (hH.below bU).frozen _
     have ucx : U.cell? ⟨w.heap.size, 1, none⟩ = some (.int .i64 (S : Int)) := (bU.cell (p := ⟨w.heap.size, 1, none⟩) (Nat.lt_trans l3 hH.lt)).trans hcx
     rw [hU] at u9 uk2 vk2 ucx
     clear hM hsl hinj hbl hU bU hC hH U
     go_wp2_with fail
     go_region
     all_goals go_wp2_with fail
     exact ⟨⟨k + 1, by omega, by simp, nk_succ nk'.out hlt (Qt.drew _)⟩, by simp [intOf]; omega⟩
   · have hkn : k = N := by omega
     subst hkn
     clear hM hsl hinj hbl hC hH
     go_wp2_with fail
     go_ret
     exact ⟨cb, mb, hb, rfl, nk'.out⟩

end Go.Proofs.Ytdpbhbpcpnlbkaa
