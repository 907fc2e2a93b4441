import Derived.Test.YtcilemkeljcidaaDoorsUnA
import Derived.Test.YtcilemkeljcidaaDoorsW7
import Derived.Test.YtcilemkeljcidaaDoorsSp1
import Derived.Test.YtcilemkeljcidaaDoorsSpM
set_option maxHeartbeats 2000000
set_option maxRecDepth 10000
namespace Go.Proofs.YtcilemkeljcidaaDoor
open Go.RowKit
set_option linter.unusedVariables false
set_option maxRecDepth 100000
theorem far1 {g o j : Nat} (v : World) (x : Value) {b : Nat} (h : b ≠ g) : (v.setCell ⟨g, o, none⟩ x).cell? ⟨b, j, none⟩ = v.cell? ⟨b, j, none⟩ :=
 World.cell?_of_block (w := v) (a := ⟨b, j, none⟩) (Below.heap_setCell _ _ _ _ h)

theorem ffar1 {g o j : Nat} (v : World) (x : Value) {b : Nat} (h : b ≠ g) : (v.setCell ⟨g, o, none⟩ x).frozen? ⟨b, j, none⟩ = v.frozen? ⟨b, j, none⟩ :=
 World.frozen?_of_block (w := v) (a := ⟨b, j, none⟩) (Below.heap_setCell _ _ _ _ h)

theorem Rd.set1 {v : World} {ao : Option Addr} {xs : List Nat} {g o : Nat} {x : Value} (h : Rd v ao xs) (hne : ∀ b off, ao = some ⟨b, off, none⟩ → b ≠ g) : Rd (v.setCell ⟨g, o, none⟩ x) ao xs := by
 intro hp
 obtain ⟨b, off, e, hc⟩ := h hp
 exact ⟨b, off, e, fun i hi => (far1 v x (hne b off e)).trans (hc i hi)⟩

theorem sunpack_any (f : Nat) (hf : f < 4) (X : Nat) (hX : X < 2 ^ 128) (w : World) :
 Calls Tryd.prog 11 #[.int .i64 (f : Int), .agg #[.int .u64 (M.hiN X : Int), .int .u64 (M.loN X : Int)]] w fun e w' => e = .returned (pv ((M.fm f).upk X)) ∧ Below w.heap.size w w' := by
 have kE := fun v : World => sdescribe_ok f hf v
 have h := M.fm_ok f
 generalize M.fm f = F at *
 have kO := fun v : World => l2Of_any X hX v
 have hDl : (D X).length ≤ 6 := D_small X (by omega)
 obtain ⟨T, hT⟩ : ∃ T, T = F.upk X := ⟨_, rfl⟩
 rw [← hT]
 have HT0 := hid hT; clear hT
 have HX := hid hX; clear hX
 have p1 := h.p1
 have p2 := h.p2
 have e1 := h.e1
 have e2 := h.e2
 have wd1 := h.w
 have hem : F.emax ≤ 16383 := h.top2.2.2.2
 have hp0 : ((F.p : Int) == 0) = false := by simp; omega
 have hp00 : ¬ F.p = 0 := by omega
 simp only [dv] at kE
 go_enter Tryd.func11, Tryd.ntmps11
 go_wp2_with fail
 refine (kE _).mono ?_
 rintro e v1 ⟨rfl, hb1⟩
 have b1 := (((Below.refl w.heap.size w).alloc (Nat.le_refl _) (.cells #[.int .u64 (M.hiN X : Int), .int .u64 (M.loN X : Int)] 30)).alloc (by simp) (.cells #[.int .i64 0, .bool false, .int .u64 0, .int .u64 0, .int .i64 0] 32))
 have c6 : v1.cell? ⟨w.heap.size + 1, 0, none⟩ = some (.int .i64 0) := (hb1.cell (by simp <;> omega)).trans (by simp [go_sem])
 have z0 : v1.frozen? ⟨w.heap.size + 1, 0, none⟩ = false := (hb1.frozen (by simp)).trans (by simp [go_sem])
 have c7 : v1.cell? ⟨w.heap.size + 1, 1, none⟩ = some (.bool false) := (hb1.cell (by simp <;> omega)).trans (by simp [go_sem])
 have z1 : v1.frozen? ⟨w.heap.size + 1, 1, none⟩ = false := (hb1.frozen (by simp)).trans (by simp [go_sem])
 have c8 : v1.cell? ⟨w.heap.size + 1, 2, none⟩ = some (.int .u64 0) := (hb1.cell (by simp <;> omega)).trans (by simp [go_sem])
 have z2 : v1.frozen? ⟨w.heap.size + 1, 2, none⟩ = false := (hb1.frozen (by simp)).trans (by simp [go_sem])
 have c9 : v1.cell? ⟨w.heap.size + 1, 3, none⟩ = some (.int .u64 0) := (hb1.cell (by simp <;> omega)).trans (by simp [go_sem])
 have z3 : v1.frozen? ⟨w.heap.size + 1, 3, none⟩ = false := (hb1.frozen (by simp)).trans (by simp [go_sem])
 have c10 : v1.cell? ⟨w.heap.size + 1, 4, none⟩ = some (.int .i64 0) := (hb1.cell (by simp <;> omega)).trans (by simp [go_sem])
 have z4 : v1.frozen? ⟨w.heap.size + 1, 4, none⟩ = false := (hb1.frozen (by simp)).trans (by simp [go_sem])
 have x0 : v1.cell? ⟨w.heap.size, 0, none⟩ = some (.int .u64 (M.hiN X : Int)) := (hb1.cell (by simp <;> omega)).trans (by simp [go_sem])
 have x1 : v1.cell? ⟨w.heap.size, 1, none⟩ = some (.int .u64 (M.loN X : Int)) := (hb1.cell (by simp <;> omega)).trans (by simp [go_sem])
 have n1 : w.heap.size + 2 ≤ v1.heap.size := by have := hb1.size; simp at this; omega
 have hn0 : w.heap.size < v1.heap.size := by omega
 replace b1 := b1.trans (hb1.mono b1.size)
 clear hb1 kE
 go_wp2_with fail
 have hbd : Below v1.heap.size v1 (v1.alloc (.cells #[.int .i64 (F.p : Int), .int .i64 (1 - (F.emax : Int)), .int .i64 (F.emax : Int), .int .i64 (F.wd : Int), .int .i64 (F.e : Int), .bool F.x] 23)) := (Below.refl _ _).alloc (Nat.le_refl _) _
 refine (kO _).mono ?_
 rintro e v2 ⟨ao, ca, rfl, ho, hb2⟩
 have hb3 := hbd.trans (hb2.mono hbd.size)
 have c0 : v2.cell? ⟨v1.heap.size, 0, none⟩ = some (.int .i64 (F.p : Int)) := (hb2.cell (by simp)).trans (by simp [go_sem])
 have c1 : v2.cell? ⟨v1.heap.size, 1, none⟩ = some (.int .i64 (1 - (F.emax : Int))) := (hb2.cell (by simp)).trans (by simp [go_sem])
 have c2 : v2.cell? ⟨v1.heap.size, 2, none⟩ = some (.int .i64 (F.emax : Int)) := (hb2.cell (by simp)).trans (by simp [go_sem])
 have c3 : v2.cell? ⟨v1.heap.size, 3, none⟩ = some (.int .i64 (F.wd : Int)) := (hb2.cell (by simp)).trans (by simp [go_sem])
 have c4 : v2.cell? ⟨v1.heap.size, 4, none⟩ = some (.int .i64 (F.e : Int)) := (hb2.cell (by simp)).trans (by simp [go_sem])
 have c5 : v2.cell? ⟨v1.heap.size, 5, none⟩ = some (.bool F.x) := (hb2.cell (by simp)).trans (by simp [go_sem])
 replace c6 := kc hb3 c6
 replace z0 := kz hb3 (by omega) z0
 replace c7 := kc hb3 c7
 replace z1 := kz hb3 (by omega) z1
 replace c8 := kc hb3 c8
 replace z2 := kz hb3 (by omega) z2
 replace c9 := kc hb3 c9
 replace z3 := kz hb3 (by omega) z3
 replace c10 := kc hb3 c10
 replace z4 := kz hb3 (by omega) z4
 have n2 : v1.heap.size + 1 ≤ v2.heap.size := by have := hb2.size; simp at this; omega
 replace b1 := b1.trans (hb3.mono b1.size)
 have hr := Rd.own ho
 clear hbd hb2 hb3 ho x0 x1 kO
 generalize v1.heap.size = gd at *
 obtain ⟨n, hn⟩ : ∃ n, n = (D X).length := ⟨_, rfl⟩
 rw [← hn] at hDl ⊢
 have HN := hid hn.symm; clear hn
 obtain ⟨bl, hbl⟩ : ∃ bl, bl = blen X := ⟨_, rfl⟩
 have kB := fun v (hh : Rd v ao (D X)) => l1Bits_any ao n ca X v HN.out (by omega) hh bl hbl
 have HBL := hid hbl; clear hbl
 go_upto_region 5 with fail
 go_quiet ((go_at_call 24; exact Calls.quiet_of_same (kB _ hr)))
 have hbq : Below v2.heap.size v2 (v2.drewN nq) := below_drewN (Below.refl _ _) nq
 replace c0 := kc hbq c0
 replace c1 := kc hbq c1
 replace c2 := kc hbq c2
 replace c3 := kc hbq c3
 replace c4 := kc hbq c4
 replace c5 := kc hbq c5
 replace c6 := kc hbq c6
 replace c7 := kc hbq c7
 replace c8 := kc hbq c8
 replace c9 := kc hbq c9
 replace c10 := kc hbq c10
 replace z0 := kz hbq (by omega) z0
 replace z1 := kz hbq (by omega) z1
 replace z2 := kz hbq (by omega) z2
 replace z3 := kz hbq (by omega) z3
 replace z4 := kz hbq (by omega) z4
 replace b1 := b1.trans (hbq.mono b1.size)
 replace hr := hr.below hbq
 replace n2 := Nat.le_trans n2 hbq.size
 clear hbq kB
 generalize v2.drewN nq = v3 at *
 by_cases hwide : F.wd < bl
 · have HT := hid (show T = ⟨0, false, 0, 0⟩ from HT0.out.trans (h.upk_wide X (by
    have h1 := HBL.out
    have h2 : 0 < X := Nat.pos_of_ne_zero fun hh => by rw [hh, blen_zero] at h1; omega
    exact Nat.le_trans (Nat.pow_le_pow_right (by omega) (by omega)) (blen_le X h2))))
   go_wp2_with fail
   exact bodyPost_ret (v := .agg #[.int .i64 0, .bool false, .int .u64 0, .int .u64 0, .int .i64 0]) (by simp [results, Tryd.results11, go_sem, c6, c7, c8, c9, c10]) rfl ⟨pv_ret T (c := 0) (d := 0) (by rw [HT.out]) (by rw [HT.out]) (by rw [HT.out]; exact hi0.symm) (by rw [HT.out]; exact lo0.symm) (by rw [HT.out]), below5 b1 (by omega) _ _ _ _ _⟩
 have hXw : X < 2 ^ F.wd := Nat.lt_of_lt_of_le (lt_blen X) (Nat.pow_le_pow_right (by omega) (by have := HBL.out; omega))
 have HXw := hid hXw; clear hXw
 have hfb : F.fb ≤ 113 := by unfold M.Fm.fb; split <;> omega
 go_upto_if 34 with fail
 go_cut [7] (fun v wx => v = .int .i64 (F.fb : Int) ∧ wx = v3)
 case first =>
  by_cases hx : F.x = true
  · have hq : (F.p : Int) = (F.fb : Int) := by unfold M.Fm.fb; simp [hx]
    rw [hx] at c5
    rw [hx]
    go_wp2_with fail
    go_meet
    exact ⟨by first | rfl | rw [hq], rfl⟩
  · have hx' : F.x = false := by simpa using hx
    have hq : (F.p : Int) - 1 = (F.fb : Int) := by unfold M.Fm.fb; simp [hx']; omega
    rw [hx'] at c5
    rw [hx']
    go_wp2_with fail
    go_meet
    exact ⟨by first | rfl | rw [hq], rfl⟩
 obtain ⟨rfl, hww⟩ := hcut
 replace hww := hww.symm
 subst hww
 have kL := fun v (hh : Rd v ao (D X)) => l2Low_any ao n ca F.fb X v HN.out (by omega) (by omega) hh
 go_wp2_with fail
 refine (kL _ hr).mono ?_
 rintro e v4 ⟨ao2, ca2, rfl, ho, hb4⟩
 clear kL
 replace c0 := kc hb4 c0
 replace c1 := kc hb4 c1
 replace c2 := kc hb4 c2
 replace c3 := kc hb4 c3
 replace c4 := kc hb4 c4
 replace c5 := kc hb4 c5
 replace c6 := kc hb4 c6
 replace c7 := kc hb4 c7
 replace c8 := kc hb4 c8
 replace c9 := kc hb4 c9
 replace c10 := kc hb4 c10
 replace z0 := kz hb4 (by omega) z0
 replace z1 := kz hb4 (by omega) z1
 replace z2 := kz hb4 (by omega) z2
 replace z3 := kz hb4 (by omega) z3
 replace z4 := kz hb4 (by omega) z4
 replace b1 := b1.trans (hb4.mono b1.size)
 replace hr := hr.below hb4
 replace n2 := Nat.le_trans n2 hb4.size
 have hg := Rd.own ho
 have hpl : ∀ g o, ao2 = some ⟨g, o, none⟩ → g < v4.heap.size := fun g o e => (ho.lt g (by rw [e]; rfl)).2
 obtain ⟨G, hG⟩ : ∃ G, G = X % 2 ^ F.fb := ⟨_, rfl⟩
 rw [← hG] at hg ⊢
 have hGl : G < 2 ^ 128 := by rw [hG]; exact Nat.lt_of_le_of_lt (Nat.mod_le _ _) HX.out
 have HG := hid hG; clear hG ho hb4
 have hGn : (D G).length ≤ 6 := D_small G (by omega)
 have HGl := hid hGl; clear hGl
 obtain ⟨m, hm⟩ : ∃ m, m = (D G).length := ⟨_, rfl⟩
 rw [← hm] at hGn ⊢
 have HM := hid hm.symm; clear hm
 have hfb1 : (F.e : Int) ≤ 15 := by omega
 go_wp2_with fail
 obtain ⟨wm, hwm⟩ : ∃ wm, F.wd = wm + 1 := ⟨F.fb + F.e, rfl⟩
 have hwm2 : (F.wd : Int) - 1 = (wm : Int) := by omega
 have hwm3 : wm ≤ 128 := by omega
 obtain ⟨pm, hpm⟩ : ∃ pm, F.p = pm + 1 := ⟨F.p - 1, by omega⟩
 have hpm2 : (F.p : Int) - 1 = (pm : Int) := by omega
 have hpm3 : pm ≤ 128 := by omega
 have HWM := hid hwm; have HPM := hid hpm; clear hwm hpm
 obtain ⟨bs, hbs⟩ : ∃ bs, bs = X / 2 ^ wm % 2 := ⟨_, rfl⟩
 obtain ⟨ng, hng⟩ : ∃ ng, ng = decide (bs = 1) := ⟨_, rfl⟩
 have HBs := hid hbs; clear hbs
 go_loop [9, 10] (fun ex i => ∃ k E : Nat, k ≤ F.e ∧ ((k = 0 ∧ i = .int .i64 (-1)) ∨ (∃ j : Nat, k = j + 1 ∧ i = .int .i64 (j : Int))) ∧ ex = .int .i64 (E : Int) ∧ E = X / 2 ^ (F.fb + k) % 2 ^ (F.e - k)) (fun _ i => (intOf i + 1).toNat)
 case atStart =>
  refine ⟨F.e, 0, Nat.le_refl _, .inr ⟨F.e - 1, by omega, by go_num⟩, rfl, ?_⟩
  rw [Nat.sub_self, Nat.pow_zero, Nat.mod_one]
 case round =>
  obtain ⟨k, E, hk, hi, rfl, hE⟩ := hrel
  have HE := hid hE; clear hE
  rcases hi with ⟨rfl, rfl⟩ | ⟨j, rfl, rfl⟩
  · go_wp2_with fail
    refine (l1Bit_any ao n ca wm X _ HN.out (by omega) (by omega) hr bs HBs.out).mono ?_
    rintro e v5 ⟨rfl, rfl⟩
    have hn1 : ((bs : Int) == 1) = ng := by rw [hng]; simp [BEq.beq]; omega
    have HNg := hid hng; clear hng
    have hEf : E = F.fld X := by rw [HE.out]; rfl
    have HEf := hid hEf; clear hEf HE
    go_upto_region 17 with fail
    have hb6 : Below v5.heap.size v5 (v5.alloc (.cells #[.int .i64 0, .bool ng, .int .u64 0, .int .u64 0, .int .i64 0] 32)) := (Below.refl _ _).alloc (Nat.le_refl _) _
    have q0 : (v5.alloc (.cells #[.int .i64 0, .bool ng, .int .u64 0, .int .u64 0, .int .i64 0] 32)).cell? ⟨v5.heap.size, 0, none⟩ = some (.int .i64 0) := by simp [go_sem]
    have y0 : (v5.alloc (.cells #[.int .i64 0, .bool ng, .int .u64 0, .int .u64 0, .int .i64 0] 32)).frozen? ⟨v5.heap.size, 0, none⟩ = false := by simp [go_sem]
    have q1 : (v5.alloc (.cells #[.int .i64 0, .bool ng, .int .u64 0, .int .u64 0, .int .i64 0] 32)).cell? ⟨v5.heap.size, 1, none⟩ = some (.bool ng) := by simp [go_sem]
    have y1 : (v5.alloc (.cells #[.int .i64 0, .bool ng, .int .u64 0, .int .u64 0, .int .i64 0] 32)).frozen? ⟨v5.heap.size, 1, none⟩ = false := by simp [go_sem]
    have q2 : (v5.alloc (.cells #[.int .i64 0, .bool ng, .int .u64 0, .int .u64 0, .int .i64 0] 32)).cell? ⟨v5.heap.size, 2, none⟩ = some (.int .u64 0) := by simp [go_sem]
    have y2 : (v5.alloc (.cells #[.int .i64 0, .bool ng, .int .u64 0, .int .u64 0, .int .i64 0] 32)).frozen? ⟨v5.heap.size, 2, none⟩ = false := by simp [go_sem]
    have q3 : (v5.alloc (.cells #[.int .i64 0, .bool ng, .int .u64 0, .int .u64 0, .int .i64 0] 32)).cell? ⟨v5.heap.size, 3, none⟩ = some (.int .u64 0) := by simp [go_sem]
    have y3 : (v5.alloc (.cells #[.int .i64 0, .bool ng, .int .u64 0, .int .u64 0, .int .i64 0] 32)).frozen? ⟨v5.heap.size, 3, none⟩ = false := by simp [go_sem]
    have q4 : (v5.alloc (.cells #[.int .i64 0, .bool ng, .int .u64 0, .int .u64 0, .int .i64 0] 32)).cell? ⟨v5.heap.size, 4, none⟩ = some (.int .i64 0) := by simp [go_sem]
    have y4 : (v5.alloc (.cells #[.int .i64 0, .bool ng, .int .u64 0, .int .u64 0, .int .i64 0] 32)).frozen? ⟨v5.heap.size, 4, none⟩ = false := by simp [go_sem]
    have lgp : v5.heap.size < (v5.alloc (.cells #[.int .i64 0, .bool ng, .int .u64 0, .int .u64 0, .int .i64 0] 32)).heap.size := by simp
    replace c0 := kc hb6 c0
    replace c1 := kc hb6 c1
    replace c2 := kc hb6 c2
    replace c3 := kc hb6 c3
    replace c4 := kc hb6 c4
    replace c5 := kc hb6 c5
    replace c6 := kc hb6 c6
    replace c7 := kc hb6 c7
    replace c8 := kc hb6 c8
    replace c9 := kc hb6 c9
    replace c10 := kc hb6 c10
    replace z0 := kz hb6 (by omega) z0
    replace z1 := kz hb6 (by omega) z1
    replace z2 := kz hb6 (by omega) z2
    replace z3 := kz hb6 (by omega) z3
    replace z4 := kz hb6 (by omega) z4
    replace b1 := b1.trans (hb6.mono b1.size)
    replace hr := hr.below hb6
    replace hg := hg.below hb6
    have n3 : gd + 1 ≤ v5.heap.size := n2
    clear hb6 n2
    generalize v5.alloc (.cells #[.int .i64 0, .bool ng, .int .u64 0, .int .u64 0, .int .i64 0] 32) = v6 at *
    have hpl2 : ∀ g o, ao2 = some ⟨g, o, none⟩ → g ≠ v5.heap.size := fun g o e => Nat.ne_of_lt (hpl g o e)
    clear hpl
    generalize v5.heap.size = gp at *
    go_wp2_with fail
    go_loop [12, 13] (fun tp i => ∃ k : Nat, k ≤ F.e ∧ i = .int .i64 (k : Int) ∧ tp = .int .i64 ((2 ^ k : Nat) : Int)) (fun _ i => F.e - (intOf i).toNat)
    case atStart => exact ⟨0, by omega, rfl, rfl⟩
    case round =>
     obtain ⟨k, hk, rfl, rfl⟩ := hrel
     have hpk : 2 ^ k ≤ 2 ^ 15 := Nat.pow_le_pow_right (by omega) (by omega)
     obtain ⟨P, hP⟩ : ∃ P, P = 2 ^ k := ⟨_, rfl⟩
     rw [← hP] at hpk ⊢
     have HP := hid hP; clear hP
     have hPl : P ≤ 32768 := hpk
     by_cases hlt : k < F.e
     · go_wp2_with fail
       go_round
       case rel => exact ⟨k + 1, by omega, by go_num, by rw [Nat.pow_succ, ← HP.out]; go_num⟩
       case measure => simp [intOf]; omega
     · have hke : k = F.e := by omega
       have htp : (P : Int) - 1 = (F.top : Int) := by have := h.top2; have e := HP.out; rw [hke] at e; omega
       have hlt' : ¬ (k : Int) < (F.e : Int) := by omega
       clear hke
       obtain ⟨R, hR⟩ : ∃ R, R = F.rst X := ⟨_, rfl⟩
       have hRl : R < F.lead := by rw [hR]; exact h.rstLt X
       have hll : 2 * F.lead ≤ 2 ^ 114 := by unfold M.Fm.lead; rw [Nat.mul_comm, ← Nat.pow_succ]; exact Nat.pow_le_pow_right (by omega) (by omega)
       obtain ⟨mr, hmr⟩ : ∃ mr, mr = (D R).length := ⟨_, rfl⟩
       have hmr6 : mr ≤ 6 := by rw [hmr]; exact D_small R (by omega)
       have HMr := hid hmr.symm; clear hmr
       have hRn : F.x = false → R = G := by intro hx; rw [hR, HG.out]; unfold M.Fm.rst; simp [hx]
       have hRx : F.x = true → R = G % 2 ^ pm := by intro hx; rw [hR, HG.out]; unfold M.Fm.rst M.Fm.lead; rw [HPM.out]; simp [hx]
       have hbq : F.x = true → (G / 2 ^ pm % 2 = 1 ↔ F.lead ≤ G) := by
        intro hx
        have e1 : F.lead = 2 ^ pm := by unfold M.Fm.lead; rw [HPM.out]; rfl
        have h1 := h.fracLt X
        rw [← HG.out, if_pos hx, e1] at h1
        have hp0 : 0 < 2 ^ pm := Nat.pow_pos (by omega)
        have h2 : G / 2 ^ pm < 2 := Nat.div_lt_of_lt_mul (by rw [Nat.mul_comm]; exact h1)
        rw [e1]
        constructor
        · intro hh; have : 1 ≤ G / 2 ^ pm := Nat.pos_of_ne_zero fun h0 => by rw [h0] at hh; omega
          have := (Nat.le_div_iff_mul_le hp0).1 this; rw [Nat.one_mul] at this; exact this
        · intro hh; have : 1 ≤ G / 2 ^ pm := (Nat.le_div_iff_mul_le hp0).2 (by rw [Nat.one_mul]; exact hh)
          omega
       have HR := hid hR; have HRn := hid hRn; have HRx := hid hRx; have HBq := hid hbq; have HLL := hid hll; have HRl := hid hRl
       clear hR hRn hRx hbq hll hRl
       have hEl : E ≤ 40000 := by have := h.top2; have := M.Fm.fldLe h X; rw [HEf.out]; omega
       go_upto_if 75 with fail
       go_cut [14, 15] (fun ld rs wx => (∃ b, ld = .bool b) ∧ (∃ ao3 ca3, rs = .slice ao3 mr ca3 ∧ Rd wx ao3 (D R) ∧ ∀ g o, ao3 = some ⟨g, o, none⟩ → g ≠ gp) ∧ Below v6.heap.size v6 wx ∧ (F.x = true → (F.lead ≤ G ↔ 0 < E)))
       case first =>
        by_cases hx : F.x = true
        · rw [hx] at c5
          rw [hx]
          obtain ⟨bq, hbq⟩ : ∃ bq, bq = G / 2 ^ pm % 2 := ⟨_, rfl⟩
          obtain ⟨lb, hlb⟩ : ∃ lb, lb = decide (bq = 1) := ⟨_, rfl⟩
          have hl1 : ((bq : Int) == 1) = lb := by rw [hlb]; simp [BEq.beq]; omega
          have hlead : lb = decide (F.lead ≤ G) := by rw [hlb, hbq]; exact decide_eq_decide.2 (HBq.out hx)
          have HBqe := hid hbq; have HLead := hid hlead; have HRe := hid (HRx.out hx); clear hbq hlb hlead
          have HXt := hid hx; clear hx
          go_wp2_with fail
          refine (l1Bit_any ao2 m ca2 pm G _ HM.out (by omega) (by omega) hg bq HBqe.out).mono ?_
          rintro e v7 ⟨rfl, rfl⟩
          go_wp2_with fail
          refine (l2Low_any ao2 m ca2 pm G _ HM.out (by omega) (by omega) hg).mono ?_
          rw [← HRe.out]
          rintro e v8 ⟨ao3, ca3, rfl, ho3, hb8⟩
          rw [HMr.out]
          replace c6 := kc hb8 c6
          replace c7 := kc hb8 c7
          replace c8 := kc hb8 c8
          replace c9 := kc hb8 c9
          replace c10 := kc hb8 c10
          replace z0 := kz hb8 (by omega) z0
          replace z1 := kz hb8 (by omega) z1
          replace z2 := kz hb8 (by omega) z2
          replace z3 := kz hb8 (by omega) z3
          replace z4 := kz hb8 (by omega) z4
          have hr3 := Rd.own ho3
          have b8 := b1.trans (hb8.mono b1.size)
          have hpl3 : ∀ g o, ao3 = some ⟨g, o, none⟩ → g ≠ gp := fun g o e => by have := (ho3.lt g (by rw [e]; rfl)).1; omega
          clear ho3
          have hbad : ¬ (F.lead ≤ G ↔ 0 < E) → T = ⟨0, false, 0, 0⟩ := by
           intro hh
           rw [HG.out, HEf.out] at hh
           exact HT0.out.trans (h.upk_lead X HXt.out hh)
          by_cases hE0 : E = 0
          · cases hlv : lb
            · subst hE0
              rw [hlv] at hl1
              have HLv := hid hlv; clear hlv
              go_wp2_with fail
              go_meet
              refine ⟨⟨_, rfl⟩, ⟨_, _, rfl, hr3, hpl3⟩, hb8, fun _ => ?_⟩
              have := HLead.out
              rw [HLv.out] at this
              have h9 := of_decide_eq_false this.symm
              omega
            · have HT := hid (hbad (by have := HLead.out; rw [hlv] at this; have h9 := of_decide_eq_true this.symm; omega))
              clear hbad
              subst hE0
              rw [hlv] at hl1
              have HLv := hid hlv; clear hlv
              go_wp2_with fail
              exact bodyPost_ret (v := .agg #[.int .i64 0, .bool false, .int .u64 0, .int .u64 0, .int .i64 0]) (by simp [results, Tryd.results11, go_sem, c6, c7, c8, c9, c10]) rfl ⟨pv_ret T (c := 0) (d := 0) (by rw [HT.out]) (by rw [HT.out]) (by rw [HT.out]; exact hi0.symm) (by rw [HT.out]; exact lo0.symm) (by rw [HT.out]), below5 b8 (by omega) _ _ _ _ _⟩
          · have hE1 : 0 < E := by omega
            have hE2 : ((E : Int) == 0) = false := by simp; omega
            cases hlv : lb
            · have HT := hid (hbad (by have := HLead.out; rw [hlv] at this; have h9 := of_decide_eq_false this.symm; omega))
              clear hbad
              rw [hlv] at hl1
              have HLv := hid hlv; clear hlv
              go_wp2_with fail
              exact bodyPost_ret (v := .agg #[.int .i64 0, .bool false, .int .u64 0, .int .u64 0, .int .i64 0]) (by simp [results, Tryd.results11, go_sem, c6, c7, c8, c9, c10]) rfl ⟨pv_ret T (c := 0) (d := 0) (by rw [HT.out]) (by rw [HT.out]) (by rw [HT.out]; exact hi0.symm) (by rw [HT.out]; exact lo0.symm) (by rw [HT.out]), below5 b8 (by omega) _ _ _ _ _⟩
            · rw [hlv] at hl1
              have HLv := hid hlv; clear hlv hbad
              go_wp2_with fail
              go_meet
              refine ⟨⟨_, rfl⟩, ⟨_, _, rfl, hr3, hpl3⟩, hb8, fun _ => ?_⟩
              have := HLead.out
              rw [HLv.out] at this
              have h9 := of_decide_eq_true this.symm
              omega
        · have hx' : F.x = false := by simpa using hx
          rw [hx'] at c5
          rw [hx']
          have e := HRn.out hx'
          go_wp2_with fail
          go_meet
          exact ⟨⟨_, rfl⟩, ⟨ao2, ca2, by rw [← HMr.out, ← HM.out, e], by rw [e]; exact hg, hpl2⟩, Below.refl _ _, fun hh => absurd hh hx⟩
       rename World => v7
       obtain ⟨⟨lb, rfl⟩, ⟨ao3, ca3, rfl, hr3, hpl4⟩, hb7, hxl⟩ := hcut
       replace c0 := kc hb7 c0
       replace c1 := kc hb7 c1
       replace c2 := kc hb7 c2
       replace c3 := kc hb7 c3
       replace c4 := kc hb7 c4
       replace c5 := kc hb7 c5
       replace c6 := kc hb7 c6
       replace c7 := kc hb7 c7
       replace c8 := kc hb7 c8
       replace c9 := kc hb7 c9
       replace c10 := kc hb7 c10
       replace z0 := kz hb7 (by omega) z0
       replace z1 := kz hb7 (by omega) z1
       replace z2 := kz hb7 (by omega) z2
       replace z3 := kz hb7 (by omega) z3
       replace z4 := kz hb7 (by omega) z4
       replace q0 : v7.cell? ⟨gp, 0, none⟩ = some (.int .i64 0) := (hb7.cell (by simp only; omega)).trans q0
       replace y0 : v7.frozen? ⟨gp, 0, none⟩ = false := (hb7.frozen (by simp only; omega)).trans y0
       replace q1 : v7.cell? ⟨gp, 1, none⟩ = some (.bool ng) := (hb7.cell (by simp only; omega)).trans q1
       replace y1 : v7.frozen? ⟨gp, 1, none⟩ = false := (hb7.frozen (by simp only; omega)).trans y1
       replace q2 : v7.cell? ⟨gp, 2, none⟩ = some (.int .u64 0) := (hb7.cell (by simp only; omega)).trans q2
       replace y2 : v7.frozen? ⟨gp, 2, none⟩ = false := (hb7.frozen (by simp only; omega)).trans y2
       replace q3 : v7.cell? ⟨gp, 3, none⟩ = some (.int .u64 0) := (hb7.cell (by simp only; omega)).trans q3
       replace y3 : v7.frozen? ⟨gp, 3, none⟩ = false := (hb7.frozen (by simp only; omega)).trans y3
       replace q4 : v7.cell? ⟨gp, 4, none⟩ = some (.int .i64 0) := (hb7.cell (by simp only; omega)).trans q4
       replace y4 : v7.frozen? ⟨gp, 4, none⟩ = false := (hb7.frozen (by simp only; omega)).trans y4
       have lgp7 : gp < v7.heap.size := Nat.lt_of_lt_of_le lgp hb7.size
       replace b1 := b1.trans (hb7.mono b1.size)
       have ne1 : ¬ gp = w.heap.size + 1 := by omega
       have ne2 : ¬ w.heap.size + 1 = gp := by omega
       have ne3 : ¬ gd = gp := by omega
       have ne4 : ¬ gp = gd := by omega
       have hTe := HT0.out
       rw [h.upk_rst X HXw.out (fun hx => by have := hxl hx; rw [HG.out, HEf.out] at this; exact this)] at hTe
       have e0 : F.wd - 1 = wm := by have := HWM.out; omega
       rw [e0, ← HBs.out, ← HNg.out, ← HR.out, ← HEf.out] at hTe
       clear e0 hb7 hxl HT0 hg hr lgp
       have hm0 : mr = 0 ↔ R = 0 := by
        rw [← HMr.out]
        constructor
        · intro hh; rcases Nat.eq_zero_or_pos R with h0 | h0
          · exact h0
          · unfold D at hh; rw [M.dig_pos (by omega) h0] at hh; simp at hh
        · intro hh; rw [hh]; simp [D, M.dig_zero]
       have HM0 := hid hm0; clear hm0
       by_cases ht : E = F.top
       · rw [if_pos ht] at hTe
         have HTp := hid ht
         subst ht
         by_cases h0 : R = 0
         · have hm := HM0.out.2 h0
           rw [if_pos h0] at hTe
           have HT := hid hTe; clear hTe h0
           subst hm
           go_wp2_with fail
           exact bodyPost_ret (v := .agg #[.int .i64 4, .bool ng, .int .u64 0, .int .u64 0, .int .i64 0]) (by simp [results, Tryd.results11, go_sem, c6, c7, c8, c9, c10]) rfl ⟨pv_ret T (c := 0) (d := 0) (by rw [HT.out]) (by rw [HT.out]) (by rw [HT.out]; exact hi0.symm) (by rw [HT.out]; exact lo0.symm) (by rw [HT.out]), below5 (b1.setCell (p := ⟨gp, 0, none⟩) (by simp only; omega) _) (by omega) _ _ _ _ _⟩
         · have hm : ¬ mr = 0 := fun hh => h0 (HM0.out.1 hh)
           have hm2 : ((mr : Int) == 0) = false := by simp; omega
           rw [if_neg h0] at hTe
           have HT := hid hTe; clear hTe h0
           go_wp2_with fail
           exact bodyPost_ret (v := .agg #[.int .i64 5, .bool false, .int .u64 0, .int .u64 0, .int .i64 0]) (by simp [results, Tryd.results11, go_sem, c6, c7, c8, c9, c10]) rfl ⟨pv_ret T (c := 0) (d := 0) (by rw [HT.out]) (by rw [HT.out]) (by rw [HT.out]; exact hi0.symm) (by rw [HT.out]; exact lo0.symm) (by rw [HT.out]), below5 b1 (by omega) _ _ _ _ _⟩
       · rw [if_neg ht] at hTe
         have ht2 : ((E : Int) == (F.top : Int)) = false := by simp; omega
         by_cases hE0 : E = 0
         · rw [if_pos hE0] at hTe
           have HE0 := hid hE0
           subst hE0
           by_cases h0 : R = 0
           · have hm := HM0.out.2 h0
             rw [if_pos h0] at hTe
             have HT := hid hTe; clear hTe h0
             subst hm
             go_wp2_with fail
             exact bodyPost_ret (v := .agg #[.int .i64 1, .bool ng, .int .u64 0, .int .u64 0, .int .i64 0]) (by simp [results, Tryd.results11, go_sem, c6, c7, c8, c9, c10]) rfl ⟨pv_ret T (c := 0) (d := 0) (by rw [HT.out]) (by rw [HT.out]) (by rw [HT.out]; exact hi0.symm) (by rw [HT.out]; exact lo0.symm) (by rw [HT.out]), below5 (b1.setCell (p := ⟨gp, 0, none⟩) (by simp only; omega) _) (by omega) _ _ _ _ _⟩
           · have hm : ¬ mr = 0 := fun hh => h0 (HM0.out.1 hh)
             have hm2 : ((mr : Int) == 0) = false := by simp; omega
             rw [if_neg h0] at hTe
             have HT := hid hTe; clear hTe h0
             go_upto_region 41 with fail
             have hs0 : Below w.heap.size w (v7.setCell ⟨gp, 0, none⟩ (.int .i64 2)) := b1.setCell (p := ⟨gp, 0, none⟩) (by simp only; omega) _
             replace hr3 : Rd (v7.setCell ⟨gp, 0, none⟩ (.int .i64 2)) ao3 (D R) := hr3.set1 hpl4
             replace c0 : (v7.setCell ⟨gp, 0, none⟩ (.int .i64 2)).cell? ⟨gd, 0, none⟩ = some (.int .i64 (F.p : Int)) := (far1 _ _ (by omega)).trans c0
             replace c1 : (v7.setCell ⟨gp, 0, none⟩ (.int .i64 2)).cell? ⟨gd, 1, none⟩ = some (.int .i64 (1 - (F.emax : Int))) := (far1 _ _ (by omega)).trans c1
             replace c2 : (v7.setCell ⟨gp, 0, none⟩ (.int .i64 2)).cell? ⟨gd, 2, none⟩ = some (.int .i64 (F.emax : Int)) := (far1 _ _ (by omega)).trans c2
             replace c3 : (v7.setCell ⟨gp, 0, none⟩ (.int .i64 2)).cell? ⟨gd, 3, none⟩ = some (.int .i64 (F.wd : Int)) := (far1 _ _ (by omega)).trans c3
             replace c4 : (v7.setCell ⟨gp, 0, none⟩ (.int .i64 2)).cell? ⟨gd, 4, none⟩ = some (.int .i64 (F.e : Int)) := (far1 _ _ (by omega)).trans c4
             replace c5 : (v7.setCell ⟨gp, 0, none⟩ (.int .i64 2)).cell? ⟨gd, 5, none⟩ = some (.bool F.x) := (far1 _ _ (by omega)).trans c5
             replace c6 : (v7.setCell ⟨gp, 0, none⟩ (.int .i64 2)).cell? ⟨w.heap.size + 1, 0, none⟩ = some (.int .i64 0) := (far1 _ _ (by omega)).trans c6
             replace c7 : (v7.setCell ⟨gp, 0, none⟩ (.int .i64 2)).cell? ⟨w.heap.size + 1, 1, none⟩ = some (.bool false) := (far1 _ _ (by omega)).trans c7
             replace c8 : (v7.setCell ⟨gp, 0, none⟩ (.int .i64 2)).cell? ⟨w.heap.size + 1, 2, none⟩ = some (.int .u64 0) := (far1 _ _ (by omega)).trans c8
             replace c9 : (v7.setCell ⟨gp, 0, none⟩ (.int .i64 2)).cell? ⟨w.heap.size + 1, 3, none⟩ = some (.int .u64 0) := (far1 _ _ (by omega)).trans c9
             replace c10 : (v7.setCell ⟨gp, 0, none⟩ (.int .i64 2)).cell? ⟨w.heap.size + 1, 4, none⟩ = some (.int .i64 0) := (far1 _ _ (by omega)).trans c10
             replace z0 : (v7.setCell ⟨gp, 0, none⟩ (.int .i64 2)).frozen? ⟨w.heap.size + 1, 0, none⟩ = false := (ffar1 _ _ (by omega)).trans z0
             replace z1 : (v7.setCell ⟨gp, 0, none⟩ (.int .i64 2)).frozen? ⟨w.heap.size + 1, 1, none⟩ = false := (ffar1 _ _ (by omega)).trans z1
             replace z2 : (v7.setCell ⟨gp, 0, none⟩ (.int .i64 2)).frozen? ⟨w.heap.size + 1, 2, none⟩ = false := (ffar1 _ _ (by omega)).trans z2
             replace z3 : (v7.setCell ⟨gp, 0, none⟩ (.int .i64 2)).frozen? ⟨w.heap.size + 1, 3, none⟩ = false := (ffar1 _ _ (by omega)).trans z3
             replace z4 : (v7.setCell ⟨gp, 0, none⟩ (.int .i64 2)).frozen? ⟨w.heap.size + 1, 4, none⟩ = false := (ffar1 _ _ (by omega)).trans z4
             replace q0 : (v7.setCell ⟨gp, 0, none⟩ (.int .i64 2)).cell? ⟨gp, 0, none⟩ = some (.int .i64 2) := by simp [go_sem, q0]
             replace q1 : (v7.setCell ⟨gp, 0, none⟩ (.int .i64 2)).cell? ⟨gp, 1, none⟩ = some (.bool ng) := by simp [go_sem, q1]
             replace q2 : (v7.setCell ⟨gp, 0, none⟩ (.int .i64 2)).cell? ⟨gp, 2, none⟩ = some (.int .u64 0) := by simp [go_sem, q2]
             replace q3 : (v7.setCell ⟨gp, 0, none⟩ (.int .i64 2)).cell? ⟨gp, 3, none⟩ = some (.int .u64 0) := by simp [go_sem, q3]
             replace q4 : (v7.setCell ⟨gp, 0, none⟩ (.int .i64 2)).cell? ⟨gp, 4, none⟩ = some (.int .i64 0) := by simp [go_sem, q4]
             replace y0 : (v7.setCell ⟨gp, 0, none⟩ (.int .i64 2)).frozen? ⟨gp, 0, none⟩ = false := by simp [go_sem, y0]
             replace y1 : (v7.setCell ⟨gp, 0, none⟩ (.int .i64 2)).frozen? ⟨gp, 1, none⟩ = false := by simp [go_sem, y1]
             replace y2 : (v7.setCell ⟨gp, 0, none⟩ (.int .i64 2)).frozen? ⟨gp, 2, none⟩ = false := by simp [go_sem, y2]
             replace y3 : (v7.setCell ⟨gp, 0, none⟩ (.int .i64 2)).frozen? ⟨gp, 3, none⟩ = false := by simp [go_sem, y3]
             replace y4 : (v7.setCell ⟨gp, 0, none⟩ (.int .i64 2)).frozen? ⟨gp, 4, none⟩ = false := by simp [go_sem, y4]
             replace lgp7 : gp < (v7.setCell ⟨gp, 0, none⟩ (.int .i64 2)).heap.size := by simpa using lgp7
             clear b1
             generalize (v7.setCell ⟨gp, 0, none⟩ (.int .i64 2)) = v8 at *
             go_wp2_with fail
             refine (l2Word_any ao3 mr ca3 R _ HMr.out (by have := HRl.out; have := HLL.out; omega) hr3).mono ?_
             rintro e v9 ⟨rfl, hb9⟩
             replace c0 := kc hb9 c0
             replace c1 := kc hb9 c1
             replace c2 := kc hb9 c2
             replace c3 := kc hb9 c3
             replace c4 := kc hb9 c4
             replace c5 := kc hb9 c5
             replace c6 := kc hb9 c6
             replace c7 := kc hb9 c7
             replace c8 := kc hb9 c8
             replace c9 := kc hb9 c9
             replace c10 := kc hb9 c10
             replace z0 := kz hb9 (by omega) z0
             replace z1 := kz hb9 (by omega) z1
             replace z2 := kz hb9 (by omega) z2
             replace z3 := kz hb9 (by omega) z3
             replace z4 := kz hb9 (by omega) z4
             replace q0 : v9.cell? ⟨gp, 0, none⟩ = some (.int .i64 2) := (hb9.cell (by simp only; omega)).trans q0
             replace y0 : v9.frozen? ⟨gp, 0, none⟩ = false := (hb9.frozen (by simp only; omega)).trans y0
             replace q1 : v9.cell? ⟨gp, 1, none⟩ = some (.bool ng) := (hb9.cell (by simp only; omega)).trans q1
             replace y1 : v9.frozen? ⟨gp, 1, none⟩ = false := (hb9.frozen (by simp only; omega)).trans y1
             replace q2 : v9.cell? ⟨gp, 2, none⟩ = some (.int .u64 0) := (hb9.cell (by simp only; omega)).trans q2
             replace y2 : v9.frozen? ⟨gp, 2, none⟩ = false := (hb9.frozen (by simp only; omega)).trans y2
             replace q3 : v9.cell? ⟨gp, 3, none⟩ = some (.int .u64 0) := (hb9.cell (by simp only; omega)).trans q3
             replace y3 : v9.frozen? ⟨gp, 3, none⟩ = false := (hb9.frozen (by simp only; omega)).trans y3
             replace q4 : v9.cell? ⟨gp, 4, none⟩ = some (.int .i64 0) := (hb9.cell (by simp only; omega)).trans q4
             replace y4 : v9.frozen? ⟨gp, 4, none⟩ = false := (hb9.frozen (by simp only; omega)).trans y4
             replace lgp7 : gp < v9.heap.size := Nat.lt_of_lt_of_le lgp7 hb9.size
             have b9 := hs0.trans (hb9.mono hs0.size)
             have hqm : 1 - (F.emax : Int) - (F.p : Int) + 1 = F.qmin := by unfold M.Fm.qmin; omega
             clear hb9 hs0 hr3
             go_wp2_with fail
             exact bodyPost_ret (v := .agg #[.int .i64 2, .bool ng, .int .u64 (M.hiN R : Int), .int .u64 (M.loN R : Int), .int .i64 F.qmin]) (by simp [results, Tryd.results11, go_sem, c6, c7, c8, c9, c10]) rfl ⟨pv_ret T (c := M.hiN R) (d := M.loN R) (by rw [HT.out]) (by rw [HT.out]) (by rw [HT.out]) (by rw [HT.out]) (by rw [HT.out]), below5 (((b9.setCell (p := ⟨gp, 2, none⟩) (by simp only; omega) _).setCell (p := ⟨gp, 3, none⟩) (by simp only; omega) _).setCell (p := ⟨gp, 4, none⟩) (by simp only; omega) _) (by omega) _ _ _ _ _⟩
         · rw [if_neg hE0] at hTe
           have HT := hid hTe; clear hTe
           have hE2 : ((E : Int) == 0) = false := by simp; omega
           have hpl' : F.lead = 2 ^ pm := by unfold M.Fm.lead; rw [HPM.out]; rfl
           have HPl := hid hpl'; clear hpl'
           go_upto_region 31 with fail
           have hs0 : Below w.heap.size w (v7.setCell ⟨gp, 0, none⟩ (.int .i64 3)) := b1.setCell (p := ⟨gp, 0, none⟩) (by simp only; omega) _
           replace hr3 : Rd (v7.setCell ⟨gp, 0, none⟩ (.int .i64 3)) ao3 (D R) := hr3.set1 hpl4
           replace c0 : (v7.setCell ⟨gp, 0, none⟩ (.int .i64 3)).cell? ⟨gd, 0, none⟩ = some (.int .i64 (F.p : Int)) := (far1 _ _ (by omega)).trans c0
           replace c1 : (v7.setCell ⟨gp, 0, none⟩ (.int .i64 3)).cell? ⟨gd, 1, none⟩ = some (.int .i64 (1 - (F.emax : Int))) := (far1 _ _ (by omega)).trans c1
           replace c2 : (v7.setCell ⟨gp, 0, none⟩ (.int .i64 3)).cell? ⟨gd, 2, none⟩ = some (.int .i64 (F.emax : Int)) := (far1 _ _ (by omega)).trans c2
           replace c3 : (v7.setCell ⟨gp, 0, none⟩ (.int .i64 3)).cell? ⟨gd, 3, none⟩ = some (.int .i64 (F.wd : Int)) := (far1 _ _ (by omega)).trans c3
           replace c4 : (v7.setCell ⟨gp, 0, none⟩ (.int .i64 3)).cell? ⟨gd, 4, none⟩ = some (.int .i64 (F.e : Int)) := (far1 _ _ (by omega)).trans c4
           replace c5 : (v7.setCell ⟨gp, 0, none⟩ (.int .i64 3)).cell? ⟨gd, 5, none⟩ = some (.bool F.x) := (far1 _ _ (by omega)).trans c5
           replace c6 : (v7.setCell ⟨gp, 0, none⟩ (.int .i64 3)).cell? ⟨w.heap.size + 1, 0, none⟩ = some (.int .i64 0) := (far1 _ _ (by omega)).trans c6
           replace c7 : (v7.setCell ⟨gp, 0, none⟩ (.int .i64 3)).cell? ⟨w.heap.size + 1, 1, none⟩ = some (.bool false) := (far1 _ _ (by omega)).trans c7
           replace c8 : (v7.setCell ⟨gp, 0, none⟩ (.int .i64 3)).cell? ⟨w.heap.size + 1, 2, none⟩ = some (.int .u64 0) := (far1 _ _ (by omega)).trans c8
           replace c9 : (v7.setCell ⟨gp, 0, none⟩ (.int .i64 3)).cell? ⟨w.heap.size + 1, 3, none⟩ = some (.int .u64 0) := (far1 _ _ (by omega)).trans c9
           replace c10 : (v7.setCell ⟨gp, 0, none⟩ (.int .i64 3)).cell? ⟨w.heap.size + 1, 4, none⟩ = some (.int .i64 0) := (far1 _ _ (by omega)).trans c10
           replace z0 : (v7.setCell ⟨gp, 0, none⟩ (.int .i64 3)).frozen? ⟨w.heap.size + 1, 0, none⟩ = false := (ffar1 _ _ (by omega)).trans z0
           replace z1 : (v7.setCell ⟨gp, 0, none⟩ (.int .i64 3)).frozen? ⟨w.heap.size + 1, 1, none⟩ = false := (ffar1 _ _ (by omega)).trans z1
           replace z2 : (v7.setCell ⟨gp, 0, none⟩ (.int .i64 3)).frozen? ⟨w.heap.size + 1, 2, none⟩ = false := (ffar1 _ _ (by omega)).trans z2
           replace z3 : (v7.setCell ⟨gp, 0, none⟩ (.int .i64 3)).frozen? ⟨w.heap.size + 1, 3, none⟩ = false := (ffar1 _ _ (by omega)).trans z3
           replace z4 : (v7.setCell ⟨gp, 0, none⟩ (.int .i64 3)).frozen? ⟨w.heap.size + 1, 4, none⟩ = false := (ffar1 _ _ (by omega)).trans z4
           replace q0 : (v7.setCell ⟨gp, 0, none⟩ (.int .i64 3)).cell? ⟨gp, 0, none⟩ = some (.int .i64 3) := by simp [go_sem, q0]
           replace q1 : (v7.setCell ⟨gp, 0, none⟩ (.int .i64 3)).cell? ⟨gp, 1, none⟩ = some (.bool ng) := by simp [go_sem, q1]
           replace q2 : (v7.setCell ⟨gp, 0, none⟩ (.int .i64 3)).cell? ⟨gp, 2, none⟩ = some (.int .u64 0) := by simp [go_sem, q2]
           replace q3 : (v7.setCell ⟨gp, 0, none⟩ (.int .i64 3)).cell? ⟨gp, 3, none⟩ = some (.int .u64 0) := by simp [go_sem, q3]
           replace q4 : (v7.setCell ⟨gp, 0, none⟩ (.int .i64 3)).cell? ⟨gp, 4, none⟩ = some (.int .i64 0) := by simp [go_sem, q4]
           replace y0 : (v7.setCell ⟨gp, 0, none⟩ (.int .i64 3)).frozen? ⟨gp, 0, none⟩ = false := by simp [go_sem, y0]
           replace y1 : (v7.setCell ⟨gp, 0, none⟩ (.int .i64 3)).frozen? ⟨gp, 1, none⟩ = false := by simp [go_sem, y1]
           replace y2 : (v7.setCell ⟨gp, 0, none⟩ (.int .i64 3)).frozen? ⟨gp, 2, none⟩ = false := by simp [go_sem, y2]
           replace y3 : (v7.setCell ⟨gp, 0, none⟩ (.int .i64 3)).frozen? ⟨gp, 3, none⟩ = false := by simp [go_sem, y3]
           replace y4 : (v7.setCell ⟨gp, 0, none⟩ (.int .i64 3)).frozen? ⟨gp, 4, none⟩ = false := by simp [go_sem, y4]
           replace lgp7 : gp < (v7.setCell ⟨gp, 0, none⟩ (.int .i64 3)).heap.size := by simpa using lgp7
           clear b1
           generalize (v7.setCell ⟨gp, 0, none⟩ (.int .i64 3)) = v8 at *
           go_wp2_with fail
           refine (l2Two_any pm _ (by omega)).mono ?_
           rintro e v9 ⟨ao4, ca4, rfl, ho4, hb9⟩
           go_wp2_with fail
           refine (l1Add_any ao3 ao4 mr _ ca3 ca4 R (2 ^ pm) _ HMr.out rfl (by omega) (by have := D_small (2 ^ pm) (by have := HLL.out; have := HPl.out; omega); omega) (hr3.below hb9) (Rd.own ho4)).mono ?_
           rintro e va ⟨ao5, ca5, rfl, ho5, hba⟩
           have hb10 := hb9.trans (hba.mono hb9.size)
           go_wp2_with fail
           refine (l2Word_any ao5 _ ca5 (R + 2 ^ pm) _ rfl (by have := HRl.out; have := HLL.out; have := HPl.out; omega) (Rd.own ho5)).mono ?_
           rintro e vb ⟨rfl, hbb⟩
           have hb11 := hb10.trans (hbb.mono hb10.size)
           replace c0 := kc hb11 c0
           replace c1 := kc hb11 c1
           replace c2 := kc hb11 c2
           replace c3 := kc hb11 c3
           replace c4 := kc hb11 c4
           replace c5 := kc hb11 c5
           replace c6 := kc hb11 c6
           replace c7 := kc hb11 c7
           replace c8 := kc hb11 c8
           replace c9 := kc hb11 c9
           replace c10 := kc hb11 c10
           replace z0 := kz hb11 (by omega) z0
           replace z1 := kz hb11 (by omega) z1
           replace z2 := kz hb11 (by omega) z2
           replace z3 := kz hb11 (by omega) z3
           replace z4 := kz hb11 (by omega) z4
           replace q0 : vb.cell? ⟨gp, 0, none⟩ = some (.int .i64 3) := (hb11.cell (by simp only; omega)).trans q0
           replace y0 : vb.frozen? ⟨gp, 0, none⟩ = false := (hb11.frozen (by simp only; omega)).trans y0
           replace q1 : vb.cell? ⟨gp, 1, none⟩ = some (.bool ng) := (hb11.cell (by simp only; omega)).trans q1
           replace y1 : vb.frozen? ⟨gp, 1, none⟩ = false := (hb11.frozen (by simp only; omega)).trans y1
           replace q2 : vb.cell? ⟨gp, 2, none⟩ = some (.int .u64 0) := (hb11.cell (by simp only; omega)).trans q2
           replace y2 : vb.frozen? ⟨gp, 2, none⟩ = false := (hb11.frozen (by simp only; omega)).trans y2
           replace q3 : vb.cell? ⟨gp, 3, none⟩ = some (.int .u64 0) := (hb11.cell (by simp only; omega)).trans q3
           replace y3 : vb.frozen? ⟨gp, 3, none⟩ = false := (hb11.frozen (by simp only; omega)).trans y3
           replace q4 : vb.cell? ⟨gp, 4, none⟩ = some (.int .i64 0) := (hb11.cell (by simp only; omega)).trans q4
           replace y4 : vb.frozen? ⟨gp, 4, none⟩ = false := (hb11.frozen (by simp only; omega)).trans y4
           replace lgp7 : gp < vb.heap.size := Nat.lt_of_lt_of_le lgp7 hb11.size
           have b9 := hs0.trans (hb11.mono hs0.size)
           obtain ⟨Y, hY⟩ : ∃ Y, Y = R + 2 ^ pm := ⟨_, rfl⟩
           rw [← hY]
           have hY2 : Y = R + F.lead := by rw [hY, HPl.out]
           have HY := hid hY2; clear hY2 hY hb11 hbb hb10 hba hb9 ho4 ho5 hs0 hr3
           go_wp2_with fail
           exact bodyPost_ret (v := .agg #[.int .i64 3, .bool ng, .int .u64 (M.hiN Y : Int), .int .u64 (M.loN Y : Int), .int .i64 ((E : Int) - (F.emax : Int) - (F.p : Int) + 1)]) (by simp [results, Tryd.results11, go_sem, c6, c7, c8, c9, c10]) rfl ⟨pv_ret T (c := M.hiN Y) (d := M.loN Y) (by rw [HT.out]) (by rw [HT.out]) (by rw [HT.out]; rw [HY.out]) (by rw [HT.out]; rw [HY.out]) (by rw [HT.out]), below5 (((b9.setCell (p := ⟨gp, 2, none⟩) (by simp only; omega) _).setCell (p := ⟨gp, 3, none⟩) (by simp only; omega) _).setCell (p := ⟨gp, 4, none⟩) (by simp only; omega) _) (by omega) _ _ _ _ _⟩
  · have hEl : E < 40000 := by
     rw [HE.out]
     exact Nat.lt_of_lt_of_le (Nat.mod_lt _ (Nat.pow_pos (by omega))) (Nat.le_trans (Nat.pow_le_pow_right (by omega) (show F.e - (j + 1) ≤ 15 by omega)) (by omega))
    obtain ⟨bt, hbt⟩ : ∃ bt, bt = X / 2 ^ (F.fb + j) % 2 := ⟨_, rfl⟩
    have hb1 : bt ≤ 1 := by omega
    have HBt := hid hbt; clear hbt
    have hj : j ≤ 15 := by omega
    go_wp2_with fail
    refine (l1Bit_any ao n ca (F.fb + j) X _ HN.out (by omega) (by omega) hr bt HBt.out).mono ?_
    rintro e v5 ⟨rfl, rfl⟩
    go_wp2_with fail
    go_round
    case rel =>
     refine ⟨j, E * 2 + bt, by omega, ?_, by go_num, ?_⟩
     · rcases j with _ | j
       · exact .inl ⟨rfl, by first | rfl | go_num⟩
       · exact .inr ⟨j, rfl, by first | rfl | go_num⟩
     · rw [HE.out, HBt.out]; exact M.fld_step X F.fb j F.e hk
    case measure => simp [intOf]

end Go.Proofs.YtcilemkeljcidaaDoor
