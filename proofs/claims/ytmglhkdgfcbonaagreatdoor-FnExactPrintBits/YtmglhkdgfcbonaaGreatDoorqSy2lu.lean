import Derived.Test.YtmglhkdgfcbonaaGreatDoorqLS
import Derived.Test.YtmglhkdgfcbonaaGreatDoorqSY
import Derived.Test.YtmglhkdgfcbonaaGreatDoorqBnZ
namespace Go.Proofs.YtmglhkdgfcbonaaGreatDoor

open Go.RowKit

set_option linter.unusedVariables false
set_option maxRecDepth 100000

set_option maxHeartbeats 40000000 in
set_option maxRecDepth 10000 in
theorem sshort_finlu (f : Int) (X : Nat) (T : M.Pt) (F : M.Fm) (A B C M4 MM : Nat) (w : World) (hp0 : F.p ≠ 0) (hc : T.c = 2 ∨ T.c = 3) (hq1 : -16700 ≤ T.q) (hq2 : T.q ≤ 16700) (hs : T.s < 2 ^ 128) (lS : (D T.s).length ≤ 1000) (lM4 : (D M4).length ≤ 20000) (lMM : (D MM).length ≤ 20000) (lC : (D C).length ≤ 20000) (lA : (D A).length ≤ 20000) (lB : (D B).length ≤ 20000) (hbM : blen MM ≤ 20000) (hbC : blen C ≤ 20000) (E0 : Int) (hE1 : -8000 ≤ E0) (hE2 : E0 ≤ 8000) (hE : ∀ y, M.un MM y < M.ud C y ↔ E0 < y) (LO HI MI U : Nat) (hLO : LO = M.un A (E0 - 40 + 1)) (hHI : HI = M.un B (E0 - 40 + 1)) (hMI : MI = M.un MM (E0 - 40 + 1)) (hU : U = M.ud C (E0 - 40 + 1)) (CL : Bool) (hCL : ((M.loN T.s : Int) % 2 == 0) = CL) (lLO : (D LO).length ≤ 20000) (lHI : (D HI).length ≤ 20000) (nb : Nat) (hnb1 : 1 ≤ nb) (hnb2 : nb ≤ 39) (hno : ∀ n : Nat, 1 ≤ n → n < nb → wIn (MI / U / 10 ^ (40 - n) * 10 ^ (40 - n) * U) LO HI CL = false ∧ wIn ((MI / U / 10 ^ (40 - n) + 1) * 10 ^ (40 - n) * U) LO HI CL = false) (hyes : wIn (MI / U / 10 ^ (40 - nb) * 10 ^ (40 - nb) * U) LO HI CL = true ∨ wIn ((MI / U / 10 ^ (40 - nb) + 1) * 10 ^ (40 - nb) * U) LO HI CL = true) (hq : ¬ 2 < T.q) (hu : 0 ≤ E0 - 40 + 1) (pU : 0 < U) (lMI : (D MI).length ≤ 2400) (lU : (D U).length ≤ 2400) (lWH : (D (MI / U)).length ≤ 2400) (hM4 : M4 = T.s * 2 ^ 2) (hMM : MM = M4 * 2 ^ (T.q - 2).toNat) (Pk : Nat) (hPk : Pk = M.pkD (wIn (MI / U / 10 ^ (40 - nb) * 10 ^ (40 - nb) * U) LO HI CL) (wIn ((MI / U / 10 ^ (40 - nb) + 1) * 10 ^ (40 - nb) * U) LO HI CL) (cmpI (((MI / U / 10 ^ (40 - nb) + (MI / U / 10 ^ (40 - nb) + 1)) * 10 ^ (40 - nb) * U : Nat) : Int) ((MI * 2 ^ 1 : Nat) : Int)) (MI / U / 10 ^ (40 - nb))) (pk1 : 1 ≤ Pk) (ds : List Nat) (hds : ds = M.sd Pk) (xx : Int) (hxx : xx = E0 - (nb : Int) + 1 + (((M.txt Pk).length : Int) - ((M.sd Pk).length : Int)))
    (kE : ∀ v : World, Calls Tryz.prog 29 #[.int .i64 f] v fun e w' => e = .returned (dv F) ∧ Below v.heap.size v w')
    (kU : ∀ v : World, Calls Tryz.prog 18 #[.int .i64 f, .agg #[.int .u64 (M.hiN X : Int), .int .u64 (M.loN X : Int)]] v fun e w' => e = .returned (pv T) ∧ Below v.heap.size v w')
    (kS : ∀ v : World, Calls Tryz.prog 30 #[.int .i64 f, pv T] v fun e w' => Sp3 v w' e A B C) :
    Calls Tryz.prog 6 #[.int .i64 f, .agg #[.int .u64 (M.hiN X : Int), .int .u64 (M.loN X : Int)]] w fun e w' => ShR w w' e ds xx T.n 0 := by
  obtain ⟨cls, tn, ts, tq⟩ := T
  simp only [dv, pv] at *
  have hp1 : ¬ (F.p : Int) = 0 := by omega
  have hcl0 : (cls == 0) = false := by rw [beq_eq_false_iff_ne]; omega
  have hcl1 : ¬ cls = 0 := by omega
  have HC := hid hc; clear hc
  have HM4 := hid hM4; have HMM := hid hMM; clear hM4 hMM
  have HPk := hid hPk; have HDS := hid hds; have HXX := hid hxx; clear hPk hds hxx
  have HLO := hid hLO; have HHI := hid hHI; have HMI := hid hMI; have HU := hid hU; have HCL := hid hCL; clear hLO hHI hMI hU hCL
  have HQh := hid hq; have HUh := hid hu; clear hq hu
  have fd := fld_dp
  have ht40 : ∀ k : Nat, k ≤ 40 → (D (10 ^ k)).length ≤ 2400 := fun k hk => Nat.le_trans (D_len_b (10 ^ k) (4 * k + 1) 10 (ten_lt1 k) (by omega)) (by omega)
  have l1 : (D 1).length ≤ 2097152 := Nat.le_trans (D_len_b 1 1 1 (by omega) (by omega)) (by omega)
  obtain ⟨cw, cr, b0⟩ := Cls.new2 w #[.int .u64 (M.hiN X : Int), .int .u64 (M.loN X : Int)] #[.slice none 0 0, .int .i64 0, .bool false, .int .i64 0] 29 27
  go_enter Tryz.func6, Tryz.ntmps6
  go_wp2_with fail
  refine (kE _).mono ?_
  rintro e v1 ⟨rfl, hb⟩
  replace cw := cw.below hb
  replace cr := cr.below hb
  replace b0 := b0.trans (hb.mono b0.size)
  clear hb
  have x0 := cw.cell 0 rfl
  have x1 := cw.cell 1 rfl
  go_wp2_with fail
  refine (kU _).mono ?_
  rintro e v2 ⟨rfl, hb⟩
  have cp := Cls.new v2 #[.int .i64 cls, .bool tn, .int .u64 (M.hiN ts : Int), .int .u64 (M.loN ts : Int), .int .i64 tq] 42
  have hb2 : Below v2.heap.size v2 (v2.alloc (.cells #[.int .i64 cls, .bool tn, .int .u64 (M.hiN ts : Int), .int .u64 (M.loN ts : Int), .int .i64 tq] 42)) := (Below.refl _ _).alloc (Nat.le_refl _) _
  replace hb := hb.trans (hb2.mono hb.size)
  replace cr := cr.below hb
  replace b0 := b0.trans (hb.mono b0.size)
  clear hb hb2 cw x0 x1
  go_upto_region 4 with fail
  generalize (v2.alloc (.cells #[.int .i64 cls, .bool tn, .int .u64 (M.hiN ts : Int), .int .u64 (M.loN ts : Int), .int .i64 tq] 42)) = v3 at *
  generalize v2.heap.size = gp at *
  have p0 := cp.cell 0 rfl
  have p1 := cp.cell 1 rfl
  have p2 := cp.cell 2 rfl
  have p3 := cp.cell 3 rfl
  have p4 := cp.cell 4 rfl
  go_upto_region 6 with fail
  go_cut [47] (fun z wx => z = .bool false ∧ v3 = wx)
  case first =>
    rcases HC.out with rfl | rfl
    · go_wp2_with fail
      go_meet
      case rel => exact ⟨rfl, rfl⟩
    · go_wp2_with fail
      go_meet
      case rel => exact ⟨rfl, rfl⟩
  case rest =>
  obtain ⟨rfl, rfl⟩ := hcut
  clear HC hcl0 hcl1
  go_wp2_with fail
  refine (kS _).mono ?_
  rintro e v4 ⟨la, lc, ha, hc, da, dc, rfl, rl, rh, rd, hb⟩
  replace cr := cr.below hb
  replace cp := cp.below hb
  replace b0 := b0.trans (hb.mono b0.size)
  clear hb p0 p1 p2 p3 p4
  have p0 := cp.cell 0 rfl
  have p1 := cp.cell 1 rfl
  have p2 := cp.cell 2 rfl
  have p3 := cp.cell 3 rfl
  have p4 := cp.cell 4 rfl
  go_wp2_with fail
  refine (l2Of_any ts hs _).mono ?_
  rintro e v5 ⟨sa, sc, rfl, so, hb⟩
  have rs := Rd.own so
  replace rl := rl.below hb
  replace rh := rh.below hb
  replace rd := rd.below hb
  replace cr := cr.below hb
  replace cp := cp.below hb
  replace b0 := b0.trans (hb.mono b0.size)
  clear hb p0 p1 p2 p3 p4 so
  go_wp2_with fail
  have kL := l1Left_any sa _ sc 2 ts v5 rfl (by omega) (by omega) rs
  rw [← HM4.out] at kL
  refine kL.mono ?_
  rintro e v6 ⟨ma, mc, rfl, mo, hb⟩
  have rm := Rd.own mo
  have hcm := own_cap mo
  replace rl := rl.below hb
  replace rh := rh.below hb
  replace rd := rd.below hb
  replace cr := cr.below hb
  replace cp := cp.below hb
  replace b0 := b0.trans (hb.mono b0.size)
  clear hb mo rs kL
  have p0 := cp.cell 0 rfl
  have p1 := cp.cell 1 rfl
  have p2 := cp.cell 2 rfl
  have p3 := cp.cell 3 rfl
  have p4 := cp.cell 4 rfl
  have hq := HQh.out
  have eM : MM = M4 := by rw [HMM.out, show (tq - 2).toNat = 0 by omega, Nat.pow_zero, Nat.mul_one]
  rw [← eM] at rm hcm ⊢
  obtain ⟨na, hna⟩ : ∃ x, x = ma := ⟨_, rfl⟩
  obtain ⟨nc, hnc⟩ : ∃ x, x = mc := ⟨_, rfl⟩
  rw [← hna] at rm ⊢
  rw [← hnc] at hcm ⊢
  have rn := rm
  have hcn := hcm
  clear eM rm hna hnc
  all_goals clear p0 p1 p2 p3 p4
  all_goals (
    have p0 := cp.cell 0 rfl
    have p1 := cp.cell 1 rfl
    have p2 := cp.cell 2 rfl
    have p3 := cp.cell 3 rfl
    have p4 := cp.cell 4 rfl
    go_wp2_with fail
    refine (l1Bits_any _ _ _ MM _ rfl (by omega) rn _ rfl).mono ?_
    rintro e vb ⟨rfl, rfl⟩
    go_wp2_with fail
    refine (l1Bits_any _ _ _ C _ rfl (by omega) rd _ rfl).mono ?_
    rintro e vb ⟨rfl, rfl⟩)
  all_goals (
    obtain ⟨gl, gh⟩ := M.uB_le ((blen MM : Int) - (blen C : Int)) (by omega) (by omega)
    obtain ⟨g0, hg0⟩ : ∃ g0 : Int, g0 = (((blen MM : Int) - (blen C : Int)) * 30103).tdiv 100000 := ⟨_, rfl⟩)
  all_goals rw [← hg0] at gl gh
  all_goals go_wp2_with fail
  all_goals rw [← hg0]
  all_goals clear hg0 p0 p1 p2 p3 p4
  all_goals (
    have kT := fun (y : Int) (v : World) h1 h2 hr hr2 => l5Ten_any MM C y na da nc dc v h1 h2 lMM lC hr hr2
    go_loopw [10] (fun ev wr => ∃ e : Int, ev = .int .i64 e ∧ -8500 ≤ e ∧ e ≤ 8500 ∧ Rd wr la (D A) ∧ Rd wr ha (D B) ∧ Rd wr da (D C) ∧ Rd wr na (D MM) ∧ Cls wr (w.heap.size + 1) #[.slice none 0 0, .int .i64 0, .bool false, .int .i64 0] 27 ∧ Cls wr gp #[.int .i64 cls, .bool tn, .int .u64 (M.hiN ts : Int), .int .u64 (M.loN ts : Int), .int .i64 tq] 42 ∧ Below w.heap.size w wr) (fun ev _ => (intOf ev - E0).toNat)
    case atStart => exact ⟨g0, rfl, by omega, by omega, rl, rh, rd, rn, cr, cp, b0⟩
    case round =>
      clear rl rh rd rn cr cp b0 gl gh
      obtain ⟨e, rfl, h1, h2, rl, rh, rd, rn, cr, cp, b0⟩ := hrel
      by_cases he : E0 < e
      · have ht : decide (M.un MM e < M.ud C e) = true := decide_eq_true ((hE e).2 he)
        go_wp2_with fail
        refine (kT e _ (by omega) (by omega) rn rd).mono ?_
        rw [ht]
        rintro r wq ⟨rfl, hb⟩
        have R : ∃ e1 : Int, Value.int .i64 (e - 1) = .int .i64 e1 ∧ -8500 ≤ e1 ∧ e1 ≤ 8500 ∧ Rd wq la (D A) ∧ Rd wq ha (D B) ∧ Rd wq da (D C) ∧ Rd wq na (D MM) ∧ Cls wq (w.heap.size + 1) #[.slice none 0 0, .int .i64 0, .bool false, .int .i64 0] 27 ∧ Cls wq gp #[.int .i64 cls, .bool tn, .int .u64 (M.hiN ts : Int), .int .u64 (M.loN ts : Int), .int .i64 tq] 42 ∧ Below w.heap.size w wq := ⟨e - 1, rfl, by omega, by omega, rl.below hb, rh.below hb, rd.below hb, rn.below hb, cr.below hb, cp.below hb, b0.trans (hb.mono b0.size)⟩
        have HR := hid R; clear R hb rl rh rd rn cr cp b0
        go_wp2_with fail
        go_roundw
        case rel => exact HR.out
        case measure => simp [intOf]; omega
      · have ht : decide (M.un MM e < M.ud C e) = false := decide_eq_false (fun x => he ((hE e).1 x))
        go_wp2_with fail
        refine (kT e _ (by omega) (by omega) rn rd).mono ?_
        rw [ht]
        rintro r wq ⟨rfl, hb⟩
        replace rl := rl.below hb
        replace rh := rh.below hb
        replace rd := rd.below hb
        replace rn := rn.below hb
        replace cr := cr.below hb
        replace cp := cp.below hb
        replace b0 := b0.trans (hb.mono b0.size)
        clear hb
        go_wp2_with fail
        go_loopw [10] (fun ev wr => ∃ e : Int, ev = .int .i64 e ∧ -8500 ≤ e ∧ e ≤ E0 ∧ Rd wr la (D A) ∧ Rd wr ha (D B) ∧ Rd wr da (D C) ∧ Rd wr na (D MM) ∧ Cls wr (w.heap.size + 1) #[.slice none 0 0, .int .i64 0, .bool false, .int .i64 0] 27 ∧ Cls wr gp #[.int .i64 cls, .bool tn, .int .u64 (M.hiN ts : Int), .int .u64 (M.loN ts : Int), .int .i64 tq] 42 ∧ Below w.heap.size w wr) (fun ev _ => (E0 - intOf ev).toNat)
        case atStart => exact ⟨e, rfl, by omega, by omega, rl, rh, rd, rn, cr, cp, b0⟩
        case round =>
          clear rl rh rd rn cr cp b0 h1 h2 he ht
          obtain ⟨e, rfl, h1, h2, rl, rh, rd, rn, cr, cp, b0⟩ := hrel
          by_cases he : e < E0
          · have ht : decide (M.un MM (e + 1) < M.ud C (e + 1)) = false := decide_eq_false (fun x => by have := (hE (e + 1)).1 x; omega)
            go_wp2_with fail
            refine (kT (e + 1) _ (by omega) (by omega) rn rd).mono ?_
            rw [ht]
            rintro r wq ⟨rfl, hb⟩
            have R : ∃ e1 : Int, Value.int .i64 (e + 1) = .int .i64 e1 ∧ -8500 ≤ e1 ∧ e1 ≤ E0 ∧ Rd wq la (D A) ∧ Rd wq ha (D B) ∧ Rd wq da (D C) ∧ Rd wq na (D MM) ∧ Cls wq (w.heap.size + 1) #[.slice none 0 0, .int .i64 0, .bool false, .int .i64 0] 27 ∧ Cls wq gp #[.int .i64 cls, .bool tn, .int .u64 (M.hiN ts : Int), .int .u64 (M.loN ts : Int), .int .i64 tq] 42 ∧ Below w.heap.size w wq := ⟨e + 1, rfl, by omega, by omega, rl.below hb, rh.below hb, rd.below hb, rn.below hb, cr.below hb, cp.below hb, b0.trans (hb.mono b0.size)⟩
            have HR := hid R; clear R hb rl rh rd rn cr cp b0
            go_wp2_with fail
            go_roundw
            case rel => exact HR.out
            case measure => simp [intOf]; omega
          · have ee : e = E0 := by omega
            subst ee
            have ht : decide (M.un MM (e + 1) < M.ud C (e + 1)) = true := decide_eq_true ((hE (e + 1)).2 (by omega))
            go_wp2_with fail
            refine (kT (e + 1) _ (by omega) (by omega) rn rd).mono ?_
            rw [ht]
            rintro r wq ⟨rfl, hb⟩
            replace rl := rl.below hb
            replace rh := rh.below hb
            replace rd := rd.below hb
            replace rn := rn.below hb
            replace cr := cr.below hb
            replace cp := cp.below hb
            replace b0 := b0.trans (hb.mono b0.size)
            clear hb ht kT
            have p0 := cp.cell 0 rfl
            have p1 := cp.cell 1 rfl
            have p2 := cp.cell 2 rfl
            have p3 := cp.cell 3 rfl
            have p4 := cp.cell 4 rfl
            have hu := HUh.out
            have kt := fun v : World => l1Ten_any (e - 40 + 1).toNat v (by omega)
            rw [show (((e - 40 + 1).toNat : Nat) : Int) = e - 40 + 1 by omega] at kt
            have km := fun (v : World) (x : Option Addr) (cx : Nat) hr hr2 => l1Mul_any x da _ _ cx dc (10 ^ (e - 40 + 1).toNat) C v rfl rfl (Nat.le_trans (D_pow_len 10 _ (ten_ok _ (by omega))) (by omega)) (by omega) hr hr2
            rw [show 10 ^ (e - 40 + 1).toNat * C = U by rw [HU.out, M.ud, Nat.mul_comm]] at km
            go_wp2_with fail
            refine (kt _).mono ?_
            rintro r w1 ⟨ta, tc, rfl, ot, hb⟩
            have rt := Rd.own ot
            replace rl := rl.below hb
            replace rh := rh.below hb
            replace rd := rd.below hb
            replace rn := rn.below hb
            replace cr := cr.below hb
            replace cp := cp.below hb
            replace b0 := b0.trans (hb.mono b0.size)
            clear hb ot kt
            go_wp2_with fail
            refine (km _ _ _ rt rd).mono ?_
            rintro r w2 ⟨ua, uc, rfl, ou, hb⟩
            have ru := Rd.own ou
            replace rl := rl.below hb
            replace rh := rh.below hb
            replace rd := rd.below hb
            replace rn := rn.below hb
            replace cr := cr.below hb
            replace cp := cp.below hb
            replace b0 := b0.trans (hb.mono b0.size)
            clear hb ou km rt
            have e1 : LO = A := by rw [HLO.out, M.un, show (-(e - 40 + 1)).toNat = 0 by omega, Nat.pow_zero, Nat.mul_one]
            have e2 : HI = B := by rw [HHI.out, M.un, show (-(e - 40 + 1)).toNat = 0 by omega, Nat.pow_zero, Nat.mul_one]
            have e3 : MI = MM := by rw [HMI.out, M.un, show (-(e - 40 + 1)).toNat = 0 by omega, Nat.pow_zero, Nat.mul_one]
            rw [← e1] at rl ⊢
            rw [← e2] at rh ⊢
            rw [← e3] at rn hcn ⊢
            clear e1 e2 e3
            all_goals clear p0 p1 p2 p3 p4
            all_goals (
              have p0 := cp.cell 0 rfl
              have p1 := cp.cell 1 rfl
              have p2 := cp.cell 2 rfl
              have p3 := cp.cell 3 rfl
              have p4 := cp.cell 4 rfl
              go_wp2_with fail
              refine (l1Div_cap _ _ _ _ _ _ MI U _ rfl rfl pU (by omega) (by omega) hcn rn ru).mono ?_
              rintro r w5 ⟨wa, wc, sa2, sc2, rfl, rw', _, hb, hcw⟩
              replace rl := rl.below hb
              replace rh := rh.below hb
              replace rd := rd.below hb
              replace rn := rn.below hb
              replace ru := ru.below hb
              replace cr := cr.below hb
              replace cp := cp.below hb
              replace b0 := b0.trans (hb.mono b0.size)
              clear hb p0 p1 p2 p3 p4)
            all_goals (
              have p0 := cp.cell 0 rfl
              have p1 := cp.cell 1 rfl
              have p2 := cp.cell 2 rfl
              have p3 := cp.cell 3 rfl
              have p4 := cp.cell 4 rfl
              have ecl : ((M.loN ts : Int) % 2 == 0) = CL := HCL.out
              go_wp2_with fail)
            all_goals (try rw [ecl])
            all_goals (try rw [hdec])
            all_goals clear ecl p0 p1 p2 p3 p4
            have kI := fun (N : Nat) (a : Option Addr) (ca : Nat) (v : World) h1 h2 h3 h4 h5 h6 => l5Within_any N U LO HI C true CL a ua la ha da ca uc lc hc dc v h1 (by omega) lLO lHI lC h2 h3 h4 h5 h6
            have kC := fun (N x : Nat) (a c : Option Addr) (ca cc : Nat) (v : World) h1 h2 h3 h4 h5 h6 => l5Scaled_any N U x C true a ua c da ca uc cc dc v h1 (by omega) h2 lC h3 h4 h5 h6
            simp only [if_true] at kI kC
            obtain ⟨Pr, hPr⟩ : ∃ Pr : World → Prop, Pr = fun v => Rd v la (D LO) ∧ Rd v ha (D HI) ∧ Rd v da (D C) ∧ Rd v na (D MI) ∧ Rd v ua (D U) ∧ Rd v wa (D (MI / U)) := ⟨_, rfl⟩
            have PI : ∀ (N : Nat) (a : Option Addr) (ca : Nat) (v : World), Pr v → (D N).length ≤ 20000 → Rd v a (D N) → _ := fun N a ca v hp h1 h2 => kI N a ca v h1 h2 (by rw [hPr] at hp; exact hp.2.2.2.2.1) (by rw [hPr] at hp; exact hp.1) (by rw [hPr] at hp; exact hp.2.1) (by rw [hPr] at hp; exact hp.2.2.1)
            have PC : ∀ (N x : Nat) (a c : Option Addr) (ca cc : Nat) (v : World), Pr v → (D N).length ≤ 20000 → (D x).length ≤ 20000 → Rd v a (D N) → Rd v c (D x) → _ := fun N x a c ca cc v hp h1 h2 h3 h4 => kC N x a c ca cc v h1 h2 h3 (by rw [hPr] at hp; exact hp.2.2.2.2.1) h4 (by rw [hPr] at hp; exact hp.2.2.1)
            have PL : ∀ (v : World), Pr v → _ := fun v hp => l1Left_any na _ nc 1 MI v rfl (by omega) (by omega) (by rw [hPr] at hp; exact hp.2.2.2.1)
            have PD : ∀ (v : World) (t : Option Addr) (ct k : Nat), Pr v → (D (10 ^ k)).length ≤ 2400 → Rd v t (D (10 ^ k)) → _ := fun v t ct k hp h1 h2 => l1Div_cap wa t _ _ wc ct (MI / U) (10 ^ k) v rfl rfl (Nat.pow_pos (by omega)) (by omega) (by omega) hcw (by rw [hPr] at hp; exact hp.2.2.2.2.2) h2
            clear kI kC
            all_goals (
              have pr0 : Pr w5 := by rw [hPr]; exact ⟨rl, rh, rd, rn, ru, rw'⟩
              have PK : ∀ v v' : World, Pr v → Below v.heap.size v v' → Pr v' := fun v v' h hb => by
                rw [hPr] at h ⊢
                exact ⟨h.1.below hb, h.2.1.below hb, h.2.2.1.below hb, h.2.2.2.1.below hb, h.2.2.2.2.1.below hb, h.2.2.2.2.2.below hb⟩
              clear hPr rl rh rd rn ru rw')
            all_goals (
              go_loopw [18] (fun nv wr => ∃ n : Nat, nv = .int .i64 (n : Int) ∧ 1 ≤ n ∧ n ≤ nb ∧ Pr wr ∧ Cls wr (w.heap.size + 1) #[.slice none 0 0, .int .i64 0, .bool false, .int .i64 0] 27 ∧ Cls wr gp #[.int .i64 cls, .bool tn, .int .u64 (M.hiN ts : Int), .int .u64 (M.loN ts : Int), .int .i64 tq] 42 ∧ Below w.heap.size w wr) (fun nv _ => (40 - intOf nv).toNat)
              case atStart => exact ⟨1, rfl, by omega, by omega, pr0, cr, cp, b0⟩
              case round =>
                clear pr0 cr cp b0
                obtain ⟨n, rfl, n1, n2, pr0, cr, cp, b0⟩ := hrel
                have n3 : (n : Int) < 40 := by omega
                have kt := fun v : World => l1Ten_any (40 - n) v (by omega)
                rw [show ((40 - n : Nat) : Int) = 40 - (n : Int) by omega] at kt
                have lt : (D (10 ^ (40 - n))).length ≤ 2401 := D_pow_len 10 _ (ten_ok _ (by omega))
                have lt2 : (D (10 ^ (40 - n))).length ≤ 2400 := ht40 _ (by omega)
                have PDn := fun (v : World) t ct hp h2 => PD v t ct (40 - n) hp lt2 h2
                obtain ⟨d, hd⟩ : ∃ d, d = MI / U / 10 ^ (40 - n) := ⟨_, rfl⟩
                obtain ⟨st, hst⟩ : ∃ st, st = 10 ^ (40 - n) := ⟨_, rfl⟩
                rw [← hd] at PDn
                rw [← hst] at kt PDn lt2
                have ld : (D d).length ≤ 2400 := by rw [hd]; exact Nat.le_trans (D_len_le (Nat.div_le_self _ _)) lWH
                have Hd := hid hd; have Hst := hid hst
                clear hd hst lt
                go_wp2_with fail
                refine (kt _).mono ?_
                rintro e1 x1 ⟨ta, tc, rfl, ot, hb⟩
                have rt := Rd.own ot
                replace pr0 := PK _ _ pr0 hb
                replace cr := cr.below hb
                replace cp := cp.below hb
                replace b0 := b0.trans (hb.mono b0.size)
                clear hb ot kt
                go_wp2_with fail
                refine (PDn _ ta tc pr0 rt).mono ?_
                rintro e1 x2 ⟨qa, qc, ra, rc, rfl, rq, _, hb, hcq⟩
                replace pr0 := PK _ _ pr0 hb
                replace rt := rt.below hb
                replace cr := cr.below hb
                replace cp := cp.below hb
                replace b0 := b0.trans (hb.mono b0.size)
                clear hb PDn
                go_wp2_with fail
                refine (l1Of_any 1 _ (by omega)).mono ?_
                rintro e1 x3 ⟨oa, oc, rfl, oo, hb⟩
                have ro := Rd.own oo
                replace pr0 := PK _ _ pr0 hb
                replace rt := rt.below hb
                replace rq := rq.below hb
                replace cr := cr.below hb
                replace cp := cp.below hb
                replace b0 := b0.trans (hb.mono b0.size)
                clear hb oo
                go_wp2_with fail
                refine (l1Add_any qa oa _ _ qc oc d 1 _ rfl rfl (by omega) l1 rq ro).mono ?_
                rintro e1 x4 ⟨pa, pc, rfl, op, hb⟩
                have rp := Rd.own op
                replace pr0 := PK _ _ pr0 hb
                replace rt := rt.below hb
                replace rq := rq.below hb
                replace cr := cr.below hb
                replace cp := cp.below hb
                replace b0 := b0.trans (hb.mono b0.size)
                clear hb op ro
                have lp1 : (D (d + 1)).length ≤ 2402 := D_sum_len d 1 2401 (by omega) (Nat.le_trans (D_len_b 1 1 1 (by omega) (by omega)) (by omega))
                have lb1 := D_mul_len d st 2400 2400 ld lt2
                have lb2 := D_mul_len (d + 1) st 2402 2400 lp1 lt2
                obtain ⟨B1, hB1⟩ : ∃ B1, B1 = d * st := ⟨_, rfl⟩
                obtain ⟨B2, hB2⟩ : ∃ B2, B2 = (d + 1) * st := ⟨_, rfl⟩
                have kM1 := fun (v : World) hr hr2 => l1Mul_any qa ta _ _ qc tc d st v rfl rfl (by omega) (by omega) hr hr2
                have kM2 := fun (v : World) hr hr2 => l1Mul_any pa ta _ _ pc tc (d + 1) st v rfl rfl (by omega) (by omega) hr hr2
                rw [← hB1] at kM1 lb1
                rw [← hB2] at kM2 lb2
                obtain ⟨f1, hf1⟩ : ∃ f1, f1 = wIn (B1 * U) LO HI CL := ⟨_, rfl⟩
                obtain ⟨f2, hf2⟩ : ∃ f2, f2 = wIn (B2 * U) LO HI CL := ⟨_, rfl⟩
                have P1 := fun (a : Option Addr) (ca : Nat) (v : World) hp hr => PI B1 a ca v hp (by omega) hr
                have P2 := fun (a : Option Addr) (ca : Nat) (v : World) hp hr => PI B2 a ca v hp (by omega) hr
                rw [← hf1] at P1
                rw [← hf2] at P2
                have HB1 := hid hB1; have HB2 := hid hB2; have Hf1 := hid hf1; have Hf2 := hid hf2
                clear hB1 hB2 hf1 hf2
                go_wp2_with fail
                refine (kM1 _ rq rt).mono ?_
                rintro e1 x5 ⟨ga, gc, rfl, og, hb⟩
                have rg := Rd.own og
                replace rt := rt.below hb
                replace rq := rq.below hb
                replace rp := rp.below hb
                replace pr0 := PK _ _ pr0 hb
                replace cr := cr.below hb
                replace cp := cp.below hb
                replace b0 := b0.trans (hb.mono b0.size)
                clear hb og kM1
                go_wp2_with fail
                refine (P1 _ _ _ pr0 rg).mono ?_
                rintro e1 x6 ⟨rfl, hb⟩
                replace rt := rt.below hb
                replace rq := rq.below hb
                replace rp := rp.below hb
                replace pr0 := PK _ _ pr0 hb
                replace cr := cr.below hb
                replace cp := cp.below hb
                replace b0 := b0.trans (hb.mono b0.size)
                clear hb rg P1
                go_wp2_with fail
                refine (kM2 _ rp rt).mono ?_
                rintro e1 x7 ⟨ja, jc, rfl, oj, hb⟩
                have rj := Rd.own oj
                replace rt := rt.below hb
                replace rq := rq.below hb
                replace rp := rp.below hb
                replace pr0 := PK _ _ pr0 hb
                replace cr := cr.below hb
                replace cp := cp.below hb
                replace b0 := b0.trans (hb.mono b0.size)
                clear hb oj kM2
                go_wp2_with fail
                refine (P2 _ _ _ pr0 rj).mono ?_
                rintro e1 x8 ⟨rfl, hb⟩
                replace rt := rt.below hb
                replace rq := rq.below hb
                replace rp := rp.below hb
                replace pr0 := PK _ _ pr0 hb
                replace cr := cr.below hb
                replace cp := cp.below hb
                replace b0 := b0.trans (hb.mono b0.size)
                clear hb rj P2
                rcases Classical.em (n < nb) with hn | hn
                · obtain ⟨q1, q2⟩ := hno n n1 hn
                  have z1 : f1 = false := by rw [Hf1.out, HB1.out, Hd.out, Hst.out]; exact q1
                  have z2 : f2 = false := by rw [Hf2.out, HB2.out, Hd.out, Hst.out]; exact q2
                  subst z1
                  subst z2
                  have R : ∃ n1 : Nat, Value.int .i64 ((n : Int) + 1) = .int .i64 (n1 : Int) ∧ 1 ≤ n1 ∧ n1 ≤ nb ∧ Pr x8 ∧ Cls x8 (w.heap.size + 1) #[.slice none 0 0, .int .i64 0, .bool false, .int .i64 0] 27 ∧ Cls x8 gp #[.int .i64 cls, .bool tn, .int .u64 (M.hiN ts : Int), .int .u64 (M.loN ts : Int), .int .i64 tq] 42 ∧ Below w.heap.size w x8 := ⟨n + 1, by simp, by omega, by omega, pr0, cr, cp, b0⟩
                  have HR := hid R; clear R pr0 cr cp b0 q1 q2
                  go_wp2_with fail
                  go_roundw
                  case rel => exact HR.out
                  case measure => simp [intOf]; omega
                · have en : n = nb := by omega
                  subst en
                  have z0 : f1 = true ∨ f2 = true := by rw [Hf1.out, HB1.out, Hf2.out, HB2.out, Hd.out, Hst.out]; exact hyes
                  clear PD PI
                  obtain ⟨hh, hhh⟩ : ∃ hh : Bool, hh = decide (M.pkD f1 f2 (cmpI (((d + (d + 1)) * st * U : Nat) : Int) ((MI * 2 ^ 1 : Nat) : Int)) d = d + 1) := ⟨_, rfl⟩
                  have ePk := HPk.out
                  rw [← Hd.out, ← Hst.out, ← HB1.out, ← HB2.out, ← Hf1.out, ← Hf2.out] at ePk
                  have HEP := hid ePk; have HHH := hid hhh; clear ePk hhh
                  have FIN : Hid ((hh = true → Pk = d + 1) ∧ (hh = false → Pk = d)) := by
                    refine hid ⟨fun q => ?_, fun q => ?_⟩
                    · rw [HHH.out, decide_eq_true_iff] at q; rw [HEP.out]; exact q
                    · rw [HHH.out, decide_eq_false_iff_not] at q; rw [HEP.out]; exact pkD_or _ _ _ _ q
                  go_upto_region 36 with fail
                  go_cut [166] (fun z wx => z = .bool false ∧ x8 = wx)
                  case first =>
                    cases f1
                    · cases f2
                      · rcases z0 with x | x <;> cases x
                      · go_wp2_with fail
                        go_meet
                        case rel => exact ⟨rfl, rfl⟩
                    · go_wp2_with fail
                      go_meet
                      case rel => exact ⟨rfl, rfl⟩
                  case rest =>
                  obtain ⟨rfl, rfl⟩ := hcut
                  go_upto_region 37 with fail
                  go_cut [170] (fun z wx => z = .bool (f1 && f2) ∧ x8 = wx)
                  case first =>
                    cases f1
                    · go_wp2_with fail
                      go_meet
                      case rel => exact ⟨rfl, rfl⟩
                    · cases f2
                      · go_wp2_with fail
                        go_meet
                        case rel => exact ⟨rfl, rfl⟩
                      · go_wp2_with fail
                        go_meet
                        case rel => exact ⟨rfl, rfl⟩
                  case rest =>
                  obtain ⟨rfl, rfl⟩ := hcut
                  go_upto_if 170 with fail
                  go_cut [24, 25] (fun hv cv wx => hv = .bool hh ∧ (∃ c0, cv = c0) ∧ Rd wx qa (D d) ∧ Rd wx pa (D (d + 1)) ∧ Cls wx (w.heap.size + 1) #[.slice none 0 0, .int .i64 0, .bool false, .int .i64 0] 27 ∧ Cls wx gp #[.int .i64 cls, .bool tn, .int .u64 (M.hiN ts : Int), .int .u64 (M.loN ts : Int), .int .i64 tq] 42 ∧ Below w.heap.size w wx)
                  case first =>
                    cases f1
                    · have z2 : f2 = true := by rcases z0 with x | x; (cases x); exact x
                      subst z2
                      have eh : hh = true := by rw [HHH.out]; simp [M.pkD]
                      subst eh
                      have R := And.intro rq (And.intro rp (And.intro cr (And.intro cp b0)))
                      have HR := hid R; clear R z0 PC PL PK pr0
                      go_wp2_with fail
                      go_meet
                      case rel => exact ⟨rfl, ⟨_, rfl⟩, HR.out⟩
                    · cases f2
                      · have eh : hh = false := by rw [HHH.out]; simp [M.pkD]
                        subst eh
                        have R := And.intro rq (And.intro rp (And.intro cr (And.intro cp b0)))
                        have HR := hid R; clear R z0 PC PL PK pr0
                        go_wp2_with fail
                        go_meet
                        case rel => exact ⟨rfl, ⟨_, rfl⟩, HR.out⟩
                      · clear z0
                        have lsm := D_sum_len d (d + 1) 2402 (by omega) lp1
                        have lsp := D_mul_len (d + (d + 1)) st 2403 2400 lsm lt2
                        have lmm : (D (MI * 2 ^ 1)).length ≤ 20000 := by rw [Nat.pow_one, Nat.mul_two]; exact Nat.le_trans (D_sum_len MI MI 2400 lMI lMI) (by omega)
                        obtain ⟨SM, hSM⟩ : ∃ SM, SM = d + (d + 1) := ⟨_, rfl⟩
                        obtain ⟨SP, hSP⟩ : ∃ SP, SP = (d + (d + 1)) * st := ⟨_, rfl⟩
                        obtain ⟨M2, hM2⟩ : ∃ M2, M2 = MI * 2 ^ 1 := ⟨_, rfl⟩
                        have kA := fun (v : World) hr hr2 => l1Add_any qa pa _ _ qc pc d (d + 1) v rfl rfl (by omega) (by omega) hr hr2
                        have kM3 := fun (v : World) (a : Option Addr) (ca : Nat) hr hr2 => l1Mul_any a ta _ _ ca tc (d + (d + 1)) st v rfl rfl (by omega) (by omega) hr hr2
                        rw [← hSP] at kM3 lsp
                        rw [← hSM] at kA kM3
                        have PL2 := PL
                        rw [← hM2] at PL2 lmm
                        have PCc := fun (a c : Option Addr) (ca cc : Nat) (v : World) hp h3 h4 => PC SP M2 a c ca cc v hp (by omega) lmm h3 h4
                        obtain ⟨cz, hcz⟩ : ∃ cz, cz = cmpI ((SP * U : Nat) : Int) (M2 : Int) := ⟨_, rfl⟩
                        rw [← hcz] at PCc
                        have eh : hh = decide (M.pkD true true cz d = d + 1) := by rw [HHH.out, hcz, hSP, hM2]
                        have tri : cz = -1 ∨ cz = 0 ∨ cz = 1 := by
                          rw [hcz, cmpI3]
                          split
                          · exact .inl rfl
                          · split
                            · exact .inr (.inl rfl)
                            · exact .inr (.inr rfl)
                        have HE2 := hid eh; have HTR := hid tri
                        clear hSM hSP hM2 hcz PC PL eh tri HHH HEP FIN
                        go_wp2_with fail
                        refine (kA _ rq rp).mono ?_
                        rintro e1 y1 ⟨sa3, sc3, rfl, os3, hb⟩
                        have rs3 := Rd.own os3
                        replace rt := rt.below hb
                        replace rq := rq.below hb
                        replace rp := rp.below hb
                        replace pr0 := PK _ _ pr0 hb
                        replace cr := cr.below hb
                        replace cp := cp.below hb
                        replace b0 := b0.trans (hb.mono b0.size)
                        clear hb os3 kA
                        go_wp2_with fail
                        refine (kM3 _ _ _ rs3 rt).mono ?_
                        rintro e1 y2 ⟨sa4, sc4, rfl, os4, hb⟩
                        have rs4 := Rd.own os4
                        replace rt := rt.below hb
                        replace rq := rq.below hb
                        replace rp := rp.below hb
                        replace pr0 := PK _ _ pr0 hb
                        replace cr := cr.below hb
                        replace cp := cp.below hb
                        replace b0 := b0.trans (hb.mono b0.size)
                        clear hb os4 kM3 rs3
                        go_wp2_with fail
                        refine (PL2 _ pr0).mono ?_
                        rintro e1 y3 ⟨sa5, sc5, rfl, os5, hb⟩
                        have rs5 := Rd.own os5
                        replace rt := rt.below hb
                        replace rq := rq.below hb
                        replace rp := rp.below hb
                        replace pr0 := PK _ _ pr0 hb
                        replace cr := cr.below hb
                        replace cp := cp.below hb
                        replace b0 := b0.trans (hb.mono b0.size)
                        replace rs4 := rs4.below hb
                        clear hb os5 PL2
                        go_wp2_with fail
                        refine (PCc _ _ _ _ _ pr0 rs4 rs5).mono ?_
                        rintro e1 y4 ⟨rfl, hb⟩
                        replace rt := rt.below hb
                        replace rq := rq.below hb
                        replace rp := rp.below hb
                        replace pr0 := PK _ _ pr0 hb
                        replace cr := cr.below hb
                        replace cp := cp.below hb
                        replace b0 := b0.trans (hb.mono b0.size)
                        clear hb rs4 rs5 PCc PK pr0 rt
                        have R := And.intro rq (And.intro rp (And.intro cr (And.intro cp b0)))
                        have kAt := l1At_any qa _ qc 0 (D d) _ rfl (by omega) (by omega) rq (d % 4294967296) (by rw [D_get]; simp)
                        have HR := hid R; clear R rq rp cr cp b0
                        rcases HTR.out with rfl | rfl | rfl
                        · have eh : hh = true := by rw [HE2.out]; simp [M.pkD]
                          subst eh
                          go_wp2_with fail
                          go_meet
                          case rel => exact ⟨rfl, ⟨_, rfl⟩, HR.out⟩
                        · by_cases hdo : d % 2 = 1
                          · have hpar : (((d % 4294967296 : Nat) : Int) % 2 == 1) = true := by rw [beq_iff_eq]; omega
                            have hpa2 : ((d : Int) % 2 == 1) = true := by rw [beq_iff_eq]; omega
                            have eh : hh = true := by rw [HE2.out]; simp [M.pkD, hdo]
                            subst eh
                            go_wp2_with fail
                            refine kAt.mono ?_
                            rintro e1 y5 ⟨rfl, rfl⟩
                            have HP2 := hid hpa2; clear hpa2
                            go_wp2_with fail
                            go_meet
                            case rel => exact ⟨by first | rfl | exact congrArg Value.bool HP2.out, ⟨_, rfl⟩, HR.out⟩
                          · have hpar : (((d % 4294967296 : Nat) : Int) % 2 == 1) = false := by rw [beq_eq_false_iff_ne]; omega
                            have hpa2 : ((d : Int) % 2 == 1) = false := by rw [beq_eq_false_iff_ne]; omega
                            have eh : hh = false := by rw [HE2.out]; simp [M.pkD, hdo]
                            subst eh
                            go_wp2_with fail
                            refine kAt.mono ?_
                            rintro e1 y5 ⟨rfl, rfl⟩
                            have HP2 := hid hpa2; clear hpa2
                            go_wp2_with fail
                            go_meet
                            case rel => exact ⟨by first | rfl | exact congrArg Value.bool HP2.out, ⟨_, rfl⟩, HR.out⟩
                        · have eh : hh = false := by rw [HE2.out]; simp [M.pkD]
                          subst eh
                          go_wp2_with fail
                          go_meet
                          case rel => exact ⟨rfl, ⟨_, rfl⟩, HR.out⟩
                  case rest =>
                  obtain ⟨rfl, ⟨c25, rfl⟩, rq, rp, cr, cp, b0⟩ := hcut
                  clear PC PL PK z0 HHH HEP
                  go_upto_if 194 with fail
                  go_cut [20] (fun dv' wx => ∃ ka kc, dv' = .slice ka (D Pk).length kc ∧ Rd wx ka (D Pk) ∧ Cls wx (w.heap.size + 1) #[.slice none 0 0, .int .i64 0, .bool false, .int .i64 0] 27 ∧ Cls wx gp #[.int .i64 cls, .bool tn, .int .u64 (M.hiN ts : Int), .int .u64 (M.loN ts : Int), .int .i64 tq] 42 ∧ Below w.heap.size w wx)
                  case first =>
                    cases hh
                    · have ePk := FIN.out.2 rfl
                      have R := And.intro rq (And.intro cr (And.intro cp b0))
                      have HR := hid R; clear R
                      go_wp2_with fail
                      go_meet
                      case rel => exact ⟨qa, qc, by rw [ePk], by rw [ePk]; exact HR.out.1, HR.out.2⟩
                    · have ePk := FIN.out.1 rfl
                      have R := And.intro rp (And.intro cr (And.intro cp b0))
                      have HR := hid R; clear R
                      go_wp2_with fail
                      go_meet
                      case rel => exact ⟨pa, pc, by rw [ePk], by rw [ePk]; exact HR.out.1, HR.out.2⟩
                  case rest =>
                  have lk' : (D Pk).length ≤ 2402 := by
                    cases hh
                    · rw [FIN.out.2 rfl]; omega
                    · rw [FIN.out.1 rfl]; exact lp1
                  clear rq rp cr cp b0 FIN
                  obtain ⟨ka, kc, rfl, rk, cr, cp, b0⟩ := hcut
                  have lk := lk'
                  go_wp2_with fail
                  refine (l1Text_any _ _ _ Pk _ rfl (by omega) rk).mono ?_
                  rintro e1 z1 ⟨-, hy⟩
                  obtain ⟨xa, xc, rfl, xo, hb⟩ := hy (by omega)
                  have rX := (OwnV.of_own xo (fun x hx => by have := M.txt_dig Pk x hx; omega)).rd
                  obtain ⟨TL, hTL⟩ : ∃ TL, TL = (M.txt Pk).length := ⟨_, rfl⟩
                  have tlen : TL = (M.tl Pk).length := by rw [hTL, M.txt_one Pk pk1, List.length_reverse]
                  have tpos := M.txt_pos Pk
                  have tbd := tl_bound Pk 2402 lk
                  rw [← tlen] at tbd
                  obtain ⟨xb, xf, rfl, hX⟩ := rX.2 tpos
                  rw [← hTL] at tpos xo hX ⊢
                  have xcap := ownY_cap xo
                  replace cr := cr.below hb
                  replace cp := cp.below hb
                  replace b0 := b0.trans (hb.mono b0.size)
                  have HT1 := hid hTL; have HT2 := hid tlen
                  clear hb hy xo rk hTL tlen
                  have RX := hid rX; clear rX
                  go_wp2_with fail
                  go_loopw [26, 27] (fun tv ev wr => ∃ k : Nat, k < TL ∧ tv = .slice (some ⟨xb, xf, none⟩) (TL - k) xc ∧ ev = .int .i64 (e - (n : Int) + 1 + (k : Int)) ∧ Hid (∀ i, i < k → (M.tl Pk).getD i 0 = 48) ∧ z1 = wr) (fun tv _ _ => sliceLen tv)
                  case atStart => exact ⟨0, by omega, by rw [Nat.sub_zero], by simp, hid (fun i hi => by omega), rfl⟩
                  case round =>
                    obtain ⟨k, hk, rfl, rfl, HZ, rfl⟩ := hrel
                    obtain ⟨m, hm⟩ : ∃ m, TL - k = m + 1 := ⟨TL - k - 1, by omega⟩
                    have hc := hX m (by omega)
                    have hgt := txt_tl Pk pk1 k m TL HT2.out hk hm
                    rw [hm]
                    rw [hgt] at hc
                    obtain ⟨y, hy⟩ : ∃ y, y = (M.tl Pk).getD k 0 := ⟨_, rfl⟩
                    rw [← hy] at hc
                    have HY := hid hy; clear hy hgt
                    by_cases h1 : m = 0
                    · have hne : (M.tl Pk).getD k 0 ≠ 48 := tl_last_ne Pk pk1 k (by have := HT2.out; omega)
                      have hm1 : ¬ (1 : Int) < ((m + 1 : Nat) : Int) := by omega
                      have hsd := sd_end Pk pk1 k m TL HT1.out HT2.out hk hm HZ.out hne
                      have rS : RdB z1 (some ⟨xb, xf, none⟩) ds := by rw [HDS.out, hsd.1]; exact RX.out.pre _
                      have ld : ds.length = m + 1 := by rw [HDS.out]; exact hsd.2
                      have ex : e - (n : Int) + 1 + (k : Int) = xx := by rw [HXX.out]; have := HT1.out; have := hsd.2; omega
                      have HLD := hid ld; have HEX := hid ex; clear hsd ld ex hX RX HT1 HT2 HZ hne HPk HDS HXX
                      have lz : w.heap.size + 1 < z1.heap.size := cr.lt
                      have D1 : ∀ v, Below z1.heap.size z1 v → (fun v : World => v.cell? ⟨gp, 1, none⟩ = some (.bool tn)) v := fun v hv => (cp.below hv).cell 1 rfl
                      have hdr : Below z1.heap.size z1 z1.drew := (Below.refl _ _).drew
                      have hgn : gp ≠ w.heap.size + 1 := fun hh => by
                        rw [hh] at cp
                        have := cp.symm.trans cr
                        simp at this
                      have K4 : ∀ (v : World) u0 u1 u2 u3', (fun v : World => v.cell? ⟨gp, 1, none⟩ = some (.bool tn)) v → (fun v : World => v.cell? ⟨gp, 1, none⟩ = some (.bool tn)) ((((v.setCell ⟨w.heap.size + 1, 0, none⟩ u0).setCell ⟨w.heap.size + 1, 1, none⟩ u1).setCell ⟨w.heap.size + 1, 2, none⟩ u2).setCell ⟨w.heap.size + 1, 3, none⟩ u3') := fun v _ _ _ _ h => (cfar4 hgn).trans h
                      have hx256 := rS.1
                      go_wp2_with fail
                      go_region_held3 (fun v : World => v.cell? ⟨gp, 1, none⟩ = some (.bool tn)) (first | with_reducible exact D1 _ (by assumption) | with_reducible exact K4 _ _ _ _ _ (D1 _ (by assumption)))
                        ((refine step_app rfl _ _ rfl _ rfl ⟨xb, xf, none⟩ _ xc ds rfl (by have := HLD.out; omega) (by omega) (by omega) (rS.below hdr) ?_; intro ra1 rc1 wB own bB'; have hb1 := hdr.trans (bB'.mono (Nat.le_refl _)); have r4 := cr.below hb1; have r0 := r4.cell 0 rfl; have r1 := r4.cell 1 rfl; have r2 := r4.cell 2 rfl; have r3 := r4.cell 3 rfl; have f0 := r4.frozen 0; have f1 := r4.frozen 1; have f2 := r4.frozen 2; have f3 := r4.frozen 3))
                      have ov := own_at own (show ds.length = 1 by have := HLD.out; omega) hx256
                      have lsz : w.heap.size + 1 < z1.drew.heap.size := by simpa using lz
                      replace b0 := b0.trans (hb1.mono b0.size)
                      have HOV := hid ov; have HB0 := hid b0
                      clear own ov b0 rS hx256 D1 K4 hdr hb1 r4
                      go_wp2_with fail
                      refine bodyPost_ret (v := .agg #[.slice (some ⟨ra1, 0, none⟩) 1 rc1, .int .i64 (e - (n : Int) + 1 + (k : Int)), .bool tn, .int .i64 0]) (by simp [results, Tryz.results6, go_sem, r0, r1, r2, r3]) rfl ?_
                      have hfin := And.intro ((HOV.out.far4y lsz (.slice (some ⟨ra1, 0, none⟩) 1 rc1) (.int .i64 (e - (n : Int) + 1 + (k : Int))) (.bool tn) (.int .i64 0)).low (show w.heap.size ≤ _ by omega)) (below4y HB0.out (show w.heap.size ≤ w.heap.size + 1 by omega) (.slice (some ⟨ra1, 0, none⟩) 1 rc1) (.int .i64 (e - (n : Int) + 1 + (k : Int))) (.bool tn) (.int .i64 0))
                      have heq : Ending.returned (.agg #[.slice (some ⟨ra1, 0, none⟩) 1 rc1, .int .i64 (e - (n : Int) + 1 + (k : Int)), .bool tn, .int .i64 0]) = Ending.returned (.agg #[.slice (some ⟨ra1, 0, none⟩) ds.length rc1, .int .i64 xx, .bool tn, .int .i64 0]) := by rw [HEX.out, HLD.out, h1]
                      exact ⟨some ⟨ra1, 0, none⟩, rc1, heq, hfin⟩
                    · have hm1 : (1 : Int) < ((m + 1 : Nat) : Int) := by omega
                      by_cases h2 : y = 48
                      · subst h2
                        have q1 : k + 1 < TL := by omega
                        have q2 : m = TL - (k + 1) := by omega
                        have q3 : e - (n : Int) + 1 + (k : Int) + 1 = e - (n : Int) + 1 + ((k + 1 : Nat) : Int) := by omega
                        have q4 : ∀ i, i < k + 1 → (M.tl Pk).getD i 0 = 48 := fun i hi => by
                          rcases Nat.lt_or_ge i k with q | q
                          · exact HZ.out i q
                          · rw [show i = k by omega]; exact HY.out.symm
                        have R : ∃ k1 : Nat, k1 < TL ∧ Value.slice (some ⟨xb, xf, none⟩) m xc = .slice (some ⟨xb, xf, none⟩) (TL - k1) xc ∧ Value.int .i64 (e - (n : Int) + 1 + (k : Int) + 1) = .int .i64 (e - (n : Int) + 1 + (k1 : Int)) ∧ Hid (∀ i, i < k1 → (M.tl Pk).getD i 0 = 48) ∧ z1 = z1 := ⟨k + 1, q1, congrArg (fun x => Value.slice (some ⟨xb, xf, none⟩) x xc) q2, congrArg (Value.int .i64) q3, hid q4, rfl⟩
                        have HR := hid R; clear R q1 q2 q3 q4
                        go_wp2_with fail
                        go_roundw
                        case rel =>
                          obtain ⟨k1, c1, c2, c3, c4, -⟩ := HR.out
                          exact ⟨k1, c1, c2, c3, c4, trivial⟩
                        case measure => simp [sliceLen]
                      · have hne : (M.tl Pk).getD k 0 ≠ 48 := by rw [← HY.out]; exact h2
                        have h2' : ((y : Int) == 48) = false := by rw [beq_eq_false_iff_ne]; omega
                        have hsd := sd_end Pk pk1 k m TL HT1.out HT2.out hk hm HZ.out hne
                        have rS : RdB z1 (some ⟨xb, xf, none⟩) ds := by rw [HDS.out, hsd.1]; exact RX.out.pre _
                        have ld : ds.length = m + 1 := by rw [HDS.out]; exact hsd.2
                        have ex : e - (n : Int) + 1 + (k : Int) = xx := by rw [HXX.out]; have := HT1.out; have := hsd.2; omega
                        have HLD := hid ld; have HEX := hid ex; clear hsd ld ex hX RX HT1 HT2 HZ hne HPk HDS HXX
                        have lz : w.heap.size + 1 < z1.heap.size := cr.lt
                        have D1 : ∀ v, Below z1.heap.size z1 v → (fun v : World => v.cell? ⟨gp, 1, none⟩ = some (.bool tn)) v := fun v hv => (cp.below hv).cell 1 rfl
                        have hdr : Below z1.heap.size z1 z1.drew := (Below.refl _ _).drew
                        have hgn : gp ≠ w.heap.size + 1 := fun hh => by
                          rw [hh] at cp
                          have := cp.symm.trans cr
                          simp at this
                        have K4 : ∀ (v : World) u0 u1 u2 u3', (fun v : World => v.cell? ⟨gp, 1, none⟩ = some (.bool tn)) v → (fun v : World => v.cell? ⟨gp, 1, none⟩ = some (.bool tn)) ((((v.setCell ⟨w.heap.size + 1, 0, none⟩ u0).setCell ⟨w.heap.size + 1, 1, none⟩ u1).setCell ⟨w.heap.size + 1, 2, none⟩ u2).setCell ⟨w.heap.size + 1, 3, none⟩ u3') := fun v _ _ _ _ h => (cfar4 hgn).trans h
                        have hx256 := rS.1
                        go_wp2_with fail
                        go_region_held3 (fun v : World => v.cell? ⟨gp, 1, none⟩ = some (.bool tn)) (first | with_reducible exact D1 _ (by assumption) | with_reducible exact K4 _ _ _ _ _ (D1 _ (by assumption)))
                          ((refine step_app rfl _ _ rfl _ rfl ⟨xb, xf, none⟩ _ xc ds rfl (by have := HLD.out; omega) (by omega) (by omega) (rS.below hdr) ?_; intro ra1 rc1 wB own bB'; have hb1 := hdr.trans (bB'.mono (Nat.le_refl _)); have r4 := cr.below hb1; have r0 := r4.cell 0 rfl; have r1 := r4.cell 1 rfl; have r2 := r4.cell 2 rfl; have r3 := r4.cell 3 rfl; have f0 := r4.frozen 0; have f1 := r4.frozen 1; have f2 := r4.frozen 2; have f3 := r4.frozen 3))
                        have ov := own_at own (show ds.length = m + 1 by have := HLD.out; omega) hx256
                        have lsz : w.heap.size + 1 < z1.drew.heap.size := by simpa using lz
                        replace b0 := b0.trans (hb1.mono b0.size)
                        have HOV := hid ov; have HB0 := hid b0
                        clear own ov b0 rS hx256 D1 K4 hdr hb1 r4
                        go_wp2_with fail
                        refine bodyPost_ret (v := .agg #[.slice (some ⟨ra1, 0, none⟩) (m + 1) rc1, .int .i64 (e - (n : Int) + 1 + (k : Int)), .bool tn, .int .i64 0]) (by simp [results, Tryz.results6, go_sem, r0, r1, r2, r3]) rfl ?_
                        have hfin := And.intro ((HOV.out.far4y lsz (.slice (some ⟨ra1, 0, none⟩) (m + 1) rc1) (.int .i64 (e - (n : Int) + 1 + (k : Int))) (.bool tn) (.int .i64 0)).low (show w.heap.size ≤ _ by omega)) (below4y HB0.out (show w.heap.size ≤ w.heap.size + 1 by omega) (.slice (some ⟨ra1, 0, none⟩) (m + 1) rc1) (.int .i64 (e - (n : Int) + 1 + (k : Int))) (.bool tn) (.int .i64 0))
                        have heq : Ending.returned (.agg #[.slice (some ⟨ra1, 0, none⟩) (m + 1) rc1, .int .i64 (e - (n : Int) + 1 + (k : Int)), .bool tn, .int .i64 0]) = Ending.returned (.agg #[.slice (some ⟨ra1, 0, none⟩) ds.length rc1, .int .i64 xx, .bool tn, .int .i64 0]) := by rw [HEX.out, HLD.out]
                        exact ⟨some ⟨ra1, 0, none⟩, rc1, heq, hfin⟩
)
            done)

end Go.Proofs.YtmglhkdgfcbonaaGreatDoor

