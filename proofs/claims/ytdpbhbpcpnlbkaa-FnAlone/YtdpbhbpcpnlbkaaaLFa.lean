import Derived.Test.YtdpbhbpcpnlbkaaaRn9
import Derived.Test.YtdpbhbpcpnlbkaaaGL
set_option maxHeartbeats 8000000
namespace Go.Proofs.Ytdpbhbpcpnlbkaa
open Go.RowKit Go.Maps
set_option linter.unusedVariables false
set_option maxRecDepth 100000
structure OneK (v : World) (ka : Option Addr) (ks : List (Int × Int)) (kc : Nat) : Prop where
 k : Sl v ka (ks.length * 2) (kf (fun i => ks.getD i (0, 0)))
 c : ks.length ≤ kc

theorem OneK.below {v u : World} {ka : Option Addr} {ks : List (Int × Int)} {kc : Nat} (h : OneK v ka ks kc) (b : Below v.heap.size v u) : OneK u ka ks kc := ⟨h.k.below b, h.c⟩

theorem OneK.tk {v : World} {ka : Option Addr} {ks : List (Int × Int)} {kc g : Nat} (h : OneK v ka ks kc) (c : Cls v g #[.slice ka ks.length kc] 34) : TkIn v (some ⟨g, 0, none⟩) [ks] (fun _ => ka) (fun _ => kc) := by
 refine TkR.tkIn ⟨fun _ => ⟨g, 0, rfl, c.lt, fun i hi => ?_⟩, fun t ht => ?_, fun t ht => ?_⟩
 · have : i = 0 := by simp at hi; omega
   subst this
   exact c.cell 0 rfl
 · have : t = 0 := by simp at ht; omega
   subst this
   exact h.k
 · have : t = 0 := by simp at ht; omega
   subst this
   exact h.c

theorem lawFa {w : World} {ao : Option Addr} {n c : Nat} {f : Nat → Nat} (hs : Sl w ao n (fun j => .int .u8 (f j : Int))) (hf : ∀ j, f j < 256) :
 Calls Try.prog 4 #[.slice ao n c] w fun e w' => e = .returned (.bool true) ∧ Below w.heap.size w w' := by
 by_cases h20 : n ≤ 1048576
 · have f20 : ¬ (1048576 : Int) < (n : Int) := by omega
   have f20' : decide ((1048576 : Int) < (n : Int)) = false := decide_eq_false f20
   have smd := drF_small (n := n) hf
   have kD := hidQ (drc_use (c := c) hs h20 hf)
   obtain ⟨F, hF⟩ : ∃ F, drF n f = F := ⟨_, rfl⟩
   rw [hF] at kD smd
   obtain ⟨⟨a, b⟩, tasks, picks⟩ := F
   dsimp only at kD smd
   obtain ⟨ks, hks⟩ : ∃ ks, tasks.getD 0 [] = ks := ⟨_, rfl⟩
   have l61 : ks.length ≤ 61 := by rw [← hks]; exact smd.2 0
   obtain ⟨D, hD⟩ : ∃ D, rcD 1 64 [ks] picks = D := ⟨_, rfl⟩
   obtain ⟨E, hE⟩ : ∃ E, rcD 1 64 [ks] [] = E := ⟨_, rfl⟩
   have lq : ∀ t, Q.lenAt [ks] t ≤ 1048576 := fun t => by
    unfold Q.lenAt
    rcases t with _ | t
    · show ks.length ≤ _; omega
    · simp
   have kI := hidQ (fun (v : World) (g kc pc : Nat) (ka pa : Option Addr) (h1 : OneK v ka ks kc) (hc : Cls v g #[.slice ka ks.length kc] 34) (h2 : RdI v pa picks) (h3 : ∀ b off, pa = some ⟨b, off, none⟩ → b < v.heap.size) => show Calls Try.prog 7 #[.agg #[.int .i64 1, .int .i64 64], .slice (some ⟨g, 0, none⟩) 1 1, .slice pa picks.length pc] v fun e w' => ∃ v', e = .returned v' ∧ GRp w' v.heap.size v' D ∧ Below v.heap.size v w' from by have := irun_any 1 64 1 1 pc (some ⟨g, 0, none⟩) pa [ks] picks _ _ v rfl (by omega) lq (h1.tk hc) h2 h3; rwa [hD] at this)
   have kS := hidQ (fun (v : World) (g kc pc : Nat) (ka pa : Option Addr) (h1 : OneK v ka ks kc) (hc : Cls v g #[.slice ka ks.length kc] 34) (h2 : RdI v pa picks) (h3 : ∀ b off, pa = some ⟨b, off, none⟩ → b < v.heap.size) => show Calls Try.prog 8 #[.agg #[.int .i64 1, .int .i64 64], .slice (some ⟨g, 0, none⟩) 1 1, .slice pa picks.length pc] v fun e w' => ∃ v', e = .returned v' ∧ GRp w' v.heap.size v' D ∧ Below v.heap.size v w' from by have := srun_any 1 64 1 1 pc (some ⟨g, 0, none⟩) pa [ks] picks _ _ v rfl (by omega) lq (h1.tk hc) h2 h3; rwa [hD] at this)
   have kA := hidQ (fun (v : World) (g kc : Nat) (ka : Option Addr) (h1 : OneK v ka ks kc) (hc : Cls v g #[.slice ka ks.length kc] 34) => show Calls Try.prog 7 #[.agg #[.int .i64 1, .int .i64 64], .slice (some ⟨g, 0, none⟩) 1 1, .slice none 0 0] v fun e w' => ∃ v', e = .returned v' ∧ GRp w' v.heap.size v' E ∧ Below v.heap.size v w' from by have := irun_any 1 64 1 1 0 (some ⟨g, 0, none⟩) none [ks] [] _ _ v rfl (by omega) lq (h1.tk hc) (fun h => by simp at h) (fun b off e => by simp at e); rwa [hE] at this)
   have FA := hidQ (show D.ok = true → FaOk ks D E from by rw [← hD, ← hE]; exact faOk_of)
   clear hs hF hD hE lq
   go_enter Try.func4, Try.ntmps4
   go_wp2_with fail
   refine kD.out.mono ?_
   rintro e v1 ⟨ta1, tc1, pa1, pc1, kx1, kc1, rfl, t1, p1, q1, b1⟩
   obtain ⟨u0, hu0⟩ : ∃ u, u = v1.alloc (.cells #[.int .i64 a, .int .i64 b] 24) := ⟨_, rfl⟩
   obtain ⟨u1, hu1⟩ : ∃ u, u = u0.alloc (.cells #[.int .i64 1, .int .i64 64] 24) := ⟨_, rfl⟩
   have cu1 : Cls u1 u0.heap.size #[.int .i64 1, .int .i64 64] 24 := by rw [hu1]; exact Cls.new _ _ _
   have bu0 : Below v1.heap.size v1 u0 := by rw [hu0]; exact (Below.refl _ _).alloc (Nat.le_refl _) _
   have bu1 : Below u0.heap.size u0 u1 := by rw [hu1]; exact (Below.refl _ _).alloc (Nat.le_refl _) _
   have bv := keepC1 bu0 bu1
   have T1 := hidQ (t1.below bv)
   have P1 := hidQ (p1.far q1 bv)
   have Q1 := hidQ (fun g off (e : pa1 = some ⟨g, off, none⟩) => Nat.lt_of_lt_of_le (q1 g off e) bv.size)
   have B1 := hidQ (keepC1 b1 bv)
   have C1 := hidQ cu1
   have SM := hidQ smd.1
   have HKS := hidQ hks
   clear t1 p1 q1 b1 bu0 bu1 cu1 bv smd hks kD
   go_upto_region 4 with fail
   rw [← hu0]
   clear hu0
   go_upto_region 5 with fail
   rw [← hu1]
   clear hu1
   obtain ⟨L, hL⟩ : ∃ L, ks.length = L := ⟨_, rfl⟩
   have HL := hidQ hL
   rw [hL] at l61
   obtain ⟨tn, htn⟩ : ∃ x, tasks.length = x := ⟨_, rfl⟩
   rw [htn]
   go_upto_if 29 with fail
   go_cut [7, 28, 29] (fun kv _ _ wz => u1 = wz ∧ ∃ ka kc, kv = .slice ka L kc ∧ OneK wz ka ks kc)
   case first =>
    by_cases t0 : 0 < tn
    · have t0' : (0 : Int) < (tn : Int) := by omega
      obtain ⟨g7, f7, rfl, lk, ck⟩ := T1.out.s (by omega)
      have c0 := ck 0 (by omega)
      have kk := hidQ (T1.out.k 0 (by omega))
      have kc := hidQ (T1.out.c 0 (by omega))
      have e0 : Q.lenAt tasks 0 = L := by unfold Q.lenAt; rw [HKS.out, hL]
      dsimp only at c0
      rw [e0] at c0
      rw [Nat.add_zero] at c0
      have OK := hidQ (show OneK u1 (kx1 0) ks (kc1 0) from ⟨by have := kk.out; rw [e0] at this; rw [hL]; unfold Q.keyAt at this; rw [HKS.out] at this; exact this, by have := kc.out; rw [e0] at this; rw [hL]; exact this⟩)
      clear ck lk kk kc e0 hL
      go_wp2_with fail
      go_meet
      exact ⟨rfl, _, _, rfl, OK.out⟩
    · have t0' : ¬ (0 : Int) < (tn : Int) := by omega
      have e0 : ks = [] := by rw [← HKS.out]; have : tasks = [] := List.length_eq_zero_iff.1 (by omega); rw [this]; rfl
      have e1 : L = 0 := by rw [← hL, e0]; rfl
      have OK := hidQ (show OneK u1 none ks 0 from ⟨fun h => by rw [e0] at h; simp at h, by rw [e0]; simp⟩)
      subst e1
      clear hL e0
      go_wp2_with fail
      go_meet
      exact ⟨rfl, _, _, rfl, OK.out⟩
   case rest =>
    rename World => wz
    obtain ⟨rfl, ka, kc, rfl, ok⟩ := hcut
    have OK := hidQ ok
    have lkc := ok.c
    rw [hL] at lkc
    clear ok T1 hL
    go_wp2_with fail
    go_loopw [8, 35] (fun uv iv wr => ∃ i : Nat, i ≤ L ∧ iv = .int .i64 (i : Int) ∧ uv = .int .i64 (unl ks i : Int) ∧ Below u1.heap.size u1 wr) (fun _ iv _ => L - (intOf iv).toNat)
    case atStart => exact ⟨0, by omega, rfl, rfl, Below.refl _ _⟩
    case round =>
     rename World => wr
     obtain ⟨i, hiL, rfl, rfl, hbr⟩ := hrel
     have HB := hidQ hbr
     by_cases hi : i < L
     · have hi' : (i : Int) < (L : Int) := by omega
       obtain ⟨gk, fk, rfl, lk, ck⟩ := OK.out.k (by rw [HL.out]; omega)
       have d0 := (hbr.cell (p := ⟨gk, fk + (i * 2), none⟩) lk).trans (ck (i * 2) (by rw [HL.out]; omega))
       have d1 := (hbr.cell (p := ⟨gk, fk + (i * 2 + 1), none⟩) lk).trans (ck (i * 2 + 1) (by rw [HL.out]; omega))
       rw [kf0] at d0
       rw [kf1, ← Nat.add_assoc] at d1
       have UN := hidQ (show unl ks (i + 1) = unl ks i + if askI ks (ks.getD i (0, 0)) i = true then 0 else 1 from rfl)
       have ul := unl_le ks i
       obtain ⟨u, hu⟩ : ∃ x, unl ks i = x := ⟨_, rfl⟩
       rw [hu] at ul ⊢
       have UN := hidQ (by have := UN.out; rwa [hu] at this)
       obtain ⟨ki, hki⟩ : ∃ x, ks.getD i (0, 0) = x := ⟨_, rfl⟩
       simp only [hki] at d0 d1
       have UN := hidQ (by have := UN.out; rwa [hki] at this)
       obtain ⟨k1, k2⟩ := ki
       dsimp only at d0 d1
       have f1 : IntKind.i64.wrap ((i : Int) + 1) = (i : Int) + 1 := by simp only [IntKind.wrap_i64]; omega
       have f2 : IntKind.i64.wrap ((u : Int) + 1) = (u : Int) + 1 := by simp only [IntKind.wrap_i64]; omega
       obtain ⟨z0, hz0⟩ : ∃ u, u = wr.alloc (.cells #[.int .i64 k1, .int .i64 k2] 36) := ⟨_, rfl⟩
       have bz : Below wr.heap.size wr z0 := by rw [hz0]; exact (Below.refl _ _).alloc (Nat.le_refl _) _
       have cz : Cls z0 wr.heap.size #[.int .i64 k1, .int .i64 k2] 36 := by rw [hz0]; exact Cls.new _ _ _
       have BZ := hidQ (keepC1 hbr bz)
       have CZ := hidQ cz
       have CK := hidQ (fun (v : World) (hv : Below z0.heap.size z0 v) (j : Nat) (hj : j < i) => show v.cell? ⟨gk, fk + j * 2, none⟩ = some (.int .i64 (ks.getD j (0, 0)).1) ∧ v.cell? ⟨gk, fk + j * 2 + 1, none⟩ = some (.int .i64 (ks.getD j (0, 0)).2) from by
        have d0 := ((keepC1 BZ.out hv).cell (p := ⟨gk, fk + (j * 2), none⟩) lk).trans (ck (j * 2) (by rw [HL.out]; omega))
        have d1 := ((keepC1 BZ.out hv).cell (p := ⟨gk, fk + (j * 2 + 1), none⟩) lk).trans (ck (j * 2 + 1) (by rw [HL.out]; omega))
        rw [kf0] at d0
        rw [kf1, ← Nat.add_assoc] at d1
        exact ⟨d0, d1⟩)
       have ic : (i : Int) ≤ (kc : Int) := by omega
       have ic2 : i ≤ kc := by omega
       clear ck lk hu hki bz cz hbr
       go_upto_region 12 with fail
       rw [← hz0]
       clear hz0 d0 d1
       go_wp2_with fail
       go_loopw [11, 44] (fun sv jv wq => ∃ j : Nat, j ≤ i ∧ jv = .int .i64 (j : Int) ∧ sv = .bool (askI ks (k1, k2) j) ∧ Below z0.heap.size z0 wq) (fun _ jv _ => i - (intOf jv).toNat)
       case atStart => exact ⟨0, by omega, rfl, rfl, Below.refl _ _⟩
       case round =>
        rename World => wq
        obtain ⟨j, hji, rfl, rfl, hbq⟩ := hrel
        have HBQ := hidQ hbq
        by_cases hj : j < i
        · have hj' : (j : Int) < (i : Int) := by omega
          obtain ⟨d0, d1⟩ := CK.out wq hbq j hj
          have AI := hidQ (show askI ks (k1, k2) (j + 1) = (askI ks (k1, k2) j || decide (ks.getD j (0, 0) = (k1, k2))) from rfl)
          obtain ⟨kj, hkj⟩ : ∃ x, ks.getD j (0, 0) = x := ⟨_, rfl⟩
          rw [hkj] at d0 d1
          have AI := hidQ (by have := AI.out; rwa [hkj] at this)
          obtain ⟨y1, y2⟩ := kj
          dsimp only at d0 d1
          have f3 : IntKind.i64.wrap ((j : Int) + 1) = (j : Int) + 1 := by simp only [IntKind.wrap_i64]; omega
          obtain ⟨V, hV⟩ : ∃ u, u = wq.alloc (.cells #[.int .i64 y1, .int .i64 y2] 36) := ⟨_, rfl⟩
          have bV : Below wq.heap.size wq V := by rw [hV]; exact (Below.refl _ _).alloc (Nat.le_refl _) _
          have cV : Cls V wq.heap.size #[.int .i64 y1, .int .i64 y2] 36 := by rw [hV]; exact Cls.new _ _ _
          have BV := hidQ (keepC1 hbq bV)
          have r0 := cV.cell 0 rfl; have r1 := cV.cell 1 rfl
          have r2 := ((CZ.out.below hbq).below bV).cell 0 rfl; have r3 := ((CZ.out.below hbq).below bV).cell 1 rfl
          clear hkj bV cV hbq
          go_upto_region 16 with fail
          rw [← hV]
          clear hV d0 d1
          obtain ⟨aI, haI⟩ : ∃ x, askI ks (k1, k2) j = x := ⟨_, rfl⟩
          have AI := hidQ (by have := AI.out; rwa [haI] at this)
          rw [haI]
          clear haI
          cases aI with
          | true =>
            go_wp2_with fail
            go_roundw
            case rel => exact ⟨j + 1, by omega, by simp, by rw [AI.out]; simp, BV.out⟩
            case measure => simp [intOf]; omega
          | false =>
            by_cases e1 : y1 = k1
            · by_cases e2 : y2 = k2
              · have b1 : (y1 == k1) = true := by simpa using e1
                have b2 : (y2 == k2) = true := by simpa using e2
                have E := hidQ (show decide ((y1, y2) = (k1, k2)) = true by rw [e1, e2]; simp)
                clear e1 e2
                go_wp2_with fail
                go_roundw
                case rel => exact ⟨j + 1, by omega, by simp, by rw [AI.out, E.out]; simp, BV.out⟩
                case measure => simp [intOf]; omega
              · have b1 : (y1 == k1) = true := by simpa using e1
                have b2 : (y2 == k2) = false := by simpa using e2
                have E := hidQ (show decide ((y1, y2) = (k1, k2)) = false by simp; intro _; exact e2)
                clear e1 e2
                go_wp2_with fail
                go_roundw
                case rel => exact ⟨j + 1, by omega, by simp, by rw [AI.out, E.out]; simp, BV.out⟩
                case measure => simp [intOf]; omega
            · have b1 : (y1 == k1) = false := by simpa using e1
              have E := hidQ (show decide ((y1, y2) = (k1, k2)) = false by simp; intro h; exact absurd h e1)
              clear e1
              go_wp2_with fail
              go_roundw
              case rel => exact ⟨j + 1, by omega, by simp, by rw [AI.out, E.out]; simp, BV.out⟩
              case measure => simp [intOf]; omega
        · have ej : j = i := by omega
          subst ej
          obtain ⟨aI, haI⟩ : ∃ x, askI ks (k1, k2) j = x := ⟨_, rfl⟩
          have UN := hidQ (by have := UN.out; rwa [haI] at this)
          rw [haI]
          clear haI hbq
          cases aI with
          | true =>
            go_wp2_with fail
            go_roundw
            case rel => exact ⟨j + 1, by omega, by simp, by rw [UN.out]; simp, keepC1 BZ.out HBQ.out⟩
            case measure => simp [intOf]; omega
          | false =>
            go_wp2_with fail
            go_roundw
            case rel => exact ⟨j + 1, by omega, by simp, by rw [UN.out]; simp, keepC1 BZ.out HBQ.out⟩
            case measure => simp [intOf]; omega
     · have ei : i = L := by omega
       subst ei
       obtain ⟨UL, hUL⟩ : ∃ x, unl ks i = x := ⟨_, rfl⟩
       rw [hUL]
       have HUL := hidQ (show unl ks ks.length = UL by rw [HL.out]; exact hUL)
       have ulL := unl_le ks i
       rw [hUL] at ulL
       have KEEP := hidQ (fun (v : World) (hv : Below u1.heap.size u1 v) => show Cls v u0.heap.size #[.int .i64 1, .int .i64 64] 24 ∧ OneK (v.alloc (.cells #[.slice ka i kc] 34)) ka ks kc ∧ Cls (v.alloc (.cells #[.slice ka i kc] 34)) v.heap.size #[.slice ka ks.length kc] 34 ∧ RdI (v.alloc (.cells #[.slice ka i kc] 34)) pa1 picks ∧ (∀ b off, pa1 = some ⟨b, off, none⟩ → b < (v.alloc (.cells #[.slice ka i kc] 34)).heap.size) ∧ Below v.heap.size v (v.alloc (.cells #[.slice ka i kc] 34)) from by
        have bz : Below v.heap.size v (v.alloc (.cells #[.slice ka i kc] 34)) := (Below.refl _ _).alloc (Nat.le_refl _) _
        have bb := keepC1 hv bz
        exact ⟨C1.out.below hv, OK.out.below bb, by rw [HL.out]; exact Cls.new _ _ _, P1.out.far Q1.out bb, fun g off e => Nat.lt_of_lt_of_le (Q1.out g off e) bb.size, bz⟩)
       clear hUL hi hiL
       obtain ⟨k0, k1, k2, k3, k4, k5⟩ := KEEP.out wr hbr
       have n0 := k0.cell 0 rfl; have n1 := k0.cell 1 rfl
       have K1 := hidQ (kI.out _ _ _ pc1 _ _ k1 k2 k3 k4)
       have W1 := hidQ (keepC1 hbr k5)
       clear k0 k1 k2 k3 k4 k5 hbr
       go_wp2_with fail
       refine K1.out.mono ?_
       rintro e v2 ⟨rv2, rfl, g2, b2⟩
       obtain ⟨ta2, tc2, oa2, oc2, sa2, sc2, ob2, rfl, r2⟩ := g2.read
       obtain ⟨u2, hu2⟩ : ∃ u, u = v2.alloc (.cells (RDv D (.slice ta2 D.T tc2) (.slice oa2 D.T oc2) (.slice sa2 D.vs.length sc2)) 32) := ⟨_, rfl⟩
       have c2 : Cls u2 v2.heap.size (RDv D (.slice ta2 D.T tc2) (.slice oa2 D.T oc2) (.slice sa2 D.vs.length sc2)) 32 := by rw [hu2]; exact Cls.new _ _ _
       have bu2 : Below v2.heap.size v2 u2 := by rw [hu2]; exact (Below.refl _ _).alloc (Nat.le_refl _) _
       have B2 := hidQ (keepC1 W1.out (keepC1 b2 bu2))
       have C2 := hidQ c2
       clear g2 b2 r2 c2 bu2 K1 W1 n0 n1
       unfold RDv at hu2
       unfold RDv
       go_upto_region 22 with fail
       rw [← hu2]
       clear hu2
       obtain ⟨k0, k1, k2, k3, k4, k5⟩ := KEEP.out u2 B2.out
       have n0 := k0.cell 0 rfl; have n1 := k0.cell 1 rfl
       have K1 := hidQ (kS.out _ _ _ pc1 _ _ k1 k2 k3 k4)
       have W1 := hidQ k5
       clear k0 k1 k2 k3 k4 k5
       go_wp2_with fail
       refine K1.out.mono ?_
       rintro e v3 ⟨rv3, rfl, g3, b3⟩
       obtain ⟨ta3, tc3, oa3, oc3, sa3, sc3, ob3, rfl, r3⟩ := g3.read
       obtain ⟨u3, hu3⟩ : ∃ u, u = v3.alloc (.cells (RDv D (.slice ta3 D.T tc3) (.slice oa3 D.T oc3) (.slice sa3 D.vs.length sc3)) 32) := ⟨_, rfl⟩
       have c3 : Cls u3 v3.heap.size (RDv D (.slice ta3 D.T tc3) (.slice oa3 D.T oc3) (.slice sa3 D.vs.length sc3)) 32 := by rw [hu3]; exact Cls.new _ _ _
       have bu3 : Below v3.heap.size v3 u3 := by rw [hu3]; exact (Below.refl _ _).alloc (Nat.le_refl _) _
       have b23 := keepC1 W1.out (keepC1 b3 bu3)
       have B3 := hidQ (keepC1 B2.out b23)
       have C3 := hidQ c3
       have C2 := hidQ (C2.out.below b23)
       clear g3 b3 r3 c3 bu3 b23 K1 W1 n0 n1
       unfold RDv at hu3
       unfold RDv
       go_upto_region 23 with fail
       rw [← hu3]
       clear hu3
       have x0 : u3.cell? ⟨v2.heap.size, 0, none⟩ = some (.bool D.ok) := C2.out.cell 0 rfl
       have x2 : u3.cell? ⟨v2.heap.size, 2, none⟩ = some (.int .i64 (D.n : Int)) := C2.out.cell 2 rfl
       have y0 : u3.cell? ⟨v3.heap.size, 0, none⟩ = some (.bool D.ok) := C3.out.cell 0 rfl
       have y1 : u3.cell? ⟨v3.heap.size, 1, none⟩ = some (.bool D.dn) := C3.out.cell 1 rfl
       have y2 : u3.cell? ⟨v3.heap.size, 2, none⟩ = some (.int .i64 (D.n : Int)) := C3.out.cell 2 rfl
       cases hok : D.ok with
       | false =>
         rw [hok] at x0 y0
         clear hok
         go_wp2_with fail
         go_ret
         exact ⟨rfl, keepC1 B1.out B3.out⟩
       | true =>
         have fa := FA.out hok
         rw [hok] at x0 y0
         clear hok
         cases hdn : D.dn with
         | false =>
           rw [hdn] at y1
           clear hdn fa
           go_wp2_with fail
           go_ret
           exact ⟨rfl, keepC1 B1.out B3.out⟩
         | true =>
           rw [hdn] at y1
           obtain ⟨a1, a2, a3, a4, a5, a6⟩ := fa.dn hdn
           have a7 := fa.n
           have a8 := fa.h
           rw [HUL.out] at a1 a2 a3 a6
           rw [HL.out] at a3
           obtain ⟨k0, k1, k2, k3, k4, k5⟩ := KEEP.out u3 B3.out
           have n0 := k0.cell 0 rfl; have n1 := k0.cell 1 rfl
           have K1 := hidQ (kA.out _ _ _ _ k1 k2)
           have W1 := hidQ k5
           have AA := hidQ (And.intro a1 (And.intro a2 (And.intro a3 (And.intro a4 (And.intro a5 (And.intro a6 (And.intro a7 a8)))))))
           clear k0 k1 k2 k3 k4 k5 hdn fa a1 a2 a3 a4 a5 a6 a7 a8
           go_wp2_with fail
           refine K1.out.mono ?_
           rintro e v4 ⟨rv4, rfl, g4, b4⟩
           obtain ⟨ta4, tc4, oa4, oc4, sa4, sc4, ob4, rfl, r4⟩ := g4.read
           obtain ⟨u4, hu4⟩ : ∃ u, u = v4.alloc (.cells (RDv E (.slice ta4 E.T tc4) (.slice oa4 E.T oc4) (.slice sa4 E.vs.length sc4)) 32) := ⟨_, rfl⟩
           have c4 : Cls u4 v4.heap.size (RDv E (.slice ta4 E.T tc4) (.slice oa4 E.T oc4) (.slice sa4 E.vs.length sc4)) 32 := by rw [hu4]; exact Cls.new _ _ _
           have bu4 : Below v4.heap.size v4 u4 := by rw [hu4]; exact (Below.refl _ _).alloc (Nat.le_refl _) _
           have b34 := keepC1 W1.out (keepC1 b4 bu4)
           have B4 := hidQ (keepC1 B3.out b34)
           have C4 := hidQ c4
           have C2 := hidQ (C2.out.below b34)
           clear g4 b4 r4 c4 bu4 b34 K1 W1 n0 n1 x0 x2 y0 y1 y2
           unfold RDv at hu4
           unfold RDv
           go_upto_region 28 with fail
           rw [← hu4]
           clear hu4
           have x2 : u4.cell? ⟨v2.heap.size, 2, none⟩ = some (.int .i64 (D.n : Int)) := C2.out.cell 2 rfl
           have x5 : u4.cell? ⟨v2.heap.size, 5, none⟩ = some (.int .i64 (D.h : Int)) := C2.out.cell 5 rfl
           have x6 : u4.cell? ⟨v2.heap.size, 6, none⟩ = some (.int .i64 (D.md : Int)) := C2.out.cell 6 rfl
           have x7 : u4.cell? ⟨v2.heap.size, 7, none⟩ = some (.int .i64 (D.pb : Int)) := C2.out.cell 7 rfl
           have x8 : u4.cell? ⟨v2.heap.size, 8, none⟩ = some (.int .i64 (D.ev : Int)) := C2.out.cell 8 rfl
           have x9 : u4.cell? ⟨v2.heap.size, 9, none⟩ = some (.int .i64 (D.ls : Int)) := C2.out.cell 9 rfl
           have x10 : u4.cell? ⟨v2.heap.size, 10, none⟩ = some (.slice sa2 D.vs.length sc2) := C2.out.cell 10 rfl
           have z2 : u4.cell? ⟨v4.heap.size, 2, none⟩ = some (.int .i64 (E.n : Int)) := C4.out.cell 2 rfl
           have z5 : u4.cell? ⟨v4.heap.size, 5, none⟩ = some (.int .i64 (E.h : Int)) := C4.out.cell 5 rfl
           obtain ⟨a1, a2, a3, a4, a5, a6, a7, a8⟩ := AA.out
           rw [a1] at x6
           rw [a2] at x7
           rw [a4] at x8
           rw [a5] at x9
           rw [a6] at x10
           rw [a7] at z2
           rw [a8] at z5
           obtain ⟨hh, ehh⟩ : ∃ x, D.h = x := ⟨_, rfl⟩
           obtain ⟨nn, enn⟩ : ∃ x, D.n = x := ⟨_, rfl⟩
           rw [ehh] at x5 z5 a3
           rw [enn] at x2 z2
           have ws : IntKind.i64.wrap ((i : Int) - (UL : Int)) = (hh : Int) := by simp only [IntKind.wrap_i64]; omega
           clear a1 a2 a3 a4 a5 a6 a7 a8 ehh enn
           go_wp2_with fail
           go_ret
           exact ⟨rfl, keepC1 B1.out B4.out⟩
 · have f20 : (1048576 : Int) < (n : Int) := by omega
   clear hs
   go_enter Try.func4, Try.ntmps4
   go_wp2_with fail
   go_ret
   exact ⟨rfl, Below.refl _ _⟩

end Go.Proofs.Ytdpbhbpcpnlbkaa
