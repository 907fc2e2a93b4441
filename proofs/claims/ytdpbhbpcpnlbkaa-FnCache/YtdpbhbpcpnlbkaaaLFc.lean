import Derived.Test.YtdpbhbpcpnlbkaaaRn9
import Derived.Test.YtdpbhbpcpnlbkaaaGL
set_option maxHeartbeats 8000000
namespace Go.Proofs.Ytdpbhbpcpnlbkaa
open Go.RowKit Go.Maps
set_option linter.unusedVariables false
set_option maxRecDepth 100000
structure FW (v : World) (g6 g9 g10 : Nat) (a b : Int) (D : RD) (ta oa sa : Option Addr) (tc oc sc : Nat) (tv ov sv : Value) (ob : Nat → Nat) (tk : Option Addr) (tasks : List (List (Int × Int))) (kx : Nat → Option Addr) (kc : Nat → Nat) : Prop where
 c6 : Cls v g6 #[.int .i64 a, .int .i64 b] 24
 c9 : Cls v g9 (RDv D (.slice ta D.T tc) (.slice oa D.T oc) (.slice sa D.vs.length sc)) 32
 c10 : Cls v g10 (RDv D tv ov sv) 32
 rr : RRp v D ta oa sa ob
 tk : TkR v tk tasks kx kc

theorem FW.below {v u : World} {g6 g9 g10 : Nat} {a b : Int} {D : RD} {ta oa sa : Option Addr} {tc oc sc : Nat} {tv ov sv : Value} {ob : Nat → Nat} {tk : Option Addr} {tasks : List (List (Int × Int))} {kx : Nat → Option Addr} {kc : Nat → Nat} (h : FW v g6 g9 g10 a b D ta oa sa tc oc sc tv ov sv ob tk tasks kx kc) (hb : Below v.heap.size v u) : FW u g6 g9 g10 a b D ta oa sa tc oc sc tv ov sv ob tk tasks kx kc :=
 ⟨h.c6.below hb, h.c9.below hb, h.c10.below hb, h.rr.below hb, h.tk.below hb⟩

theorem rcD_zero {a b : Int} {tasks : List (List (Int × Int))} {picks : List Int} (h : (rcD a b tasks picks).ok = false) : (rcD a b tasks picks).vs = [] ∧ (rcD a b tasks picks).n = 0 := by
 unfold rcD at h ⊢
 split
 · rename_i g; rw [if_pos g] at h; simp [rdGood] at h
 · exact ⟨rfl, rfl⟩

theorem rcD_fc {a b : Int} {tasks : List (List (Int × Int))} {picks : List Int} (h : (rcD a b tasks picks).ok = true) : FcOk a b tasks (rcD a b tasks picks) := by
 by_cases g : rcOk a b tasks picks.length
 · exact fcOk_of g
 · unfold rcD at h; rw [if_neg g] at h; simp [rdZero] at h

theorem fc_at {p1 p2 : Nat} {b la : Int} (h1 : 1 ≤ b) (h2 : b ≤ 64) (h3 : p1 < 16) (h4 : p2 < b.toNat) (inc : la < ((p1 * b.toNat + p2 : Nat) : Int)) : ∃ m A : Nat, p1 * b.toNat + p2 = A ∧ IntKind.i64.wrap ((p1 : Int) * b) = (m : Int) ∧ IntKind.i64.wrap ((m : Int) + (p2 : Int)) = (A : Int) ∧ decide ((A : Int) ≤ la) = false ∧ decide ((p2 : Int) < 0) = false ∧ decide (b ≤ (p2 : Int)) = false := by
 obtain ⟨bn, hbn⟩ : ∃ x, b.toNat = x := ⟨_, rfl⟩
 rw [hbn] at inc h4
 have ebn : b = (bn : Int) := by omega
 have mle : p1 * bn ≤ 16 * 64 := Nat.mul_le_mul (by omega) (by omega)
 have em : (p1 : Int) * b = ((p1 * bn : Nat) : Int) := by rw [ebn]; simp
 rw [em, hbn]
 generalize p1 * bn = m at *
 clear em
 refine ⟨m, m + p2, rfl, ?_, ?_, decide_eq_false ?_, decide_eq_false ?_, decide_eq_false ?_⟩
 · simp only [IntKind.wrap_i64]; omega
 · simp only [IntKind.wrap_i64]; omega
 · omega
 · omega
 · omega

theorem wrapN {x : Nat} (h : x ≤ 1000000) : IntKind.i64.wrap ((x : Int) + 1) = (x : Int) + 1 := by simp only [IntKind.wrap_i64]; omega

theorem lawFc {w : World} {ao : Option Addr} {n c : Nat} {f : Nat → Nat} (hs : Sl w ao n (fun j => .int .u8 (f j : Int))) (hf : ∀ j, f j < 256) :
 Calls Try.prog 3 #[.slice ao n c] w fun e w' => e = .returned (.bool true) ∧ Below w.heap.size w w' := by
 by_cases h20 : n ≤ 1048576
 · have f20 : ¬ (1048576 : Int) < (n : Int) := by omega
   have f20' : decide ((1048576 : Int) < (n : Int)) = false := decide_eq_false f20
   have smd := drF_small (n := n) hf
   have kD := hidQ (fun (v : World) (hv : Below w.heap.size w v) => drc_use (c := c) (hs.below hv) h20 hf)
   obtain ⟨F, hF⟩ : ∃ F, drF n f = F := ⟨_, rfl⟩
   rw [hF] at kD smd
   obtain ⟨⟨a, b⟩, tasks, picks⟩ := F
   dsimp only at kD smd
   obtain ⟨D, hD⟩ : ∃ D, rcD a b tasks picks = D := ⟨_, rfl⟩
   have kI := hidQ (fun (v : World) (ta pa : Option Addr) (tc pc : Nat) (kx : Nat → Option Addr) (kc : Nat → Nat) (h1 : TkR v ta tasks kx kc) (h2 : RdI v pa picks) (h3 : ∀ b off, pa = some ⟨b, off, none⟩ → b < v.heap.size) => show Calls Try.prog 7 #[.agg #[.int .i64 a, .int .i64 b], .slice ta tasks.length tc, .slice pa picks.length pc] v fun e w' => ∃ v', e = .returned v' ∧ GRp w' v.heap.size v' D ∧ Below v.heap.size v w' from by have := irun_any a b tasks.length tc pc ta pa tasks picks kx kc v rfl (by omega) (fun t => by have := smd.2 t; omega) h1.tkIn h2 h3; rwa [hD] at this)
   have kS := hidQ (fun (v : World) (ta pa : Option Addr) (tc pc : Nat) (kx : Nat → Option Addr) (kc : Nat → Nat) (h1 : TkR v ta tasks kx kc) (h2 : RdI v pa picks) (h3 : ∀ b off, pa = some ⟨b, off, none⟩ → b < v.heap.size) => show Calls Try.prog 8 #[.agg #[.int .i64 a, .int .i64 b], .slice ta tasks.length tc, .slice pa picks.length pc] v fun e w' => ∃ v', e = .returned v' ∧ GRp w' v.heap.size v' D ∧ Below v.heap.size v w' from by have := srun_any a b tasks.length tc pc ta pa tasks picks kx kc v rfl (by omega) (fun t => by have := smd.2 t; omega) h1.tkIn h2 h3; rwa [hD] at this)
   have FC := hidQ (show D.ok = true → FcOk a b tasks D from by rw [← hD]; exact rcD_fc)
   have FZ := hidQ (show D.ok = false → D.vs = [] ∧ D.n = 0 from by rw [← hD]; exact rcD_zero)
   have DK := hidQ (show RDok D from by rw [← hD]; exact rcD_ok _ _ _ _)
   have SM := hidQ smd
   clear hs hF hD smd
   go_enter Try.func3, Try.ntmps3
   go_wp2_with fail
   refine (kD.out _ (Below.refl _ _)).mono ?_
   rintro e v1 ⟨ta1, tc1, pa1, pc1, kx1, kc1, rfl, t1, p1, q1, b1⟩
   obtain ⟨u1, hu1⟩ : ∃ u, u = v1.alloc (.cells #[.int .i64 a, .int .i64 b] 24) := ⟨_, rfl⟩
   have cu1 : Cls u1 v1.heap.size #[.int .i64 a, .int .i64 b] 24 := by rw [hu1]; exact Cls.new _ _ _
   have bu1 : Below v1.heap.size v1 u1 := by rw [hu1]; exact (Below.refl _ _).alloc (Nat.le_refl _) _
   have T1 := hidQ (t1.below bu1)
   have P1 := hidQ (p1.far q1 bu1)
   have Q1 := hidQ (fun g off (e : pa1 = some ⟨g, off, none⟩) => Nat.lt_of_lt_of_le (q1 g off e) bu1.size)
   have B1 := hidQ (keepC1 b1 bu1)
   have C1 := hidQ cu1
   clear t1 p1 q1 b1 bu1 cu1
   go_upto_region 4 with fail
   rw [← hu1]
   clear hu1
   go_wp2_with fail
   refine (kD.out _ B1.out).mono ?_
   rintro e v2 ⟨ta2, tc2, pa2, pc2, kx2, kc2, rfl, t2, p2, q2, b2⟩
   obtain ⟨u2, hu2⟩ : ∃ u, u = v2.alloc (.cells #[.int .i64 a, .int .i64 b] 24) := ⟨_, rfl⟩
   have cu2 : Cls u2 v2.heap.size #[.int .i64 a, .int .i64 b] 24 := by rw [hu2]; exact Cls.new _ _ _
   have bu2 : Below v2.heap.size v2 u2 := by rw [hu2]; exact (Below.refl _ _).alloc (Nat.le_refl _) _
   have b12 := keepC1 b2 bu2
   have T2 := hidQ (t2.below bu2)
   have P2 := hidQ (p2.far q2 bu2)
   have Q2 := hidQ (fun g off (e : pa2 = some ⟨g, off, none⟩) => Nat.lt_of_lt_of_le (q2 g off e) bu2.size)
   have C2 := hidQ cu2
   have T1 := hidQ (T1.out.below b12)
   have P1 := hidQ (P1.out.far Q1.out b12)
   have Q1 := hidQ (fun g off (e : pa1 = some ⟨g, off, none⟩) => Nat.lt_of_lt_of_le (Q1.out g off e) b12.size)
   have C1 := hidQ (C1.out.below b12)
   have B2 := hidQ (keepC1 B1.out b12)
   clear t2 p2 q2 b2 bu2 cu2 b12 B1
   go_upto_region 5 with fail
   rw [← hu2]
   clear hu2
   have x0 := C1.out.cell 0 rfl; have x1 := C1.out.cell 1 rfl
   go_wp2_with fail
   refine (kI.out _ _ _ _ _ _ _ T1.out P1.out Q1.out).mono ?_
   rintro e v3 ⟨rv3, rfl, g3, b3⟩
   obtain ⟨ta3, tc3, oa3, oc3, sa3, sc3, ob3, rfl, r3⟩ := g3.read
   obtain ⟨u3, hu3⟩ : ∃ u, u = v3.alloc (.cells (RDv D (.slice ta3 D.T tc3) (.slice oa3 D.T oc3) (.slice sa3 D.vs.length sc3)) 32) := ⟨_, rfl⟩
   have c3 : Cls u3 v3.heap.size (RDv D (.slice ta3 D.T tc3) (.slice oa3 D.T oc3) (.slice sa3 D.vs.length sc3)) 32 := by rw [hu3]; exact Cls.new _ _ _
   have bu3 : Below v3.heap.size v3 u3 := by rw [hu3]; exact (Below.refl _ _).alloc (Nat.le_refl _) _
   have b23 := keepC1 b3 bu3
   have C3 := hidQ c3
   have R3 := hidQ (r3.below bu3)
   have T2 := hidQ (T2.out.below b23)
   have P2 := hidQ (P2.out.far Q2.out b23)
   have Q2 := hidQ (fun g off (e : pa2 = some ⟨g, off, none⟩) => Nat.lt_of_lt_of_le (Q2.out g off e) b23.size)
   have C2 := hidQ (C2.out.below b23)
   have B3 := hidQ (keepC1 B2.out b23)
   clear g3 b3 r3 c3 bu3 b23 B2 T1 P1 Q1 C1 x0 x1
   unfold RDv at hu3
   unfold RDv
   go_upto_region 6 with fail
   rw [← hu3]
   clear hu3
   have x0 := C2.out.cell 0 rfl; have x1 := C2.out.cell 1 rfl
   go_wp2_with fail
   refine (kS.out _ _ _ _ _ _ _ T2.out P2.out Q2.out).mono ?_
   rintro e v4 ⟨rv4, rfl, g4, b4⟩
   obtain ⟨ta4, tc4, oa4, oc4, sa4, sc4, ob4, rfl, r4⟩ := g4.read
   obtain ⟨u4, hu4⟩ : ∃ u, u = v4.alloc (.cells (RDv D (.slice ta4 D.T tc4) (.slice oa4 D.T oc4) (.slice sa4 D.vs.length sc4)) 32) := ⟨_, rfl⟩
   have c4 : Cls u4 v4.heap.size (RDv D (.slice ta4 D.T tc4) (.slice oa4 D.T oc4) (.slice sa4 D.vs.length sc4)) 32 := by rw [hu4]; exact Cls.new _ _ _
   have bu4 : Below v4.heap.size v4 u4 := by rw [hu4]; exact (Below.refl _ _).alloc (Nat.le_refl _) _
   have b34 := keepC1 b4 bu4
   have FWU := hidQ (show FW u4 v2.heap.size v3.heap.size v4.heap.size a b D ta3 oa3 sa3 tc3 oc3 sc3 (.slice ta4 D.T tc4) (.slice oa4 D.T oc4) (.slice sa4 D.vs.length sc4) ob3 ta2 tasks kx2 kc2 from ⟨C2.out.below b34, C3.out.below b34, c4, R3.out.below b34, T2.out.below b34⟩)
   have B4 := hidQ (keepC1 B3.out b34)
   clear g4 b4 r4 c4 bu4 b34 B3 T2 P2 Q2 C2 C3 R3 x0 x1 kI kS kD
   unfold RDv at hu4
   unfold RDv
   go_upto_region 7 with fail
   rw [← hu4]
   clear hu4
   have x0 : u4.cell? ⟨v3.heap.size, 0, none⟩ = some (.bool D.ok) := FWU.out.c9.cell 0 rfl
   have x1 : u4.cell? ⟨v3.heap.size, 1, none⟩ = some (.bool D.dn) := FWU.out.c9.cell 1 rfl
   have x2 : u4.cell? ⟨v3.heap.size, 2, none⟩ = some (.int .i64 (D.n : Int)) := FWU.out.c9.cell 2 rfl
   have x4 : u4.cell? ⟨v3.heap.size, 4, none⟩ = some (.slice oa3 D.T oc3) := FWU.out.c9.cell 4 rfl
   have x10 : u4.cell? ⟨v3.heap.size, 10, none⟩ = some (.slice sa3 D.vs.length sc3) := FWU.out.c9.cell 10 rfl
   have y0 : u4.cell? ⟨v4.heap.size, 0, none⟩ = some (.bool D.ok) := FWU.out.c10.cell 0 rfl
   have y1 : u4.cell? ⟨v4.heap.size, 1, none⟩ = some (.bool D.dn) := FWU.out.c10.cell 1 rfl
   have y2 : u4.cell? ⟨v4.heap.size, 2, none⟩ = some (.int .i64 (D.n : Int)) := FWU.out.c10.cell 2 rfl
   have y4 : u4.cell? ⟨v4.heap.size, 4, none⟩ = some (.slice oa4 D.T oc4) := FWU.out.c10.cell 4 rfl
   cases hok : D.ok with
   | false =>
     obtain ⟨z1, z2⟩ := FZ.out hok
     rw [hok] at x0 y0
     rw [z2] at x2 y2
     rw [z1] at x10
     clear z1 z2 hok
     go_wp2_with fail
     go_ret
     exact ⟨rfl, B4.out⟩
   | true =>
     have fc := FC.out hok
     rw [hok] at x0 y0
     have FCC := hidQ fc
     have hT8 := fc.t8
     rw [← fc.T]
     clear fc hok FC FZ SM
     go_wp2_with fail
     go_loopw [11, 12, 90] (fun kv sv iv wr => ∃ t : Nat, t ≤ D.T ∧ iv = .int .i64 (t : Int) ∧ kv = .int .i64 (Q.sm D.len t : Int) ∧ sv = .int .i64 (Q.sm D.ts t : Int) ∧ Below u4.heap.size u4 wr) (fun _ _ iv _ => D.T - (intOf iv).toNat)
     case atStart => exact ⟨0, by omega, rfl, rfl, rfl, Below.refl _ _⟩
     case round =>
      rename World => wr
      obtain ⟨t, htT, rfl, rfl, rfl, hbr⟩ := hrel
      clear x0 x1 x2 x4 x10 y0 y1 y2 y4
      have HB := hidQ hbr
      by_cases hlt : t < D.T
      · have hlt' : (t : Int) < (D.T : Int) := by omega
        obtain ⟨g4, f4, rfl, lo, co⟩ := FWU.out.rr.o (by omega)
        obtain ⟨g3, f3, rfl, lt3, ct⟩ := FWU.out.rr.t (by omega)
        obtain ⟨g7, f7, rfl, lk, ck⟩ := FWU.out.tk.s (by rw [← FCC.out.T]; omega)
        have oo := FWU.out.rr.oo t hlt
        have c3 := ck t (by rw [← FCC.out.T]; exact hlt)
        dsimp only at c3
        rw [← FCC.out.len t] at c3
        have lf := FCC.out.len60 t
        have s1 := sm_le (f := D.ts) (show t + 1 ≤ D.T by omega)
        rw [FCC.out.ts, Q.sm] at s1
        have n4 := FCC.out.n
        have k1 := sm_bound (f := D.len) (n := t) FCC.out.len60
        have k2 : t * 60 ≤ 8 * 60 := Nat.mul_le_mul (by omega) (Nat.le_refl _)
        have HOUT := hidQ (fun hd i hi => FCC.out.out hd t i hlt hi)
        have HS1 := hidQ (show Q.sm D.ts (t + 1) = Q.sm D.ts t + D.ts t from rfl)
        have HK1 := hidQ (show Q.sm D.len (t + 1) = Q.sm D.len t + D.len t from rfl)
        obtain ⟨s0, hs0⟩ : ∃ x, Q.sm D.ts t = x := ⟨_, rfl⟩
        obtain ⟨k0, hk0⟩ : ∃ x, Q.sm D.len t = x := ⟨_, rfl⟩
        obtain ⟨ln, hln⟩ : ∃ x, D.len t = x := ⟨_, rfl⟩
        obtain ⟨tx, htx⟩ : ∃ x, D.ts t = x := ⟨_, rfl⟩
        obtain ⟨obt, hobt⟩ : ∃ x, ob3 t = x := ⟨_, rfl⟩
        have CL := hidQ (fun (v : World) (hv : Below u4.heap.size u4 v) => show v.cell? ⟨v3.heap.size, 3, none⟩ = some (.slice (some ⟨g3, f3, none⟩) D.T tc3) ∧ v.cell? ⟨v3.heap.size, 4, none⟩ = some (.slice (some ⟨g4, f4, none⟩) D.T oc3) ∧ v.cell? ⟨v4.heap.size, 1, none⟩ = some (.bool D.dn) ∧ v.cell? ⟨g4, f4 + t, none⟩ = some (.slice (some ⟨obt, 0, none⟩) ln ln) ∧ v.cell? ⟨g3, f3 + t, none⟩ = some (.int .i64 (tx : Int)) ∧ v.cell? ⟨g7, f7 + t, none⟩ = some (.slice (kx2 t) ln (kc2 t)) from by
         rw [← hln, ← htx, ← hobt]
         exact ⟨(FWU.out.below hv).c9.cell 3 rfl, (FWU.out.below hv).c9.cell 4 rfl, (FWU.out.below hv).c10.cell 1 rfl, (hv.cell (p := ⟨g4, f4 + t, none⟩) lo).trans (co t hlt), (hv.cell (p := ⟨g3, f3 + t, none⟩) lt3).trans (ct t hlt), (hv.cell (p := ⟨g7, f7 + t, none⟩) lk).trans c3⟩)
        rw [hs0, hk0]
        rw [hs0, htx] at HS1
        rw [hk0, hln] at HK1
        rw [hln, hobt] at oo
        rw [hln] at lf HOUT
        rw [hs0, htx] at s1
        rw [hk0] at k1
        have wf : IntKind.i64.wrap ((s0 : Int) + (tx : Int)) = (s0 : Int) + (tx : Int) := by simp only [IntKind.wrap_i64]; omega
        have f1 : IntKind.i64.wrap ((t : Int) + 1) = (t : Int) + 1 := by simp only [IntKind.wrap_i64]; omega
        have OO := hidQ oo
        clear oo co ct ck c3 lo lt3 lk hs0 hk0 hln htx hobt s1
        obtain ⟨a1, a2, a3, a4, a5, a6⟩ := CL.out wr hbr
        go_wp2_with fail
        go_quiet (fail)
        have QZ := Qt.drewN wr nq
        generalize wr.drewN nq = W at QZ ⊢
        have hbw := keepC1 hbr (QZ.below _)
        have HBW := hidQ hbw
        clear a1 a2 a3 a4 a5 a6 hbr QZ
        obtain ⟨a1, a2, a3, a4, a5, a6⟩ := CL.out W hbw
        go_wp2_with fail
        go_loopw [11, 118] (fun kv iv wq => ∃ i : Nat, i ≤ ln ∧ iv = .int .i64 (i : Int) ∧ kv = .int .i64 ((k0 : Int) + (i : Int)) ∧ W = wq) (fun _ iv _ => ln - (intOf iv).toNat)
        case atStart => exact ⟨0, by omega, rfl, by simp, rfl⟩
        case round =>
         obtain ⟨i, hil, rfl, rfl, rfl⟩ := hrel
         by_cases hi : i < ln
         · have hi' : (i : Int) < (ln : Int) := by omega
           obtain ⟨g5, f5, e5, l5, c5⟩ := OO.out (by omega)
           have c6 := (hbw.cell (p := ⟨g5, f5 + i, none⟩) l5).trans (c5 i hi)
           injection e5 with e5
           injection e5 with e5 e6
           subst e5; subst e6
           rw [Nat.zero_add] at c6
           have f2 : IntKind.i64.wrap ((i : Int) + 1) = (i : Int) + 1 := by simp only [IntKind.wrap_i64]; omega
           have f3' : IntKind.i64.wrap ((k0 : Int) + (i : Int) + 1) = (k0 : Int) + (i : Int) + 1 := by simp only [IntKind.wrap_i64]; omega
           have HO := hidQ (fun hd => HOUT.out hd i hi)
           dsimp only at c6
           obtain ⟨oi, hoi⟩ : ∃ x, D.out t i = x := ⟨_, rfl⟩
           rw [hoi] at c6 HO
           clear c5 l5 hoi
           by_cases o0 : oi = 0
           · subst o0
             have hdn : D.dn = false := by
              cases e : D.dn with
              | false => rfl
              | true => exact absurd rfl (HO.out e)
             rw [hdn] at a3
             go_wp2_with fail
             go_roundw
             case rel => exact ⟨i + 1, by omega, by simp, by simp; omega, by trivial⟩
             case measure => simp [intOf]; omega
           · have o1 : ¬ (oi : Int) = 0 := by omega
             have o2 : ((oi : Int) == 0) = false := by simp; omega
             go_wp2_with fail
             go_roundw
             case rel => exact ⟨i + 1, by omega, by simp, by simp; omega, by trivial⟩
             case measure => simp [intOf]; omega
         · have ei : i = ln := by omega
           subst ei
           go_wp2_with fail
           go_roundw
           case rel => exact ⟨t + 1, by omega, by simp, by rw [HK1.out]; simp, by rw [HS1.out]; simp, HBW.out⟩
           case measure => simp [intOf]; omega
      · have et : t = D.T := by omega
        subst et
        have kb := sm_bound (f := D.len) (n := D.T) FCC.out.len60
        have kb2 : D.T * 60 ≤ 8 * 60 := Nat.mul_le_mul (by omega) (Nat.le_refl _)
        obtain ⟨K, hK⟩ : ∃ K, Q.sm D.len D.T = K := ⟨_, rfl⟩
        rw [FCC.out.ts, hK]
        rw [hK] at kb
        have fw := FWU.out.below hbr
        have x2 : wr.cell? ⟨v3.heap.size, 2, none⟩ = some (.int .i64 (D.n : Int)) := fw.c9.cell 2 rfl
        have x5 : wr.cell? ⟨v3.heap.size, 5, none⟩ = some (.int .i64 (D.h : Int)) := fw.c9.cell 5 rfl
        have x6 : wr.cell? ⟨v3.heap.size, 6, none⟩ = some (.int .i64 (D.md : Int)) := fw.c9.cell 6 rfl
        have x7 : wr.cell? ⟨v3.heap.size, 7, none⟩ = some (.int .i64 (D.pb : Int)) := fw.c9.cell 7 rfl
        have x8 : wr.cell? ⟨v3.heap.size, 8, none⟩ = some (.int .i64 (D.ev : Int)) := fw.c9.cell 8 rfl
        have x9 : wr.cell? ⟨v3.heap.size, 9, none⟩ = some (.int .i64 (D.ls : Int)) := fw.c9.cell 9 rfl
        have x10 : wr.cell? ⟨v3.heap.size, 10, none⟩ = some (.slice sa3 D.vs.length sc3) := fw.c9.cell 10 rfl
        have y1 : wr.cell? ⟨v4.heap.size, 1, none⟩ = some (.bool D.dn) := fw.c10.cell 1 rfl
        obtain ⟨b1, b2, b3, b4, b5⟩ := FCC.out.bd
        have sl := FCC.out.slots
        have n4 := FCC.out.n
        have HCN := hidQ FCC.out.cnt
        have HMD := hidQ FCC.out.md
        rw [hK] at HCN
        obtain ⟨nn, en⟩ : ∃ x, D.n = x := ⟨_, rfl⟩
        obtain ⟨hh, eh⟩ : ∃ x, D.h = x := ⟨_, rfl⟩
        obtain ⟨md, em⟩ : ∃ x, D.md = x := ⟨_, rfl⟩
        obtain ⟨pb, ep⟩ : ∃ x, D.pb = x := ⟨_, rfl⟩
        obtain ⟨ev, ee⟩ : ∃ x, D.ev = x := ⟨_, rfl⟩
        obtain ⟨ls, el⟩ : ∃ x, D.ls = x := ⟨_, rfl⟩
        obtain ⟨vl, evl⟩ : ∃ x, D.vs.length = x := ⟨_, rfl⟩
        rw [en] at x2 n4 ⊢
        rw [eh] at x5 b1 HCN
        rw [em] at x6 b2 HMD
        rw [ep] at x7 b3 HCN HMD sl
        rw [ee] at x8 b4 sl
        rw [el] at x9 b5 HMD
        rw [evl] at x10 sl
        have EVL := hidQ evl
        have w1 : IntKind.i64.wrap ((hh : Int) + (pb : Int)) = (hh : Int) + (pb : Int) := by simp only [IntKind.wrap_i64]; omega
        have w2 : IntKind.i64.wrap ((pb : Int) + (ls : Int)) = (pb : Int) + (ls : Int) := by simp only [IntKind.wrap_i64]; omega
        have w3 : IntKind.i64.wrap ((pb : Int) - (ev : Int)) = (vl : Int) := by simp only [IntKind.wrap_i64]; omega
        have VL5 := hidQ (show vl ≤ 1000000 by omega)
        have SLQ := hidQ sl
        clear fw hK en eh em ep ee el evl hlt htT hbr sl
        go_upto_region 27 with fail
        go_cut [162] (fun cv wz => cv = .bool false ∧ wr = wz)
        case first =>
         cases hdn : D.dn with
         | true =>
           rw [hdn] at y1
           have e1 : (hh : Int) + (pb : Int) = (K : Int) := by have := HCN.out hdn; omega
           have e2 : (pb : Int) + (ls : Int) = (md : Int) := by have := HMD.out hdn; omega
           have w1 : IntKind.i64.wrap ((hh : Int) + (pb : Int)) = (K : Int) := by rw [w1, e1]
           have w2 : IntKind.i64.wrap ((pb : Int) + (ls : Int)) = (md : Int) := by rw [w2, e2]
           clear e1 e2 hdn
           go_wp2_with fail
           go_meet
           exact ⟨rfl, rfl⟩
         | false =>
           rw [hdn] at y1
           by_cases e2 : (md : Int) = (pb : Int) + (ls : Int)
           · have w2 : IntKind.i64.wrap ((pb : Int) + (ls : Int)) = (md : Int) := by rw [w2, ← e2]
             clear e2 hdn
             go_wp2_with fail
             go_meet
             exact ⟨rfl, rfl⟩
           · have e3 : ((md : Int) == (pb : Int) + (ls : Int)) = false := by simpa using e2
             clear hdn
             go_wp2_with fail
             go_meet
             exact ⟨rfl, rfl⟩
        case rest =>
         rename World => wz
         obtain ⟨rfl, rfl⟩ := hcut
         go_wp2_with fail
         go_loopw [16, 175] (fun lv iv wq => ∃ i : Nat, i ≤ vl ∧ iv = .int .i64 (i : Int) ∧ lv = .int .i64 (laF b.toNat D.vs i) ∧ Below u4.heap.size u4 wq) (fun _ iv _ => vl - (intOf iv).toNat)
         case atStart => exact ⟨0, by omega, rfl, rfl, HB.out⟩
         case round =>
          rename World => wq
          obtain ⟨i, hiv, rfl, rfl, hbq⟩ := hrel
          clear x2 x5 x6 x7 x8 x9 x10 y1 w1 w2 w3
          have HBQ := hidQ hbq
          by_cases hi : i < vl
          · have hi' : (i : Int) < (vl : Int) := by omega
            have hi2 : i < D.vs.length := by rw [EVL.out]; exact hi
            obtain ⟨g8, f8, rfl, l8, c8⟩ := FWU.out.rr.s (by omega)
            have told := FCC.out.told _ (vs_mem hi2)
            have inc := laF_lt FCC.out.inc hi2
            have LA1 := hidQ (show laF b.toNat D.vs (i + 1) = (((D.vs.getD i (0, 0, (0, 0), false)).1 * b.toNat + (D.vs.getD i (0, 0, (0, 0), false)).2.1 : Nat) : Int) from rfl)
            rw [LA1.out] at inc
            obtain ⟨la, hla⟩ : ∃ x, laF b.toNat D.vs i = x := ⟨_, rfl⟩
            rw [hla] at inc ⊢
            have d0 := (hbq.cell (p := ⟨g8, f8 + (i * 5), none⟩) l8).trans (c8 (i * 5) (by omega))
            have d1 := (hbq.cell (p := ⟨g8, f8 + (i * 5 + 1), none⟩) l8).trans (c8 (i * 5 + 1) (by omega))
            have d2 := (hbq.cell (p := ⟨g8, f8 + (i * 5 + 2), none⟩) l8).trans (c8 (i * 5 + 2) (by omega))
            have d3 := (hbq.cell (p := ⟨g8, f8 + (i * 5 + 3), none⟩) l8).trans (c8 (i * 5 + 3) (by omega))
            have d4 := (hbq.cell (p := ⟨g8, f8 + (i * 5 + 4), none⟩) l8).trans (c8 (i * 5 + 4) (by omega))
            rw [vf0] at d0
            rw [vf1, ← Nat.add_assoc] at d1
            rw [vf2, ← Nat.add_assoc] at d2
            rw [vf3, ← Nat.add_assoc] at d3
            rw [vf4, ← Nat.add_assoc] at d4
            obtain ⟨x, hx⟩ : ∃ x, D.vs.getD i (0, 0, (0, 0), false) = x := ⟨_, rfl⟩
            simp only [hx] at told inc LA1 d0 d1 d2 d3 d4
            obtain ⟨p1, p2, ⟨k1, k2⟩, mk⟩ := x
            dsimp only at told inc LA1 d0 d1 d2 d3 d4
            obtain ⟨q1, q2, q3, q4, t', i', ht', hi3, hk⟩ := told
            have ASK := hidQ (show askT tasks (k1, k2) D.T = true from askT_of (by rw [FCC.out.T]; exact ht') hi3 hk)
            have cfg := FCC.out.cfg
            have kSh := hidQ (fun v : World => show Calls Try.prog 9 #[.agg #[.int .i64 a, .int .i64 b], .agg #[.int .i64 k1, .int .i64 k2]] v fun r w' => r = .returned (.int .i64 (p1 : Int)) ∧ Below v.heap.size v w' from by
             have := ishard_any a b k1 k2 v
             rw [if_pos ⟨cfg, q4⟩, q3] at this
             exact this)
            obtain ⟨cf1, cf2, cf3, cf4⟩ := cfg
            obtain ⟨m, A, hA, wm, wa, j1, j2, j3⟩ := fc_at cf3 cf4 q1 q2 inc
            have LA1 := hidQ (LA1.out.trans (congrArg (fun x : Nat => (x : Int)) hA))
            have f9 := wrapN (x := i) (Nat.le_trans hiv VL5.out)
            obtain ⟨z0, hz0⟩ : ∃ u, u = wq.alloc (.cells #[.int .i64 (p1 : Int), .int .i64 (p2 : Int), .int .i64 k1, .int .i64 k2, .bool mk] 38) := ⟨_, rfl⟩
            have bz : Below wq.heap.size wq z0 := by rw [hz0]; exact (Below.refl _ _).alloc (Nat.le_refl _) _
            have cz : Cls z0 wq.heap.size #[.int .i64 (p1 : Int), .int .i64 (p2 : Int), .int .i64 k1, .int .i64 k2, .bool mk] 38 := by rw [hz0]; exact Cls.new _ _ _
            have BZ := hidQ (keepC1 hbq bz)
            have CZ := hidQ cz
            clear c8 l8 hx q1 q2 q3 q4 ht' hi3 hk cf1 cf2 cf3 cf4 hA inc hla bz cz hbq hi2
            go_upto_region 36 with fail
            rw [← hz0]
            clear hz0 d0 d1 d2 d3 d4
            go_wp2_with fail
            go_loopw [19, 181] (fun av jv wp => ∃ t : Nat, t ≤ D.T ∧ jv = .int .i64 (t : Int) ∧ av = .bool (askT tasks (k1, k2) t) ∧ Below z0.heap.size z0 wp) (fun _ jv _ => D.T - (intOf jv).toNat)
            case atStart => exact ⟨0, by omega, rfl, rfl, Below.refl _ _⟩
            case round =>
             rename World => wp
             obtain ⟨t, htT, rfl, rfl, hbp⟩ := hrel
             have HBP := hidQ hbp
             by_cases hlt : t < D.T
             · have hlt' : (t : Int) < (D.T : Int) := by omega
               obtain ⟨g7, f7, rfl, lk, ck⟩ := FWU.out.tk.s (by rw [← FCC.out.T]; omega)
               have htl : t < tasks.length := by rw [← FCC.out.T]; exact hlt
               have c7 := ((keepC1 BZ.out hbp).cell (p := ⟨g7, f7 + t, none⟩) lk).trans (ck t htl)
               have TKK := hidQ (FWU.out.tk.k t htl)
               have lf := FCC.out.len60 t
               rw [FCC.out.len t] at lf
               have AT1 := hidQ (show askT tasks (k1, k2) (t + 1) = (askT tasks (k1, k2) t || askI (tasks.getD t []) (k1, k2) (Q.lenAt tasks t)) from rfl)
               obtain ⟨ln, hln⟩ : ∃ x, Q.lenAt tasks t = x := ⟨_, rfl⟩
               dsimp only at c7
               rw [hln] at c7 lf
               have q9 := TKK.out
               rw [hln] at q9
               have TKK := hidQ q9
               clear q9
               have q9 := AT1.out
               rw [hln] at q9
               have AT1 := hidQ q9
               clear q9
               obtain ⟨aT, haT⟩ : ∃ x, askT tasks (k1, k2) t = x := ⟨_, rfl⟩
               have q9 := AT1.out
               rw [haT] at q9
               have AT1 := hidQ q9
               clear q9
               rw [haT]
               have f7' : IntKind.i64.wrap ((t : Int) + 1) = (t : Int) + 1 := by simp only [IntKind.wrap_i64]; omega
               clear ck lk htl hln haT hbp
               go_wp2_with fail
               go_loopw [19, 187] (fun av jv wx => ∃ j : Nat, j ≤ ln ∧ jv = .int .i64 (j : Int) ∧ av = .bool (aT || askI (tasks.getD t []) (k1, k2) j) ∧ Below z0.heap.size z0 wx) (fun _ jv _ => ln - (intOf jv).toNat)
               case atStart => exact ⟨0, by omega, rfl, by simp [askI], HBP.out⟩
               case round =>
                rename World => wx
                obtain ⟨j, hjl, rfl, rfl, hbx⟩ := hrel
                have HBX := hidQ hbx
                clear c7
                by_cases hj : j < ln
                · have hj' : (j : Int) < (ln : Int) := by omega
                  obtain ⟨g2, f2, e2, l2, c2⟩ := TKK.out (by omega)
                  have d0 := ((keepC1 BZ.out hbx).cell (p := ⟨g2, f2 + (j * 2), none⟩) l2).trans (c2 (j * 2) (by omega))
                  have d1 := ((keepC1 BZ.out hbx).cell (p := ⟨g2, f2 + (j * 2 + 1), none⟩) l2).trans (c2 (j * 2 + 1) (by omega))
                  rw [kf0] at d0
                  rw [kf1, ← Nat.add_assoc] at d1
                  have AI1 := hidQ (show askI (tasks.getD t []) (k1, k2) (j + 1) = (askI (tasks.getD t []) (k1, k2) j || decide (Q.keyAt tasks t j = (k1, k2))) from rfl)
                  obtain ⟨kk, hkk⟩ : ∃ x, Q.keyAt tasks t j = x := ⟨_, rfl⟩
                  rw [hkk] at d0 d1
                  have q9 := AI1.out
                  rw [hkk] at q9
                  have AI1 := hidQ q9
                  clear q9
                  obtain ⟨y1, y2⟩ := kk
                  dsimp only at d0 d1
                  have f10 : IntKind.i64.wrap ((j : Int) + 1) = (j : Int) + 1 := by simp only [IntKind.wrap_i64]; omega
                  obtain ⟨V, hV⟩ : ∃ u, u = wx.alloc (.cells #[.int .i64 y1, .int .i64 y2] 36) := ⟨_, rfl⟩
                  have bV : Below wx.heap.size wx V := by rw [hV]; exact (Below.refl _ _).alloc (Nat.le_refl _) _
                  have cV : Cls V wx.heap.size #[.int .i64 y1, .int .i64 y2] 36 := by rw [hV]; exact Cls.new _ _ _
                  have BV := hidQ (keepC1 hbx bV)
                  have r0 := cV.cell 0 rfl; have r1 := cV.cell 1 rfl
                  have r2 := ((CZ.out.below hbx).below bV).cell 2 rfl; have r3 := ((CZ.out.below hbx).below bV).cell 3 rfl
                  rw [e2]
                  clear c2 l2 hkk bV cV hbx e2
                  go_upto_region 42 with fail
                  rw [← hV]
                  clear hV d0 d1
                  obtain ⟨aI, haI⟩ : ∃ x, (aT || askI (tasks.getD t []) (k1, k2) j) = x := ⟨_, rfl⟩
                  have AI2 := hidQ (show (aT || askI (tasks.getD t []) (k1, k2) (j + 1)) = (aI || decide ((y1, y2) = (k1, k2))) from by rw [AI1.out, ← Bool.or_assoc, haI])
                  rw [haI]
                  clear haI AI1
                  cases aI with
                  | true =>
                    go_wp2_with fail
                    go_roundw
                    case rel => exact ⟨j + 1, by omega, by simp, by rw [AI2.out]; simp, BV.out⟩
                    case measure => simp [intOf]; omega
                  | false =>
                    by_cases e1 : y1 = k1
                    · by_cases e2 : y2 = k2
                      · have b1 : (y1 == k1) = true := by simpa using e1
                        have b2 : (y2 == k2) = true := by simpa using e2
                        have E := hidQ (show decide ((y1, y2) = (k1, k2)) = true by rw [e1, e2]; simp)
                        clear e1 e2
                        go_wp2_with fail
                        go_roundw
                        case rel => exact ⟨j + 1, by omega, by simp, by rw [AI2.out, E.out]; simp, BV.out⟩
                        case measure => simp [intOf]; omega
                      · have b1 : (y1 == k1) = true := by simpa using e1
                        have b2 : (y2 == k2) = false := by simpa using e2
                        have E := hidQ (show decide ((y1, y2) = (k1, k2)) = false by simp; intro _; exact e2)
                        clear e1 e2
                        go_wp2_with fail
                        go_roundw
                        case rel => exact ⟨j + 1, by omega, by simp, by rw [AI2.out, E.out]; simp, BV.out⟩
                        case measure => simp [intOf]; omega
                    · have b1 : (y1 == k1) = false := by simpa using e1
                      have E := hidQ (show decide ((y1, y2) = (k1, k2)) = false by simp; intro h; exact absurd h e1)
                      clear e1
                      go_wp2_with fail
                      go_roundw
                      case rel => exact ⟨j + 1, by omega, by simp, by rw [AI2.out, E.out]; simp, BV.out⟩
                      case measure => simp [intOf]; omega
                · have ej : j = ln := by omega
                  subst ej
                  clear hbx
                  go_wp2_with fail
                  go_roundw
                  case rel => exact ⟨t + 1, by omega, by simp, by rw [AT1.out], HBX.out⟩
                  case measure => simp [intOf]; omega
             · have et : t = D.T := by omega
               subst et
               rw [ASK.out]
               have bp := keepC1 BZ.out hbp
               have n0 := (FWU.out.below bp).c6.cell 0 rfl
               have n1 := (FWU.out.below bp).c6.cell 1 rfl
               have m0 := (CZ.out.below hbp).cell 0 rfl
               have m1 := (CZ.out.below hbp).cell 1 rfl
               have A0 : Below wp.heap.size wp wp.drew := (Below.refl _ _).drew
               have KB : ∀ u : World, Below wp.heap.size wp u → (fun u : World => u.cell? ⟨v2.heap.size, 0, none⟩ = some (.int .i64 a) ∧ u.cell? ⟨v2.heap.size, 1, none⟩ = some (.int .i64 b) ∧ u.cell? ⟨wq.heap.size, 0, none⟩ = some (.int .i64 (p1 : Int)) ∧ u.cell? ⟨wq.heap.size, 1, none⟩ = some (.int .i64 (p2 : Int)) ∧ u.cell? ⟨wq.heap.size, 2, none⟩ = some (.int .i64 k1) ∧ u.cell? ⟨wq.heap.size, 3, none⟩ = some (.int .i64 k2)) u := fun u bb => ⟨(FWU.out.below (keepC1 bp bb)).c6.cell 0 rfl, (FWU.out.below (keepC1 bp bb)).c6.cell 1 rfl, ((CZ.out.below hbp).below bb).cell 0 rfl, ((CZ.out.below hbp).below bb).cell 1 rfl, ((CZ.out.below hbp).below bb).cell 2 rfl, ((CZ.out.below hbp).below bb).cell 3 rfl⟩
               have HBP2 := hidQ bp
               clear bp hbp
               go_upto_region 46 with fail
               first | (go_region_held3 (fun u : World => u.cell? ⟨v2.heap.size, 0, none⟩ = some (.int .i64 a) ∧ u.cell? ⟨v2.heap.size, 1, none⟩ = some (.int .i64 b) ∧ u.cell? ⟨wq.heap.size, 0, none⟩ = some (.int .i64 (p1 : Int)) ∧ u.cell? ⟨wq.heap.size, 1, none⟩ = some (.int .i64 (p2 : Int)) ∧ u.cell? ⟨wq.heap.size, 2, none⟩ = some (.int .i64 k1) ∧ u.cell? ⟨wq.heap.size, 3, none⟩ = some (.int .i64 k2)) (first | with_reducible exact KB _ A0 | with_reducible exact KB _ B1)
                (first | (go_at_call 9; refine (kSh.out _).mono ?_; rintro e u1 ⟨rfl, hb1⟩; have B1 := keepC1 A0 hb1; clear hb1))) | fail
               go_wp2_with fail
               go_roundw
               case rel => exact ⟨i + 1, by omega, by simp, by rw [LA1.out], keepC1 HBP2.out B1⟩
               case measure => simp [intOf]; omega
          · have ei : i = vl := by omega
            subst ei
            clear hbq
            go_wp2_with fail
            go_ret
            exact ⟨rfl, keepC1 B4.out HBQ.out⟩
 · have f20 : (1048576 : Int) < (n : Int) := by omega
   clear hs
   go_enter Try.func3, Try.ntmps3
   go_wp2_with fail
   go_ret
   exact ⟨rfl, Below.refl _ _⟩

end Go.Proofs.Ytdpbhbpcpnlbkaa
