import Derived.Test.YtdpbhbpcpnlbkaaaCs2
import Derived.Test.YtdpbhbpcpnlbkaaaCaQ
set_option maxHeartbeats 4000000
namespace Go.Proofs.Ytdpbhbpcpnlbkaa
open Go.RowKit Go.Maps
set_option linter.unusedVariables false
set_option maxRecDepth 100000
theorem vw_n {S k : Nat} {c : Q.Cch} (h : (c.sl (k / S) (k % S)).key = none) : Q.vws S c (k + 1) = Q.vws S c k := by
 rw [Q.vws_succ]; unfold Q.vw; rw [h]; simp

theorem vw_y {S k : Nat} {c : Q.Cch} {kk : Int × Int} (h : (c.sl (k / S) (k % S)).key = some kk) : Q.vws S c (k + 1) = Q.vws S c k ++ [(k / S, k % S, kk, (c.sl (k / S) (k % S)).mark)] := by
 rw [Q.vws_succ]; unfold Q.vw; rw [h]

theorem sview_any {w : World} {L : SB} {R : SR} {c : Q.Cch} (d : SD L) (si : SI w L R) (sc : SC L R c) :
 Calls Try.prog 37 #[.pointer (some ⟨L.qb, 0, none⟩)] w fun e w' => ∃ v, e = .returned v ∧ OwV w' w.heap.size v (Q.vws L.S c (L.N * L.S)) ∧ Below w.heap.size w w' := by
 have dN := d.N; have dS := d.S
 have c2 := (si.q.cell 2 (by omega)).trans (congrArg some sc.q2)
 have lqb := si.q.lt
 have Q1 := hidQ (fun (v : World) (hv : Below w.heap.size w v) => (hv.cell (p := ⟨L.qb, 1, none⟩) lqb).trans ((si.q.cell 1 (by omega)).trans (congrArg some sc.q1)))
 have hMl : L.N * L.S ≤ 1024 := Nat.mul_le_mul dN.2 dS.2
 have S0 := hidQ (fun (v : World) (hv : Below w.heap.size w v) p (hp : p < L.N * L.S) => show v.cell? ⟨L.sb, p * 5, none⟩ = some (.bool (c.sl (p / L.S) (p % L.S)).key.isSome) ∧ v.cell? ⟨L.sb, p * 5 + 1, none⟩ = some (.int .i64 (kOf (c.sl (p / L.S) (p % L.S)).key).1) ∧ v.cell? ⟨L.sb, p * 5 + 2, none⟩ = some (.int .i64 (kOf (c.sl (p / L.S) (p % L.S)).key).2) ∧ v.cell? ⟨L.sb, p * 5 + 3, none⟩ = some (.bool (c.sl (p / L.S) (p % L.S)).mark) ∧ v.cell? ⟨L.sb, p * 5 + 4, none⟩ = some (.int .i64 (c.sl (p / L.S) (p % L.S)).stamp) from by
  have h1 : p / L.S < L.N := Nat.div_lt_of_lt_mul (by rw [Nat.mul_comm]; exact hp)
  have h2 : p % L.S < L.S := Nat.mod_lt _ dS.1
  have sl := sc.s (p / L.S) (p % L.S) h1 h2
  have e : p / L.S * L.S + p % L.S = p := by rw [Nat.mul_comm]; exact Nat.div_add_mod p L.S
  rw [e] at sl
  have cc := fun o ho => (hv.cell (p := ⟨L.sb, o, none⟩) si.s.lt).trans (si.s.cell o ho)
  exact ⟨(cc _ (by omega)).trans (congrArg some sl.a0), (cc _ (by omega)).trans (congrArg some sl.a1), (cc _ (by omega)).trans (congrArg some sl.a2), (cc _ (by omega)).trans (congrArg some sl.a3), (cc _ (by omega)).trans (congrArg some sl.a4)⟩)
 clear si sc d
 obtain ⟨qb, hqb⟩ : ∃ qb, L.qb = qb := ⟨_, rfl⟩
 obtain ⟨sb, hsb⟩ : ∃ sb, L.sb = sb := ⟨_, rfl⟩
 obtain ⟨M, hM⟩ : ∃ M, L.N * L.S = M := ⟨_, rfl⟩
 obtain ⟨S, hS⟩ : ∃ S, L.S = S := ⟨_, rfl⟩
 rw [hM] at S0 hMl c2 ⊢
 rw [hS] at dS Q1 S0 ⊢
 rw [hqb] at c2 Q1 lqb ⊢
 rw [hsb] at c2 S0
 clear hM hS hqb hsb dN
 have f5 : ¬ (S : Int) = 0 := by omega
 have f5a : ((S : Int) == 0) = false := by simp only [beq_eq_false_iff_ne]; exact f5
 have f5b : decide ((S : Int) = 0) = false := decide_eq_false f5
 have f5c : ¬ S = 0 := by omega
 go_enter Try.func37, Try.ntmps37
 go_wp2_with fail
 go_loopw [3, 11] (fun v i wr => ∃ k : Nat, k ≤ M ∧ i = .int .i64 k ∧ OwV wr w.heap.size v (Q.vws S c k) ∧ Below w.heap.size w wr) (fun _ i _ => M - (intOf i).toNat)
 case atStart => exact ⟨0, by omega, rfl, World.ownsRow_nil _ _ _ _, Below.refl _ _⟩
 case round =>
  obtain ⟨k, hk, rfl, hv, hb0⟩ := hrel
  obtain ⟨ra, rc, rfl⟩ := own_any hv
  have HV := hidQ hv
  have HB := hidQ hb0
  by_cases hlt : k < M
  · obtain ⟨g0, g1, g2, g3, g4⟩ := S0.out wr hb0 k hlt
    have f1 : IntKind.i64.wrap ((k : Int) + 1) = (k : Int) + 1 := by simp only [IntKind.wrap_i64]; omega
    have vno := hidQ (fun h => vw_n (S := S) (k := k) (c := c) h)
    have vyes := hidQ (fun kk h => vw_y (S := S) (k := k) (c := c) (kk := kk) h)
    have vlen := Q.vws_len S c k
    clear hv hb0
    generalize hks2 : (c.sl (k / S) (k % S)).key = ky at g0 g1 g2 vno vyes
    generalize (c.sl (k / S) (k % S)).mark = mk at g3 vyes
    generalize (c.sl (k / S) (k % S)).stamp = st at g4
    clear hks2
    cases ky with
    | none =>
      have vno' := hidQ (vno.out rfl)
      simp only [kOf, Option.isSome_none] at g0 g1 g2
      go_wp2_with fail
      go_roundw
      case rel => exact ⟨k + 1, by omega, by simp, by rw [vno'.out]; exact OwV.below HV.out ((Below.refl _ _).alloc (Nat.le_refl _) _), HB.out.alloc HB.out.size _⟩
      case measure => simp [intOf]; omega
    | some kk =>
      have vyes' := hidQ (vyes.out kk rfl)
      simp only [kOf, Option.isSome_some] at g0 g1 g2
      obtain ⟨qd, hqd⟩ : ∃ qd, k / S = qd := ⟨_, rfl⟩
      obtain ⟨rm, hrm⟩ : ∃ rm, k % S = rm := ⟨_, rfl⟩
      have d1 : (k : Int) / (S : Int) = (qd : Int) := by rw [← hqd]; simp
      have d2 : (k : Int) % (S : Int) = (rm : Int) := by rw [← hrm]; simp
      have d1a : Int.tdiv (k : Int) (S : Int) = (qd : Int) := by rw [Int.tdiv_eq_ediv_of_nonneg (by omega)]; exact d1
      have d2a : Int.tmod (k : Int) (S : Int) = (rm : Int) := by rw [Int.tmod_eq_emod_of_nonneg (by omega)]; exact d2
      have d3 : qd ≤ k := by rw [← hqd]; exact Nat.div_le_self _ _
      have d1b : IntKind.i64.wrap (qd : Int) = (qd : Int) := by simp only [IntKind.wrap_i64]; omega
      rw [hqd, hrm] at vyes'
      clear hqd hrm
      go_upto_region 6 with fail
      obtain ⟨U, hU⟩ : ∃ U, U = wr.alloc (.cells #[.bool true, .int .i64 kk.1, .int .i64 kk.2, .bool mk, .int .i64 (st : Int)] 123) := ⟨_, rfl⟩
      have bU : Below wr.heap.size wr U := by rw [hU]; exact (Below.refl _ _).alloc (Nat.le_refl _) _
      have cU : Cls U wr.heap.size #[.bool true, .int .i64 kk.1, .int .i64 kk.2, .bool mk, .int .i64 (st : Int)] 123 := by rw [hU]; exact Cls.new wr _ _
      have sU : wr.heap.size < U.heap.size := cU.lt
      have wU : Below w.heap.size w U := HB.out.trans (bU.mono HB.out.size)
      have vU : OwV U w.heap.size (.slice ra (Q.vws S c k).length rc) (Q.vws S c k) := OwV.below HV.out bU
      rw [← hU]
      clear hU g0 g1 g2 g3 g4 bU
      have A0 : Below U.heap.size U U.drew := (Below.refl _ _).drew
      have KB : ∀ u, Below U.heap.size U u → (fun u : World => u.cell? ⟨wr.heap.size, 1, none⟩ = some (.int .i64 kk.1) ∧ u.cell? ⟨wr.heap.size, 2, none⟩ = some (.int .i64 kk.2) ∧ u.cell? ⟨wr.heap.size, 3, none⟩ = some (.bool mk) ∧ u.cell? ⟨qb, 1, none⟩ = some (.int .i64 (S : Int))) u := fun u b => ⟨(cU.below b).cell 1 rfl, (cU.below b).cell 2 rfl, (cU.below b).cell 3 rfl, Q1.out u (wU.trans (b.mono wU.size))⟩
      have OA : ∀ (o : Obj), (U.drew.alloc o).ownsRow w.heap.size 38 5 (.slice ra (Q.vws S c k).length rc) (Q.vws S c k).length (VL (Q.vws S c k)) := fun o => OwV.below vU (A0.alloc A0.size o)
      have OA' : ∀ (o : Obj), (U.alloc o).drew.ownsRow w.heap.size 38 5 (.slice ra (Q.vws S c k).length rc) (Q.vws S c k).length (VL (Q.vws S c k)) := fun o => OwV.below vU ((Below.refl _ _).alloc (Nat.le_refl _) o).drew
      have A2 : ∀ o : Obj, Below U.heap.size U (U.alloc o).drew := fun o => ((Below.refl _ _).alloc (Nat.le_refl _) o).drew
      have SZ : ∀ (o : Obj), w.heap.size ≤ (U.alloc o).drew.heap.size := fun o => Nat.le_trans wU.size ((Below.refl _ _).alloc (Nat.le_refl _) o).drew.size
      have vlt : ∀ g, Value.ownBlock (.slice ra (Q.vws S c k).length rc) = some g → g < wr.heap.size ∧ w.heap.size ≤ g := fun g e => own_lt HV.out e
      have hvl : (Q.vws S c k).length < 1000000 := by omega
      have KC : ∀ (o : Obj) (w1 : World), Tn (fun k' => Value.ownBlock (.slice ra (Q.vws S c k).length rc) = some k') (U.alloc o).drew w1 → (fun u : World => u.cell? ⟨wr.heap.size, 1, none⟩ = some (.int .i64 kk.1) ∧ u.cell? ⟨wr.heap.size, 2, none⟩ = some (.int .i64 kk.2) ∧ u.cell? ⟨wr.heap.size, 3, none⟩ = some (.bool mk) ∧ u.cell? ⟨qb, 1, none⟩ = some (.int .i64 (S : Int))) w1 := fun o w1 t => by
       have b2 : Below U.heap.size U (U.alloc o).drew := ((Below.refl _ _).alloc (Nat.le_refl _) o).drew
       have hs := Nat.lt_of_lt_of_le sU b2.size
       have hn : ¬ Value.ownBlock (.slice ra (Q.vws S c k).length rc) = some wr.heap.size := fun e => by have := (vlt _ e).1; omega
       have hn2 : ¬ Value.ownBlock (.slice ra (Q.vws S c k).length rc) = some qb := fun e => by have := (vlt _ e).2; omega
       have kk2 := KB _ b2
       exact ⟨(t.cell 1 hs hn).trans kk2.1, (t.cell 2 hs hn).trans kk2.2.1, (t.cell 3 hs hn).trans kk2.2.2.1, (t.cell 1 (by have := wU.size; have := b2.size; omega) hn2).trans kk2.2.2.2⟩
      go_region_held3 (fun u : World => u.cell? ⟨wr.heap.size, 1, none⟩ = some (.int .i64 kk.1) ∧ u.cell? ⟨wr.heap.size, 2, none⟩ = some (.int .i64 kk.2) ∧ u.cell? ⟨wr.heap.size, 3, none⟩ = some (.bool mk) ∧ u.cell? ⟨qb, 1, none⟩ = some (.int .i64 (S : Int))) (first | with_reducible exact KB _ A0 | with_reducible exact KB _ (A2 _) | with_reducible exact KC _ _ t1)
       (first
         | (refine apV_step rfl _ _ rfl _ w.heap.size (.slice ra (Q.vws S c k).length rc) (Q.vws S c k) rfl (by with_reducible exact OA' _) U.heap.size 1 rfl (qd, rm, kk, mk) ?c0 ?c1 ?c2 ?c3 ?c4 hvl (by with_reducible exact SZ _) ?_; (case c0 => simp [go_sem]); (case c1 => simp [go_sem]); (case c2 => simp [go_sem]); (case c3 => simp [go_sem]); (case c4 => simp [go_sem]); intro g cap w1 own1 t1 at1 lt1))
      go_wp2_with fail
      go_roundw
      case rel =>
       have wu2 : Below w.heap.size w (U.alloc (.cells #[.int .i64 (qd : Int), .int .i64 (rm : Int), .int .i64 kk.1, .int .i64 kk.2, .bool mk] 38)).drew := (wU.alloc wU.size _).drew
       refine ⟨k + 1, by omega, by simp, ?_, wu2.trans (t1.under _ wu2.size (fun g e => (vlt g e).2))⟩
       rw [vyes'.out]
       exact own1
      case measure => simp [intOf]; omega
  · have hkn : k = M := by omega
    subst hkn
    clear hv hb0
    go_wp2_with fail
    go_ret
    exact ⟨_, rfl, HV.out, HB.out⟩

end Go.Proofs.Ytdpbhbpcpnlbkaa
