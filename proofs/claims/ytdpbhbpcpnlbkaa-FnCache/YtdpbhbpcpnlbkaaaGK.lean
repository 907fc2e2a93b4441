import Derived.Test.YtdpbhbpcpnlbkaaaGJ
set_option maxHeartbeats 2000000
namespace Go.Proofs.Ytdpbhbpcpnlbkaa
open Go.RowKit Go.Maps
set_option linter.unusedVariables false
set_option maxRecDepth 100000
def pv (m : Nat) (c : Int) : Int := if m = 0 then c % 3 else if m = 1 then c - 128 else c

def pc (n : Nat) (f : Nat → Nat) (k j i : Nat) : Int := if n ≤ ad n i then ((k * j : Nat) : Int) + ((j / 3 : Nat) : Int) else (nx n f i : Int)

def pkL (n : Nat) (f : Nat → Nat) (k i0 : Nat) : Nat → List Int × Nat
 | 0 => ([], i0)
 | j + 1 => ((pkL n f k i0 j).1 ++ [pv (k % 4) (pc n f k j (pkL n f k i0 j).2)], ad n (pkL n f k i0 j).2)

def pkN (k y : Nat) : Nat := if 250 ≤ k then 19999 + k % 3 else y % 50

def pkF (n : Nat) (f : Nat → Nat) (i : Nat) : List Int × Nat := pkL n f (nx n f i) (ad n (ad n i)) (pkN (nx n f i) (nx n f (ad n i)))

theorem pkL_len (n : Nat) (f : Nat → Nat) (k i0 j : Nat) : (pkL n f k i0 j).1.length = j := by
 induction j with
 | zero => rfl
 | succ j ih => simp [pkL, ih]

theorem rx_own {w u w1 : World} {x : Value} {g : Nat} {ao : Option Addr} {n c : Nat} {f : Nat → Nat} {i : Nat} (t1 : Tn (fun k => x.ownBlock = some k) u w1) (hx : ∀ k, x.ownBlock = some k → w.heap.size ≤ k) (R : Rx u g ao n c f i) (T : Tn (fun b => b = g) w u) (hg : g < w.heap.size) : Rx w1 g ao n c f i ∧ Tn (fun b => b = g) w w1 := by
 refine ⟨{ R with r := (t1.block g R.r.lt (fun e => by have := hx g e; omega)).trans R.r, s := R.s.tn t1 (fun h0 b off e e2 => by have := R.ne h0 b off e; have := hx b e2; omega) }, ?_⟩
 exact ⟨t1.os.trans T.os, t1.tape.trans T.tape, t1.output.trans T.output, Nat.le_trans T.size t1.size, fun k' hk' hn => (t1.block k' (Nat.lt_of_lt_of_le hk' T.size) (fun e => by have := hx k' e; omega)).trans (T.block k' hk' hn)⟩

theorem picks_draw {w : World} {g : Nat} {ao : Option Addr} {n c : Nat} {f : Nat → Nat} {i : Nat} (h : Rx w g ao n c f i) :
 Calls Try.prog 24 #[.pointer (some ⟨g, 0, none⟩)] w fun e w' => ∃ x, e = .returned x ∧ w'.ownsRow w.heap.size 3 1 x (pkF n f i).1.length ((pkF n f i).1.map fun z => .int .i64 z) ∧ Rx w' g ao n c f (pkF n f i).2 ∧ Tn (fun b => b = g) w w' := by
 have hg := h.r.lt
 have hf := hidQ h.f
 have kN := hidQ (next_any h)
 have hk := nx_lt h.f (n := n) i
 have hy := nx_lt h.f (n := n) (ad n i)
 obtain ⟨E0, he⟩ := elI
 have HE := hidQ he
 clear he
 obtain ⟨F, hF⟩ : ∃ F, pkF n f i = F := ⟨_, rfl⟩
 rw [hF]
 unfold pkF at hF
 obtain ⟨k, hkk⟩ : ∃ k, nx n f i = k := ⟨_, rfl⟩
 obtain ⟨y, hyy⟩ : ∃ k, nx n f (ad n i) = k := ⟨_, rfl⟩
 rw [hkk] at kN hk hF
 rw [hyy] at hy hF
 have HY := hidQ hyy
 obtain ⟨N, hN⟩ : ∃ N, pkN k y = N := ⟨_, rfl⟩
 rw [hN] at hF
 unfold pkN at hN
 have HF := hidQ hF
 obtain ⟨a3, h3⟩ : ∃ a, k % 3 = a := ⟨_, rfl⟩
 obtain ⟨y5, h5⟩ : ∃ a, y % 50 = a := ⟨_, rfl⟩
 obtain ⟨m, hm⟩ : ∃ a, k % 4 = a := ⟨_, rfl⟩
 have i3 : (k : Int) % 3 = (a3 : Int) := by rw [← h3]; simp
 have i5 : (y : Int) % 50 = (y5 : Int) := by rw [← h5]; simp
 have im : (k : Int) % 4 = (m : Int) := by rw [← hm]; simp
 have w1 : IntKind.i64.wrap (19999 + (a3 : Int)) = 19999 + (a3 : Int) := by simp only [IntKind.wrap_i64]; omega
 have hNb : N ≤ 20001 := by rw [h3, h5] at hN; split at hN <;> omega
 have HN := hidQ (by rw [h3, h5] at hN; exact hN)
 have HM := hidQ hm
 clear h hkk hyy hF hN h3 h5 hm
 go_enter Try.func24, Try.ntmps24
 go_wp2_with fail
 refine kN.out.mono ?_
 rintro e v ⟨rfl, hr, ht⟩
 have HT := hidQ ht
 have kN2 := hidQ (by have := next_any hr; rwa [HY.out] at this)
 clear hr ht
 go_wp2_with fail
 refine kN2.out.mono ?_
 rintro e v2 ⟨rfl, hr, ht⟩
 have HR2 := hidQ hr; have HT2 := hidQ (HT.out.trans ht)
 clear hr ht
 go_upto_if 14 with fail
 go_cut [4] (fun q wr => q = .int .i64 (N : Int) ∧ v2 = wr)
 case first =>
  by_cases c1 : 250 ≤ k
  · have c1' : (250 : Int) ≤ (k : Int) := by omega
    have eN : N = 19999 + a3 := by have := HN.out; rw [if_pos c1] at this; exact this.symm
    have eI := hidQ (show (N : Int) = 19999 + (a3 : Int) by omega)
    clear eN
    go_wp2_with fail
    go_meet
    rw [eI.out]
    exact ⟨rfl, rfl⟩
  · have c1' : ¬ (250 : Int) ≤ (k : Int) := by omega
    have eN : N = y5 := by have := HN.out; rw [if_neg c1] at this; exact this.symm
    subst eN
    go_wp2_with fail
    go_meet
    exact ⟨rfl, rfl⟩
 case rest =>
  rename World => wr0
  obtain ⟨rfl, rfl⟩ := hcut
  clear kN kN2
  go_wp2_with fail
  go_loopw [5, 6, 7] (fun o jj _ wr => ∃ j : Nat, j ≤ N ∧ jj = .int .i64 (j : Int) ∧ wr.ownsRow w.heap.size 3 1 o j ((pkL n f k (ad n (ad n i)) j).1.map fun z => .int .i64 z) ∧ Rx wr g ao n c f (pkL n f k (ad n (ad n i)) j).2 ∧ Tn (fun b => b = g) w wr) (fun _ jj _ _ => N - (intOf jj).toNat)
  case atStart => exact ⟨0, by omega, rfl, World.ownsRow_nil _ _ _ _, HR2.out, HT2.out⟩
  case round =>
   rename World => wr
   obtain ⟨j, hj, rfl, hown, hr, ht⟩ := hrel
   obtain ⟨ra, rc, rfl⟩ := own_any hown
   have HO := hidQ hown; have HR := hidQ hr; have HT := hidQ ht
   by_cases hlt : j < N
   · obtain ⟨q, hq⟩ : ∃ q, (pkL n f k (ad n (ad n i)) j).2 = q := ⟨_, rfl⟩
     rw [hq] at hr
     have kq := next_any hr
     have KQ := hidQ kq
     have LE := hidQ (show pkL n f k (ad n (ad n i)) (j + 1) = ((pkL n f k (ad n (ad n i)) j).1 ++ [pv m (pc n f k j q)], ad n q) from by rw [pkL, hq, HM.out])
     have HQ := hidQ hq
     have hx := nx_lt hf.out (n := n) q
     clear hown hr ht kq hq
     go_wp2_with fail
     refine KQ.out.mono ?_
     rintro e u ⟨rfl, hr, ht⟩
     have HU := hidQ (HT.out.trans ht); have HRU := hidQ hr
     have HOU := hidQ (own_tn HO.out ht (fun b e e2 => by have := (own_lt HO.out e).2; omega))
     have c0 := hr.r.cell 0 rfl; have c1 := hr.r.cell 1 rfl; have z := hr.r.frozen
     have hn := hr.n; have qn := hr.i
     have HPC := hidQ (show pc n f k j q = if n ≤ ad n q then ((k * j : Nat) : Int) + ((j / 3 : Nat) : Int) else (nx n f q : Int) from rfl)
     obtain ⟨x, hxx⟩ : ∃ x, nx n f q = x := ⟨_, rfl⟩
     obtain ⟨p, hp⟩ : ∃ p, k * j = p := ⟨_, rfl⟩
     obtain ⟨d, hd⟩ : ∃ d, j / 3 = d := ⟨_, rfl⟩
     have PC := hidQ (by have := HPC.out; rwa [hxx, hp, hd] at this)
     have ip : (k : Int) * (j : Int) = (p : Int) := by rw [← hp]; simp
     have id' : (j : Int) / 3 = (d : Int) := by rw [← hd]; simp
     have hpb : p ≤ 256 * 20001 := by rw [← hp]; exact Nat.mul_le_mul (by omega) (by omega)
     have wp : IntKind.i64.wrap (p : Int) = (p : Int) := by simp only [IntKind.wrap_i64]; omega
     obtain ⟨s, hs⟩ : ∃ s, p + d = s := ⟨_, rfl⟩
     have is' : (p : Int) + (d : Int) = (s : Int) := by omega
     have ws : IntKind.i64.wrap (s : Int) = (s : Int) := by simp only [IntKind.wrap_i64]; omega
     have wj : IntKind.i64.wrap ((j : Int) + 1) = (j : Int) + 1 := by simp only [IntKind.wrap_i64]; omega
     have wx : IntKind.i64.wrap ((x : Int) - 128) = (x : Int) - 128 := by rw [hxx] at hx; simp only [IntKind.wrap_i64]; omega
     have wz : IntKind.i64.wrap ((s : Int) - 128) = (s : Int) - 128 := by simp only [IntKind.wrap_i64]; omega
     rw [hxx]
     clear hr ht HPC hp hd hs hxx KQ
     by_cases late : n ≤ ad n q
     · have late' : (n : Int) ≤ (ad n q : Int) := by omega
       by_cases m0 : m = 0
       · subst m0
         go_wp2_with fail
         go_quiet (fail)
         have QZ := Qt.drewN u nq
         generalize u.drewN nq = Z at QZ ⊢
         have rZ := HRU.out.below (QZ.below _)
         have tZ := HU.out.trans (Tn.qt _ QZ)
         have oZ := own_tn HOU.out (Tn.qt (fun _ => False) QZ) (fun _ _ e => e)
         have bZ : Below Z.heap.size Z (Z.alloc (.cells #[.int .i64 ((s : Int) % 3)] 3)) := (Below.refl _ _).alloc (Nat.le_refl _) _
         have OA := hidQ (own_tn oZ (Tn.below (fun _ => False) bZ) (fun _ _ e => e))
         have RA := hidQ (rZ.below bZ)
         have TA := hidQ (tZ.trans (Tn.below _ bZ))
         clear rZ tZ oZ bZ
         go_wp2_with (at_builtin; refine ap_list HE.out rfl _ _ rfl _ w.heap.size (.slice ra j rc) j ((pkL n f k (ad n (ad n i)) j).1.map fun z => .int .i64 z) rfl OA.out Z.heap.size 1 rfl (.int .i64 ((s : Int) % 3)) ?c1 ?c2 ?c3 ?c4 ?_)
         case c1 => simp [go_sem]
         case c2 => rfl
         case c3 => omega
         case c4 => exact TA.out.size
         intro g1 cap w1 own1 t1 at1 lt1
         obtain ⟨R1, T1⟩ := rx_own t1 (fun b e => (own_lt OA.out e).2) RA.out TA.out hg
         have HR1 := hidQ R1; have HT1 := hidQ T1; have HO1 := hidQ own1
         clear R1 T1 own1 t1
         go_wp2_with fail
         go_roundw
         case rel =>
          refine ⟨j + 1, by omega, by simp, ?_, ?_, HT1.out⟩
          · rw [LE.out, show pv _ (pc n f k j q) = ((s : Int) % 3) from by rw [PC.out, if_pos late, is']; rfl]
            rw [List.map_append]
            exact HO1.out
          · rw [LE.out]
            exact HR1.out
         case measure => simp [intOf]; omega
       have g0 : ¬ (m : Int) = 0 := by omega
       by_cases m1 : m = 1
       · subst m1
         go_wp2_with fail
         go_quiet (fail)
         have QZ := Qt.drewN u nq
         generalize u.drewN nq = Z at QZ ⊢
         have rZ := HRU.out.below (QZ.below _)
         have tZ := HU.out.trans (Tn.qt _ QZ)
         have oZ := own_tn HOU.out (Tn.qt (fun _ => False) QZ) (fun _ _ e => e)
         have bZ : Below Z.heap.size Z (Z.alloc (.cells #[.int .i64 ((s : Int) - 128)] 3)) := (Below.refl _ _).alloc (Nat.le_refl _) _
         have OA := hidQ (own_tn oZ (Tn.below (fun _ => False) bZ) (fun _ _ e => e))
         have RA := hidQ (rZ.below bZ)
         have TA := hidQ (tZ.trans (Tn.below _ bZ))
         clear rZ tZ oZ bZ
         go_wp2_with (at_builtin; refine ap_list HE.out rfl _ _ rfl _ w.heap.size (.slice ra j rc) j ((pkL n f k (ad n (ad n i)) j).1.map fun z => .int .i64 z) rfl OA.out Z.heap.size 1 rfl (.int .i64 ((s : Int) - 128)) ?c1 ?c2 ?c3 ?c4 ?_)
         case c1 => simp [go_sem]
         case c2 => rfl
         case c3 => omega
         case c4 => exact TA.out.size
         intro g1 cap w1 own1 t1 at1 lt1
         obtain ⟨R1, T1⟩ := rx_own t1 (fun b e => (own_lt OA.out e).2) RA.out TA.out hg
         have HR1 := hidQ R1; have HT1 := hidQ T1; have HO1 := hidQ own1
         clear R1 T1 own1 t1
         go_wp2_with fail
         go_roundw
         case rel =>
          refine ⟨j + 1, by omega, by simp, ?_, ?_, HT1.out⟩
          · rw [LE.out, show pv _ (pc n f k j q) = ((s : Int) - 128) from by rw [PC.out, if_pos late, is']; rfl]
            rw [List.map_append]
            exact HO1.out
          · rw [LE.out]
            exact HR1.out
         case measure => simp [intOf]; omega
       have g1 : ¬ (m : Int) = 1 := by omega
       go_wp2_with fail
       go_quiet (fail)
       have QZ := Qt.drewN u nq
       generalize u.drewN nq = Z at QZ ⊢
       have rZ := HRU.out.below (QZ.below _)
       have tZ := HU.out.trans (Tn.qt _ QZ)
       have oZ := own_tn HOU.out (Tn.qt (fun _ => False) QZ) (fun _ _ e => e)
       have bZ : Below Z.heap.size Z (Z.alloc (.cells #[.int .i64 (s : Int)] 3)) := (Below.refl _ _).alloc (Nat.le_refl _) _
       have OA := hidQ (own_tn oZ (Tn.below (fun _ => False) bZ) (fun _ _ e => e))
       have RA := hidQ (rZ.below bZ)
       have TA := hidQ (tZ.trans (Tn.below _ bZ))
       clear rZ tZ oZ bZ
       go_wp2_with (at_builtin; refine ap_list HE.out rfl _ _ rfl _ w.heap.size (.slice ra j rc) j ((pkL n f k (ad n (ad n i)) j).1.map fun z => .int .i64 z) rfl OA.out Z.heap.size 1 rfl (.int .i64 (s : Int)) ?c1 ?c2 ?c3 ?c4 ?_)
       case c1 => simp [go_sem]
       case c2 => rfl
       case c3 => omega
       case c4 => exact TA.out.size
       intro g1 cap w1 own1 t1 at1 lt1
       obtain ⟨R1, T1⟩ := rx_own t1 (fun b e => (own_lt OA.out e).2) RA.out TA.out hg
       have HR1 := hidQ R1; have HT1 := hidQ T1; have HO1 := hidQ own1
       clear R1 T1 own1 t1
       go_wp2_with fail
       go_roundw
       case rel =>
        refine ⟨j + 1, by omega, by simp, ?_, ?_, HT1.out⟩
        · rw [LE.out, show pv _ (pc n f k j q) = (s : Int) from by rw [PC.out, if_pos late, is']; unfold pv; rw [if_neg m0, if_neg m1]]
          rw [List.map_append]
          exact HO1.out
        · rw [LE.out]
          exact HR1.out
       case measure => simp [intOf]; omega
     · have late' : ¬ (n : Int) ≤ (ad n q : Int) := by omega
       by_cases m0 : m = 0
       · subst m0
         go_wp2_with fail
         go_quiet (fail)
         have QZ := Qt.drewN u nq
         generalize u.drewN nq = Z at QZ ⊢
         have rZ := HRU.out.below (QZ.below _)
         have tZ := HU.out.trans (Tn.qt _ QZ)
         have oZ := own_tn HOU.out (Tn.qt (fun _ => False) QZ) (fun _ _ e => e)
         have bZ : Below Z.heap.size Z (Z.alloc (.cells #[.int .i64 ((x : Int) % 3)] 3)) := (Below.refl _ _).alloc (Nat.le_refl _) _
         have OA := hidQ (own_tn oZ (Tn.below (fun _ => False) bZ) (fun _ _ e => e))
         have RA := hidQ (rZ.below bZ)
         have TA := hidQ (tZ.trans (Tn.below _ bZ))
         clear rZ tZ oZ bZ
         go_wp2_with (at_builtin; refine ap_list HE.out rfl _ _ rfl _ w.heap.size (.slice ra j rc) j ((pkL n f k (ad n (ad n i)) j).1.map fun z => .int .i64 z) rfl OA.out Z.heap.size 1 rfl (.int .i64 ((x : Int) % 3)) ?c1 ?c2 ?c3 ?c4 ?_)
         case c1 => simp [go_sem]
         case c2 => rfl
         case c3 => omega
         case c4 => exact TA.out.size
         intro g1 cap w1 own1 t1 at1 lt1
         obtain ⟨R1, T1⟩ := rx_own t1 (fun b e => (own_lt OA.out e).2) RA.out TA.out hg
         have HR1 := hidQ R1; have HT1 := hidQ T1; have HO1 := hidQ own1
         clear R1 T1 own1 t1
         go_wp2_with fail
         go_roundw
         case rel =>
          refine ⟨j + 1, by omega, by simp, ?_, ?_, HT1.out⟩
          · rw [LE.out, show pv _ (pc n f k j q) = ((x : Int) % 3) from by rw [PC.out, if_neg late]; rfl]
            rw [List.map_append]
            exact HO1.out
          · rw [LE.out]
            exact HR1.out
         case measure => simp [intOf]; omega
       have g0 : ¬ (m : Int) = 0 := by omega
       by_cases m1 : m = 1
       · subst m1
         go_wp2_with fail
         go_quiet (fail)
         have QZ := Qt.drewN u nq
         generalize u.drewN nq = Z at QZ ⊢
         have rZ := HRU.out.below (QZ.below _)
         have tZ := HU.out.trans (Tn.qt _ QZ)
         have oZ := own_tn HOU.out (Tn.qt (fun _ => False) QZ) (fun _ _ e => e)
         have bZ : Below Z.heap.size Z (Z.alloc (.cells #[.int .i64 ((x : Int) - 128)] 3)) := (Below.refl _ _).alloc (Nat.le_refl _) _
         have OA := hidQ (own_tn oZ (Tn.below (fun _ => False) bZ) (fun _ _ e => e))
         have RA := hidQ (rZ.below bZ)
         have TA := hidQ (tZ.trans (Tn.below _ bZ))
         clear rZ tZ oZ bZ
         go_wp2_with (at_builtin; refine ap_list HE.out rfl _ _ rfl _ w.heap.size (.slice ra j rc) j ((pkL n f k (ad n (ad n i)) j).1.map fun z => .int .i64 z) rfl OA.out Z.heap.size 1 rfl (.int .i64 ((x : Int) - 128)) ?c1 ?c2 ?c3 ?c4 ?_)
         case c1 => simp [go_sem]
         case c2 => rfl
         case c3 => omega
         case c4 => exact TA.out.size
         intro g1 cap w1 own1 t1 at1 lt1
         obtain ⟨R1, T1⟩ := rx_own t1 (fun b e => (own_lt OA.out e).2) RA.out TA.out hg
         have HR1 := hidQ R1; have HT1 := hidQ T1; have HO1 := hidQ own1
         clear R1 T1 own1 t1
         go_wp2_with fail
         go_roundw
         case rel =>
          refine ⟨j + 1, by omega, by simp, ?_, ?_, HT1.out⟩
          · rw [LE.out, show pv _ (pc n f k j q) = ((x : Int) - 128) from by rw [PC.out, if_neg late]; rfl]
            rw [List.map_append]
            exact HO1.out
          · rw [LE.out]
            exact HR1.out
         case measure => simp [intOf]; omega
       have g1 : ¬ (m : Int) = 1 := by omega
       go_wp2_with fail
       go_quiet (fail)
       have QZ := Qt.drewN u nq
       generalize u.drewN nq = Z at QZ ⊢
       have rZ := HRU.out.below (QZ.below _)
       have tZ := HU.out.trans (Tn.qt _ QZ)
       have oZ := own_tn HOU.out (Tn.qt (fun _ => False) QZ) (fun _ _ e => e)
       have bZ : Below Z.heap.size Z (Z.alloc (.cells #[.int .i64 (x : Int)] 3)) := (Below.refl _ _).alloc (Nat.le_refl _) _
       have OA := hidQ (own_tn oZ (Tn.below (fun _ => False) bZ) (fun _ _ e => e))
       have RA := hidQ (rZ.below bZ)
       have TA := hidQ (tZ.trans (Tn.below _ bZ))
       clear rZ tZ oZ bZ
       go_wp2_with (at_builtin; refine ap_list HE.out rfl _ _ rfl _ w.heap.size (.slice ra j rc) j ((pkL n f k (ad n (ad n i)) j).1.map fun z => .int .i64 z) rfl OA.out Z.heap.size 1 rfl (.int .i64 (x : Int)) ?c1 ?c2 ?c3 ?c4 ?_)
       case c1 => simp [go_sem]
       case c2 => rfl
       case c3 => omega
       case c4 => exact TA.out.size
       intro g1 cap w1 own1 t1 at1 lt1
       obtain ⟨R1, T1⟩ := rx_own t1 (fun b e => (own_lt OA.out e).2) RA.out TA.out hg
       have HR1 := hidQ R1; have HT1 := hidQ T1; have HO1 := hidQ own1
       clear R1 T1 own1 t1
       go_wp2_with fail
       go_roundw
       case rel =>
        refine ⟨j + 1, by omega, by simp, ?_, ?_, HT1.out⟩
        · rw [LE.out, show pv _ (pc n f k j q) = (x : Int) from by rw [PC.out, if_neg late]; unfold pv; rw [if_neg m0, if_neg m1]]
          rw [List.map_append]
          exact HO1.out
        · rw [LE.out]
          exact HR1.out
       case measure => simp [intOf]; omega
   · have e : j = N := by omega
     subst e
     go_wp2_with fail
     go_ret
     rw [← HF.out, pkL_len]
     exact ⟨_, rfl, HO.out, HR.out, HT.out⟩

def kyL (n : Nat) (f : Nat → Nat) (i0 : Nat) : Nat → List (Int × Int) × Nat
 | 0 => ([], i0)
 | j + 1 => ((kyL n f i0 j).1 ++ [(keF n f (kyL n f i0 j).2).1], (keF n f (kyL n f i0 j).2).2)

def tkF (n : Nat) (f : Nat → Nat) (k i : Nat) : List (Int × Int) × Nat :=
 if 248 ≤ k then kyL n f (ad n (ad n i)) (59 + nx n f (ad n i) % 3) else kyL n f (ad n i) (nx n f i % 9)

def tkL (n : Nat) (f : Nat → Nat) (k i0 : Nat) : Nat → List (List (Int × Int)) × Nat
 | 0 => ([], i0)
 | t + 1 => ((tkL n f k i0 t).1 ++ [(tkF n f k (tkL n f k i0 t).2).1], (tkF n f k (tkL n f k i0 t).2).2)

def exL (ts : List (List (Int × Int))) : Nat → List (List (Int × Int))
 | 0 => ts
 | m + 1 => exL ts m ++ [[(((ts.length + m : Nat) : Int), 64)]]

def tsF (n : Nat) (f : Nat → Nat) (k i : Nat) : List (List (Int × Int)) :=
 if k % 32 = 31 then exL (tkL n f k i (k % 5)).1 (8 + k / 128 - k % 5) else (tkL n f k i (k % 5)).1

def drF (n : Nat) (f : Nat → Nat) : (Int × Int) × List (List (Int × Int)) × List Int :=
 (cfF (nx n f 0), tsF n f (nx n f (ad n 0)) (ad n (ad n 0)), (pkF n f (tkL n f (nx n f (ad n 0)) (ad n (ad n 0)) (nx n f (ad n 0) % 5)).2).1)

theorem kyL_len (n : Nat) (f : Nat → Nat) (i j : Nat) : (kyL n f i j).1.length = j := by
 induction j with
 | zero => rfl
 | succ j ih => simp [kyL, ih]

theorem tkL_len (n : Nat) (f : Nat → Nat) (k i j : Nat) : (tkL n f k i j).1.length = j := by
 induction j with
 | zero => rfl
 | succ j ih => simp [tkL, ih]

theorem exL_len (ts : List (List (Int × Int))) (m : Nat) : (exL ts m).length = ts.length + m := by
 induction m with
 | zero => rfl
 | succ m ih => simp [exL, ih]; omega

def encKy (x : Int × Int) : List Value := [.int .i64 x.1, .int .i64 x.2]

def KyL (ks : List (Int × Int)) : List Value := ks.flatMap encKy

theorem KyL_app (a b : List (Int × Int)) : KyL (a ++ b) = KyL a ++ KyL b := by simp [KyL]

theorem infoKy : (Try.prog.info? 36).map (fun i => (i.zero, i.size, i.bytes)) = some (some (.agg #[.int .i64 0, .int .i64 0]), 2, 16) := by kernel_rfl

theorem infoKys : (Try.prog.info? 34).map (fun i => (i.zero, i.size, i.bytes)) = some (some (.slice none 0 0), 1, 24) := by kernel_rfl

theorem elKs : ∃ i, El1 25 34 i (.slice none 0 0) := by
 obtain ⟨i, hi, hz0, hz1, hz2⟩ := info_parts infoKys
 exact ⟨i, Try.underlying25, hi, hz0, hz1, by omega, rfl⟩

theorem apK_list {ops : Array Oper} {rest : List Oper} {o : Oper} {a : Act} {Q : Exit → Act → World → Prop} (hgd : o.guard = none) (s x : Operand)
 (ho : o.op = .call { callee := .builtin .append, args := #[s, x], argTypes := #[34, 34] }) (w : World) (base : Nat) (v : Value) (ks : List (Int × Int)) (hs : a.eval s = v) (hown : w.ownsRow base 36 2 v ks.length (KyL ks)) (b c : Nat) (hx : a.eval x = .slice (some ⟨b, 0, none⟩) 1 c) (y : Int × Int) (y0 : w.cell? ⟨b, 0, none⟩ = some (.int .i64 y.1)) (y1 : w.cell? ⟨b, 1, none⟩ = some (.int .i64 y.2)) (hn : ks.length < 1000000) (hbase : base ≤ w.heap.size)
 (h : ∀ g cap w', w'.ownsRow base 36 2 (.slice (some ⟨g, 0, none⟩) (ks.length + 1) cap) (ks ++ [y]).length (KyL (ks ++ [y])) → Tn (fun k => v.ownBlock = some k) w w' → (v.ownBlock = some g ∨ g = w.heap.size) → g < w'.heap.size → wpList Try.prog ops Q rest (a.put o.dst (.slice (some ⟨g, 0, none⟩) (ks.length + 1) cap)) w') : wpList Try.prog ops Q (o :: rest) a w := by
 obtain ⟨i, hi, hz0, hz1, hz2⟩ := info_parts infoKy
 refine wpList_append_own_at w hgd s x 34 ho base 36 i _ 2 16 Try.underlying34 hi hz0 hz1 hz2 rfl (by decide) v ks.length (KyL ks) hs hown ⟨b, 0, none⟩ 1 c (encKy y) hx rfl ?_ (by simp [encKy, Value.oneCell']) (by unfold maxLen; omega) (by omega) hbase ?_
 · intro j u hj
   rw [Addr.add_lit, Nat.zero_add]
   match j, hj with
   | 0, hj => simp [encKy] at hj; subst hj; exact y0
   | 1, hj => simp [encKy] at hj; subst hj; exact y1
 · intro v' w' own gr _ hat
   obtain ⟨g, cap, rfl, hg, -⟩ := own_form own
   refine h g cap w' ?_ (Tn.grown _ gr (fun k e => e)) ?_ hg
   · rw [KyL_app, List.length_append]
     have : KyL [y] = encKy y := by simp [KyL]
     rw [this]
     exact own
   · rcases hat with e | e
     · exact .inl (by rw [← e]; rfl)
     · simp [Value.ownBlock] at e; exact .inr e

structure KR (w : World) (base : Nat) (tv : Value) (tasks : List (List (Int × Int))) (rv : Nat → Value) : Prop where
 own : w.ownsRow base 34 1 tv tasks.length ((List.range tasks.length).map rv)
 keys : ∀ t, t < tasks.length → w.ownsRow base 36 2 (rv t) (tasks.getD t []).length (KyL (tasks.getD t []))

theorem KR.nil (w : World) (base : Nat) : KR w base (.slice none 0 0) [] (fun _ => .slice none 0 0) := ⟨World.ownsRow_nil _ _ _ _, fun t ht => by cases ht⟩

theorem KR.tn {p : Nat → Prop} {w v : World} {base : Nat} {tv : Value} {tasks : List (List (Int × Int))} {rv : Nat → Value} (h : KR w base tv tasks rv) (t : Tn p w v) (hn : ∀ b, base ≤ b → b < w.heap.size → ¬ p b) : KR v base tv tasks rv :=
 ⟨own_tn h.own t (fun g e => hn g (own_lt h.own e).2 (own_lt h.own e).1), fun k hk => own_tn (h.keys k hk) t (fun g e => hn g (own_lt (h.keys k hk) e).2 (own_lt (h.keys k hk) e).1)⟩

theorem KR.below {w v : World} {base : Nat} {tv : Value} {tasks : List (List (Int × Int))} {rv : Nat → Value} (h : KR w base tv tasks rv) (b : Below w.heap.size w v) : KR v base tv tasks rv :=
 h.tn (Tn.below (fun _ => False) b) (fun _ _ _ e => e)

theorem KR.push {u w1 : World} {base : Nat} {tv x row : Value} {tasks : List (List (Int × Int))} {rv : Nat → Value} {ks : List (Int × Int)} (h : KR u base tv tasks rv) (hr : u.ownsRow base 36 2 row ks.length (KyL ks)) (t : Tn (fun k => tv.ownBlock = some k) u w1) (own : w1.ownsRow base 34 1 x (tasks.length + 1) ((List.range tasks.length).map rv ++ [row])) :
 KR w1 base x (tasks ++ [ks]) (fun k => if k = tasks.length then row else rv k) := by
 refine ⟨?_, fun k hk => ?_⟩
 · rw [List.length_append, List.length_singleton, List.range_succ, List.map_append]
   have e : (List.range tasks.length).map (fun k => if k = tasks.length then row else rv k) = (List.range tasks.length).map rv := List.map_congr_left (fun k hk => by rw [if_neg]; have := List.mem_range.1 hk; omega)
   rw [e]
   simpa using own
 · by_cases e : k = tasks.length
   · subst e
     have : (tasks ++ [ks]).getD tasks.length [] = ks := by simp
     rw [this, if_pos rfl]
     exact own_tn hr t (fun g e e2 => own_ne hr h.own (by decide) e e2)
   · have hk' : k < tasks.length := by simp at hk; omega
     have : (tasks ++ [ks]).getD k [] = tasks.getD k [] := by simp [List.getElem?_append_left hk']
     rw [this, if_neg e]
     exact own_tn (h.keys k hk') t (fun g e e2 => own_ne (h.keys k hk') h.own (by decide) e e2)

end Go.Proofs.Ytdpbhbpcpnlbkaa
