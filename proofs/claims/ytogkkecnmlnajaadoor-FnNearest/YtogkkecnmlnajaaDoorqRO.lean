import Derived.Test.YtogkkecnmlnajaaDoorqPB
import Derived.Test.YtogkkecnmlnajaaDoorqBnA
import Derived.Test.YtogkkecnmlnajaaDoorqBQ
import Derived.Test.YtogkkecnmlnajaaDoorqRJ
set_option maxHeartbeats 8000000
set_option maxRecDepth 100000
namespace Go.Proofs.YtogkkecnmlnajaaDoor
open Go.RowKit
set_option linter.unusedVariables false
set_option maxRecDepth 100000
theorem two_new (w : World) (t : TypeId) (x y : Value) : (w.alloc (.cells #[x, y] t)).cell? ⟨w.heap.size, 0, none⟩ = some x ∧ (w.alloc (.cells #[x, y] t)).cell? ⟨w.heap.size, 1, none⟩ = some y ∧ (w.alloc (.cells #[x, y] t)).frozen? ⟨w.heap.size, 0, none⟩ = false ∧ (w.alloc (.cells #[x, y] t)).frozen? ⟨w.heap.size, 1, none⟩ = false := by
 simp [go_sem]

theorem copy_arr (dT sT t : TypeId) (hu : Tryd.prog.underlying dT = some (.slice 26)) (w1 : World) (g dn dc : Nat) (zs : List Value) (hg : w1.heap[g]? = some (.cells zs.toArray t (0, 0)))
 (ao : Option Addr) (ys : List Nat) (sn sc : Nat) (hy : ys.length = sn) (hr : Rd w1 ao ys) (h1 : sn ≤ dn) (h2 : sn ≤ zs.length) :
 ∃ w2, (Builtin.copy_ #[dT, sT] 3 #[.slice (some ⟨g, 0, none⟩) dn dc, .slice ao sn sc]).run Tryd.prog w1 = .ok (.int .i64 (sn : Int)) w2 ∧
   w2.heap[g]? = some (.cells (U ys ++ zs.drop sn).toArray t (0, 0)) ∧ w1.grownBy w2 (some g) := by
 have hs : (Tryd.prog.info? 26).map (·.size) = some 1 := by
  obtain ⟨i0, hi, hz0, hz1, hz2⟩ := info_parts Tryd.infoU
  rw [hi]; simp [hz1]
 by_cases h0 : sn = 0
 · subst h0
   have : ys = [] := List.eq_nil_of_length_eq_zero hy
   subst this
   refine ⟨w1, run_copy_none w1 dT sT 3 26 _ ao dn dc 0 sc hu hs (by simp), ?_, World.grownBy.refl _ _⟩
   simpa [U] using hg
 · obtain ⟨b, off, rfl, hc⟩ := hr (by omega)
   have hl : (U ys).length = sn := by rw [U_length, hy]
   have e := run_copy_row (P := Tryd.prog) w1 dT sT 3 26 g 0 dn dc ⟨b, off, none⟩ sn sc zs.toArray t (U ys) hu hs hg (by rw [hl]; show sn = min sn dn; omega) (Rd.cellAdd (ao := none) hc) (by simp [hl]; omega) (U_one ys)
   rw [hl] at e
   refine ⟨_, e, ?_, ?_⟩
   · rw [setRow_heap w1 g _ _ _ _ hg]; simp
   · exact ⟨rfl, rfl, rfl, by simp, fun k _ hk => setRow_other w1 g k _ (fun e => hk (by simp [e]))⟩

theorem L_get2 (a k : Nat) : (L a).getD k 0 = a / 18446744073709551616 ^ k % 18446744073709551616 := M.dig_get (by omega) k a

theorem lay2 (a : Nat) (h : (L a).length ≤ 2) (ha : a < 2 ^ 128) : U (L a) ++ (U [0, 0]).drop (L a).length = U [M.loN a, M.hiN a] := by
 have e2 : L a ++ [0, 0].drop (L a).length = [M.loN a, M.hiN a] := by
  have h0 := L_get2 a 0
  have h1 := L_get2 a 1
  have hh := M.hiLt ha
  have hlo : M.loN a = a % 18446744073709551616 := rfl
  have hhi : M.hiN a = a / 18446744073709551616 := rfl
  match hL : L a, h with
  | [], _ =>
    rw [hL] at h0 h1
    simp at h0 h1 ⊢
    exact ⟨by omega, by omega⟩
  | [x], _ =>
    rw [hL] at h0 h1
    simp at h0 h1 ⊢
    exact ⟨by omega, by omega⟩
  | [x, y], _ =>
    rw [hL] at h0 h1
    simp at h0 h1 ⊢
    exact ⟨by omega, by omega⟩
 rw [← e2, U_append]
 simp [U]

theorem cell_arr {w : World} {g x y : Nat} {t : TypeId} (h : w.heap[g]? = some (.cells (U [x, y]).toArray t (0, 0))) : w.cell? ⟨g, 0, none⟩ = some (.int .u64 (x : Int)) ∧ w.cell? ⟨g, 1, none⟩ = some (.int .u64 (y : Int)) := by
 simp [World.cell?, h, U]

theorem wordOf_any (ao : Option Addr) (n c a : Nat) (w : World) (hl : (L a).length = n) (ha : a < 2 ^ 128) (hr : Rd w ao (L a)) :
 Calls Tryd.prog 77 #[.slice ao n c] w fun e w' => e = .returned (.agg #[.int .u64 (M.hiN a : Int), .int .u64 (M.loN a : Int)]) ∧ Below w.heap.size w w' := by
 have hn : n ≤ 2 := by rw [← hl]; exact M.len_of_lt (by omega) a 2 (by omega)
 have b0 : Below w.heap.size w ((w.alloc (.cells #[.int .u64 0, .int .u64 0] 28)).alloc (.cells #[.int .u64 0, .int .u64 0] 103)) := ((Below.refl _ _).alloc (Nat.le_refl _) _).alloc (by simp) _
 have HG : ((w.alloc (.cells #[.int .u64 0, .int .u64 0] 28)).alloc (.cells #[.int .u64 0, .int .u64 0] 103)).heap[w.heap.size + 1]? = some (.cells (U [0, 0]).toArray 103 (0, 0)) := by
  have := heap_alloc_new (w.alloc (.cells #[.int .u64 0, .int .u64 0] 28)) (.cells #[.int .u64 0, .int .u64 0] 103)
  simpa [U] using this
 obtain ⟨w2, hcp, hg2, hgr2⟩ := copy_arr 23 60 103 Tryd.underlying23 _ (w.heap.size + 1) 2 2 (U [0, 0]) HG ao (L a) n c hl (hr.below b0) hn (by simp [U]; exact hn)
 rw [← hl, lay2 a (by omega) ha] at hg2
 obtain ⟨q0, q1⟩ := cell_arr hg2
 obtain ⟨t0, t1, t2, t3⟩ := two_new w 28 (.int .u64 0) (.int .u64 0)
 have ba : Below (w.alloc (.cells #[.int .u64 0, .int .u64 0] 28)).heap.size (w.alloc (.cells #[.int .u64 0, .int .u64 0] 28)) w2 := ((Below.refl _ _).alloc (Nat.le_refl _) _).grown hgr2 (by simp) (fun k hk => by cases hk; simp)
 have bb : Below w.heap.size w w2 := ((Below.refl w.heap.size w).alloc (Nat.le_refl _) _).trans (ba.mono (by simp))
 have r0 := (ba.cell (p := ⟨w.heap.size, 0, none⟩) (by simp)).trans t0
 have r1 := (ba.cell (p := ⟨w.heap.size, 1, none⟩) (by simp)).trans t1
 have z0 := (ba.frozen (p := ⟨w.heap.size, 0, none⟩) (by simp)).trans t2
 have z1 := (ba.frozen (p := ⟨w.heap.size, 1, none⟩) (by simp)).trans t3
 clear t0 t1 t2 t3 ba HG hgr2 hg2 hl
 go_enter Tryd.func77, Tryd.ntmps77
 go_wp2_with fail
 exact bodyPost_ret (v := .agg #[.int .u64 (M.hiN a : Int), .int .u64 (M.loN a : Int)]) (by simp [results, Tryd.results77, go_sem, r0, r1]) rfl ⟨rfl, (bb.setCell (p := ⟨w.heap.size, 0, none⟩) (Nat.le_refl _) _).setCell (p := ⟨w.heap.size, 1, none⟩) (Nat.le_refl _) _⟩

def rY (F : M.Fm) (ng : Bool) (N De : Nat) : Nat := if N = 0 then F.pk ⟨1, ng, 0, 0⟩ else F.pk (F.rPt ng N De)

def rF (F : M.Fm) (N De : Nat) : Int := if N = 0 then 0 else F.rFl N De 2 1

def rv (F : M.Fm) (ng : Bool) (N De : Nat) : Value := .agg #[.int .u64 (M.hiN (rY F ng N De) : Int), .int .u64 (M.loN (rY F ng N De) : Int), .int .i64 (rF F N De), .bool true]

theorem blen_of_L (N K : Nat) (h : (L N).length ≤ K) : blen N ≤ 64 * K := by
 refine blen_le_of N _ ?_
 have := L_lt N K h
 rwa [show (18446744073709551616 : Nat) = 2 ^ 64 by rfl, ← Nat.pow_mul] at this

theorem rPt_n (F : M.Fm) (ng : Bool) (N De : Nat) : (F.rPt ng N De).n = ng := by
 unfold M.Fm.rPt; split
 · rfl
 · split
   · rfl
   · split <;> rfl

theorem iround_pos (F : M.Fm) (h : F.Ok) (ng : Bool) (a b : Option Addr) (c d N De : Nat) (w : World) (hN : 0 < N) (hd : 0 < De) (lN : (L N).length ≤ 1201) (lD : (L De).length ≤ 1201) (ra : Rd w a (L N)) (rb : Rd w b (L De)) :
 Calls Tryd.prog 34 #[dv F, .bool ng, .slice a (L N).length c, .slice b (L De).length d] w fun e w' => e = .returned (rv F ng N De) ∧ Below w.heap.size w w' := by
 have p1 := h.p1
 have p2 := h.p2
 have t2 := h.top2
 have bN := blen_of_L N _ lN
 have bD := blen_of_L De _ lD
 have e1 := M.rE_le N De (by omega) (by omega)
 obtain ⟨q1, q2, q3, q4, q5⟩ := h.rQ_le N De (by omega) (by omega)
 obtain ⟨m1, m2, m3⟩ := h.rS_ok N De hN hd
 have m4 := h.rS_le N De hN hd
 have m5 := h.rSig_lt N De hN hd
 have tl := h.two_lead
 have pw : 2 ^ F.p ≤ 2 ^ 113 := Nat.pow_le_pow_right (by omega) p2
 have pp := h.rPt_proper ng N De hN hd
 have hne : (((L N).length : Int) == 0) = false := by
  rw [L_zero_iff]; exact decide_eq_false (by omega)
 have o1 : M.hiN 1 = 0 := by decide
 have o2 : M.loN 1 = 1 := by decide
 have kQ := fun v : World => dQmin F h v
 have kL := fun v : World => dLead F h v
 simp only [dv] at kQ kL ⊢
 unfold rv rY rF
 rw [if_neg (by omega), if_neg (by omega)]
 refine iround_key ng _ _ _ _ _ _ a b c d N De w hne ra rb (F.rN N De) (F.rM N De) (F.rS N De) (F.rSig N De) (F.rQ N De) (F.rExp N De) (F.rPt ng N De).c (F.rPt ng N De).q (F.rFl N De 2 1) (F.rPt ng N De).s (F.pk (F.rPt ng N De)) ?_ ?_ ?_ ?_ ?_
 · -- scale
   intro v g hB ra rb sa sb
   refine iscale_key g _ _ _ _ _ _ a b c d N De 0 0 v hB ra rb sa sb (M.rE N De) F.qmin (F.rQ N De) (by omega) (by omega) (by omega) (by omega) rfl (by omega) (by omega) ?_ kQ ((-(F.rQ N De)).toNat : Int) ((F.rQ N De).toNat : Int) (by omega) (by omega) (F.rN N De) (F.rM N De) ?_ ?_
   · intro v hB ra rb
     refine iexp_key g _ _ _ _ _ _ a b c d N De 0 0 v hB ra rb (blen N) (blen De) (by omega) (by omega) (fun v hr => bitLenN_any a _ c N v rfl (by omega) hr _ rfl) (fun v hr => bitLenN_any b _ d De v rfl (by omega) hr _ rfl) ((blen N : Int) - blen De) ((-((blen N : Int) - blen De)).toNat : Int) (((blen N : Int) - blen De).toNat : Int) rfl (by omega) (by omega)
      (N * 2 ^ (-((blen N : Int) - blen De)).toNat) (De * 2 ^ ((blen N : Int) - blen De).toNat) (fun v hr => shiftLeft_any a _ c _ N v rfl (by omega) (by omega) hr) (fun v hr => shiftLeft_any b _ d _ De v rfl (by omega) (by omega) hr) _
      (fun v ao bo c d hr hr2 => compare_any ao bo _ _ c d _ _ v rfl rfl (Nat.le_trans (len_shiftK N _ 1201 1500 lN (by omega)) (by omega)) (Nat.le_trans (len_shiftK De _ 1201 1500 lD (by omega)) (by omega)) hr hr2) _ ?_
     have e2 := cmpI_lt1 (N * 2 ^ (-((blen N : Int) - blen De)).toNat) (De * 2 ^ ((blen N : Int) - blen De).toNat)
     unfold M.rE
     simp only [decide_eq_decide] at e2
     by_cases hc : M.lt2 N De ((blen N : Int) - blen De)
     · rw [if_pos hc, if_pos (e2.2 hc)]
     · rw [if_neg hc, if_neg (fun k => hc (e2.1 k))]
   · exact fun v hr => shiftLeft_any a _ c _ N v rfl (by omega) (by omega) hr
   · exact fun v hr => shiftLeft_any b _ d _ De v rfl (by omega) (by omega) hr
 · -- nearest
   intro v g a1 c1 a2 c2 hB r1 r2 s1 s2
   have l1 : (L (F.rN N De)).length ≤ 2701 := len_shiftK N _ 1201 1500 lN (by omega)
   have l2 : (L (F.rM N De)).length ≤ 2701 := len_shiftK De _ 1201 1500 lD (by omega)
   have hlt : F.rN N De / F.rM N De < 2 ^ 128 := by omega
   have hrm : F.rN N De % F.rM N De < F.rM N De := Nat.mod_lt _ m1
   have l3 : (L (F.rN N De % F.rM N De)).length ≤ 2701 := by
    rcases Nat.lt_or_ge 2701 (L (F.rN N De % F.rM N De)).length with hh | hh
    · have := M.lt_of_length (B := 18446744073709551616) (by omega) (a := F.rM N De) (b := F.rN N De % F.rM N De) (Nat.lt_of_le_of_lt l2 hh)
      omega
    · exact hh
   have kPl := fun v : World => wplus (F.rN N De / F.rM N De) 1 v hlt (by omega) (F.rN N De / F.rM N De + 1) (by rw [Nat.mod_eq_of_lt]; omega)
   rw [o1, o2] at kPl
   have kSh := fun (v : World) (ao : Option Addr) (cc : Nat) (hr : Rd v ao (L (F.rN N De % F.rM N De))) => shiftLeft_any ao _ cc 1 (F.rN N De % F.rM N De) v rfl (by omega) (by omega) hr
   rw [Nat.pow_one] at kSh
   have l4 : (L (F.rN N De % F.rM N De * 2)).length ≤ 2702 := by
    have := len_shiftK (F.rN N De % F.rM N De) 1 2701 1 l3 (by omega)
    rwa [Nat.pow_one] at this
   exact inear_key g _ _ _ _ _ _ a1 a2 c1 c2 _ _ 0 (F.rQ N De) v hB r1 r2 s1 s2 (F.rN N De / F.rM N De) (F.rN N De % F.rM N De) (fun v hr hr2 => divMod_any a1 a2 _ _ c1 c2 _ _ v rfl rfl m1 (by omega) (by omega) hr hr2) (fun v ao cc hr => wordOf_any ao _ cc _ v rfl hlt hr) kSh
    _ (fun v ao cc hr hr2 => compare_any ao a2 _ _ cc c2 _ _ v rfl rfl (by omega) (by omega) hr hr2) (fun v => even_any _ v) kPl (F.rS N De) (M.rUp_cmp _ _)
 · -- carry
   intro v g a1 n1 c1 a2 n2 c2 hB
   exact icarry_key g _ _ _ _ _ _ a1 a2 n1 c1 n2 c2 (F.rS N De) (F.rQ N De) v hB (2 ^ F.p) F.lead (fun v => wbitAt F.p v (by omega) _ rfl) kL (by omega) (by omega) _ _ rfl rfl
 · -- outcome
   intro v g a1 n1 c1 a2 n2 c2 hB
   have kC := fun (cz : Int) (hcz : cz = M.cmpN (F.rSig N De) F.lead) (v : World) => wcmp (F.rSig N De) F.lead v cz hcz
   have hx : -100000 ≤ F.rExp N De ∧ F.rExp N De ≤ 200000 := by unfold M.Fm.rExp; split <;> omega
   unfold M.Fm.rPt M.Fm.rFl
   by_cases k1 : F.rSig N De = 0
   · rw [if_pos k1, if_pos k1]
     rw [k1] at hB
     have := iout_zero g _ _ _ _ _ _ a1 a2 n1 c1 n2 c2 _ v hB
     simp only [hi0, lo0]
     exact this
   · rw [if_neg k1, if_neg k1]
     by_cases k2 : F.rSig N De < F.lead
     · rw [if_pos k2, if_pos k2]
       have hz : M.cmpN (F.rSig N De) F.lead = -1 := by unfold M.cmpN; rw [if_pos k2]
       exact iout_sub g _ _ _ _ _ _ a1 a2 n1 c1 n2 c2 _ _ v hB k1 F.lead (-1) kL (kC _ hz.symm) (by omega)
     · rw [if_neg k2, if_neg k2]
       have hz : ¬ M.cmpN (F.rSig N De) F.lead < 0 := by
        unfold M.cmpN; rw [if_neg k2]; split <;> omega
       by_cases k3 : (F.emax : Int) < F.rExp N De + F.p - 1
       · rw [if_pos k3, if_pos k3]
         have := iout_inf g _ _ _ _ _ _ a1 a2 n1 c1 n2 c2 _ _ v hB k1 F.lead _ kL (kC _ rfl) hz (by omega) (by omega) (by omega) (by omega) k3
         simp only [hi0, lo0]
         exact this
       · rw [if_neg k3, if_neg k3]
         exact iout_norm g _ _ _ _ _ _ a1 a2 n1 c1 n2 c2 (F.rSig N De) (F.rExp N De) v hB k1 F.lead _ kL (kC _ rfl) hz hx.1 hx.2 (by omega) (by omega) k3
 · -- pack
   intro v
   have hs : (F.rPt ng N De).s < 2 ^ 128 := by
    unfold M.Fm.rPt; split
    · simp only; omega
    · split
      · simp only; omega
      · split <;> simp only <;> omega
   have := dpack F h (F.rPt ng N De).c ng (F.rPt ng N De).s (F.rPt ng N De).q hs v
   have e := pki_pk h (F.rPt ng N De) pp
   rw [rPt_n] at e
   rw [e] at this
   exact this

theorem iround_any (F : M.Fm) (h : F.Ok) (ng : Bool) (a b : Option Addr) (c d N De : Nat) (w : World) (hd : 0 < De) (lN : (L N).length ≤ 1201) (lD : (L De).length ≤ 1201) (ra : Rd w a (L N)) (rb : Rd w b (L De)) :
 Calls Tryd.prog 34 #[dv F, .bool ng, .slice a (L N).length c, .slice b (L De).length d] w fun e w' => e = .returned (rv F ng N De) ∧ Below w.heap.size w w' := by
 by_cases hN : N = 0
 · subst hN
   have e0 : (L 0).length = 0 := by simp [L, M.dig_zero]
   rw [e0]
   have kP := fun v : World => dpack F h 1 ng 0 0 (by omega) v
   have e := pki_pk h ⟨1, ng, 0, 0⟩ (.inl ⟨rfl, rfl, rfl⟩)
   simp only at e
   rw [e] at kP
   simp only [hi0, lo0] at kP
   simp only [dv]
   unfold rv rY rF
   rw [if_pos rfl, if_pos rfl]
   exact iround_zero ng _ _ _ _ _ _ a b c _ d w _ kP
 · exact iround_pos F h ng a b c d N De w (by omega) hd lN lD ra rb

theorem D_shift (N p K : Nat) (h : (D N).length ≤ K) : (D (N * 2 ^ p)).length ≤ K + (p + 31) / 32 := by
 have h1 := D_lt N K h
 refine M.len_of_lt (B := 4294967296) (by omega) _ _ ?_
 rw [Nat.pow_add]
 have h2 : 2 ^ p ≤ 4294967296 ^ ((p + 31) / 32) := by
  rw [show (4294967296 : Nat) = 2 ^ 32 by rfl, ← Nat.pow_mul]
  exact Nat.pow_le_pow_right (by omega) (by omega)
 exact Nat.lt_of_le_of_lt (Nat.mul_le_mul_left _ h2) (Nat.mul_lt_mul_of_pos_right h1 (Nat.pow_pos (by omega)))

theorem cmpI_lt0 (a b : Nat) : decide (cmpI (a : Int) (b : Int) < 0) = decide (a < b) := by
 unfold cmpI
 rw [Bool.eq_iff_iff]
 simp only [decide_eq_true_eq]
 split
 · omega
 · split <;> omega

theorem l2Below_any (ao bo : Option Addr) (n m c d N De : Nat) (e : Int) (w : World) (hl : (D N).length = n) (hm : (D De).length = m) (hn : n ≤ 2600) (hm2 : m ≤ 2600) (he1 : -90000 ≤ e) (he2 : e ≤ 90000) (hr : Rd w ao (D N)) (hr2 : Rd w bo (D De)) (r : Bool) (hrr : r = decide (M.lt2 N De e)) :
 Calls Tryd.prog 57 #[.slice ao n c, .slice bo m d, .int .i64 e] w fun x w' => x = .returned (.bool r) ∧ Below w.heap.size w w' := by
 rcases (by omega : e < 0 ∨ 0 ≤ e) with h | h
 rotate_left
 · obtain ⟨s, rfl⟩ := Int.eq_ofNat_of_zero_le h
   have hs : s ≤ 100000 := by omega
   have hd := D_shift De s 2600 (by omega)
   have hr' : r = decide (cmpI (N : Int) ((De * 2 ^ s : Nat) : Int) < 0) := by
    rw [hrr, cmpI_lt0]; unfold M.lt2; congr 1
    rw [show (-(s : Int)).toNat = 0 by omega, show ((s : Nat) : Int).toNat = s by omega, Nat.pow_zero, Nat.mul_one]
   have HR := hid hr'; clear hr' hrr
   go_enter Tryd.func57, Tryd.ntmps57
   go_wp2_with fail
   refine (l1Left_any bo m d s De _ hm (by omega) hs hr2).mono ?_
   rintro e v1 ⟨b1, c1, rfl, o1, hb1⟩
   go_wp2_with fail
   refine (l1Cmp_any ao b1 n _ c c1 N (De * 2 ^ s) _ hl rfl (by omega) (by omega) (hr.below hb1) (Rd.own o1)).mono ?_
   rintro e v2 ⟨rfl, rfl⟩
   have HB := hid hb1; clear hb1
   go_wp2_with fail
   go_ret
   exact ⟨by rw [HR.out]; push_cast; rfl, HB.out⟩
 · obtain ⟨s, hs0⟩ : ∃ s : Nat, e = -(s : Int) := ⟨(-e).toNat, by omega⟩
   subst hs0
   have hs : s ≤ 100000 := by omega
   have hd := D_shift N s 2600 (by omega)
   have hng : ¬ (0 : Int) ≤ -(s : Int) := by omega
   have hr' : r = decide (cmpI ((N * 2 ^ s : Nat) : Int) (De : Int) < 0) := by
    rw [hrr, cmpI_lt0]; unfold M.lt2; congr 1
    rw [show (- -(s : Int)).toNat = s by omega, show (-(s : Int)).toNat = 0 by omega, Nat.pow_zero, Nat.mul_one]
   have HR := hid hr'; clear hr' hrr
   have w1 : IntKind.i64.wrap (- -(s : Int)) = (s : Int) := by rw [IntKind.wrap_i64]; omega
   have w2 : IntKind.i64.wrap ((s : Int)) = (s : Int) := by rw [IntKind.wrap_i64]; omega
   go_enter Tryd.func57, Tryd.ntmps57
   go_wp2_with fail
   refine (l1Left_any ao n c s N _ hl (by omega) hs hr).mono ?_
   rintro e v1 ⟨b1, c1, rfl, o1, hb1⟩
   go_wp2_with fail
   refine (l1Cmp_any b1 bo _ m c1 d (N * 2 ^ s) De _ rfl hm (by omega) (by omega) (Rd.own o1) (hr2.below hb1)).mono ?_
   rintro e v2 ⟨rfl, rfl⟩
   have HB := hid hb1; clear hb1
   go_wp2_with fail
   go_ret
   exact ⟨by rw [HR.out]; push_cast; rfl, HB.out⟩

structure Rv (w v : World) (gd : Nat) (e0 e1 e2 e3 e4 : Int) (e5 : Bool) : Prop where
 b : Below w.heap.size w v
 r : Cls v w.heap.size #[.int .u64 0, .int .u64 0, .int .i64 0, .bool false] 30
 d : D6 v gd e0 e1 e2 e3 e4 e5
 l : w.heap.size < gd

theorem Rv.below {w v v' : World} {gd : Nat} {e0 e1 e2 e3 e4 : Int} {e5 : Bool} (h : Rv w v gd e0 e1 e2 e3 e4 e5) (hb : Below v.heap.size v v') : Rv w v' gd e0 e1 e2 e3 e4 e5 :=
 ⟨h.b.trans (hb.mono h.b.size), h.r.below hb, h.d.below hb, h.l⟩

theorem rrDrew (v : World) (q : Nat) : Below v.heap.size v (v.drewN q) := ⟨rfl, rfl, rfl, Nat.le_refl _, fun _ _ => rfl⟩

theorem sround_key (f : Int) (ng : Bool) (N De : Nat) (e0 e1 e2 e3 e4 : Int) (e5 : Bool) (w : World) (ao bo : Option Addr) (c d : Nat) (hcn : (D N).length ≤ c) (ra : Rd w ao (D N)) (rb : Rd w bo (D De))
 (kE : ∀ v : World, Calls Tryd.prog 25 #[.int .i64 f] v fun e w' => e = .returned (.agg #[.int .i64 e0, .int .i64 e1, .int .i64 e2, .int .i64 e3, .int .i64 e4, .bool e5]) ∧ Below v.heap.size v w')
 (bN bD : Nat) (kN : ∀ (v : World) (ao : Option Addr) (cc : Nat), Rd v ao (D N) → Calls Tryd.prog 46 #[.slice ao (D N).length cc] v fun e w' => e = .returned (.int .i64 ((bN : Nat) : Int)) ∧ w' = v)
 (kD : ∀ (v : World) (ao : Option Addr) (cc : Nat), Rd v ao (D De) → Calls Tryd.prog 46 #[.slice ao (D De).length cc] v fun e w' => e = .returned (.int .i64 ((bD : Nat) : Int)) ∧ w' = v)
 (lt : Bool) (kB : ∀ (v : World) (ao bo : Option Addr) (c d : Nat), Rd v ao (D N) → Rd v bo (D De) → Calls Tryd.prog 57 #[.slice ao (D N).length c, .slice bo (D De).length d, .int .i64 ((bN : Int) - (bD : Int))] v fun x w' => x = .returned (.bool lt) ∧ Below v.heap.size v w')
 (E Q qm : Int) (hE : E = if lt then (bN : Int) - bD - 1 else (bN : Int) - bD) (hqm : e1 - e0 + 1 = qm) (hQ : Q = if E - e0 + 1 < qm then qm else E - e0 + 1)
 (hb1 : bN ≤ 90000) (hb2 : bD ≤ 90000) (he0 : 0 ≤ e0) (he0' : e0 ≤ 200) (hqm1 : -20000 ≤ qm) (hqm2 : qm ≤ 0) (he1 : -20000 ≤ e1) (he1' : e1 ≤ 20000)
 (nn mm : Nat) (kM : 0 ≤ Q → nn = N ∧ ∀ (v : World) (ao : Option Addr) (cc : Nat), Rd v ao (D De) → Calls Tryd.prog 20 #[.slice ao (D De).length cc, .int .i64 Q] v fun e w' => Ret v w' e (D (mm))) (kM' : ¬ 0 ≤ Q → mm = De ∧ ∀ (v : World) (ao : Option Addr) (cc : Nat), Rd v ao (D N) → Calls Tryd.prog 20 #[.slice ao (D N).length cc, .int .i64 (-Q)] v fun e w' => Ret v w' e (D (nn)))
 (S0 R0 : Nat) (kV : ∀ (v : World) (ao bo : Option Addr) (c d : Nat), (D nn).length ≤ c → Rd v ao (D nn) → Rd v bo (D mm) → Calls Tryd.prog 58 #[.slice ao (D nn).length c, .slice bo (D mm).length d] v fun e w' => RetM v w' e (D S0) (D R0))
 (kR : ∀ (v : World) (ao : Option Addr) (cc : Nat), Rd v ao (D R0) → Calls Tryd.prog 20 #[.slice ao (D R0).length cc, .int .i64 1] v fun e w' => Ret v w' e (D (R0 * 2)))
 (cz : Int) (kC : ∀ (v : World) (ao bo : Option Addr) (c d : Nat), Rd v ao (D (R0 * 2)) → Rd v bo (D mm) → Calls Tryd.prog 44 #[.slice ao (D (R0 * 2)).length c, .slice bo (D mm).length d] v fun e w' => e = .returned (.int .i64 cz) ∧ w' = v)
 (kA : ∀ (v : World) (ao : Option Addr) (cc : Nat), Rd v ao (D S0) → Calls Tryd.prog 53 #[.slice ao (D S0).length cc, .int .i64 0] v fun e w' => e = .returned (.int .u64 ((S0 % 4294967296 : Nat) : Int)) ∧ w' = v)
 (k1 : ∀ v : World, Calls Tryd.prog 21 #[.int .u64 1] v fun e w' => Ret v w' e (D 1))
 (kP : ∀ (v : World) (ao bo : Option Addr) (c d : Nat), Rd v ao (D S0) → Rd v bo (D 1) → Calls Tryd.prog 19 #[.slice ao (D S0).length c, .slice bo (D 1).length d] v fun e w' => Ret v w' e (D (S0 + 1)))
 (S1 : Nat) (hS1 : S1 = if 0 < cz ∨ (cz = 0 ∧ S0 % 2 = 1) then S0 + 1 else S0)
 (b1 : Nat) (kB1 : ∀ (v : World) (ao : Option Addr) (cc : Nat), Rd v ao (D S1) → Calls Tryd.prog 46 #[.slice ao (D S1).length cc] v fun e w' => e = .returned (.int .i64 ((b1 : Nat) : Int)) ∧ w' = v)
 (kH : ∀ (v : World) (ao : Option Addr) (cc : Nat), Rd v ao (D S1) → Calls Tryd.prog 51 #[.slice ao (D S1).length cc, .int .i64 1] v fun e w' => Ret v w' e (D (S1 / 2)))
 (S : Nat) (X : Int) (hS : S = if e0 < (b1 : Int) then S1 / 2 else S1) (hX : X = if e0 < (b1 : Int) then Q + 1 else Q) (hQ1 : -100000 ≤ Q) (hQ2 : Q ≤ 100000) (he2 : 0 ≤ e2) (he2' : e2 ≤ 20000)
 (b2 : Nat) (kB2 : ∀ (v : World) (ao : Option Addr) (cc : Nat), Rd v ao (D S) → Calls Tryd.prog 46 #[.slice ao (D S).length cc] v fun e w' => e = .returned (.int .i64 ((b2 : Nat) : Int)) ∧ w' = v)
 (kW : ∀ (v : World) (ao : Option Addr) (cc : Nat), Rd v ao (D S) → Calls Tryd.prog 49 #[.slice ao (D S).length cc] v fun e w' => e = .returned (.agg #[.int .u64 (M.hiN S : Int), .int .u64 (M.loN S : Int)]) ∧ Below v.heap.size v w')
 (PC : Int) (PS : Nat) (PQ FL : Int) (hcls : (S = 0 ∧ PC = 1 ∧ PS = 0 ∧ PQ = 0 ∧ FL = 2) ∨ (S ≠ 0 ∧ (b2 : Int) < e0 ∧ PC = 2 ∧ PS = S ∧ PQ = qm ∧ FL = 2) ∨ (S ≠ 0 ∧ ¬ (b2 : Int) < e0 ∧ e2 < X + e0 - 1 ∧ PC = 4 ∧ PS = 0 ∧ PQ = 0 ∧ FL = 1) ∨ (S ≠ 0 ∧ ¬ (b2 : Int) < e0 ∧ ¬ e2 < X + e0 - 1 ∧ PC = 3 ∧ PS = S ∧ PQ = X ∧ FL = 0))
 (Y : Nat) (ok : Bool) (kK : ∀ v : World, Calls Tryd.prog 28 #[.int .i64 f, .agg #[.int .i64 PC, .bool ng, .int .u64 (M.hiN PS : Int), .int .u64 (M.loN PS : Int), .int .i64 PQ]] v fun e w' => e = .returned (.tuple #[.agg #[.int .u64 (M.hiN Y : Int), .int .u64 (M.loN Y : Int)], .bool ok]) ∧ Below v.heap.size v w') :
 Calls Tryd.prog 29 #[.int .i64 f, .bool ng, .slice ao (D N).length c, .slice bo (D De).length d] w fun e w' => e = .returned (.agg #[.int .u64 (M.hiN Y : Int), .int .u64 (M.loN Y : Int), .int .i64 FL, .bool true]) ∧ Below w.heap.size w w' := by
 have b0 : Below w.heap.size w (w.alloc (.cells #[.int .u64 0, .int .u64 0, .int .i64 0, .bool false] 30)) := (Below.refl _ _).alloc (Nat.le_refl _) _
 have R0' : Cls (w.alloc (.cells #[.int .u64 0, .int .u64 0, .int .i64 0, .bool false] 30)) w.heap.size #[.int .u64 0, .int .u64 0, .int .i64 0, .bool false] 30 := Cls.new _ _ _
 generalize hV : (w.alloc (.cells #[.int .u64 0, .int .u64 0, .int .i64 0, .bool false] 30)) = v0 at *
 have KM := hid kM; have KM' := hid kM'; have HS1 := hid hS1; have HE := hid hE; have HQ := hid hQ; have HS := hid hS; have HX := hid hX; have HC := hid hcls; have HM := hid hqm
 clear kM kM' hS1 hE hQ hS hX hcls hqm
 have w1 : IntKind.i64.wrap (e1 - e0) = e1 - e0 := by rw [IntKind.wrap_i64]; omega
 have w2 : IntKind.i64.wrap (e1 - e0 + 1) = qm := by have := HM.out; rw [IntKind.wrap_i64]; omega
 have w3 : IntKind.i64.wrap ((bN : Int) - (bD : Int)) = (bN : Int) - (bD : Int) := by rw [IntKind.wrap_i64]; omega
 go_enter Tryd.func29, Tryd.ntmps29
 go_upto_region 1 with fail
 clear hV
 go_wp2_with fail
 refine (kE _).mono ?_
 rintro e v1 ⟨rfl, hb1'⟩
 replace b0 := b0.trans (hb1'.mono b0.size)
 replace R0' := R0'.below hb1'
 have l0 := R0'.lt
 clear hb1' kE
 go_upto_region 2 with fail
 have bA : Below v1.heap.size v1 (v1.alloc (.cells #[.int .i64 e0, .int .i64 e1, .int .i64 e2, .int .i64 e3, .int .i64 e4, .bool e5] 56)) := (Below.refl _ _).alloc (Nat.le_refl _) _
 have J0 : Rv w (v1.alloc (.cells #[.int .i64 e0, .int .i64 e1, .int .i64 e2, .int .i64 e3, .int .i64 e4, .bool e5] 56)) v1.heap.size e0 e1 e2 e3 e4 e5 := ⟨b0.trans (bA.mono b0.size), R0'.below bA, D6_new v1 _ _ _ _ _ _ _, l0⟩
 clear bA b0 R0' l0
 generalize (v1.alloc (.cells #[.int .i64 e0, .int .i64 e1, .int .i64 e2, .int .i64 e3, .int .i64 e4, .bool e5] 56)) = v2 at *
 generalize v1.heap.size = gd at *
 replace ra := ra.below J0.b
 replace rb := rb.below J0.b
 obtain ⟨d0, d1, d2, d3, d4, d5, -⟩ := id J0.d
 go_wp2_with fail
 refine (kN _ _ _ ra).mono ?_
 rintro e v3 ⟨rfl, rfl⟩
 go_wp2_with fail
 refine (kD _ _ _ rb).mono ?_
 rintro e v4 ⟨rfl, rfl⟩
 clear d0 d1 d2 d3 d4 d5
 go_wp2_with fail
 refine (kB _ _ _ _ _ ra rb).mono ?_
 rintro e v5 ⟨rfl, hb5⟩
 replace J0 := J0.below hb5
 replace ra := ra.below hb5
 replace rb := rb.below hb5
 clear hb5 kB kN kD
 go_upto_if 36 with fail
 go_cut [11] (fun x wx => x = .int .i64 E ∧ wx = v5)
 case first =>
  have w4 : IntKind.i64.wrap ((bN : Int) - (bD : Int) - 1) = (bN : Int) - (bD : Int) - 1 := by rw [IntKind.wrap_i64]; omega
  have h := HE.out
  cases lt
  · go_wp2_with fail
    go_meet
    case rel => exact ⟨by rw [h]; rfl, rfl⟩
  · go_wp2_with fail
    go_meet
    case rel => exact ⟨by rw [h]; rfl, rfl⟩
 case rest =>
 obtain ⟨rfl, rfl⟩ := hcut
 have hEb : -90001 ≤ E ∧ E ≤ 90000 := by
  have h := HE.out
  cases lt
  · simp only [Bool.false_eq_true, if_false] at h; omega
  · simp only [if_true] at h; omega
 have w5 : IntKind.i64.wrap (E - e0) = E - e0 := by rw [IntKind.wrap_i64]; omega
 have w6 : IntKind.i64.wrap (E - e0 + 1) = E - e0 + 1 := by rw [IntKind.wrap_i64]; omega
 obtain ⟨d0, d1, d2, d3, d4, d5, -⟩ := id J0.d
 go_upto_if 46 with fail
 go_cut [12] (fun x wx => x = .int .i64 Q ∧ wx = wc)
 case first =>
  have h := HQ.out
  by_cases hlt : E - e0 + 1 < qm
  · rw [if_pos hlt] at h
    go_wp2_with fail
    go_meet
    case rel => exact ⟨by rw [h], rfl⟩
  · rw [if_neg hlt] at h
    go_wp2_with fail
    go_meet
    case rel => exact ⟨by rw [h], rfl⟩
 case rest =>
 obtain ⟨rfl, rfl⟩ := hcut
 clear d0 d1 d2 d3 d4 d5
 have w7 : IntKind.i64.wrap (-Q) = -Q := by rw [IntKind.wrap_i64]; omega
 go_upto_if 51 with fail
 go_cut [13, 14] (fun x y wx => ∃ (a1 : Option Addr) (c1 : Nat) (a2 : Option Addr) (c2 : Nat), x = .slice a1 (D nn).length c1 ∧ y = .slice a2 (D mm).length c2 ∧ (D nn).length ≤ c1 ∧ Rd wx a1 (D nn) ∧ Rd wx a2 (D mm) ∧ Below wc.heap.size wc wx)
 case first =>
  by_cases hq0 : 0 ≤ Q
  · obtain ⟨hnn, kL⟩ := KM.out hq0
    go_wp2_with fail
    refine (kL _ _ _ rb).mono ?_
    rintro e v6 ⟨a2, c2, rfl, o2, hb6⟩
    go_wp2_with fail
    go_meet
    case rel =>
     subst hnn
     exact ⟨ao, c, a2, c2, rfl, rfl, hcn, ra.below hb6, Rd.own o2, hb6⟩
  · obtain ⟨hmm, kL⟩ := KM'.out (by omega)
    go_wp2_with fail
    refine (kL _ _ _ ra).mono ?_
    rintro e v6 ⟨a1, c1, rfl, o1, hb6⟩
    go_wp2_with fail
    go_meet
    case rel =>
     subst hmm
     exact ⟨a1, c1, bo, d, rfl, rfl, own_cap o1, Rd.own o1, rb.below hb6, hb6⟩
 case rest =>
 rename_i wc1
 obtain ⟨a1, c1, a2, c2, rfl, rfl, hc1, rn, rm, hbx⟩ := hcut
 replace J0 := J0.below hbx
 clear hbx ra rb
 go_wp2_with fail
 refine (kV _ _ _ _ _ hc1 rn rm).mono ?_
 rintro e v6 ⟨q1, cq, r1, cr, rfl, rq, rr, hb6⟩
 replace J0 := J0.below hb6
 replace rm := rm.below hb6
 clear hb6 rn kV hc1
 go_wp2_with fail
 refine (kR _ _ _ rr).mono ?_
 rintro e v7 ⟨r2, cr2, rfl, o2, hb7⟩
 have r2' := Rd.own o2
 replace J0 := J0.below hb7
 replace rm := rm.below hb7
 replace rq := rq.below hb7
 clear hb7 rr kR o2
 go_wp2_with fail
 refine (kC _ _ _ _ _ r2' rm).mono ?_
 rintro e v8 ⟨rfl, rfl⟩
 clear kC r2' rm
 go_upto_region 16 with fail
 go_cut [80] (fun x wx => x = .bool (decide (0 < cz ∨ (cz = 0 ∧ S0 % 2 = 1))) ∧ wx = v8)
 case first =>
  by_cases hp : 0 < cz
  · have e1 : decide (0 < cz ∨ (cz = 0 ∧ S0 % 2 = 1)) = true := decide_eq_true (.inl hp)
    have E1 := hid e1; clear e1
    go_wp2_with fail
    go_meet
    case rel => exact ⟨by rw [E1.out], rfl⟩
  · by_cases hz : cz = 0
    · have hzb : (cz == 0) = true := by simp [hz]
      have e1 : decide (0 < cz ∨ (cz = 0 ∧ S0 % 2 = 1)) = (((S0 % 4294967296 : Nat) : Int) % 2 == 1) := by
       rw [Bool.eq_iff_iff]; simp only [decide_eq_true_eq, beq_iff_eq]; omega
      have HZ := hid hz; clear hz
      have E1 := hid e1; clear e1
      go_wp2_with (go_at_call 53; refine (kA _ _ _ rq).mono ?_; rintro e v9 ⟨rfl, rfl⟩)
      go_meet
      case rel => exact ⟨by rw [E1.out]; first | rfl | simp, rfl⟩
    · have hzb : (cz == 0) = false := by simp [hz]
      have e1 : decide (0 < cz ∨ (cz = 0 ∧ S0 % 2 = 1)) = false := decide_eq_false (by omega)
      have E1 := hid e1; clear e1
      go_wp2_with fail
      go_meet
      case rel => exact ⟨by rw [E1.out], rfl⟩
 case rest =>
 obtain ⟨rfl, rfl⟩ := hcut
 go_upto_if 80 with fail
 go_cut [15] (fun x wx => ∃ (a1 : Option Addr) (c1 : Nat), x = .slice a1 (D S1).length c1 ∧ Rd wx a1 (D S1) ∧ Below wc.heap.size wc wx)
 case first =>
  have h := HS1.out
  by_cases hp : 0 < cz ∨ (cz = 0 ∧ S0 % 2 = 1)
  · rw [if_pos hp] at h
    have e1 : decide (0 < cz ∨ (cz = 0 ∧ S0 % 2 = 1)) = true := decide_eq_true hp
    rw [e1]
    have HP := hid hp; clear hp
    go_wp2_with fail
    refine (k1 _).mono ?_
    rintro e v9 ⟨o1, c1', rfl, oo, hb9⟩
    go_wp2_with fail
    refine (kP _ _ _ _ _ (rq.below hb9) (Rd.own oo)).mono ?_
    rintro e v10 ⟨o2, c2', rfl, oo2, hb10⟩
    go_wp2_with fail
    go_meet
    case rel =>
     subst h
     exact ⟨o2, c2', rfl, Rd.own oo2, hb9.trans (hb10.mono hb9.size)⟩
  · rw [if_neg hp] at h
    have e1 : decide (0 < cz ∨ (cz = 0 ∧ S0 % 2 = 1)) = false := decide_eq_false hp
    rw [e1]
    have HP := hid hp; clear hp
    go_wp2_with fail
    go_meet
    case rel =>
     subst h
     exact ⟨q1, cq, rfl, rq, Below.refl _ _⟩
 case rest =>
 obtain ⟨sa, sc, rfl, rs, hbx⟩ := hcut
 replace J0 := J0.below hbx
 clear hbx rq kA k1 kP
 obtain ⟨d0, d1, d2, d3, d4, d5, -⟩ := id J0.d
 go_upto_region 18 with fail
 go_quiet ((go_at_call 46; exact Calls.quiet_of_same (kB1 _ sa sc (Rd.drewN rs _))))
 replace J0 := J0.below (rrDrew _ nq)
 replace rs := rs.below (rrDrew _ nq)
 generalize hvz : wc.drewN nq = vz at *
 clear hvz d0 d1 d2 d3 d4 d5 kB1
 go_upto_if 88 with fail
 go_cut [15, 12] (fun x y wx => ∃ (a1 : Option Addr) (c1 : Nat), x = .slice a1 (D S).length c1 ∧ y = .int .i64 X ∧ Rd wx a1 (D S) ∧ Below vz.heap.size vz wx)
 case first =>
  have h1 := HS.out
  have h2 := HX.out
  have w8 : IntKind.i64.wrap (Q + 1) = Q + 1 := by rw [IntKind.wrap_i64]; omega
  by_cases hp : e0 < (b1 : Int)
  · rw [if_pos hp] at h1 h2
    go_wp2_with fail
    refine (kH _ _ _ rs).mono ?_
    rintro e v9 ⟨o1, c1', rfl, oo, hb9⟩
    go_wp2_with fail
    go_meet
    case rel =>
     subst h1
     exact ⟨o1, c1', rfl, by rw [h2], Rd.own oo, hb9⟩
  · rw [if_neg hp] at h1 h2
    go_wp2_with fail
    go_meet
    case rel =>
     subst h1
     exact ⟨sa, sc, rfl, by rw [h2], rs, Below.refl _ _⟩
 case rest =>
 obtain ⟨ta, tc, rfl, rfl, rt, hbx⟩ := hcut
 replace J0 := J0.below hbx
 clear hbx rs kH
 go_upto_block 0 with fail
 have bA : Below wc.heap.size wc ((wc.alloc (.cells #[.int .i64 0, .bool ng, .int .u64 0, .int .u64 0, .int .i64 0] 33)).alloc (.cells #[.int .u64 0, .int .u64 0, .int .i64 0, .bool true] 30)) := ((Below.refl _ _).alloc (Nat.le_refl _) _).alloc (by simp) _
 have P0 : Cls ((wc.alloc (.cells #[.int .i64 0, .bool ng, .int .u64 0, .int .u64 0, .int .i64 0] 33)).alloc (.cells #[.int .u64 0, .int .u64 0, .int .i64 0, .bool true] 30)) wc.heap.size #[.int .i64 0, .bool ng, .int .u64 0, .int .u64 0, .int .i64 0] 33 := (Cls.new wc _ _).below ((Below.refl _ _).alloc (Nat.le_refl _) _)
 have O0 : Cls ((wc.alloc (.cells #[.int .i64 0, .bool ng, .int .u64 0, .int .u64 0, .int .i64 0] 33)).alloc (.cells #[.int .u64 0, .int .u64 0, .int .i64 0, .bool true] 30)) (wc.heap.size + 1) #[.int .u64 0, .int .u64 0, .int .i64 0, .bool true] 30 := by
  have := Cls.new (wc.alloc (.cells #[.int .i64 0, .bool ng, .int .u64 0, .int .u64 0, .int .i64 0] 33)) #[.int .u64 0, .int .u64 0, .int .i64 0, .bool true] 30
  rwa [World.size_alloc] at this
 have lg : gd < wc.heap.size := J0.d.2.2.2.2.2.2
 have ap := apart_lt rt (Nat.le_refl _)
 replace J0 := J0.below bA
 replace rt := rt.below bA
 clear bA
 generalize ((wc.alloc (.cells #[.int .i64 0, .bool ng, .int .u64 0, .int .u64 0, .int .i64 0] 33)).alloc (.cells #[.int .u64 0, .int .u64 0, .int .i64 0, .bool true] 30)) = vA at *
 generalize wc.heap.size = gp at *
 have lw := J0.l
 go_cut [12] (fun x wx => x = .int .i64 X ∧ Cls wx gp #[.int .i64 PC, .bool ng, .int .u64 (M.hiN PS : Int), .int .u64 (M.loN PS : Int), .int .i64 PQ] 33 ∧ Cls wx (gp + 1) #[.int .u64 0, .int .u64 0, .int .i64 FL, .bool true] 30 ∧ Cls wx w.heap.size #[.int .u64 0, .int .u64 0, .int .i64 0, .bool false] 30 ∧ Below w.heap.size w wx)
 case first =>
  have hz := D_zero_eq S
  have w9 : IntKind.i64.wrap (X + e0) = X + e0 := by have := HX.out; rw [IntKind.wrap_i64]; split at this <;> omega
  have w10 : IntKind.i64.wrap (X + e0 - 1) = X + e0 - 1 := by have := HX.out; rw [IntKind.wrap_i64]; split at this <;> omega
  rcases HC.out with ⟨hS0, rfl, rfl, rfl, rfl⟩ | ⟨hS0, hlt, rfl, rfl, rfl, rfl⟩ | ⟨hS0, hlt, hov, rfl, rfl, rfl, rfl⟩ | ⟨hS0, hlt, hov, rfl, rfl, rfl, rfl⟩
  · rw [decide_eq_true hS0] at hz
    have HS0 := hid hS0; clear hS0
    have P0c0 := P0.cell 0 rfl
    have P0f0 := P0.frozen 0
    have O0c2 := O0.cell 2 rfl
    have O0f2 := O0.frozen 2
    go_wp2_with fail
    go_meet
    case rel =>
     have jr := J0.r
     have jb := J0.b
     exact ⟨rfl, (P0.set 0 _ _ rfl).far _ (by simp) _, (O0.far _ (by simp) _).set 2 _ _ rfl, (jr.far _ (by simp only; omega) _).far _ (by simp only; omega) _, (jb.setCell (by simp only; omega) _).setCell (by simp only; omega) _⟩
  · rw [decide_eq_false hS0] at hz
    have HS0 := hid hS0; clear hS0
    obtain ⟨d0, d1, d2, d3, d4, d5, -⟩ := id J0.d
    go_upto_region 29 with fail
    go_quiet ((go_at_call 46; exact Calls.quiet_of_same (kB2 _ ta tc (Rd.drewN rt _))))
    replace J0 := J0.below (rrDrew _ nq)
    replace P0 := P0.below (rrDrew _ nq)
    replace O0 := O0.below (rrDrew _ nq)
    replace rt := rt.below (rrDrew _ nq)
    generalize hvz : vA.drewN nq = vB at *
    clear hvz d0 d1 d2 d3 d4 d5
    have P0c0 := P0.cell 0 rfl
    have P0f0 := P0.frozen 0
    go_upto_region 31 with fail
    have P1 : Cls (vB.setCell ⟨gp, 0, none⟩ (.int .i64 2)) gp #[.int .i64 2, .bool ng, .int .u64 0, .int .u64 0, .int .i64 0] 33 := P0.set 0 _ _ rfl
    have O1 := O0.far ⟨gp, 0, none⟩ (by simp) (.int .i64 2)
    have jr := J0.r.far ⟨gp, 0, none⟩ (by simp only; omega) (.int .i64 2)
    have jb := J0.b.setCell (p := ⟨gp, 0, none⟩) (by simp only; omega) (.int .i64 2)
    have rt1 := rt.apart (grown_setCell vB gp 0 (.int .i64 2)) ap
    generalize vB.setCell ⟨gp, 0, none⟩ (.int .i64 2) = vC at *
    clear P0 O0 J0 rt P0c0 P0f0
    go_wp2_with fail
    refine (kW _ _ _ rt1).mono ?_
    rintro e vD ⟨rfl, hbD⟩
    replace P1 := P1.below hbD
    replace O1 := O1.below hbD
    replace jr := jr.below hbD
    replace jb := jb.trans (hbD.mono jb.size)
    clear hbD rt1
    have P1c2 := P1.cell 2 rfl
    have P1f2 := P1.frozen 2
    have P1c3 := P1.cell 3 rfl
    have P1f3 := P1.frozen 3
    have P1c4 := P1.cell 4 rfl
    have P1f4 := P1.frozen 4
    have O1c2 := O1.cell 2 rfl
    have O1f2 := O1.frozen 2
    go_wp2_with fail
    go_meet
    case rel =>
     exact ⟨rfl, (((P1.set 2 _ _ rfl).set 3 _ _ rfl).set 4 _ _ rfl).far _ (by simp) _, (((O1.far _ (by simp) _).far _ (by simp) _).far _ (by simp) _).set 2 _ _ rfl, (((jr.far _ (by simp only; omega) _).far _ (by simp only; omega) _).far _ (by simp only; omega) _).far _ (by simp only; omega) _, (((jb.setCell (by simp only; omega) _).setCell (by simp only; omega) _).setCell (by simp only; omega) _).setCell (by simp only; omega) _⟩
  · rw [decide_eq_false hS0] at hz
    have HS0 := hid hS0; clear hS0
    obtain ⟨d0, d1, d2, d3, d4, d5, -⟩ := id J0.d
    go_upto_region 29 with fail
    go_quiet ((go_at_call 46; exact Calls.quiet_of_same (kB2 _ ta tc (Rd.drewN rt _))))
    replace J0 := J0.below (rrDrew _ nq)
    replace P0 := P0.below (rrDrew _ nq)
    replace O0 := O0.below (rrDrew _ nq)
    replace rt := rt.below (rrDrew _ nq)
    generalize hvz : vA.drewN nq = vB at *
    clear hvz d0 d1 d2 d3 d4 d5
    obtain ⟨d0, d1, d2, d3, d4, d5, -⟩ := id J0.d
    have P0c0 := P0.cell 0 rfl
    have P0f0 := P0.frozen 0
    have O0c2 := O0.cell 2 rfl
    have O0f2 := O0.frozen 2
    have jr := J0.r
    have jb := J0.b
    go_wp2_with fail
    go_meet
    case rel =>
     exact ⟨rfl, (P0.set 0 _ _ rfl).far _ (by simp) _, (O0.far _ (by simp) _).set 2 _ _ rfl, (jr.far _ (by simp only; omega) _).far _ (by simp only; omega) _, (jb.setCell (by simp only; omega) _).setCell (by simp only; omega) _⟩
  · rw [decide_eq_false hS0] at hz
    have HS0 := hid hS0; clear hS0
    obtain ⟨d0, d1, d2, d3, d4, d5, -⟩ := id J0.d
    go_upto_region 29 with fail
    go_quiet ((go_at_call 46; exact Calls.quiet_of_same (kB2 _ ta tc (Rd.drewN rt _))))
    replace J0 := J0.below (rrDrew _ nq)
    replace P0 := P0.below (rrDrew _ nq)
    replace O0 := O0.below (rrDrew _ nq)
    replace rt := rt.below (rrDrew _ nq)
    generalize hvz : vA.drewN nq = vB at *
    clear hvz d0 d1 d2 d3 d4 d5
    obtain ⟨d0, d1, d2, d3, d4, d5, -⟩ := id J0.d
    have P0c0 := P0.cell 0 rfl
    have P0f0 := P0.frozen 0
    go_upto_region 24 with fail
    have P1 : Cls (vB.setCell ⟨gp, 0, none⟩ (.int .i64 3)) gp #[.int .i64 3, .bool ng, .int .u64 0, .int .u64 0, .int .i64 0] 33 := P0.set 0 _ _ rfl
    have O1 := O0.far ⟨gp, 0, none⟩ (by simp) (.int .i64 3)
    have jr := J0.r.far ⟨gp, 0, none⟩ (by simp only; omega) (.int .i64 3)
    have jb := J0.b.setCell (p := ⟨gp, 0, none⟩) (by simp only; omega) (.int .i64 3)
    have rt1 := rt.apart (grown_setCell vB gp 0 (.int .i64 3)) ap
    generalize vB.setCell ⟨gp, 0, none⟩ (.int .i64 3) = vC at *
    clear P0 O0 J0 rt P0c0 P0f0
    go_wp2_with fail
    refine (kW _ _ _ rt1).mono ?_
    rintro e vD ⟨rfl, hbD⟩
    replace P1 := P1.below hbD
    replace O1 := O1.below hbD
    replace jr := jr.below hbD
    replace jb := jb.trans (hbD.mono jb.size)
    clear hbD rt1
    have P1c2 := P1.cell 2 rfl
    have P1f2 := P1.frozen 2
    have P1c3 := P1.cell 3 rfl
    have P1f3 := P1.frozen 3
    have P1c4 := P1.cell 4 rfl
    have P1f4 := P1.frozen 4
    go_wp2_with fail
    go_meet
    case rel =>
     exact ⟨rfl, ((P1.set 2 _ _ rfl).set 3 _ _ rfl).set 4 _ _ rfl, ((O1.far _ (by simp) _).far _ (by simp) _).far _ (by simp) _, ((jr.far _ (by simp only; omega) _).far _ (by simp only; omega) _).far _ (by simp only; omega) _, ((jb.setCell (by simp only; omega) _).setCell (by simp only; omega) _).setCell (by simp only; omega) _⟩
 case rest =>
 obtain ⟨rfl, P2, O2, jr, jb⟩ := hcut
 clear P0 O0 J0 rt ap kW kB2 HC HS HX HS1 HE HQ KM KM' HM
 have P2c0 := P2.cell 0 rfl
 have P2c1 := P2.cell 1 rfl
 have P2c2 := P2.cell 2 rfl
 have P2c3 := P2.cell 3 rfl
 have P2c4 := P2.cell 4 rfl
 go_wp2_with fail
 refine (kK _).mono ?_
 rintro e vK ⟨rfl, hbK⟩
 replace O2 := O2.below hbK
 replace jr := jr.below hbK
 replace jb := jb.trans (hbK.mono jb.size)
 clear hbK P2 P2c0 P2c1 P2c2 P2c3 P2c4 kK
 have O2c0 := O2.cell 0 rfl
 have O2f0 := O2.frozen 0
 have O2c1 := O2.cell 1 rfl
 have O2f1 := O2.frozen 1
 go_upto_region 38 with fail
 have O3 : Cls ((vK.setCell ⟨gp + 1, 0, none⟩ (.int .u64 (M.hiN Y : Int))).setCell ⟨gp + 1, 1, none⟩ (.int .u64 (M.loN Y : Int))) (gp + 1) #[.int .u64 (M.hiN Y : Int), .int .u64 (M.loN Y : Int), .int .i64 FL, .bool true] 30 := (O2.set 0 _ _ rfl).set 1 _ _ rfl
 have jr3 := (jr.far ⟨gp + 1, 0, none⟩ (by simp only; omega) (.int .u64 (M.hiN Y : Int))).far ⟨gp + 1, 1, none⟩ (by simp only; omega) (.int .u64 (M.loN Y : Int))
 have jb3 := (jb.setCell (p := ⟨gp + 1, 0, none⟩) (by simp only; omega) (.int .u64 (M.hiN Y : Int))).setCell (p := ⟨gp + 1, 1, none⟩) (by simp only; omega) (.int .u64 (M.loN Y : Int))
 clear O2 jr jb O2c0 O2c1 O2f0 O2f1
 generalize ((vK.setCell ⟨gp + 1, 0, none⟩ (.int .u64 (M.hiN Y : Int))).setCell ⟨gp + 1, 1, none⟩ (.int .u64 (M.loN Y : Int))) = vL at *
 have O3c0 := O3.cell 0 rfl
 have O3c1 := O3.cell 1 rfl
 have O3c2 := O3.cell 2 rfl
 have O3c3 := O3.cell 3 rfl
 have jr3c0 := jr3.cell 0 rfl
 have jr3f0 := jr3.frozen 0
 have jr3c1 := jr3.cell 1 rfl
 have jr3f1 := jr3.frozen 1
 have jr3c2 := jr3.cell 2 rfl
 have jr3f2 := jr3.frozen 2
 have jr3c3 := jr3.cell 3 rfl
 have jr3f3 := jr3.frozen 3
 go_wp2_with fail
 have R4 := (((jr3.set 0 (.int .u64 (M.hiN Y : Int)) _ rfl).set 1 (.int .u64 (M.loN Y : Int)) _ rfl).set 2 (.int .i64 FL) _ rfl).set 3 (.bool true) #[.int .u64 (M.hiN Y : Int), .int .u64 (M.loN Y : Int), .int .i64 FL, .bool true] rfl
 have B4 := (((jb3.setCell (p := ⟨w.heap.size, 0, none⟩) (Nat.le_refl _) (.int .u64 (M.hiN Y : Int))).setCell (p := ⟨w.heap.size, 1, none⟩) (Nat.le_refl _) (.int .u64 (M.loN Y : Int))).setCell (p := ⟨w.heap.size, 2, none⟩) (Nat.le_refl _) (.int .i64 FL)).setCell (p := ⟨w.heap.size, 3, none⟩) (Nat.le_refl _) (.bool true)
 have q0 := R4.cell 0 rfl
 have q1 := R4.cell 1 rfl
 have q2 := R4.cell 2 rfl
 have q3 := R4.cell 3 rfl
 exact bodyPost_ret (v := .agg #[.int .u64 (M.hiN Y : Int), .int .u64 (M.loN Y : Int), .int .i64 FL, .bool true]) (by simp [results, Tryd.results29, go_sem, q0, q1, q2, q3]) rfl ⟨rfl, B4⟩

theorem blen_of_D (N K : Nat) (h : (D N).length ≤ K) : blen N ≤ 32 * K := by
 refine blen_le_of N _ ?_
 have := D_lt N K h
 rwa [show (4294967296 : Nat) = 2 ^ 32 by rfl, ← Nat.pow_mul] at this

theorem D_mono {a b : Nat} (h : a ≤ b) : (D a).length ≤ (D b).length := by
 rcases Nat.lt_or_ge (D b).length (D a).length with hh | hh
 · have := M.lt_of_length (B := 4294967296) (by omega) hh
   omega
 · exact hh

theorem sround_pos (f : Nat) (hf : f < 4) (ng : Bool) (a b : Option Addr) (c d N De : Nat) (w : World) (hN : 0 < N) (hd : 0 < De) (lN : (D N).length ≤ 2400) (lD : (D De).length ≤ 2400) (hcn : (D N).length ≤ c) (ra : Rd w a (D N)) (rb : Rd w b (D De)) :
 Calls Tryd.prog 29 #[.int .i64 (f : Int), .bool ng, .slice a (D N).length c, .slice b (D De).length d] w fun e w' => e = .returned (.agg #[.int .u64 (M.hiN ((M.fm f).pk ((M.fm f).rPt ng N De)) : Int), .int .u64 (M.loN ((M.fm f).pk ((M.fm f).rPt ng N De)) : Int), .int .i64 ((M.fm f).rFl N De 2 1), .bool true]) ∧ Below w.heap.size w w' := by
 have kE := fun v : World => sdescribe_ok f hf v
 have kK := fun (v : World) (c : Int) (s : Nat) (hs : s < 2 ^ 128) (q : Int) (h1 : -9223372036854775808 ≤ q) (h2 : q < 9223372036854775808) => spack_any f hf c ng s hs q h1 h2 v
 have h := M.fm_ok f
 generalize M.fm f = F at *
 simp only [dv] at kE
 have p1 := h.p1
 have p2 := h.p2
 have t2 := h.top2
 have bN := blen_of_D N _ lN
 have bD := blen_of_D De _ lD
 have e1 := M.rE_le N De (by omega) (by omega)
 obtain ⟨q1, q2, q3, q4, q5⟩ := h.rQ_le N De (by omega) (by omega)
 obtain ⟨m1, m2, m3⟩ := h.rS_ok N De hN hd
 have m4 := h.rS_le N De hN hd
 have m5 := h.rSig_lt N De hN hd
 obtain ⟨n1, n2⟩ := h.rN_le N De hN hd (by omega) (by omega)
 have tl := h.two_lead
 have pw : 2 ^ F.p ≤ 2 ^ 113 := Nat.pow_le_pow_right (by omega) p2
 have pp := h.rPt_proper ng N De hN hd
 have lo := h.rLow N De hN hd
 obtain ⟨g1, g2⟩ := h.rCarry N De hN hd
 have l1 : (D (F.rN N De)).length ≤ 2404 := by
  rcases n1 with n1 | n1
  · rw [n1]; omega
  · have := D_shift De F.p 2400 lD
    have := D_mono (Nat.le_of_lt n1)
    omega
 have l2 : (D (F.rM N De)).length ≤ 2404 := by
  rcases n2 with n2 | n2
  · rw [n2]; omega
  · have := D_mono n2
    omega
 have hlt : F.rN N De / F.rM N De < 2 ^ 128 := by omega
 have hrm : F.rN N De % F.rM N De < F.rM N De := Nat.mod_lt _ m1
 have l3 : (D (F.rN N De % F.rM N De)).length ≤ 2404 := Nat.le_trans (D_mono (Nat.le_of_lt hrm)) l2
 have l4 : (D (F.rN N De % F.rM N De * 2)).length ≤ 2405 := by
  have := D_shift (F.rN N De % F.rM N De) 1 2404 l3
  rw [Nat.pow_one] at this; omega
 have l5 : (D (F.rN N De / F.rM N De)).length ≤ 6 := D_small _ (by omega)
 have l6 : (D (F.rS N De)).length ≤ 6 := D_small _ (by omega)
 have l7 : (D (F.rSig N De)).length ≤ 6 := D_small _ (by omega)
 have hqm : F.qmin = 2 - (F.emax : Int) - (F.p : Int) := rfl
 have hQd : F.rQ N De = max (M.rE N De - F.p + 1) F.qmin := rfl
 have kSh := fun (v : World) (ao : Option Addr) (cc : Nat) (hr : Rd v ao (D (F.rN N De % F.rM N De))) => l1Left_any ao _ cc 1 (F.rN N De % F.rM N De) v rfl (by omega) (by omega) hr
 rw [Nat.pow_one] at kSh
 have kH := fun (v : World) (ao : Option Addr) (cc : Nat) (hr : Rd v ao (D (F.rS N De))) => l1Right_any ao _ cc 1 (F.rS N De) v rfl (by omega) (by omega) hr
 rw [Nat.pow_one] at kH
 have hs : (F.rPt ng N De).s < 2 ^ 128 := by
  unfold M.Fm.rPt; split
  · simp only; omega
  · split
    · simp only; omega
    · split <;> simp only <;> omega
 have hx : -100000 ≤ F.rExp N De ∧ F.rExp N De ≤ 200000 := by rw [g2]; split <;> omega
 have hq : -9223372036854775808 ≤ (F.rPt ng N De).q ∧ (F.rPt ng N De).q < 9223372036854775808 := by
  unfold M.Fm.rPt; split
  · simp only; omega
  · split
    · simp only; omega
    · split <;> simp only <;> omega
 have kP := fun v : World => kK v (F.rPt ng N De).c (F.rPt ng N De).s hs (F.rPt ng N De).q hq.1 hq.2
 have ht : (⟨(F.rPt ng N De).c, ng, (F.rPt ng N De).s, (F.rPt ng N De).q⟩ : M.Pt) = F.rPt ng N De := by
  have : (F.rPt ng N De).n = ng := by
   unfold M.Fm.rPt; split
   · rfl
   · split
     · rfl
     · split <;> rfl
  refine M.Pt.ext' rfl this.symm rfl rfl
 rw [ht, show ansN F (F.rPt ng N De) = F.pk (F.rPt ng N De) from if_pos pp] at kP
 have bl := blen_iff h (F.rSig N De)
 refine sround_key (f : Int) ng N De _ _ _ _ _ _ w a b c d hcn ra rb kE (blen N) (blen De) (fun v ao cc hr => l1Bits_any ao _ cc N v rfl (by omega) hr _ rfl) (fun v ao cc hr => l1Bits_any ao _ cc De v rfl (by omega) hr _ rfl)
  (decide (M.lt2 N De ((blen N : Int) - blen De))) (fun v ao bo c d hr hr2 => l2Below_any ao bo _ _ c d N De _ v rfl rfl (by omega) (by omega) (by omega) (by omega) hr hr2 _ rfl)
  (M.rE N De) (F.rQ N De) F.qmin (by unfold M.rE; simp only [decide_eq_true_eq]) (by omega) (by rw [hQd]; split <;> omega) (by omega) (by omega) (by omega) (by omega) (by omega) (by omega) (by omega) (by omega)
  (F.rN N De) (F.rM N De) ?_ ?_ (F.rN N De / F.rM N De) (F.rN N De % F.rM N De) (fun v ao bo c d hc hr hr2 => l1Div_wide ao bo _ _ c d _ _ v rfl rfl m1 (by omega) (by omega) hc hr hr2) kSh
  (cmpI ((F.rN N De % F.rM N De * 2 : Nat) : Int) (F.rM N De : Int)) (fun v ao bo c d hr hr2 => l1Cmp_any ao bo _ _ c d _ _ v rfl rfl (by omega) (by omega) hr hr2)
  (fun v ao cc hr => l1At_any ao _ cc 0 _ v rfl (by omega) (by omega) hr _ (by rw [D_get]; simp)) (fun v => l1Of_any 1 v (by omega)) (fun v ao bo c d hr hr2 => l1Add_any ao bo _ _ c d _ _ v rfl rfl (by omega) (Nat.le_trans (D_small 1 (by omega)) (by omega)) hr hr2)
  (F.rS N De) (M.rUp_cmp _ _) (blen (F.rS N De)) (fun v ao cc hr => l1Bits_any ao _ cc _ v rfl (by omega) hr _ rfl) kH (F.rSig N De) (F.rExp N De) g1 g2 (by omega) (by omega) (by omega) (by omega)
  (blen (F.rSig N De)) (fun v ao cc hr => l1Bits_any ao _ cc _ v rfl (by omega) hr _ rfl) (fun v ao cc hr => l2Word_any ao _ cc _ v rfl (by omega) hr)
  (F.rPt ng N De).c (F.rPt ng N De).s (F.rPt ng N De).q (F.rFl N De 2 1) ?_ (F.pk (F.rPt ng N De)) _ kP
 · intro hc
   refine ⟨?_, ?_⟩
   · show N * 2 ^ (-(F.rQ N De)).toNat = N
     rw [show (-(F.rQ N De)).toNat = 0 by omega, Nat.pow_zero, Nat.mul_one]
   · intro v ao cc hr
     have := l1Left_any ao _ cc (F.rQ N De).toNat De v rfl (by omega) (by omega) hr
     rw [show (((F.rQ N De).toNat : Nat) : Int) = F.rQ N De by omega] at this
     exact this
 · intro hc
   refine ⟨?_, ?_⟩
   · show De * 2 ^ (F.rQ N De).toNat = De
     rw [show (F.rQ N De).toNat = 0 by omega, Nat.pow_zero, Nat.mul_one]
   · intro v ao cc hr
     have := l1Left_any ao _ cc (-(F.rQ N De)).toNat N v rfl (by omega) (by omega) hr
     rw [show (((-(F.rQ N De)).toNat : Nat) : Int) = -(F.rQ N De) by omega] at this
     exact this
 · unfold M.Fm.rPt M.Fm.rFl
   by_cases k1 : F.rSig N De = 0
   · rw [if_pos k1, if_pos k1]
     exact .inl ⟨k1, rfl, rfl, rfl, rfl⟩
   · rw [if_neg k1, if_neg k1]
     by_cases k2 : F.rSig N De < F.lead
     · rw [if_pos k2, if_pos k2]
       refine .inr (.inl ⟨k1, ?_, rfl, rfl, (lo k2).1, rfl⟩)
       rcases Nat.lt_or_ge (blen (F.rSig N De)) F.p with hh | hh
       · omega
       · have := bl.1.2 hh; omega
     · rw [if_neg k2, if_neg k2]
       have hb : ¬ ((blen (F.rSig N De) : Int) < (F.p : Int)) := by have := bl.1.1 (by omega); omega
       by_cases k3 : (F.emax : Int) < F.rExp N De + F.p - 1
       · rw [if_pos k3, if_pos k3]
         exact .inr (.inr (.inl ⟨k1, hb, k3, rfl, rfl, rfl, rfl⟩))
       · rw [if_neg k3, if_neg k3]
         exact .inr (.inr (.inr ⟨k1, hb, k3, rfl, rfl, rfl, rfl⟩))

end Go.Proofs.YtogkkecnmlnajaaDoor
