import Derived.Test.YtehplfmnipadmafDoorPk7
import Derived.Test.YtehplfmnipadmafDoorBQ
import Derived.Test.YtehplfmnipadmafDoorBlN
import Derived.Test.YtehplfmnipadmafDoorRrI5
import Derived.Test.YtehplfmnipadmafDoorRrI6
namespace Go.Proofs.YtehplfmnipadmafDoor

open Go.RowKit

set_option linter.unusedVariables false
set_option maxRecDepth 100000

theorem two_new (w : World) (t : TypeId) (x y : Value) : (w.alloc (.cells #[x, y] t)).cell? ⟨w.heap.size, 0, none⟩ = some x ∧ (w.alloc (.cells #[x, y] t)).cell? ⟨w.heap.size, 1, none⟩ = some y ∧ (w.alloc (.cells #[x, y] t)).frozen? ⟨w.heap.size, 0, none⟩ = false ∧ (w.alloc (.cells #[x, y] t)).frozen? ⟨w.heap.size, 1, none⟩ = false := by
  simp [go_sem]

end Go.Proofs.YtehplfmnipadmafDoor

namespace Go.Proofs.YtehplfmnipadmafDoor

open Go.RowKit

set_option linter.unusedVariables false
set_option maxRecDepth 100000

/-- 'copy' into the head of an array of the call's own. -/
theorem copy_arr (dT sT t : TypeId) (hu : Tryd.prog.underlying dT = some (.slice 23)) (w1 : World) (g dn dc : Nat) (zs : List Value) (hg : w1.heap[g]? = some (.cells zs.toArray t (0, 0)))
    (ao : Option Addr) (ys : List Nat) (sn sc : Nat) (hy : ys.length = sn) (hr : Rd w1 ao ys) (h1 : sn ≤ dn) (h2 : sn ≤ zs.length) :
    ∃ w2, (Builtin.copy_ #[dT, sT] 3 #[.slice (some ⟨g, 0, none⟩) dn dc, .slice ao sn sc]).run Tryd.prog w1 = .ok (.int .i64 (sn : Int)) w2 ∧
      w2.heap[g]? = some (.cells (U ys ++ zs.drop sn).toArray t (0, 0)) ∧ w1.grownBy w2 (some g) := by
  have hs : (Tryd.prog.info? 23).map (·.size) = some 1 := by
    obtain ⟨i0, hi, hz0, hz1, hz2⟩ := info_parts Tryd.infoU
    rw [hi]; simp [hz1]
  by_cases h0 : sn = 0
  · subst h0
    have : ys = [] := List.eq_nil_of_length_eq_zero hy
    subst this
    refine ⟨w1, run_copy_none w1 dT sT 3 23 _ ao dn dc 0 sc hu hs (by simp), ?_, World.grownBy.refl _ _⟩
    simpa [U] using hg
  · obtain ⟨b, off, rfl, hc⟩ := hr (by omega)
    have hl : (U ys).length = sn := by rw [U_length, hy]
    have e := run_copy_row (P := Tryd.prog) w1 dT sT 3 23 g 0 dn dc ⟨b, off, none⟩ sn sc zs.toArray t (U ys) hu hs hg (by rw [hl]; show sn = min sn dn; omega) (Rd.cellAdd (ao := none) hc) (by simp [hl]; omega) (U_one ys)
    rw [hl] at e
    refine ⟨_, e, ?_, ?_⟩
    · rw [setRow_heap w1 g _ _ _ _ hg]; simp
    · exact ⟨rfl, rfl, rfl, by simp, fun k _ hk => setRow_other w1 g k _ (fun e => hk (by simp [e]))⟩

theorem L_get2 (a k : Nat) : (L a).getD k 0 = a / 18446744073709551616 ^ k % 18446744073709551616 := M.dig_get (by omega) k a

/-- Two limbs laid over zeros. -/
theorem lay2 (a : Nat) (h : (L a).length ≤ 2) (ha : a < 2 ^ 128) : U (L a) ++ (U [0, 0]).drop (L a).length = U [M.loN a, M.hiN a] := by
  have e2 : L a ++ [0, 0].drop (L a).length = [M.loN a, M.hiN a] := by
    have h0 := L_get2 a 0
    have h1 := L_get2 a 1
    have hh := M.hiLt ha
    have hlo : M.loN a = a % 18446744073709551616 := rfl
    have hhi : M.hiN a = a / 18446744073709551616 := rfl
    match hL : L a, h with
    | [], _ =>
      rw [hL] at h0 h1
      simp at h0 h1 ⊢
      exact ⟨by omega, by omega⟩
    | [x], _ =>
      rw [hL] at h0 h1
      simp at h0 h1 ⊢
      exact ⟨by omega, by omega⟩
    | [x, y], _ =>
      rw [hL] at h0 h1
      simp at h0 h1 ⊢
      exact ⟨by omega, by omega⟩
  rw [← e2, U_append]
  simp [U]

theorem cell_arr {w : World} {g x y : Nat} {t : TypeId} (h : w.heap[g]? = some (.cells (U [x, y]).toArray t (0, 0))) : w.cell? ⟨g, 0, none⟩ = some (.int .u64 (x : Int)) ∧ w.cell? ⟨g, 1, none⟩ = some (.int .u64 (y : Int)) := by
  simp [World.cell?, h, U]

set_option maxHeartbeats 1000000 in
theorem wordOf_any (ao : Option Addr) (n c a : Nat) (w : World) (hl : (L a).length = n) (ha : a < 2 ^ 128) (hr : Rd w ao (L a)) :
    Calls Tryd.prog 86 #[.slice ao n c] w fun e w' => e = .returned (.agg #[.int .u64 (M.hiN a : Int), .int .u64 (M.loN a : Int)]) ∧ Below w.heap.size w w' := by
  have hn : n ≤ 2 := by rw [← hl]; exact M.len_of_lt (by omega) a 2 (by omega)
  have b0 : Below w.heap.size w ((w.alloc (.cells #[.int .u64 0, .int .u64 0] 25)).alloc (.cells #[.int .u64 0, .int .u64 0] 109)) := ((Below.refl _ _).alloc (Nat.le_refl _) _).alloc (by simp) _
  have HG : ((w.alloc (.cells #[.int .u64 0, .int .u64 0] 25)).alloc (.cells #[.int .u64 0, .int .u64 0] 109)).heap[w.heap.size + 1]? = some (.cells (U [0, 0]).toArray 109 (0, 0)) := by
    have := heap_alloc_new (w.alloc (.cells #[.int .u64 0, .int .u64 0] 25)) (.cells #[.int .u64 0, .int .u64 0] 109)
    simpa [U] using this
  obtain ⟨w2, hcp, hg2, hgr2⟩ := copy_arr 28 67 109 Tryd.underlying28 _ (w.heap.size + 1) 2 2 (U [0, 0]) HG ao (L a) n c hl (hr.below b0) hn (by simp [U]; exact hn)
  rw [← hl, lay2 a (by omega) ha] at hg2
  obtain ⟨q0, q1⟩ := cell_arr hg2
  obtain ⟨t0, t1, t2, t3⟩ := two_new w 25 (.int .u64 0) (.int .u64 0)
  have ba : Below (w.alloc (.cells #[.int .u64 0, .int .u64 0] 25)).heap.size (w.alloc (.cells #[.int .u64 0, .int .u64 0] 25)) w2 := ((Below.refl _ _).alloc (Nat.le_refl _) _).grown hgr2 (by simp) (fun k hk => by cases hk; simp)
  have bb : Below w.heap.size w w2 := ((Below.refl w.heap.size w).alloc (Nat.le_refl _) _).trans (ba.mono (by simp))
  have r0 := (ba.cell (p := ⟨w.heap.size, 0, none⟩) (by simp)).trans t0
  have r1 := (ba.cell (p := ⟨w.heap.size, 1, none⟩) (by simp)).trans t1
  have z0 := (ba.frozen (p := ⟨w.heap.size, 0, none⟩) (by simp)).trans t2
  have z1 := (ba.frozen (p := ⟨w.heap.size, 1, none⟩) (by simp)).trans t3
  clear t0 t1 t2 t3 ba HG hgr2 hg2 hl
  go_enter Tryd.func86, Tryd.ntmps86
  go_wp2_with fail
  exact bodyPost_ret (v := .agg #[.int .u64 (M.hiN a : Int), .int .u64 (M.loN a : Int)]) (by simp [results, Tryd.results86, go_sem, r0, r1]) rfl ⟨rfl, (bb.setCell (p := ⟨w.heap.size, 0, none⟩) (Nat.le_refl _) _).setCell (p := ⟨w.heap.size, 1, none⟩) (Nat.le_refl _) _⟩

end Go.Proofs.YtehplfmnipadmafDoor

namespace Go.Proofs.YtehplfmnipadmafDoor

open Go.RowKit

set_option linter.unusedVariables false
set_option maxRecDepth 100000

/-- The word, the flags and the answer of a rounding. -/
def rY (F : M.Fm) (ng : Bool) (N De : Nat) : Nat := if N = 0 then F.pk ⟨1, ng, 0, 0⟩ else F.pk (F.rPt ng N De)

def rF (F : M.Fm) (N De : Nat) : Int := if N = 0 then 0 else F.rFl N De 2 1

def rv (F : M.Fm) (ng : Bool) (N De : Nat) : Value := .agg #[.int .u64 (M.hiN (rY F ng N De) : Int), .int .u64 (M.loN (rY F ng N De) : Int), .int .i64 (rF F N De), .bool true]

theorem blen_of_L (N K : Nat) (h : (L N).length ≤ K) : blen N ≤ 64 * K := by
  refine blen_le_of N _ ?_
  have := L_lt N K h
  rwa [show (18446744073709551616 : Nat) = 2 ^ 64 by rfl, ← Nat.pow_mul] at this

theorem rPt_n (F : M.Fm) (ng : Bool) (N De : Nat) : (F.rPt ng N De).n = ng := by
  unfold M.Fm.rPt; split
  · rfl
  · split
    · rfl
    · split <;> rfl

set_option maxRecDepth 10000 in
set_option maxHeartbeats 2000000 in
theorem iround_pos (F : M.Fm) (h : F.Ok) (ng : Bool) (a b : Option Addr) (c d N De : Nat) (w : World) (hN : 0 < N) (hd : 0 < De) (lN : (L N).length ≤ 1201) (lD : (L De).length ≤ 1201) (ra : Rd w a (L N)) (rb : Rd w b (L De)) :
    Calls Tryd.prog 46 #[dv F, .bool ng, .slice a (L N).length c, .slice b (L De).length d] w fun e w' => e = .returned (rv F ng N De) ∧ Below w.heap.size w w' := by
  have p1 := h.p1
  have p2 := h.p2
  have t2 := h.top2
  have bN := blen_of_L N _ lN
  have bD := blen_of_L De _ lD
  have e1 := M.rE_le N De (by omega) (by omega)
  obtain ⟨q1, q2, q3, q4, q5⟩ := h.rQ_le N De (by omega) (by omega)
  obtain ⟨m1, m2, m3⟩ := h.rS_ok N De hN hd
  have m4 := h.rS_le N De hN hd
  have m5 := h.rSig_lt N De hN hd
  have tl := h.two_lead
  have pw : 2 ^ F.p ≤ 2 ^ 113 := Nat.pow_le_pow_right (by omega) p2
  have pp := h.rPt_proper ng N De hN hd
  have hne : (((L N).length : Int) == 0) = false := by
    rw [L_zero_iff]; exact decide_eq_false (by omega)
  have o1 : M.hiN 1 = 0 := by decide
  have o2 : M.loN 1 = 1 := by decide
  have kQ := fun v : World => dQmin F h v
  have kL := fun v : World => dLead F h v
  simp only [dv] at kQ kL ⊢
  unfold rv rY rF
  rw [if_neg (by omega), if_neg (by omega)]
  refine iround_key ng _ _ _ _ _ _ a b c d N De w hne ra rb (F.rN N De) (F.rM N De) (F.rS N De) (F.rSig N De) (F.rQ N De) (F.rExp N De) (F.rPt ng N De).c (F.rPt ng N De).q (F.rFl N De 2 1) (F.rPt ng N De).s (F.pk (F.rPt ng N De)) ?_ ?_ ?_ ?_ ?_
  · -- scale
    intro v g hB ra rb sa sb
    refine iscale_key g _ _ _ _ _ _ a b c d N De 0 0 v hB ra rb sa sb (M.rE N De) F.qmin (F.rQ N De) (by omega) (by omega) (by omega) (by omega) rfl (by omega) (by omega) ?_ kQ ((-(F.rQ N De)).toNat : Int) ((F.rQ N De).toNat : Int) (by omega) (by omega) (F.rN N De) (F.rM N De) ?_ ?_
    · intro v hB ra rb
      refine iexp_key g _ _ _ _ _ _ a b c d N De 0 0 v hB ra rb (blen N) (blen De) (by omega) (by omega) (fun v hr => bitLenN_any a _ c N v rfl (by omega) hr _ rfl) (fun v hr => bitLenN_any b _ d De v rfl (by omega) hr _ rfl) ((blen N : Int) - blen De) ((-((blen N : Int) - blen De)).toNat : Int) (((blen N : Int) - blen De).toNat : Int) rfl (by omega) (by omega)
        (N * 2 ^ (-((blen N : Int) - blen De)).toNat) (De * 2 ^ ((blen N : Int) - blen De).toNat) (fun v hr => shiftLeft_any a _ c _ N v rfl (by omega) (by omega) hr) (fun v hr => shiftLeft_any b _ d _ De v rfl (by omega) (by omega) hr) _
        (fun v ao bo c d hr hr2 => compare_any ao bo _ _ c d _ _ v rfl rfl (Nat.le_trans (len_shiftK N _ 1201 1500 lN (by omega)) (by omega)) (Nat.le_trans (len_shiftK De _ 1201 1500 lD (by omega)) (by omega)) hr hr2) _ ?_
      have e2 := cmpI_lt1 (N * 2 ^ (-((blen N : Int) - blen De)).toNat) (De * 2 ^ ((blen N : Int) - blen De).toNat)
      unfold M.rE
      simp only [decide_eq_decide] at e2
      by_cases hc : M.lt2 N De ((blen N : Int) - blen De)
      · rw [if_pos hc, if_pos (e2.2 hc)]
      · rw [if_neg hc, if_neg (fun k => hc (e2.1 k))]
    · exact fun v hr => shiftLeft_any a _ c _ N v rfl (by omega) (by omega) hr
    · exact fun v hr => shiftLeft_any b _ d _ De v rfl (by omega) (by omega) hr
  · -- nearest
    intro v g a1 c1 a2 c2 hB r1 r2 s1 s2
    have l1 : (L (F.rN N De)).length ≤ 2701 := len_shiftK N _ 1201 1500 lN (by omega)
    have l2 : (L (F.rM N De)).length ≤ 2701 := len_shiftK De _ 1201 1500 lD (by omega)
    have hlt : F.rN N De / F.rM N De < 2 ^ 128 := by omega
    have hrm : F.rN N De % F.rM N De < F.rM N De := Nat.mod_lt _ m1
    have l3 : (L (F.rN N De % F.rM N De)).length ≤ 2701 := by
      rcases Nat.lt_or_ge 2701 (L (F.rN N De % F.rM N De)).length with hh | hh
      · have := M.lt_of_length (B := 18446744073709551616) (by omega) (a := F.rM N De) (b := F.rN N De % F.rM N De) (Nat.lt_of_le_of_lt l2 hh)
        omega
      · exact hh
    have kPl := fun v : World => wplus (F.rN N De / F.rM N De) 1 v hlt (by omega) (F.rN N De / F.rM N De + 1) (by rw [Nat.mod_eq_of_lt]; omega)
    rw [o1, o2] at kPl
    have kSh := fun (v : World) (ao : Option Addr) (cc : Nat) (hr : Rd v ao (L (F.rN N De % F.rM N De))) => shiftLeft_any ao _ cc 1 (F.rN N De % F.rM N De) v rfl (by omega) (by omega) hr
    rw [Nat.pow_one] at kSh
    have l4 : (L (F.rN N De % F.rM N De * 2)).length ≤ 2702 := by
      have := len_shiftK (F.rN N De % F.rM N De) 1 2701 1 l3 (by omega)
      rwa [Nat.pow_one] at this
    exact inear_key g _ _ _ _ _ _ a1 a2 c1 c2 _ _ 0 (F.rQ N De) v hB r1 r2 s1 s2 (F.rN N De / F.rM N De) (F.rN N De % F.rM N De) (fun v hr hr2 => divMod_any a1 a2 _ _ c1 c2 _ _ v rfl rfl m1 (by omega) (by omega) hr hr2) (fun v ao cc hr => wordOf_any ao _ cc _ v rfl hlt hr) kSh
      _ (fun v ao cc hr hr2 => compare_any ao a2 _ _ cc c2 _ _ v rfl rfl (by omega) (by omega) hr hr2) (fun v => even_any _ v) kPl (F.rS N De) (M.rUp_cmp _ _)
  · -- carry
    intro v g a1 n1 c1 a2 n2 c2 hB
    exact icarry_key g _ _ _ _ _ _ a1 a2 n1 c1 n2 c2 (F.rS N De) (F.rQ N De) v hB (2 ^ F.p) F.lead (fun v => wbitAt F.p v (by omega) _ rfl) kL (by omega) (by omega) _ _ rfl rfl
  · -- outcome
    intro v g a1 n1 c1 a2 n2 c2 hB
    have kC := fun (cz : Int) (hcz : cz = M.cmpN (F.rSig N De) F.lead) (v : World) => wcmp (F.rSig N De) F.lead v cz hcz
    have hx : -100000 ≤ F.rExp N De ∧ F.rExp N De ≤ 200000 := by unfold M.Fm.rExp; split <;> omega
    unfold M.Fm.rPt M.Fm.rFl
    by_cases k1 : F.rSig N De = 0
    · rw [if_pos k1, if_pos k1]
      rw [k1] at hB
      have := iout_zero g _ _ _ _ _ _ a1 a2 n1 c1 n2 c2 _ v hB
      simp only [hi0, lo0]
      exact this
    · rw [if_neg k1, if_neg k1]
      by_cases k2 : F.rSig N De < F.lead
      · rw [if_pos k2, if_pos k2]
        have hz : M.cmpN (F.rSig N De) F.lead = -1 := by unfold M.cmpN; rw [if_pos k2]
        exact iout_sub g _ _ _ _ _ _ a1 a2 n1 c1 n2 c2 _ _ v hB k1 F.lead (-1) kL (kC _ hz.symm) (by omega)
      · rw [if_neg k2, if_neg k2]
        have hz : ¬ M.cmpN (F.rSig N De) F.lead < 0 := by
          unfold M.cmpN; rw [if_neg k2]; split <;> omega
        by_cases k3 : (F.emax : Int) < F.rExp N De + F.p - 1
        · rw [if_pos k3, if_pos k3]
          have := iout_inf g _ _ _ _ _ _ a1 a2 n1 c1 n2 c2 _ _ v hB k1 F.lead _ kL (kC _ rfl) hz (by omega) (by omega) (by omega) (by omega) k3
          simp only [hi0, lo0]
          exact this
        · rw [if_neg k3, if_neg k3]
          exact iout_norm g _ _ _ _ _ _ a1 a2 n1 c1 n2 c2 (F.rSig N De) (F.rExp N De) v hB k1 F.lead _ kL (kC _ rfl) hz hx.1 hx.2 (by omega) (by omega) k3
  · -- pack
    intro v
    have hs : (F.rPt ng N De).s < 2 ^ 128 := by
      unfold M.Fm.rPt; split
      · simp only; omega
      · split
        · simp only; omega
        · split <;> simp only <;> omega
    have := dpack F h (F.rPt ng N De).c ng (F.rPt ng N De).s (F.rPt ng N De).q hs v
    have e := pki_pk h (F.rPt ng N De) pp
    rw [rPt_n] at e
    rw [e] at this
    exact this

theorem iround_any (F : M.Fm) (h : F.Ok) (ng : Bool) (a b : Option Addr) (c d N De : Nat) (w : World) (hd : 0 < De) (lN : (L N).length ≤ 1201) (lD : (L De).length ≤ 1201) (ra : Rd w a (L N)) (rb : Rd w b (L De)) :
    Calls Tryd.prog 46 #[dv F, .bool ng, .slice a (L N).length c, .slice b (L De).length d] w fun e w' => e = .returned (rv F ng N De) ∧ Below w.heap.size w w' := by
  by_cases hN : N = 0
  · subst hN
    have e0 : (L 0).length = 0 := by simp [L, M.dig_zero]
    rw [e0]
    have kP := fun v : World => dpack F h 1 ng 0 0 (by omega) v
    have e := pki_pk h ⟨1, ng, 0, 0⟩ (.inl ⟨rfl, rfl, rfl⟩)
    simp only at e
    rw [e] at kP
    simp only [hi0, lo0] at kP
    simp only [dv]
    unfold rv rY rF
    rw [if_pos rfl, if_pos rfl]
    exact iround_zero ng _ _ _ _ _ _ a b c _ d w _ kP
  · exact iround_pos F h ng a b c d N De w (by omega) hd lN lD ra rb

end Go.Proofs.YtehplfmnipadmafDoor

namespace Go.Proofs.YtehplfmnipadmafDoor

open Go.RowKit

set_option linter.unusedVariables false
set_option maxRecDepth 100000

/-- The variables of l2Round: the answer's, the description's. -/
structure Rv (w v : World) (gd : Nat) (e0 e1 e2 e3 e4 : Int) (e5 : Bool) : Prop where
  b : Below w.heap.size w v
  r : Cls v w.heap.size #[.int .u64 0, .int .u64 0, .int .i64 0, .bool false] 41
  d : D6 v gd e0 e1 e2 e3 e4 e5
  l : w.heap.size < gd

theorem Rv.below {w v v' : World} {gd : Nat} {e0 e1 e2 e3 e4 : Int} {e5 : Bool} (h : Rv w v gd e0 e1 e2 e3 e4 e5) (hb : Below v.heap.size v v') : Rv w v' gd e0 e1 e2 e3 e4 e5 :=
  ⟨h.b.trans (hb.mono h.b.size), h.r.below hb, h.d.below hb, h.l⟩

end Go.Proofs.YtehplfmnipadmafDoor

namespace Go.Proofs.YtehplfmnipadmafDoor

open Go.RowKit

set_option linter.unusedVariables false
set_option maxRecDepth 100000

set_option maxRecDepth 100000 in
set_option maxHeartbeats 4000000 in
theorem irr_pos (f : Nat) (hf : f < 4) (ng : Bool) (ao bo : Option Addr) (n m c d : Nat) (xs ys : List Nat) (w : World) (hl : xs.length = n) (hm : ys.length = m) (hc : n ≤ c) (hd : m ≤ d) (hn : n ≤ 1048576) (hn2 : m ≤ 1048576) (hx : F64 xs) (hy : F64 ys) (hr : Rd w ao xs) (hr2 : Rd w bo ys) (hF : Fmt w) (h1 : n ≤ 1200) (h2 : m ≤ 1200) (h3 : 0 < V ys) :
    Calls Tryd.prog 12 #[.int .i64 (f : Int), .bool ng, .slice ao n c, .slice bo m d] w fun e w' => e = .returned (.agg #[.int .u64 (M.hiN (rY (M.fm f) ng (V xs) (V ys)) : Int), .int .u64 (M.loN (rY (M.fm f) ng (V xs) (V ys)) : Int), .int .i64 (rF (M.fm f) (V xs) (V ys)), .bool true]) ∧ Below w.heap.size w w' := by
  have kt := fun (v : World) (hr : Rd v bo ys) => trim_any bo m d ys v hm hd (by omega) hy hr
  have kt2 := fun (v : World) (hr : Rd v ao xs) => trim_any ao n c xs v hl hc (by omega) hx hr
  have ll1 := L_len xs hx
  have ll2 := L_len ys hy
  have kE := fun (v : World) (hv : Fmt v) => describe_ok f hf v hv
  have h := M.fm_ok f
  generalize M.fm f = F at *
  have kK := fun v : World => dKnown F h v
  have kR := fun (v : World) (ra : Rd v ao (L (V xs))) (rb : Rd v bo (L (V ys))) => iround_any F h ng ao bo c d (V xs) (V ys) v h3 (by omega) (by omega) ra rb
  simp only [dv, rv] at kE kK kR
  generalize rY F ng (V xs) (V ys) = Y at *
  generalize rF F (V xs) (V ys) = FL at *
  have hz := L_zero_iff (V ys)
  rw [decide_eq_false (show ¬ V ys = 0 by omega)] at hz
  have hall : Hid (true = [n, m].all (fun x => decide (x ≤ 1200))) := by
    show true = [n, m].all (fun x => decide (x ≤ 1200))
    simp [h1, h2]
  have b0 : Below w.heap.size w (w.alloc (.cells #[.int .u64 0, .int .u64 0, .int .i64 0, .bool false] 41)) := (Below.refl _ _).alloc (Nat.le_refl _) _
  have hR : Cls (w.alloc (.cells #[.int .u64 0, .int .u64 0, .int .i64 0, .bool false] 41)) w.heap.size #[.int .u64 0, .int .u64 0, .int .i64 0, .bool false] 41 := Cls.new _ _ _
  generalize hV : (w.alloc (.cells #[.int .u64 0, .int .u64 0, .int .i64 0, .bool false] 41)) = v0 at *
  go_enter Tryd.func12, Tryd.ntmps12
  go_upto_region 1 with fail
  clear hV
  go_wp2_with fail
  refine (kE _ (hF.below b0)).mono ?_
  rintro e v1 ⟨rfl, hb1⟩
  replace b0 := b0.trans (hb1.mono b0.size)
  replace hR := hR.below hb1
  clear hb1
  have lw := hR.lt
  go_upto_region 2 with fail
  have hD : Cls (v1.alloc (.cells #[.int .i64 (F.p : Int), .int .i64 (1 - (F.emax : Int)), .int .i64 (F.emax : Int), .int .i64 (F.wd : Int), .int .i64 (F.e : Int), .bool F.x] 53)) v1.heap.size #[.int .i64 (F.p : Int), .int .i64 (1 - (F.emax : Int)), .int .i64 (F.emax : Int), .int .i64 (F.wd : Int), .int .i64 (F.e : Int), .bool F.x] 53 := Cls.new _ _ _
  have bA : Below v1.heap.size v1 (v1.alloc (.cells #[.int .i64 (F.p : Int), .int .i64 (1 - (F.emax : Int)), .int .i64 (F.emax : Int), .int .i64 (F.wd : Int), .int .i64 (F.e : Int), .bool F.x] 53)) := (Below.refl _ _).alloc (Nat.le_refl _) _
  replace b0 := b0.trans (bA.mono b0.size)
  replace hR := hR.below bA
  clear bA
  generalize (v1.alloc (.cells #[.int .i64 (F.p : Int), .int .i64 (1 - (F.emax : Int)), .int .i64 (F.emax : Int), .int .i64 (F.wd : Int), .int .i64 (F.e : Int), .bool F.x] 53)) = v2 at *
  generalize v1.heap.size = gd at *
  replace hr := hr.below b0
  replace hr2 := hr2.below b0
  go_wp2_with fail
  refine (kt _ hr2).mono ?_
  rintro e v3 ⟨rfl, rfl⟩
  have d0 := hD.cell 0 rfl
  have d1 := hD.cell 1 rfl
  have d2 := hD.cell 2 rfl
  have d3 := hD.cell 3 rfl
  have d4 := hD.cell 4 rfl
  have d5 := hD.cell 5 rfl
  go_wp2_with fail
  refine (kK _).mono ?_
  rintro e v4 ⟨rfl, hb4⟩
  replace hr := hr.below hb4
  replace hr2 := hr2.below hb4
  replace hD := hD.below hb4
  replace b0 := b0.trans (hb4.mono b0.size)
  replace hR := hR.below hb4
  clear hb4 d0 d1 d2 d3 d4 d5
  go_wp2_with fail
  refine (short_any _ 2 [n, m] true _ rfl (by omega) (by simp; omega) hall.out (two_cells _ _ _ _ _ _ _ _)).mono ?_
  rintro e v5 ⟨rfl, hv5⟩
  have hb5 : Below v4.heap.size v4 v5 := by rw [hv5]; exact (Below.refl _ _).alloc (Nat.le_refl _) _
  clear hv5
  replace hr := hr.below hb5
  replace hr2 := hr2.below hb5
  replace hD := hD.below hb5
  replace b0 := b0.trans (hb5.mono b0.size)
  replace hR := hR.below hb5
  clear hb5
  go_upto_region 5 with fail
  have A0 : Below v5.heap.size v5 v5.drew := (Below.refl _ _).drew
  have KB : ∀ v, Below v5.heap.size v5 v → (fun v => v.cell? ⟨gd, 0, none⟩ = some (.int .i64 (F.p : Int)) ∧ v.cell? ⟨gd, 1, none⟩ = some (.int .i64 (1 - (F.emax : Int))) ∧ v.cell? ⟨gd, 2, none⟩ = some (.int .i64 (F.emax : Int)) ∧ v.cell? ⟨gd, 3, none⟩ = some (.int .i64 (F.wd : Int)) ∧ v.cell? ⟨gd, 4, none⟩ = some (.int .i64 (F.e : Int)) ∧ v.cell? ⟨gd, 5, none⟩ = some (.bool F.x)) v := fun v hv => ⟨(hD.below hv).cell 0 rfl, (hD.below hv).cell 1 rfl, (hD.below hv).cell 2 rfl, (hD.below hv).cell 3 rfl, (hD.below hv).cell 4 rfl, (hD.below hv).cell 5 rfl⟩
  have KS : ∀ v x y z t, Below v5.heap.size v5 v → (fun v => v.cell? ⟨gd, 0, none⟩ = some (.int .i64 (F.p : Int)) ∧ v.cell? ⟨gd, 1, none⟩ = some (.int .i64 (1 - (F.emax : Int))) ∧ v.cell? ⟨gd, 2, none⟩ = some (.int .i64 (F.emax : Int)) ∧ v.cell? ⟨gd, 3, none⟩ = some (.int .i64 (F.wd : Int)) ∧ v.cell? ⟨gd, 4, none⟩ = some (.int .i64 (F.e : Int)) ∧ v.cell? ⟨gd, 5, none⟩ = some (.bool F.x)) ((((v.setCell ⟨w.heap.size, 0, none⟩ x).setCell ⟨w.heap.size, 1, none⟩ y).setCell ⟨w.heap.size, 2, none⟩ z).setCell ⟨w.heap.size, 3, none⟩ t) := fun v x y z t hv => by
    have hh := ((((hD.below hv).far ⟨w.heap.size, 0, none⟩ (by simp only; omega) x).far ⟨w.heap.size, 1, none⟩ (by simp only; omega) y).far ⟨w.heap.size, 2, none⟩ (by simp only; omega) z).far ⟨w.heap.size, 3, none⟩ (by simp only; omega) t
    exact ⟨hh.cell 0 rfl, hh.cell 1 rfl, hh.cell 2 rfl, hh.cell 3 rfl, hh.cell 4 rfl, hh.cell 5 rfl⟩
  go_region_held3 (fun v => v.cell? ⟨gd, 0, none⟩ = some (.int .i64 (F.p : Int)) ∧ v.cell? ⟨gd, 1, none⟩ = some (.int .i64 (1 - (F.emax : Int))) ∧ v.cell? ⟨gd, 2, none⟩ = some (.int .i64 (F.emax : Int)) ∧ v.cell? ⟨gd, 3, none⟩ = some (.int .i64 (F.wd : Int)) ∧ v.cell? ⟨gd, 4, none⟩ = some (.int .i64 (F.e : Int)) ∧ v.cell? ⟨gd, 5, none⟩ = some (.bool F.x)) (first | with_reducible exact KB _ hb2 | with_reducible exact KB _ A0 | with_reducible exact KS _ _ _ _ _ hb2)
    (first | (go_at_call 46; refine (kR _ ((hr.below A0).trim hx) ((hr2.below A0).trim hy)).mono ?_; rintro e u2 ⟨rfl, hb0⟩; have hb2 := keepC (w1 := v5) A0 hb0; clear hb0; have r0 := (hR.below hb2).cell 0 rfl; have r1 := (hR.below hb2).cell 1 rfl; have r2 := (hR.below hb2).cell 2 rfl; have r3 := (hR.below hb2).cell 3 rfl; have s0 := (hR.below hb2).frozen 0; have s1 := (hR.below hb2).frozen 1; have s2 := (hR.below hb2).frozen 2; have s3 := (hR.below hb2).frozen 3) | (go_at_call 43; refine (kt2 _ (hr.below A0)).mono ?_; rintro e u1 ⟨rfl, rfl⟩))
  all_goals replace hR := hR.below hb2
  all_goals replace b0 := b0.trans (hb2.mono b0.size)
  all_goals go_wp2_with fail
  all_goals (
    have R5 := Cls.set (Cls.set (Cls.set (Cls.set (hR) 0 (.int .u64 (M.hiN Y : Int)) _ rfl) 1 (.int .u64 (M.loN Y : Int)) _ rfl) 2 (.int .i64 FL) _ rfl) 3 (.bool true) #[.int .u64 (M.hiN Y : Int), .int .u64 (M.loN Y : Int), .int .i64 FL, .bool true] rfl
    have B5 := ((((b0).setCell (p := ⟨w.heap.size, 0, none⟩) (Nat.le_refl _) (.int .u64 (M.hiN Y : Int))).setCell (p := ⟨w.heap.size, 1, none⟩) (Nat.le_refl _) (.int .u64 (M.loN Y : Int))).setCell (p := ⟨w.heap.size, 2, none⟩) (Nat.le_refl _) (.int .i64 FL)).setCell (p := ⟨w.heap.size, 3, none⟩) (Nat.le_refl _) (.bool true)
    generalize ((((u2.setCell ⟨w.heap.size, 0, none⟩ (.int .u64 (M.hiN Y : Int))).setCell ⟨w.heap.size, 1, none⟩ (.int .u64 (M.loN Y : Int))).setCell ⟨w.heap.size, 2, none⟩ (.int .i64 FL)).setCell ⟨w.heap.size, 3, none⟩ (.bool true)) = Yw at R5 B5 ⊢
    have q0 := R5.cell 0 rfl
    have q1 := R5.cell 1 rfl
    have q2 := R5.cell 2 rfl
    have q3 := R5.cell 3 rfl
    exact bodyPost_ret (v := .agg #[.int .u64 (M.hiN Y : Int), .int .u64 (M.loN Y : Int), .int .i64 FL, .bool true]) (by simp [results, Tryd.results12, go_sem, q0, q1, q2, q3]) rfl ⟨rfl, B5⟩)

end Go.Proofs.YtehplfmnipadmafDoor

