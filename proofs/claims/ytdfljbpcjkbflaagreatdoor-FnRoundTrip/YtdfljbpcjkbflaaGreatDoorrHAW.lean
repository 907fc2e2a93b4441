import Derived.Deep.AppendLies
import Derived.Shelf.Strconv.AppendIntPublic10
import Derived.Shelf.Lay
import Derived.Ground.NamesProg
import Derived.Test.YtdfljbpcjkbflaaGreatDoorrHAU
import Derived.Test.YtdfljbpcjkbflaaGreatDoorrBnd
import Derived.Test.YtdfljbpcjkbflaaGreatDoorrHAV
import Derived.Test.YtdfljbpcjkbflaaGreatDoorrUn1
set_option maxHeartbeats 2000000
namespace Go.Proofs.YtdfljbpcjkbflaaGreatDoor
open Go.RowKit
set_option linter.unusedVariables false
set_option maxRecDepth 100000
theorem uK (f : Nat) (hf : f < 4) (X : Nat) (hX : X < 2 ^ 128) (w : World) (hm : Fmt w) :
 Calls Tryz.prog 12 #[.int .i64 (f : Int), .agg #[.int .u64 (M.hiN X : Int), .int .u64 (M.loN X : Int)]] w fun e w' => e = .returned (pv ((M.fm f).upk X)) ∧ Below w.heap.size w w' := by
 have kE := fun (v : World) (hv : Fmt v) => gB f hf v hv
 have h := M.nD f
 generalize M.fm f = F at *
 have kK := fun v : World => sN F h v
 have kU := fun v : World => jS F h X hX v
 obtain ⟨T, hT⟩ : ∃ T, T = F.upk X := ⟨_, rfl⟩
 rw [← hT] at kU ⊢
 clear hT
 simp only [dv, pv] at kE kK kU
 have b0 := ((Below.refl w.heap.size w).alloc (Nat.le_refl _) (.cells #[.int .u64 (M.hiN X : Int), .int .u64 (M.loN X : Int)] 25)).alloc (by simp) (.cells #[.int .i64 0, .bool false, .int .u64 0, .int .u64 0, .int .i64 0] 35)
 go_enter Tryz.func12, Tryz.ntmps12
 go_wp2_with fail
 refine (kE _ (hm.below b0)).mono ?_
 rintro e v1 ⟨rfl, hb1⟩
 have r0 : v1.cell? ⟨w.heap.size + 1, 0, none⟩ = some (.int .i64 0) := (hb1.cell (by simp <;> omega)).trans (by simp [go_sem])
 have r1 : v1.cell? ⟨w.heap.size + 1, 1, none⟩ = some (.bool false) := (hb1.cell (by simp <;> omega)).trans (by simp [go_sem])
 have r2 : v1.cell? ⟨w.heap.size + 1, 2, none⟩ = some (.int .u64 0) := (hb1.cell (by simp <;> omega)).trans (by simp [go_sem])
 have r3 : v1.cell? ⟨w.heap.size + 1, 3, none⟩ = some (.int .u64 0) := (hb1.cell (by simp <;> omega)).trans (by simp [go_sem])
 have r4 : v1.cell? ⟨w.heap.size + 1, 4, none⟩ = some (.int .i64 0) := (hb1.cell (by simp <;> omega)).trans (by simp [go_sem])
 have z0 : v1.frozen? ⟨w.heap.size + 1, 0, none⟩ = false := (hb1.frozen (by simp <;> omega)).trans (by simp [go_sem])
 have z1 : v1.frozen? ⟨w.heap.size + 1, 1, none⟩ = false := (hb1.frozen (by simp <;> omega)).trans (by simp [go_sem])
 have z2 : v1.frozen? ⟨w.heap.size + 1, 2, none⟩ = false := (hb1.frozen (by simp <;> omega)).trans (by simp [go_sem])
 have z3 : v1.frozen? ⟨w.heap.size + 1, 3, none⟩ = false := (hb1.frozen (by simp <;> omega)).trans (by simp [go_sem])
 have z4 : v1.frozen? ⟨w.heap.size + 1, 4, none⟩ = false := (hb1.frozen (by simp <;> omega)).trans (by simp [go_sem])
 have x0 : v1.cell? ⟨w.heap.size, 0, none⟩ = some (.int .u64 (M.hiN X : Int)) := (hb1.cell (by simp <;> omega)).trans (by simp [go_sem])
 have x1 : v1.cell? ⟨w.heap.size, 1, none⟩ = some (.int .u64 (M.loN X : Int)) := (hb1.cell (by simp <;> omega)).trans (by simp [go_sem])
 have n1 : w.heap.size + 2 ≤ v1.heap.size := by have := hb1.size; simp at this; omega
 have b1 := b0.trans (hb1.mono b0.size)
 clear hb1 b0 kE hm
 go_wp2_with fail
 have hbd : Below v1.heap.size v1 (v1.alloc (.cells #[.int .i64 (F.p : Int), .int .i64 (1 - (F.emax : Int)), .int .i64 (F.emax : Int), .int .i64 (F.wd : Int), .int .i64 (F.e : Int), .bool F.x] 51)) := (Below.refl _ _).alloc (Nat.le_refl _) _
 refine (kK _).mono ?_
 rintro e v2 ⟨rfl, hb2⟩
 have hb3 := hbd.trans (hb2.mono hbd.size)
 have d0 : v2.cell? ⟨v1.heap.size, 0, none⟩ = some (.int .i64 (F.p : Int)) := (hb2.cell (by simp)).trans (by simp [go_sem])
 have d1 : v2.cell? ⟨v1.heap.size, 1, none⟩ = some (.int .i64 (1 - (F.emax : Int))) := (hb2.cell (by simp)).trans (by simp [go_sem])
 have d2 : v2.cell? ⟨v1.heap.size, 2, none⟩ = some (.int .i64 (F.emax : Int)) := (hb2.cell (by simp)).trans (by simp [go_sem])
 have d3 : v2.cell? ⟨v1.heap.size, 3, none⟩ = some (.int .i64 (F.wd : Int)) := (hb2.cell (by simp)).trans (by simp [go_sem])
 have d4 : v2.cell? ⟨v1.heap.size, 4, none⟩ = some (.int .i64 (F.e : Int)) := (hb2.cell (by simp)).trans (by simp [go_sem])
 have d5 : v2.cell? ⟨v1.heap.size, 5, none⟩ = some (.bool F.x) := (hb2.cell (by simp)).trans (by simp [go_sem])
 replace r0 : v2.cell? ⟨w.heap.size + 1, 0, none⟩ = some (.int .i64 0) := (hb3.cell (by simp only; omega)).trans r0
 replace r1 : v2.cell? ⟨w.heap.size + 1, 1, none⟩ = some (.bool false) := (hb3.cell (by simp only; omega)).trans r1
 replace r2 : v2.cell? ⟨w.heap.size + 1, 2, none⟩ = some (.int .u64 0) := (hb3.cell (by simp only; omega)).trans r2
 replace r3 : v2.cell? ⟨w.heap.size + 1, 3, none⟩ = some (.int .u64 0) := (hb3.cell (by simp only; omega)).trans r3
 replace r4 : v2.cell? ⟨w.heap.size + 1, 4, none⟩ = some (.int .i64 0) := (hb3.cell (by simp only; omega)).trans r4
 replace z0 : v2.frozen? ⟨w.heap.size + 1, 0, none⟩ = false := (hb3.frozen (by simp only; omega)).trans z0
 replace z1 : v2.frozen? ⟨w.heap.size + 1, 1, none⟩ = false := (hb3.frozen (by simp only; omega)).trans z1
 replace z2 : v2.frozen? ⟨w.heap.size + 1, 2, none⟩ = false := (hb3.frozen (by simp only; omega)).trans z2
 replace z3 : v2.frozen? ⟨w.heap.size + 1, 3, none⟩ = false := (hb3.frozen (by simp only; omega)).trans z3
 replace z4 : v2.frozen? ⟨w.heap.size + 1, 4, none⟩ = false := (hb3.frozen (by simp only; omega)).trans z4
 replace x0 : v2.cell? ⟨w.heap.size, 0, none⟩ = some (.int .u64 (M.hiN X : Int)) := (hb3.cell (by simp only; omega)).trans x0
 replace x1 : v2.cell? ⟨w.heap.size, 1, none⟩ = some (.int .u64 (M.loN X : Int)) := (hb3.cell (by simp only; omega)).trans x1
 have n2 : v1.heap.size + 1 ≤ v2.heap.size := by have := hb2.size; simp at this; omega
 replace b1 := b1.trans (hb3.mono b1.size)
 clear hb2 hb3 hbd kK
 go_wp2_with fail
 refine (kU _).mono ?_
 rintro e v3 ⟨rfl, hb4⟩
 replace r0 : v3.cell? ⟨w.heap.size + 1, 0, none⟩ = some (.int .i64 0) := (hb4.cell (by simp only; omega)).trans r0
 replace r1 : v3.cell? ⟨w.heap.size + 1, 1, none⟩ = some (.bool false) := (hb4.cell (by simp only; omega)).trans r1
 replace r2 : v3.cell? ⟨w.heap.size + 1, 2, none⟩ = some (.int .u64 0) := (hb4.cell (by simp only; omega)).trans r2
 replace r3 : v3.cell? ⟨w.heap.size + 1, 3, none⟩ = some (.int .u64 0) := (hb4.cell (by simp only; omega)).trans r3
 replace r4 : v3.cell? ⟨w.heap.size + 1, 4, none⟩ = some (.int .i64 0) := (hb4.cell (by simp only; omega)).trans r4
 replace z0 : v3.frozen? ⟨w.heap.size + 1, 0, none⟩ = false := (hb4.frozen (by simp only; omega)).trans z0
 replace z1 : v3.frozen? ⟨w.heap.size + 1, 1, none⟩ = false := (hb4.frozen (by simp only; omega)).trans z1
 replace z2 : v3.frozen? ⟨w.heap.size + 1, 2, none⟩ = false := (hb4.frozen (by simp only; omega)).trans z2
 replace z3 : v3.frozen? ⟨w.heap.size + 1, 3, none⟩ = false := (hb4.frozen (by simp only; omega)).trans z3
 replace z4 : v3.frozen? ⟨w.heap.size + 1, 4, none⟩ = false := (hb4.frozen (by simp only; omega)).trans z4
 replace b1 := b1.trans (hb4.mono b1.size)
 clear hb4 kU
 go_wp2_with fail
 exact bodyPost_ret (v := .agg #[.int .i64 T.c, .bool T.n, .int .u64 (M.hiN T.s : Int), .int .u64 (M.loN T.s : Int), .int .i64 T.q]) (by simp [results, Tryz.results12, go_sem, r0, r1, r2, r3, r4]) rfl ⟨rfl, cU b1 (by omega) _ _ _ _ _⟩

theorem lH (a j K : Nat) (h : a < 2 ^ j) (hj : j ≤ 64 * K) : (L a).length ≤ K := by
 refine M.len_of_lt (B := 18446744073709551616) (by omega) _ _ ?_
 rw [show (18446744073709551616 : Nat) = 2 ^ 64 by rfl, ← Nat.pow_mul]
 exact Nat.lt_of_lt_of_le h (Nat.pow_le_pow_right (by omega) hj)

theorem KF : L 1 = [1] := by
 have h1 : (L 1).length ≤ 1 := lH 1 1 1 (by omega) (by omega)
 have h2 := M.dY (B := 18446744073709551616) (by omega) 1
 have e : L 1 = M.dig 18446744073709551616 1 := rfl
 rw [e] at h1 ⊢
 match hd : M.dig 18446744073709551616 1, h1, h2 with
 | [], _, h2 => simp [M.val] at h2
 | [x], _, h2 => simp [M.val] at h2; rw [h2]

theorem nY {x u : Nat} (hx : x < 2 ^ 128) : x * 2 ^ u < 2 ^ (128 + u) := by
 rw [Nat.pow_add]
 exact Nat.mul_lt_mul_of_pos_right hx (Nat.pow_pos (by omega))

def AD (F : M.Fm) (t : M.Pt) : Nat := if t.s = F.lead ∧ F.qmin < t.q then 4 * t.s - 1 else 4 * t.s - 2

def bA (F : M.Fm) (t : M.Pt) : Nat := AD F t * 2 ^ (t.q - 2).toNat

def bB (t : M.Pt) : Nat := (4 * t.s + 2) * 2 ^ (t.q - 2).toNat

def bC (t : M.Pt) : Nat := 2 ^ (2 - t.q).toNat

structure Fin (F : M.Fm) (t : M.Pt) : Prop where
 s1 : 0 < t.s
 s2 : t.s < 2 * F.lead
 q1 : F.qmin ≤ t.q
 q2 : t.q + F.p - 1 ≤ F.emax
 q3 : -16600 ≤ t.q
 q4 : t.q ≤ 16400
 s3 : t.s < 2 ^ 114
 s4 : t.c = 2 → t.s < F.lead

theorem vM {F : M.Fm} (h : F.Ok) {t : M.Pt} (hp : F.Proper t) (hc : t.c = 2 ∨ t.c = 3) : Fin F t := by
 have p1 := h.p1
 have p2 := h.p2
 have lp := h.leadPos
 have tp := h.top2
 have hq : F.qmin = 2 - (F.emax : Int) - (F.p : Int) := rfl
 have l2 : F.lead ≤ 2 ^ 112 := Nat.pow_le_pow_right (by omega) (by omega)
 have := hp
 unfold M.Fm.Proper at this
 constructor <;> omega

theorem JW (q : Int) (h1 : -16600 ≤ q) (h2 : q ≤ 16400) : (if wrap64 (q - 2) < 0 then 0 else wrap64 (q - 2)) = (((q - 2).toNat : Nat) : Int) := by
 have : wrap64 (q - 2) = q - 2 := by simp only [wrap64]; omega
 rw [this]; split <;> omega

theorem JS (q : Int) (h1 : -16600 ≤ q) (h2 : q ≤ 16400) : (if wrap64 (2 - q) < 0 then 0 else wrap64 (2 - q)) = (((2 - q).toNat : Nat) : Int) := by
 have : wrap64 (2 - q) = 2 - q := by simp only [wrap64]; omega
 rw [this]; split <;> omega

theorem GM (F : M.Fm) (h : F.Ok) (T : M.Pt) (hf : Fin F T) (w : World) :
 Calls Tryz.prog 34 #[.agg #[.int .i64 (F.p : Int), .int .i64 (1 - (F.emax : Int)), .int .i64 (F.emax : Int), .int .i64 (F.wd : Int), .int .i64 (F.e : Int), .bool F.x], .agg #[.int .i64 T.c, .bool T.n, .int .u64 (M.hiN T.s : Int), .int .u64 (M.loN T.s : Int), .int .i64 T.q]] w fun e w' => Iv w w' e (bA F T) (bB T) (bC T) (decide (T.s % 2 = 0)) := by
 obtain ⟨s1, s2, q1, q2, q3, q4, s3, s4⟩ := hf
 have o1 : M.hiN 2 = 0 := by decide
 have o2 : M.loN 2 = 2 := by decide
 have o3 : M.hiN 1 = 0 := by decide
 have o4 : M.loN 1 = 1 := by decide
 have lL := jG h
 have l128 : (2 : Nat) < 2 ^ 128 := by decide
 have l128' : (1 : Nat) < 2 ^ 128 := by decide
 have kS : ∀ v : World, Calls Tryz.prog 65 #[.agg #[.int .u64 (M.hiN T.s : Int), .int .u64 (M.loN T.s : Int)], .int .i64 2] v fun e w' => e = .returned (.agg #[.int .u64 (M.hiN (4 * T.s) : Int), .int .u64 (M.loN (4 * T.s) : Int)]) ∧ Below v.heap.size v w' := fun v => GK T.s 2 v (by omega) (by omega) (4 * T.s) (by rw [Nat.mod_eq_of_lt (by omega)]; omega)
 have kM := fun v : World => rG (4 * T.s) 2 v (by omega) l128 (4 * T.s - 2) (tU (by omega) (by omega))
 have kN := fun v : World => rG (4 * T.s) 1 v (by omega) l128' (4 * T.s - 1) (tU (by omega) (by omega))
 have kH := fun v : World => qD (4 * T.s) 2 v (by omega) l128 (4 * T.s + 2) (by rw [Nat.mod_eq_of_lt (by omega)])
 rw [o1, o2] at kM kH
 rw [o3, o4] at kN
 have kL := fun v : World => uR F h v
 have kQ := fun v : World => DH F h v
 simp only [dv] at kL kQ
 have kV := fun v : World => tI T.s v
 have hU := JW T.q q3 q4
 have hW := JS T.q q3 q4
 have HU := hid hU
 have HW := hid hW
 clear hU hW
 have kN1 := fun (X : Nat) (hX : X < 2 ^ 128) (v : World) => oO X hX v
 have kS1 := fun (X : Nat) (hX : X < 2 ^ 128) (u : Nat) (hu : u ≤ 20000) (v : World) (ao : Option Addr) (c : Nat) (hr : Rd v ao (L X)) => aL ao _ c u X v rfl (Nat.le_trans (lH X 128 2 hX (by omega)) (by omega)) (by omega) hr
 have kS3 : ∀ (v : World) (ao : Option Addr) (c : Nat), Rd v ao [1] → Calls Tryz.prog 77 #[.slice ao 1 c, .int .i64 (((2 - T.q).toNat : Nat) : Int)] v fun e w' => Ret v w' e (L (bC T)) := fun v ao c hr => by
  have := aL ao 1 c (2 - T.q).toNat 1 v (by rw [KF]; rfl) (by omega) (by omega) (by rw [KF]; exact hr)
  rw [Nat.one_mul] at this
  exact this
 have u1 : (T.q - 2).toNat ≤ 20000 := by omega
 by_cases hc : T.s = F.lead ∧ F.qmin < T.q
 · have e : bA F T = (4 * T.s - 1) * 2 ^ (T.q - 2).toNat := by unfold bA AD; rw [if_pos hc]
   rw [e]
   exact bnd T (4 * T.s) (4 * T.s - 2) _ _ _ _ _ _ _ _ _ _ true w kS kM (4 * T.s - 1) (4 * T.s + 2) kH _ _ HU.out HW.out (kN1 _ (by omega)) (kN1 _ (by omega)) (kS1 _ (by omega) _ u1) (kS1 _ (by omega) _ u1) kS3 kV F.lead kL F.qmin kQ (fun _ => kN) (.inr ⟨.inr ⟨rfl, hc.2⟩, hc.1.symm⟩)
 · have e : bA F T = (4 * T.s - 2) * 2 ^ (T.q - 2).toNat := by unfold bA AD; rw [if_neg hc]
   rw [e]
   exact bnd T (4 * T.s) (4 * T.s - 2) _ _ _ _ _ _ _ _ _ _ false w kS kM (4 * T.s - 2) (4 * T.s + 2) kH _ _ HU.out HW.out (kN1 _ (by omega)) (kN1 _ (by omega)) (kS1 _ (by omega) _ u1) (kS1 _ (by omega) _ u1) kS3 kV F.lead kL F.qmin kQ (fun g => by cases g) (by
    by_cases he : T.s = F.lead
    · exact .inr ⟨.inl ⟨rfl, rfl, fun hq => hc ⟨he, hq⟩⟩, he.symm⟩
    · refine .inl ⟨rfl, rfl, ?_⟩
      by_cases hh : M.hiN T.s = M.hiN F.lead
      · exact .inr ⟨hh.symm, fun hl => he (M.uI hh hl)⟩
      · exact .inl hh)

def CQ (F : M.Fm) (T : M.Pt) : M.Wd := ⟨T.s, AD F T, T.q⟩

theorem sP {F : M.Fm} (h : F.Ok) {T : M.Pt} (hf : Fin F T) : (CQ F T).Ok := by
 have p1 := h.p1
 have p2 := h.p2
 have tp := h.top2
 have hq : F.qmin = 2 - (F.emax : Int) - (F.p : Int) := rfl
 have l2 : F.lead ≤ 2 ^ 112 := Nat.pow_le_pow_right (by omega) (by omega)
 obtain ⟨s1, s2, q1, q2, q3, q4, s3, s4⟩ := hf
 refine ⟨s1, ?_, ?_, ?_, ?_⟩
 · show T.s < 2 ^ 113
   omega
 · show AD F T < 4 * T.s
   unfold AD; split <;> omega
 · show -16598 ≤ T.q
   omega
 · show T.q ≤ 16600
   omega

end Go.Proofs.YtdfljbpcjkbflaaGreatDoor
namespace Go.Proofs.YtdfljbpcjkbflaaGreatDoor.M
set_option linter.unusedVariables false
set_option maxRecDepth 100000
theorem Fm.Ok.word_self {F : Fm} (h : F.Ok) (X : Nat) (hb : ¬ F.bad X) : F.word (decide (F.sgn X = 1)) (F.fld X) (F.sig X) = X := by
 obtain ⟨hs, _⟩ := h.notBad X hb
 have e1 := Nat.div_add_mod X (2 ^ F.fb)
 have e2 := Nat.div_add_mod (X / 2 ^ F.fb) (2 ^ F.e)
 have e3 : (if F.x = false ∧ 0 < F.fld X then F.sig X - F.lead else F.sig X) = X % 2 ^ F.fb := by
  unfold Fm.sig
  by_cases hc : F.x = false ∧ 0 < F.fld X
  · rw [if_pos hc, if_pos hc]; omega
  · rw [if_neg hc, if_neg hc]
 unfold Fm.word
 rw [e3, h.width.2.1]
 have e4 : F.sgn X = X / 2 ^ F.fb / 2 ^ F.e := rfl
 have e5 : F.fld X = X / 2 ^ F.fb % 2 ^ F.e := rfl
 have e6 : (if decide (F.sgn X = 1) = true then 2 ^ F.fb * 2 ^ F.e else 0) = 2 ^ F.fb * (2 ^ F.e * F.sgn X) := by
  rcases Nat.lt_or_ge (F.sgn X) 1 with hh | hh
  · have : F.sgn X = 0 := by omega
    rw [this]; simp
  · have : F.sgn X = 1 := by omega
    rw [this]; simp
 rw [e6, e5, e4]
 have e7 : 2 ^ F.fb * (X / 2 ^ F.fb) = X / 2 ^ F.fb % 2 ^ F.e * 2 ^ F.fb + 2 ^ F.fb * (2 ^ F.e * (X / 2 ^ F.fb / 2 ^ F.e)) := by
  rw [Nat.mul_comm (X / 2 ^ F.fb % 2 ^ F.e), ← Nat.mul_add, Nat.add_comm, e2]
 omega

theorem Fm.Ok.pk_upk {F : Fm} (h : F.Ok) (X : Nat) (hc : (F.upk X).c = 2 ∨ (F.upk X).c = 3) : F.pk (F.upk X) = X := by
 have hb : ¬ F.bad X := F.upk_bad X (by omega)
 have hw := h.word_self X hb
 unfold Fm.upk at hc ⊢
 simp only [hb, if_false] at hc ⊢
 by_cases h1 : F.fld X = F.top
 · simp only [h1, if_true] at hc
   by_cases h2 : F.sig X = F.lead
   · simp [h2] at hc
   · simp [h2] at hc
 · simp only [h1, if_false] at hc ⊢
   by_cases h2 : 0 < F.fld X
   · simp only [h2, if_true]
     have e : ((F.fld X : Int) - F.emax - F.p + 1 + F.emax + F.p - 1).toNat = F.fld X := by omega
     rw [Fm.pk3, e, hw]
   · simp only [h2, if_false] at hc ⊢
     by_cases h3 : F.sig X = 0
     · simp [h3] at hc
     · simp only [h3, if_false]
       have h0 : F.fld X = 0 := by omega
       have e : F.pk ⟨2, decide (F.sgn X = 1), F.sig X, F.qmin⟩ = F.word (decide (F.sgn X = 1)) 0 (F.sig X) := by simp [Fm.pk]
       rw [e, ← h0, hw]

theorem Fm.Ok.pk_upk_all {F : Fm} (h : F.Ok) (X : Nat) (h0 : (F.upk X).c ≠ 0) (h5 : (F.upk X).c ≠ 5) : F.pk (F.upk X) = X := by
 by_cases hc : (F.upk X).c = 2 ∨ (F.upk X).c = 3
 · exact h.pk_upk X hc
 have hb : ¬ F.bad X := F.upk_bad X h0
 have hw := h.word_self X hb
 unfold Fm.upk at hc h5 ⊢
 simp only [hb, if_false] at hc h5 ⊢
 by_cases h1 : F.fld X = F.top
 · simp only [h1, if_true] at hc h5 ⊢
   by_cases h2 : F.sig X = F.lead
   · simp only [h2, if_true]
     have e : F.pk ⟨4, decide (F.sgn X = 1), 0, 0⟩ = F.word (decide (F.sgn X = 1)) F.top F.lead := by simp [Fm.pk]
     rw [e, ← h1, ← h2, hw]
   · simp [h2] at h5
 · simp only [h1, if_false] at hc ⊢
   by_cases h2 : 0 < F.fld X
   · simp [h2] at hc
   · simp only [h2, if_false] at hc ⊢
     by_cases h3 : F.sig X = 0
     · simp only [h3, if_true]
       have e : F.pk ⟨1, decide (F.sgn X = 1), 0, 0⟩ = F.word (decide (F.sgn X = 1)) 0 0 := by simp [Fm.pk]
       have h4 : F.fld X = 0 := by omega
       rw [h4, h3] at hw
       rw [e, hw]
     · simp [h3] at hc

end Go.Proofs.YtdfljbpcjkbflaaGreatDoor.M
namespace Go.Proofs.YtdfljbpcjkbflaaGreatDoor
open Go.RowKit
set_option linter.unusedVariables false
set_option maxRecDepth 100000
theorem CZ {bs : List Nat} {d : M.Dec} (h : M.whole bs = some d) (hl : bs.length ≤ 800) : cJ bs = (d, 0, 0) := by
 unfold cJ
 rw [if_neg (by omega)]
 unfold M.qE
 rw [h]

theorem JU (n : Bool) : cJ (M.sgl n ++ [105, 110, 102]) = (⟨2, n, [], 0⟩, 0, 0) ∧ cJ (M.sgl n ++ [48]) = (⟨1, n, [], 0⟩, 0, 0) ∧ cJ [78, 97, 78] = (⟨3, false, [], 0⟩, 0, 0) := by
 cases n <;> exact ⟨rfl, rfl, rfl⟩

theorem II {F : M.Fm} (h : F.Ok) (X : Nat) (T : M.Pt) (hT : T = F.upk X) (hp : F.Proper T) (hc : T.c = 2 ∨ T.c = 3) (t : M.Wd) (ht : t = CQ F T) (hok : t.Ok) (r : Nat) (b : t.Best r) (ds : List Nat) (hds : ds = M.sd (t.pick (t.X + r))) (xx : Int) (hx : xx = wdX t r) (hl : ds.length ≤ 41) (hpl : -9000 < (ds.length : Int) + xx ∧ (ds.length : Int) + xx < 9000) :
 (∀ y ∈ M.sgl T.n ++ M.pt ds ((ds.length : Int) + xx), y < 256) ∧ cJ (M.sgl T.n ++ M.pt ds ((ds.length : Int) + xx)) = (⟨1, T.n, ds, xx⟩, 0, 0) ∧ peY F ⟨1, T.n, ds, xx⟩ = X := by
 have hv := b.pick_pos hok
 obtain ⟨dg, -, -⟩ := M.yY _ hv
 rw [← hds] at dg
 have w0 := M.FB dg T.n ((ds.length : Int) + xx) (by omega)
 rw [show (ds.length : Int) + xx - ds.length = xx by omega] at w0
 have hlen := M.IV ds ((ds.length : Int) + xx) (by omega)
 have hsg := M.qQ9 T.n
 have so := M.mY w0
 have hd0 : 0 < ds.length := by rw [hds]; exact List.length_pos_iff.2 (M.yB _ hv)
 obtain ⟨z1, z2⟩ := so.size hd0
 have rp := h.round_pick hp hc t (by rw [ht]; rfl) (by rw [ht]; rfl) (by rw [ht]; rfl) hok (t.X + r) b.ok hv xx hx
 rw [← hds] at rp
 have hD : 0 < M.dec ds := Nat.lt_of_lt_of_le (Nat.pow_pos (by omega)) z1
 have hN : 0 < M.dec ds * 10 ^ xx.toNat := Nat.mul_pos hD (Nat.pow_pos (by omega))
 have hE : 0 < 10 ^ (-xx).toNat := Nat.pow_pos (by omega)
 have c1 : ¬ 5000 < (ds.length : Int) + xx := fun hh => by
  have := (h.far_big _ _ hN hE (h.dec_big (M.dec ds) ds.length xx hd0 z1 hh) T.n 0 0).1
  rw [rp] at this
  rw [this] at hc
  simp at hc
 have c2 : ¬ (ds.length : Int) + xx < -5100 := fun hh => by
  have := (h.far_small _ _ hN hE (h.dec_small (M.dec ds) ds.length xx z2 hh) T.n 0 0).1
  rw [rp] at this
  rw [this] at hc
  simp at hc
 have ce := (h.clamped (M.dec ds) ds.length xx hd0 z1 z2 T.n 0 0).2.2 c1 c2
 refine ⟨fun y hy => (List.mem_append.1 hy).elim (M.sG T.n y) (M.xT ds _ (fun x hx => by have := so.dig x hx; omega) y), CZ w0 (by rw [List.length_append]; omega), ?_⟩
 unfold peY
 rw [if_neg (by simp), if_neg (by simp), if_neg (by simp only; omega)]
 unfold rY peN peD
 simp only
 rw [ce, if_neg (by omega), rp, hT]
 exact h.pk_upk_all X (by rw [← hT]; omega) (by rw [← hT]; omega)

theorem JH {F : M.Fm} (h : F.Ok) (X : Nat) (T : M.Pt) (hT : T = F.upk X) (hp : F.Proper T) :
 (T.c = 4 → peY F ⟨2, T.n, [], 0⟩ = X) ∧ (T.c = 1 → peY F ⟨1, T.n, [], 0⟩ = X) := by
 obtain ⟨tc, tn, ts, tq⟩ := T
 unfold M.Fm.Proper at hp
 simp only at hp ⊢
 refine ⟨fun e => ?_, fun e => ?_⟩
 · have : ts = 0 ∧ tq = 0 := by omega
   have k := h.pk_upk_all X (by rw [← hT]; simp only; omega) (by rw [← hT]; simp only; omega)
   rw [← hT, e, this.1, this.2] at k
   exact k
 · have : ts = 0 ∧ tq = 0 := by omega
   have k := h.pk_upk_all X (by rw [← hT]; simp only; omega) (by rw [← hT]; simp only; omega)
   rw [← hT, e, this.1, this.2] at k
   exact k

def Tx (B : Nat) (w0 w : World) (ra : Option Addr) (n rc : Nat) (xs : List Nat) : Prop :=
 xs.length = n ∧ w.ownsRow B 5 1 (.slice ra n rc) n (UB xs) ∧ Below B w0 w ∧ B ≤ w.heap.size

theorem Tx.nil (w : World) : Tx w.heap.size w w none 0 0 [] := ⟨rfl, World.ownsRow_nil _ _ _ _, Below.refl _ _, Nat.le_refl _⟩

theorem Tx.alloc {B n rc : Nat} {w0 w : World} {ra : Option Addr} {xs : List Nat} (h : Tx B w0 w ra n rc xs) (o : Obj) : Tx B w0 (w.alloc o) ra n rc xs :=
 ⟨h.1, h.2.1.alloc o, h.2.2.1.alloc h.2.2.2 o, by rw [World.size_alloc]; exact Nat.le_succ_of_le h.2.2.2⟩

theorem Tx.src {ops : Array Oper} {rest : List Oper} {o : Oper} {a : Act} {Q : Exit → Act → World → Prop} {B n rc : Nat} {w0 w : World} {ra : Option Addr} {xs : List Nat} (h : Tx B w0 w ra n rc xs) (hgd : o.guard = none) (s x : Operand)
 (ho : o.op = .call { callee := .builtin .append, args := #[s, x], argTypes := #[22, 22] }) (hs : a.eval s = .slice ra n rc) (ao : Option Addr) (m c : Nat) (ys : List Nat) (hx : a.eval x = .slice ao m c) (hl : ys.length = m)
 (hno : ao = none → c = 0) (hr : RdB w ao ys) (hn : n + m ≤ 1000000)
 (k : ∀ ra' rc' w', Tx B w0 w' ra' (n + m) rc' (xs ++ ys) → wpList Tryz.prog ops Q rest (a.put o.dst (.slice ra' (n + m) rc')) w') : wpList Tryz.prog ops Q (o :: rest) a w := by
 obtain ⟨h1, h2, h3, h4⟩ := h
 refine jW hgd s x ho w B _ n xs hs h2 ao m c ys hx hl hno hr hn h4 ?_
 intro ra' rc' w' ho hg
 exact k ra' rc' w' ⟨by rw [List.length_append, h1, hl], ho, h3.grown hg h4 (fun j e => dN h2 e), Nat.le_trans h4 hg.size⟩

theorem nK (w : World) (c : Nat) (hc : c < 256) : RdB (w.alloc (.cells #[.int .u8 (c : Int)] 5)) (some ⟨w.heap.size, 0, none⟩) [c] := by
 refine ⟨fun x hx => by simp at hx; omega, fun _ => ⟨w.heap.size, 0, rfl, fun i hi => ?_⟩⟩
 obtain rfl : i = 0 := by simp at hi; exact hi
 exact (Cls.new w #[.int .u8 (c : Int)] 5).cell 0 (x := .int .u8 (c : Int)) rfl

theorem Tx.one {ops : Array Oper} {rest : List Oper} {o : Oper} {a : Act} {Q : Exit → Act → World → Prop} {B n rc : Nat} {w0 w : World} {ra : Option Addr} {xs : List Nat} (h : Tx B w0 w ra n rc xs) (ci : Int) (c : Nat) (hci : ci = (c : Int)) (hc : c < 256) (hgd : o.guard = none) (s x : Operand)
 (ho : o.op = .call { callee := .builtin .append, args := #[s, x], argTypes := #[22, 22] }) (hs : a.eval s = .slice ra n rc) (hx : a.eval x = .slice (some ⟨w.heap.size, 0, none⟩) 1 1) (hn : n + 1 ≤ 1000000)
 (k : ∀ ra' rc' w', Tx B w0 w' ra' (n + 1) rc' (xs ++ [c]) → wpList Tryz.prog ops Q rest (a.put o.dst (.slice ra' (n + 1) rc')) w') : wpList Tryz.prog ops Q (o :: rest) a (w.alloc (.cells #[.int .u8 ci] 5)) := by
 subst hci
 exact (h.alloc _).src hgd s x ho hs _ 1 1 [c] hx rfl (fun e => by cases e) (nK w c hc) hn k

theorem Tx.str {ops : Array Oper} {rest : List Oper} {o : Oper} {a : Act} {Q : Exit → Act → World → Prop} {B n rc : Nat} {w0 w : World} {ra : Option Addr} {xs : List Nat} (h : Tx B w0 w ra n rc xs) (hgd : o.guard = none) (s x : Operand)
 (ho : o.op = .call { callee := .builtin .append, args := #[s, x], argTypes := #[22, 9] }) (hs : a.eval s = .slice ra n rc) (st : ByteArray) (m : Nat) (ys : List Nat) (hx : a.eval x = .string st) (hm : st.size = m) (hy : bG st = ys) (hn : n + m ≤ 1000000)
 (k : ∀ ra' rc' w', Tx B w0 w' ra' (n + m) rc' (xs ++ ys) → wpList Tryz.prog ops Q rest (a.put o.dst (.slice ra' (n + m) rc')) w') : wpList Tryz.prog ops Q (o :: rest) a w := by
 subst hm
 subst hy
 obtain ⟨h1, h2, h3, h4⟩ := h
 refine xQ hgd s x ho w B _ n xs hs h2 st hx hn h4 ?_
 intro ra' rc' w' ho hg
 have hl := dW ho
 exact k ra' rc' w' ⟨hl, ho, h3.grown hg h4 (fun j e => dN h2 e), Nat.le_trans h4 hg.size⟩

theorem Tx.below {B n rc : Nat} {w0 w w' : World} {ra : Option Addr} {xs : List Nat} (h : Tx B w0 w ra n rc xs) (hb : Below w.heap.size w w') : Tx B w0 w' ra n rc xs := by
 obtain ⟨h1, h2, h3, h4⟩ := h
 refine ⟨h1, ⟨h2.1, ?_⟩, h3.trans (hb.mono h4), Nat.le_trans h4 hb.size⟩
 rcases h2.2 with e | ⟨g, cap, cur, e1, e2, e3, e4⟩
 · exact .inl e
 · exact .inr ⟨g, cap, cur, e1, e2, (hb.block g (Array.getElem?_eq_some_iff.1 e3).1).trans e3, e4⟩

theorem Tx.drew {B n rc : Nat} {w0 w : World} {ra : Option Addr} {xs : List Nat} (h : Tx B w0 w ra n rc xs) : Tx B w0 w.drew ra n rc xs := h.below (Below.refl _ _).drew

theorem Tx.step {ops : Array Oper} {o : Oper} {a : Act} {K : Act → World → Prop} {Q : Exit → Act → World → Prop} {E : Prop} {B n rc : Nat} {w0 w : World} {ra : Option Addr} {xs : List Nat} (h : Tx B w0 w ra n rc xs) (hgd : o.guard = none) (s x : Operand)
 (ho : o.op = .call { callee := .builtin .append, args := #[s, x], argTypes := #[22, 22] }) (hs : a.eval s = .slice ra n rc) (ad : Addr) (m c : Nat) (ys : List Nat) (hx : a.eval x = .slice (some ad) m c) (hl : ys.length = m) (hm : 0 < m)
 (hr : RdB w (some ad) ys) (hn : n + m ≤ 1000000)
 (k : ∀ g rc' w', Tx B w0 w' (some ⟨g, 0, none⟩) (n + m) rc' (xs ++ ys) → w.grownBy w' (Value.ownBlock (.slice ra n rc)) → K (a.put o.dst (.slice (some ⟨g, 0, none⟩) (n + m) rc')) w') :
 if Region.wanted o (yielded ops a.tmps) = true then Oper.wp Tryz.prog o a w K Q else E := by
 obtain ⟨i0, hi, hz0, hz1, hz2⟩ := info_parts Tryz.infoY
 obtain ⟨h1, h2, h3, h4⟩ := h
 refine step_append_lies w hgd s x 22 ho B 5 i0 (.int .u8 0) 1 1 Tryz.underlying22 hi hz0 hz1 hz2 rfl (by decide) (.slice ra n rc) n (UB xs) hs h2 ad m c (UB ys) hx (by rw [aU, hl, Nat.mul_one]) ?_ (jT _) hm (by unfold maxLen; omega) (by omega) h4 w.heap.size rfl ?_
 · intro j u hj
   have hjl : j < ys.length := by
    rcases Nat.lt_or_ge j ys.length with k | k
    · exact k
    · rw [List.getElem?_eq_none (by rw [aU]; exact k)] at hj; cases hj
   obtain ⟨b, off, e2, hc⟩ := hr.2 (by omega)
   cases e2
   rw [gV ys j hjl] at hj
   cases hj
   rw [Addr.add_lit]
   exact hc j hjl
 · intro g cap w' ho' hg _ _
   rw [← bZ] at ho'
   exact k g cap w' ⟨by rw [List.length_append, h1, hl], ho', h3.grown hg h4 (fun j e => dN h2 e), Nat.le_trans h4 hg.size⟩ hg

theorem tO {ops : Array Oper} {rest : List Oper} {o : Oper} {a : Act} {Q : Exit → Act → World → Prop} (hgd : o.guard = none) (s x : Operand)
 (ho : o.op = .call { callee := .builtin .append, args := #[s, x], argTypes := #[22, 22] }) (w : World) (ad : Addr) (n : Nat) (xs : List Nat) (hs : a.eval s = .slice (some ad) n n) (hxl : xs.length = n) (hn0 : 0 < n) (hrs : RdB w (some ad) xs)
 (ao : Addr) (m c : Nat) (ys : List Nat) (hx : a.eval x = .slice (some ao) m c) (hl : ys.length = m) (hm : 0 < m) (hr : RdB w (some ao) ys) (hn : n + m ≤ 1000000)
 (k : ∀ ra rc w', w'.ownsRow w.heap.size 5 1 (.slice ra (n + m) rc) (n + m) (UB (xs ++ ys)) → Below w.heap.size w w' → wpList Tryz.prog ops Q rest (a.put o.dst (.slice ra (n + m) rc)) w') : wpList Tryz.prog ops Q (o :: rest) a w := by
 obtain ⟨i0, hi, hz0, hz1, hz2⟩ := info_parts Tryz.infoY
 have reads : ∀ (p : Addr) (zs : List Nat), 0 < zs.length → RdB w (some p) zs → ∀ j u, (UB zs)[j]? = some u → w.cell? (p.add j) = some u := by
  intro p zs h0 hz j u hj
  have hjl : j < zs.length := by
   rcases Nat.lt_or_ge j zs.length with k | k
   · exact k
   · rw [List.getElem?_eq_none (by rw [aU]; exact k)] at hj; cases hj
  obtain ⟨b, off, e2, hc⟩ := hz.2 h0
  cases e2
  rw [gV zs j hjl] at hj
  cases hj
  rw [Addr.add_lit]
  exact hc j hjl
 have hr' := run_append_grow (P := Tryz.prog) w 22 o.type 5 i0 (.int .u8 0) Tryz.underlying22 hi hz0 ad n n (UB xs) (by rw [aU, hxl, hz1, Nat.mul_one]) (reads ad xs (by omega) hrs) ao m c (UB ys) (by rw [aU, hl, hz1, Nat.mul_one]) (reads ao ys (by omega) hr) (by omega) (by omega) (growslice_fits (by omega) (by rw [hz2]; omega))
 refine wpList_plain hgd fun _ hK => ?_
 unfold Oper.wp execOp
 simp only [ho, resolve, invoke, builtin, Sem.run_bind, Sem.run_pure, Result.andThen_ok, List.map_toArray, List.map_cons, List.map_nil, hs, hx, hr']
 have hge := grownCap_ge w (n + m) n 5
 refine hK _ _ (k _ _ _ ⟨by rw [aU, List.length_append, hxl, hl, Nat.mul_one], .inr ⟨w.heap.size, _, _, rfl, Nat.le_refl _, heap_alloc_new w.drew _, hge, grownCap_le_maxLen w (n + m) n 5 (by unfold maxLen; omega), ?_, ?_⟩⟩ ⟨rfl, rfl, rfl, by simp, fun k hk => heap_alloc_old w.drew _ hk⟩)
 · simp only [Array.size_append, List.size_toArray, size_zeroCells, aU, hxl, hl]
   show n + m + (grownCap w (n + m) n 5 - (n + m)) * 1 = _
   omega
 · rw [bZ]
   simp only [Array.toList_append, List.append_assoc]
   rw [← List.append_assoc]
   have : (n + m) * 1 = (UB xs ++ UB ys).length := by rw [List.length_append, aU, aU, hxl, hl]; omega
   rw [this]
   exact List.take_left

open Go.Shelf
shelf_lay LaysM.n176 Nm 176 at Tryz as Tryz.laysAI

theorem EF (u : Nat) : Lib.byteCells (Lib.decDigits u) = UB (M.txt u) := by
 induction u using Nat.strongRecOn with
 | _ u ih =>
   by_cases h : u < 10
   · rw [Lib.decDigits_one h]
     have e : M.txt u = [48 + u] := by
      unfold M.txt
      by_cases h0 : u = 0
      · rw [if_pos h0, h0]
      · rw [if_neg h0, M.eD h0, show u / 10 = 0 by omega, M.fL, Nat.mod_eq_of_lt h]; rfl
     rw [e]
     have h8 : (UInt8.ofNat (48 + u)).toNat = 48 + u := by simp; omega
     show [Value.int .u8 ((UInt8.ofNat (48 + u)).toNat : Int)] = [Value.int .u8 ((48 + u : Nat) : Int)]
     rw [h8]
   · rw [Lib.decDigits, dif_neg h, Lib.byteCells_append, ih (u / 10) (by omega)]
     have e : M.txt u = M.txt (u / 10) ++ [48 + u % 10] := by
      unfold M.txt
      rw [if_neg (by omega), if_neg (by omega), M.eD (by omega), List.reverse_cons]
     rw [e, bZ]
     have h8 : (UInt8.ofNat (48 + u % 10)).toNat = 48 + u % 10 := by simp; omega
     show _ ++ [Value.int .u8 ((UInt8.ofNat (48 + u % 10)).toNat : Int)] = _ ++ [Value.int .u8 ((48 + u % 10 : Nat) : Int)]
     rw [h8]

theorem zZ (z : Int) : Lib.byteCells (Lib.itoa z) = UB (M.cZ z) := by
 unfold Lib.itoa M.cZ
 by_cases h : z < 0
 · rw [if_pos h, if_pos h, bZ, ← EF]; rfl
 · rw [if_neg h, if_neg h, List.nil_append, ← EF, show z.toNat = z.natAbs by omega]

abbrev Pw (B : Nat) (w : World) : Prop := Lib.TabBelow Tryz.prog B w "internal/strconv.uint64pow10" .u64 Lib.pow10Tab

theorem jP (B : Nat) (w0 w : World) (ra : Option Addr) (n rc : Nat) (xs : List Nat) (z : Int) (hz : -10000 < z ∧ z < 10000) (hn : n ≤ 20000) (h : Tx B w0 w ra n rc xs) (ht : Pw B w0) :
 Calls Tryz.prog 86 #[.slice ra n rc, .int .i64 z, .int .i64 10] w fun e w' => ∃ ra' rc' n', e = .returned (.slice ra' n' rc') ∧ Tx B w0 w' ra' n' rc' (xs ++ M.cZ z) := by
 obtain ⟨h1, h2, h3, h4⟩ := h
 refine (Any.strconv_AppendInt_10 Tryz.laysAI B n z (by omega) (by omega) (.slice ra n rc) (UB xs) w h2 h4 (by omega) (ht.on h3)).mono ?_
 rintro e w' ⟨v', rfl, ho, hb, _⟩
 rw [zZ, ← bZ] at ho
 obtain ⟨ra', rc', rfl⟩ := dF ho
 exact ⟨ra', rc', _, rfl, dW ho, ho, h3.trans hb, Nat.le_trans h4 hb.size⟩

theorem iJ (B : Nat) (w0 w : World) (ra : Option Addr) (n rc z : Nat) (xs : List Nat) (hn : n ≤ 20000) (hz : z ≤ 100) (h : Tx B w0 w ra n rc xs) :
 Calls Tryz.prog 37 #[.slice ra n rc, .int .i64 (z : Int)] w fun e w' => ∃ ra' rc', e = .returned (.slice ra' (n + z) rc') ∧ Tx B w0 w' ra' (n + z) rc' (xs ++ List.replicate z 48) := by
 go_enter Tryz.func37, Tryz.ntmps37
 go_wp2_with fail
 go_loopw [0, 6] (fun tv i wx => ∃ (t : Nat) (oa : Option Addr) (oc : Nat), t ≤ z ∧ i = .int .i64 (t : Int) ∧ tv = .slice oa (n + t) oc ∧ Tx B w0 wx oa (n + t) oc (xs ++ List.replicate t 48)) (fun _ i _ => z - (intOf i).toNat)
 case atStart => exact ⟨0, ra, rc, Nat.zero_le _, rfl, rfl, by simpa using h⟩
 case round =>
  rename World => wx
  obtain ⟨t, oa, oc, ht, rfl, rfl, hx⟩ := hrel
  by_cases hlt : t < z
  · have hlt' : (t : Int) < (z : Int) := by omega
    go_wp2_with (at_builtin; refine hx.one 48 48 rfl (by omega) rfl _ _ rfl rfl rfl (by omega) ?_)
    intro oa2 oc2 w2 h2
    go_wp2_with fail
    go_roundw
    case rel =>
     refine ⟨t + 1, oa2, oc2, by omega, by go_num, rfl, ?_⟩
     rw [List.replicate_succ']
     exact h2
    case measure => simp [intOf]; omega
  · have hlt' : ¬ (t : Int) < (z : Int) := by omega
    have e : t = z := by omega
    subst e
    go_wp2_with fail
    go_ret
    exact ⟨oa, oc, rfl, hx⟩

theorem FT (a : Int) (n : Bool) (h l q : Int) (v : World) : Sem.run Tryz.prog (Instr.field 35 (.agg #[.int .i64 a, .bool n, .int .u64 h, .int .u64 l, .int .i64 q]) 0) v = .ok (.int .i64 a) v := by kernel_rfl

theorem uL (ds : List Nat) (h : 1 ≤ ds.length) : ds.take 1 = [ds.getD 0 0] := by
 match ds, h with
 | x :: r, _ => rfl

theorem oQ (B : Nat) (w0 w : World) (ra : Option Addr) (n rc : Nat) (xs : List Nat) (h : Tx B w0 w ra n rc xs) (hn : n ≤ 1000) (b off m dc : Nat) (ds : List Nat) (hm : ds.length = m) (hm1 : 1 ≤ m) (hm2 : m ≤ 10000) (hc1 : m ≤ dc) (hc2 : dc ≤ 9223372036854775807)
 (hr : ∀ u, Below B w0 u → RdB u (some ⟨b, off, none⟩) ds) (z : Int) (hz : -10000 < z ∧ z < 10000) (ht : Pw B w0) (ys : List Nat) (hy : ys = xs ++ (ds.take 1 ++ ((if 1 < ds.length then 46 :: ds.drop 1 else []) ++ (101 :: M.cZ z)))) :
 Calls Tryz.prog 36 #[.slice ra n rc, .slice (some ⟨b, off, none⟩) m dc, .int .i64 z] w fun e w' => ∃ ra' rc' n', e = .returned (.slice ra' n' rc') ∧ Tx B w0 w' ra' n' rc' ys := by
 have hrw := hr w h.2.2.1
 have h256 : ds.getD 0 0 < 256 := M.bK (by omega) hrw.1 0
 obtain ⟨b', off', e, hcell⟩ := hrw.2 (by omega)
 cases e
 have c00 := hcell 0 (by omega)
 rw [Nat.add_zero] at c00
 have htk := uL ds (by omega)
 obtain ⟨c0, ec⟩ : ∃ c0, c0 = ds.getD 0 0 := ⟨_, rfl⟩
 rw [← ec] at c00 htk h256
 have HTK := hid htk; have HR := hid hr; have HZ := hid hz; have HT := hid ht; have HM := hid hm; have HY := hid hy
 clear htk hr hz ht ec hcell hrw hm hy
 have m0 : (0 : Int) < (m : Int) := by omega
 by_cases h1 : 1 < m
 · have h1' : (1 : Int) < (m : Int) := by omega
   have d1 : ¬ dc = 1 := by omega
   have q1 : (1 : Int) ≤ (m : Int) := by omega
   have q2 : (m : Int) ≤ (dc : Int) := by omega
   have q3 : 1 ≤ dc := by omega
   have q4 : (1 : Int) ≤ (dc : Int) := by omega
   go_enter Tryz.func36, Tryz.ntmps36
   go_wp2_with (at_builtin; refine h.one (c0 : Int) c0 rfl h256 rfl _ _ rfl rfl rfl (by omega) ?_)
   intro ra1 rc1 w1 T1
   go_wp2_with fail
   go_region_held3 (fun _ => True) (trivial)
    (first
      | (refine (T1.drew.alloc (.cells #[.int .u8 46] 5)).step rfl _ _ rfl rfl ⟨w1.heap.size, 0, none⟩ 1 1 [46] rfl rfl (by omega) (nK w1.drew 46 (by omega)) (by omega) ?_; intro g2 rc2 w2 T2 G2)
      | (refine T2.step rfl _ _ rfl rfl ⟨b, off + 1, none⟩ (m - 1) (dc - 1) (ds.drop 1) rfl (by rw [List.length_drop, HM.out]) (by omega) ((HR.out w2 T2.2.2.1).tail 1) (by omega) ?_; intro g3 rc3 w3 T3 G3))
   go_wp2_with (at_builtin; refine T3.one 101 101 rfl (by omega) rfl _ _ rfl rfl rfl (by omega) ?_)
   intro ra4 rc4 w4 T4
   go_wp2_with fail
   refine (jP B w0 w4 ra4 _ rc4 _ z HZ.out (by omega) T4 HT.out).mono ?_
   rintro e w5 ⟨ra5, rc5, n5, rfl, T5⟩
   go_wp2_with fail
   go_ret
   refine ⟨ra5, rc5, n5, rfl, ?_⟩
   rw [HY.out, HTK.out, if_pos (by rw [HM.out]; exact h1)]
   simpa using T5
 · have h1' : ¬ (1 : Int) < (m : Int) := by omega
   go_enter Tryz.func36, Tryz.ntmps36
   go_wp2_with (at_builtin; refine h.one (c0 : Int) c0 rfl h256 rfl _ _ rfl rfl rfl (by omega) ?_)
   intro ra3 rc3 w3 T3
   go_wp2_with (at_builtin; refine T3.one 101 101 rfl (by omega) rfl _ _ rfl rfl rfl (by omega) ?_)
   intro ra4 rc4 w4 T4
   go_wp2_with fail
   refine (jP B w0 w4 ra4 _ rc4 _ z HZ.out (by omega) T4 HT.out).mono ?_
   rintro e w5 ⟨ra5, rc5, n5, rfl, T5⟩
   go_wp2_with fail
   go_ret
   refine ⟨ra5, rc5, n5, rfl, ?_⟩
   rw [HY.out, HTK.out, if_neg (by rw [HM.out]; exact h1)]
   simpa using T5

theorem wY (B : Nat) (w0 w : World) (ra : Option Addr) (n rc : Nat) (xs : List Nat) (h : Tx B w0 w ra n rc xs) (hn : n ≤ 1000) (b off m dc : Nat) (ds : List Nat) (hm : ds.length = m) (hm1 : 1 ≤ m) (hm2 : m ≤ 10000) (hc1 : m ≤ dc) (hc2 : dc ≤ 9223372036854775807)
 (hr : ∀ u, Below B w0 u → RdB u (some ⟨b, off, none⟩) ds) (x p : Int) (ep : (m : Int) + x = p) (hp : -9000 < p ∧ p < 9000) (ht : Pw B w0) :
 Calls Tryz.prog 13 #[.slice ra n rc, .slice (some ⟨b, off, none⟩) m dc, .int .i64 x] w fun e w' => ∃ ra' rc' n', e = .returned (.slice ra' n' rc') ∧ Tx B w0 w' ra' n' rc' (xs ++ M.pt ds p) := by
 have hw : IntKind.i64.wrap ((m : Int) + x) = p := by rw [IntKind.wrap_i64]; omega
 have hw1 : IntKind.i64.wrap (p - 1) = p - 1 := by rw [IntKind.wrap_i64]; omega
 have HR := hid hr; have HT := hid ht; have HM := hid hm; have HEP := hid ep
 clear hr ht hm ep
 by_cases hA : p < -5 ∨ 21 < p
 · have hpt : M.pt ds p = ds.take 1 ++ ((if 1 < ds.length then 46 :: ds.drop 1 else []) ++ (101 :: M.cZ (p - 1))) := by unfold M.pt; rw [if_pos hA]
   have HPT := hid hpt; clear hpt
   by_cases hA1 : p < -5
   · go_enter Tryz.func13, Tryz.ntmps13
     go_wp2_with fail
     refine (oQ B w0 w ra n rc xs h hn b off m dc ds HM.out hm1 hm2 hc1 hc2 HR.out (p - 1) (by omega) HT.out _ rfl).mono ?_
     rintro e w5 ⟨ra5, rc5, n5, rfl, T5⟩
     go_wp2_with fail
     go_ret
     exact ⟨ra5, rc5, n5, rfl, by rw [HPT.out]; exact T5⟩
   · have hA2 : 21 < p := by omega
     go_enter Tryz.func13, Tryz.ntmps13
     go_wp2_with fail
     refine (oQ B w0 w ra n rc xs h hn b off m dc ds HM.out hm1 hm2 hc1 hc2 HR.out (p - 1) (by omega) HT.out _ rfl).mono ?_
     rintro e w5 ⟨ra5, rc5, n5, rfl, T5⟩
     go_wp2_with fail
     go_ret
     exact ⟨ra5, rc5, n5, rfl, by rw [HPT.out]; exact T5⟩
 · have hA1 : ¬ p < -5 := by omega
   have hA2 : ¬ 21 < p := by omega
   by_cases hC : p ≤ 0
   · obtain ⟨z, ez⟩ : ∃ z : Nat, p = -(z : Int) := ⟨(-p).toNat, by omega⟩
     have hpt : M.pt ds p = 48 :: 46 :: (List.replicate z 48 ++ ds) := by unfold M.pt; rw [if_neg hA, if_pos hC, show (-p).toNat = z by omega]
     have hng : IntKind.i64.wrap (-p) = (z : Int) := by rw [IntKind.wrap_i64]; omega
     have HPT := hid hpt; have HEZ := hid ez; clear hpt ez
     go_enter Tryz.func13, Tryz.ntmps13
     go_wp2_with (at_builtin; refine h.str rfl _ _ rfl rfl _ 2 [48, 46] rfl rfl rfl (by omega) ?_)
     intro ra1 rc1 w1 T1
     go_wp2_with fail
     refine (iJ B w0 w1 ra1 (n + 2) rc1 z _ (by omega) (by have := HEZ.out; omega) T1).mono ?_
     rintro e w2 ⟨ra2, rc2, rfl, T2⟩
     go_wp2_with (at_builtin; refine T2.src rfl _ _ rfl rfl (some ⟨b, off, none⟩) m dc ds rfl HM.out (fun e => by cases e) (HR.out w2 T2.2.2.1) (by have := HEZ.out; omega) ?_)
     intro ra3 rc3 w3 T3
     go_wp2_with fail
     go_ret
     exact ⟨ra3, rc3, _, rfl, by rw [HPT.out]; simpa using T3⟩
   · by_cases hD : (m : Int) ≤ p
     · obtain ⟨z, ez⟩ : ∃ z : Nat, p - (m : Int) = (z : Int) := ⟨(p - (m : Int)).toNat, by omega⟩
       have hpt : M.pt ds p = ds ++ List.replicate z 48 := by unfold M.pt; rw [if_neg hA, if_neg hC, HM.out, if_pos hD, show (p - (m : Int)).toNat = z by omega]
       have hng : IntKind.i64.wrap (p - (m : Int)) = (z : Int) := by rw [IntKind.wrap_i64]; omega
       have HPT := hid hpt; have HEZ := hid ez; clear hpt ez
       go_enter Tryz.func13, Tryz.ntmps13
       go_wp2_with (at_builtin; refine h.src rfl _ _ rfl rfl (some ⟨b, off, none⟩) m dc ds rfl HM.out (fun e => by cases e) (HR.out w h.2.2.1) (by omega) ?_)
       intro ra1 rc1 w1 T1
       go_wp2_with fail
       refine (iJ B w0 w1 ra1 (n + m) rc1 z _ (by omega) (by have := HEZ.out; omega) T1).mono ?_
       rintro e w2 ⟨ra2, rc2, rfl, T2⟩
       go_wp2_with fail
       go_ret
       exact ⟨ra2, rc2, _, rfl, by rw [HPT.out]; simpa using T2⟩
     · obtain ⟨q, eq⟩ : ∃ q : Nat, p = (q : Int) := ⟨p.toNat, by omega⟩
       have hpt : M.pt ds p = ds.take q ++ (46 :: ds.drop q) := by unfold M.pt; rw [if_neg hA, if_neg hC, HM.out, if_neg hD, show p.toNat = q by omega]
       have HPT := hid hpt; clear hpt
       subst eq
       have c1 : (0 : Int) ≤ (q : Int) := by omega
       have c2 : (q : Int) ≤ (m : Int) := by omega
       have c3 : (q : Int) ≤ (dc : Int) := by omega
       have c4 : (m : Int) ≤ (dc : Int) := by omega
       have c5 : ¬ dc - q = 0 := by omega
       have c6 : ¬ dc = q := by omega
       go_enter Tryz.func13, Tryz.ntmps13
       go_wp2_with (at_builtin; refine h.src rfl _ _ rfl rfl (some ⟨b, off, none⟩) q dc (ds.take q) rfl (by rw [List.length_take, HM.out]; omega) (fun e => by cases e) ((HR.out w h.2.2.1).front q) (by omega) ?_)
       intro ra1 rc1 w1 T1
       go_wp2_with (at_builtin; refine T1.one 46 46 rfl (by omega) rfl _ _ rfl rfl rfl (by omega) ?_)
       intro ra2 rc2 w2 T2
       go_wp2_with (at_builtin; refine T2.src rfl _ _ rfl rfl (some ⟨b, off + q, none⟩) (m - q) (dc - q) (ds.drop q) rfl (by rw [List.length_drop, HM.out]) (fun e => by cases e) ((HR.out w2 T2.2.2.1).tail q) (by omega) ?_)
       intro ra3 rc3 w3 T3
       go_wp2_with fail
       go_ret
       exact ⟨ra3, rc3, _, rfl, by rw [HPT.out]; simpa using T3⟩

def ShR (v w' : World) (e : Ending) (ds : List Nat) (x : Int) (ng : Bool) (k : Int) : Prop :=
 ∃ ra rc, e = .returned (.agg #[.slice ra ds.length rc, .int .i64 x, .bool ng, .int .i64 k]) ∧ OwnV w' v.heap.size (.slice ra ds.length rc) ds ∧ Below v.heap.size v w'

def ShO (v w' : World) (e : Ending) (ds : List Nat) (x : Int) (ng : Bool) (k : Int) : Prop :=
 ∃ ra rc, e = .returned (.agg #[.slice ra ds.length rc, .int .i64 x, .bool ng, .int .i64 k]) ∧ OwnV w' v.heap.size (.slice ra ds.length rc) ds ∧ Below v.heap.size v w'

end Go.Proofs.YtdfljbpcjkbflaaGreatDoor
