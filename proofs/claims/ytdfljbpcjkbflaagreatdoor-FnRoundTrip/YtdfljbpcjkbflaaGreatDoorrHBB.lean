import Derived.Test.YtdfljbpcjkbflaaGreatDoorrSp2
import Derived.Test.YtdfljbpcjkbflaaGreatDoorrWq
import Derived.Test.YtdfljbpcjkbflaaGreatDoorrMkA
import Derived.Test.YtdfljbpcjkbflaaGreatDoorrPkG
set_option maxHeartbeats 2000000
set_option maxRecDepth 100000
namespace Go.Proofs.YtdfljbpcjkbflaaGreatDoor
open Go.RowKit
set_option linter.unusedVariables false
set_option maxRecDepth 100000
theorem IT {F : M.Fm} (h : F.Ok) (t : M.Pt) (X : Nat) (hc : t.c ≠ 0) (hX : F.Proper t → F.pk t = X) :
 (F.upk X = t → (if F.Proper t then F.pk t else 0) = X ∧ decide (F.Proper t) = true) ∧ (¬ F.upk X = t → (if F.Proper t then F.pk t else 0) = 0 ∧ decide (F.Proper t) = false) := by
 constructor
 · intro e
   have hp : F.Proper t := by
    rcases h.upk_proper X with hb | hb
    · rw [e] at hb; rw [hb] at hc; simp at hc
    · rw [e] at hb; exact hb
   exact ⟨by rw [if_pos hp]; exact hX hp, decide_eq_true hp⟩
 · intro e
   have hp : ¬ F.Proper t := fun hp => e (by rw [← hX hp]; exact (h.upk_pk t hp).1)
   exact ⟨if_neg hp, decide_eq_false hp⟩

theorem G4 {a : M.Pt} {c : Int} {n : Bool} {s : Nat} {q : Int} : (a.c = c ∧ a.n = n ∧ (M.hiN a.s : Int) = (M.hiN s : Int) ∧ (M.loN a.s : Int) = (M.loN s : Int) ∧ a.q = q) ↔ a = ⟨c, n, s, q⟩ := by
 constructor
 · rintro ⟨h1, h2, h3, h4, h5⟩
   refine M.Pt.ext' h1 h2 ?_ h5
   have e1 := M.hl a.s
   have e2 := M.hl s
   simp only
   omega
 · rintro rfl
   exact ⟨rfl, rfl, rfl, rfl, rfl⟩

def wV (F : M.Fm) (t : M.Pt) : Nat := if F.Proper t then F.pk t else 0

theorem wN {F : M.Fm} {c : Int} {n : Bool} {s : Nat} {q : Int} (h1 : c ≠ 1) (h2 : c ≠ 2) (h3 : c ≠ 3) (h4 : c ≠ 4) (h5 : c ≠ 5) : ¬ F.Proper ⟨c, n, s, q⟩ := by
 unfold M.Fm.Proper
 simp only
 omega

theorem DP {F : M.Fm} (h : F.Ok) (s : Nat) : (F.lead ≤ s ↔ F.p ≤ aC s) ∧ (s < 2 * F.lead ↔ aC s ≤ F.p) := by
 have p1 := h.p1
 have e : 2 * F.lead = 2 ^ F.p := by
  unfold M.Fm.lead
  rw [Nat.mul_comm, ← Nat.pow_succ]; congr 1; omega
 rw [e]
 have a := eH s
 refine ⟨⟨fun hh => ?_, fun hh => ?_⟩, ⟨fun hh => bW s _ hh, fun hh => Nat.lt_of_lt_of_le a (Nat.pow_le_pow_right (by omega) hh)⟩⟩
 · refine Classical.byContradiction fun hn => ?_
   have : 2 ^ aC s ≤ 2 ^ (F.p - 1) := Nat.pow_le_pow_right (by omega) (by omega)
   unfold M.Fm.lead at hh
   omega
 · have hp : 0 < s := by
    rcases Nat.eq_zero_or_pos s with rfl | hs
    · rw [eP] at hh; omega
    · exact hs
   have b := gD s hp
   have : 2 ^ (F.p - 1) ≤ 2 ^ (aC s - 1) := Nat.pow_le_pow_right (by omega) (by omega)
   unfold M.Fm.lead
   omega

theorem y9 : D 0 = [] := by rw [← List.length_eq_zero_iff]; have := M.len_of_lt (B := 4294967296) (by omega) 0 0 (by simp); exact Nat.le_zero.1 this

theorem mE (P : Nat → Prop) (F : M.Fm) (h : F.Ok) (n ld : Bool) (ex sg R : Nat) (h2 : ex ≤ F.top) (h3 : sg < 2 * F.lead) (h4 : F.lead ≤ sg ↔ 0 < ex) (hld : ld = decide (0 < ex)) (hR : R = if 0 < ex then sg - F.lead else sg) (hP : P (F.word n ex sg)) (ao : Option Addr) (c : Nat) (w : World) (hr : Rd w ao (D R)) :
 Calls Tryz.prog 27 #[.agg #[.int .i64 (F.p : Int), .int .i64 (1 - (F.emax : Int)), .int .i64 (F.emax : Int), .int .i64 (F.wd : Int), .int .i64 (F.e : Int), .bool F.x], .bool n, .int .i64 (ex : Int), .bool ld, .slice ao (D R).length c] w fun e w' => Wo P w w' e := by
 refine (AK F h n ld ex sg R h2 h3 h4 hld hR ao c w hr).mono ?_
 rintro e w' ⟨rfl, hb⟩
 exact ⟨_, Nat.lt_of_lt_of_le (h.fields n ex sg h2 h3 h4).2.2.2 h.width.2.2, hP, rfl, hb⟩

theorem pZ (f : Nat) (hf : f < 4) (c : Int) (n : Bool) (s : Nat) (hs : s < 2 ^ 128) (q : Int) (hq1 : -9223372036854775808 ≤ q) (hq2 : q < 9223372036854775808) (w : World) :
 Calls Tryz.prog 9 #[.int .i64 (f : Int), .agg #[.int .i64 c, .bool n, .int .u64 (M.hiN s : Int), .int .u64 (M.loN s : Int), .int .i64 q]] w fun e w' => e = .returned (.tuple #[.agg #[.int .u64 (M.hiN (wV (M.fm f) ⟨c, n, s, q⟩) : Int), .int .u64 (M.loN (wV (M.fm f) ⟨c, n, s, q⟩) : Int)], .bool (decide ((M.fm f).Proper ⟨c, n, s, q⟩))]) ∧ Below w.heap.size w w' := by
 have kE := fun v : World => dZ f hf v
 have kU := fun (X : Nat) (hX : X < 2 ^ 128) (v : World) => iW f hf X hX v
 have h := M.nD f
 have kT := fun v : World => CF (M.fm f) h v
 generalize M.fm f = F at *
 simp only [dv, pv] at kE kU
 have p1 := h.p1
 have p2 := h.p2
 have lp := h.leadPos
 have ht := h.top2
 obtain ⟨b1, b2⟩ := DP h s
 have hl : F.lead = 2 ^ (F.p - 1) := rfl
 obtain ⟨E, hE⟩ : ∃ E, wrap64 (wrap64 (wrap64 (q + (F.emax : Int)) + (F.p : Int)) - 1) = E := ⟨_, rfl⟩
 have hE' := hE
 simp only [wrap64] at hE'
 have rN : ¬ F.Proper ⟨c, n, s, q⟩ → (0 = wV F ⟨c, n, s, q⟩ ∧ false = decide (F.Proper ⟨c, n, s, q⟩)) := fun hn => ⟨(if_neg hn).symm, (decide_eq_false hn).symm⟩
 refine (KI (f : Int) c n s q hs _ _ _ _ _ _ (by omega) (F.top : Int) (aC s : Int) E (2 ^ (F.p - 2)) (s % 2 ^ (F.p - 1)) w (fun X => c ≠ 0 ∧ (F.Proper ⟨c, n, s, q⟩ → F.pk ⟨c, n, s, q⟩ = X)) (fun Y ok => Y = wV F ⟨c, n, s, q⟩ ∧ ok = decide (F.Proper ⟨c, n, s, q⟩))
  (fun c1 c2 c3 c4 c5 => rN (wN c1 c2 c3 c4 c5))
  (fun e hb => rN (by
    subst e
    have := b1.2 (by omega)
    unfold M.Fm.Proper; simp only; omega))
  (fun e hb => rN (by
    subst e
    clear kE kU kT rN
    unfold M.Fm.Proper; simp only; omega))
  hE (by rw [IntKind.wrap_i64]; omega) (by rw [IntKind.wrap_i64]; omega) kE kT
  (fun v ao cc hr => cO ao _ cc s v rfl (by have := iB hs; omega) hr _ rfl)
  (fun v => by have := jD (F.p - 2) v (by omega); rwa [show ((F.p - 2 : Nat) : Int) = (F.p : Int) - 2 by omega] at this)
  (fun v ao cc hr => by have := jI ao _ cc (F.p - 1) s v rfl (by have := iB hs; omega) (by omega) hr; rwa [show ((F.p - 1 : Nat) : Int) = (F.p : Int) - 1 by omega] at this)
  (fun e v => by
    have := mE (fun X => c ≠ 0 ∧ (F.Proper ⟨c, n, s, q⟩ → F.pk ⟨c, n, s, q⟩ = X)) F h n false 0 0 0 (by omega) (by omega) (by omega) rfl rfl ⟨by omega, fun _ => by subst e; simp [M.Fm.pk]⟩ none 0 v (by rw [y9]; exact Rd.nil _ _)
    rw [y9] at this
    exact this)
  (fun e v => by
    have := mE (fun X => c ≠ 0 ∧ (F.Proper ⟨c, n, s, q⟩ → F.pk ⟨c, n, s, q⟩ = X)) F h n true F.top F.lead 0 (Nat.le_refl _) (by omega) (by omega) (by simp; omega) (by rw [if_pos (by omega)]; omega) ⟨by omega, fun _ => by subst e; simp [M.Fm.pk]⟩ none 0 v (by rw [y9]; exact Rd.nil _ _)
    rw [y9] at this
    exact this)
  (fun e v ao cc hr => by
    have e1 : 2 ^ (F.p - 2) < F.lead := by rw [hl]; exact Nat.pow_lt_pow_right (by omega) (by omega)
    have e2 : F.pk ⟨c, n, s, q⟩ = F.word false F.top (F.lead + 2 ^ (F.p - 2)) := by subst e; simp [M.Fm.pk]
    clear hl b1 b2
    generalize 2 ^ (F.p - 2) = xx at *
    exact mE _ F h false true F.top (F.lead + xx) xx (Nat.le_refl _) (by omega) (by omega) (by simp; omega) (by rw [if_pos (by omega)]; omega) ⟨by omega, fun _ => e2⟩ ao cc v hr)
  (fun e hb v ao cc hr => mE _ F h n false 0 s s (by omega) (by have := b1.1; omega) (by omega) rfl rfl ⟨by omega, fun _ => by subst e; simp [M.Fm.pk]⟩ ao cc v hr)
  (fun e hb hE1 hE2 v ao cc hr => by
    have c1 : F.lead ≤ s := b1.2 (by omega)
    have c2 : s < 2 * F.lead := b2.2 (by omega)
    have e1 : s % 2 ^ (F.p - 1) = s - F.lead := by rw [← hl, Nat.mod_eq_sub_mod c1]; exact Nat.mod_eq_of_lt (by omega)
    obtain ⟨x, rfl⟩ : ∃ x : Nat, E = (x : Int) := ⟨E.toNat, by omega⟩
    refine mE _ F h n true x s _ (by omega) c2 (by omega) (by simp; omega) (by rw [if_pos (by omega)]; exact e1) ⟨by omega, fun hp => ?_⟩ ao cc v hr
    subst e
    unfold M.Fm.Proper at hp
    simp only at hp
    simp [M.Fm.pk, show (q + (F.emax : Int) + (F.p : Int) - 1).toNat = x by omega])
  (fun X hX hP => by
    have an := IT h ⟨c, n, s, q⟩ X hP.1 hP.2
    exact ⟨_, _, _, _, _, fun e => by have := an.1 (G4.1 e); exact ⟨this.1.symm, this.2.symm⟩, fun e => by have := an.2 (fun e' => e (G4.2 e')); exact ⟨this.1.symm, this.2.symm⟩, fun v => kU X hX v⟩)).mono ?_
 rintro e w' ⟨Y, ok, ⟨rfl, rfl⟩, rfl, hb⟩
 exact ⟨rfl, hb⟩

theorem GB {F : M.Fm} (h : F.Ok) (t : M.Pt) : wV F t < 2 ^ 128 := by
 unfold wV
 by_cases hp : F.Proper t
 · rw [if_pos hp]
   exact Nat.lt_of_lt_of_le (h.upk_pk t hp).2 h.width.2.2
 · rw [if_neg hp]; exact Nat.pow_pos (by omega)

theorem BU (f : Int) {w0 v : World} {ao : Option Addr} {n c : Nat} {bs : List Nat} (hl : bs.length = n) (hn : n ≤ 1048576) (hb : RdB w0 ao bs) (h : Rs w0 v ao n c) :
 Calls Tryz.prog 30 #[.pointer (some ⟨w0.heap.size, 0, none⟩), .int .i64 f] v fun e v' => ∃ X : Nat, X < 2 ^ 128 ∧ e = .returned (.agg #[.int .u64 (M.hiN X : Int), .int .u64 (M.loN X : Int)]) ∧ Rs w0 v' ao n c := by
 obtain ⟨k, hk, hf⟩ : ∃ k : Nat, k < 4 ∧ ((f < 0 ∨ 4 ≤ f) ∧ k = 1 ∨ f = (k : Int)) := by
  by_cases hf : f < 0 ∨ 4 ≤ f
  · exact ⟨1, by omega, .inl ⟨hf, rfl⟩⟩
  · exact ⟨f.toNat, by omega, .inr (by omega)⟩
 have ok := M.nD k
 have kE := fun u : World => dZ k hk u
 have kP := fun (cl : Int) (ng : Bool) (s : Nat) (q : Int) (u : World) (hs : s < 2 ^ 128) (h1 : -1000000 ≤ q) (h2 : q ≤ 1000000) => (pZ k hk cl ng s hs q (by omega) (by omega) u).mono (fun e u' g => (⟨_, _, GB ok _, g.1, g.2⟩ : ∃ (Y : Nat) (o : Bool), Y < 2 ^ 128 ∧ e = .returned (.tuple #[.agg #[.int .u64 (M.hiN Y : Int), .int .u64 (M.loN Y : Int)], .bool o]) ∧ Below u.heap.size u u'))
 simp only [dv] at kE
 have p1 := ok.p1; have p2 := ok.p2; have hwd := ok.w
 have hem : (M.fm k).emax ≤ 16383 ∧ 1 ≤ (M.fm k).emax := by
  have e2 := ok.e2
  have e1 := ok.e1
  unfold M.Fm.emax
  have a : 2 ^ ((M.fm k).e - 1) ≤ 2 ^ 14 := Nat.pow_le_pow_right (by omega) (by omega)
  have b : 2 ^ 7 ≤ 2 ^ ((M.fm k).e - 1) := Nat.pow_le_pow_right (by omega) (by omega)
  omega
 rcases hf with ⟨hf, rfl⟩ | rfl
 · generalize M.fm 1 = F at *
   exact C8 F.p (F.p - 1) F.wd (129 - F.p) f 1 (1 - (F.emax : Int)) F.emax F.e _ (F.emax - (1 - (F.emax : Int)) + 1) F.x hl hn hb h (by omega) (by omega) (by omega) (by omega) hwd rfl rfl (by omega) (by omega) (by omega) (by omega) 0 0 0 0 0 false (fun u => nA f u hf) (Or.inr ⟨rfl, kE, rfl⟩) kP
 · generalize M.fm k = F at *
   exact C8 F.p (F.p - 1) F.wd (129 - F.p) k k (1 - (F.emax : Int)) F.emax F.e _ (F.emax - (1 - (F.emax : Int)) + 1) F.x hl hn hb h (by omega) (by omega) (by omega) (by omega) hwd rfl rfl (by omega) (by omega) (by omega) (by omega) _ _ _ _ _ _ kE (Or.inl ⟨rfl, rfl, rfl, rfl, rfl, rfl, rfl⟩) kP

theorem AN (ao : Option Addr) (n c : Nat) (bs : List Nat) (w : World) (hl : bs.length = n) (hn : n ≤ 1048576) (hb : RdB w ao bs) :
 Calls Tryz.prog 10 #[.slice ao n c] w fun e w' => ∃ (f : Int) (X : Nat), X < 2 ^ 128 ∧ e = .returned (.tuple #[.int .i64 f, .agg #[.int .u64 (M.hiN X : Int), .int .u64 (M.loN X : Int)]]) ∧ Below w.heap.size w w' := by
 go_enter Tryz.func10, Tryz.ntmps10
 go_wp2_with fail
 have bw : Below w.heap.size w (w.alloc (.cells #[.int .u64 0, .int .u64 0] 25)) := (Below.refl _ _).alloc (Nat.le_refl _) _
 have R1 : Cls (w.alloc (.cells #[.int .u64 0, .int .u64 0] 25)) w.heap.size #[.int .u64 0, .int .u64 0] 25 := Cls.new _ _ _
 have hz1 : (w.alloc (.cells #[.int .u64 0, .int .u64 0] 25)).heap.size = w.heap.size + 1 := by simp
 have hb1 := hb.below bw
 have e1 : w.heap.size + 1 = (w.alloc (.cells #[.int .u64 0, .int .u64 0] 25)).heap.size := hz1.symm
 rw [e1]
 generalize w.alloc (.cells #[.int .u64 0, .int .u64 0] 25) = w1 at bw R1 hz1 hb1 ⊢
 clear e1 hz1
 have s0 : Rs w1 (w1.alloc (.cells #[.slice ao n c, .int .i64 0] 65)) ao n c := ⟨0, by omega, heap_alloc_new w1 _, (Below.refl _ _).alloc (Nat.le_refl _) _⟩
 generalize w1.alloc (.cells #[.slice ao n c, .int .i64 0] 65) = w2 at s0 ⊢
 refine (vO hl hn hb1 s0).mono ?_
 rintro e w3 ⟨f, _, _, rfl, s3⟩
 go_wp2_with fail
 refine (BU f hl hn hb1 s3).mono ?_
 rintro e w4 ⟨X, hX, rfl, s4⟩
 have R4 := R1.below s4.below
 have y0 := R4.cell 0 (x := .int .u64 0) rfl
 have y1 := R4.cell 1 (x := .int .u64 0) rfl
 have y2 := R4.frozen 0
 have y3 := R4.frozen 1
 have bw4 : Below w.heap.size w w4 := bw.trans (s4.below.mono bw.size)
 clear s0 s3 R1
 go_wp2_with fail
 have R9 : Cls ((w4.setCell ⟨w.heap.size, 0, none⟩ (.int .u64 (M.hiN X : Int))).setCell ⟨w.heap.size, 1, none⟩ (.int .u64 (M.loN X : Int))) w.heap.size #[.int .u64 (M.hiN X : Int), .int .u64 (M.loN X : Int)] 25 := (R4.set 0 _ _ rfl).set 1 _ _ rfl
 have H9 : Below w.heap.size w ((w4.setCell ⟨w.heap.size, 0, none⟩ (.int .u64 (M.hiN X : Int))).setCell ⟨w.heap.size, 1, none⟩ (.int .u64 (M.loN X : Int))) := (bw4.setCell (p := ⟨w.heap.size, 0, none⟩) (Nat.le_refl _) _).setCell (p := ⟨w.heap.size, 1, none⟩) (Nat.le_refl _) _
 generalize (w4.setCell ⟨w.heap.size, 0, none⟩ (.int .u64 (M.hiN X : Int))).setCell ⟨w.heap.size, 1, none⟩ (.int .u64 (M.loN X : Int)) = w9 at R9 H9 ⊢
 have z0 := R9.cell 0 (x := .int .u64 (M.hiN X : Int)) rfl
 have z1 := R9.cell 1 (x := .int .u64 (M.loN X : Int)) rfl
 exact bodyPost_ret (v := .tuple #[.int .i64 f, .agg #[.int .u64 (M.hiN X : Int), .int .u64 (M.loN X : Int)]]) (by simp [results, Tryz.results10, go_sem, z0, z1]) rfl ⟨f, X, hX, rfl, H9⟩

theorem A8 (ao : Option Addr) (n c : Nat) (bs : List Nat) (w : World) (hl : bs.length = n) (hn : n ≤ 1048576) (hb : RdB w ao bs) :
 Calls Tryz.prog 4 #[.slice ao n c] w fun e w' => ∃ (f : Int) (X : Nat), X < 2 ^ 128 ∧ e = .returned (.tuple #[.int .i64 f, .agg #[.int .u64 (M.hiN X : Int), .int .u64 (M.loN X : Int)]]) ∧ Below w.heap.size w w' := by
 have bw : Below w.heap.size w (w.alloc (.cells #[.int .u64 0, .int .u64 0] 25)) := (Below.refl _ _).alloc (Nat.le_refl _) _
 have R1 : Cls (w.alloc (.cells #[.int .u64 0, .int .u64 0] 25)) w.heap.size #[.int .u64 0, .int .u64 0] 25 := Cls.new _ _ _
 go_enter Tryz.func4, Tryz.ntmps4
 go_wp2_with fail
 refine (AN ao n c bs _ hl hn (hb.below bw)).mono ?_
 rintro e w4 ⟨f, X, hX, rfl, hb4⟩
 have R4 := R1.below hb4
 have y0 := R4.cell 0 (x := .int .u64 0) rfl
 have y1 := R4.cell 1 (x := .int .u64 0) rfl
 have y2 := R4.frozen 0
 have y3 := R4.frozen 1
 have bw4 : Below w.heap.size w w4 := bw.trans (hb4.mono bw.size)
 clear R1
 go_wp2_with fail
 have R9 := (R4.set 0 (.int .u64 (M.hiN X : Int)) _ rfl).set 1 (.int .u64 (M.loN X : Int)) #[.int .u64 (M.hiN X : Int), .int .u64 (M.loN X : Int)] rfl
 have H9 : Below w.heap.size w ((w4.setCell ⟨w.heap.size, 0, none⟩ (.int .u64 (M.hiN X : Int))).setCell ⟨w.heap.size, 1, none⟩ (.int .u64 (M.loN X : Int))) := (bw4.setCell (p := ⟨w.heap.size, 0, none⟩) (Nat.le_refl _) _).setCell (p := ⟨w.heap.size, 1, none⟩) (Nat.le_refl _) _
 have z0 := R9.cell 0 (x := .int .u64 (M.hiN X : Int)) rfl
 have z1 := R9.cell 1 (x := .int .u64 (M.loN X : Int)) rfl
 exact bodyPost_ret (v := .tuple #[.int .i64 f, .agg #[.int .u64 (M.hiN X : Int), .int .u64 (M.loN X : Int)]]) (by simp [results, Tryz.results4, go_sem, z0, z1]) rfl ⟨f, X, hX, rfl, H9⟩

end Go.Proofs.YtdfljbpcjkbflaaGreatDoor
