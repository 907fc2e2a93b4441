import Derived.OpenShut
import Derived.Test.YtehplfmnipadmafDoorSp2
import Derived.Test.YtehplfmnipadmafDoorBnZ
import Derived.Test.YtehplfmnipadmafDoorSpb
import Derived.Test.YtehplfmnipadmafDoorSpd
namespace Go.Proofs.YtehplfmnipadmafDoor

open Go.RowKit

set_option linter.unusedVariables false
set_option maxRecDepth 100000

/-- An interval with three lists of its own, whatever they are. -/
def Iw (w w' : World) (e : Ending) (xs ys zs : List Nat) (cl ok : Bool) : Prop :=
  ∃ (a : Option Addr) (ca : Nat) (b : Option Addr) (cb : Nat) (c : Option Addr) (cc m1 m2 : Nat), e = .returned (.agg #[.slice a xs.length ca, .slice b ys.length cb, .slice c zs.length cc, .bool cl, .bool ok]) ∧ w.heap.size ≤ m1 ∧ m1 ≤ m2 ∧ m2 ≤ w'.heap.size ∧ Own w' w.heap.size m1 a ca xs ∧ Own w' m1 m2 b cb ys ∧ Own w' m2 w'.heap.size c cc zs ∧ Below w.heap.size w w'

theorem belDrew {B : Nat} {w v : World} (h : Below B w v) (q : Nat) : Below B w (v.drewN q) := ⟨h.os, h.tape, h.output, h.size, h.block⟩

theorem marks_len3 (k n : Nat) : (marks k n).length = n := by simp [marks]

/-- An interval's variable, filled. -/
def J5 (v : World) (g : Nat) (xs ys zs : List Nat) (cl ok : Bool) (a : Option Addr) (ca : Nat) (b : Option Addr) (cb : Nat) (c : Option Addr) (cc : Nat) : Prop :=
  v.cell? ⟨g, 0, none⟩ = some (.slice a xs.length ca) ∧ v.cell? ⟨g, 1, none⟩ = some (.slice b ys.length cb) ∧ v.cell? ⟨g, 2, none⟩ = some (.slice c zs.length cc) ∧ v.cell? ⟨g, 3, none⟩ = some (.bool cl) ∧ v.cell? ⟨g, 4, none⟩ = some (.bool ok) ∧ g < v.heap.size

theorem J5_new (v : World) (xs ys zs : List Nat) (cl ok : Bool) (a : Option Addr) (ca : Nat) (b : Option Addr) (cb : Nat) (c : Option Addr) (cc : Nat) : J5 (v.alloc (.cells #[.slice a xs.length ca, .slice b ys.length cb, .slice c zs.length cc, .bool cl, .bool ok] 30)) v.heap.size xs ys zs cl ok a ca b cb c cc := by
  refine ⟨?_, ?_, ?_, ?_, ?_, ?_⟩ <;> simp [go_sem]

theorem J5.same {v v' : World} {g : Nat} {xs ys zs : List Nat} {cl ok : Bool} {a : Option Addr} {ca : Nat} {b : Option Addr} {cb : Nat} {c : Option Addr} {cc : Nat} (h : J5 v g xs ys zs cl ok a ca b cb c cc) (hs : v.heap.size ≤ v'.heap.size) (hh : v'.heap[g]? = v.heap[g]?) : J5 v' g xs ys zs cl ok a ca b cb c cc :=
  ⟨(World.cell?_of_block (a := ⟨g, 0, none⟩) hh).trans h.1, (World.cell?_of_block (a := ⟨g, 1, none⟩) hh).trans h.2.1, (World.cell?_of_block (a := ⟨g, 2, none⟩) hh).trans h.2.2.1, (World.cell?_of_block (a := ⟨g, 3, none⟩) hh).trans h.2.2.2.1, (World.cell?_of_block (a := ⟨g, 4, none⟩) hh).trans h.2.2.2.2.1, Nat.lt_of_lt_of_le h.2.2.2.2.2 hs⟩

theorem J5.below {v v' : World} {g : Nat} {xs ys zs : List Nat} {cl ok : Bool} {a : Option Addr} {ca : Nat} {b : Option Addr} {cb : Nat} {c : Option Addr} {cc : Nat} (h : J5 v g xs ys zs cl ok a ca b cb c cc) (hb : Below v.heap.size v v') : J5 v' g xs ys zs cl ok a ca b cb c cc := h.same hb.size (hb.block g h.2.2.2.2.2)

end Go.Proofs.YtehplfmnipadmafDoor

namespace Go.Proofs.YtehplfmnipadmafDoor

open Go.RowKit

set_option linter.unusedVariables false
set_option maxRecDepth 100000

theorem cmp_ne {a b : Nat} (h : ¬ a = b) : ¬ cmpI a b = 0 := by
  unfold cmpI
  split
  · omega
  · split <;> omega

set_option maxHeartbeats 1000000 in
theorem sspanB (f : Nat) (hf : f < 4) (T : M.Pt) (h : (M.fm f).Ok) (hfi : Fin (M.fm f) T) (hc : T.c = 3) (he : ¬ T.s = (M.fm f).lead) (w : World) :
    Calls Tryd.prog 25 #[.int .i64 (f : Int), .agg #[.int .i64 T.c, .bool T.n, .int .u64 (M.hiN T.s : Int), .int .u64 (M.loN T.s : Int), .int .i64 T.q]] w fun e w' => Sp3 w w' e (bA (M.fm f) T) (bB T) (bC T) := by
  have kE := fun v : World => sdescribe_ok f hf v
  simp only [dv] at kE
  generalize M.fm f = F at *
  have p1 := h.p1
  have p2 := h.p2
  have lp := h.leadPos
  have tp := h.top2
  have l2 : F.lead ≤ 2 ^ 112 := Nat.pow_le_pow_right (by omega) (by omega)
  obtain ⟨s1, s2, q1, q2, q3, q4, s3, s4⟩ := hfi
  have kO := fun v : World => l2Of_any T.s (show T.s < 2 ^ 128 by omega) v
  have kL2 : ∀ (v : World) (ao : Option Addr) (c : Nat), Rd v ao (D T.s) → Calls Tryd.prog 38 #[.slice ao (D T.s).length c, .int .i64 2] v fun e w' => Ret v w' e (D (4 * T.s)) := fun v ao c hr => by
    have := l1Left_any ao _ c 2 T.s v rfl (Nat.le_trans (D_small T.s (by omega)) (by omega)) (by omega) hr
    rw [show T.s * 2 ^ 2 = 4 * T.s by omega] at this
    exact this
  have k2 : ∀ v : World, Calls Tryd.prog 51 #[.int .u64 2] v fun e w' => Ret v w' e (D 2) := fun v => l1Of_any 2 v (by omega)
  have k1 : ∀ v : World, Calls Tryd.prog 51 #[.int .u64 1] v fun e w' => Ret v w' e (D 1) := fun v => l1Of_any 1 v (by omega)
  have dl : ∀ x : Nat, x < 2 ^ 128 → (D x).length ≤ 6 := fun x hx => D_small x (by omega)
  have kA := fun (v : World) (ao bo : Option Addr) (c d : Nat) (hr : Rd v ao (D (4 * T.s))) (hr2 : Rd v bo (D 2)) => l1Add_any ao bo _ _ c d (4 * T.s) 2 v rfl rfl (Nat.le_trans (dl _ (by omega)) (by omega)) (Nat.le_trans (dl _ (by omega)) (by omega)) hr hr2
  have kS := fun (v : World) (ao bo : Option Addr) (c d : Nat) (hr : Rd v ao (D (4 * T.s))) (hr2 : Rd v bo (D 2)) => l1Sub_any ao bo _ _ c d (4 * T.s) 2 v rfl rfl (by omega) (Nat.le_trans (dl _ (by omega)) (by omega)) hr hr2
  have kL := fun (x : Nat) (hx : x < 2 ^ 128) (u : Nat) (hu : u ≤ 20000) (v : World) (ao : Option Addr) (c : Nat) (hr : Rd v ao (D x)) => l1Left_any ao _ c u x v rfl (Nat.le_trans (dl _ hx) (by omega)) (by omega) hr
  have kT : ∀ (v : World) (z : Int), z = (F.p : Int) - 1 → Calls Tryd.prog 34 #[.int .i64 z] v fun e w' => Ret v w' e (D F.lead) := fun v z hz => by
    have := l2Two_any (F.p - 1) v (by omega)
    rw [show ((F.p - 1 : Nat) : Int) = z by omega] at this
    exact this
  have kC : ∀ (v : World) (ao bo : Option Addr) (c d : Nat), Rd v ao (D T.s) → Rd v bo (D F.lead) → Calls Tryd.prog 41 #[.slice ao (D T.s).length c, .slice bo (D F.lead).length d] v fun e w' => e = .returned (.int .i64 (cmpI T.s F.lead)) ∧ Below v.heap.size v w' := fun v ao bo c d hr hr2 => (l1Cmp_any ao bo _ _ c d T.s F.lead v rfl rfl (Nat.le_trans (dl _ (by omega)) (by omega)) (Nat.le_trans (dl _ (by omega)) (by omega)) hr hr2).mono fun e w' ⟨he', hw⟩ => ⟨he', by rw [hw]; exact Below.refl _ _⟩
  have hcm := cmp_ne he
  have hcm2 : (cmpI T.s F.lead == 0) = false := by simp [hcm]
  have hz : wrap64 (T.q - 2) = T.q - 2 := by simp only [wrap64]; omega
  have HZ := hid hz
  clear hz
  by_cases hp : 0 ≤ T.q - 2
  · obtain ⟨u, hu⟩ : ∃ u : Nat, (u : Int) = T.q - 2 := ⟨(T.q - 2).toNat, by omega⟩
    have hu1 : (T.q - 2).toNat = u := by omega
    have hu2 : (2 - T.q).toNat = 0 := by omega
    have hC : bC T = 1 := by simp [bC, hu2]
    have eB : bB T = (4 * T.s + 2) * 2 ^ u := by unfold bB; rw [hu1]
    have kLx := fun (x : Nat) (hx : x < 2 ^ 128) => kL x hx u (by omega)
    rw [hu] at kLx
    have eA : bA F T = (4 * T.s - 2) * 2 ^ u := by unfold bA bLow; rw [if_neg (fun hh => he hh.1), hu1]
    rw [eA, eB]
    exact span_bp (f : Int) T _ _ _ _ _ _ _ _ _ w kE kO (4 * T.s) kL2 k2 k1 (4 * T.s + 2) (4 * T.s - 2) kA kS hc F.lead _ (wp1 h) (wp2 h) kT kC hcm hcm2 (T.q - 2) HZ.out hp (kLx _ (by omega)) (kLx _ (by omega)) hC
  · have hu1 : (T.q - 2).toNat = 0 := by omega
    obtain ⟨u, hu⟩ : ∃ u : Nat, (u : Int) = -(T.q - 2) := ⟨(-(T.q - 2)).toNat, by omega⟩
    have hu2 : (2 - T.q).toNat = u := by omega
    have eB : bB T = 4 * T.s + 2 := by unfold bB; rw [hu1, Nat.pow_zero, Nat.mul_one]
    have kT2 : ∀ (v : World) (y : Int), y = -(T.q - 2) → Calls Tryd.prog 34 #[.int .i64 y] v fun e w' => Ret v w' e (D (bC T)) := fun v y hy => by
      have := twoL_any u v (by omega)
      rw [hu, ← hy] at this
      unfold bC
      rw [hu2]
      exact this
    have n1 : wrap64 (-(T.q - 2)) = -(T.q - 2) := by simp only [wrap64]; omega
    have n2 : IntKind.i64.wrap (-(T.q - 2)) = -(T.q - 2) := by simp only [IntKind.wrap_i64]; omega
    have HN := hid (And.intro n1 n2)
    clear n1 n2
    have eA : bA F T = 4 * T.s - 2 := by unfold bA bLow; rw [if_neg (fun hh => he hh.1), hu1, Nat.pow_zero, Nat.mul_one]
    exact span_bn (f : Int) T _ _ _ _ _ _ _ _ _ w kE kO (4 * T.s) kL2 k2 k1 (4 * T.s + 2) (4 * T.s - 2) kA kS hc F.lead _ (wp1 h) (wp2 h) kT kC hcm hcm2 (T.q - 2) HZ.out hp HN.out.1 HN.out.2 kT2 eA eB

theorem bnd_lt {F : M.Fm} {T : M.Pt} (hf : Fin F T) : bA F T < 2 ^ (128 + (T.q - 2).toNat) ∧ bB T < 2 ^ (128 + (T.q - 2).toNat) ∧ bC T < 2 ^ (128 + (2 - T.q).toNat) ∧ (T.q - 2).toNat ≤ 17000 ∧ (2 - T.q).toNat ≤ 17000 := by
  obtain ⟨s1, s2, q1, q2, q3, q4, s3, s4⟩ := hf
  refine ⟨mul_pow_lt ?_, mul_pow_lt (by omega), ?_, by omega, by omega⟩
  · unfold bLow; split <;> omega
  · unfold bC
    exact Nat.pow_lt_pow_right (by omega) (by omega)

theorem sbounds_any (f : Nat) (hf : f < 4) (X : Nat) (hX : X < 2 ^ 128) (w : World) (T : M.Pt) (hT : T = (M.fm f).upk X) (hc : T.c = 2 ∨ T.c = 3) :
    Calls Tryd.prog 7 #[.int .i64 (f : Int), .agg #[.int .u64 (M.hiN X : Int), .int .u64 (M.loN X : Int)]] w fun e w' => Iv w w' e (bA (M.fm f) T) (bB T) (bC T) (decide (T.s % 2 = 0)) := by
  have kU := fun v : World => sunpack_any f hf X hX v
  have h := M.fm_ok f
  have hp := h.upk_proper X
  rw [← hT] at kU hp
  have hpr : (M.fm f).Proper T := by
    rcases hp with hp | hp
    · rw [hp] at hc; simp at hc
    · exact hp
  have hfi := fin_of h hpr hc
  have kP := fun v : World => sspan_any f hf T h hfi hc v (fun h3 he => sspanB f hf T h hfi h3 he v)
  have hl := bnd_lt hfi
  simp only [pv] at kU
  have kO := fun (A j : Nat) (hA : A < 2 ^ (128 + j)) (hj : j ≤ 17000) (v : World) (ao : Option Addr) (c : Nat) (hr : Rd v ao (D A)) => l1Out_any ao _ c A v rfl (Nat.le_trans (D_len_b A (128 + j) 1000 hA (by omega)) (by omega)) hr
  have hcl : ((M.loN T.s : Int).tmod 2 == 0) = decide (T.s % 2 = 0) := by
    have e1 : (M.loN T.s : Int).tmod 2 = ((M.loN T.s % 2 : Nat) : Int) := rfl
    have e2 : M.loN T.s % 2 = T.s % 2 := by unfold M.loN; omega
    rw [e1, e2]
    by_cases h : T.s % 2 = 0
    · simp [h]
    · have h2 : T.s % 2 = 1 := by omega
      simp [h2]
  rcases hc with hc | hc
  · exact sbnd_in2 (f : Int) X T 0 0 0 0 0 false w kU _ _ _ _ kP (kO _ _ hl.1 hl.2.2.2.1) (kO _ _ hl.2.1 hl.2.2.2.1) (kO _ _ hl.2.2.1 hl.2.2.2.2) hcl hc
  · exact sbnd_in3 (f : Int) X T 0 0 0 0 0 false w kU _ _ _ _ kP (kO _ _ hl.1 hl.2.2.2.1) (kO _ _ hl.2.1 hl.2.2.2.1) (kO _ _ hl.2.2.1 hl.2.2.2.2) hcl hc

theorem own_none (v : World) (lo hi : Nat) : Own v lo hi none 0 [] := ⟨World.ownsRow_nil _ _ _ _, fun k hk => by simp [Value.ownBlock] at hk⟩

theorem Iw_zero {w w' : World} {e : Ending} (h : e = .returned (.agg #[.slice none 0 0, .slice none 0 0, .slice none 0 0, .bool false, .bool false]) ∧ Below w.heap.size w w') : Iw w w' e [] [] [] false false :=
  ⟨none, 0, none, 0, none, 0, w.heap.size, w.heap.size, h.1, Nat.le_refl _, Nat.le_refl _, h.2.size, own_none _ _ _, own_none _ _ _, own_none _ _ _, h.2⟩

theorem Iw_of {w w' : World} {e : Ending} {A B C : Nat} {cl : Bool} (h : Iv w w' e A B C cl) : Iw w w' e (L A) (L B) (L C) cl true := h

end Go.Proofs.YtehplfmnipadmafDoor

