import Derived.Test.YtfdgkleoaehjaaaGreatDoorsGAW
import Derived.Test.YtfdgkleoaehjaaaGreatDoorsPe8
import Derived.Test.YtfdgkleoaehjaaaGreatDoorsGAY
set_option maxHeartbeats 400000
namespace Go.Proofs.YtfdgkleoaehjaaaGreatDoor
open Go.RowKit
set_option linter.unusedVariables false
set_option maxRecDepth 100000
theorem sR (a j K : Nat) (h : a < 2 ^ j) (hj : j <= 32 * K) : (D a).length <= K := by
 refine M.len_of_lt (B := 4294967296) (by omega) _ _ ?_;rw [show (4294967296 : Nat) = 2 ^ 32 by rfl, <- Nat.pow_mul];exact Nat.lt_of_lt_of_le h (Nat.pow_le_pow_right (by omega) hj)

theorem IQ {t : List Nat} {d : M.Dec} (h : M.Sound t d) (hl : d.digits.length <= 800) : (D (M.dec d.digits)).length <= 2400 /\ (D (peN d)).length <= 2400 /\ (D (peD d)).length <= 2400 := by
 have hd := M.gT _ h.dig;have e1 : (M.aL d.exp d.digits.length).toNat <= 5200 := by unfold M.aL; omega
 have e2 : (-(M.aL d.exp d.digits.length)).toNat <= 6000 := by unfold M.aL; omega
 have t1 := lZ d.digits.length;have t3 := lZ (-(M.aL d.exp d.digits.length)).toNat;refine ⟨sR _ (4 * d.digits.length) _ (Nat.lt_of_lt_of_le hd t1) (by omega), sR _ (4 * (d.digits.length + (M.aL d.exp d.digits.length).toNat)) _ ?_ (by omega), sR _ (4 * (-(M.aL d.exp d.digits.length)).toNat + 1) _ ?_ (by omega)⟩
 . unfold peN;have q : M.dec d.digits * 10 ^ (M.aL d.exp d.digits.length).toNat < 10 ^ d.digits.length * 10 ^ (M.aL d.exp d.digits.length).toNat := Nat.mul_lt_mul_of_pos_right hd (Nat.pow_pos (by omega));rw [<- Nat.pow_add] at q;exact Nat.lt_of_lt_of_le q (lZ _)
 . unfold peD;exact Nat.lt_of_le_of_lt t3 (Nat.pow_lt_pow_right (by omega) (by omega))

theorem mA (k : Nat) (hk : k < 4) (cl : Int) (ng : Bool) (hp : (M.fm k).Proper ⟨cl, ng, 0, 0⟩) (v : World) :
 Calls Tryz.prog 25 #[.int .i64 (k : Int), .agg #[.int .i64 cl, .bool ng, .int .u64 0, .int .u64 0, .int .i64 0]] v fun e w' => e = .returned (.tuple #[.agg #[.int .u64 (M.hiN ((M.fm k).pk ⟨cl, ng, 0, 0⟩) : Int), .int .u64 (M.loN ((M.fm k).pk ⟨cl, ng, 0, 0⟩) : Int)], .bool true]) /\ Below v.heap.size v w' := by
 have q := nQ k hk cl ng 0 (by omega) 0 (by omega) (by omega) v;rw [decide_eq_true hp, show vU (M.fm k) ⟨cl, ng, 0, 0⟩ = (M.fm k).pk ⟨cl, ng, 0, 0⟩ from if_pos hp] at q;simp only [hi0, lo0] at q;exact q

theorem xS (k : Nat) (hk : k < 4) (ao : Option Addr) (n c : Nat) (bs : List Nat) (w : World) (hl : bs.length = n) (hcap : n <= c) (hno : ao = none -> c = 0) (hr : RdB w ao bs) :
 Calls Tryz.prog 7 #[.int .i64 (k : Int), .slice ao n c] w fun e w' => e = .returned (peV (M.fm k) (aS bs)) /\ Below w.heap.size w w' := by
 have h := M.jA k;have p1 := h.p1;have hp0 : (M.fm k).p ≠ 0 := by omega
 have kE := fun (v : World) => bU k hk v
 have kS : ∀ v : World, Below w.heap.size w v -> Calls Tryz.prog 8 #[.slice ao n c] v fun e w' => ∃ a cc, e = .returned (.agg #[.int .i64 (aS bs).1.kind, .bool (aS bs).1.neg, .slice a (aS bs).1.digits.length cc, .int .i64 (aS bs).1.exp, .int .i64 (aS bs).2.1, .int .i64 (aS bs).2.2]) /\ ((∀ x ∈ (aS bs).1.digits, x < 256) -> RdB w' a (aS bs).1.digits) /\ Below v.heap.size v w' := fun v hv => by
  refine (qX ao n c bs v hl hcap hno (hr.below hv) _ rfl).mono ?_;rintro e w' ⟨ra, rc, rfl, ho, hb⟩
  exact ⟨ra, rc, rfl, fun hx => (OwnV.of_own ho hx).rd, hb⟩
 rcases mM bs with ⟨h1, h2⟩ | ⟨d, h1, h2, h3⟩
 . unfold peV;rw [if_pos h1];generalize aS bs = o at *;obtain ⟨d, cd, off⟩ := o;simp only at h1 h2 kS;subst h2
   exact xU (k : Int) ao n c w (M.fm k) hp0 kE 0 false 0 0 cd off (by omega) (by omega) (by omega) (fun v a _ => (∀ x ∈ ([] : List Nat), x < 256) -> RdB v a []) (fun _ _ _ _ h hb => fun q => (h q).below hb) kS h1
 . have hs := M.iA h2;have hkd := M.lG h2;have ex1 := hs.exp1;have ex2 := hs.exp2
   have hl8 : d.digits.length <= 800 := by
    rcases hkd with x | x | x
    . omega
    . rw [x.2]; simp
    . rw [x.2.2]; simp
   unfold peV;rw [h1] at kS |-;simp only at kS;simp only [ne_eq, not_true_eq_false, if_false];unfold peY peF
   have okB : ∀ (v v' : World) (a : Option Addr) (k : Nat), ((fun (v : World) (a : Option Addr) (_ : Nat) => (∀ x ∈ d.digits, x < 256) -> RdB v a d.digits) v a k) -> Below v.heap.size v v' -> ((fun (v : World) (a : Option Addr) (_ : Nat) => (∀ x ∈ d.digits, x < 256) -> RdB v a d.digits) v' a k) := fun _ _ _ _ h hb => fun q => (h q).below hb
   by_cases hk2 : d.kind = 2
   . rw [if_pos hk2, if_pos hk2];have hp : (M.fm k).Proper ⟨4, d.neg, 0, 0⟩ := by unfold M.Fm.Proper; simp
     exact M8 (k : Int) ao n c w (M.fm k) hp0 kE d.kind d.neg d.digits.length d.exp 0 0 (by omega) (by omega) (by omega) _ okB kS rfl _ _ (.inl ⟨hk2, rfl, rfl⟩) _ _ true (fun v => mA k hk 4 d.neg hp v)
   rw [if_neg hk2, if_neg hk2]
   by_cases hk3 : d.kind = 3
   . rw [if_pos hk3, if_pos hk3]
     have hng : d.neg = false := by
      rcases hkd with x | x | x
      . omega
      . omega
      . exact x.2.1
     have hp : (M.fm k).Proper ⟨5, false, 0, 0⟩ := by unfold M.Fm.Proper; simp
     have kP := fun v => mA k hk 5 false hp v
     rw [<- hng] at kP;have := M8 (k : Int) ao n c w (M.fm k) hp0 kE d.kind d.neg d.digits.length d.exp 0 0 (by omega) (by omega) (by omega) _ okB kS rfl _ _ (.inr (.inl ⟨hk3, rfl, rfl⟩)) _ _ true kP;rw [hng] at this;exact this
   rw [if_neg hk3, if_neg hk3]
   by_cases hd0 : d.digits.length = 0
   . rw [if_pos hd0, if_pos hd0];have hp : (M.fm k).Proper ⟨1, d.neg, 0, 0⟩ := by unfold M.Fm.Proper; simp
     exact M8 (k : Int) ao n c w (M.fm k) hp0 kE d.kind d.neg d.digits.length d.exp 0 0 (by omega) (by omega) (by omega) _ okB kS rfl _ _ (.inr (.inr ⟨hk2, hk3, .inl ⟨hd0, rfl, rfl⟩⟩)) _ _ true (fun v => mA k hk 1 d.neg hp v)
   rw [if_neg hd0, if_neg hd0];obtain ⟨z1, z2⟩ := hs.size (by omega);have hD : 0 < M.dec d.digits := Nat.lt_of_lt_of_le (Nat.pow_pos (by omega)) z1;have hN : 0 < peN d := Nat.mul_pos hD (Nat.pow_pos (by omega));have hDe : 0 < peD d := Nat.pow_pos (by omega);unfold rY rF;rw [if_neg (by omega), if_neg (by omega)];obtain ⟨c1, c2, c3⟩ := h.clamped (M.dec d.digits) d.digits.length d.exp (by omega) z1 z2 d.neg 2 1
   by_cases hb : 5000 < (d.digits.length : Int) + d.exp
   . obtain ⟨e1, e2⟩ := c1 hb;have f1 : (M.fm k).rPt d.neg (peN d) (peD d) = ⟨4, d.neg, 0, 0⟩ := e1;have f2 : (M.fm k).rFl (peN d) (peD d) 2 1 = 1 := e2;rw [f1, f2];have hp : (M.fm k).Proper ⟨4, d.neg, 0, 0⟩ := by unfold M.Fm.Proper; simp
     exact M8 (k : Int) ao n c w (M.fm k) hp0 kE d.kind d.neg d.digits.length d.exp 0 0 (by omega) (by omega) (by omega) _ okB kS rfl _ _ (.inr (.inr ⟨hk2, hk3, .inr (.inl ⟨hd0, hb, rfl, rfl⟩)⟩)) _ _ true (fun v => mA k hk 4 d.neg hp v)
   by_cases hsm : (d.digits.length : Int) + d.exp < -5100
   . obtain ⟨e1, e2⟩ := c2 hsm;have f1 : (M.fm k).rPt d.neg (peN d) (peD d) = ⟨1, d.neg, 0, 0⟩ := e1;have f2 : (M.fm k).rFl (peN d) (peD d) 2 1 = 2 := e2;rw [f1, f2];have hp : (M.fm k).Proper ⟨1, d.neg, 0, 0⟩ := by unfold M.Fm.Proper; simp
     exact M8 (k : Int) ao n c w (M.fm k) hp0 kE d.kind d.neg d.digits.length d.exp 0 0 (by omega) (by omega) (by omega) _ okB kS rfl _ _ (.inr (.inr ⟨hk2, hk3, .inr (.inr ⟨hd0, hsm, rfl, rfl⟩)⟩)) _ _ true (fun v => mA k hk 1 d.neg hp v)
   have hcl := c3 hb hsm;obtain ⟨d1, d2, d3⟩ := IQ hs hl8
   have kD : ∀ (v : World) (a : Option Addr) (cc : Nat), ((∀ x ∈ d.digits, x < 256) -> RdB v a d.digits) -> Calls Tryz.prog 20 #[.slice a d.digits.length cc] v fun e w' => Ret v w' e (D (M.dec d.digits)) := fun v a cc ho => sM a d.digits.length cc d.digits v rfl (by omega) hs.dig (ho (fun x hx => by have := hs.dig x hx; omega))
   by_cases hex : 0 <= d.exp
   . have e1 : peN d = M.dec d.digits * 10 ^ d.exp.toNat := by unfold peN; rw [hcl]
     have e2 : peD d = 1 := by unfold peD; rw [hcl, show (-d.exp).toNat = 0 by omega, Nat.pow_zero]
     rw [e1] at hN d2;rw [e2] at hDe d3;rw [e1, e2]
     refine M9 (k : Int) ao n c w (M.fm k) hp0 kE d.kind d.neg d.digits.length d.exp 0 0 (by omega) (by omega) (by omega) _ okB kS rfl hk2 hk3 hd0 hb hsm (M.dec d.digits) (10 ^ d.exp.toNat) _ _ _ (.inl ⟨hex, rfl, rfl, rfl⟩) (by omega) ?_ _ _ _ kD (fun v => ?_) (fun v a1 b1 c1 d1' hc r1 r2 => oO k hk d.neg a1 b1 c1 d1' _ _ v hN hDe d2 d3 hc r1 r2)
     . exact Nat.le_trans (iQ 10 _ (gL _ (by omega))) (by omega)
     . have := fF d.exp.toNat v (by omega)
       rwa [Int.toNat_of_nonneg hex] at this
   . have e1 : peN d = M.dec d.digits := by unfold peN; rw [hcl, show d.exp.toNat = 0 by omega, Nat.pow_zero, Nat.mul_one]
     have e2 : peD d = 10 ^ (-d.exp).toNat := by unfold peD; rw [hcl]
     rw [e1] at hN d2;rw [e2] at hDe d3;rw [e1, e2]
     refine M9 (k : Int) ao n c w (M.fm k) hp0 kE d.kind d.neg d.digits.length d.exp 0 0 (by omega) (by omega) (by omega) _ okB kS rfl hk2 hk3 hd0 hb hsm (M.dec d.digits) (10 ^ (-d.exp).toNat) _ _ _ (.inr ⟨by omega, rfl, rfl, rfl⟩) (by omega) (by omega) _ _ _ kD (fun v => ?_) (fun v a1 b1 c1 d1' hc r1 r2 => oO k hk d.neg a1 b1 c1 d1' _ _ v hN hDe d2 d3 hc r1 r2)
     have := fF (-d.exp).toNat v (by omega)
     rwa [Int.toNat_of_nonneg (by omega)] at this

theorem FU (c : Int) (n : Bool) (a b q : Int) (w : World) (r : Bool) (hr : r = decide (n = true /\ c ≠ 1)) :
 Calls Tryz.prog 30 #[.agg #[.int .i64 c, .bool n, .int .u64 a, .int .u64 b, .int .i64 q]] w fun e w' => e = .returned (.bool r) /\ Below w.heap.size w w' := by
 cases n
 . have hr' : r = false := by rw [hr]; simp
   subst hr';clear hr;go_enter Tryz.func30, Tryz.ntmps30;go_wp2_with fail;go_ret;exact ⟨rfl, (Below.refl _ _).alloc (Nat.le_refl _) _⟩
 . by_cases h1 : c = 1
   . have hr' : r = false := by rw [hr]; simp [h1]
     subst h1;subst hr';clear hr;go_enter Tryz.func30, Tryz.ntmps30;go_wp2_with fail;go_ret;exact ⟨rfl, (Below.refl _ _).alloc (Nat.le_refl _) _⟩
   . have hn1 : (c != 1) = true := by simp [h1]
     have hr' : r = true := by rw [hr]; simp [h1]
     subst hr';clear hr;go_enter Tryz.func30, Tryz.ntmps30;go_wp2_with fail;go_ret;exact ⟨rfl, (Below.refl _ _).alloc (Nat.le_refl _) _⟩

end Go.Proofs.YtfdgkleoaehjaaaGreatDoor
