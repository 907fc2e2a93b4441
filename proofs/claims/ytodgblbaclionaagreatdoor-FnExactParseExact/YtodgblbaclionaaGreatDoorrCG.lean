import Derived.OpenShut
import Derived.Test.YtodgblbaclionaaGreatDoorrPe7
import Derived.Test.YtodgblbaclionaaGreatDoorrPe8
import Derived.Test.YtodgblbaclionaaGreatDoorrIU
import Derived.Test.YtodgblbaclionaaGreatDoorrRrT
namespace Go.Proofs.YtodgblbaclionaaGreatDoor

open Go.RowKit

set_option linter.unusedVariables false
set_option maxRecDepth 100000

theorem D_len_b (a j K : Nat) (h : a < 2 ^ j) (hj : j ≤ 32 * K) : (D a).length ≤ K := by
  refine M.len_of_lt (B := 4294967296) (by omega) _ _ ?_
  rw [show (4294967296 : Nat) = 2 ^ 32 by rfl, ← Nat.pow_mul]
  exact Nat.lt_of_lt_of_le h (Nat.pow_le_pow_right (by omega) hj)

theorem peD_len {t : List Nat} {d : M.Dec} (h : M.Sound t d) (hl : d.digits.length ≤ 800) : (D (M.dec d.digits)).length ≤ 2400 ∧ (D (peN d)).length ≤ 2400 ∧ (D (peD d)).length ≤ 2400 := by
  have hd := M.dec_lt _ h.dig
  have e1 : (M.clampE d.exp d.digits.length).toNat ≤ 5200 := by unfold M.clampE; omega
  have e2 : (-(M.clampE d.exp d.digits.length)).toNat ≤ 6000 := by unfold M.clampE; omega
  have t1 := ten_lt d.digits.length
  have t3 := ten_lt (-(M.clampE d.exp d.digits.length)).toNat
  refine ⟨D_len_b _ (4 * d.digits.length) _ (Nat.lt_of_lt_of_le hd t1) (by omega), D_len_b _ (4 * (d.digits.length + (M.clampE d.exp d.digits.length).toNat)) _ ?_ (by omega), D_len_b _ (4 * (-(M.clampE d.exp d.digits.length)).toNat + 1) _ ?_ (by omega)⟩
  · unfold peN
    have q : M.dec d.digits * 10 ^ (M.clampE d.exp d.digits.length).toNat < 10 ^ d.digits.length * 10 ^ (M.clampE d.exp d.digits.length).toNat := Nat.mul_lt_mul_of_pos_right hd (Nat.pow_pos (by omega))
    rw [← Nat.pow_add] at q
    exact Nat.lt_of_lt_of_le q (ten_lt _)
  · unfold peD
    exact Nat.lt_of_le_of_lt t3 (Nat.pow_lt_pow_right (by omega) (by omega))

theorem pack_ok (k : Nat) (hk : k < 4) (cl : Int) (ng : Bool) (hp : (M.fm k).Proper ⟨cl, ng, 0, 0⟩) (v : World) :
    Calls Tryz.prog 36 #[.int .i64 (k : Int), .agg #[.int .i64 cl, .bool ng, .int .u64 0, .int .u64 0, .int .i64 0]] v fun e w' => e = .returned (.tuple #[.agg #[.int .u64 (M.hiN ((M.fm k).pk ⟨cl, ng, 0, 0⟩) : Int), .int .u64 (M.loN ((M.fm k).pk ⟨cl, ng, 0, 0⟩) : Int)], .bool true]) ∧ Below v.heap.size v w' := by
  have q := spack_any k hk cl ng 0 (by omega) 0 (by omega) (by omega) v
  rw [decide_eq_true hp, show ansN (M.fm k) ⟨cl, ng, 0, 0⟩ = (M.fm k).pk ⟨cl, ng, 0, 0⟩ from if_pos hp] at q
  simp only [hi0, lo0] at q
  exact q

/-- spec.ParseExact for a format. -/
theorem sparse_any (k : Nat) (hk : k < 4) (ao : Option Addr) (n c : Nat) (bs : List Nat) (w : World) (hl : bs.length = n) (hcap : n ≤ c) (hno : ao = none → c = 0) (hr : RdB w ao bs) :
    Calls Tryz.prog 10 #[.int .i64 (k : Int), .slice ao n c] w fun e w' => e = .returned (peV (M.fm k) (scOut bs)) ∧ Below w.heap.size w w' := by
  have h := M.fm_ok k
  have p1 := h.p1
  have hp0 : (M.fm k).p ≠ 0 := by omega
  have kE := fun (v : World) => sdescribe_ok k hk v
  have kS : ∀ v : World, Below w.heap.size w v → Calls Tryz.prog 30 #[.slice ao n c] v fun e w' => ∃ a cc, e = .returned (.agg #[.int .i64 (scOut bs).1.kind, .bool (scOut bs).1.neg, .slice a (scOut bs).1.digits.length cc, .int .i64 (scOut bs).1.exp, .int .i64 (scOut bs).2.1, .int .i64 (scOut bs).2.2]) ∧ ((∀ x ∈ (scOut bs).1.digits, x < 256) → RdB w' a (scOut bs).1.digits) ∧ Below v.heap.size v w' := fun v hv => by
    refine (sscan_any ao n c bs v hl hcap hno (hr.below hv) _ rfl).mono ?_
    rintro e w' ⟨ra, rc, rfl, ho, hb⟩
    exact ⟨ra, rc, rfl, fun hx => (OwnV.of_own ho hx).rd, hb⟩
  rcases sc_facts bs with ⟨h1, h2⟩ | ⟨d, h1, h2, h3⟩
  · unfold peV
    rw [if_pos h1]
    generalize scOut bs = o at *
    obtain ⟨d, cd, off⟩ := o
    simp only at h1 h2 kS
    subst h2
    exact sparse_bad (k : Int) ao n c w (M.fm k) hp0 kE 0 false 0 0 cd off (by omega) (by omega) (by omega) (fun v a _ => (∀ x ∈ ([] : List Nat), x < 256) → RdB v a []) (fun _ _ _ _ h hb => fun q => (h q).below hb) kS h1
  · have hs := M.whole_sound h2
    have hkd := M.whole_kind h2
    have ex1 := hs.exp1
    have ex2 := hs.exp2
    have hl8 : d.digits.length ≤ 800 := by
      rcases hkd with x | x | x
      · omega
      · rw [x.2]; simp
      · rw [x.2.2]; simp
    unfold peV
    rw [h1] at kS ⊢
    simp only at kS
    simp only [ne_eq, not_true_eq_false, if_false]
    unfold peY peF
    have okB : ∀ (v v' : World) (a : Option Addr) (k : Nat), ((fun (v : World) (a : Option Addr) (_ : Nat) => (∀ x ∈ d.digits, x < 256) → RdB v a d.digits) v a k) → Below v.heap.size v v' → ((fun (v : World) (a : Option Addr) (_ : Nat) => (∀ x ∈ d.digits, x < 256) → RdB v a d.digits) v' a k) := fun _ _ _ _ h hb => fun q => (h q).below hb
    by_cases hk2 : d.kind = 2
    · rw [if_pos hk2, if_pos hk2]
      have hp : (M.fm k).Proper ⟨4, d.neg, 0, 0⟩ := by unfold M.Fm.Proper; simp
      exact sparse_inf (k : Int) ao n c w (M.fm k) hp0 kE d.kind d.neg d.digits.length d.exp 0 0 (by omega) (by omega) (by omega) _ okB kS rfl hk2 _ _ true (fun v => pack_ok k hk 4 d.neg hp v)
    rw [if_neg hk2, if_neg hk2]
    by_cases hk3 : d.kind = 3
    · rw [if_pos hk3, if_pos hk3]
      have hng : d.neg = false := by
        rcases hkd with x | x | x
        · omega
        · omega
        · exact x.2.1
      have hp : (M.fm k).Proper ⟨5, false, 0, 0⟩ := by unfold M.Fm.Proper; simp
      have kP := fun v => pack_ok k hk 5 false hp v
      rw [← hng] at kP
      have := sparse_nan (k : Int) ao n c w (M.fm k) hp0 kE d.kind d.neg d.digits.length d.exp 0 0 (by omega) (by omega) (by omega) _ okB kS rfl hk3 _ _ true kP
      rw [hng] at this
      exact this
    rw [if_neg hk3, if_neg hk3]
    by_cases hd0 : d.digits.length = 0
    · rw [if_pos hd0, if_pos hd0]
      have hp : (M.fm k).Proper ⟨1, d.neg, 0, 0⟩ := by unfold M.Fm.Proper; simp
      exact sparse_zero (k : Int) ao n c w (M.fm k) hp0 kE d.kind d.neg d.digits.length d.exp 0 0 (by omega) (by omega) (by omega) _ okB kS rfl hk2 hk3 hd0 _ _ true (fun v => pack_ok k hk 1 d.neg hp v)
    rw [if_neg hd0, if_neg hd0]
    obtain ⟨z1, z2⟩ := hs.size (by omega)
    have hD : 0 < M.dec d.digits := Nat.lt_of_lt_of_le (Nat.pow_pos (by omega)) z1
    have hN : 0 < peN d := Nat.mul_pos hD (Nat.pow_pos (by omega))
    have hDe : 0 < peD d := Nat.pow_pos (by omega)
    unfold rY rF
    rw [if_neg (by omega), if_neg (by omega)]
    obtain ⟨c1, c2, c3⟩ := h.clamped (M.dec d.digits) d.digits.length d.exp (by omega) z1 z2 d.neg 2 1
    by_cases hb : 5000 < (d.digits.length : Int) + d.exp
    · obtain ⟨e1, e2⟩ := c1 hb
      have f1 : (M.fm k).rPt d.neg (peN d) (peD d) = ⟨4, d.neg, 0, 0⟩ := e1
      have f2 : (M.fm k).rFl (peN d) (peD d) 2 1 = 1 := e2
      rw [f1, f2]
      have hp : (M.fm k).Proper ⟨4, d.neg, 0, 0⟩ := by unfold M.Fm.Proper; simp
      exact sparse_big (k : Int) ao n c w (M.fm k) hp0 kE d.kind d.neg d.digits.length d.exp 0 0 (by omega) (by omega) (by omega) _ okB kS rfl hk2 hk3 hd0 hb _ _ true (fun v => pack_ok k hk 4 d.neg hp v)
    by_cases hsm : (d.digits.length : Int) + d.exp < -5100
    · obtain ⟨e1, e2⟩ := c2 hsm
      have f1 : (M.fm k).rPt d.neg (peN d) (peD d) = ⟨1, d.neg, 0, 0⟩ := e1
      have f2 : (M.fm k).rFl (peN d) (peD d) 2 1 = 2 := e2
      rw [f1, f2]
      have hp : (M.fm k).Proper ⟨1, d.neg, 0, 0⟩ := by unfold M.Fm.Proper; simp
      exact sparse_small (k : Int) ao n c w (M.fm k) hp0 kE d.kind d.neg d.digits.length d.exp 0 0 (by omega) (by omega) (by omega) _ okB kS rfl hk2 hk3 hd0 hsm _ _ true (fun v => pack_ok k hk 1 d.neg hp v)
    have hcl := c3 hb hsm
    obtain ⟨d1, d2, d3⟩ := peD_len hs hl8
    have kD : ∀ (v : World) (a : Option Addr) (cc : Nat), ((∀ x ∈ d.digits, x < 256) → RdB v a d.digits) → Calls Tryz.prog 31 #[.slice a d.digits.length cc] v fun e w' => Ret v w' e (D (M.dec d.digits)) := fun v a cc ho => l1Digits_any a d.digits.length cc d.digits v rfl (by omega) hs.dig (ho (fun x hx => by have := hs.dig x hx; omega))
    by_cases hex : 0 ≤ d.exp
    · have e1 : peN d = M.dec d.digits * 10 ^ d.exp.toNat := by unfold peN; rw [hcl]
      have e2 : peD d = 1 := by unfold peD; rw [hcl, show (-d.exp).toNat = 0 by omega, Nat.pow_zero]
      rw [e1] at hN d2
      rw [e2] at hDe d3
      rw [e1, e2]
      refine sparse_pos (k : Int) ao n c w (M.fm k) hp0 kE d.kind d.neg d.digits.length d.exp 0 0 (by omega) (by omega) (by omega) _ okB kS rfl hk2 hk3 hd0 hb hsm (M.dec d.digits) (10 ^ d.exp.toNat) (by omega) ?_ _ _ _ kD hex (fun v => ?_) (fun v a1 b1 c1 d1' hc r1 r2 => sround_pos k hk d.neg a1 b1 c1 d1' _ _ v hN hDe d2 d3 hc r1 r2)
      · exact Nat.le_trans (D_pow_len 10 _ (ten_ok _ (by omega))) (by omega)
      · have := l1Ten_any d.exp.toNat v (by omega)
        rwa [Int.toNat_of_nonneg hex] at this
    · have e1 : peN d = M.dec d.digits := by unfold peN; rw [hcl, show d.exp.toNat = 0 by omega, Nat.pow_zero, Nat.mul_one]
      have e2 : peD d = 10 ^ (-d.exp).toNat := by unfold peD; rw [hcl]
      rw [e1] at hN d2
      rw [e2] at hDe d3
      rw [e1, e2]
      refine sparse_neg (k : Int) ao n c w (M.fm k) hp0 kE d.kind d.neg d.digits.length d.exp 0 0 (by omega) (by omega) (by omega) _ okB kS rfl hk2 hk3 hd0 hb hsm (M.dec d.digits) (10 ^ (-d.exp).toNat) (by omega) (by omega) _ _ _ kD hex (fun v => ?_) (fun v a1 b1 c1 d1' hc r1 r2 => sround_pos k hk d.neg a1 b1 c1 d1' _ _ v hN hDe d2 d3 hc r1 r2)
      have := l1Ten_any (-d.exp).toNat v (by omega)
      rwa [Int.toNat_of_nonneg (by omega)] at this

end Go.Proofs.YtodgblbaclionaaGreatDoor

namespace Go.Proofs.YtodgblbaclionaaGreatDoor

open Go.RowKit

set_option linter.unusedVariables false
set_option maxRecDepth 100000

set_option maxRecDepth 10000 in
theorem eqParsed_same (a b c d k : Int) (w : World) :
    Calls Tryz.prog 12 #[.agg #[.int .u64 a, .int .u64 b, .int .i64 c, .int .i64 d, .int .i64 k], .agg #[.int .u64 a, .int .u64 b, .int .i64 c, .int .i64 d, .int .i64 k]] w fun r w' => r = .returned (.bool true) ∧ Below w.heap.size w w' := by
  obtain ⟨hA, hB, b0⟩ := Cls.new2 w #[.int .u64 a, .int .u64 b, .int .i64 c, .int .i64 d, .int .i64 k] #[.int .u64 a, .int .u64 b, .int .i64 c, .int .i64 d, .int .i64 k] 34 34
  have n1 : (c != c) = false := by simp
  have n2 : (d != d) = false := by simp
  have n3 : (k != k) = false := by simp
  generalize hV : ((w.alloc (.cells #[.int .u64 a, .int .u64 b, .int .i64 c, .int .i64 d, .int .i64 k] 34)).alloc (.cells #[.int .u64 a, .int .u64 b, .int .i64 c, .int .i64 d, .int .i64 k] 34)) = v0 at *
  go_enter Tryz.func12, Tryz.ntmps12
  go_upto_region 1 with fail
  clear hV
  have a0 := hA.cell 0 rfl
  have a1 := hA.cell 1 rfl
  have c0 := hB.cell 0 rfl
  have c1 := hB.cell 1 rfl
  go_wp2_with fail
  refine (eqWord_same a b _).mono ?_
  rintro e v1 ⟨rfl, hb1⟩
  replace hA := hA.below hb1
  replace hB := hB.below hb1
  replace b0 := b0.trans (hb1.mono b0.size)
  clear a0 a1 c0 c1 hb1
  have a2 := hA.cell 2 rfl
  have a3 := hA.cell 3 rfl
  have a4 := hA.cell 4 rfl
  have c2 := hB.cell 2 rfl
  have c3 := hB.cell 3 rfl
  have c4 := hB.cell 4 rfl
  have HB := hid b0; clear b0
  go_wp2_with fail
  go_ret
  exact ⟨rfl, HB.out⟩

/-- Both sides answer alike. -/
theorem pe_both (z : Int) (n : Nat) (xs : List Nat) (hl : xs.length = n) :
    ∃ (a b c d k : Int), (∀ (v : World) (ao : Option Addr) (cc : Nat), n ≤ cc → (ao = none → cc = 0) → RdB v ao xs → Calls Tryz.prog 10 #[.int .i64 z, .slice ao n cc] v fun e w' => e = .returned (.agg #[.int .u64 a, .int .u64 b, .int .i64 c, .int .i64 d, .int .i64 k]) ∧ Below v.heap.size v w') ∧
      (∀ (v : World) (ao : Option Addr) (cc : Nat), Fmt v → Fol v → Wds v → RdB v ao xs → Calls Tryz.prog 9 #[.int .i64 z, .slice ao n cc] v fun e w' => e = .returned (.agg #[.int .u64 a, .int .u64 b, .int .i64 c, .int .i64 d, .int .i64 k]) ∧ Below v.heap.size v w') := by
  by_cases hf : z < 0 ∨ 4 ≤ z
  · exact ⟨0, 0, 4, 0, 0, fun v ao cc _ _ _ => sparse_no z hf ao n cc v, fun v ao cc _ _ _ _ => iparse_no z hf ao n cc v⟩
  · obtain ⟨f, rfl⟩ := Int.eq_ofNat_of_zero_le (show 0 ≤ z by omega)
    have hf4 : f < 4 := by omega
    have kS := fun (v : World) (ao : Option Addr) (cc : Nat) (h1 : n ≤ cc) (h2 : ao = none → cc = 0) (h3 : RdB v ao xs) => sparse_any f hf4 ao n cc xs v hl h1 h2 h3
    have kI := fun (v : World) (ao : Option Addr) (cc : Nat) (hm : Fmt v) (hF : Fol v) (hW : Wds v) (h3 : RdB v ao xs) => iparse_any f hf4 ao n cc xs v hl h3 hm hF hW
    unfold peV at kS kI
    by_cases hc : (scOut xs).2.1 ≠ 0
    · simp only [if_pos hc] at kS kI
      exact ⟨_, _, _, _, _, kS, kI⟩
    · simp only [if_neg hc] at kS kI
      exact ⟨_, _, _, _, _, kS, kI⟩

theorem beDrew {B : Nat} {w v : World} (h : Below B w v) (q : Nat) : Below B w (v.drewN q) := ⟨h.os, h.tape, h.output, h.size, h.block⟩

theorem dec_selfP (xs : List Nat) : decide (xs = xs) = true := by simp

set_option maxRecDepth 100000 in
set_option maxHeartbeats 4000000 in
theorem lawParseExact (z : Int) (a0 : Option Addr) (n c : Nat) (xs : List Nat) (w : World) (_h : (Lit.int .i64 z).wf = true) (w0 : InB w a0 n c xs) (hm : Fmt w) (hF : Fol w) (hWd : Wds w) :
    Calls Tryz.prog 4 #[.int .i64 z, .slice a0 n c] w fun e w' => e = .returned (.bool true) ∧ Below w.heap.size w w' := by
  obtain ⟨hl, hc, hr⟩ := w0
  by_cases h1 : n ≤ 1048576
  · have h1' : ¬ (1048576 : Int) < (n : Int) := by omega
    obtain ⟨A, B, C, E, K, kS, kI⟩ := pe_both z n xs hl
    have HL := hid hl; clear hl
    go_enter Tryz.func4, Tryz.ntmps4
    go_wp2_with fail
    refine (toB_any a0 n c xs _ HL.out (by omega) hr.y).mono ?_
    rintro e v1 ⟨rfl, hA1, hb1⟩
    go_wp2_with fail
    refine (kS _ _ n (Nat.le_refl _) (fun e => by cases e) (RdB.of hA1.rd0 hr.1)).mono ?_
    rintro e v2 ⟨rfl, hb2⟩
    have b2 : Below w.heap.size w v2 := hb1.trans (hb2.mono hb1.size)
    have cW := Cls.new v2 #[.int .u64 A, .int .u64 B, .int .i64 C, .int .i64 E, .int .i64 K] 34
    have hb3 : Below v2.heap.size v2 (v2.alloc (.cells #[.int .u64 A, .int .u64 B, .int .i64 C, .int .i64 E, .int .i64 K] 34)) := (Below.refl _ _).alloc (Nat.le_refl _) _
    replace b2 := b2.trans (hb3.mono b2.size)
    clear hA1 hb1 hb2 hb3 kS
    go_upto_region 4 with fail
    generalize (v2.alloc (.cells #[.int .u64 A, .int .u64 B, .int .i64 C, .int .i64 E, .int .i64 K] 34)) = v3 at *
    generalize v2.heap.size = gw at *
    go_wp2_with fail
    refine (toB_any a0 n c xs _ HL.out (by omega) (hr.below b2).y).mono ?_
    rintro e v4 ⟨rfl, hA4, hb4⟩
    replace b2 := b2.trans (hb4.mono b2.size)
    replace cW := cW.below hb4
    clear hb4
    generalize v3.heap.size = g4 at *
    go_wp2_with fail
    refine (kI _ _ n (hm.below b2) (hF.below b2) (hWd.below b2) (RdB.of hA4.rd0 hr.1)).mono ?_
    rintro e v5 ⟨rfl, hb5⟩
    have cG := Cls.new v5 #[.int .u64 A, .int .u64 B, .int .i64 C, .int .i64 E, .int .i64 K] 34
    have hb6 : Below v5.heap.size v5 (v5.alloc (.cells #[.int .u64 A, .int .u64 B, .int .i64 C, .int .i64 E, .int .i64 K] 34)) := (Below.refl _ _).alloc (Nat.le_refl _) _
    replace hb5 := hb5.trans (hb6.mono hb5.size)
    replace b2 := b2.trans (hb5.mono b2.size)
    replace cW := cW.below hb5
    replace hA4 := hA4.keep hb5
    clear hb5 hb6 kI
    go_upto_region 6 with fail
    generalize (v5.alloc (.cells #[.int .u64 A, .int .u64 B, .int .i64 C, .int .i64 E, .int .i64 K] 34)) = v6 at *
    generalize v5.heap.size = gg at *
    have x0 := cW.cell 0 rfl
    have x1 := cW.cell 1 rfl
    have x2 := cW.cell 2 rfl
    have x3 := cW.cell 3 rfl
    have x4 := cW.cell 4 rfl
    have y0 := cG.cell 0 rfl
    have y1 := cG.cell 1 rfl
    have y2 := cG.cell 2 rfl
    have y3 := cG.cell 3 rfl
    have y4 := cG.cell 4 rfl
    go_wp2_with fail
    refine (eqParsed_same A B C E K _).mono ?_
    rintro e v8 ⟨rfl, hb8⟩
    replace b2 := b2.trans (hb8.mono b2.size)
    replace hA4 := hA4.keep hb8
    clear hb8 cW cG x0 x1 x2 x3 x4 y0 y1 y2 y3 y4
    go_wp2_with fail
    refine (toB_any a0 n c xs _ HL.out (by omega) (hr.below b2).y).mono ?_
    rintro e v9 ⟨rfl, hA9, hb9⟩
    replace b2 := b2.trans (hb9.mono b2.size)
    replace hA4 := hA4.keep hb9
    clear hb9
    go_wp2_with fail
    refine (eqB_any _ _ n n n n xs xs _ HL.out HL.out (by omega) (by omega) hA4.rd0 hA9.rd0).mono ?_
    rintro e v10 ⟨rfl, q10, hv10⟩
    have b10 : Below w.heap.size w v10 := by rw [hv10]; exact beDrew b2 _
    clear hv10 hA4 hA9 b2
    rw [dec_selfP]
    have HB := hid b10
    clear b10
    go_wp2_with fail
    go_ret
    exact ⟨rfl, HB.out⟩
  · have h1' : (1048576 : Int) < (n : Int) := by omega
    go_enter Tryz.func4, Tryz.ntmps4
    go_wp2_with fail
    go_ret
    exact ⟨rfl, Below.refl _ _⟩

end Go.Proofs.YtodgblbaclionaaGreatDoor

