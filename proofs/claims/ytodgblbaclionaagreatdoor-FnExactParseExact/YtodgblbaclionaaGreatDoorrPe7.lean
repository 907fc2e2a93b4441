import Derived.Test.YtodgblbaclionaaGreatDoorrRrZ
import Derived.Test.YtodgblbaclionaaGreatDoorrBP
import Derived.Test.YtodgblbaclionaaGreatDoorrCF
import Derived.Test.YtodgblbaclionaaGreatDoorrNfd
namespace Go.Proofs.YtodgblbaclionaaGreatDoor

open Go.RowKit

set_option linter.unusedVariables false
set_option maxRecDepth 100000

/-- The ratio that the program rounds. -/
def peN (d : M.Dec) : Nat := M.dec d.digits * 10 ^ (M.clampE d.exp d.digits.length).toNat

def peD (d : M.Dec) : Nat := 10 ^ (-(M.clampE d.exp d.digits.length)).toNat

/-- The word and the flags of a number that was read. -/
def peY (F : M.Fm) (d : M.Dec) : Nat := if d.kind = 2 then F.pk ⟨4, d.neg, 0, 0⟩ else if d.kind = 3 then F.pk ⟨5, false, 0, 0⟩ else if d.digits.length = 0 then F.pk ⟨1, d.neg, 0, 0⟩ else rY F d.neg (peN d) (peD d)

def peF (F : M.Fm) (d : M.Dec) : Int := if d.kind = 2 then 0 else if d.kind = 3 then 0 else if d.digits.length = 0 then 0 else rF F (peN d) (peD d)

def peV (F : M.Fm) (o : M.Dec × Int × Int) : Value := if o.2.1 ≠ 0 then .agg #[.int .u64 0, .int .u64 0, .int .i64 o.2.1, .int .i64 o.2.2, .int .i64 0]
  else .agg #[.int .u64 (M.hiN (peY F o.1) : Int), .int .u64 (M.loN (peY F o.1) : Int), .int .i64 0, .int .i64 0, .int .i64 (peF F o.1)]

/-- What a scan's answer is. -/
theorem sc_facts (bs : List Nat) : ((scOut bs).2.1 ≠ 0 ∧ (scOut bs).1 = ⟨0, false, [], 0⟩) ∨
    ∃ d, scOut bs = (d, 0, 0) ∧ M.whole bs = some d ∧ bs.length ≤ 800 := by
  unfold scOut
  by_cases h8 : 800 < bs.length
  · rw [if_pos h8]; exact .inl ⟨by decide, rfl⟩
  · rw [if_neg h8]
    unfold M.scanD
    cases hw : M.whole bs with
    | none => exact .inl ⟨by simp, rfl⟩
    | some d => exact .inr ⟨d, rfl, rfl, by omega⟩

theorem L_len_b (a j K : Nat) (h : a < 2 ^ j) (hj : j ≤ 64 * K) : (L a).length ≤ K := by
  refine M.len_of_lt (B := 18446744073709551616) (by omega) _ _ ?_
  rw [show (18446744073709551616 : Nat) = 2 ^ 64 by rfl, ← Nat.pow_mul]
  exact Nat.lt_of_lt_of_le h (Nat.pow_le_pow_right (by omega) hj)

theorem ten_lt (m : Nat) : 10 ^ m ≤ 2 ^ (4 * m) := by
  have := pow_le_two 10 m
  rwa [blen10] at this

/-- The bounds of what is rounded. -/
theorem pe_len {t : List Nat} {d : M.Dec} (h : M.Sound t d) (hl : d.digits.length ≤ 800) : (L (M.dec d.digits)).length ≤ 1201 ∧ (L (peN d)).length ≤ 1201 ∧ (L (peD d)).length ≤ 1201 ∧ (M.clampE d.exp d.digits.length).toNat ≤ 6000 ∧ (-(M.clampE d.exp d.digits.length)).toNat ≤ 6000 := by
  have hd := M.dec_lt _ h.dig
  have e1 : (M.clampE d.exp d.digits.length).toNat ≤ 5200 := by unfold M.clampE; omega
  have e2 : (-(M.clampE d.exp d.digits.length)).toNat ≤ 6000 := by unfold M.clampE; omega
  have t1 := ten_lt d.digits.length
  have t2 := ten_lt (M.clampE d.exp d.digits.length).toNat
  have t3 := ten_lt (-(M.clampE d.exp d.digits.length)).toNat
  refine ⟨L_len_b _ (4 * d.digits.length) _ (Nat.lt_of_lt_of_le hd t1) (by omega), L_len_b _ (4 * (d.digits.length + (M.clampE d.exp d.digits.length).toNat)) _ ?_ (by omega), L_len_b _ (4 * (-(M.clampE d.exp d.digits.length)).toNat + 1) _ ?_ (by omega), by omega, e2⟩
  · unfold peN
    have q : M.dec d.digits * 10 ^ (M.clampE d.exp d.digits.length).toNat < 10 ^ d.digits.length * 10 ^ (M.clampE d.exp d.digits.length).toNat := Nat.mul_lt_mul_of_pos_right hd (Nat.pow_pos (by omega))
    rw [← Nat.pow_add] at q
    exact Nat.lt_of_lt_of_le q (ten_lt _)
  · unfold peD
    exact Nat.lt_of_le_of_lt t3 (Nat.pow_lt_pow_right (by omega) (by omega))

theorem tenPower_any (E : Int) (h1 : E.toNat ≤ 6000) (h2 : (-E).toNat ≤ 6000) (w : World) : Calls Tryz.prog 62 #[.int .i64 E] w fun e w' => RR w w' e (10 ^ E.toNat) (10 ^ (-E).toNat) := by
  rcases Int.le_total 0 E with h | h
  · obtain ⟨m, rfl⟩ := Int.eq_ofNat_of_zero_le h
    have e1 : (-(m : Int)).toNat = 0 := by omega
    have e2 : ((m : Int)).toNat = m := by omega
    rw [e1, e2, Nat.pow_zero]
    exact tenPower_pos m w (by omega)
  · obtain ⟨m, hm⟩ := Int.eq_ofNat_of_zero_le (show 0 ≤ -E by omega)
    have e : E = -(m : Int) := by omega
    subst e
    have e1 : (-(m : Int)).toNat = 0 := by omega
    have e2 : (-(-(m : Int))).toNat = m := by omega
    rw [e1, e2, Nat.pow_zero]
    exact tenPower_neg m w (by omega)

/-- (Decimal).round at a number that was read. -/
theorem dround_any (F : M.Fm) (h : F.Ok) (t : List Nat) (d : M.Dec) (hs : M.Sound t d) (hk : 0 < d.digits.length) (hl : d.digits.length ≤ 800) (a : Option Addr) (cc lo : Nat) (w : World) (ho : OwnV w lo (.slice a d.digits.length cc) d.digits) :
    Calls Tryz.prog 29 #[.agg #[.int .i64 d.kind, .bool d.neg, .slice a d.digits.length cc, .int .i64 d.exp], dv F] w fun e w' => e = .returned (.agg #[.int .u64 (M.hiN (rY F d.neg (peN d) (peD d)) : Int), .int .u64 (M.loN (rY F d.neg (peN d) (peD d)) : Int), .int .i64 0, .int .i64 0, .int .i64 (rF F (peN d) (peD d))]) ∧ Below w.heap.size w w' := by
  obtain ⟨l1, l2, l3, l4, l5⟩ := pe_len hs hl
  have hr := ho.rd
  obtain ⟨a', c', hv, q1, q2, q3, q4, q5⟩ := ho
  simp only [Value.slice.injEq] at hv
  obtain ⟨rfl, _, rfl⟩ := hv
  obtain ⟨b, off, cur, rfl, _⟩ := q5 hk
  refine dround_key F d.kind d.neg _ d.digits.length cc d.exp (M.clampE d.exp d.digits.length) _ _ 0 0 _ w (M.dec d.digits) (10 ^ (M.clampE d.exp d.digits.length).toNat) (10 ^ (-(M.clampE d.exp d.digits.length)).toNat) rfl (by omega) (by omega) ?_ ?_
    (fun v hv => natFromDigits_any b off d.digits.length cc d.digits v rfl hk (by omega) q1 q2 hs.dig (hr.below hv)) (fun v => tenPower_any _ l4 l5 v) (fun v a1 b1 c1 d1 r1 r2 => ?_)
  · exact Nat.le_trans (L_pow_len 10 _ (ten_ok _ (by omega))) (by omega)
  · exact Nat.le_trans (L_pow_len 10 _ (ten_ok _ (by omega))) (by omega)
  · have := fun (u : World) (hu : Below v.heap.size v u) => iround_any F h d.neg a1 b1 c1 d1 (peN d) (peD d) u (Nat.pow_pos (by omega)) l2 l3 (r1.below hu) (r2.below hu)
    exact parsed_any F d.neg a1 b1 _ _ c1 d1 _ _ _ true v this

/-- impl.ParseExact for a format. -/
theorem iparse_any (k : Nat) (hk : k < 4) (ao : Option Addr) (n c : Nat) (bs : List Nat) (w : World) (hl : bs.length = n) (hr : RdB w ao bs) (hm : Fmt w) (hF : Fol w) (hWd : Wds w) :
    Calls Tryz.prog 9 #[.int .i64 (k : Int), .slice ao n c] w fun e w' => e = .returned (peV (M.fm k) (scOut bs)) ∧ Below w.heap.size w w' := by
  have h := M.fm_ok k
  have kE := fun (v : World) (hv : Fmt v) => describe_ok k hk v hv
  have kK := fun (v : World) => dKnown (M.fm k) h v
  have kS : ∀ (u : World), Below w.heap.size w u → ∀ v : World, Below u.heap.size u v → Calls Tryz.prog 58 #[.slice ao n c] v fun e w' => ∃ a cc, e = .returned (.agg #[.int .i64 (scOut bs).1.kind, .bool (scOut bs).1.neg, .slice a (scOut bs).1.digits.length cc, .int .i64 (scOut bs).1.exp, .int .i64 (scOut bs).2.1, .int .i64 (scOut bs).2.2]) ∧ OwnV w' v.heap.size (.slice a (scOut bs).1.digits.length cc) (scOut bs).1.digits ∧ Below v.heap.size v w' := fun u hu v hv => by
    have hv2 := hu.trans (hv.mono hu.size)
    refine (iscan_any ao n c bs v hl (hr.below hv2) (hF.below hv2) (hWd.below hv2) _ rfl).mono ?_
    rintro e w' ⟨x, rfl, hO, hb⟩
    have hO' := hO
    obtain ⟨a, c', hx, _⟩ := hO
    subst hx
    exact ⟨a, c', rfl, hO', hb⟩
  rcases sc_facts bs with ⟨h1, h2⟩ | ⟨d, h1, h2, h3⟩
  · unfold peV
    rw [if_pos h1]
    generalize scOut bs = o at *
    obtain ⟨d, cd, off⟩ := o
    simp only at h1 h2 kS
    subst h2
    refine parse_settled (k : Int) ao n c w 0 false 0 0 0 0 cd off 0 (fun u hu => ?_)
    refine (settle_bad (k : Int) ao n c u (hm.below hu) (M.fm k) kE kK 0 false 0 0 cd off (fun v lo a k => OwnV v lo (.slice a 0 k) []) (fun _ _ _ _ _ h hb => h.below hb) (fun _ _ _ _ p x h hp => h.far p hp x) (fun _ _ _ _ _ h hl => h.low hl) h1 (fun v hv => kS u hu v hv)).mono ?_
    rintro e w' ⟨rfl, hb⟩
    exact ⟨none, 0, rfl, hb⟩
  · have hs := M.whole_sound h2
    unfold peV
    rw [h1] at kS ⊢
    simp only at kS
    simp only [ne_eq, not_true_eq_false, if_false]
    unfold peY peF
    by_cases hk2 : d.kind = 2
    · rw [if_pos hk2, if_pos hk2]
      have kP := fun u : World => dpack (M.fm k) h 4 d.neg 0 0 (by omega) u
      have hp : (M.fm k).Proper ⟨4, d.neg, 0, 0⟩ := by unfold M.Fm.Proper; simp
      have e := pki_pk h ⟨4, d.neg, 0, 0⟩ hp
      simp only at e
      rw [e] at kP
      simp only [hi0, lo0] at kP
      refine parse_settled (k : Int) ao n c w d.kind d.neg d.digits.length d.exp _ _ 0 0 0 (fun u hu => ?_)
      refine (settle_inf (k : Int) ao n c u (hm.below hu) (M.fm k) kE kK d.kind d.neg d.digits.length d.exp 0 0 (fun v lo a k => OwnV v lo (.slice a d.digits.length k) d.digits) (fun _ _ _ _ _ h hb => h.below hb) (fun _ _ _ _ p x h hp => h.far p hp x) (fun _ _ _ _ _ h hl => h.low hl) rfl hk2 _ _ kP (fun v hv => kS u hu v hv)).mono ?_
      rintro e w' ⟨a, c', rfl, _, hb⟩
      exact ⟨a, c', rfl, hb⟩
    rw [if_neg hk2, if_neg hk2]
    by_cases hk3 : d.kind = 3
    · rw [if_pos hk3, if_pos hk3]
      have kP := fun u : World => dpack (M.fm k) h 5 false 0 0 (by omega) u
      have hp : (M.fm k).Proper ⟨5, false, 0, 0⟩ := by unfold M.Fm.Proper; simp
      have e := pki_pk h ⟨5, false, 0, 0⟩ hp
      simp only at e
      rw [e] at kP
      simp only [hi0, lo0] at kP
      refine parse_settled (k : Int) ao n c w d.kind d.neg d.digits.length d.exp _ _ 0 0 0 (fun u hu => ?_)
      refine (settle_nan (k : Int) ao n c u (hm.below hu) (M.fm k) kE kK d.kind d.neg d.digits.length d.exp 0 0 (fun v lo a k => OwnV v lo (.slice a d.digits.length k) d.digits) (fun _ _ _ _ _ h hb => h.below hb) (fun _ _ _ _ p x h hp => h.far p hp x) (fun _ _ _ _ _ h hl => h.low hl) rfl hk3 _ _ kP (fun v hv => kS u hu v hv)).mono ?_
      rintro e w' ⟨a, c', rfl, _, hb⟩
      exact ⟨a, c', rfl, hb⟩
    rw [if_neg hk3, if_neg hk3]
    by_cases hd0 : d.digits.length = 0
    · rw [if_pos hd0, if_pos hd0]
      have kP := fun u : World => dpack (M.fm k) h 1 d.neg 0 0 (by omega) u
      have hp : (M.fm k).Proper ⟨1, d.neg, 0, 0⟩ := by unfold M.Fm.Proper; simp
      have e := pki_pk h ⟨1, d.neg, 0, 0⟩ hp
      simp only at e
      rw [e] at kP
      simp only [hi0, lo0] at kP
      refine parse_settled (k : Int) ao n c w d.kind d.neg d.digits.length d.exp _ _ 0 0 0 (fun u hu => ?_)
      refine (settle_zero (k : Int) ao n c u (hm.below hu) (M.fm k) kE kK d.kind d.neg d.digits.length d.exp 0 0 (fun v lo a k => OwnV v lo (.slice a d.digits.length k) d.digits) (fun _ _ _ _ _ h hb => h.below hb) (fun _ _ _ _ p x h hp => h.far p hp x) (fun _ _ _ _ _ h hl => h.low hl) rfl hk2 hk3 hd0 _ _ kP (fun v hv => kS u hu v hv)).mono ?_
      rintro e w' ⟨a, c', rfl, _, hb⟩
      exact ⟨a, c', rfl, hb⟩
    rw [if_neg hd0, if_neg hd0]
    have hl8 : d.digits.length ≤ 800 := by
      rcases M.whole_kind h2 with x | x | x
      · omega
      · omega
      · omega
    refine parse_fin (k : Int) ao n c w hm (M.fm k) d.kind d.neg d.digits.length d.exp _ _ 0 0 _ (fun v a k => OwnV v 0 (.slice a d.digits.length k) d.digits) (fun _ _ _ _ h hb => h.below hb) (fun u hu => ?_) kE (fun v a cc ho => dround_any (M.fm k) h bs d hs (by omega) hl8 a cc 0 v ho)
    refine (settle_fin (k : Int) ao n c u (hm.below hu) (M.fm k) kE kK d.kind d.neg d.digits.length d.exp 0 0 (fun v lo a k => OwnV v lo (.slice a d.digits.length k) d.digits) (fun _ _ _ _ _ h hb => h.below hb) (fun _ _ _ _ p x h hp => h.far p hp x) (fun _ _ _ _ _ h hl => h.low hl) rfl hk2 hk3 hd0 (fun v hv => kS u hu v hv)).mono ?_
    rintro e w' ⟨a, c', rfl, hO, hb⟩
    exact ⟨a, c', rfl, hO.low (Nat.zero_le _), hb⟩

/-- impl.ParseExact for no format. -/
theorem iparse_no (f : Int) (hf : f < 0 ∨ 4 ≤ f) (ao : Option Addr) (n c : Nat) (w : World) :
    Calls Tryz.prog 9 #[.int .i64 f, .slice ao n c] w fun e w' => e = .returned (.agg #[.int .u64 0, .int .u64 0, .int .i64 4, .int .i64 0, .int .i64 0]) ∧ Below w.heap.size w w' := by
  refine parse_settled f ao n c w 0 false 0 0 0 0 4 0 0 (fun u hu => ?_)
  refine (settle_no f hf ao n c u).mono ?_
  rintro e w' ⟨rfl, hb⟩
  exact ⟨none, 0, rfl, hb⟩

end Go.Proofs.YtodgblbaclionaaGreatDoor

