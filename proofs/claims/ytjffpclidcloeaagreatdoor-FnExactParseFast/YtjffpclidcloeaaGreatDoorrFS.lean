import Derived.Test.YtjffpclidcloeaaGreatDoorrSA
import Derived.Test.YtjffpclidcloeaaGreatDoorrFA
import Derived.Test.YtjffpclidcloeaaGreatDoorrCD
import Derived.Test.YtjffpclidcloeaaGreatDoorrPA
import Derived.Test.YtjffpclidcloeaaGreatDoorrFa4
import Derived.Test.YtjffpclidcloeaaGreatDoorrCF
import Derived.Test.YtjffpclidcloeaaGreatDoorrPG
import Derived.Test.YtjffpclidcloeaaGreatDoorrTD
namespace Go.Proofs.YtjffpclidcloeaaGreatDoor
open Go.RowKit
set_option linter.unusedVariables false
set_option maxRecDepth 100000
def seY (F : M.Fm) (d : M.Dec) : Nat := if d.kind = 2 then F.pk ⟨4, d.neg, 0, 0⟩ else if d.kind = 3 then F.pk ⟨5, false, 0, 0⟩ else F.pk ⟨1, d.neg, 0, 0⟩

def seO (F : M.Fm) (o : M.Dec × Int × Int) : Nat × Int × Int := if o.2.1 ≠ 0 then (0, o.2.1, o.2.2) else (seY F o.1, 0, 0)

def seV (F : M.Fm) (o : M.Dec × Int × Int) : Value := .agg #[.int .u64 (M.hiN (seO F o).1 : Int), .int .u64 (M.loN (seO F o).1 : Int), .int .i64 (seO F o).2.1, .int .i64 (seO F o).2.2, .int .i64 0]

theorem se_facts (bs : List Nat) : ((scOut bs).2.1 ≠ 0 ∧ (scOut bs).1 = ⟨0, false, [], 0⟩) ∨
 ∃ d, scOut bs = (d, 0, 0) ∧ M.whole bs = some d ∧ bs.length ≤ 800 := by
 unfold scOut
 by_cases h8 : 800 < bs.length
 · rw [if_pos h8]; exact .inl ⟨by decide, rfl⟩
 · rw [if_neg h8]
   unfold M.scanD
   cases hw : M.whole bs with
   | none => exact .inl ⟨by simp, rfl⟩
   | some d => exact .inr ⟨d, rfl, rfl, by omega⟩

def Fin1 (bs : List Nat) (d : M.Dec) : Prop := scOut bs = (d, 0, 0) ∧ M.Sound bs d ∧ d.kind = 1 ∧ 0 < d.digits.length ∧ d.digits.length ≤ 800 ∧ bs.length ≤ 800

theorem pack_se (f : Nat) (hf : f < 4) (c : Int) (n : Bool) (h : (M.fm f).Proper ⟨c, n, 0, 0⟩) (w : World) :
 Calls Tryz.prog 29 #[.int .i64 (f : Int), .agg #[.int .i64 c, .bool n, .int .u64 0, .int .u64 0, .int .i64 0]] w fun e w' => e = .returned (.tuple #[.agg #[.int .u64 (M.hiN ((M.fm f).pk ⟨c, n, 0, 0⟩) : Int), .int .u64 (M.loN ((M.fm f).pk ⟨c, n, 0, 0⟩) : Int)], .bool true]) ∧ Below w.heap.size w w' := by
 have := spack_any f hf c n 0 (Nat.pow_pos (by omega)) 0 (by omega) (by omega) w
 simp only [hi0, lo0] at this
 unfold ansN at this
 rw [if_pos h, decide_eq_true h] at this
 exact this

theorem settle_all (k : Nat) (hk : k < 4) (ao : Option Addr) (n c : Nat) (bs : List Nat) (w : World) (hl : bs.length = n) (hr : RdB w ao bs) (hm : Fmt w) (hF : Fol w) (hWd : Wds w) :
 ((¬ ∃ d, Fin1 bs d) ∧ ∃ (kd : Int) (ng : Bool) (dl : Nat) (ex : Int), ∀ v : World, Below w.heap.size w v → Calls Tryz.prog 20 #[.int .i64 (k : Int), .slice ao n c] v fun e w' => ∃ a cc, e = .returned (.tuple #[.agg #[.int .i64 kd, .bool ng, .slice a dl cc, .int .i64 ex], seV (M.fm k) (scOut bs), .bool true]) ∧ Below v.heap.size v w')
 ∨ ∃ d, Fin1 bs d ∧ ∀ v : World, Below w.heap.size w v → Calls Tryz.prog 20 #[.int .i64 (k : Int), .slice ao n c] v fun e w' => ∃ a cc, e = .returned (.tuple #[.agg #[.int .i64 d.kind, .bool d.neg, .slice a d.digits.length cc, .int .i64 d.exp], .agg #[.int .u64 0, .int .u64 0, .int .i64 0, .int .i64 0, .int .i64 0], .bool false]) ∧ OwnV w' 0 (.slice a d.digits.length cc) d.digits ∧ Below v.heap.size v w' := by
 have h := M.fm_ok k
 have kE := fun (v : World) (hv : Fmt v) => describe_ok k hk v hv
 have kK := fun (v : World) => dKnown (M.fm k) h v
 have kS : ∀ (u : World), Below w.heap.size w u → ∀ v : World, Below u.heap.size u v → Calls Tryz.prog 43 #[.slice ao n c] v fun e w' => ∃ a cc, e = .returned (.agg #[.int .i64 (scOut bs).1.kind, .bool (scOut bs).1.neg, .slice a (scOut bs).1.digits.length cc, .int .i64 (scOut bs).1.exp, .int .i64 (scOut bs).2.1, .int .i64 (scOut bs).2.2]) ∧ OwnV w' v.heap.size (.slice a (scOut bs).1.digits.length cc) (scOut bs).1.digits ∧ Below v.heap.size v w' := fun u hu v hv => by
  have hv2 := hu.trans (hv.mono hu.size)
  refine (iscan_any ao n c bs v hl (hr.below hv2) (hF.below hv2) (hWd.below hv2) _ rfl).mono ?_
  rintro e w' ⟨x, rfl, hO, hb⟩
  have hO' := hO
  obtain ⟨a, c', hx, _⟩ := hO
  subst hx
  exact ⟨a, c', rfl, hO', hb⟩
 rcases se_facts bs with ⟨h1, h2⟩ | ⟨d, h1, h2, h3⟩
 · refine .inl ⟨fun ⟨d, hd⟩ => h1 (by rw [hd.1]), 0, false, 0, 0, fun u hu => ?_⟩
   unfold seV seO
   rw [if_pos h1]
   generalize scOut bs = o at *
   obtain ⟨d, cd, off⟩ := o
   simp only at h1 h2 kS
   subst h2
   simp only [hi0, lo0]
   refine (settle_bad (k : Int) ao n c u (hm.below hu) (M.fm k) kE kK 0 false 0 0 cd off (fun v lo a k => OwnV v lo (.slice a 0 k) []) (fun _ _ _ _ _ h hb => h.below hb) (fun _ _ _ _ p x h hp => h.far p hp x) (fun _ _ _ _ _ h hl => h.low hl) h1 (fun v hv => kS u hu v hv)).mono ?_
   rintro e w' ⟨rfl, hb⟩
   exact ⟨none, 0, rfl, hb⟩
 · have hs := M.whole_sound h2
   have hkd := M.whole_kind h2
   have nf : ¬ (d.kind = 1 ∧ 0 < d.digits.length) → ¬ ∃ d, Fin1 bs d := fun hn ⟨d', g1, _, g2, g3, _⟩ => by
    rw [h1] at g1
    have : d = d' := by injection g1
    subst this
    exact hn ⟨g2, g3⟩
   have pk0 : ∀ (cl : Int) (ng : Bool), (M.fm k).Proper ⟨cl, ng, 0, 0⟩ → ∀ u : World, Calls Tryz.prog 44 #[dv (M.fm k), .agg #[.int .i64 cl, .bool ng, .int .u64 0, .int .u64 0, .int .i64 0]] u fun e w' => e = .returned (.agg #[.int .u64 (M.hiN ((M.fm k).pk ⟨cl, ng, 0, 0⟩) : Int), .int .u64 (M.loN ((M.fm k).pk ⟨cl, ng, 0, 0⟩) : Int)]) ∧ Below u.heap.size u w' := fun cl ng hp u => by
    have kP := dpack (M.fm k) h cl ng 0 0 (by omega) u
    have e := pki_pk h ⟨cl, ng, 0, 0⟩ hp
    simp only at e
    rw [e] at kP
    simp only [hi0, lo0] at kP
    exact kP
   unfold seV seO seY
   rw [h1] at kS ⊢
   simp only at kS
   simp only [ne_eq, not_true_eq_false, if_false]
   by_cases hk2 : d.kind = 2
   · refine .inl ⟨nf (fun hh => by omega), d.kind, d.neg, d.digits.length, d.exp, fun u hu => ?_⟩
     rw [if_pos hk2]
     refine (settle_inf (k : Int) ao n c u (hm.below hu) (M.fm k) kE kK d.kind d.neg d.digits.length d.exp 0 0 (fun v lo a k => OwnV v lo (.slice a d.digits.length k) d.digits) (fun _ _ _ _ _ h hb => h.below hb) (fun _ _ _ _ p x h hp => h.far p hp x) (fun _ _ _ _ _ h hl => h.low hl) rfl hk2 _ _ (pk0 4 d.neg (by unfold M.Fm.Proper; simp)) (fun v hv => kS u hu v hv)).mono ?_
     rintro e w' ⟨a, c', rfl, _, hb⟩
     exact ⟨a, c', rfl, hb⟩
   rw [if_neg hk2]
   by_cases hk3 : d.kind = 3
   · refine .inl ⟨nf (fun hh => by omega), d.kind, d.neg, d.digits.length, d.exp, fun u hu => ?_⟩
     rw [if_pos hk3]
     refine (settle_nan (k : Int) ao n c u (hm.below hu) (M.fm k) kE kK d.kind d.neg d.digits.length d.exp 0 0 (fun v lo a k => OwnV v lo (.slice a d.digits.length k) d.digits) (fun _ _ _ _ _ h hb => h.below hb) (fun _ _ _ _ p x h hp => h.far p hp x) (fun _ _ _ _ _ h hl => h.low hl) rfl hk3 _ _ (pk0 5 false (by unfold M.Fm.Proper; simp)) (fun v hv => kS u hu v hv)).mono ?_
     rintro e w' ⟨a, c', rfl, _, hb⟩
     exact ⟨a, c', rfl, hb⟩
   rw [if_neg hk3]
   by_cases hd0 : d.digits.length = 0
   · refine .inl ⟨nf (fun hh => by omega), d.kind, d.neg, d.digits.length, d.exp, fun u hu => ?_⟩
     refine (settle_zero (k : Int) ao n c u (hm.below hu) (M.fm k) kE kK d.kind d.neg d.digits.length d.exp 0 0 (fun v lo a k => OwnV v lo (.slice a d.digits.length k) d.digits) (fun _ _ _ _ _ h hb => h.below hb) (fun _ _ _ _ p x h hp => h.far p hp x) (fun _ _ _ _ _ h hl => h.low hl) rfl hk2 hk3 hd0 _ _ (pk0 1 d.neg (by unfold M.Fm.Proper; simp)) (fun v hv => kS u hu v hv)).mono ?_
     rintro e w' ⟨a, c', rfl, _, hb⟩
     exact ⟨a, c', rfl, hb⟩
   have hk1 : d.kind = 1 ∧ d.digits.length ≤ bs.length := by
    rcases hkd with x | x | x
    · exact x
    · omega
    · omega
   refine .inr ⟨d, ⟨h1, hs, hk1.1, by omega, by omega, h3⟩, fun u hu => ?_⟩
   refine (settle_fin (k : Int) ao n c u (hm.below hu) (M.fm k) kE kK d.kind d.neg d.digits.length d.exp 0 0 (fun v lo a k => OwnV v lo (.slice a d.digits.length k) d.digits) (fun _ _ _ _ _ h hb => h.below hb) (fun _ _ _ _ p x h hp => h.far p hp x) (fun _ _ _ _ _ h hl => h.low hl) rfl hk2 hk3 hd0 (fun v hv => kS u hu v hv)).mono ?_
   rintro e w' ⟨a, c', rfl, hO, hb⟩
   exact ⟨a, c', rfl, hO.low (Nat.zero_le _), hb⟩

theorem sscan_rd (ao : Option Addr) (n c : Nat) (bs : List Nat) (w : World) (hl : bs.length = n) (hcap : n ≤ c) (hno : ao = none → c = 0) (hr : RdB w ao bs) (v : World) (hv : Below w.heap.size w v) :
 Calls Tryz.prog 25 #[.slice ao n c] v fun e w' => ∃ a cc, e = .returned (.agg #[.int .i64 (scOut bs).1.kind, .bool (scOut bs).1.neg, .slice a (scOut bs).1.digits.length cc, .int .i64 (scOut bs).1.exp, .int .i64 (scOut bs).2.1, .int .i64 (scOut bs).2.2]) ∧ ((∀ x ∈ (scOut bs).1.digits, x < 256) → OwnV w' 0 (.slice a (scOut bs).1.digits.length cc) (scOut bs).1.digits) ∧ Below v.heap.size v w' := by
 refine (sscan_any ao n c bs v hl hcap hno (hr.below hv) _ rfl).mono ?_
 rintro e w' ⟨ra, rc, rfl, ho, hb⟩
 exact ⟨ra, rc, rfl, fun hx => (OwnV.of_own ho hx).low (Nat.zero_le _), hb⟩

theorem sparse_set (k : Nat) (hk : k < 4) (ao : Option Addr) (n c : Nat) (bs : List Nat) (w : World) (hl : bs.length = n) (hcap : n ≤ c) (hno : ao = none → c = 0) (hr : RdB w ao bs) (hnf : ¬ ∃ d, Fin1 bs d) :
 Calls Tryz.prog 10 #[.int .i64 (k : Int), .slice ao n c] w fun e w' => e = .returned (seV (M.fm k) (scOut bs)) ∧ Below w.heap.size w w' := by
 have h := M.fm_ok k
 have p1 := h.p1
 have hp0 : (M.fm k).p ≠ 0 := by omega
 have kE := fun (v : World) => sdescribe_ok k hk v
 have kS := sscan_rd ao n c bs w hl hcap hno hr
 unfold seV seO seY
 rcases se_facts bs with ⟨h1, h2⟩ | ⟨d, h1, h2, h3⟩
 · rw [if_pos h1]
   generalize scOut bs = o at *
   obtain ⟨d, cd, off⟩ := o
   simp only at h1 h2 kS
   subst h2
   simp only [hi0, lo0]
   exact sparse_bad (k : Int) ao n c w (M.fm k) hp0 kE 0 false 0 0 cd off (by omega) (by omega) (by omega) (fun v a cc => (∀ x ∈ ([] : List Nat), x < 256) → OwnV v 0 (.slice a 0 cc) []) (fun _ _ _ _ h hb => fun q => (h q).below hb) kS h1
 · have hs := M.whole_sound h2
   have hkd := M.whole_kind h2
   have ex1 := hs.exp1
   have ex2 := hs.exp2
   have hl8 : d.digits.length ≤ 800 := by
    rcases hkd with x | x | x
    · omega
    · rw [x.2]; simp
    · rw [x.2.2]; simp
   rw [h1] at kS ⊢
   simp only at kS
   simp only [ne_eq, not_true_eq_false, if_false]
   have okB : ∀ (v v' : World) (a : Option Addr) (k : Nat), ((fun (v : World) (a : Option Addr) (cc : Nat) => (∀ x ∈ d.digits, x < 256) → OwnV v 0 (.slice a d.digits.length cc) d.digits) v a k) → Below v.heap.size v v' → ((fun (v : World) (a : Option Addr) (cc : Nat) => (∀ x ∈ d.digits, x < 256) → OwnV v 0 (.slice a d.digits.length cc) d.digits) v' a k) := fun _ _ _ _ h hb => fun q => (h q).below hb
   by_cases hk2 : d.kind = 2
   · rw [if_pos hk2]
     exact sparse_inf (k : Int) ao n c w (M.fm k) hp0 kE d.kind d.neg d.digits.length d.exp 0 0 (by omega) (by omega) (by omega) _ okB kS rfl hk2 _ _ true (fun v => pack_se k hk 4 d.neg (by unfold M.Fm.Proper; simp) v)
   rw [if_neg hk2]
   by_cases hk3 : d.kind = 3
   · rw [if_pos hk3]
     have hng : d.neg = false := by
      rcases hkd with x | x | x
      · omega
      · omega
      · exact x.2.1
     have kP := fun v => pack_se k hk 5 false (by unfold M.Fm.Proper; simp) v
     rw [← hng] at kP
     have := sparse_nan (k : Int) ao n c w (M.fm k) hp0 kE d.kind d.neg d.digits.length d.exp 0 0 (by omega) (by omega) (by omega) _ okB kS rfl hk3 _ _ true kP
     rw [hng] at this
     exact this
   rw [if_neg hk3]
   have hk1 : d.kind = 1 := by
    rcases hkd with x | x | x
    · exact x.1
    · omega
    · omega
   have hd0 : d.digits.length = 0 := Classical.byContradiction fun hn => hnf ⟨d, h1, hs, hk1, by omega, hl8, h3⟩
   exact sparse_zero (k : Int) ao n c w (M.fm k) hp0 kE d.kind d.neg d.digits.length d.exp 0 0 (by omega) (by omega) (by omega) _ okB kS rfl hk2 hk3 hd0 _ _ true (fun v => pack_se k hk 1 d.neg (by unfold M.Fm.Proper; simp) v)

open Go.Maps
def fk (d : M.Dec) : Int := d.exp + ((d.digits.length - 19 : Nat) : Int)

def fh (d : M.Dec) : Nat := M.dec (d.digits.take (d.digits.length - (d.digits.length - 19)))

def fT (k W : Int) : Nat := tX k W / tY k W

def fx (k W : Int) : Bool := decide (tX k W % tY k W = 0)

def fU (k W : Int) : Nat := if fx k W then fT k W else fT k W + 1

def fA (d : M.Dec) (W : Int) : Nat := fh d * fT (fk d) W

def fB (d : M.Dec) (W : Int) : Nat := if 0 < d.digits.length - 19 then (fh d + 1) * fU (fk d) W else fh d * fU (fk d) W

def fP (d : M.Dec) (W : Int) : Nat := 2 ^ (tExp (fk d) W).toNat

def fQ (d : M.Dec) (W : Int) : Nat := 2 ^ (-(tExp (fk d) W)).toNat

def fIn (k W : Int) : Prop := -5200 ≤ k ∧ k ≤ 5200 ∧ 1 ≤ W ∧ W ≤ 128

def fEq (F : M.Fm) (d : M.Dec) (W : Int) : Prop :=
 (M.hiN (rY F d.neg (fA d W * fP d W) (fQ d W)) : Int) = (M.hiN (rY F d.neg (fB d W * fP d W) (fQ d W)) : Int) ∧ (M.loN (rY F d.neg (fA d W * fP d W) (fQ d W)) : Int) = (M.loN (rY F d.neg (fB d W * fP d W) (fQ d W)) : Int) ∧ rF F (fA d W * fP d W) (fQ d W) = rF F (fB d W * fP d W) (fQ d W)

open Classical in
noncomputable def faO (F : M.Fm) (d : M.Dec) (W : Int) : Nat × Int × Bool := if fIn (fk d) W ∧ fEq F d W then (rY F d.neg (fA d W * fP d W) (fQ d W), rF F (fA d W * fP d W) (fQ d W), true) else (0, 0, false)

noncomputable def faV (F : M.Fm) (d : M.Dec) (W : Int) : Value := .agg #[.int .u64 (M.hiN (faO F d W).1 : Int), .int .u64 (M.loN (faO F d W).1 : Int), .int .i64 0, .int .i64 0, .int .i64 (faO F d W).2.1, .bool (faO F d W).2.2]

theorem faV_yes {F : M.Fm} {d : M.Dec} {W : Int} (h1 : fIn (fk d) W) (h2 : fEq F d W) : faV F d W = .agg #[.int .u64 (M.hiN (rY F d.neg (fA d W * fP d W) (fQ d W)) : Int), .int .u64 (M.loN (rY F d.neg (fA d W * fP d W) (fQ d W)) : Int), .int .i64 0, .int .i64 0, .int .i64 (rF F (fA d W * fP d W) (fQ d W)), .bool true] := by
 unfold faV faO; rw [if_pos ⟨h1, h2⟩]

theorem faV_no {F : M.Fm} {d : M.Dec} {W : Int} (h : ¬ (fIn (fk d) W ∧ fEq F d W)) : faV F d W = .agg #[.int .u64 0, .int .u64 0, .int .i64 0, .int .i64 0, .int .i64 0, .bool false] := by
 unfold faV faO; rw [if_neg h]; simp only [hi0, lo0]; rfl

theorem faLen (a j K : Nat) (h : a < 2 ^ j) (hj : j ≤ 64 * K) : (L a).length ≤ K := by
 refine M.len_of_lt (B := 18446744073709551616) (by omega) _ _ ?_
 rw [show (18446744073709551616 : Nat) = 2 ^ 64 by rfl, ← Nat.pow_mul]
 exact Nat.lt_of_lt_of_le h (Nat.pow_le_pow_right (by omega) hj)

theorem fh_lt {d : M.Dec} (h : M.Dig d.digits) : fh d < 10000000000000000000 := dec19 _ h _ (by omega)

theorem fU_le {k W : Int} (h : fIn k W) : fU k W ≤ 2 ^ 128 := by
 have := top_lt k W h
 unfold fU fT
 split <;> omega

theorem mul192 {a b : Nat} (ha : a ≤ 2 ^ 64) (hb : b ≤ 2 ^ 128) : a * b < 2 ^ 193 :=
 Nat.lt_of_le_of_lt (Nat.mul_le_mul ha hb) (by decide)

theorem fB_lt {d : M.Dec} {W : Int} (hd : M.Dig d.digits) (h : fIn (fk d) W) : fA d W < 2 ^ 193 ∧ fB d W < 2 ^ 193 := by
 have h1 := fh_lt hd
 have h2 := fU_le h
 have h3 := top_lt _ _ h
 refine ⟨mul192 (by omega) (Nat.le_of_lt h3), ?_⟩
 unfold fB
 split
 · exact mul192 (by omega) h2
 · exact mul192 (by omega) h2

theorem fE_bound {k W : Int} (h : fIn k W) : (tExp k W).toNat ≤ 21000 ∧ (-(tExp k W)).toNat ≤ 21000 := by
 have := tb_bound k ⟨h.1, h.2.1⟩
 obtain ⟨_, _, h3, h4⟩ := h
 unfold tExp
 omega

theorem fN_len {N : Nat} (hN : N < 2 ^ 193) {e : Nat} (he : e ≤ 21000) : (L (N * 2 ^ e)).length ≤ 400 := by
 refine faLen _ (193 + e) _ ?_ (by omega)
 rw [Nat.pow_add]
 exact Nat.mul_lt_mul_of_pos_right hN (Nat.pow_pos (by omega))

theorem fQ_len {e : Nat} (he : e ≤ 21000) : (L (2 ^ e)).length ≤ 400 := faLen _ (e + 1) _ (Nat.pow_lt_pow_right (by omega) (by omega)) (by omega)

theorem two_any (E : Int) (h1 : E.toNat ≤ 21000) (h2 : (-E).toNat ≤ 21000) (N : Nat) (hN : (L N).length ≤ 1048576) (v : World) (ao bo : Option Addr) (cc : Nat) (ra : Rd v ao (L N)) (rb : Rd v bo [1]) :
 Calls Tryz.prog 50 #[.agg #[.slice ao (L N).length cc, .slice bo 1 1], .int .i64 E] v fun e w' => RR v w' e (N * 2 ^ E.toNat) (2 ^ (-E).toNat) := by
 rw [← L_unit] at rb
 have l1 : (L 1).length = 1 := by rw [L_unit]; rfl
 rcases Int.le_total 0 E with h | h
 · obtain ⟨s, rfl⟩ := Int.eq_ofNat_of_zero_le h
   have := timesTwo_pos ao bo cc 1 _ 1 N 1 s v rfl l1 hN (by omega) (by omega) ra rb
   rw [show ((s : Int)).toNat = s by omega, show (-(s : Int)).toNat = 0 by omega]
   rwa [Nat.one_mul] at this
 · obtain ⟨s, hs⟩ := Int.eq_ofNat_of_zero_le (show 0 ≤ -E by omega)
   have e : E = -(s : Int) := by omega
   subst e
   have := timesTwo_neg ao bo cc 1 _ 1 N 1 s v rfl l1 hN (by omega) (by omega) ra rb
   rw [show (-(s : Int)).toNat = 0 by omega, show (-(-(s : Int))).toNat = s by omega]
   rwa [Nat.one_mul] at this

theorem scale_at (k W : Int) (h : fIn k W) (tb bm d : Nat) (hd : d < 18446744073709551616) (v : World) (hF : Full v tb bm k W (.agg #[.int .i64 k, .int .i64 W, .int .u64 (M.hiN (fT k W) : Int), .int .u64 (M.loN (fT k W) : Int), .int .i64 (tExp k W), .bool (fx k W), .bool true])) :
 Calls Tryz.prog 47 #[.pointer (some ⟨tb, 0, none⟩), .int .u64 (d : Int), .agg #[.int .i64 k, .int .i64 W, .int .u64 (M.hiN (fT k W) : Int), .int .u64 (M.loN (fT k W) : Int), .int .i64 (tExp k W), .bool (fx k W), .bool true]] v fun e w' => Sx tb bm v w' e (L (d * fT k W)) (L (d * fU k W)) (tExp k W) true ∧ Full w' tb bm k W (.agg #[.int .i64 k, .int .i64 W, .int .u64 (M.hiN (fT k W) : Int), .int .u64 (M.loN (fT k W) : Int), .int .i64 (tExp k W), .bool (fx k W), .bool true]) := by
 have hT : fT k W < 2 ^ 128 := top_lt k W h
 have hU := fU_le h
 have ld := faLen d 64 1 (by omega) (by omega)
 have lT := faLen (fT k W) 128 2 hT (by omega)
 have lT1 := faLen (fT k W + 1) 192 3 (by omega) (by omega)
 have lU := faLen (fU k W) 192 3 (by omega) (by omega)
 refine iscale_full d hd k W (fT k W) (tExp k W) (fx k W) v tb bm hF (d * fT k W) (d * fU k W) (fun u hu => ?_) (fun v => number_n _ hT v) (fun v ao bo c e hr hr2 => mul_any ao bo _ _ c e d _ v rfl rfl (by omega) (by omega) hr hr2) (fun v ao bo c e hr hr2 => add_any ao bo _ _ c e _ 1 v rfl (by rw [L_unit]; rfl) (by omega) (by omega) hr (by rw [L_unit]; exact hr2)) (fU k W) rfl (fun v ao bo c e hr hr2 => mul_any ao bo _ _ c e d _ v rfl rfl (by omega) (by omega) hr hr2)
 have := entry_hit tb bm k W (tExp k W) (fT k W) (fx k W) u h (by unfold pwv; exact hu)
 unfold pwv at this
 exact this

theorem try_any (F : M.Fm) (hF : F.Ok) (t : List Nat) (d : M.Dec) (hs : M.Sound t d) (ht : t.length ≤ 800) (hk : 0 < d.digits.length) (hl : d.digits.length ≤ 800) (a : Option Addr) (cc : Nat) (W : Int) (u v : World) (tb bm : Nat) (ho : OwnV u 0 (.slice a d.digits.length cc) d.digits) (hb : Below u.heap.size u v) (l1 : u.heap.size ≤ tb) (l2 : u.heap.size ≤ bm) (hE : Emp v tb bm) :
 Calls Tryz.prog 22 #[.pointer (some ⟨tb, 0, none⟩), dv F, .agg #[.int .i64 d.kind, .bool d.neg, .slice a d.digits.length cc, .int .i64 d.exp], .int .i64 W] v fun e w' => e = .returned (faV F d W) ∧ T2 tb bm v w' := by
 have hr := ho.rd
 obtain ⟨a', c', hv, q1, q2, q3, q4, q5⟩ := ho
 simp only [Value.slice.injEq] at hv
 obtain ⟨rfl, _, rfl⟩ := hv
 obtain ⟨b, off, cur, rfl, _, hcur, _⟩ := q5 hk
 have lb : b < u.heap.size := (Array.getElem?_eq_some_iff.1 hcur).1
 have e1 := hs.exp1
 have e2 := hs.exp2
 have kF := fun v : World => fast_any d.kind d.neg (some ⟨b, off, none⟩) d.digits.length cc d.exp (d.digits.length - 19) (fk d) v (by omega) rfl (by omega) (by omega) rfl
 have e : dv F = .agg #[.int .i64 (F.p : Int), .int .i64 (1 - (F.emax : Int)), .int .i64 (F.emax : Int), .int .i64 (F.wd : Int), .int .i64 (F.e : Int), .bool F.x] := rfl
 by_cases hin : fIn (fk d) W
 · have hd := fh_lt hs.dig
   have hT : fT (fk d) W < 2 ^ 128 := top_lt _ _ hin
   obtain ⟨hA, hB⟩ := fB_lt hs.dig hin
   obtain ⟨b1, b2⟩ := fE_bound hin
   have lA := fN_len hA b1
   have lB := fN_len hB b1
   have lQ := fQ_len b2
   have kP : ∀ (N : Nat), (L N).length ≤ 400 → ∀ (v : World) (ao bo : Option Addr) (cc dd : Nat), Rd v ao (L N) → Rd v bo (L (fQ d W)) → Calls Tryz.prog 51 #[dv F, .bool d.neg, .agg #[.slice ao (L N).length cc, .slice bo (L (fQ d W)).length dd]] v fun e w' => e = .returned (.agg #[.int .u64 (M.hiN (rY F d.neg N (fQ d W)) : Int), .int .u64 (M.loN (rY F d.neg N (fQ d W)) : Int), .int .i64 0, .int .i64 0, .int .i64 (rF F N (fQ d W))]) ∧ Below v.heap.size v w' := fun N lN v ao bo c1 d1 r1 r2 =>
    parsed_any F d.neg ao bo _ _ c1 d1 _ _ _ true v (fun u hu => iround_any F hF d.neg ao bo c1 d1 N (fQ d W) u (Nat.pow_pos (by omega)) (by omega) (by unfold fQ; omega) (r1.below hu) (r2.below hu))
   refine (try_fin F d.kind d.neg (some ⟨b, off, none⟩) d.digits.length cc d.exp (fk d) W (tExp (fk d) W) (fT (fk d) W) (fx (fk d) W) d.digits v tb bm hE (hr.below hb) (fun b' o' h' => by injection h' with h'; injection h' with h' _; omega) (fun b' o' h' => by injection h' with h'; injection h' with h' _; omega) (fh d) (fh d + 1) (d.digits.length - 19) (fA d W) (fh d * fU (fk d) W) ((fh d + 1) * fT (fk d) W) ((fh d + 1) * fU (fk d) W) (fB d W) (fA d W * fP d W) (fB d W * fP d W) (fQ d W) _ _ _ _ _ _ (faV F d W)
    (by rw [IntKind.wrap_u64]; omega) rfl (fun hh => faV_yes hin hh) (fun hh => faV_no (fun h2 => hh h2.2)) kF (fun u hu => ?_)
    (fun u hu => head_any d.kind d.neg b off d.digits.length cc d.exp d.digits (d.digits.length - 19) (d.digits.length - (d.digits.length - 19)) (fh d) u rfl (by omega) q1 q2 hs.dig rfl (by omega) hu rfl)
    (fun u => cut_any d.kind d.neg (some ⟨b, off, none⟩) d.digits.length cc d.exp (d.digits.length - 19) u (by omega) rfl)
    (fun u hu => scale_at (fk d) W hin tb bm (fh d) (by omega) u hu) (fun u hu => scale_at (fk d) W hin tb bm (fh d + 1) (by omega) u hu)
    (fun u ao bo c1 r1 r2 => two_any _ b1 b2 _ (Nat.le_trans (faLen _ 193 4 hA (by omega)) (by omega)) u ao bo c1 r1 r2) (fun u ao bo c1 r1 r2 => two_any _ b1 b2 _ (Nat.le_trans (faLen _ 193 4 hB (by omega)) (by omega)) u ao bo c1 r1 r2)
    (fun u ao bo c1 d1 r1 r2 => kP _ lA u ao bo c1 d1 r1 r2) (fun u ao bo c1 d1 r1 r2 => kP _ lB u ao bo c1 d1 r1 r2))
   have := entry_new tb bm (fk d) W (tExp (fk d) W) (fT (fk d) W) (fx (fk d) W) u hin hu.c0 hu.c2 hu.f0 hu.ne hu.own hu.lb (fun v => trunc_any (fk d) W hin v)
   unfold pwv at this
   exact this
 · rw [faV_no (fun h => hin h.1)]
   refine (try_no F d.kind d.neg (some ⟨b, off, none⟩) d.digits.length cc d.exp (fk d) W v tb bm kF (fun u => ?_)).mono fun e w' ⟨he, hb⟩ => ⟨he, T2.of hb⟩
   have := entry_out tb (fk d) W u hin
   unfold pwv at this
   simp only [hi0, lo0] at this
   exact this

theorem ifast_any (k : Nat) (hk : k < 4) (ao : Option Addr) (n c : Nat) (bs : List Nat) (W : Int) (w : World) (hl : bs.length = n) (hr : RdB w ao bs) (hm : Fmt w) (hF : Fol w) (hWd : Wds w) :
 Calls Tryz.prog 6 #[.int .i64 (k : Int), .slice ao n c, .int .i64 W] w fun e w' => (((¬ ∃ d, Fin1 bs d) ∧ e = .returned (.agg #[.int .u64 (M.hiN (seO (M.fm k) (scOut bs)).1 : Int), .int .u64 (M.loN (seO (M.fm k) (scOut bs)).1 : Int), .int .i64 (seO (M.fm k) (scOut bs)).2.1, .int .i64 (seO (M.fm k) (scOut bs)).2.2, .int .i64 0, .bool true])) ∨ ∃ d, Fin1 bs d ∧ e = .returned (faV (M.fm k) d W)) ∧ Below w.heap.size w w' := by
 rcases settle_all k hk ao n c bs w hl hr hm hF hWd with ⟨hn, kd, ng, dl, ex, kS⟩ | ⟨d, hd, kS⟩
 · unfold seV at kS
   exact (fast_settled (k : Int) ao n c W w kd ng dl ex _ _ _ _ _ kS).mono fun e w' ⟨he, hb⟩ => ⟨.inl ⟨hn, he⟩, hb⟩
 · obtain ⟨_, hs, h1, h2, h3, h4⟩ := id hd
   refine (fast_fin (k : Int) ao n c W w hm (M.fm k) d.kind d.neg d.digits.length d.exp _ _ 0 0 _ _ (fun v a cc => OwnV v 0 (.slice a d.digits.length cc) d.digits) (fun _ _ _ _ h hb => h.below hb) kS (fun v hv => describe_ok k hk v hv) (fun u v a cc tb bm ho hb l1 l2 hE => ?_)).mono fun e w' ⟨he, hb⟩ => ⟨.inr ⟨d, hd, he⟩, hb⟩
   exact try_any (M.fm k) (M.fm_ok k) bs d hs h4 h2 h3 a cc W u v tb bm ho hb l1 l2 hE

theorem ifast_no (f : Int) (hf : f < 0 ∨ 4 ≤ f) (ao : Option Addr) (n c : Nat) (W : Int) (w : World) :
 Calls Tryz.prog 6 #[.int .i64 f, .slice ao n c, .int .i64 W] w fun e w' => e = .returned (.agg #[.int .u64 0, .int .u64 0, .int .i64 4, .int .i64 0, .int .i64 0, .bool true]) ∧ Below w.heap.size w w' := by
 refine fast_settled f ao n c W w 0 false 0 0 0 0 4 0 0 (fun u hu => ?_)
 refine (settle_no f hf ao n c u).mono ?_
 rintro e w' ⟨rfl, hb⟩
 exact ⟨none, 0, rfl, hb⟩

end Go.Proofs.YtjffpclidcloeaaGreatDoor
