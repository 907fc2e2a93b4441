import Derived.Test.YtjffpclidcloeaaGreatDoorrFS
import Derived.Test.YtjffpclidcloeaaGreatDoorrFB
import Derived.Test.YtjffpclidcloeaaGreatDoorrTE
import Derived.Test.YtjffpclidcloeaaGreatDoorrSc2
import Derived.Test.YtjffpclidcloeaaGreatDoorrCE
set_option maxHeartbeats 4000000
set_option maxRecDepth 100000
namespace Go.Proofs.YtjffpclidcloeaaGreatDoor
open Go.RowKit Go.Maps
set_option linter.unusedVariables false
set_option maxRecDepth 100000
theorem l2Two_big (s : Nat) (w : World) (hs : s ≤ 100000) :
 Calls Tryz.prog 18 #[.int .i64 (s : Int)] w fun e w' => Ret w w' e (D (2 ^ s)) := by
 go_enter Tryz.func18, Tryz.ntmps18
 go_wp2_with fail
 refine (l1Of_any 1 _ (by omega)).mono ?_
 rintro e w1 ⟨ao1, cap1, rfl, ho1, hb1⟩
 have hl : (D 1).length ≤ 6 := D_small 1 (by omega)
 go_wp2_with fail
 refine (l1Left_any ao1 _ cap1 s 1 _ rfl (by omega) (by omega) (Rd.own ho1)).mono ?_
 rw [Nat.one_mul]
 rintro e w2 ⟨ao2, cap2, rfl, ho2, hb2⟩
 go_wp2_with fail
 go_ret
 exact ⟨ao2, cap2, rfl, own_base ho2 hb1.size, hb1.trans (hb2.mono hb1.size)⟩

theorem fbLen (a j K : Nat) (h : a < 2 ^ j) (hj : j ≤ 32 * K) : (D a).length ≤ K := by
 refine M.len_of_lt (B := 4294967296) (by omega) _ _ ?_
 rw [show (4294967296 : Nat) = 2 ^ 32 by rfl, ← Nat.pow_mul]
 exact Nat.lt_of_lt_of_le h (Nat.pow_le_pow_right (by omega) hj)

theorem fbN_len {N : Nat} (hN : N < 2 ^ 193) {e : Nat} (he : e ≤ 21000) : (D (N * 2 ^ e)).length ≤ 800 := by
 refine fbLen _ (193 + e) _ ?_ (by omega)
 rw [Nat.pow_add]
 exact Nat.mul_lt_mul_of_pos_right hN (Nat.pow_pos (by omega))

theorem fbQ_len {e : Nat} (he : e ≤ 21000) : (D (2 ^ e)).length ≤ 800 := fbLen _ (e + 1) _ (Nat.pow_lt_pow_right (by omega) (by omega)) (by omega)

theorem sscale_at (k W : Int) (h : fIn k W) (d : Nat) (hd : d < 18446744073709551616) (v : World) :
 Calls Tryz.prog 15 #[.int .u64 (d : Int), .agg #[.int .i64 k, .int .i64 W, .int .u64 (M.hiN (fT k W) : Int), .int .u64 (M.loN (fT k W) : Int), .int .i64 (tExp k W), .bool (fx k W), .bool true]] v fun e w' => Sw v w' e (L (d * fT k W)) (L (d * fU k W)) (tExp k W) true := by
 have hT : fT k W < 2 ^ 128 := top_lt k W h
 have hU := fU_le h
 have kT := fun v : World => specTenPower_any k W v
 rw [show tpv k W = pwv k W (fT k W) (tExp k W) (fx k W) true from if_pos h] at kT
 unfold pwv at kT
 have ld := fbLen d 64 2 (by omega) (by omega)
 have lT := fbLen (fT k W) 128 4 hT (by omega)
 have lT1 := fbLen (fT k W + 1) 160 5 (by omega) (by omega)
 have l1 := fbLen 1 32 1 (by omega) (by omega)
 refine sscale_eq d k W (fT k W) (tExp k W) (fx k W) v (d * fT k W) (d * fU k W) kT (fun v => l1Of_any d v hd) (fun v => l1Of_any 1 v (by omega)) (fun v => l2Of_n _ hT v) (fun v ao bo c e hr hr2 => l1Mul_any ao bo _ _ c e d _ v rfl rfl (by omega) (by omega) hr hr2) (fun v ao bo c e hr hr2 => l1Add_any ao bo _ _ c e _ 1 v rfl rfl (by omega) (by omega) hr hr2) (fun hx v ao bo c e hr hr2 => ?_) (fun hx => by unfold fU; rw [if_pos hx]) (fun v ao c hr => ?_) (fun v ao c hr => ?_)
 · unfold fU
   rw [hx]
   exact l1Mul_any ao bo _ _ c e d _ v rfl rfl (by omega) (by omega) hr hr2
 · exact l1Out_any ao _ c _ v rfl (Nat.le_trans (fbLen _ 193 7 (mul192 (by omega) (Nat.le_of_lt hT)) (by omega)) (by omega)) hr
 · exact l1Out_any ao _ c _ v rfl (Nat.le_trans (fbLen _ 193 7 (mul192 (by omega) hU) (by omega)) (by omega)) hr

theorem l1In_L (N : Nat) (hN : N < 2 ^ 193) (v : World) (a : Option Addr) (cc : Nat) (hr : Rd v a (L N)) : Calls Tryz.prog 14 #[.slice a (L N).length cc] v fun e w' => Ret v w' e (D N) := by
 have := l1In_any a (L N).length cc (L N) v rfl (Nat.le_trans (faLen N 193 4 hN (by omega)) (by omega)) (F64_L N) hr
 rw [V_L] at this
 exact this

theorem L_one1 (n : Nat) (h0 : 0 < n) (h : n < 18446744073709551616) : L n = [n] := by
 have h1 := M.len_of_lt (B := 18446744073709551616) (by omega) n 1 (by omega)
 have h2 : V (L n) = n := V_L n
 match hL : L n, h1, h2 with
 | [], _, h2 => simp [V, M.val] at h2; omega
 | [y], _, h2 => simp [V, M.val] at h2; rw [h2]
 | _ :: _ :: _, h1, _ => unfold L at hL; rw [hL] at h1; simp at h1

theorem fh_pos {t : List Nat} {d : M.Dec} (hs : M.Sound t d) (hk : 0 < d.digits.length) : 0 < fh d := by
 unfold fh
 obtain ⟨c, r, e⟩ : ∃ c r, d.digits = c :: r := by
  match hd : d.digits, hk with
  | c :: r, _ => exact ⟨c, r, rfl⟩
  | [], hk => simp at hk
 have h1 := hs.head c r e
 have h2 := hs.dig c (by rw [e]; simp)
 rw [e] at hk ⊢
 obtain ⟨q, hq⟩ : ∃ q, (c :: r).length - ((c :: r).length - 19) = q + 1 := ⟨(c :: r).length - ((c :: r).length - 19) - 1, by omega⟩
 rw [hq, List.take_succ_cons, M.dec_cons]
 have : 0 < (c - 48) * 10 ^ (r.take q).length := Nat.mul_pos (by omega) (Nat.pow_pos (by omega))
 omega

theorem rY_pos {F : M.Fm} {ng : Bool} {N De : Nat} (h : 0 < N) : rY F ng N De = F.pk (F.rPt ng N De) ∧ rF F N De = F.rFl N De 2 1 := by
 unfold rY rF
 rw [if_neg (by omega), if_neg (by omega)]
 exact ⟨rfl, rfl⟩

theorem sfast_any (k : Nat) (hk : k < 4) (ao : Option Addr) (n c : Nat) (bs : List Nat) (W : Int) (w : World) (hl : bs.length = n) (hcap : n ≤ c) (hno : ao = none → c = 0) (hr : RdB w ao bs) :
 Calls Tryz.prog 4 #[.int .i64 (k : Int), .slice ao n c, .int .i64 W] w fun e w' => (((¬ ∃ d, Fin1 bs d) ∧ e = .returned (.agg #[.int .u64 (M.hiN (seO (M.fm k) (scOut bs)).1 : Int), .int .u64 (M.loN (seO (M.fm k) (scOut bs)).1 : Int), .int .i64 (seO (M.fm k) (scOut bs)).2.1, .int .i64 (seO (M.fm k) (scOut bs)).2.2, .int .i64 0, .bool true])) ∨ ∃ d, Fin1 bs d ∧ e = .returned (faV (M.fm k) d W)) ∧ Below w.heap.size w w' := by
 have hF := M.fm_ok k
 have p1 := hF.p1
 have kE := fun (v : World) => sdescribe_ok k hk v
 simp only [dv] at kE
 have kS : ∀ u : World, Below w.heap.size w u → ∀ v : World, Below u.heap.size u v → Calls Tryz.prog 25 #[.slice ao n c] v fun e w' => ∃ a cc, e = .returned (.agg #[.int .i64 (scOut bs).1.kind, .bool (scOut bs).1.neg, .slice a (scOut bs).1.digits.length cc, .int .i64 (scOut bs).1.exp, .int .i64 (scOut bs).2.1, .int .i64 (scOut bs).2.2]) ∧ ((∀ x ∈ (scOut bs).1.digits, x < 256) → OwnV w' v.heap.size (.slice a (scOut bs).1.digits.length cc) (scOut bs).1.digits) ∧ Below v.heap.size v w' := fun u hu v hv => by
  refine (sscan_any ao n c bs v hl hcap hno (hr.below (hu.trans (hv.mono hu.size))) _ rfl).mono ?_
  rintro e w' ⟨ra, rc, rfl, ho, hb⟩
  exact ⟨ra, rc, rfl, fun hx => OwnV.of_own ho hx, hb⟩
 by_cases hfin : ∃ d, Fin1 bs d
 · obtain ⟨d, hd⟩ := hfin
   obtain ⟨h1, hs, h2, h3, h4, h5⟩ := id hd
   rw [h1] at kS
   simp only at kS
   have e1 := hs.exp1
   have e2 := hs.exp2
   have d256 : ∀ x ∈ d.digits, x < 256 := fun x hx => by have := hs.dig x hx; omega
   have kL : ∀ v : World, Below w.heap.size w v → Calls Tryz.prog 9 #[.int .i64 (k : Int), .slice ao n c] v fun e w' => ∃ a cc, e = .returned (.tuple #[.agg #[.int .i64 d.kind, .bool d.neg, .slice a d.digits.length cc, .int .i64 d.exp], .int .i64 ((d.digits.length - 19 : Nat) : Int), .int .i64 (fk d), .bool true]) ∧ OwnV w' 0 (.slice a d.digits.length cc) d.digits ∧ Below v.heap.size v w' := fun v hv => by
    refine (power_yes (k : Int) ao n c v _ _ _ _ _ _ kE d.kind d.neg d.digits.length d.exp 0 0 (fun v lo a cc => (∀ x ∈ d.digits, x < 256) → OwnV v lo (.slice a d.digits.length cc) d.digits) (fun _ _ _ _ _ h hb => fun q => (h q).below hb) (fun _ _ _ _ p x h hp => fun q => (h q).far p hp x) (fun u hu => kS v hv u hu) (by omega) rfl h2 h3 (by omega) (by omega) (by omega) (d.digits.length - 19) rfl (fk d) rfl).mono ?_
    rintro e w' ⟨a, cc, rfl, ho, hb⟩
    exact ⟨a, cc, rfl, (ho d256).low (Nat.zero_le _), hb⟩
   have kT := fun v : World => specTenPower_any (fk d) W v
   by_cases hin : fIn (fk d) W
   · rw [show tpv (fk d) W = pwv (fk d) W (fT (fk d) W) (tExp (fk d) W) (fx (fk d) W) true from if_pos hin] at kT
     unfold pwv at kT
     have hlt := fh_lt hs.dig
     have hpos := fh_pos hs h3
     have hT : fT (fk d) W < 2 ^ 128 := top_lt _ _ hin
     have hTp : 0 < fT (fk d) W := Nat.lt_of_lt_of_le (Nat.pow_pos (by omega)) (top_bits _ _ hin).1
     have hUp : fT (fk d) W ≤ fU (fk d) W := by unfold fU; split <;> omega
     obtain ⟨hA, hB⟩ := fB_lt hs.dig hin
     obtain ⟨b1, b2⟩ := fE_bound hin
     have pA : 0 < fA d W := Nat.mul_pos hpos hTp
     have pB : 0 < fB d W := by
      unfold fB
      split
      · exact Nat.mul_pos (by omega) (by omega)
      · exact Nat.mul_pos hpos (by omega)
     have pP : 0 < fP d W := Nat.pow_pos (by omega)
     have pQ : 0 < fQ d W := Nat.pow_pos (by omega)
     have kR : ∀ N, 0 < N → (D N).length ≤ 800 → ∀ (v : World) (a b : Option Addr) (c e : Nat), (D N).length ≤ c → Rd v a (D N) → Rd v b (D (fQ d W)) → Calls Tryz.prog 19 #[.int .i64 (k : Int), .bool d.neg, .slice a (D N).length c, .slice b (D (fQ d W)).length e] v fun e w' => e = .returned (.agg #[.int .u64 (M.hiN (rY (M.fm k) d.neg N (fQ d W)) : Int), .int .u64 (M.loN (rY (M.fm k) d.neg N (fQ d W)) : Int), .int .i64 (rF (M.fm k) N (fQ d W)), .bool true]) ∧ Below v.heap.size v w' := fun N hN lN v a b c e hc ra rb => by
      rw [(rY_pos hN).1, (rY_pos (ng := d.neg) hN).2]
      exact sround_pos k hk d.neg a b c e N (fQ d W) v hN pQ (by omega) (Nat.le_trans (fbQ_len b2) (by omega)) hc ra rb
     have hBo : fh d * fU (fk d) W < 2 ^ 193 := mul192 (by omega) (fU_le hin)
     have hB2 : (fh d + 1) * fU (fk d) W < 2 ^ 193 := mul192 (by omega) (fU_le hin)
     have lA := fbLen _ 193 7 hA (by omega)
     have lB := fbLen _ 193 7 hB (by omega)
     refine (sfast_fin (k : Int) ao n c W w d.kind d.neg d.digits.length (d.digits.length - 19) (d.digits.length - (d.digits.length - 19)) d.exp (fk d) (tExp (fk d) W) (fT (fk d) W) (fx (fk d) W) (fh d) (fh d + 1) (fA d W) (fh d * fU (fk d) W) ((fh d + 1) * fT (fk d) W) ((fh d + 1) * fU (fk d) W) (fB d W) (fA d W * fP d W) (fB d W * fP d W) (fQ d W) _ _ _ _ _ _ (faV (M.fm k) d W) (fun v a cc => OwnV v 0 (.slice a d.digits.length cc) d.digits) (fun _ _ _ _ h hb => h.below hb) (fun v a cc ho => ?_)
      (by rw [IntKind.wrap_i64]; omega) (by omega) (L_one1 _ hpos (by omega)) (by rw [IntKind.wrap_u64]; omega) rfl (by omega) (by omega) (fun hh => faV_yes hin hh) (fun hh => faV_no (fun h2 => hh h2.2)) kL kT
      (fun v a cc ho => l1Digits_any a _ cc (d.digits.take (d.digits.length - (d.digits.length - 19))) v (by rw [List.length_take]; omega) (by omega) (fun x hx => hs.dig x (List.mem_of_mem_take hx)) (ho.rd.front _))
      (fun v a cc hr => l1Out_any a _ cc (fh d) v rfl (Nat.le_trans (fbLen _ 64 2 (by omega) (by omega)) (by omega)) hr)
      (fun v => sscale_at (fk d) W hin (fh d) (by omega) v) (fun v => sscale_at (fk d) W hin (fh d + 1) (by omega) v)
      (fun N v a cc hN hr => l1In_L N (by rcases hN with rfl | rfl | rfl <;> assumption) v a cc hr) (fun v => l1Of_any 1 v (by omega))
      (fun hE => ?_) (fun hE => ?_) (kR _ (Nat.mul_pos pA pP) (fbN_len hA b1)) (kR _ (Nat.mul_pos pB pP) (fbN_len hB b1))).mono fun e w' ⟨he, hb⟩ => ⟨.inr ⟨d, hd, he⟩, hb⟩
     · obtain ⟨a', c', hv, q1, q2, q3, q4, q5⟩ := ho
       simp only [Value.slice.injEq] at hv
       obtain ⟨rfl, _, rfl⟩ := hv
       obtain ⟨b, off, cur, e, _⟩ := q5 h3
       exact ⟨q1, q2, b, off, e⟩
     · obtain ⟨s, hs'⟩ := Int.eq_ofNat_of_zero_le hE
       refine ⟨by unfold fQ; rw [show (-(tExp (fk d) W)).toNat = 0 by omega, Nat.pow_zero], fun v a cc hr => ?_, fun v a cc hr => ?_⟩
       · have := l1Left_any a _ cc s (fA d W) v rfl (by omega) (by omega) hr
         unfold fP
         rwa [← hs', show s = (tExp (fk d) W).toNat by omega] at this
       · have := l1Left_any a _ cc s (fB d W) v rfl (by omega) (by omega) hr
         unfold fP
         rwa [← hs', show s = (tExp (fk d) W).toNat by omega] at this
     · have e0 : fP d W = 1 := by unfold fP; rw [show (tExp (fk d) W).toNat = 0 by omega, Nat.pow_zero]
       refine ⟨by rw [e0, Nat.mul_one], by rw [e0, Nat.mul_one], fun v => ?_⟩
       have := l2Two_big (-(tExp (fk d) W)).toNat v (by omega)
       rwa [Int.toNat_of_nonneg (by omega)] at this
   · rw [show tpv (fk d) W = pwv 0 0 0 0 false false from if_neg hin] at kT
     unfold pwv at kT
     simp only [hi0, lo0] at kT
     refine (sfast_out (k : Int) ao n c W w d.kind d.neg d.digits.length (d.digits.length - 19) d.exp (fk d) (fun v hv => (kL v hv).mono fun e w' ⟨a, cc, he, _, hb⟩ => ⟨a, cc, he, hb⟩) kT).mono fun e w' ⟨he, hb⟩ => ⟨.inr ⟨d, hd, by rw [faV_no (fun h => hin h.1)]; exact he⟩, hb⟩
 · refine (sfast_set (k : Int) ao n c W w _ _ _ _ _ (fun v hv => ?_) (fun v hv => sparse_set k hk ao n c bs v hl hcap hno (hr.below hv) hfin)).mono fun e w' ⟨he, hb⟩ => ⟨.inl ⟨hfin, he⟩, hb⟩
   refine (power_no (k : Int) ao n c v _ _ _ _ _ _ kE (scOut bs).1.kind (scOut bs).1.neg (scOut bs).1.digits.length (scOut bs).1.exp (scOut bs).2.1 (scOut bs).2.2 (fun v lo a cc => (∀ x ∈ (scOut bs).1.digits, x < 256) → OwnV v lo (.slice a (scOut bs).1.digits.length cc) (scOut bs).1.digits) (fun _ _ _ _ _ h hb => fun q => (h q).below hb) (fun _ _ _ _ p x h hp => fun q => (h q).far p hp x) (fun u hu => kS v hv u hu) ?_)
   rcases se_facts bs with ⟨h1, h2⟩ | ⟨d, h1, h2, h3⟩
   · exact .inr (.inl h1)
   · rw [h1]
     refine .inr (.inr (Classical.byContradiction fun hn => hfin ⟨d, h1, M.whole_sound h2, ?_, ?_, ?_, h3⟩))
     · exact Classical.byContradiction fun hh => hn (.inl hh)
     · exact Nat.pos_of_ne_zero fun hh => hn (.inr hh)
     · rcases M.whole_kind h2 with x | x | x
       · omega
       · rw [x.2]; simp
       · rw [x.2.2]; simp

theorem sfast_no (f : Int) (hf : f < 0 ∨ 4 ≤ f) (ao : Option Addr) (n c : Nat) (bs : List Nat) (W : Int) (w : World) (hl : bs.length = n) (hcap : n ≤ c) (hno : ao = none → c = 0) (hr : RdB w ao bs) :
 Calls Tryz.prog 4 #[.int .i64 f, .slice ao n c, .int .i64 W] w fun e w' => e = .returned (.agg #[.int .u64 0, .int .u64 0, .int .i64 4, .int .i64 0, .int .i64 0, .bool true]) ∧ Below w.heap.size w w' := by
 refine sfast_set f ao n c W w _ _ _ _ _ (fun v hv => ?_) (fun v hv => sparse_no f hf ao n c v)
 refine power_no f ao n c v 0 0 0 0 0 false (fun v => sdescribeNo f v hf) (scOut bs).1.kind (scOut bs).1.neg (scOut bs).1.digits.length (scOut bs).1.exp (scOut bs).2.1 (scOut bs).2.2 (fun _ _ _ _ => True) (fun _ _ _ _ _ h hb => h) (fun _ _ _ _ p x h hp => h) (fun u hu => ?_) (.inl rfl)
 refine (sscan_any ao n c bs u hl hcap hno (hr.below (hv.trans (hu.mono hv.size))) _ rfl).mono ?_
 rintro e w' ⟨ra, rc, rfl, ho, hb⟩
 exact ⟨ra, rc, rfl, trivial, hb⟩

theorem eqWord_same (a b : Int) (w : World) :
 Calls Tryz.prog 52 #[.agg #[.int .u64 a, .int .u64 b], .agg #[.int .u64 a, .int .u64 b]] w fun r w' => r = .returned (.bool true) ∧ Below w.heap.size w w' := by
 go_enter Tryz.func52, Tryz.ntmps52
 go_wp2_with fail
 go_ret
 exact ⟨rfl, ((Below.refl _ _).alloc (Nat.le_refl _) _).alloc (by simp) _⟩

theorem eqParsed_same (a b c d k : Int) (w : World) :
 Calls Tryz.prog 24 #[.agg #[.int .u64 a, .int .u64 b, .int .i64 c, .int .i64 d, .int .i64 k], .agg #[.int .u64 a, .int .u64 b, .int .i64 c, .int .i64 d, .int .i64 k]] w fun r w' => r = .returned (.bool true) ∧ Below w.heap.size w w' := by
 obtain ⟨hA, hB, b0⟩ := Cls.new2 w #[.int .u64 a, .int .u64 b, .int .i64 c, .int .i64 d, .int .i64 k] #[.int .u64 a, .int .u64 b, .int .i64 c, .int .i64 d, .int .i64 k] 27 27
 have n1 : (c != c) = false := by simp
 have n2 : (d != d) = false := by simp
 have n3 : (k != k) = false := by simp
 generalize hV : ((w.alloc (.cells #[.int .u64 a, .int .u64 b, .int .i64 c, .int .i64 d, .int .i64 k] 27)).alloc (.cells #[.int .u64 a, .int .u64 b, .int .i64 c, .int .i64 d, .int .i64 k] 27)) = v0 at *
 go_enter Tryz.func24, Tryz.ntmps24
 go_upto_region 1 with fail
 clear hV
 have a0 := hA.cell 0 rfl
 have a1 := hA.cell 1 rfl
 have c0 := hB.cell 0 rfl
 have c1 := hB.cell 1 rfl
 go_wp2_with fail
 refine (eqWord_same a b _).mono ?_
 rintro e v1 ⟨rfl, hb1⟩
 replace hA := hA.below hb1
 replace hB := hB.below hb1
 replace b0 := b0.trans (hb1.mono b0.size)
 clear a0 a1 c0 c1 hb1
 have a2 := hA.cell 2 rfl
 have a3 := hA.cell 3 rfl
 have a4 := hA.cell 4 rfl
 have c2 := hB.cell 2 rfl
 have c3 := hB.cell 3 rfl
 have c4 := hB.cell 4 rfl
 have HB := hid b0; clear b0
 go_wp2_with fail
 go_ret
 exact ⟨rfl, HB.out⟩

theorem eqTried_same (a b c d k : Int) (s : Bool) (w : World) :
 Calls Tryz.prog 7 #[.agg #[.int .u64 a, .int .u64 b, .int .i64 c, .int .i64 d, .int .i64 k, .bool s], .agg #[.int .u64 a, .int .u64 b, .int .i64 c, .int .i64 d, .int .i64 k, .bool s]] w fun r w' => r = .returned (.bool true) ∧ Below w.heap.size w w' := by
 obtain ⟨hA, hB, b0⟩ := Cls.new2 w #[.int .u64 a, .int .u64 b, .int .i64 c, .int .i64 d, .int .i64 k, .bool s] #[.int .u64 a, .int .u64 b, .int .i64 c, .int .i64 d, .int .i64 k, .bool s] 29 29
 have n1 : (s != s) = false := by simp
 generalize hV : ((w.alloc (.cells #[.int .u64 a, .int .u64 b, .int .i64 c, .int .i64 d, .int .i64 k, .bool s] 29)).alloc (.cells #[.int .u64 a, .int .u64 b, .int .i64 c, .int .i64 d, .int .i64 k, .bool s] 29)) = v0 at *
 go_enter Tryz.func7, Tryz.ntmps7
 go_upto_region 1 with fail
 clear hV
 have a0 := hA.cell 0 rfl; have a1 := hA.cell 1 rfl; have a2 := hA.cell 2 rfl; have a3 := hA.cell 3 rfl; have a4 := hA.cell 4 rfl
 have c0 := hB.cell 0 rfl; have c1 := hB.cell 1 rfl; have c2 := hB.cell 2 rfl; have c3 := hB.cell 3 rfl; have c4 := hB.cell 4 rfl
 go_wp2_with fail
 refine (eqParsed_same a b c d k _).mono ?_
 rintro e v1 ⟨rfl, hb1⟩
 replace hA := hA.below hb1
 replace hB := hB.below hb1
 replace b0 := b0.trans (hb1.mono b0.size)
 clear a0 a1 a2 a3 a4 c0 c1 c2 c3 c4 hb1
 have a5 := hA.cell 5 rfl
 have c5 := hB.cell 5 rfl
 have HB := hid b0; clear b0
 go_wp2_with fail
 go_ret
 exact ⟨rfl, HB.out⟩

theorem fin1_one {bs : List Nat} {d d' : M.Dec} (h : Fin1 bs d) (h' : Fin1 bs d') : d' = d := by
 have := h.1.symm.trans h'.1
 injection this with h1 h2
 exact h1.symm

theorem fa_both (z : Int) (n : Nat) (xs : List Nat) (W : Int) (hl : xs.length = n) :
 ∃ (a b c d k : Int) (s : Bool), (∀ (v : World) (ao : Option Addr) (cc : Nat), n ≤ cc → (ao = none → cc = 0) → RdB v ao xs → Calls Tryz.prog 4 #[.int .i64 z, .slice ao n cc, .int .i64 W] v fun e w' => e = .returned (.agg #[.int .u64 a, .int .u64 b, .int .i64 c, .int .i64 d, .int .i64 k, .bool s]) ∧ Below v.heap.size v w') ∧
   (∀ (v : World) (ao : Option Addr) (cc : Nat), Fmt v → Fol v → Wds v → RdB v ao xs → Calls Tryz.prog 6 #[.int .i64 z, .slice ao n cc, .int .i64 W] v fun e w' => e = .returned (.agg #[.int .u64 a, .int .u64 b, .int .i64 c, .int .i64 d, .int .i64 k, .bool s]) ∧ Below v.heap.size v w') := by
 by_cases hf : z < 0 ∨ 4 ≤ z
 · exact ⟨0, 0, 4, 0, 0, true, fun v ao cc h1 h2 h3 => sfast_no z hf ao n cc xs W v hl h1 h2 h3, fun v ao cc _ _ _ _ => ifast_no z hf ao n cc W v⟩
 · obtain ⟨f, rfl⟩ := Int.eq_ofNat_of_zero_le (show 0 ≤ z by omega)
   have hf4 : f < 4 := by omega
   by_cases hfin : ∃ d, Fin1 xs d
   · obtain ⟨d, hd⟩ := hfin
     refine ⟨(M.hiN (faO (M.fm f) d W).1 : Int), (M.loN (faO (M.fm f) d W).1 : Int), 0, 0, (faO (M.fm f) d W).2.1, (faO (M.fm f) d W).2.2, fun v ao cc h1 h2 h3 => ?_, fun v ao cc hm hF hW h3 => ?_⟩
     · refine (sfast_any f hf4 ao n cc xs W v hl h1 h2 h3).mono ?_
       rintro e w' ⟨⟨hn, _⟩ | ⟨d', hd', he⟩, hb⟩
       · exact absurd ⟨d, hd⟩ hn
       · rw [fin1_one hd hd'] at he
         exact ⟨he, hb⟩
     · refine (ifast_any f hf4 ao n cc xs W v hl h3 hm hF hW).mono ?_
       rintro e w' ⟨⟨hn, _⟩ | ⟨d', hd', he⟩, hb⟩
       · exact absurd ⟨d, hd⟩ hn
       · rw [fin1_one hd hd'] at he
         exact ⟨he, hb⟩
   · refine ⟨(M.hiN (seO (M.fm f) (scOut xs)).1 : Int), (M.loN (seO (M.fm f) (scOut xs)).1 : Int), (seO (M.fm f) (scOut xs)).2.1, (seO (M.fm f) (scOut xs)).2.2, 0, true, fun v ao cc h1 h2 h3 => ?_, fun v ao cc hm hF hW h3 => ?_⟩
     · refine (sfast_any f hf4 ao n cc xs W v hl h1 h2 h3).mono ?_
       rintro e w' ⟨⟨_, he⟩ | ⟨d', hd', he⟩, hb⟩
       · exact ⟨he, hb⟩
       · exact absurd ⟨d', hd'⟩ hfin
     · refine (ifast_any f hf4 ao n cc xs W v hl h3 hm hF hW).mono ?_
       rintro e w' ⟨⟨_, he⟩ | ⟨d', hd', he⟩, hb⟩
       · exact ⟨he, hb⟩
       · exact absurd ⟨d', hd'⟩ hfin

theorem beDrew {B : Nat} {w v : World} (h : Below B w v) (q : Nat) : Below B w (v.drewN q) := ⟨h.os, h.tape, h.output, h.size, h.block⟩

theorem dec_selfP (xs : List Nat) : decide (xs = xs) = true := by simp

theorem lawParseFast (z : Int) (a0 : Option Addr) (n c : Nat) (xs : List Nat) (W : Int) (w : World) (_h : (Lit.int .i64 z).wf = true) (w0 : InB w a0 n c xs) (_h2 : (Lit.int .i64 W).wf = true) (hm : Fmt w) (hF : Fol w) (hWd : Wds w) :
 Calls Tryz.prog 3 #[.int .i64 z, .slice a0 n c, .int .i64 W] w fun e w' => e = .returned (.bool true) ∧ Below w.heap.size w w' := by
 obtain ⟨hl, hc, hr⟩ := w0
 by_cases h1 : n ≤ 1048576
 · have h1' : ¬ (1048576 : Int) < (n : Int) := by omega
   obtain ⟨A, B, C, E, K, S, kS, kI⟩ := fa_both z n xs W hl
   have HL := hid hl; clear hl
   go_enter Tryz.func3, Tryz.ntmps3
   go_wp2_with fail
   refine (toB_any a0 n c xs _ HL.out (by omega) hr.y).mono ?_
   rintro e v1 ⟨rfl, hA1, hb1⟩
   go_wp2_with fail
   refine (kS _ _ n (Nat.le_refl _) (fun e => by cases e) (RdB.of hA1.rd0 hr.1)).mono ?_
   rintro e v2 ⟨rfl, hb2⟩
   have b2 : Below w.heap.size w v2 := hb1.trans (hb2.mono hb1.size)
   have cW := Cls.new v2 #[.int .u64 A, .int .u64 B, .int .i64 C, .int .i64 E, .int .i64 K, .bool S] 29
   have hb3 : Below v2.heap.size v2 (v2.alloc (.cells #[.int .u64 A, .int .u64 B, .int .i64 C, .int .i64 E, .int .i64 K, .bool S] 29)) := (Below.refl _ _).alloc (Nat.le_refl _) _
   replace b2 := b2.trans (hb3.mono b2.size)
   clear hA1 hb1 hb2 hb3 kS
   go_upto_region 4 with fail
   generalize (v2.alloc (.cells #[.int .u64 A, .int .u64 B, .int .i64 C, .int .i64 E, .int .i64 K, .bool S] 29)) = v3 at *
   generalize v2.heap.size = gw at *
   go_wp2_with fail
   refine (toB_any a0 n c xs _ HL.out (by omega) (hr.below b2).y).mono ?_
   rintro e v4 ⟨rfl, hA4, hb4⟩
   replace b2 := b2.trans (hb4.mono b2.size)
   replace cW := cW.below hb4
   clear hb4
   generalize v3.heap.size = g4 at *
   go_wp2_with fail
   refine (kI _ _ n (hm.below b2) (hF.below b2) (hWd.below b2) (RdB.of hA4.rd0 hr.1)).mono ?_
   rintro e v5 ⟨rfl, hb5⟩
   have cG := Cls.new v5 #[.int .u64 A, .int .u64 B, .int .i64 C, .int .i64 E, .int .i64 K, .bool S] 29
   have hb6 : Below v5.heap.size v5 (v5.alloc (.cells #[.int .u64 A, .int .u64 B, .int .i64 C, .int .i64 E, .int .i64 K, .bool S] 29)) := (Below.refl _ _).alloc (Nat.le_refl _) _
   replace hb5 := hb5.trans (hb6.mono hb5.size)
   replace b2 := b2.trans (hb5.mono b2.size)
   replace cW := cW.below hb5
   replace hA4 := hA4.keep hb5
   clear hb5 hb6 kI
   go_upto_region 6 with fail
   generalize (v5.alloc (.cells #[.int .u64 A, .int .u64 B, .int .i64 C, .int .i64 E, .int .i64 K, .bool S] 29)) = v6 at *
   generalize v5.heap.size = gg at *
   have x0 := cW.cell 0 rfl
   have x1 := cW.cell 1 rfl
   have x2 := cW.cell 2 rfl
   have x3 := cW.cell 3 rfl
   have x4 := cW.cell 4 rfl
   have x5 := cW.cell 5 rfl
   have y0 := cG.cell 0 rfl
   have y1 := cG.cell 1 rfl
   have y2 := cG.cell 2 rfl
   have y3 := cG.cell 3 rfl
   have y4 := cG.cell 4 rfl
   have y5 := cG.cell 5 rfl
   go_wp2_with fail
   refine (eqTried_same A B C E K S _).mono ?_
   rintro e v8 ⟨rfl, hb8⟩
   replace b2 := b2.trans (hb8.mono b2.size)
   replace hA4 := hA4.keep hb8
   clear hb8 cW cG x0 x1 x2 x3 x4 x5 y0 y1 y2 y3 y4 y5
   go_wp2_with fail
   refine (toB_any a0 n c xs _ HL.out (by omega) (hr.below b2).y).mono ?_
   rintro e v9 ⟨rfl, hA9, hb9⟩
   replace b2 := b2.trans (hb9.mono b2.size)
   replace hA4 := hA4.keep hb9
   clear hb9
   go_wp2_with fail
   refine (eqB_any _ _ n n n n xs xs _ HL.out HL.out (by omega) (by omega) hA4.rd0 hA9.rd0).mono ?_
   rintro e v10 ⟨rfl, q10, hv10⟩
   have b10 : Below w.heap.size w v10 := by rw [hv10]; exact beDrew b2 _
   clear hv10 hA4 hA9 b2
   rw [dec_selfP]
   have HB := hid b10
   clear b10
   go_wp2_with fail
   go_ret
   exact ⟨rfl, HB.out⟩
 · have h1' : (1048576 : Int) < (n : Int) := by omega
   go_enter Tryz.func3, Tryz.ntmps3
   go_wp2_with fail
   go_ret
   exact ⟨rfl, Below.refl _ _⟩

end Go.Proofs.YtjffpclidcloeaaGreatDoor
