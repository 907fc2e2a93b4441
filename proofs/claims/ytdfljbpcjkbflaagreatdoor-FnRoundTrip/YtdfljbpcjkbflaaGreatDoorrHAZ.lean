import Derived.Test.YtdfljbpcjkbflaaGreatDoorrHAT
import Derived.Test.YtdfljbpcjkbflaaGreatDoorrHAY
set_option maxHeartbeats 4000000
set_option maxRecDepth 10000
namespace Go.Proofs.YtdfljbpcjkbflaaGreatDoor
open Go.RowKit
set_option linter.unusedVariables false
set_option maxRecDepth 100000
theorem nQ {x y : Nat} : (aR (x : Int) (y : Int) < 0) = (x < y) := by
 unfold aR
 by_cases h : (x : Int) < y
 · rw [if_pos h]; simp; omega
 · rw [if_neg h]
   by_cases h2 : (y : Int) < x
   · rw [if_pos h2]; simp; omega
   · rw [if_neg h2]; simp; omega

theorem fD (a b K J : Nat) (h1 : (L a).length ≤ K) (h2 : (L b).length ≤ J) : (L (a * b)).length ≤ K + J := by
 refine M.len_of_lt (B := 18446744073709551616) (by omega) _ _ ?_
 rw [Nat.pow_add]
 exact Nat.mul_lt_mul'' (iL a K h1) (iL b J h2)

theorem JI (d z : Nat) (h : 1 ≤ d) : (M.txt (d * 10 ^ z)).length = (M.txt d).length + z ∧ (M.txt (d * 10 ^ z)).getD ((M.txt d).length - 1) 0 = 48 + d % 10 := by
 refine ⟨M.j9 d h z, ?_⟩
 rw [M.iS d h z, M.sM d h, M.eD (show d ≠ 0 by omega)]
 simp only [List.reverse_cons, List.length_append, List.length_reverse, List.length_cons, List.length_nil]
 rw [List.append_assoc, List.getD_eq_getElem?_getD, List.getElem?_append_right (by simp)]
 simp

theorem pO (d z : Nat) (hd : 1 ≤ d) (a : Option Addr) (c : Nat) (w : World) (hz : z ≤ 1000) (hT : (M.txt d).length ≤ 20000) (hl : (L (d * 10 ^ z)).length ≤ 1000) (hr : Rd w a (L (d * 10 ^ z))) :
 Calls Tryz.prog 112 #[.slice a (L (d * 10 ^ z)).length c, .int .i64 (z : Int)] w fun e w' => e = .returned (.bool (decide (d % 2 = 0))) ∧ Below w.heap.size w w' := by
 obtain ⟨t1, t2⟩ := JI d z hd
 have kd := fun v : World => fun hr => jU (d * 10 ^ z) a _ c v rfl (by omega) hr
 go_enter Tryz.func112, Tryz.ntmps112
 go_wp2_with fail
 refine (kd _ hr).mono ?_
 rintro e v1 ⟨ra, rc, rfl, ho, hb⟩
 have rY := (OwnV.of_own ho (fun x hx => by have := M.gG _ x hx; omega)).rd
 have tp := M.iA d
 obtain ⟨b, off, rfl, hcell⟩ := rY.2 (by omega)
 have hc := hcell ((M.txt d).length - 1) (by omega)
 rw [t2] at hc
 obtain ⟨i, hi⟩ : ∃ i, i = (M.txt d).length - 1 := ⟨_, rfl⟩
 rw [← hi] at hc
 obtain ⟨n, hn⟩ : ∃ n, n = (M.txt d).length + z := ⟨_, rfl⟩
 rw [t1, ← hn]
 have e1 : (n : Int) - 1 - (z : Int) = (i : Int) := by omega
 have e2 : i < n := by omega
 have e3 : n ≤ 30000 := by omega
 have HB := hid hb
 have e4 : n - 1 - z = i := by omega
 have e5 : (48 + (d % 10 : Nat)) % 2 = d % 2 := by omega
 clear kd t1 t2 hcell rY ho hb hT hn hi tp
 obtain ⟨q, hq⟩ : ∃ q, q = 48 + d % 10 := ⟨_, rfl⟩
 rw [← hq] at hc e5
 have hq2 : q < 100 := by omega
 have E5 := hid e5
 clear hq e5
 go_wp2_with fail
 go_ret
 refine ⟨?_, HB.out⟩
 have e6 : ((q : Int) % 2 == 0) = decide (d % 2 = 0) := by
  have := E5.out
  rw [Bool.eq_iff_iff]
  simp
  omega
 exact congrArg (fun x => Ending.returned (Value.bool x)) e6

def nrI (N De d z Ls Ms : Nat) : Nat :=
 if ¬ Ls ≤ d * 10 ^ z then d * 10 ^ z + 10 ^ z
 else if ¬ d * 10 ^ z + 10 ^ z ≤ Ms then d * 10 ^ z
 else if 2 * N < (d * 10 ^ z + (d * 10 ^ z + 10 ^ z)) * De ∨ (2 * N = (d * 10 ^ z + (d * 10 ^ z + 10 ^ z)) * De ∧ d % 2 = 0) then d * 10 ^ z
 else d * 10 ^ z + 10 ^ z

theorem uJ (ex : Int) (N De W Ls Ms z : Nat) (a1 a2 a3 a4 a5 : Option Addr) (c1 c2 c3 c4 c5 : Nat) (w : World) (hz : z ≤ 1000) (hd : 1 ≤ W / 10 ^ z) (hT : (M.txt (W / 10 ^ z)).length ≤ 20000)
 (hN : (L N).length ≤ 1000) (hDe : (L De).length ≤ 1000) (hW : (L W).length ≤ 1000) (hL : (L Ls).length ≤ 1000) (hM : (L Ms).length ≤ 1000)
 (h1 : Rd w a1 (L N)) (h2 : Rd w a2 (L De)) (h3 : Rd w a3 (L W)) (h4 : Rd w a4 (L Ls)) (h5 : Rd w a5 (L Ms)) :
 Calls Tryz.prog 85 #[.agg #[.int .i64 ex, .slice a1 (L N).length c1, .slice a2 (L De).length c2, .slice a3 (L W).length c3, .slice a4 (L Ls).length c4, .slice a5 (L Ms).length c5], .int .i64 (z : Int)] w fun e w' => ∃ ra rc, e = .returned (.slice ra (L (nrI N De (W / 10 ^ z) z Ls Ms)).length rc) ∧ Rd w' ra (L (nrI N De (W / 10 ^ z) z Ls Ms)) ∧ Below w.heap.size w w' := by
 obtain ⟨d, hdd⟩ : ∃ d, d = W / 10 ^ z := ⟨_, rfl⟩
 rw [← hdd] at hd hT ⊢
 have l1 : (L (d * 10 ^ z)).length ≤ 1000 := by rw [hdd]; exact Nat.le_trans (dB (Nat.div_mul_le_self _ _)) hW
 have l2 : (L (d * 10 ^ z + 10 ^ z)).length ≤ 1202 := kZ _ _ 1201 (by omega) (eV 10 z (dU z (by omega)))
 have kn := fun v : World => fun hr => qP ex (.slice a1 (L N).length c1) (.slice a2 (L De).length c2) (.slice a4 (L Ls).length c4) (.slice a5 (L Ms).length c5) a3 c3 W z v hz hW hr
 have kE := fun (v : World) (a : Option Addr) (c : Nat) hr => pO d z hd a c v hz hT l1 hr
 rw [← hdd] at kn
 unfold nrI
 obtain ⟨B1, hB1⟩ : ∃ B1, B1 = d * 10 ^ z := ⟨_, rfl⟩
 obtain ⟨B2, hB2⟩ : ∃ B2, B2 = B1 + 10 ^ z := ⟨_, rfl⟩
 rw [← hB1] at kn kE l1 l2 ⊢
 rw [← hB2] at kn l2 ⊢
 obtain ⟨R, hR⟩ : ∃ R, R = (if ¬ Ls ≤ B1 then B2 else if ¬ B2 ≤ Ms then B1 else if 2 * N < (B1 + B2) * De ∨ (2 * N = (B1 + B2) * De ∧ d % 2 = 0) then B1 else B2) := ⟨_, rfl⟩
 rw [← hR]
 have HR := hid hR
 clear hB1 hB2 hdd hR
 have b0 : Below w.heap.size w (w.alloc (.cells #[.int .i64 ex, .slice a1 (L N).length c1, .slice a2 (L De).length c2, .slice a3 (L W).length c3, .slice a4 (L Ls).length c4, .slice a5 (L Ms).length c5] 75)) := (Below.refl _ _).alloc (Nat.le_refl _) _
 have h0 := Cls.new w #[.int .i64 ex, .slice a1 (L N).length c1, .slice a2 (L De).length c2, .slice a3 (L W).length c3, .slice a4 (L Ls).length c4, .slice a5 (L Ms).length c5] 75
 have k1 := nQ (x := B1) (y := Ls)
 have k2 := nQ (x := Ms) (y := B2)
 have K1 := hid k1; have K2 := hid k2; clear k1 k2
 go_enter Tryz.func85, Tryz.ntmps85
 go_wp2_with fail
 refine (kn _ (h3.below b0)).mono ?_
 rintro e v1 ⟨b1, d1, b2, d2, rfl, r1, r2, hb⟩
 replace b0 := b0.trans (hb.mono b0.size)
 replace h0 := h0.below hb
 clear hb kn
 have y1 := h0.cell 1 rfl
 have y2 := h0.cell 2 rfl
 have y4 := h0.cell 4 rfl
 have y5 := h0.cell 5 rfl
 go_wp2_with fail
 refine (bF b1 a4 _ _ d1 c4 B1 Ls _ rfl rfl (by omega) (by omega) r1 (h4.below b0)).mono ?_
 rintro e v2 ⟨rfl, q, rfl⟩
 have bq : Below v1.heap.size v1 (v1.drewN q) := below_drewN (Below.refl _ _) q
 replace b0 := b0.trans (bq.mono b0.size)
 replace h0 := h0.below bq
 replace r1 := r1.below bq
 replace r2 := r2.below bq
 generalize v1.drewN q = v3 at *
 clear y1 y2 y4 y5 bq
 have y1 := h0.cell 1 rfl
 have y2 := h0.cell 2 rfl
 have y5 := h0.cell 5 rfl
 by_cases hc1 : Ls ≤ B1
 · have k3 : ¬ aR (B1 : Int) (Ls : Int) < 0 := by rw [K1.out]; omega
   go_wp2_with fail
   refine (bF a5 b2 _ _ c5 d2 Ms B2 _ rfl rfl (by omega) (by omega) (h5.below b0) r2).mono ?_
   rintro e v4 ⟨rfl, q2, rfl⟩
   have bq : Below v3.heap.size v3 (v3.drewN q2) := below_drewN (Below.refl _ _) q2
   replace b0 := b0.trans (bq.mono b0.size)
   replace h0 := h0.below bq
   replace r1 := r1.below bq
   replace r2 := r2.below bq
   generalize v3.drewN q2 = v5 at *
   clear y1 y2 y5 bq
   have y1 := h0.cell 1 rfl
   have y2 := h0.cell 2 rfl
   by_cases hc2 : B2 ≤ Ms
   · have k4 : ¬ aR (Ms : Int) (B2 : Int) < 0 := by rw [K2.out]; omega
     have D1 : ∀ v, Below v5.heap.size v5 v → (fun v : World => v.cell? ⟨w.heap.size, 1, none⟩ = some (.slice a1 (L N).length c1) ∧ v.cell? ⟨w.heap.size, 2, none⟩ = some (.slice a2 (L De).length c2)) v := fun v hv => ⟨(h0.below hv).cell 1 rfl, (h0.below hv).cell 2 rfl⟩
     have hdr : Below v5.heap.size v5 v5.drew := (Below.refl _ _).drew
     have g1 := h1.below b0
     have g2 := h2.below b0
     have lb : (L (B1 + B2)).length ≤ 1203 := kZ _ _ 1202 (by omega) l2
     obtain ⟨S2, hS2⟩ : ∃ S2, S2 = N * 2 ^ 1 := ⟨_, rfl⟩
     obtain ⟨M2, hM2⟩ : ∃ M2, M2 = (B1 + B2) * De := ⟨_, rfl⟩
     have kS := fun (v : World) hr => aL a1 _ c1 1 N v rfl (by omega) (by omega) hr
     have kM := fun (v : World) (a : Option Addr) (c : Nat) hr hr2 => jH a a2 _ _ c c2 (B1 + B2) De v rfl rfl (by omega) (by omega) hr hr2
     rw [← hS2] at kS
     rw [← hM2] at kM
     have lS : (L S2).length ≤ 4194304 := by rw [hS2, Nat.pow_one, Nat.mul_two]; exact Nat.le_trans (kZ N N 1000 hN hN) (by omega)
     have lM : (L M2).length ≤ 4194304 := by rw [hM2]; exact Nat.le_trans (fD (B1 + B2) De 1203 1000 lb hDe) (by omega)
     have HS := hid (show 2 * N = S2 by omega); have HM := hid hM2; clear hS2 hM2
     clear y1 y2
     go_wp2_with fail
     go_region_held3 (fun v : World => v.cell? ⟨w.heap.size, 1, none⟩ = some (.slice a1 (L N).length c1) ∧ v.cell? ⟨w.heap.size, 2, none⟩ = some (.slice a2 (L De).length c2)) (with_reducible exact D1 _ (by assumption))
      (first
        | (go_at_call 77; refine (kS _ (g1.below hdr)).mono ?_; rintro e t1 ⟨sa, sc, rfl, so, hbt'⟩; have hb1 := hdr.trans (hbt'.mono (Nat.le_refl _)); have sr := Rd.own so; clear hbt' so)
        | (go_at_call 75; refine (sH b1 b2 _ _ d1 d2 B1 B2 _ rfl rfl (by omega) (by omega) (r1.below hb1) (r2.below hb1)).mono ?_; rintro e t2 ⟨pa, pc, rfl, po, hbt'⟩; have hb2 := hb1.trans (hbt'.mono hb1.size); replace sr := sr.below hbt'; have pr := Rd.own po; clear hbt' hb1 po)
        | (go_at_call 97; refine (kM _ _ _ pr (g2.below hb2)).mono ?_; rintro e t3 ⟨ma, mc, rfl, mo, hbt'⟩; have hb3 := hb2.trans (hbt'.mono hb2.size); replace sr := sr.below hbt'; have mr := Rd.own mo; clear hbt' hb2 mo)
        | (go_at_call 83; refine (bF sa ma _ _ sc mc S2 M2 _ rfl rfl lS lM sr mr).mono ?_; rintro e t4 ⟨rfl, q4, rfl⟩; have hb4 := below_drewN hb3 q4; clear hb3))
     all_goals (replace b0 := b0.trans (hb4.mono b0.size); replace r1 := r1.below hb4; replace r2 := r2.below hb4)
     generalize t3.drewN q4 = v9 at *
     have e0 : aR (S2 : Int) (M2 : Int) = if S2 < M2 then -1 else if S2 = M2 then 0 else 1 := by
      unfold aR
      by_cases x1 : S2 < M2
      · rw [if_pos (by omega), if_pos x1]
      · rw [if_neg (by omega), if_neg x1]
        by_cases x2 : S2 = M2
        · rw [if_neg (by omega), if_pos x2]
        · rw [if_pos (by omega), if_neg x2]
     rw [e0]
     have e1 := HS.out
     have e2 := HM.out
     by_cases x1 : S2 < M2
     · rw [if_pos x1]
       have e : R = B1 := by rw [HR.out, if_neg (by omega), if_neg (by omega), if_pos (.inl (by omega))]
       have HB := hid b0; clear b0 e0 e1 e2
       go_wp2_with fail
       go_ret
       rw [e]
       exact ⟨b1, d1, rfl, r1, HB.out⟩
     · rw [if_neg x1]
       by_cases x2 : S2 = M2
       · rw [if_pos x2]
         clear e0
         go_wp2_with fail
         refine (kE _ _ _ r1).mono ?_
         rintro e t5 ⟨rfl, hb5⟩
         replace b0 := b0.trans (hb5.mono b0.size)
         replace r1 := r1.below hb5
         replace r2 := r2.below hb5
         by_cases x3 : d % 2 = 0
         · have e : R = B1 := by rw [HR.out, if_neg (by omega), if_neg (by omega), if_pos (.inr ⟨by omega, x3⟩)]
           have HB := hid b0; clear b0 e1 e2
           go_wp2_with fail
           go_ret
           rw [e]
           exact ⟨b1, d1, rfl, r1, HB.out⟩
         · have e : R = B2 := by rw [HR.out, if_neg (by omega), if_neg (by omega), if_neg (by omega)]
           have HB := hid b0; clear b0 e1 e2
           go_wp2_with fail
           go_ret
           rw [e]
           exact ⟨b2, d2, rfl, r2, HB.out⟩
       · rw [if_neg x2]
         have e : R = B2 := by rw [HR.out, if_neg (by omega), if_neg (by omega), if_neg (by omega)]
         have HB := hid b0; clear b0 e0 e1 e2
         go_wp2_with fail
         go_ret
         rw [e]
         exact ⟨b2, d2, rfl, r2, HB.out⟩
   · have k4 : aR (Ms : Int) (B2 : Int) < 0 := by rw [K2.out]; omega
     have HB := hid b0; clear b0
     have e : R = B1 := by rw [HR.out, if_neg (by omega), if_pos (by omega)]
     go_wp2_with fail
     go_ret
     rw [e]
     exact ⟨b1, d1, rfl, r1, HB.out⟩
 · have k3 : aR (B1 : Int) (Ls : Int) < 0 := by rw [K1.out]; omega
   have HB := hid b0; clear b0
   have e : R = B2 := by rw [HR.out, if_pos hc1]
   go_wp2_with fail
   go_ret
   rw [e]
   exact ⟨b2, d2, rfl, r2, HB.out⟩

theorem qY (a b : Option Addr) (c d n m N De s : Nat) (w : World) (hl : (L N).length = n) (hm : (L De).length = m) (hn : n ≤ 1048576) (hn2 : m ≤ 1048576) (hs : s ≤ 100000) (ra : Rd w a (L N)) (rb : Rd w b (L De)) :
 Calls Tryz.prog 73 #[.agg #[.slice a n c, .slice b m d], .int .i64 (s : Int)] w fun e w' => RR w w' e (N * 2 ^ s) (De * 2 ^ 0) := by
 have hz : max (s : Int) 0 = (s : Int) := by omega
 have hzw : max (IntKind.i64.wrap (-(s : Int))) 0 = (0 : Int) := by rw [IntKind.wrap_i64]; omega
 go_enter Tryz.func73, Tryz.ntmps73
 go_wp2_with fail
 have b1 : Below w.heap.size w ((w.alloc (.cells #[.slice a n c, .slice b m d] 73)).alloc (.cells #[.slice none 0 0, .slice none 0 0] 73)) := ((Below.refl _ _).alloc (Nat.le_refl _) _).alloc (by simp) _
 generalize hw1 : ((w.alloc (.cells #[.slice a n c, .slice b m d] 73)).alloc (.cells #[.slice none 0 0, .slice none 0 0] 73)) = w1 at *
 have c0 : w1.cell? ⟨w.heap.size, 0, none⟩ = some (.slice a n c) := by rw [← hw1]; simp [go_sem]
 have c1 : w1.cell? ⟨w.heap.size, 1, none⟩ = some (.slice b m d) := by rw [← hw1]; simp [go_sem]
 have r0 : w1.cell? ⟨w.heap.size + 1, 0, none⟩ = some (.slice none 0 0) := by rw [← hw1]; simp [go_sem]
 have r1 : w1.cell? ⟨w.heap.size + 1, 1, none⟩ = some (.slice none 0 0) := by rw [← hw1]; simp [go_sem]
 have z0 : w1.frozen? ⟨w.heap.size + 1, 0, none⟩ = false := by rw [← hw1]; simp [go_sem]
 have z1 : w1.frozen? ⟨w.heap.size + 1, 1, none⟩ = false := by rw [← hw1]; simp [go_sem]
 have n1 : w.heap.size + 2 ≤ w1.heap.size := by rw [← hw1]; simp
 clear hw1
 have k1 : ∀ v (z : Int), z = (s : Int) → Below w1.heap.size w1 v → Calls Tryz.prog 77 #[.slice a n c, .int .i64 z] v fun e v' => ∃ a1 c1, e = .returned (.slice a1 (L (N * 2 ^ s)).length c1) ∧ v'.ownsRow w1.heap.size 23 1 (.slice a1 (L (N * 2 ^ s)).length c1) (L (N * 2 ^ s)).length (U (L (N * 2 ^ s))) ∧ Below w1.heap.size w1 v' := fun v z hz hv => hz ▸ (aL a n c s N v hl hn (by omega) ((ra.below b1).below hv)).mono fun e v' ⟨a1, c1, he, ho, hb⟩ => ⟨a1, c1, he, aO ho hv.size, cB hv hb⟩
 have k2 : ∀ v (z : Int) a1 c1, z = (0 : Int) → Below w1.heap.size w1 v → v.ownsRow w1.heap.size 23 1 (.slice a1 (L (N * 2 ^ s)).length c1) (L (N * 2 ^ s)).length (U (L (N * 2 ^ s))) → Calls Tryz.prog 77 #[.slice b m d, .int .i64 z] v fun e v' => ∃ a2 c2, e = .returned (.slice a2 (L (De * 2 ^ 0)).length c2) ∧ (∀ x y, Rd ((v'.setCell ⟨w.heap.size + 1, 0, none⟩ x).setCell ⟨w.heap.size + 1, 1, none⟩ y) a1 (L (N * 2 ^ s)) ∧ Rd ((v'.setCell ⟨w.heap.size + 1, 0, none⟩ x).setCell ⟨w.heap.size + 1, 1, none⟩ y) a2 (L (De * 2 ^ 0))) ∧ v'.cell? ⟨w.heap.size + 1, 0, none⟩ = some (.slice none 0 0) ∧ v'.cell? ⟨w.heap.size + 1, 1, none⟩ = some (.slice none 0 0) ∧ v'.frozen? ⟨w.heap.size + 1, 0, none⟩ = false ∧ v'.frozen? ⟨w.heap.size + 1, 1, none⟩ = false ∧ Below w1.heap.size w1 v' := fun v z a1 c1 hz hv ho1 => hz ▸ (aL b m d 0 De v hm hn2 (by omega) ((rb.below b1).below hv)).mono fun e v' ⟨a2, c2, he, ho, hb⟩ => ⟨a2, c2, he, fun x y => ⟨fB (fM ho1 hb) (by omega) x y, fB ho (by have := hv.size; omega) x y⟩, ((cB hv hb).cell (by simp only; omega)).trans r0, ((cB hv hb).cell (by simp only; omega)).trans r1, ((cB hv hb).frozen (by simp only; omega)).trans z0, ((cB hv hb).frozen (by simp only; omega)).trans z1, cB hv hb⟩
 have D1 : ∀ v, Below w1.heap.size w1 v → (fun v => v.cell? ⟨w.heap.size, 0, none⟩ = some (.slice a n c) ∧ v.cell? ⟨w.heap.size, 1, none⟩ = some (.slice b m d)) v := fun v hv => ⟨(hv.cell (by simp only; omega)).trans c0, (hv.cell (by simp only; omega)).trans c1⟩
 have D2 : ∀ v x y, Below w1.heap.size w1 v → (fun v => v.cell? ⟨w.heap.size, 0, none⟩ = some (.slice a n c) ∧ v.cell? ⟨w.heap.size, 1, none⟩ = some (.slice b m d)) ((v.setCell ⟨w.heap.size + 1, 0, none⟩ x).setCell ⟨w.heap.size + 1, 1, none⟩ y) := fun v x y hv => ⟨((mZ v x y (by omega)).trans (hv.cell (by simp only; omega))).trans c0, ((mZ v x y (by omega)).trans (hv.cell (by simp only; omega))).trans c1⟩
 clear c0 c1 r0 r1 z0 z1 ra rb hl hm
 go_region_held3 (fun v => v.cell? ⟨w.heap.size, 0, none⟩ = some (.slice a n c) ∧ v.cell? ⟨w.heap.size, 1, none⟩ = some (.slice b m d)) (first | exact D1 _ (by assumption) | exact D1 _ ((Below.refl _ _).drew) | exact D2 _ _ _ (by assumption))
  (first | (have hq := hb1; go_at_call 77; refine (k2 _ _ _ _ (by first | with_reducible rfl | omega | (simp only [IntKind.wrap_i64]; omega)) hq ho1).mono ?_; rintro e w' ⟨ao2, ca2, rfl, hRd, f0, f1, f2, f3, hb2⟩; clear hb1 hq ho1) | (go_at_call 77; refine (k1 _ _ (by first | with_reducible rfl | omega | (simp only [IntKind.wrap_i64]; omega)) (Below.refl _ _).drew).mono ?_; rintro e w' ⟨ao1, ca1, rfl, ho1, hb1⟩))
 all_goals go_wp2_with fail
 all_goals exact bodyPost_ret (v := .agg #[.slice ao1 (L (N * 2 ^ s)).length ca1, .slice ao2 (L (De * 2 ^ 0)).length ca2]) (by simp [results, Tryz.results73, go_sem, f0, f1]) rfl ⟨ao1, ca1, ao2, ca2, rfl, (hRd _ _).1, (hRd _ _).2, ((b1.trans (hb2.mono b1.size)).setCell (by simp only; omega) _).setCell (by simp only; omega) _⟩

theorem rK (a b : Option Addr) (c d n m N De s : Nat) (w : World) (hl : (L N).length = n) (hm : (L De).length = m) (hn : n ≤ 1048576) (hn2 : m ≤ 1048576) (hs : s ≤ 100000) (ra : Rd w a (L N)) (rb : Rd w b (L De)) :
 Calls Tryz.prog 73 #[.agg #[.slice a n c, .slice b m d], .int .i64 (-(s : Int))] w fun e w' => RR w w' e (N * 2 ^ 0) (De * 2 ^ s) := by
 have hz : max (-(s : Int)) 0 = (0 : Int) := by omega
 have hzw : max (IntKind.i64.wrap (-(-(s : Int)))) 0 = (s : Int) := by rw [IntKind.wrap_i64]; omega
 go_enter Tryz.func73, Tryz.ntmps73
 go_wp2_with fail
 have b1 : Below w.heap.size w ((w.alloc (.cells #[.slice a n c, .slice b m d] 73)).alloc (.cells #[.slice none 0 0, .slice none 0 0] 73)) := ((Below.refl _ _).alloc (Nat.le_refl _) _).alloc (by simp) _
 generalize hw1 : ((w.alloc (.cells #[.slice a n c, .slice b m d] 73)).alloc (.cells #[.slice none 0 0, .slice none 0 0] 73)) = w1 at *
 have c0 : w1.cell? ⟨w.heap.size, 0, none⟩ = some (.slice a n c) := by rw [← hw1]; simp [go_sem]
 have c1 : w1.cell? ⟨w.heap.size, 1, none⟩ = some (.slice b m d) := by rw [← hw1]; simp [go_sem]
 have r0 : w1.cell? ⟨w.heap.size + 1, 0, none⟩ = some (.slice none 0 0) := by rw [← hw1]; simp [go_sem]
 have r1 : w1.cell? ⟨w.heap.size + 1, 1, none⟩ = some (.slice none 0 0) := by rw [← hw1]; simp [go_sem]
 have z0 : w1.frozen? ⟨w.heap.size + 1, 0, none⟩ = false := by rw [← hw1]; simp [go_sem]
 have z1 : w1.frozen? ⟨w.heap.size + 1, 1, none⟩ = false := by rw [← hw1]; simp [go_sem]
 have n1 : w.heap.size + 2 ≤ w1.heap.size := by rw [← hw1]; simp
 clear hw1
 have k1 : ∀ v (z : Int), z = (0 : Int) → Below w1.heap.size w1 v → Calls Tryz.prog 77 #[.slice a n c, .int .i64 z] v fun e v' => ∃ a1 c1, e = .returned (.slice a1 (L (N * 2 ^ 0)).length c1) ∧ v'.ownsRow w1.heap.size 23 1 (.slice a1 (L (N * 2 ^ 0)).length c1) (L (N * 2 ^ 0)).length (U (L (N * 2 ^ 0))) ∧ Below w1.heap.size w1 v' := fun v z hz hv => hz ▸ (aL a n c 0 N v hl hn (by omega) ((ra.below b1).below hv)).mono fun e v' ⟨a1, c1, he, ho, hb⟩ => ⟨a1, c1, he, aO ho hv.size, cB hv hb⟩
 have k2 : ∀ v (z : Int) a1 c1, z = (s : Int) → Below w1.heap.size w1 v → v.ownsRow w1.heap.size 23 1 (.slice a1 (L (N * 2 ^ 0)).length c1) (L (N * 2 ^ 0)).length (U (L (N * 2 ^ 0))) → Calls Tryz.prog 77 #[.slice b m d, .int .i64 z] v fun e v' => ∃ a2 c2, e = .returned (.slice a2 (L (De * 2 ^ s)).length c2) ∧ (∀ x y, Rd ((v'.setCell ⟨w.heap.size + 1, 0, none⟩ x).setCell ⟨w.heap.size + 1, 1, none⟩ y) a1 (L (N * 2 ^ 0)) ∧ Rd ((v'.setCell ⟨w.heap.size + 1, 0, none⟩ x).setCell ⟨w.heap.size + 1, 1, none⟩ y) a2 (L (De * 2 ^ s))) ∧ v'.cell? ⟨w.heap.size + 1, 0, none⟩ = some (.slice none 0 0) ∧ v'.cell? ⟨w.heap.size + 1, 1, none⟩ = some (.slice none 0 0) ∧ v'.frozen? ⟨w.heap.size + 1, 0, none⟩ = false ∧ v'.frozen? ⟨w.heap.size + 1, 1, none⟩ = false ∧ Below w1.heap.size w1 v' := fun v z a1 c1 hz hv ho1 => hz ▸ (aL b m d s De v hm hn2 (by omega) ((rb.below b1).below hv)).mono fun e v' ⟨a2, c2, he, ho, hb⟩ => ⟨a2, c2, he, fun x y => ⟨fB (fM ho1 hb) (by omega) x y, fB ho (by have := hv.size; omega) x y⟩, ((cB hv hb).cell (by simp only; omega)).trans r0, ((cB hv hb).cell (by simp only; omega)).trans r1, ((cB hv hb).frozen (by simp only; omega)).trans z0, ((cB hv hb).frozen (by simp only; omega)).trans z1, cB hv hb⟩
 have D1 : ∀ v, Below w1.heap.size w1 v → (fun v => v.cell? ⟨w.heap.size, 0, none⟩ = some (.slice a n c) ∧ v.cell? ⟨w.heap.size, 1, none⟩ = some (.slice b m d)) v := fun v hv => ⟨(hv.cell (by simp only; omega)).trans c0, (hv.cell (by simp only; omega)).trans c1⟩
 have D2 : ∀ v x y, Below w1.heap.size w1 v → (fun v => v.cell? ⟨w.heap.size, 0, none⟩ = some (.slice a n c) ∧ v.cell? ⟨w.heap.size, 1, none⟩ = some (.slice b m d)) ((v.setCell ⟨w.heap.size + 1, 0, none⟩ x).setCell ⟨w.heap.size + 1, 1, none⟩ y) := fun v x y hv => ⟨((mZ v x y (by omega)).trans (hv.cell (by simp only; omega))).trans c0, ((mZ v x y (by omega)).trans (hv.cell (by simp only; omega))).trans c1⟩
 clear c0 c1 r0 r1 z0 z1 ra rb hl hm
 go_region_held3 (fun v => v.cell? ⟨w.heap.size, 0, none⟩ = some (.slice a n c) ∧ v.cell? ⟨w.heap.size, 1, none⟩ = some (.slice b m d)) (first | exact D1 _ (by assumption) | exact D1 _ ((Below.refl _ _).drew) | exact D2 _ _ _ (by assumption))
  (first | (have hq := hb1; go_at_call 77; refine (k2 _ _ _ _ (by first | with_reducible rfl | omega | (simp only [IntKind.wrap_i64]; omega)) hq ho1).mono ?_; rintro e w' ⟨ao2, ca2, rfl, hRd, f0, f1, f2, f3, hb2⟩; clear hb1 hq ho1) | (go_at_call 77; refine (k1 _ _ (by first | with_reducible rfl | omega | (simp only [IntKind.wrap_i64]; omega)) (Below.refl _ _).drew).mono ?_; rintro e w' ⟨ao1, ca1, rfl, ho1, hb1⟩))
 all_goals go_wp2_with fail
 all_goals exact bodyPost_ret (v := .agg #[.slice ao1 (L (N * 2 ^ 0)).length ca1, .slice ao2 (L (De * 2 ^ s)).length ca2]) (by simp [results, Tryz.results73, go_sem, f0, f1]) rfl ⟨ao1, ca1, ao2, ca2, rfl, (hRd _ _).1, (hRd _ _).2, ((b1.trans (hb2.mono b1.size)).setCell (by simp only; omega) _).setCell (by simp only; omega) _⟩

theorem yV (n P K : Nat) {k : Nat} (hK : 4 * n < 32 * K) (h : P * 10 ^ k = 10 ^ n) : (D P).length ≤ K := by
 have h1 : P ≤ 10 ^ n := by rw [← h]; exact Nat.le_mul_of_pos_right _ (Nat.pow_pos (by omega))
 have h2 := Nat.lt_of_le_of_lt (Nat.le_trans h1 (fR 10 n)) (Nat.pow_lt_pow_right (by omega) (show aC 10 * n < 32 * K by rw [nZ]; omega))
 refine M.len_of_lt (B := 4294967296) (by omega) _ _ ?_
 rw [show (4294967296 : Nat) = 2 ^ 32 by rfl, ← Nat.pow_mul]
 exact h2

theorem gM (n : Nat) (w : World) (hn : n ≤ 19000) :
 Calls Tryz.prog 42 #[.int .i64 (n : Int)] w fun e w' => Ret w w' e (D (10 ^ n)) := by
 go_enter Tryz.func42, Tryz.ntmps42
 go_wp2_with fail
 refine (dA 1 _ (by omega)).mono ?_
 rintro r w3 ⟨p1, c1, rfl, ho1, hb3⟩
 have hD1 : (D 1).length ≤ 2401 := by have := M.len_of_lt (B := 4294967296) (by omega) 1 1 (by omega); have h2 : (D 1).length ≤ 1 := this; omega
 go_wp2_with fail
 go_loopw [0, 3] (fun i v wr => ∃ (k P : Nat) (pp : Option Addr) (pc : Nat), k ≤ n ∧ i = .int .i64 (k : Int) ∧ Hid (P * 10 ^ k = 10 ^ n) ∧ v = .slice pp (D P).length pc ∧ (D P).length ≤ 2401 ∧ wr.ownsRow w.heap.size 23 1 (.slice pp (D P).length pc) (D P).length (U (D P)) ∧ Below w.heap.size w wr) (fun i _ _ => (intOf i).toNat)
 case atStart => exact ⟨n, 1, p1, c1, by omega, rfl, hid (by simp), rfl, hD1, ho1, hb3⟩
 case round =>
  obtain ⟨k, P, pp, pc, hk, rfl, HP, rfl, hPl, hown, hbl⟩ := hrel
  clear ho1 hb3 hD1
  by_cases hke : 9 ≤ k
  · have hgt : (9 : Int) ≤ (k : Int) := by omega
    obtain ⟨k, rfl⟩ : ∃ k', k = k' + 9 := ⟨k - 9, by omega⟩
    have hHP : P * 1000000000 * 10 ^ k = 10 ^ n := by rw [← HP.out, Nat.pow_add, Nat.mul_assoc, Nat.mul_comm 1000000000]
    have hPl2 : (D (P * 1000000000)).length ≤ 2401 := yV n _ 2401 (by omega) hHP
    have HP2 := hid hHP; clear hHP
    go_wp2_with fail
    refine (nE pp _ pc 1000000000 P _ rfl (by omega) (by omega) (Rd.own hown)).mono ?_
    rintro r w4 ⟨p2, c2, rfl, ho4, hb4⟩
    have hbw4 := hbl.trans (hb4.mono hbl.size)
    have how4 := aO ho4 hbl.size
    clear ho4 hb4 hown hbl
    go_wp2_with fail
    go_roundw
    case rel =>
     have R : ∃ (k1 P1 : Nat) (pp1 : Option Addr) (pc1 : Nat), k1 ≤ n ∧ Value.int .i64 ((k : Int) + 9 - 9) = .int .i64 (k1 : Int) ∧ Hid (P1 * 10 ^ k1 = 10 ^ n) ∧ Value.slice p2 (D (P * 1000000000)).length c2 = .slice pp1 (D P1).length pc1 ∧ (D P1).length ≤ 2401 ∧ w4.ownsRow w.heap.size 23 1 (.slice pp1 (D P1).length pc1) (D P1).length (U (D P1)) ∧ Below w.heap.size w w4 :=
      ⟨k, P * 1000000000, p2, c2, by omega, by go_num, HP2, rfl, hPl2, how4, hbw4⟩
     first | exact R | ((repeat apply Exists.intro); exact ⟨R, rfl⟩) | (simp only [Int.add_sub_cancel] at R ⊢; exact R)
    case measure => simp [intOf]; omega
  · have hgt : ¬ (9 : Int) ≤ (k : Int) := by omega
    have R0 : ∃ (k1 P1 : Nat) (pp1 : Option Addr) (pc1 : Nat), k1 ≤ n ∧ Value.int .i64 (k : Int) = .int .i64 (k1 : Int) ∧ Hid (P1 * 10 ^ k1 = 10 ^ n) ∧ Value.slice pp (D P).length pc = .slice pp1 (D P1).length pc1 ∧ (D P1).length ≤ 2401 ∧ wr.ownsRow w.heap.size 23 1 (.slice pp1 (D P1).length pc1) (D P1).length (U (D P1)) ∧ Below w.heap.size w wr := ⟨k, P, pp, pc, hk, rfl, HP, rfl, hPl, hown, hbl⟩
    have HR := hid R0
    clear R0 hPl hown hbl HP
    go_wp2_with fail
    go_loopw [0, 3] (fun i v wr => ∃ (k P : Nat) (pp : Option Addr) (pc : Nat), k ≤ n ∧ i = .int .i64 (k : Int) ∧ Hid (P * 10 ^ k = 10 ^ n) ∧ v = .slice pp (D P).length pc ∧ (D P).length ≤ 2401 ∧ wr.ownsRow w.heap.size 23 1 (.slice pp (D P).length pc) (D P).length (U (D P)) ∧ Below w.heap.size w wr) (fun i _ _ => (intOf i).toNat)
    case atStart => exact HR.out
    case round =>
     obtain ⟨k, P, pp, pc, hk, rfl, HP, rfl, hPl, hown, hbl⟩ := hrel
     by_cases hk0 : 1 ≤ k
     · have hgt : (1 : Int) ≤ (k : Int) := by omega
       obtain ⟨k, rfl⟩ : ∃ k', k = k' + 1 := ⟨k - 1, by omega⟩
       have hHP : P * 10 * 10 ^ k = 10 ^ n := by rw [← HP.out, Nat.pow_add, Nat.mul_assoc, Nat.mul_comm 10]
       have hPl2 : (D (P * 10)).length ≤ 2401 := yV n _ 2401 (by omega) hHP
       have HP2 := hid hHP; clear hHP
       go_wp2_with fail
       refine (nE pp _ pc 10 P _ rfl (by omega) (by omega) (Rd.own hown)).mono ?_
       rintro r w4 ⟨p2, c2, rfl, ho4, hb4⟩
       have hbw4 := hbl.trans (hb4.mono hbl.size)
       have how4 := aO ho4 hbl.size
       clear ho4 hb4 hown hbl
       go_wp2_with fail
       go_roundw
       case rel =>
        have R : ∃ (k1 P1 : Nat) (pp1 : Option Addr) (pc1 : Nat), k1 ≤ n ∧ Value.int .i64 ((k : Int) + 1 - 1) = .int .i64 (k1 : Int) ∧ Hid (P1 * 10 ^ k1 = 10 ^ n) ∧ Value.slice p2 (D (P * 10)).length c2 = .slice pp1 (D P1).length pc1 ∧ (D P1).length ≤ 2401 ∧ w4.ownsRow w.heap.size 23 1 (.slice pp1 (D P1).length pc1) (D P1).length (U (D P1)) ∧ Below w.heap.size w w4 :=
         ⟨k, P * 10, p2, c2, by omega, by go_num, HP2, rfl, hPl2, how4, hbw4⟩
        first | exact R | ((repeat apply Exists.intro); exact ⟨R, rfl⟩) | (simp only [Int.add_sub_cancel] at R ⊢; exact R)
       case measure => simp [intOf]
     · have hgt0 : ¬ (0 : Int) < (k : Int) := by omega
       go_wp2_with fail
       go_ret
       have hk1 : k = 0 := by omega
       subst hk1
       have hE := HP.out
       rw [Nat.pow_zero, Nat.mul_one] at hE
       rw [← hE]
       exact ⟨pp, pc, rfl, hown, hbl⟩

theorem iN (a b : Option Addr) (c d n m N De : Nat) (w : World) (hl : (L N).length = n) (hm : (L De).length = m) (h0 : 0 < De) (hn : n ≤ 1048576) (hn2 : m ≤ 1048576) (ra : Rd w a (L N)) (rb : Rd w b (L De)) :
 Calls Tryz.prog 74 #[.agg #[.slice a n c, .slice b m d]] w fun e w' => ∃ a1 c1 a2 c2, e = .returned (.tuple #[.slice a1 (L (N / De)).length c1, .slice a2 (L (N % De)).length c2]) ∧ Rd w' a1 (L (N / De)) ∧ Below w.heap.size w w' := by
 have bn : Below w.heap.size w (w.alloc (.cells #[.slice a n c, .slice b m d] 73)) := (Below.refl _ _).alloc (Nat.le_refl _) _
 obtain ⟨t0, t1, t2, t3⟩ := nO w 73 (.slice a n c) (.slice b m d)
 have kd := jZ a b n m c d N De _ hl hm h0 hn hn2 (ra.below bn) (rb.below bn)
 go_enter Tryz.func74, Tryz.ntmps74
 go_wp2_with fail
 refine kd.mono ?_
 rintro e w1 ⟨a1, c1, a2, c2, mid, rfl, g1, g2, o1, o2, hb⟩
 go_wp2_with fail
 go_ret2
 exact ⟨a1, c1, a2, c2, rfl, o1.rd, bn.trans (hb.mono bn.size)⟩

def zG (w w' : World) (g : Nat) (zs : List Nat) (off N : Nat) (t : Nat) : Prop :=
 w.grownBy w' (some g) ∧ ∃ cur c, Blk w' g cur ∧ M.Wrote 18446744073709551616 zs off N cur ∧ c ≤ 1 ∧ V (M.seg cur off N) + t = V (M.seg zs off N) + c * 18446744073709551616 ^ N

theorem AA (g off N cap : Nat) (ao bo : Option Addr) (m d : Nat) (zs ys : List Nat) (w : World) (hao : 0 < N → ao = some ⟨g, off, none⟩) (hB : Blk w g zs) (hz : F64 zs) (ho : off + N ≤ zs.length) (hN : N ≤ 4194304) (hm : ys.length = m) (hmN : m ≤ N) (hy : F64 ys) (hr : Rd w bo ys) (hsep : 0 < ys.length → ∀ b2 o2, bo = some ⟨b2, o2, none⟩ → b2 ≠ g) :
 Calls Tryz.prog 106 #[.slice ao N cap, .slice bo m d] w fun e w' => e = .returned (.tuple #[]) ∧ zG w w' g zs off N (V ys) := by
 go_enter Tryz.func106, Tryz.ntmps106
 go_wp2_with fail
 go_loopw [4, 13] (fun cy i wr => ∃ (k : Nat) (cur : List Nat) (c : Nat), k ≤ m ∧ i = .int .i64 k ∧ cy = .int .u64 c ∧ c ≤ 1 ∧ Blk wr g cur ∧ M.Wrote 18446744073709551616 zs off N cur ∧ w.grownBy wr (some g) ∧ V (M.seg cur off N) + V (ys.take k) = V (M.seg zs off N) + c * 18446744073709551616 ^ k) (fun _ i _ => m - (intOf i).toNat)
 case atStart => exact ⟨0, zs, 0, by omega, rfl, rfl, by omega, hB, M.Wrote.refl hz _ _, World.grownBy.refl _ _, by simp [V, M.val]⟩
 case round =>
  obtain ⟨k, cur, c, hk, rfl, rfl, hc, hBk, hW, hg, hv⟩ := hrel
  have HV := hid hv; clear hv
  by_cases hlt : k < m
  · have hao' := hao (by omega)
    obtain ⟨b2, o2, hbo, hcl⟩ := hr (by omega)
    have hck : wr.cell? ⟨b2, o2 + k, none⟩ = some (.int .u64 ((ys.getD k 0 : Nat) : Int)) := hg.cell (hcl k (by omega)) (by simpa using hsep (by omega) b2 o2 hbo)
    clear hcl
    have hy1 := hy.get k
    obtain ⟨y, hyy⟩ : ∃ y : Nat, y = ys.getD k 0 := ⟨_, rfl⟩
    rw [← hyy] at hck hy1
    have HY := hid hyy; clear hyy
    have hca := hBk.cell (off + k) (by have := hW.len; omega)
    have hfa := hBk.frozen (off + k)
    have hx1 : cur.getD (off + k) 0 < 18446744073709551616 := M.bK (by omega) hW.lt _
    obtain ⟨x, hxx⟩ : ∃ x : Nat, x = cur.getD (off + k) 0 := ⟨_, rfl⟩
    rw [← hxx] at hca hx1
    have HX := hid hxx; clear hxx
    have hlt' : (k : Int) < (m : Int) := by omega
    have hlt2 : (k : Int) < (N : Int) := by omega
    have HB := hid hBk; clear hBk
    have HG := hid hg; clear hg
    obtain ⟨p, hp⟩ : ∃ p : Nat, p = (x + 18446744073709551616 - y) % 18446744073709551616 := ⟨_, rfl⟩
    have hwp := dS x y p hp (by omega)
    obtain ⟨o, hoo⟩ : ∃ o : Nat, o = (p + 18446744073709551616 - c) % 18446744073709551616 := ⟨_, rfl⟩
    have hwo := dS p c o hoo (by omega)
    obtain ⟨r1, hr1⟩ : ∃ r : Nat, r = if (x : Int) < (y : Int) then 1 else 0 := ⟨_, rfl⟩
    obtain ⟨r2, hr2⟩ : ∃ r : Nat, r = if (p : Int) < (c : Int) then 1 else 0 := ⟨_, rfl⟩
    have hsum : o + y + c = x + 18446744073709551616 * (r1 + r2) ∧ r1 + r2 ≤ 1 ∧ o < 18446744073709551616 := by
     split at hr1 <;> split at hr2 <;> omega
    have hle1 : r1 ≤ 1 := by omega
    have hle2 : r2 ≤ 1 := by omega
    have HP := hid hp; clear hp
    have HO := hid hoo; clear hoo
    have HR1 := hid hr1; clear hr1
    have HR2 := hid hr2; clear hr2
    have HS := hid hsum; clear hsum
    go_wp2_with fail
    refine (cC _ _ _ r1 HR1.out).mono ?_
    rintro e v1 ⟨rfl, rfl⟩
    go_wp2_with fail
    refine (cC _ _ _ r2 HR2.out).mono ?_
    rintro e v2 ⟨rfl, rfl⟩
    go_wp2_with fail
    have hW3 := hW.set k o (by omega) HS.out.2.2
    go_roundw
    case rel =>
     have R : ∃ (k1 : Nat) (cur1 : List Nat) (c1 : Nat), k1 ≤ m ∧ Value.int .i64 ((k : Int) + 1) = .int .i64 k1 ∧ Value.int .u64 ((r1 : Int) + (r2 : Int)) = .int .u64 c1 ∧ c1 ≤ 1 ∧ Blk (v2.setCell ⟨g, off + k, none⟩ (.int .u64 (o : Int))) g cur1 ∧ M.Wrote 18446744073709551616 zs off N cur1 ∧ w.grownBy (v2.setCell ⟨g, off + k, none⟩ (.int .u64 (o : Int))) (some g) ∧ V (M.seg cur1 off N) + V (ys.take k1) = V (M.seg zs off N) + c1 * 18446744073709551616 ^ k1 := by
      refine ⟨k + 1, cur.set (off + k) o, r1 + r2, by omega, by go_num, by go_num, HS.out.2.1, HB.out.set _ _ _ rfl, hW3, aA HG.out (aE _ _ _ _), ?_⟩
      unfold V
      rw [M.aH, ← HY.out, Nat.pow_succ]
      have h2 := M.dL 18446744073709551616 cur off N k o (by omega) (by have := hW.len; omega)
      rw [← HX.out] at h2
      exact M.sub_over HV.out h2 HS.out.1
     first | exact R | ((repeat apply Exists.intro); exact ⟨R, rfl⟩) | ((repeat apply Exists.intro); exact ⟨R, by rw [hao', hbo]⟩)
    case measure => simp [intOf]; omega
  · have e : k = m := by omega
    subst e
    have hv : V (M.seg cur off N) + V ys = V (M.seg zs off N) + c * 18446744073709551616 ^ k := by
     have := HV.out
     rwa [List.take_of_length_le (by omega)] at this
    clear HV
    have HBk := hid hBk; clear hBk
    have HG := hid hg; clear hg
    have HV := hid hv; clear hv
    obtain ⟨wo, hwo⟩ : ∃ wo : World, wo = wr := ⟨_, rfl⟩
    rw [← hwo] at HBk HG ⊢
    clear hwo
    go_wp2_with fail
    go_loopw [4, 9] (fun cy i wr => ∃ (j : Nat) (cur : List Nat) (c : Nat), j ≤ N ∧ i = .int .i64 j ∧ cy = .int .u64 c ∧ c ≤ 1 ∧ Blk wr g cur ∧ M.Wrote 18446744073709551616 zs off N cur ∧ w.grownBy wr (some g) ∧ V (M.seg cur off N) + V ys = V (M.seg zs off N) + c * 18446744073709551616 ^ j) (fun _ i _ => N - (intOf i).toNat)
    case atStart => exact ⟨k, cur, c, by omega, rfl, rfl, hc, HBk.out, hW, HG.out, HV.out⟩
    case round =>
     clear HBk HG HV hW hc
     obtain ⟨j, cur2, c2, hj, rfl, rfl, hc, hBk, hW, hg, hv⟩ := hrel
     have HV := hid hv; clear hv
     by_cases hcc : c2 = 0
     · subst hcc
       have hgt : ¬ (0 : Int) < ((0 : Nat) : Int) := by omega
       have HBk := hid hBk; clear hBk
       have HG := hid hg; clear hg
       go_wp2_with fail
       go_end0
       refine ⟨rfl, HG.out, cur2, 0, HBk.out, hW, by omega, ?_⟩
       have := HV.out
       simpa using this
     · have hc1 : c2 = 1 := by omega
       have hc0 : (0 : Int) < (c2 : Int) := by omega
       have HC1 := hid hc1; clear hc1
       by_cases hlt : j < N
       · have hao' := hao (by omega)
         have hca := hBk.cell (off + j) (by have := hW.len; omega)
         have hfa := hBk.frozen (off + j)
         have hx1 : cur2.getD (off + j) 0 < 18446744073709551616 := M.bK (by omega) hW.lt _
         obtain ⟨x, hxx⟩ : ∃ x : Nat, x = cur2.getD (off + j) 0 := ⟨_, rfl⟩
         rw [← hxx] at hca hx1
         have HX := hid hxx; clear hxx
         have hlt2 : (j : Int) < (N : Int) := by omega
         obtain ⟨o, hoo⟩ : ∃ o : Nat, o = (x + 18446744073709551616 - c2) % 18446744073709551616 := ⟨_, rfl⟩
         have hwo := dS x c2 o hoo (by omega)
         obtain ⟨r2, hr2⟩ : ∃ r : Nat, r = if (x : Int) < (c2 : Int) then 1 else 0 := ⟨_, rfl⟩
         have hsum : o + 0 + c2 = x + 18446744073709551616 * r2 ∧ r2 ≤ 1 ∧ o < 18446744073709551616 := by
          split at hr2 <;> omega
         have HO := hid hoo; clear hoo
         have HR2 := hid hr2; clear hr2
         have HS := hid hsum; clear hsum
         have HB := hid hBk; clear hBk
         have HG := hid hg; clear hg
         go_wp2_with fail
         refine (cC _ _ _ r2 HR2.out).mono ?_
         rintro e w3 ⟨rfl, rfl⟩
         have hW3 := hW.set j o (by omega) HS.out.2.2
         go_wp2_with fail
         go_roundw
         case rel =>
          have R : ∃ (j1 : Nat) (cur1 : List Nat) (c1 : Nat), j1 ≤ N ∧ Value.int .i64 ((j : Int) + 1) = .int .i64 j1 ∧ Value.int .u64 (r2 : Int) = .int .u64 c1 ∧ c1 ≤ 1 ∧ Blk (w3.setCell ⟨g, off + j, none⟩ (.int .u64 (o : Int))) g cur1 ∧ M.Wrote 18446744073709551616 zs off N cur1 ∧ w.grownBy (w3.setCell ⟨g, off + j, none⟩ (.int .u64 (o : Int))) (some g) ∧ V (M.seg cur1 off N) + V ys = V (M.seg zs off N) + c1 * 18446744073709551616 ^ j1 := by
           refine ⟨j + 1, cur2.set (off + j) o, r2, by omega, by go_num, rfl, HS.out.2.1, HB.out.set _ _ _ rfl, hW3, aA HG.out (aE _ _ _ _), ?_⟩
           unfold V
           rw [Nat.pow_succ]
           have h2 := M.dL 18446744073709551616 cur2 off N j o (by omega) (by have := hW.len; omega)
           rw [← HX.out] at h2
           exact M.sub_over (y := 0) HV.out h2 HS.out.1
          first | exact R | ((repeat apply Exists.intro); exact ⟨R, rfl⟩) | ((repeat apply Exists.intro); exact ⟨R, by rw [hao']⟩)
         case measure => simp [intOf]; omega
       · have hlt2 : ¬ (j : Int) < (N : Int) := by omega
         have e : j = N := by omega
         subst e
         have HBk := hid hBk; clear hBk
         have HG := hid hg; clear hg
         go_wp2_with fail
         go_end0
         exact ⟨rfl, HG.out, cur2, c2, HBk.out, hW, by omega, HV.out⟩

theorem F5 (ao bo : Option Addr) (n m c d : Nat) (a b : Nat) (w : World) (hl : (L a).length = n) (hm : (L b).length = m) (hba : b ≤ a) (hn : n ≤ 1048576) (hr : Rd w ao (L a)) (hr2 : Rd w bo (L b)) :
 Calls Tryz.prog 76 #[.slice ao n c, .slice bo m d] w fun e w' => Ret w w' e (L (a - b)) := by
 have hmn : m ≤ n := by
  rcases Nat.lt_or_ge n m with h | h
  · have : a < b := M.cH (B := 18446744073709551616) (by omega) (by unfold L at hl hm; omega)
    omega
  · exact h
 have hsep : 0 < (L b).length → ∀ b2 o2, bo = some ⟨b2, o2, none⟩ → b2 ≠ w.heap.size := by
  intro hp b2 o2 e
  obtain ⟨b3, o3, e3, hc⟩ := hr2 hp
  rw [e] at e3
  simp only [Option.some.injEq, Addr.mk.injEq] at e3
  have := World.block_lt_of_cell? w _ (hc 0 hp)
  simp at this
  omega
 have HSep := hid hsep; clear hsep
 go_enter Tryz.func76, Tryz.ntmps76
 go_wp2_with fail
 refine (eY ao n c 0 (L a) _ hl (by omega) (by omega) hr).mono ?_
 rw [List.replicate_zero, List.append_nil]
 rintro e w1 ⟨rfl, hB1, hb1⟩
 go_wp2_with fail
 refine (AA w.heap.size 0 n n _ bo m d (L a) (L b) _ (fun _ => rfl) hB1 (eN a) (by omega) (by omega) hm hmn (eN b) (hr2.below hb1) HSep.out).mono ?_
 rintro e w2 ⟨rfl, hg, cur, cc, hB2, hW, hc1, hv⟩
 have hb2 : Below w.heap.size w w2 := hb1.trans ((Below.refl _ _).grown hg hb1.size (fun _ h => by cases h; exact Nat.le_refl _))
 have hlen : cur.length = n := by rw [hW.len]; exact hl
 have hfv : V cur = a - b := by
  rw [M.jF cur n hlen, M.jF (L a) n hl, V_L, V_L] at hv
  have h1 := M.eT (B := 18446744073709551616) (by omega) cur hW.lt
  rw [hlen] at h1
  exact (M.no_borrow hv h1 hba).2
 have hf : F64 cur := hW.lt
 clear hv hg hW hB1
 have HFV := hid hfv; clear hfv
 have HLen := hid hlen; clear hlen
 go_wp2_with fail
 refine (cE _ n n cur _ HLen.out (Nat.le_refl _) (by omega) hf hB2.rd0).mono ?_
 rw [HFV.out]
 rintro e w3 ⟨rfl, rfl⟩
 go_wp2_with fail
 go_ret
 have h1 := iX cur hf
 have h2 := gK cur hf
 rw [HFV.out] at h1 h2
 have h3 := hB2.ownPre (base := w.heap.size) (Nat.le_refl _) h1 HLen.out (by unfold maxLen; omega)
 rw [h2] at h3
 exact ⟨_, _, rfl, h3, hb2⟩

end Go.Proofs.YtdfljbpcjkbflaaGreatDoor
