import Derived.Test.YtfdgkleoaehjaaaGreatDoorsGAJ
set_option maxHeartbeats 4000000
set_option maxRecDepth 100000
namespace Go.Proofs.YtfdgkleoaehjaaaGreatDoor
open Go.RowKit
set_option linter.unusedVariables false
set_option maxRecDepth 100000
theorem E8 (a b n m s : Nat) (hl : (L a).length = n) (hm : (L b).length = m) (hm2 : 2 <= m) (hab : b <= a) (hs : s = 64 - aA ((L b).getD (m - 1) 0)) :
 s < 64 /\ (L (b * 2 ^ s)).length = m /\ 9223372036854775808 <= (L (b * 2 ^ s)).getD (m - 1) 0 /\ (L (a * 2 ^ s)).length <= n + 1 /\ m <= n /\ a * 2 ^ s < b * 2 ^ s * 18446744073709551616 ^ (n + 1 - m) := by
 have hbp : 0 < b := by
  rcases Nat.eq_zero_or_pos b with rfl | hp
  . rw [show L 0 = [] from M.aG _] at hm; simp at hm; omega
  . exact hp
 have htn : (L b).getD (m - 1) 0 ≠ 0 := by
  have := M.uN (B := 18446744073709551616) (by omega) b hbp;unfold L at hm |-
  rwa [hm] at this
 have htb : (L b).getD (m - 1) 0 < 18446744073709551616 := F64.get (jO b) _;obtain ⟨hs64, hn1, hn2⟩ := oT _ s (by omega) htb hs;have hdig : (L b).getD (m - 1) 0 = b / 18446744073709551616 ^ (m - 1) % 18446744073709551616 := M.dig_get (by omega) _ _;have hbm := tD b m (by omega);have hPp : 0 < 18446744073709551616 ^ (m - 1) := Nat.pow_pos (by omega)
 have hpm : 18446744073709551616 ^ m = 18446744073709551616 ^ (m - 1) * 18446744073709551616 := by
  rw [<- Nat.pow_succ]; congr 1; omega
 have hbq : b / 18446744073709551616 ^ (m - 1) < 18446744073709551616 := Nat.div_lt_of_lt_mul (by rw [<- hpm]; exact hbm);rw [Nat.mod_eq_of_lt hbq] at hdig;generalize (L b).getD (m - 1) 0 = t at *;have hsp : 0 < 2 ^ s := Nat.pow_pos (by omega);have hKP : 2 ^ (64 - s) * 2 ^ s = 18446744073709551616 := M.eP s 64 (by omega)
 have ht1 : (t + 1) * 2 ^ s <= 18446744073709551616 := by
  have h1 : t < 2 ^ (64 - s) := by
   have : t * 2 ^ s < 2 ^ (64 - s) * 2 ^ s := by rw [hKP]; exact hn1
   exact Nat.lt_of_mul_lt_mul_right this
  have : (t + 1) * 2 ^ s <= 2 ^ (64 - s) * 2 ^ s := Nat.mul_le_mul_right _ h1;omega
 have hb1 : 18446744073709551616 ^ (m - 1) * t <= b := by rw [hdig]; exact Nat.mul_div_le _ _
 have hb2 : b < 18446744073709551616 ^ (m - 1) * (t + 1) := by rw [hdig]; exact Nat.lt_mul_div_succ _ hPp
 have hlo : 18446744073709551616 ^ (m - 1) * 9223372036854775808 <= b * 2 ^ s := by
  have h1 : 18446744073709551616 ^ (m - 1) * (t * 2 ^ s) <= b * 2 ^ s := by rw [<- Nat.mul_assoc]; exact Nat.mul_le_mul_right _ hb1
  exact Nat.le_trans (Nat.mul_le_mul_left _ hn2) h1
 have hhi : b * 2 ^ s < 18446744073709551616 ^ (m - 1) * 18446744073709551616 := by
  have h1 : b * 2 ^ s < 18446744073709551616 ^ (m - 1) * (t + 1) * 2 ^ s := Nat.mul_lt_mul_of_pos_right hb2 hsp;rw [Nat.mul_assoc] at h1;exact Nat.lt_of_lt_of_le h1 (Nat.mul_le_mul_left _ ht1)
 have hlen : (L (b * 2 ^ s)).length = m := by
  refine Nat.le_antisymm (M.len_of_lt (by omega) _ _ (by rw [hpm]; exact hhi)) ?_;rcases Nat.lt_or_ge (L (b * 2 ^ s)).length m with h | h
  . have h1 := tD (b * 2 ^ s) (m - 1) (by omega);have h2 : 18446744073709551616 ^ (m - 1) * 1 <= 18446744073709551616 ^ (m - 1) * 9223372036854775808 := Nat.mul_le_mul_left _ (by omega);omega
  . exact h
 have hmn : m <= n := by
  rcases Nat.lt_or_ge n m with h | h
  . have : a < b := M.dG (B := 18446744073709551616) (by omega) (by rw [show (M.dig 18446744073709551616 a).length = n from hl, show (M.dig 18446744073709551616 b).length = m from hm]; exact h);omega
  . exact h
 have han := tD a n (by omega);have ha' : a * 2 ^ s < 18446744073709551616 ^ n * 2 ^ s := Nat.mul_lt_mul_of_pos_right han hsp;have hs63 : 2 ^ s <= 2 ^ 63 := Nat.pow_le_pow_right (by omega) (by omega);have ha'' : 18446744073709551616 ^ n * 2 ^ s <= 18446744073709551616 ^ n * 9223372036854775808 := Nat.mul_le_mul_left _ hs63;refine ⟨hs64, hlen, ?_, ?_, hmn, ?_⟩
 . have hd : (L (b * 2 ^ s)).getD (m - 1) 0 = b * 2 ^ s / 18446744073709551616 ^ (m - 1) % 18446744073709551616 := M.dig_get (by omega) _ _;rw [hd, Nat.mod_eq_of_lt (Nat.div_lt_of_lt_mul hhi), Nat.le_div_iff_mul_le hPp, Nat.mul_comm];exact hlo
 . refine M.len_of_lt (by omega) _ _ ?_;rw [Nat.pow_succ];have : 18446744073709551616 ^ n * 9223372036854775808 <= 18446744073709551616 ^ n * 18446744073709551616 := Nat.mul_le_mul_left _ (by omega);omega
 . have h1 : 18446744073709551616 ^ (m - 1) * 9223372036854775808 * 18446744073709551616 ^ (n + 1 - m) <= b * 2 ^ s * 18446744073709551616 ^ (n + 1 - m) := Nat.mul_le_mul_right _ hlo
   have h2 : 18446744073709551616 ^ (m - 1) * 9223372036854775808 * 18446744073709551616 ^ (n + 1 - m) = 18446744073709551616 ^ n * 9223372036854775808 := by
    rw [Nat.mul_right_comm, <- Nat.pow_add]; congr 2; omega
   omega

theorem ML (xs : List Nat) (k : Nat) : V (xs ++ List.replicate k 0) = V xs := by
 unfold V; rw [M.eJ, M.dM, Nat.mul_zero, Nat.add_zero]

theorem uH (ao bo : Option Addr) (n m c d : Nat) (a b : Nat) (w : World) (hl : (L a).length = n) (hm : (L b).length = m) (hm2 : 2 <= m) (hab : b <= a) (hn : n <= 1048576) (hr : Rd w ao (L a)) (hr2 : Rd w bo (L b)) :
 Calls Tryz.prog 148 #[.slice ao n c, .slice bo m d] w fun e w' => FG w w' e (L (a / b)) (L (a % b)) := by
 obtain ⟨i0, hi, hz0, hz1, hz2⟩ := info_parts Tryz.infoU
 have hmk := fun (wx : World) => run_make (P := Tryz.prog) wx 87 25 i0 (.int .u64 0) Tryz.underlying87 hi hz0 .i64 .i64 ((n + 1 : Nat) : Int) ((n + 1 : Nat) : Int) (by omega) (Int.le_refl _) (by rw [hz2]; omega) (by omega)
 have es : ((n + 1 : Nat) : Int) = (n : Int) + 1 := by omega
 rw [es] at hmk;have et : ((n : Int) + 1).toNat = n + 1 := by omega
 rw [et] at hmk;clear es et;have hcmp := jK hab;have hne1 : ((m : Int) == 1) = false := by simp; omega
 obtain ⟨t, et⟩ : ∃ t, t = (L b).getD (m - 1) 0 := ⟨_, rfl⟩;have htb : t < 18446744073709551616 := by rw [et]; exact F64.get (jO b) _
 obtain ⟨s, es⟩ : ∃ s, s = 64 - aA t := ⟨_, rfl⟩;obtain ⟨hs64, hbl', htop, hal', hmn, hlt⟩ := E8 a b n m s hl hm hm2 hab (by rw [es, et]);obtain ⟨m1, em1⟩ : ∃ x, x = m - 1 := ⟨_, rfl⟩;have i1 : (m : Int) - 1 = (m1 : Int) := by omega
 have j1 : (m1 : Int) < (m : Int) := by omega
 rw [<- em1] at et
 have hb0 : 0 < b := by
  rcases Nat.eq_zero_or_pos b with rfl | hp
  . rw [show L 0 = [] from M.aG _] at hm; simp at hm; omega
  . exact hp
 have hsp : 0 < 2 ^ s := Nat.pow_pos (by omega);have hq : a * 2 ^ s / (b * 2 ^ s) = a / b := Nat.mul_div_mul_right _ _ hsp;have hrm : a * 2 ^ s % (b * 2 ^ s) = a % b * 2 ^ s := Nat.mul_mod_mul_right _ _ _;have ET := hid et; have ES := hid es; have EM1 := hid em1; have HTOP := hid htop; have HLT := hid hlt; have HQ := hid hq; have HRM := hid hrm; have HSP := hid hsp;clear et es em1 htop hlt hq hrm hsp;obtain ⟨b2, o2, hbo, hcl⟩ := hr2 (by omega);have htc0 := hcl m1 (by have := EM1.out; omega);rw [<- ET.out] at htc0;subst hbo;go_enter Tryz.func148, Tryz.ntmps148;go_wp2_with fail;refine (fM ao _ n m c d a b _ hl hm (by omega) (by omega) hr hr2).mono ?_;rintro e w1 ⟨rfl, q1, hw1⟩;have hb1 : Below w.heap.size w w1 := by rw [hw1]; exact below_drewN (Below.refl w.heap.size w) q1
 have htc : w1.cell? ⟨b2, o2 + m1, none⟩ = some (.int .u64 (t : Int)) := by rw [hw1]; exact htc0
 clear hw1 htc0 hcl;go_wp2_with fail;refine (EF t _ htb s ES.out).mono ?_;rintro e w2 ⟨rfl, rfl⟩;have hB3 := fC w2 (n + 1);have hb3 : Below w2.heap.size w2 (w2.alloc (.cells (madeCells #[Value.int .u64 0] (n + 1)) 25)) := (Below.refl _ _).alloc (Nat.le_refl _) _;have hbw3 := hb1.trans (hb3.mono hb1.size);have HB3 := hid hB3; have HBW3 := hid hbw3;clear hB3 hb3 hbw3;go_wp2_with fail;have hB3 := HB3.out; have hbw3 := HBW3.out;generalize w2.alloc (.cells (madeCells #[Value.int .u64 0] (n + 1)) 25) = w3 at hB3 hbw3 |-;refine (cM ao n c s a _ hl (by omega) (by omega) (hr.below hbw3)).mono ?_;rintro e w4 ⟨xa, xc, rfl, hox, hb4⟩;have hB4 := hB3.keep hb4;have hbw4 := hbw3.trans (hb4.mono hbw3.size);obtain ⟨w5, hcp, hg5, hgr5⟩ := mY 87 Tryz.underlying87 _ w2.heap.size (n + 1) (n + 1) _ hB4 xa (L (a * 2 ^ s)) _ xc rfl (Rd.own hox) hal' (by simp [U]; exact hal')
 have hB5 : Blk w5 w2.heap.size (L (a * 2 ^ s) ++ List.replicate (n + 1 - (L (a * 2 ^ s)).length) 0) := by
  have e : U (L (a * 2 ^ s)) ++ (U (List.replicate (n + 1) 0)).drop (L (a * 2 ^ s)).length = U (L (a * 2 ^ s) ++ List.replicate (n + 1 - (L (a * 2 ^ s)).length) 0) := by simp [U]
  rw [e] at hg5;exact hg5
 have hbw5 : Below w.heap.size w w5 := hbw4.grown hgr5 hbw4.size (fun k h => by cases h; exact hb1.size)
 have HB5 := hid hB5; have HBW5 := hid hbw5;clear hB5 hbw5 hg5 hB4 hB3 hbw3 HB3 HBW3 htc;go_wp2_with fail;refine (cM _ m d s b _ hm (by omega) (by omega) (hr2.below HBW5.out)).mono ?_;rintro e w6 ⟨ya, yc, rfl, hoy, hb6⟩;have hB6 := HB5.out.keep hb6;have hbw6 := HBW5.out.trans (hb6.mono HBW5.out.size);have hg5lt := HB5.out.lt;obtain ⟨zs, ezs⟩ : ∃ zs, zs = L (a * 2 ^ s) ++ List.replicate (n + 1 - (L (a * 2 ^ s)).length) 0 := ⟨_, rfl⟩;have hzl : zs.length = n + 1 := by rw [ezs]; simp; omega
 have hzf : F64 zs := by
  rw [ezs]; intro x hx;rcases List.mem_append.1 hx with hx | hx
  . exact jO _ x hx
  . simp at hx; omega
 have hzv : V zs = a * 2 ^ s := by rw [ezs, ML, V_L]
 rw [<- ezs] at hB6;clear ezs
 have hsepy : 0 < (L (b * 2 ^ s)).length -> ∀ b3 o3, ya = some ⟨b3, o3, none⟩ -> b3 ≠ w2.heap.size := by
  intro h0 b3 o3 e;obtain ⟨g3, e3, hg3⟩ := o4 hoy h0;rw [e3] at e;cases e;omega
 rw [hbl'] at hoy |-;have HB6 := hid hB6; have HBW6 := hid hbw6;clear hB6 hbw6 HB5 HBW5 hmk;go_wp2_with fail;refine (A8 w2.heap.size (n + 1) m (n + 1 - m) ya yc zs (L (b * 2 ^ s)) _ HB6.out hzf hzl (by omega) hbl' hm2 (by omega) (by omega) (jO _) (Rd.own hoy) hsepy HTOP.out (by rw [hzv, V_L]; exact HLT.out)).mono ?_;rw [hzv, V_L];rintro e w7 ⟨rfl, hg7, qs, cur, hBq, hql, hqf, hqv, hBc, hcl', hcf, hcv⟩;rw [HQ.out] at hqv;rw [HRM.out] at hcv
 have hbw7 : Below w.heap.size w w7 := HBW6.out.grown hg7 HBW6.out.size (fun k h => by cases h; exact hb1.size)
 have hq6 := hBq.lt;have hl6 : w.heap.size <= w6.heap.size := HBW6.out.size;clear hg7 HB6 HBW6 hoy hsepy;go_wp2_with fail;refine (fP _ (n + 1 - m) (n + 1 - m) qs _ hql (Nat.le_refl _) (by omega) hqf hBq.rd0).mono ?_;rw [hqv];rintro e w8 ⟨rfl, rfl⟩;go_wp2_with fail;refine (fP _ (n + 1) (n + 1) cur _ hcl' (Nat.le_refl _) (by omega) hcf hBc.rd0).mono ?_;rw [hcv];rintro e w9 ⟨rfl, rfl⟩;have hcl9 := qP cur hcf;have hrd9 := hBc.rd0.trim hcf;rw [hcv] at hcl9 hrd9
 have hlr : (L (a % b * 2 ^ s)).length <= m := by
  rcases Nat.lt_or_ge m (L (a % b * 2 ^ s)).length with h | h
  . have h1 : b * 2 ^ s < a % b * 2 ^ s := M.dG (B := 18446744073709551616) (by omega) (by rw [show (M.dig 18446744073709551616 (b * 2 ^ s)).length = m from hbl']; exact h);have h2 : a % b * 2 ^ s <= b * 2 ^ s := Nat.mul_le_mul_right _ (Nat.le_of_lt (Nat.mod_lt _ hb0));omega
  . exact h
 go_wp2_with fail;refine (oU _ _ (n + 1) s (a % b * 2 ^ s) _ rfl (by omega) (by omega) (by omega) hrd9).mono ?_;rw [Nat.mul_div_cancel _ HSP.out];rintro e w10 ⟨za, zc, rfl, hoz, hb10⟩;have o1 := (hBq.ownTrim hqf (by omega)).keep hb10;rw [hqv, hql] at o1;have o2 := Own.of hoz;go_wp2_with fail
 go_ret2
 exact ⟨_, _, _, _, _, rfl, hbw7.size, hb10.size, o1.widen hl6 (by omega), o2, hbw7.trans (hb10.mono hbw7.size)⟩

theorem yG (ao bo : Option Addr) (n m c d : Nat) (a b : Nat) (w : World) (hl : (L a).length = n) (hm : (L b).length = m) (hb : 0 < b) (hn : n <= 1048576) (hn2 : m <= 1048576) (hr : Rd w ao (L a)) (hr2 : Rd w bo (L b)) :
 Calls Tryz.prog 148 #[.slice ao n c, .slice bo m d] w fun e w' => FG w w' e (L (a / b)) (L (a % b)) := by
 rcases Nat.lt_or_ge a b with h | h
 . exact BS ao bo n m c d a b w hl hm h hn hn2 hr hr2
 . rcases Nat.lt_or_ge m 2 with h2 | h2
   . have h0 : m ≠ 0 := by
      intro e;have := tD b 0 (by omega)
      simp at this
      omega
     have e : m = 1 := by omega
     subst e;exact xD ao bo n c d a b w hl hm h hn hr hr2
   . exact uH ao bo n m c d a b w hl hm h2 h hn hr hr2

def LT (w w' : World) (e : Ending) (q r : List Nat) : Prop :=
 ∃ ao ca bo cb, e = .returned (.tuple #[.slice ao q.length ca, .slice bo r.length cb]) /\ Rd w' ao q /\ Rd w' bo r /\ Below w.heap.size w w'

def MR (w w' : World) (e : Ending) (q r : List Nat) : Prop :=
 ∃ ao ca bo cb, e = .returned (.tuple #[.slice ao q.length ca, .slice bo r.length cb]) /\ Rd w' ao q /\ Rd w' bo r /\ Below w.heap.size w w' /\ q.length <= ca

structure BitI (a b t : Nat) (qs : List Nat) (R : Nat) : Prop where
 sum : a = b * X qs + R
 lt : R < b * 2 ^ t
 top : ∃ y, qs.getD (t / 32) 0 = y * 2 ^ (t % 32)
 low : ∀ j, j < t / 32 -> qs.getD j 0 = 0

theorem BitI.le_a {a b t : Nat} {qs : List Nat} {R : Nat} (h : BitI a b t qs R) : R <= a := by have := h.sum; omega

theorem BitI.place {a b i : Nat} {qs : List Nat} {R : Nat} (h : BitI a b (i + 1) qs R) : (∃ y, qs.getD (i / 32) 0 = y * 2 ^ (i % 32 + 1)) /\ ∀ j, j < i / 32 -> qs.getD j 0 = 0 := by
 rcases Nat.lt_or_ge (i % 32) 31 with hp | hp
 . obtain ⟨y, hy⟩ := h.top;rw [show (i + 1) / 32 = i / 32 by omega, show (i + 1) % 32 = i % 32 + 1 by omega] at hy
   exact ⟨⟨y, hy⟩, fun j hj => h.low j (by omega)⟩
 . exact ⟨⟨0, by rw [Nat.zero_mul]; exact h.low _ (by omega)⟩, fun j hj => h.low j (by omega)⟩

theorem BitI.skip {a b i : Nat} {qs : List Nat} {R : Nat} (h : BitI a b (i + 1) qs R) (hlt : R < b * 2 ^ i) : BitI a b i qs R := by
 obtain ⟨⟨y, hy⟩, hl⟩ := h.place;exact ⟨h.sum, hlt, ⟨y * 2, by rw [hy, Nat.pow_succ, Nat.mul_assoc, Nat.mul_comm 2]⟩, hl⟩

theorem GN {x p : Nat} (hx : x < 4294967296) (hp : p < 32) (h : ∃ y, x = y * 2 ^ (p + 1)) : 2 ^ p ||| x = x + 2 ^ p /\ x + 2 ^ p < 4294967296 := by
 obtain ⟨y, rfl⟩ := h;have h1 : 2 ^ p < 2 ^ (p + 1) := Nat.pow_lt_pow_right (by omega) (by omega)
 constructor
 . rw [i8 (2 ^ p) y (p + 1) h1, Nat.add_comm]
 . have hKP : 2 ^ (32 - (p + 1)) * 2 ^ (p + 1) = 4294967296 := by rw [<- Nat.pow_add, show 32 - (p + 1) + (p + 1) = 32 by omega]
   have h2 : y < 2 ^ (32 - (p + 1)) := by
    have : y * 2 ^ (p + 1) < 2 ^ (32 - (p + 1)) * 2 ^ (p + 1) := by rw [hKP]; exact hx
    exact Nat.lt_of_mul_lt_mul_right this
   have h3 : (y + 1) * 2 ^ (p + 1) <= 2 ^ (32 - (p + 1)) * 2 ^ (p + 1) := Nat.mul_le_mul_right _ h2;rw [hKP, Nat.add_mul] at h3;omega

theorem BitI.set {a b i : Nat} {qs : List Nat} {R : Nat} (h : BitI a b (i + 1) qs R) (hle : b * 2 ^ i <= R) (hl : i / 32 < qs.length) : BitI a b i (qs.set (i / 32) (qs.getD (i / 32) 0 + 2 ^ (i % 32))) (R - b * 2 ^ i) := by
 obtain ⟨⟨y, hy⟩, hlow⟩ := h.place;have hs := M.iU 4294967296 (i / 32) qs (qs.getD (i / 32) 0 + 2 ^ (i % 32)) hl
 have e2 : 4294967296 ^ (i / 32) * 2 ^ (i % 32) = 2 ^ i := by
  rw [show (4294967296 : Nat) = 2 ^ 32 from rfl, <- Nat.pow_mul, <- Nat.pow_add]; congr 1; omega
 rw [Nat.mul_add, e2] at hs
 refine ⟨?_, ?_, ⟨y * 2 + 1, ?_⟩, fun j hj => ?_⟩
 . have h1 : X (qs.set (i / 32) (qs.getD (i / 32) 0 + 2 ^ (i % 32))) = X qs + 2 ^ i := by unfold X; omega
   rw [h1, Nat.mul_add];have := h.sum;omega
 . have := h.lt;rw [Nat.pow_succ, <- Nat.mul_assoc] at this;omega
 . rw [M.cJ _ _ _ hl, hy, Nat.pow_succ, Nat.add_mul, Nat.mul_assoc, Nat.mul_comm 2, Nat.one_mul]
 . rw [M.cH _ _ _ _ (by omega)]; exact hlow j hj

theorem BitI.start {a b k : Nat} (m : Nat) (h : a < b * 2 ^ (k + 1)) : BitI a b (k + 1) (List.replicate m 0) a := by
 have h0 : ∀ j, (List.replicate m 0).getD j 0 = 0 := fun j => by rw [List.getD_eq_getElem?_getD, List.getElem?_replicate]; split <;> rfl
 refine ⟨?_, h, ⟨0, by rw [h0, Nat.zero_mul]⟩, fun j _ => h0 j⟩
 unfold X; rw [M.dM]; omega

theorem BitI.done {a b : Nat} {qs : List Nat} {R : Nat} (h : BitI a b 0 qs R) : X qs = a / b /\ R = a % b := by
 have h1 := h.sum;have h2 := h.lt;rw [Nat.pow_zero, Nat.mul_one] at h2;rw [h1];exact ⟨by rw [Nat.mul_add_div (by omega), Nat.div_eq_of_lt h2, Nat.add_zero], by rw [Nat.mul_add_mod, Nat.mod_eq_of_lt h2]⟩

theorem vW (b i : Nat) : b * 2 ^ (i + 1) / 2 = b * 2 ^ i := by rw [Nat.pow_succ, <- Nat.mul_assoc, Nat.mul_div_cancel _ (by omega)]

def cF (ao : Option Addr) (xs : List Nat) (g : Nat) : Prop := 0 < xs.length -> ∀ b2 o2, ao = some ⟨b2, o2, none⟩ -> b2 ≠ g

theorem Rd.apart {w w' : World} {bo : Option Addr} {ys : List Nat} {g : Nat} (h : Rd w bo ys) (hg : w.grownBy w' (some g)) (hsep : cF bo ys g) : Rd w' bo ys := by
 intro hp;obtain ⟨b, off, e, hc⟩ := h hp
 exact ⟨b, off, e, fun i hi => hg.cell (hc i hi) (by simpa using hsep hp b off e)⟩

theorem gG {w : World} {base cap g : Nat} {ao : Option Addr} {xs : List Nat} (h : w.ownsRow base 25 1 (.slice ao xs.length cap) xs.length (U xs)) (hg : g < base) : cF ao xs g := by
 intro h0 b2 o2 e;obtain ⟨g3, e3, hg3⟩ := o4 h h0;rw [e3] at e;cases e;omega

theorem mF {w : World} {ao : Option Addr} {xs : List Nat} {g : Nat} (h : Rd w ao xs) (hg : w.heap.size <= g) : cF ao xs g := by
 intro h0 b2 o2 e;obtain ⟨b, off, e2, hc⟩ := h h0;have h1 : b < w.heap.size := World.block_lt_of_cell? w _ (hc 0 h0);rw [e2] at e;cases e;omega

theorem mZ (ao bo : Option Addr) (n m c d : Nat) (a b : Nat) (w : World) (hl : (D a).length = n) (hm : (D b).length = m) (hb : 0 < b) (hn : n <= 2600) (hn2 : m <= 2600) (hcn : n <= c) (hr : Rd w ao (D a)) (hr2 : Rd w bo (D b)) :
 Calls Tryz.prog 58 #[.slice ao n c, .slice bo m d] w fun e w' => MR w w' e (D (a / b)) (D (a % b)) := by
 obtain ⟨i0, hi, hz0, hz1, hz2⟩ := info_parts Tryz.infoU;obtain ⟨x, ex⟩ : ∃ x, x = aA a := ⟨_, rfl⟩;obtain ⟨y, ey⟩ : ∃ x, x = aA b := ⟨_, rfl⟩
 have hbits : ∀ v l, (D v).length = l -> aA v <= 32 * l := by
  intro v l hv;refine bZ v (32 * l) ?_;have h1 := M.jN (B := 4294967296) (by omega) v;rw [show (M.dig 4294967296 v).length = l from hv, show (4294967296 : Nat) = 2 ^ 32 from rfl, <- Nat.pow_mul] at h1;exact h1
 have hxb : x <= 83200 := by have := hbits a n hl; omega
 have hyb : y <= 83200 := by have := hbits b m hm; omega
 clear hbits;have ha1 : a < 2 ^ x := by rw [ex]; exact eB a
 have hb1 : 2 ^ (y - 1) <= b := by rw [ey]; exact fZ b hb
 have hy0 : 0 < y := by rw [ey]; exact gM b hb
 have EX := hid ex; have EY := hid ey; have HA1 := hid ha1; have HB1 := hid hb1;clear ex ey ha1 hb1
 by_cases hxy : x < y
 . have hab : a < b := by
    have h1 : 2 ^ x <= 2 ^ (y - 1) := Nat.pow_le_pow_right (by omega) (by omega);have := HA1.out; have := HB1.out; omega
   rw [Nat.div_eq_of_lt hab, Nat.mod_eq_of_lt hab, show D 0 = [] from M.aG _];have hneg : (x : Int) - (y : Int) < 0 := by omega
   go_enter Tryz.func58, Tryz.ntmps58;go_wp2_with fail;refine (bG ao n c a _ hl (by omega) hr x EX.out).mono ?_;rintro e w1 ⟨rfl, rfl⟩;go_wp2_with fail;refine (bG bo m d b _ hm (by omega) hr2 y EY.out).mono ?_;rintro e w2 ⟨rfl, rfl⟩;go_wp2_with fail;refine (bO 4294967296 (by omega) ao n c (D a) _ hl hcn (by omega) (gO a) hr).mono ?_;rw [show M.val 4294967296 (D a) = a from X_D a];rintro e w3 ⟨xa, xc, rfl, hox, hb3⟩;go_wp2_with fail
   go_ret2
   exact ⟨none, 0, xa, xc, rfl, Rd.nil _ _, Rd.own hox, hb3, Nat.le_refl _⟩
 . obtain ⟨k, ek⟩ : ∃ k, k = x - y := ⟨_, rfl⟩;have hkI : (x : Int) - (y : Int) = (k : Int) := by omega
   have hneg : ¬ (k : Int) < 0 := by omega
   have hkb : k <= 83200 := by omega
   obtain ⟨kj, ekj⟩ : ∃ j, j = k / 32 := ⟨_, rfl⟩;have hkjI : (k : Int) / 32 = (kj : Int) := by omega
   have hmk := fun (wx : World) => run_make (P := Tryz.prog) wx 56 25 i0 (.int .u64 0) Tryz.underlying56 hi hz0 .i64 .i64 ((kj + 1 : Nat) : Int) ((kj + 1 : Nat) : Int) (by omega) (Int.le_refl _) (by rw [hz2]; omega) (by omega)
   have es : ((kj + 1 : Nat) : Int) = (kj : Int) + 1 := by omega
   rw [es] at hmk;have et : ((kj : Int) + 1).toNat = kj + 1 := by omega
   rw [et] at hmk;clear es et;have EK := hid ek; have EKJ := hid ekj;clear ek ekj;go_enter Tryz.func58, Tryz.ntmps58;go_wp2_with fail;refine (bG ao n c a _ hl (by omega) hr x EX.out).mono ?_;rintro e w1 ⟨rfl, rfl⟩;go_wp2_with fail;refine (bG bo m d b _ hm (by omega) hr2 y EY.out).mono ?_;rintro e w2 ⟨rfl, rfl⟩;go_wp2_with fail;refine (bO 4294967296 (by omega) ao n c (D a) _ hl hcn (by omega) (gO a) hr).mono ?_;rw [show M.val 4294967296 (D a) = a from X_D a];rintro e w3 ⟨xa, xc, rfl, hox, hb3⟩;have hB4 := fC w3 (kj + 1);have hb4 : Below w3.heap.size w3 (w3.alloc (.cells (madeCells #[Value.int .u64 0] (kj + 1)) 25)) := (Below.refl _ _).alloc (Nat.le_refl _) _;have HB4 := hid hB4; have Hb4 := hid hb4;clear hB4 hb4;go_wp2_with fail;have hB4 := HB4.out; have hb4 := Hb4.out;generalize w3.alloc (.cells (madeCells #[Value.int .u64 0] (kj + 1)) 25) = w4 at hB4 hb4 |-;have hbw4 := hb3.trans (hb4.mono hb3.size);refine (aT bo m d k b _ hm (by omega) (by omega) (hr2.below hbw4)).mono ?_;rintro e w5 ⟨da, dc, rfl, hod, hb5⟩;have hbw5 := hbw4.trans (hb5.mono hbw4.size);have hB5 := hB4.keep hb5;have hrr := ((Rd.own hox).below hb4).below hb5;have hrd := Rd.own hod;have har : cF xa (D a) w3.heap.size := mF (Rd.own hox) (Nat.le_refl _);have had : cF da (D (b * 2 ^ k)) w3.heap.size := gG hod (by have := hB4.lt; omega)
   have hab : a < b * 2 ^ (k + 1) := by
    have h1 := HA1.out;have h2 := HB1.out;have h3 : 2 ^ (y - 1) * 2 ^ (k + 1) <= b * 2 ^ (k + 1) := Nat.mul_le_mul_right _ h2;rw [<- Nat.pow_add, show y - 1 + (k + 1) = x by have := EK.out; omega] at h3;omega
   have hst := BitI.start (kj + 1) hab;have hdd := vW b k
   have hlen : ∀ v, v < 2 ^ x -> (D v).length <= 2600 := by
    intro v hv;obtain ⟨NN, eNN⟩ : ∃ NN, NN = 2600 := ⟨_, rfl⟩;rw [<- eNN];refine M.len_of_lt (B := 4294967296) (by omega) _ _ ?_;rw [show (4294967296 : Nat) = 2 ^ 32 from rfl, <- Nat.pow_mul];exact Nat.lt_of_lt_of_le hv (Nat.pow_le_pow_right (by omega) (by omega))
   have hln : ∀ R, R <= a -> (D R).length <= 2600 := fun R h => hlen R (Nat.lt_of_le_of_lt h HA1.out)
   have hldd : ∀ i, i <= k -> (D (b * 2 ^ i)).length <= 2600 := by
    intro i hi;refine hlen _ ?_;have h1 : b < 2 ^ y := by rw [EY.out]; exact eB b
    have h2 : b * 2 ^ i < 2 ^ y * 2 ^ i := Nat.mul_lt_mul_of_pos_right h1 (Nat.pow_pos (by omega));have h3 : 2 ^ y * 2 ^ i <= 2 ^ x := by rw [<- Nat.pow_add]; exact Nat.pow_le_pow_right (by omega) (by have := EK.out; omega)
    omega
   have HAR := hid har; have HAD := hid had; have HST := hid hst; have HLN := hid hln; have HLD := hid hldd;clear har had hab hst hlen hln hldd;have HB5 := hid hB5; have HBW5 := hid hbw5; have HRR := hid hrr; have HRD := hid hrd;clear hmk HB4 Hb4 hB4 hb4 hbw4 hbw5 hB5 hrr hrd hox hod;go_wp2_with fail;obtain ⟨g, eg⟩ : ∃ g, g = w3.heap.size := ⟨_, rfl⟩;have hgw : w2.heap.size <= w3.heap.size := hb3.size
   go_loopw [7, 9, 10] (fun rs dv i wr => ∃ (t : Nat) (qs : List Nat) (R : Nat) (ra da : Option Addr) (rc dc : Nat), t <= k + 1 /\ i = .int .i64 ((t : Int) - 1) /\ rs = .slice ra (D R).length rc /\ Rd wr ra (D R) /\ dv = .slice da (D (b * 2 ^ t / 2)).length dc /\ Rd wr da (D (b * 2 ^ t / 2)) /\ Blk wr w3.heap.size qs /\ qs.length = kj + 1 /\ F32 qs /\ BitI a b t qs R /\ cF ra (D R) w3.heap.size /\ cF da (D (b * 2 ^ t / 2)) w3.heap.size /\ Below w2.heap.size w2 wr) (fun _ _ i _ => (intOf i + 1).toNat)
   case atStart =>
    refine ⟨k + 1, List.replicate (kj + 1) 0, a, xa, da, xc, dc, Nat.le_refl _, by go_num, rfl, HRR.out, ?_, ?_, HB5.out, by simp, fun x hx => by simp at hx; omega, ?_, HAR.out, ?_, HBW5.out⟩
    . rw [hdd]
    . rw [hdd]; exact HRD.out
    . exact HST.out
    . rw [hdd]; exact HAD.out
   case round =>
    obtain ⟨t, qs, R, ra, da, rc, dc, ht, rfl, rfl, hrR, rfl, hrD, hBq, hql, hqf, hI, hAR, hAD, hbl⟩ := hrel
    by_cases ht0 : 0 < t
    . obtain ⟨i, rfl⟩ : ∃ i, t = i + 1 := ⟨t - 1, by omega⟩;have e1 : (((i + 1 : Nat) : Int) - 1) = (i : Int) := by omega
      rw [e1];rw [vW] at hrD hAD |-;have hlr : (D R).length <= 2600 := HLN.out R (hI.le_a);have hld : (D (b * 2 ^ i)).length <= 2600 := HLD.out i (by omega);obtain ⟨j, ej⟩ : ∃ j, j = i / 32 := ⟨_, rfl⟩;obtain ⟨p, ep⟩ : ∃ p, p = i % 32 := ⟨_, rfl⟩;have ijI : (i : Int) / 32 = (j : Int) := by omega
      have ipI : (i : Int) % 32 = (p : Int) := by omega
      have hjb : j < kj + 1 := by have := EKJ.out; omega
      have hjI : (j : Int) < (kj : Int) + 1 := by omega
      have hpb : p < 32 := by omega
      have EJ := hid ej; have EP := hid ep;clear ej ep;have hge0 : (0 : Int) <= (i : Int) := by omega
      obtain ⟨dd, edd⟩ : ∃ dd, dd = b * 2 ^ i := ⟨_, rfl⟩;rw [<- edd] at hrD hAD hld |-;have EDD := hid edd; clear edd
      by_cases hcm : dd <= R
      . have hcmp := jK hcm;have HI := hid hI; clear hI;obtain ⟨x0, ex0⟩ : ∃ x0, x0 = qs.getD j 0 := ⟨_, rfl⟩;have hx0 : x0 < 4294967296 := by rw [ex0]; exact hqf.get j
        have hpl := HI.out.place;rw [<- EJ.out, <- EP.out, <- ex0] at hpl;obtain ⟨hor, hob⟩ := GN hx0 hpb hpl.1;have hset := HI.out.set (by rw [<- EDD.out]; exact hcm) (by rw [<- EJ.out]; omega);rw [<- EJ.out, <- EP.out, <- ex0, <- EDD.out] at hset;obtain ⟨tp, etp⟩ : ∃ tp, tp = 2 ^ p := ⟨_, rfl⟩;rw [<- etp] at hor hob hset;have wsh : ((2 : Int) ^ p) = (tp : Int) := by rw [eZ, etp]
        obtain ⟨x1, ex1⟩ : ∃ x1, x1 = x0 + tp := ⟨_, rfl⟩
        have wor : bits BinOp.or IntKind.u64 (x0 : Int) (tp : Int) = (x1 : Int) := by
         rw [cI _ _ (by omega) (by omega), hor, ex1]
        rw [<- ex1] at hset hob;have htpb : tp < 18446744073709551616 := by omega
        have HSET := hid hset; have EX0 := hid ex0; have HOB := hid hob;clear hset ex0 hob hor hpl etp ex1;go_wp2_with fail;refine (dL ra da _ _ rc dc R dd _ rfl rfl (by omega) (by omega) hrR hrD).mono ?_;rintro e v1 ⟨rfl, rfl⟩;go_wp2_with fail;refine (gJ ra da _ _ rc dc R dd _ rfl rfl hcm (by omega) hrR hrD).mono ?_;rintro e v2 ⟨sa, sc, rfl, hos, hbs⟩;have hBq2 := hBq.keep hbs;have hcq := hBq2.cell j (by omega);rw [<- EX0.out] at hcq;have hfq := hBq2.frozen j;have hbl2 := hbl.trans (hbs.mono hbl.size);have hgs : v2.grownBy (v2.setCell ⟨w3.heap.size, j, none⟩ (.int .u64 (x1 : Int))) (some w3.heap.size) := aE _ _ _ _;have hBq3 : Blk (v2.setCell ⟨w3.heap.size, j, none⟩ (.int .u64 (x1 : Int))) w3.heap.size (qs.set j x1) := hBq2.set _ _ _ rfl;have hbl3 : Below w2.heap.size w2 (v2.setCell ⟨w3.heap.size, j, none⟩ (.int .u64 (x1 : Int))) := hbl2.setCell (by simpa using hgw) _;have haps : cF sa (D (R - dd)) w3.heap.size := gG hos (by have := hBq.lt; omega);have hrs3 := (Rd.own hos).apart hgs haps;have hrd3 := (hrD.below hbs).apart hgs hAD;have HBq3 := hid hBq3; have Hbl3 := hid hbl3; have Hrs3 := hid hrs3; have Hrd3 := hid hrd3;clear hBq3 hbl3 hrs3 hrd3 hBq2 hgs hos hbs hbl2;go_wp2_with fail;have hBq3 := HBq3.out; have hbl3 := Hbl3.out; have hrs3 := Hrs3.out; have hrd3 := Hrd3.out;generalize v2.setCell ⟨w3.heap.size, j, none⟩ (.int .u64 (x1 : Int)) = v3 at hBq3 hbl3 hrs3 hrd3 |-;clear HBq3 Hbl3 Hrs3 Hrd3 hcq hfq;refine (fL da _ dc 1 dd _ rfl (by omega) (by omega) hrd3).mono ?_;rw [Nat.pow_one];rintro e v4 ⟨ta, tc, rfl, hot, hbt⟩;have hbl4 := hbl3.trans (hbt.mono hbl3.size);have hBq4 := hBq3.keep hbt;have hrs4 := hrs3.below hbt;have hrt4 := Rd.own hot;have hapt : cF ta (D (dd / 2)) w3.heap.size := gG hot (by have := hBq3.lt; omega);have Hbl4 := hid hbl4; have HBq4 := hid hBq4; have Hrs4 := hid hrs4; have Hrt4 := hid hrt4; have Hapt := hid hapt; have Haps := hid haps;clear hbl4 hBq4 hrs4 hrt4 hapt haps hot hbt hBq3 hbl3 hrs3 hrd3;go_wp2_with fail;go_roundw
        case rel =>
         have hfs : F32 (qs.set j x1) := by
          intro v hv;rcases List.mem_or_eq_of_mem_set hv with hv | rfl
          . exact hqf v hv
          . exact HOB.out
         have R1 : ∃ (t : Nat) (qs : List Nat) (R' : Nat) (ra da : Option Addr) (rc dc : Nat), t <= k + 1 /\ Value.int .i64 ((i : Int) - 1) = .int .i64 ((t : Int) - 1) /\ Value.slice sa (D (R - dd)).length sc = .slice ra (D R').length rc /\ Rd v4 ra (D R') /\ Value.slice ta (D (dd / 2)).length tc = .slice da (D (b * 2 ^ t / 2)).length dc /\ Rd v4 da (D (b * 2 ^ t / 2)) /\ Blk v4 w3.heap.size qs /\ qs.length = kj + 1 /\ F32 qs /\ BitI a b t qs R' /\ cF ra (D R') w3.heap.size /\ cF da (D (b * 2 ^ t / 2)) w3.heap.size /\ Below w2.heap.size w2 v4 := by
          refine ⟨i, qs.set j x1, R - dd, sa, ta, sc, tc, by omega, rfl, rfl, Hrs4.out, ?_, ?_, HBq4.out, by rw [List.length_set]; exact hql, hfs, HSET.out, Haps.out, ?_, Hbl4.out⟩
          . rw [<- EDD.out]
          . rw [<- EDD.out]; exact Hrt4.out
          . rw [<- EDD.out]; exact Hapt.out
         first | exact R1 | ((repeat apply Exists.intro); exact ⟨R1, rfl⟩)
        case measure => simp [intOf] <;> omega
      . have hcmp := tO (show R < dd by omega);have hset := hI.skip (by rw [<- EDD.out]; omega);have HSET := hid hset; clear hset hI;go_wp2_with fail;refine (dL ra da _ _ rc dc R dd _ rfl rfl (by omega) (by omega) hrR hrD).mono ?_;rintro e v3 ⟨rfl, rfl⟩;go_wp2_with fail;refine (fL da _ dc 1 dd _ rfl (by omega) (by omega) hrD).mono ?_;rw [Nat.pow_one];rintro e v4 ⟨ta, tc, rfl, hot, hbt⟩;have hbl4 := hbl.trans (hbt.mono hbl.size);have hBq4 := hBq.keep hbt;have hrs4 := hrR.below hbt;have hrt4 := Rd.own hot;have hapt : cF ta (D (dd / 2)) w3.heap.size := gG hot (by have := hBq.lt; omega);have Hbl4 := hid hbl4; have HBq4 := hid hBq4; have Hrs4 := hid hrs4; have Hrt4 := hid hrt4; have Hapt := hid hapt;clear hbl4 hBq4 hrs4 hrt4 hapt hot hbt;go_wp2_with fail;go_roundw
        case rel =>
         have R1 : ∃ (t : Nat) (qs : List Nat) (R' : Nat) (ra' da : Option Addr) (rc' dc : Nat), t <= k + 1 /\ Value.int .i64 ((i : Int) - 1) = .int .i64 ((t : Int) - 1) /\ Value.slice ra (D R).length rc = .slice ra' (D R').length rc' /\ Rd v4 ra' (D R') /\ Value.slice ta (D (dd / 2)).length tc = .slice da (D (b * 2 ^ t / 2)).length dc /\ Rd v4 da (D (b * 2 ^ t / 2)) /\ Blk v4 w3.heap.size qs /\ qs.length = kj + 1 /\ F32 qs /\ BitI a b t qs R' /\ cF ra' (D R') w3.heap.size /\ cF da (D (b * 2 ^ t / 2)) w3.heap.size /\ Below w2.heap.size w2 v4 := by
          refine ⟨i, qs, R, ra, ta, rc, tc, by omega, rfl, rfl, Hrs4.out, ?_, ?_, HBq4.out, hql, hqf, HSET.out, hAR, ?_, Hbl4.out⟩
          . rw [<- EDD.out]
          . rw [<- EDD.out]; exact Hrt4.out
          . rw [<- EDD.out]; exact Hapt.out
         first | exact R1 | ((repeat apply Exists.intro); exact ⟨R1, rfl⟩)
        case measure => simp [intOf] <;> omega
    . have e : t = 0 := by omega
      subst e;obtain ⟨hq, hR⟩ := hI.done;have hge0 : ¬ (0 : Int) <= ((0 : Nat) : Int) - 1 := by omega
      have hrdq := hBq.rd0;have HQ := hid hq; have HR := hid hR;clear hI hq hR hrD hAD;go_wp2_with fail;refine (bO 4294967296 (by omega) _ (kj + 1) (kj + 1) qs _ hql (Nat.le_refl _) (by omega) hqf hrdq).mono ?_;rw [show M.val 4294967296 qs = a / b from HQ.out];rintro e v1 ⟨qa, qc, rfl, hoq, hbq⟩;go_wp2_with fail
      go_ret2
      rw [<- HR.out];exact ⟨qa, qc, ra, rc, rfl, Rd.own hoq, hrR.below hbq, hbl.trans (hbq.mono hbl.size), dC hoq⟩

theorem yE (ao bo : Option Addr) (n m c d : Nat) (a b : Nat) (w : World) (hl : (D a).length = n) (hm : (D b).length = m) (hb : 0 < b) (hn : n <= 2600) (hn2 : m <= 2600) (hcn : n <= c) (hr : Rd w ao (D a)) (hr2 : Rd w bo (D b)) :
 Calls Tryz.prog 58 #[.slice ao n c, .slice bo m d] w fun e w' => LT w w' e (D (a / b)) (D (a % b)):=
 (mZ ao bo n m c d a b w hl hm hb hn hn2 hcn hr hr2).mono fun e w' ⟨qa, qc, ra, rc, he, h1, h2, h3, _⟩ => ⟨qa, qc, ra, rc, he, h1, h2, h3⟩

theorem aW {w w' : World} (h : Below w.heap.size w w') (row : Option Nat) : w.grownBy w' row := ⟨h.os, h.tape, h.output, h.size, fun k hk _ => h.block k hk⟩

theorem Rd.gb {w w' : World} {ao : Option Addr} {xs : List Nat} {g : Nat} (h : Rd w ao xs) (hs : cF ao xs g) (hg : w.grownBy w' (some g)) : Rd w' ao xs := h.apart hg hs

theorem yJ (g : Nat) (e0 e1 e2 e3 e4 : Int) (e5 : Bool) (a b : Option Addr) (c d N De Z : Nat) (q : Int) (w : World) (hB : Rb w g e0 e1 e2 e3 e4 e5 a (L N).length c b (L De).length d Z q) (ra : Rd w a (L N)) (rb : Rd w b (L De)) (sa : cF a (L N) g) (sb : cF b (L De) g)
 (E qm Q : Int) (he0 : 0 <= e0) (he0' : e0 <= 200) (hE1 : -100000 <= E) (hE2 : E <= 100000) (hQ : max (E - e0 + 1) qm = Q) (hQ1 : -100000 <= Q) (hQ2 : Q <= 100000)
 (kE : ∀ v : World, Rb v g e0 e1 e2 e3 e4 e5 a (L N).length c b (L De).length d Z q -> Rd v a (L N) -> Rd v b (L De) -> Calls Tryz.prog 147 #[.pointer (some ⟨g, 0, none⟩)] v fun e w' => e = .returned (.int .i64 E) /\ Below v.heap.size v w')
 (kQ : ∀ v : World, Calls Tryz.prog 76 #[.agg #[.int .i64 e0, .int .i64 e1, .int .i64 e2, .int .i64 e3, .int .i64 e4, .bool e5]] v fun e w' => e = .returned (.int .i64 qm) /\ Below v.heap.size v w')
 (s1 s2 : Int) (hs1 : max (-Q) 0 = s1) (hs2 : max Q 0 = s2) (X Y : Nat)
 (kX : ∀ v : World, Rd v a (L N) -> Calls Tryz.prog 116 #[.slice a (L N).length c, .int .i64 s1] v fun e w' => Ret v w' e (L X))
 (kY : ∀ v : World, Rd v b (L De) -> Calls Tryz.prog 116 #[.slice b (L De).length d, .int .i64 s2] v fun e w' => Ret v w' e (L Y)) :
 Calls Tryz.prog 127 #[.pointer (some ⟨g, 0, none⟩)] w fun e w' => (∃ v, e = .returned v) /\ ∃ (a1 : Option Addr) (c1 : Nat) (a2 : Option Addr) (c2 : Nat), Rb w' g e0 e1 e2 e3 e4 e5 a1 (L X).length c1 a2 (L Y).length c2 Z Q /\ Rd w' a1 (L X) /\ Rd w' a2 (L Y) /\ cF a1 (L X) g /\ cF a2 (L Y) g /\ w.grownBy w' (some g) := by
 have w1 : IntKind.i64.wrap (E - e0) = E - e0 := by rw [IntKind.wrap_i64]; omega
 have w2 : IntKind.i64.wrap (E - e0 + 1) = E - e0 + 1 := by rw [IntKind.wrap_i64]; omega
 have w3 : IntKind.i64.wrap (-Q) = -Q := by rw [IntKind.wrap_i64]; omega
 have hQ' : (if E - e0 + 1 < qm then qm else E - e0 + 1) = Q := by split <;> omega
 have hs1' : (if -Q < 0 then 0 else -Q) = s1 := by split <;> omega
 have hs2' : (if Q < 0 then 0 else Q) = s2 := by split <;> omega
 have lg : g < w.heap.size := Cls.lt hB;go_enter Tryz.func127, Tryz.ntmps127;go_upto_region 0 with fail
 go_cut [18] (fun x wx => x = .pointer (some ⟨g, 0, none⟩) /\ Rb wx g e0 e1 e2 e3 e4 e5 a (L N).length c b (L De).length d Z Q /\ w.grownBy wx (some g))
 case first =>
  have A0 : Below w.heap.size w w.drew := (Below.refl _ _).drew
  have KB : ∀ v, Below w.heap.size w v -> (fun v => v.cell? ⟨g, 0, none⟩ = some (.int .i64 e0) /\ v.cell? ⟨g, 1, none⟩ = some (.int .i64 e1) /\ v.cell? ⟨g, 2, none⟩ = some (.int .i64 e2) /\ v.cell? ⟨g, 3, none⟩ = some (.int .i64 e3) /\ v.cell? ⟨g, 4, none⟩ = some (.int .i64 e4) /\ v.cell? ⟨g, 5, none⟩ = some (.bool e5)) v := fun v hv => ⟨Cls.cell (hB.below hv) 0 rfl, Cls.cell (hB.below hv) 1 rfl, Cls.cell (hB.below hv) 2 rfl, Cls.cell (hB.below hv) 3 rfl, Cls.cell (hB.below hv) 4 rfl, Cls.cell (hB.below hv) 5 rfl⟩
  have KS : ∀ v x, Below w.heap.size w v -> (fun v => v.cell? ⟨g, 0, none⟩ = some (.int .i64 e0) /\ v.cell? ⟨g, 1, none⟩ = some (.int .i64 e1) /\ v.cell? ⟨g, 2, none⟩ = some (.int .i64 e2) /\ v.cell? ⟨g, 3, none⟩ = some (.int .i64 e3) /\ v.cell? ⟨g, 4, none⟩ = some (.int .i64 e4) /\ v.cell? ⟨g, 5, none⟩ = some (.bool e5)) (v.setCell ⟨g, 10, none⟩ x) := fun v x hv => by
   have h := Cls.set (hB.below hv) 10 x _ rfl;exact ⟨h.cell 0 rfl, h.cell 1 rfl, h.cell 2 rfl, h.cell 3 rfl, h.cell 4 rfl, h.cell 5 rfl⟩
  go_region_held3 (fun v => v.cell? ⟨g, 0, none⟩ = some (.int .i64 e0) /\ v.cell? ⟨g, 1, none⟩ = some (.int .i64 e1) /\ v.cell? ⟨g, 2, none⟩ = some (.int .i64 e2) /\ v.cell? ⟨g, 3, none⟩ = some (.int .i64 e3) /\ v.cell? ⟨g, 4, none⟩ = some (.int .i64 e4) /\ v.cell? ⟨g, 5, none⟩ = some (.bool e5)) (first | with_reducible exact KB _ hb2 | with_reducible exact KB _ hb1 | with_reducible exact KB _ A0 | with_reducible exact KS _ _ hb2)
   (first | (have hq := hb1; clear hq; go_at_call 76; refine (kQ _).mono ?_; rintro e u2 ⟨rfl, hb0⟩; have hb2 := aC (w1 := w) hb1 hb0; clear hb0; have b10 := Cls.cell (hB.below hb2) 10 rfl; have f10 := Cls.frozen (hB.below hb2) 10) | (go_at_call 147; refine (kE _ (hB.below A0) (ra.below A0) (rb.below A0)).mono ?_; rintro e u1 ⟨rfl, hb0⟩; have hb1 := aC (w1 := w) A0 hb0; clear hb0))
  all_goals go_wp2_with fail
  all_goals go_meet
  all_goals exact ⟨rfl, Cls.set (hB.below hb2) 10 _ _ rfl, aB (aW hb2 _) (aE _ _ _ _)⟩
 case rest =>
 obtain ⟨rfl, hB1, hg1⟩ := hcut;replace ra := ra.gb sa hg1;replace rb := rb.gb sb hg1;clear hB kE kQ;have lg1 : g < wc.heap.size := Cls.lt hB1;go_upto_region 1 with fail
 go_cut [32] (fun x wx => x = .pointer (some ⟨g, 0, none⟩) /\ ∃ (a1 : Option Addr) (c1 : Nat), Rb wx g e0 e1 e2 e3 e4 e5 a1 (L X).length c1 b (L De).length d Z Q /\ Rd wx a1 (L X) /\ cF a1 (L X) g /\ wc.grownBy wx (some g))
 case first =>
  have A0 : Below wc.heap.size wc wc.drew := (Below.refl _ _).drew;have c6 := Cls.cell (hB1.below A0) 6 rfl;have c10 := Cls.cell (hB1.below A0) 10 rfl;have d6 := Cls.cell hB1 6 rfl;have d10 := Cls.cell hB1 10 rfl
  go_region_with (first | (go_at_call 116; refine (kX _ (ra.below A0)).mono ?_; rintro e u1 ⟨x1, k1, rfl, o1, hb0⟩; have hb1 := aC (w1 := wc) A0 hb0; clear hb0; have b6 := Cls.cell (hB1.below hb1) 6 rfl; have f6 := Cls.frozen (hB1.below hb1) 6))
  all_goals go_wp2_with fail
  all_goals go_meet
  all_goals (have ap := gG (g := g) o1 lg1; exact ⟨rfl, x1, k1, Cls.set (hB1.below hb1) 6 _ _ rfl, (Rd.own o1).apart (aE u1 g 6 _) ap, ap, aB (aW hb1 _) (aE _ _ _ _)⟩)
 case rest =>
 rename_i wd
 obtain ⟨rfl, x1, k1, hB2, rx, sx, hg2⟩ := hcut;replace rb := rb.gb sb hg2;have hg12 := aB hg1 hg2;clear hB1 kX ra sa hg1 hg2;have lg2 : g < wc.heap.size := Cls.lt hB2;go_upto_region 2 with fail;have A0 : Below wc.heap.size wc wc.drew := (Below.refl _ _).drew;have c7 := Cls.cell (hB2.below A0) 7 rfl;have c10 := Cls.cell (hB2.below A0) 10 rfl;have d7 := Cls.cell hB2 7 rfl;have d10 := Cls.cell hB2 10 rfl
 go_region_with (first | (go_at_call 116; refine (kY _ (rb.below A0)).mono ?_; rintro e u1 ⟨x2, k2, rfl, o1, hb0⟩; have hb1 := aC (w1 := wc) A0 hb0; clear hb0; have b7 := Cls.cell (hB2.below hb1) 7 rfl; have f7 := Cls.frozen (hB2.below hb1) 7))
 all_goals go_wp2_with fail
 all_goals go_end0
 all_goals (have ap := gG (g := g) o1 lg2; have gg := aB (aW hb1 _) (aE u1 g 7 (.slice x2 (L Y).length k2)); exact ⟨⟨_, rfl⟩, x1, k1, x2, k2, Cls.set (hB2.below hb1) 7 _ _ rfl, rx.gb sx gg, (Rd.own o1).apart (aE u1 g 7 _) ap, sx, ap, aB hg12 gg⟩)

end Go.Proofs.YtfdgkleoaehjaaaGreatDoor
