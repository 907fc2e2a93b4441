import Derived.Deep.CutBlock
import Derived.Deep.DeepCutAuto
import Derived.Lib.Mul64
import Derived.Shelf.Bits.Mul64
import Derived.OwnWalk
import Derived.Test.YtehplfmnipadmafDoorW16
import Derived.Test.YtehplfmnipadmafDoorLen
import Derived.Test.YtehplfmnipadmafDoorBK
namespace Go.Proofs.YtehplfmnipadmafDoor

open Go.RowKit

set_option linter.unusedVariables false
set_option maxRecDepth 100000

set_option maxHeartbeats 400000 in
theorem lz_any (x : Nat) (w : World) (h : x < 18446744073709551616) (s : Nat) (hs : s = 64 - blen x) :
    Calls Tryd.prog 93 #[.int .u64 (x : Int)] w fun e w' => e = .returned (.int .i64 (s : Int)) ∧ w' = w := by
  obtain ⟨b, eb⟩ : ∃ b : Nat, b = blen x := ⟨_, rfl⟩
  have hb : b ≤ 64 := by rw [eb]; exact blen_le_of x 64 h
  have hsI : (64 : Int) - (b : Int) = (s : Int) := by rw [hs, ← eb]; omega
  have EB := hid eb
  clear eb hs
  go_enter Tryd.func93, Tryd.ntmps93
  go_wp2_with fail
  refine (len64_any x _ h b EB.out).mono ?_
  rintro e w1 ⟨rfl, rfl⟩
  go_wp2_with fail
  go_ret
  exact ⟨rfl, rfl⟩

/-- Normalised: y shifted till its highest bit is set. -/
theorem norm_facts (y s : Nat) (hy : 0 < y) (hyb : y < 18446744073709551616) (hs : s = 64 - blen y) : s < 64 ∧ y * 2 ^ s < 18446744073709551616 ∧ 9223372036854775808 ≤ y * 2 ^ s := by
  have h1 := lt_blen y
  have h2 := blen_le y hy
  have h3 := blen_pos y hy
  have h4 : blen y ≤ 64 := blen_le_of y 64 hyb
  refine ⟨by omega, ?_, ?_⟩
  · have : y * 2 ^ s < 2 ^ blen y * 2 ^ s := Nat.mul_lt_mul_of_pos_right h1 (Nat.pow_pos (by omega))
    rw [← Nat.pow_add, show blen y + s = 64 by omega] at this
    exact this
  · have : 2 ^ (blen y - 1) * 2 ^ s ≤ y * 2 ^ s := Nat.mul_le_mul_right _ h2
    rw [← Nat.pow_add, show blen y - 1 + s = 63 by omega] at this
    exact this

/-- 'hi<<s | lo>>(64-s)': the upper word of the shifted number. -/
theorem un32_word (hi lo s y : Nat) (hs : s < 64) (hlo : lo < 18446744073709551616) (hlt : hi < y) (hyb : y * 2 ^ s < 18446744073709551616) :
    bits BinOp.or IntKind.u64 (IntKind.u64.wrap ((hi : Int) * 2 ^ s)) ((lo : Int) / 2 ^ (64 - s)) = ((hi * 2 ^ s + lo / 2 ^ (64 - s) : Nat) : Int) ∧ hi * 2 ^ s + lo / 2 ^ (64 - s) < y * 2 ^ s ∧
      (hi * 2 ^ s + lo / 2 ^ (64 - s)) * 18446744073709551616 + lo * 2 ^ s % 18446744073709551616 = (hi * 18446744073709551616 + lo) * 2 ^ s := by
  have hKP : 2 ^ (64 - s) * 2 ^ s = 18446744073709551616 := M.pow_split s 64 (by omega)
  have h1 : lo / 2 ^ (64 - s) < 2 ^ s := Nat.div_lt_of_lt_mul (by omega)
  have h2 : (hi + 1) * 2 ^ s ≤ y * 2 ^ s := Nat.mul_le_mul_right _ hlt
  rw [Nat.add_mul, Nat.one_mul] at h2
  have hp0 : 0 < 2 ^ s := Nat.pow_pos (by omega)
  refine ⟨?_, by omega, ?_⟩
  · have e1 : IntKind.u64.wrap ((hi : Int) * 2 ^ s) = ((hi * 2 ^ s : Nat) : Int) := by
      rw [pow_cast, ← Int.natCast_mul, wrapU, Nat.mod_eq_of_lt (by omega)]
    rw [e1, div_cast, or_comm_nat _ _ (by omega) (by omega), or_nat _ hi s h1, Nat.add_comm]
  · have e : lo * 2 ^ s % 18446744073709551616 + 18446744073709551616 * (lo / 2 ^ (64 - s)) = lo * 2 ^ s := by
      have h5 : lo * 2 ^ s / 18446744073709551616 = lo / 2 ^ (64 - s) := by
        rw [← hKP, Nat.mul_div_mul_right _ _ (Nat.pow_pos (by omega))]
      have := Nat.mod_add_div (lo * 2 ^ s) 18446744073709551616
      rw [h5] at this
      exact this
    rw [Nat.add_mul, Nat.add_mul, Nat.mul_right_comm hi]
    omega

/-- What a step of the division leaves of the number, modulo 2^64. -/
theorem rest_word (u d q y p1 p2 p3 r : Nat) (hy : y < 18446744073709551616) (hyp : 0 < y) (hq : q = (u * 4294967296 + d) / y) (h1 : p1 = u * 4294967296 % 18446744073709551616) (h2 : p2 = (p1 + d) % 18446744073709551616) (h3 : p3 = q * y % 18446744073709551616) (hr : r = (u * 4294967296 + d) % y) :
    r = (p2 + 18446744073709551616 - p3) % 18446744073709551616 := by
  have e := Nat.div_add_mod (u * 4294967296 + d) y
  rw [← hq, ← hr, Nat.mul_comm] at e
  have hrl : r < y := by rw [hr]; exact Nat.mod_lt _ hyp
  generalize q * y = t at *
  omega

end Go.Proofs.YtehplfmnipadmafDoor

namespace Go.Proofs.YtehplfmnipadmafDoor

open Go.RowKit

set_option linter.unusedVariables false
set_option maxRecDepth 100000

theorem wrapMul (x y p : Nat) (hp : p = x * y) (hb : p < 18446744073709551616) : IntKind.u64.wrap ((x : Int) * (y : Int)) = (p : Int) := by
  have := wrapU p
  rw [Nat.mod_eq_of_lt hb] at this
  rw [← this, hp]; congr 1

end Go.Proofs.YtehplfmnipadmafDoor

namespace Go.Proofs.YtehplfmnipadmafDoor

open Go.RowKit

set_option linter.unusedVariables false
set_option maxRecDepth 100000

theorem quo_cast (x y : Nat) : (x : Int) / (y : Int) = ((x / y : Nat) : Int) := (Int.natCast_ediv x y).symm

theorem rem_cast (x y : Nat) : (x : Int) % (y : Int) = ((x % y : Nat) : Int) := (Int.natCast_emod x y).symm

theorem wrapMulM (x y p : Nat) (hp : p = x * y % 18446744073709551616) : IntKind.u64.wrap ((x : Int) * (y : Int)) = (p : Int) := by
  rw [hp, ← wrapU, Int.natCast_mul]

set_option maxHeartbeats 4000000 in
set_option maxRecDepth 100000 in
theorem div64_any (hi lo y : Nat) (w : World) (hlo : lo < 18446744073709551616) (hyb : y < 18446744073709551616) (hlt : hi < y) (Q R : Nat) (hQ : Q = (hi * 18446744073709551616 + lo) / y) (hR : R = (hi * 18446744073709551616 + lo) % y) :
    Calls Tryd.prog 99 #[.int .u64 (hi : Int), .int .u64 (lo : Int), .int .u64 (y : Int)] w fun e w' => e = .returned (.tuple #[.int .u64 (Q : Int), .int .u64 (R : Int)]) ∧ ∃ q, w' = w.drewN q := by
  have hyp : 0 < y := by omega
  have t0 : ((y : Int) == 0) = false := by simp; omega
  have t1 : ¬ (y : Int) ≤ (hi : Int) := by omega
  by_cases hh : hi = 0
  · have t2 : ((hi : Int) == 0) = true := by simp; omega
    have hQ' : Q = lo / y := by rw [hQ, hh]; simp
    have hR' : R = lo % y := by rw [hR, hh]; simp
    have q1 := quo_cast lo y
    have q2 := rem_cast lo y
    rw [← hQ'] at q1
    rw [← hR'] at q2
    have hQb : Q < 18446744073709551616 := by rw [hQ']; exact Nat.lt_of_le_of_lt (Nat.div_le_self _ _) hlo
    have hRb : R < 18446744073709551616 := by rw [hR']; exact Nat.lt_of_le_of_lt (Nat.mod_le _ _) hlo
    clear hQ hR hQ' hR' hh
    go_enter Tryd.func99, Tryd.ntmps99
    go_wp2_with fail
    go_quiet (fail)
    go_wp2_with fail
    go_ret2
    exact ⟨by rw [← q2]; rfl, _, rfl⟩
  · have t2 : ((hi : Int) == 0) = false := by simp; omega
    obtain ⟨s, es⟩ : ∃ s : Nat, s = 64 - blen y := ⟨_, rfl⟩
    obtain ⟨hs64, hyn, hyn2⟩ := norm_facts y s hyp hyb es
    obtain ⟨hu1, hu2, hu3⟩ := un32_word hi lo s y hs64 hlo hlt hyn
    obtain ⟨u, eu⟩ : ∃ u : Nat, u = hi * 2 ^ s + lo / 2 ^ (64 - s) := ⟨_, rfl⟩
    obtain ⟨v, ev⟩ : ∃ v : Nat, v = lo * 2 ^ s % 18446744073709551616 := ⟨_, rfl⟩
    obtain ⟨yn, eyn⟩ : ∃ yn : Nat, yn = y * 2 ^ s := ⟨_, rfl⟩
    rw [← eu] at hu1 hu2 hu3
    rw [← ev] at hu3
    rw [← eyn] at hyn hyn2 hu2
    have wyn : IntKind.u64.wrap ((y : Int) * 2 ^ s) = (yn : Int) := by
      rw [pow_cast, ← Int.natCast_mul, wrapU, ← eyn, Nat.mod_eq_of_lt hyn]
    have wv : IntKind.u64.wrap ((lo : Int) * 2 ^ s) = (v : Int) := by
      rw [pow_cast, ← Int.natCast_mul, wrapU, ← ev]
    have hQ2 : Q = (u * 18446744073709551616 + v) / yn := by rw [hu3, eyn, Nat.mul_div_mul_right _ _ (Nat.pow_pos (by omega)), hQ]
    have hR2 : R * 2 ^ s = (u * 18446744073709551616 + v) % yn := by rw [hu3, eyn, Nat.mul_mod_mul_right, hR]
    have hvb : v < 18446744073709551616 := by rw [ev]; exact Nat.mod_lt _ (by omega)
    obtain ⟨y1, e1⟩ : ∃ y1 : Nat, y1 = yn / 4294967296 := ⟨_, rfl⟩
    obtain ⟨y0, e0⟩ : ∃ y0 : Nat, y0 = yn % 4294967296 := ⟨_, rfl⟩
    have hyy : yn = y1 * 4294967296 + y0 := by omega
    have hy0 : y0 < 4294967296 := by omega
    have hy1 : 4294967296 ≤ 2 * y1 := by omega
    have hy1b : y1 < 4294967296 := by omega
    have wy1 : (yn : Int) / 4294967296 = (y1 : Int) := by omega
    have wy0 : bits BinOp.and IntKind.u64 (yn : Int) 4294967295 = (y0 : Int) := by rw [and_low32 _ (by omega) (by omega)]; omega
    obtain ⟨d1, ed1⟩ : ∃ d1 : Nat, d1 = v / 4294967296 := ⟨_, rfl⟩
    obtain ⟨d0, ed0⟩ : ∃ d0 : Nat, d0 = v % 4294967296 := ⟨_, rfl⟩
    have hvv : v = d1 * 4294967296 + d0 := by omega
    have hd1 : d1 < 4294967296 := by omega
    have hd0 : d0 < 4294967296 := by omega
    have wd1 : (v : Int) / 4294967296 = (d1 : Int) := by omega
    have wd0 : bits BinOp.and IntKind.u64 (v : Int) 4294967295 = (d0 : Int) := by rw [and_low32 _ (by omega) (by omega)]; omega
    have hynp : 0 < yn := by omega
    have tq : ((y1 : Int) == 0) = false := by simp; omega
    have hub : u < 18446744073709551616 := by omega
    -- the first step's guess
    have K1 := M.Kn.first (C := 4294967296) (u := u) (d := d1) (by omega) hyy hd1 hu2 hy0 hy1
    obtain ⟨g1, eg1⟩ : ∃ g : Nat, g = u / y1 := ⟨_, rfl⟩
    obtain ⟨r1, er1⟩ : ∃ r : Nat, r = u % y1 := ⟨_, rfl⟩
    rw [← eg1, ← er1] at K1
    have wg1 : (u : Int) / (y1 : Int) = (g1 : Int) := by rw [quo_cast, ← eg1]
    have hr1l : r1 < 4294967296 := by rw [er1]; have := Nat.mod_lt u (show 0 < y1 by omega); omega
    have hg1b : g1 < 18446744073709551616 := by have := K1.le; omega
    have wm1 : IntKind.u64.wrap ((g1 : Int) * (y1 : Int)) = ((g1 * y1 : Nat) : Int) := wrapMul g1 y1 _ rfl (by have := K1.sum; omega)
    obtain ⟨gy1, egy1⟩ : ∃ t : Nat, t = g1 * y1 := ⟨_, rfl⟩
    rw [← egy1] at wm1
    have ws1 : (u : Int) - (gy1 : Int) = (r1 : Int) := by have := K1.sum; rw [← egy1] at this; omega
    obtain ⟨q1, eq1⟩ : ∃ q : Nat, q = (u * 4294967296 + d1) / yn := ⟨_, rfl⟩
    obtain ⟨u2, eu2⟩ : ∃ q : Nat, q = (u * 4294967296 + d1) % yn := ⟨_, rfl⟩
    have ES := hid es; have HK1 := hid K1; have HQ2 := hid hQ2; have HR2 := hid hR2; have EQ1 := hid eq1; have EU2 := hid eu2; have HYY := hid hyy; have HVV := hid hvv
    clear es K1 hQ2 hR2 eq1 eu2 hyy hvv eu ev eyn e1 e0 ed1 ed0 eg1 er1 egy1 hQ hR hu3
    go_enter Tryd.func99, Tryd.ntmps99
    go_wp2_with fail
    refine (lz_any y _ hyb s ES.out).mono ?_
    rintro e w1 ⟨rfl, rfl⟩
    go_upto_block 0 with fail
    go_cut [16, 15] (fun r q wc => q = .int .u64 (q1 : Int) ∧ (∃ r' : Nat, r = .int .u64 (r' : Int)) ∧ wc = w1)
    case first =>
      go_wp2_with fail
      go_loopw [16, 15] (fun r q wr => ∃ (g r0 : Nat), q = .int .u64 g ∧ r = .int .u64 r0 ∧ M.Kn 4294967296 u d1 y1 y0 yn g r0 ∧ r0 < 4294967296 ∧ wr = w1) (fun _ q _ => (intOf q).toNat)
      case atStart => exact ⟨g1, r1, rfl, rfl, HK1.out, hr1l, rfl⟩
      case round =>
        obtain ⟨g, r0, rfl, rfl, hK, hr0, rfl⟩ := hrel
        have hgb0 : g < 18446744073709551616 := by have := hK.le; omega
        by_cases hge : 4294967296 ≤ g
        · have hge' : (4294967296 : Int) ≤ (g : Int) := by omega
          obtain ⟨hg0, hK2⟩ := hK.down HYY.out hynp hu2 hd1 (Or.inl hge)
          obtain ⟨g', eg'⟩ : ∃ t : Nat, t = g - 1 := ⟨_, rfl⟩
          obtain ⟨r', er'⟩ : ∃ t : Nat, t = r0 + y1 := ⟨_, rfl⟩
          rw [← eg', ← er'] at hK2
          have wg' : (g : Int) - 1 = (g' : Int) := by omega
          have wr' : (r0 : Int) + (y1 : Int) = (r' : Int) := by omega
          have hgb : g' < 18446744073709551616 := by have := hK2.le; omega
          have hrb : r' < 18446744073709551616 := by omega
          have hgC : g' ≤ 4294967296 := by have := hK.le; omega
          have HG := hid eg'; have HR := hid er'
          clear eg' er'
          by_cases hw : 4294967296 ≤ r'
          · have hw' : (4294967296 : Int) ≤ (r' : Int) := by omega
            have hfin : g' = q1 := by rw [EQ1.out]; exact hK2.wide HYY.out hynp hy0 hgC hw
            have HF := hid hfin; have HK2 := hid hK2; clear hfin hK hK2
            go_wp2_with fail
            go_meet
            case rel => rw [HF.out]; exact ⟨rfl, ⟨r', rfl⟩, by first | rfl | trivial⟩
          · have hw' : ¬ (4294967296 : Int) ≤ (r' : Int) := by omega
            have HK2 := hid hK2; clear hK hK2
            go_wp2_with fail
            go_roundw
            case rel =>
              first | exact ⟨g', r', rfl, rfl, HK2.out, by omega, by first | rfl | trivial⟩ | (refine ⟨g', r', rfl, rfl, HK2.out, by omega, ?_⟩; trace_state; rfl)
            case measure => simp [intOf]; have := HG.out; omega
        · have hge' : ¬ (4294967296 : Int) ≤ (g : Int) := by omega
          obtain ⟨p, ep⟩ : ∃ t : Nat, t = g * y0 := ⟨_, rfl⟩
          obtain ⟨c0, ec0⟩ : ∃ t : Nat, t = 4294967296 * r0 := ⟨_, rfl⟩
          obtain ⟨t0', et0⟩ : ∃ t : Nat, t = c0 + d1 := ⟨_, rfl⟩
          have hpb : p < 18446744073709551616 := by
            rw [ep]; exact Nat.lt_of_le_of_lt (Nat.mul_le_mul (show g ≤ 4294967295 by omega) (show y0 ≤ 4294967295 by omega)) (by omega)
          have wp : IntKind.u64.wrap ((g : Int) * (y0 : Int)) = (p : Int) := wrapMul g y0 p ep hpb
          have wc0 : (4294967296 : Int) * (r0 : Int) = (c0 : Int) := by omega
          have wt0 : (c0 : Int) + (d1 : Int) = (t0' : Int) := by omega
          have hc0b : c0 < 18446744073709551616 := by omega
          have ht0b : t0' < 18446744073709551616 := by omega
          have hlt1 : 4294967296 * r0 + d1 = t0' := by omega
          have EP := hid ep; have EC := hid ec0; have ET := hid et0
          by_cases htp : t0' < p
          · have htp' : (t0' : Int) < (p : Int) := by omega
            have hlt : 4294967296 * r0 + d1 < g * y0 := by rw [hlt1, ← ep]; exact htp
            clear ep ec0 et0 hlt1
            obtain ⟨hg0, hK2⟩ := hK.down HYY.out hynp hu2 hd1 (Or.inr hlt)
            obtain ⟨g', eg'⟩ : ∃ t : Nat, t = g - 1 := ⟨_, rfl⟩
            obtain ⟨r', er'⟩ : ∃ t : Nat, t = r0 + y1 := ⟨_, rfl⟩
            rw [← eg', ← er'] at hK2
            have wg' : (g : Int) - 1 = (g' : Int) := by omega
            have wr' : (r0 : Int) + (y1 : Int) = (r' : Int) := by omega
            have hgb : g' < 18446744073709551616 := by have := hK2.le; omega
            have hrb : r' < 18446744073709551616 := by omega
            have hgC : g' ≤ 4294967296 := by have := hK.le; omega
            have HG := hid eg'; have HR := hid er'
            clear eg' er'
            by_cases hw : 4294967296 ≤ r'
            · have hw' : (4294967296 : Int) ≤ (r' : Int) := by omega
              have hfin : g' = q1 := by rw [EQ1.out]; exact hK2.wide HYY.out hynp hy0 hgC hw
              have HF := hid hfin; have HK2 := hid hK2; clear hfin hK hK2
              go_wp2_with fail
              go_meet
              case rel => rw [HF.out]; exact ⟨rfl, ⟨r', rfl⟩, by first | rfl | trivial⟩
            · have hw' : ¬ (4294967296 : Int) ≤ (r' : Int) := by omega
              have HK2 := hid hK2; clear hK hK2
              go_wp2_with fail
              go_roundw
              case rel =>
                first | exact ⟨g', r', rfl, rfl, HK2.out, by omega, by first | rfl | trivial⟩ | (refine ⟨g', r', rfl, rfl, HK2.out, by omega, ?_⟩; trace_state; rfl)
              case measure => simp [intOf]; have := HG.out; omega
          · have htp' : ¬ (t0' : Int) < (p : Int) := by omega
            have hfin : g = q1 := by rw [EQ1.out]; exact hK.stop HYY.out hynp (by rw [hlt1, ← ep]; omega)
            have HF := hid hfin; clear hfin hK ep ec0 et0 hlt1
            go_wp2_with fail
            go_meet
            case rel => rw [HF.out]; exact ⟨rfl, ⟨r0, rfl⟩, by first | rfl | trivial⟩
    case rest =>
      obtain ⟨rfl, ⟨rz0, rfl⟩, rfl⟩ := hcut
      rename World => wz
      have hqC : q1 < 4294967296 := by
        rw [EQ1.out, Nat.div_lt_iff_lt_mul hynp]
        have h1 : (u + 1) * 4294967296 ≤ yn * 4294967296 := Nat.mul_le_mul_right _ hu2
        rw [Nat.mul_comm 4294967296 yn]; omega
      have hu2l : u2 < yn := by rw [EU2.out]; exact Nat.mod_lt _ hynp
      have hu2b : u2 < 18446744073709551616 := by omega
      obtain ⟨p1, ep1⟩ : ∃ p : Nat, p = u * 4294967296 % 18446744073709551616 := ⟨_, rfl⟩
      obtain ⟨p2, ep2⟩ : ∃ p : Nat, p = (p1 + d1) % 18446744073709551616 := ⟨_, rfl⟩
      obtain ⟨p3, ep3⟩ : ∃ p : Nat, p = q1 * yn % 18446744073709551616 := ⟨_, rfl⟩
      have hp1b : p1 < 18446744073709551616 := by omega
      have hp2b : p2 < 18446744073709551616 := by omega
      have hp3b : p3 < 18446744073709551616 := by omega
      have wp1 : IntKind.u64.wrap ((u : Int) * 4294967296) = (p1 : Int) := wrapMulM u 4294967296 p1 ep1
      have wp2 : IntKind.u64.wrap ((p1 : Int) + (d1 : Int)) = (p2 : Int) := by rw [ep2, ← wrapU, Int.natCast_add]
      have wp3 : IntKind.u64.wrap ((q1 : Int) * (yn : Int)) = (p3 : Int) := wrapMulM q1 yn p3 ep3
      have wu2 : IntKind.u64.wrap ((p2 : Int) - (p3 : Int)) = (u2 : Int) := wrapSub p2 p3 u2 (rest_word u d1 q1 yn p1 p2 p3 u2 hyn hynp EQ1.out ep1 ep2 ep3 EU2.out) (by omega)
      have K2 := M.Kn.first (C := 4294967296) (u := u2) (d := d0) (by omega) HYY.out hd0 hu2l hy0 hy1
      obtain ⟨g2, eg2⟩ : ∃ g : Nat, g = u2 / y1 := ⟨_, rfl⟩
      obtain ⟨r2, er2⟩ : ∃ r : Nat, r = u2 % y1 := ⟨_, rfl⟩
      rw [← eg2, ← er2] at K2
      have wg2 : (u2 : Int) / (y1 : Int) = (g2 : Int) := by rw [quo_cast, ← eg2]
      have hr2l : r2 < 4294967296 := by rw [er2]; have := Nat.mod_lt u2 (show 0 < y1 by omega); omega
      have hg2b : g2 < 18446744073709551616 := by have := K2.le; omega
      have wm2 : IntKind.u64.wrap ((g2 : Int) * (y1 : Int)) = ((g2 * y1 : Nat) : Int) := wrapMul g2 y1 _ rfl (by have := K2.sum; omega)
      obtain ⟨gy2, egy2⟩ : ∃ t : Nat, t = g2 * y1 := ⟨_, rfl⟩
      rw [← egy2] at wm2
      have ws2 : (u2 : Int) - (gy2 : Int) = (r2 : Int) := by have := K2.sum; rw [← egy2] at this; omega
      obtain ⟨q0, eq0⟩ : ∃ q : Nat, q = (u2 * 4294967296 + d0) / yn := ⟨_, rfl⟩
      obtain ⟨hw1, hw2⟩ := M.kn_whole hynp EQ1.out EU2.out eq0
      obtain ⟨t1', et1⟩ : ∃ p : Nat, p = u2 * 4294967296 % 18446744073709551616 := ⟨_, rfl⟩
      obtain ⟨t2', et2⟩ : ∃ p : Nat, p = (t1' + d0) % 18446744073709551616 := ⟨_, rfl⟩
      obtain ⟨t3', et3⟩ : ∃ p : Nat, p = q0 * yn % 18446744073709551616 := ⟨_, rfl⟩
      obtain ⟨R2, eR2⟩ : ∃ p : Nat, p = R * 2 ^ s := ⟨_, rfl⟩
      have hR3 : R2 = (u2 * 4294967296 + d0) % yn := by
        rw [hw2, eR2, HR2.out, HVV.out]
      have ht1b : t1' < 18446744073709551616 := by omega
      have ht2b : t2' < 18446744073709551616 := by omega
      have ht3b : t3' < 18446744073709551616 := by omega
      have hR2b : R2 < 18446744073709551616 := by rw [hR3]; have := Nat.mod_lt (u2 * 4294967296 + d0) hynp; omega
      have wt1 : IntKind.u64.wrap ((u2 : Int) * 4294967296) = (t1' : Int) := wrapMulM u2 4294967296 t1' et1
      have wt2 : IntKind.u64.wrap ((t1' : Int) + (d0 : Int)) = (t2' : Int) := by rw [et2, ← wrapU, Int.natCast_add]
      have wt3 : IntKind.u64.wrap ((q0 : Int) * (yn : Int)) = (t3' : Int) := wrapMulM q0 yn t3' et3
      have wR2 : IntKind.u64.wrap ((t2' : Int) - (t3' : Int)) = (R2 : Int) := wrapSub t2' t3' R2 (rest_word u2 d0 q0 yn t1' t2' t3' R2 hyn hynp eq0 et1 et2 et3 hR3) (by omega)
      have wR : (R2 : Int) / 2 ^ s = (R : Int) := by rw [div_cast, eR2, Nat.mul_div_cancel _ (Nat.pow_pos (by omega))]
      obtain ⟨m1, em1⟩ : ∃ p : Nat, p = q1 * 4294967296 := ⟨_, rfl⟩
      have wm1' : (q1 : Int) * 4294967296 = (m1 : Int) := by omega
      have hm1b : m1 < 18446744073709551616 := by omega
      have hQ3 : Q = m1 + q0 := by rw [em1, hw1, HQ2.out, HVV.out]
      have wQ : (m1 : Int) + (q0 : Int) = (Q : Int) := by omega
      have hq0C : q0 < 4294967296 := by
        rw [eq0, Nat.div_lt_iff_lt_mul hynp]
        have h1 : (u2 + 1) * 4294967296 ≤ yn * 4294967296 := Nat.mul_le_mul_right _ hu2l
        rw [Nat.mul_comm 4294967296 yn]; omega
      have hQb : Q < 18446744073709551616 := by omega
      have hRb : R < 18446744073709551616 := by
        have h2 : R * 1 ≤ R * 2 ^ s := Nat.mul_le_mul_left _ (Nat.pow_pos (by omega))
        omega
      have HK2 := hid K2; have EQ0 := hid eq0
      clear K2 eq0 hw1 hw2 et1 et2 et3 eR2 hR3 em1 hQ3 ep1 ep2 ep3 eg2 er2 egy2
      go_upto_block 2 with fail
      go_cut [16, 18] (fun r q wc => q = .int .u64 (q0 : Int) ∧ (∃ r' : Nat, r = .int .u64 (r' : Int)) ∧ wc = wz)
      case first =>
        go_wp2_with fail
        go_loopw [16, 18] (fun r q wr => ∃ (g r0 : Nat), q = .int .u64 g ∧ r = .int .u64 r0 ∧ M.Kn 4294967296 u2 d0 y1 y0 yn g r0 ∧ r0 < 4294967296 ∧ wr = wz) (fun _ q _ => (intOf q).toNat)
        case atStart => exact ⟨g2, r2, rfl, rfl, HK2.out, hr2l, rfl⟩
        case round =>
          obtain ⟨g, r0, rfl, rfl, hK, hr0, rfl⟩ := hrel
          have hgb0 : g < 18446744073709551616 := by have := hK.le; omega
          by_cases hge : 4294967296 ≤ g
          · have hge' : (4294967296 : Int) ≤ (g : Int) := by omega
            obtain ⟨hg0, hK2⟩ := hK.down HYY.out hynp hu2l hd0 (Or.inl hge)
            obtain ⟨g', eg'⟩ : ∃ t : Nat, t = g - 1 := ⟨_, rfl⟩
            obtain ⟨r', er'⟩ : ∃ t : Nat, t = r0 + y1 := ⟨_, rfl⟩
            rw [← eg', ← er'] at hK2
            have wg' : (g : Int) - 1 = (g' : Int) := by omega
            have wr' : (r0 : Int) + (y1 : Int) = (r' : Int) := by omega
            have hgb : g' < 18446744073709551616 := by have := hK2.le; omega
            have hrb : r' < 18446744073709551616 := by omega
            have hgC : g' ≤ 4294967296 := by have := hK.le; omega
            have HG := hid eg'; have HR := hid er'
            clear eg' er'
            by_cases hw : 4294967296 ≤ r'
            · have hw' : (4294967296 : Int) ≤ (r' : Int) := by omega
              have hfin : g' = q0 := by rw [EQ0.out]; exact hK2.wide HYY.out hynp hy0 hgC hw
              have HF := hid hfin; have HK2 := hid hK2; clear hfin hK hK2
              go_wp2_with fail
              go_meet
              case rel => rw [HF.out]; exact ⟨rfl, ⟨r', rfl⟩, by first | rfl | trivial⟩
            · have hw' : ¬ (4294967296 : Int) ≤ (r' : Int) := by omega
              have HK2 := hid hK2; clear hK hK2
              go_wp2_with fail
              go_roundw
              case rel =>
                first | exact ⟨g', r', rfl, rfl, HK2.out, by omega, by first | rfl | trivial⟩ | (refine ⟨g', r', rfl, rfl, HK2.out, by omega, ?_⟩; trace_state; rfl)
              case measure => simp [intOf]; have := HG.out; omega
          · have hge' : ¬ (4294967296 : Int) ≤ (g : Int) := by omega
            obtain ⟨p, ep⟩ : ∃ t : Nat, t = g * y0 := ⟨_, rfl⟩
            obtain ⟨c0, ec0⟩ : ∃ t : Nat, t = 4294967296 * r0 := ⟨_, rfl⟩
            obtain ⟨t0', et0⟩ : ∃ t : Nat, t = c0 + d0 := ⟨_, rfl⟩
            have hpb : p < 18446744073709551616 := by
              rw [ep]; exact Nat.lt_of_le_of_lt (Nat.mul_le_mul (show g ≤ 4294967295 by omega) (show y0 ≤ 4294967295 by omega)) (by omega)
            have wp : IntKind.u64.wrap ((g : Int) * (y0 : Int)) = (p : Int) := wrapMul g y0 p ep hpb
            have wc0 : (4294967296 : Int) * (r0 : Int) = (c0 : Int) := by omega
            have wt0 : (c0 : Int) + (d0 : Int) = (t0' : Int) := by omega
            have hc0b : c0 < 18446744073709551616 := by omega
            have ht0b : t0' < 18446744073709551616 := by omega
            have hlt1 : 4294967296 * r0 + d0 = t0' := by omega
            have EP := hid ep; have EC := hid ec0; have ET := hid et0
            by_cases htp : t0' < p
            · have htp' : (t0' : Int) < (p : Int) := by omega
              have hlt : 4294967296 * r0 + d0 < g * y0 := by rw [hlt1, ← ep]; exact htp
              clear ep ec0 et0 hlt1
              obtain ⟨hg0, hK2⟩ := hK.down HYY.out hynp hu2l hd0 (Or.inr hlt)
              obtain ⟨g', eg'⟩ : ∃ t : Nat, t = g - 1 := ⟨_, rfl⟩
              obtain ⟨r', er'⟩ : ∃ t : Nat, t = r0 + y1 := ⟨_, rfl⟩
              rw [← eg', ← er'] at hK2
              have wg' : (g : Int) - 1 = (g' : Int) := by omega
              have wr' : (r0 : Int) + (y1 : Int) = (r' : Int) := by omega
              have hgb : g' < 18446744073709551616 := by have := hK2.le; omega
              have hrb : r' < 18446744073709551616 := by omega
              have hgC : g' ≤ 4294967296 := by have := hK.le; omega
              have HG := hid eg'; have HR := hid er'
              clear eg' er'
              by_cases hw : 4294967296 ≤ r'
              · have hw' : (4294967296 : Int) ≤ (r' : Int) := by omega
                have hfin : g' = q0 := by rw [EQ0.out]; exact hK2.wide HYY.out hynp hy0 hgC hw
                have HF := hid hfin; have HK2 := hid hK2; clear hfin hK hK2
                go_wp2_with fail
                go_meet
                case rel => rw [HF.out]; exact ⟨rfl, ⟨r', rfl⟩, by first | rfl | trivial⟩
              · have hw' : ¬ (4294967296 : Int) ≤ (r' : Int) := by omega
                have HK2 := hid hK2; clear hK hK2
                go_wp2_with fail
                go_roundw
                case rel =>
                  first | exact ⟨g', r', rfl, rfl, HK2.out, by omega, by first | rfl | trivial⟩ | (refine ⟨g', r', rfl, rfl, HK2.out, by omega, ?_⟩; trace_state; rfl)
                case measure => simp [intOf]; have := HG.out; omega
            · have htp' : ¬ (t0' : Int) < (p : Int) := by omega
              have hfin : g = q0 := by rw [EQ0.out]; exact hK.stop HYY.out hynp (by rw [hlt1, ← ep]; omega)
              have HF := hid hfin; clear hfin hK ep ec0 et0 hlt1
              go_wp2_with fail
              go_meet
              case rel => rw [HF.out]; exact ⟨rfl, ⟨r0, rfl⟩, by first | rfl | trivial⟩
      case rest =>
        obtain ⟨rfl, ⟨rz2, rfl⟩, rfl⟩ := hcut
        go_wp2_with fail
        go_ret2
        exact ⟨rfl, 0, rfl⟩

end Go.Proofs.YtehplfmnipadmafDoor

namespace Go.Proofs.YtehplfmnipadmafDoor

open Go.RowKit

set_option linter.unusedVariables false
set_option maxRecDepth 100000

theorem M.limb_step {T' T r x q r' d : Nat} {B : Nat} (h : T' * d + r = T) (hq : q * d + r' = r * B + x) : (q + B * T') * d + r' = x + B * T := by
  rw [← h, Nat.add_mul, Nat.mul_add, Nat.mul_assoc, Nat.mul_comm B r]
  omega

theorem M.drop_take_set (cur : List Nat) (N k x : Nat) (hk : k < N) (hl : N ≤ cur.length) : V (((cur.set k x).take N).drop k) = x + 18446744073709551616 * V ((cur.take N).drop (k + 1)) := by
  rw [List.take_set, V_drop _ _ (by simp; omega), M.getD_set_eq _ _ _ (by simp; omega), List.drop_set_of_lt (by omega)]

set_option maxHeartbeats 1000000 in
theorem divLimbIn_any (g N cap d : Nat) (ao : Option Addr) (zs : List Nat) (w : World) (hao : 0 < N → ao = some ⟨g, 0, none⟩) (hB : Blk w g zs) (hz : F64 zs) (ho : N ≤ zs.length) (hN : N ≤ 4194304) (hd : 0 < d) (hdb : d < 18446744073709551616) :
    Calls Tryd.prog 92 #[.slice ao N cap, .int .u64 (d : Int)] w fun e w' => e = .returned (.int .u64 ((V (zs.take N) % d : Nat) : Int)) ∧ w.grownBy w' (some g) ∧ ∃ cur, Blk w' g cur ∧ M.Wrote 18446744073709551616 zs 0 N cur ∧ V (cur.take N) = V (zs.take N) / d := by
  go_enter Tryd.func92, Tryd.ntmps92
  go_wp2_with fail
  go_loopw [5, 6] (fun rs i wr => ∃ (k : Nat) (cur : List Nat) (r : Nat), k ≤ N ∧ i = .int .i64 ((k : Int) - 1) ∧ rs = .int .u64 (r : Int) ∧ r < d ∧ Blk wr g cur ∧ M.Wrote 18446744073709551616 zs 0 N cur ∧ w.grownBy wr (some g) ∧ (∀ j, j < k → cur.getD j 0 = zs.getD j 0) ∧ V ((cur.take N).drop k) * d + r = V ((zs.take N).drop k)) (fun _ i _ => (intOf i + 1).toNat)
  case atStart =>
    refine ⟨N, zs, 0, by omega, by go_num, rfl, hd, hB, M.Wrote.refl hz _ _, World.grownBy.refl _ _, fun _ _ => rfl, ?_⟩
    rw [List.drop_of_length_le (by rw [List.length_take]; omega)]; simp [V, M.val]
  case round =>
    obtain ⟨k, cur, r, hk, rfl, rfl, hrd, hBk, hW, hg, hlow, hv⟩ := hrel
    have HV := hid hv; clear hv
    have HL := hid hlow; clear hlow
    by_cases hlt : 0 < k
    · obtain ⟨k, rfl⟩ : ∃ k', k = k' + 1 := ⟨k - 1, by omega⟩
      have e1 : (((k + 1 : Nat) : Int) - 1) = (k : Int) := by omega
      rw [e1]
      have hao' := hao (by omega)
      have hcs := hBk.cell k (by have := hW.len; omega)
      have hfs := hBk.frozen k
      rw [HL.out k (by omega)] at hcs
      have hx1 : zs.getD k 0 < 18446744073709551616 := F64.get hz k
      obtain ⟨x, hxx⟩ : ∃ x : Nat, x = zs.getD k 0 := ⟨_, rfl⟩
      rw [← hxx] at hcs hx1
      have HX := hid hxx; clear hxx
      have hge : (0 : Int) ≤ (k : Int) := by omega
      have hlt2 : (k : Int) < (N : Int) := by omega
      obtain ⟨Q, hQ⟩ : ∃ Q, Q = (r * 18446744073709551616 + x) / d := ⟨_, rfl⟩
      obtain ⟨R, hR⟩ : ∃ R, R = (r * 18446744073709551616 + x) % d := ⟨_, rfl⟩
      have hRd : R < d := by rw [hR]; exact Nat.mod_lt _ hd
      have hsum : Q * d + R = r * 18446744073709551616 + x := by rw [hQ, hR, Nat.mul_comm]; exact Nat.div_add_mod _ _
      have hQb : Q < 18446744073709551616 := by
        rw [hQ, Nat.div_lt_iff_lt_mul hd]
        have h1 : (r + 1) * 18446744073709551616 ≤ d * 18446744073709551616 := Nat.mul_le_mul_right _ hrd
        rw [Nat.mul_comm 18446744073709551616 d]; omega
      have EQ := hid hQ; have ER := hid hR; have ES := hid hsum
      clear hQ hR hsum
      have HB := hid hBk; clear hBk
      have HG := hid hg; clear hg
      go_wp2_with fail
      refine (div64_any r x d _ hx1 hdb hrd Q R EQ.out ER.out).mono ?_
      rintro e v1 ⟨rfl, q1, hv1⟩
      have hcs1 : v1.cell? ⟨g, k, none⟩ = some (.int .u64 (x : Int)) := by rw [hv1]; exact hcs
      have hfs1 : v1.frozen? ⟨g, k, none⟩ = false := by rw [hv1]; exact hfs
      have hB1 : Blk v1 g cur := by rw [hv1]; exact HB.out.drewN _
      have hg1 : w.grownBy v1 (some g) := by rw [hv1]; exact grown_trans HG.out (grown_drewN _ _ _)
      clear hv1 hcs hfs
      have HB1 := hid hB1; have HG1 := hid hg1
      clear hB1 hg1
      go_wp2_with fail
      have hW3 := hW.set k Q (by omega) hQb
      rw [Nat.zero_add] at hW3
      go_roundw
      case rel =>
        have R : ∃ (k1 : Nat) (cur1 : List Nat) (r1 : Nat), k1 ≤ N ∧ Value.int .i64 ((k : Int) - 1) = .int .i64 ((k1 : Int) - 1) ∧ Value.int .u64 (R : Int) = .int .u64 (r1 : Int) ∧ r1 < d ∧ Blk (v1.setCell ⟨g, k, none⟩ (.int .u64 (Q : Int))) g cur1 ∧ M.Wrote 18446744073709551616 zs 0 N cur1 ∧ w.grownBy (v1.setCell ⟨g, k, none⟩ (.int .u64 (Q : Int))) (some g) ∧ (∀ j, j < k1 → cur1.getD j 0 = zs.getD j 0) ∧ V ((cur1.take N).drop k1) * d + r1 = V ((zs.take N).drop k1) := by
          refine ⟨k, cur.set k Q, R, by omega, rfl, rfl, hRd, HB1.out.set _ _ _ rfl, hW3, grown_trans HG1.out (grown_setCell _ _ _ _), fun j hj => ?_, ?_⟩
          · rw [M.getD_set_ne _ _ _ _ (by omega)]; exact HL.out j (by omega)
          · rw [M.drop_take_set _ _ _ _ (by omega) (by have := hW.len; omega), V_drop (zs.take N) k (by simp; omega)]
            have e2 : (zs.take N).getD k 0 = x := by rw [HX.out]; simp [List.getD_eq_getElem?_getD, List.getElem?_take]; rw [if_pos (by omega)]
            rw [e2]
            exact M.limb_step HV.out ES.out
        first | exact R | ((repeat apply Exists.intro); exact ⟨R, rfl⟩) | ((repeat apply Exists.intro); exact ⟨R, by rw [hao']⟩)
      case measure => simp [intOf] <;> omega
    · have e : k = 0 := by omega
      subst e
      have HBk := hid hBk; clear hBk
      have HG := hid hg; clear hg
      have hge : ¬ (0 : Int) ≤ ((0 : Nat) : Int) - 1 := by omega
      go_wp2_with fail
      go_ret
      have h1 := HV.out
      simp only [List.drop_zero] at h1
      have h2 : V (zs.take N) % d = r := by rw [← h1, Nat.mul_comm, Nat.mul_add_mod, Nat.mod_eq_of_lt hrd]
      have h3 : V (zs.take N) / d = V (cur.take N) := by rw [← h1, Nat.mul_comm, Nat.mul_add_div hd, Nat.div_eq_of_lt hrd, Nat.add_zero]
      have h4 : ((V (zs.take N) : Nat) : Int) % (d : Int) = (r : Int) := by rw [← Int.natCast_emod, h2]
      exact ⟨by rw [h4]; rfl, HG.out, cur, HBk.out, hW, h3.symm⟩

end Go.Proofs.YtehplfmnipadmafDoor

namespace Go.Proofs.YtehplfmnipadmafDoor

open Go.RowKit

set_option linter.unusedVariables false
set_option maxRecDepth 100000

set_option maxHeartbeats 1000000 in
theorem mul64_any (x y : Nat) (w : World) (hx : x < 18446744073709551616) (hy : y < 18446744073709551616) (h l : Nat) (hh : h = x * y / 18446744073709551616) (hl : l = x * y % 18446744073709551616) :
    Calls Tryd.prog 101 #[.int .u64 (x : Int), .int .u64 (y : Int)] w fun e w' => e = .returned (.tuple #[.int .u64 (h : Int), .int .u64 (l : Int)]) ∧ w' = w := by
  subst hh hl
  obtain ⟨bd, bt, bw, hhi⟩ := Lib.mul64_hi x y hx hy
  have ba := Lib.half_mul_le (a := x / 4294967296) (b := y / 4294967296) (by omega) (by omega)
  have bb := Lib.half_mul_le (a := x / 4294967296) (b := y % 4294967296) (by omega) (by omega)
  have bc := Lib.half_mul_le (a := x % 4294967296) (b := y / 4294967296) (by omega) (by omega)
  have ba' : x / 4294967296 * (y / 4294967296) < 18446744073709551616 := by omega
  have bb' : x / 4294967296 * (y % 4294967296) < 18446744073709551616 := by omega
  have bc' : x % 4294967296 * (y / 4294967296) < 18446744073709551616 := by omega
  have bh1 : x / 4294967296 * (y / 4294967296) + (x / 4294967296 * (y % 4294967296) + x % 4294967296 * (y % 4294967296) / 4294967296) / 4294967296 < 18446744073709551616 := by omega
  have bh : x / 4294967296 * (y / 4294967296) + (x / 4294967296 * (y % 4294967296) + x % 4294967296 * (y % 4294967296) / 4294967296) / 4294967296 + ((x / 4294967296 * (y % 4294967296) + x % 4294967296 * (y % 4294967296) / 4294967296) % 4294967296 + x % 4294967296 * (y / 4294967296)) / 4294967296 < 18446744073709551616 := by omega
  go_enter Tryd.func101, Tryd.ntmps101
  go_wp2
  simp only [Mul64.maskN x hx, Mul64.maskN y hy, Mul64.divN, Mul64.mulN, Mul64.addN, Mul64.wrapN _ bd, Mul64.wrapN _ bb', Mul64.wrapN _ bt, Mul64.maskN _ bt, Mul64.wrapN _ bc', Mul64.wrapN _ bw, Mul64.wrapN _ ba', Mul64.wrapN _ bh1, Mul64.wrapN _ bh, Mul64.wrapM (x * y)]
  rw [hhi]
  go_ret2
  exact ⟨rfl, rfl⟩

theorem wrapU_in (x y p : Nat) (hp : p = x + y) (hb : p < 18446744073709551616) : IntKind.u64.wrap ((x : Int) + (y : Int)) = (p : Int) :=
  wrapU2 x y p (by omega)

end Go.Proofs.YtehplfmnipadmafDoor

namespace Go.Proofs.YtehplfmnipadmafDoor

open Go.RowKit

set_option linter.unusedVariables false
set_option maxRecDepth 100000

/-- One place of 'take f times ys away'. -/
theorem M.less_place (x y f c p : Nat) (hp : p = y * f) (hx : x < 18446744073709551616) (hy : y < 18446744073709551616) (hf : f < 18446744073709551616) (hc : c < 18446744073709551616) :
    ∃ l2 r1 h2 o r2 c' : Nat, l2 = (p % 18446744073709551616 + c) % 18446744073709551616 ∧ r1 = (if (l2 : Int) < (c : Int) then 1 else 0) ∧ h2 = p / 18446744073709551616 + r1 ∧ h2 < 18446744073709551616 ∧
      o = (x + 18446744073709551616 - l2) % 18446744073709551616 ∧ r2 = (if (x : Int) < (l2 : Int) then 1 else 0) ∧ c' = h2 + r2 ∧ c' < 18446744073709551616 ∧ o < 18446744073709551616 ∧ l2 < 18446744073709551616 ∧ o + p + c = x + 18446744073709551616 * c' := by
  have hb : p ≤ 18446744073709551615 * 18446744073709551615 := by rw [hp]; exact Nat.mul_le_mul (by omega) (by omega)
  refine ⟨_, _, _, _, _, _, rfl, rfl, rfl, ?_, rfl, rfl, rfl, ?_, ?_, ?_, ?_⟩
  · split <;> omega
  · split <;> split <;> omega
  · omega
  · omega
  · split <;> split <;> omega

theorem M.less_over {V V' V0 T c c' P B x y o f : Nat} (h : V + f * T = V0 + c * P) (hv : V' + P * x = V + P * o) (hs : o + y * f + c = x + B * c') : V' + f * (T + P * y) = V0 + c' * (P * B) := by
  have e : P * (o + y * f + c) = P * (x + B * c') := by rw [hs]
  simp only [Nat.mul_add] at e ⊢
  rw [Nat.mul_comm c' (P * B), Nat.mul_assoc]
  rw [Nat.mul_comm c P] at h
  have e2 : f * (P * y) = P * (y * f) := by rw [Nat.mul_comm f, Nat.mul_assoc]
  rw [e2]
  omega

/-- What subTimesIn leaves. -/
def LessPost (w w' : World) (g : Nat) (zs : List Nat) (off N : Nat) (t : Nat) (c : Nat) : Prop :=
  w.grownBy w' (some g) ∧ c < 18446744073709551616 ∧ ∃ cur, Blk w' g cur ∧ M.Wrote 18446744073709551616 zs off N cur ∧ V (M.seg cur off N) + t = V (M.seg zs off N) + c * 18446744073709551616 ^ N

set_option maxHeartbeats 1000000 in
theorem subTimesIn_any (g off N cap : Nat) (ao bo : Option Addr) (d f : Nat) (zs ys : List Nat) (w : World) (hao : 0 < N → ao = some ⟨g, off, none⟩) (hB : Blk w g zs) (hz : F64 zs) (ho : off + N ≤ zs.length) (hN : N ≤ 4194304) (hm : ys.length = N) (hy : F64 ys) (hf : f < 18446744073709551616) (hr : Rd w bo ys) (hsep : 0 < ys.length → ∀ b2 o2, bo = some ⟨b2, o2, none⟩ → b2 ≠ g) :
    Calls Tryd.prog 102 #[.slice ao N cap, .slice bo N d, .int .u64 (f : Int)] w fun e w' => ∃ c : Nat, e = .returned (.int .u64 (c : Int)) ∧ LessPost w w' g zs off N (f * V ys) c := by
  go_enter Tryd.func102, Tryd.ntmps102
  go_wp2_with fail
  go_loopw [7, 14] (fun cy i wr => ∃ (k : Nat) (cur : List Nat) (c : Nat), k ≤ N ∧ i = .int .i64 k ∧ cy = .int .u64 c ∧ c < 18446744073709551616 ∧ Blk wr g cur ∧ M.Wrote 18446744073709551616 zs off N cur ∧ w.grownBy wr (some g) ∧ V (M.seg cur off N) + f * V (ys.take k) = V (M.seg zs off N) + c * 18446744073709551616 ^ k) (fun _ i _ => N - (intOf i).toNat)
  case atStart => exact ⟨0, zs, 0, by omega, rfl, rfl, by omega, hB, M.Wrote.refl hz _ _, World.grownBy.refl _ _, by simp [V, M.val]⟩
  case round =>
    obtain ⟨k, cur, c, hk, rfl, rfl, hc, hBk, hW, hg, hv⟩ := hrel
    have HV := hid hv; clear hv
    by_cases hlt : k < N
    · have hao' := hao (by omega)
      obtain ⟨b2, o2, hbo, hcl⟩ := hr (by omega)
      have hck : wr.cell? ⟨b2, o2 + k, none⟩ = some (.int .u64 ((ys.getD k 0 : Nat) : Int)) := hg.cell (hcl k (by omega)) (by simpa using hsep (by omega) b2 o2 hbo)
      clear hcl
      have hy1 := hy.get k
      obtain ⟨y, hyy⟩ : ∃ y : Nat, y = ys.getD k 0 := ⟨_, rfl⟩
      rw [← hyy] at hck hy1
      have HY := hid hyy; clear hyy
      have hca := hBk.cell (off + k) (by have := hW.len; omega)
      have hfa := hBk.frozen (off + k)
      have hx1 : cur.getD (off + k) 0 < 18446744073709551616 := M.getD_lt (by omega) hW.lt _
      obtain ⟨x, hxx⟩ : ∃ x : Nat, x = cur.getD (off + k) 0 := ⟨_, rfl⟩
      rw [← hxx] at hca hx1
      have HX := hid hxx; clear hxx
      have hlt' : (k : Int) < (N : Int) := by omega
      have HB := hid hBk; clear hBk
      have HG := hid hg; clear hg
      obtain ⟨l2, r1, h2, o, r2, c', el2, er1, eh2, bh2, eo, er2, ec', bc', bo', bl2, hs⟩ := M.less_place x y f c (y * f) rfl hx1 hy1 hf hc
      obtain ⟨hi, ehi⟩ : ∃ h : Nat, h = y * f / 18446744073709551616 := ⟨_, rfl⟩
      obtain ⟨lo, elo⟩ : ∃ h : Nat, h = y * f % 18446744073709551616 := ⟨_, rfl⟩
      rw [← elo] at el2
      rw [← ehi] at eh2
      have w1 := wrapU2 lo c l2 el2
      have w2 := wrapU_in hi r1 h2 eh2 bh2
      have w3 := wrapSub x l2 o eo (by omega)
      have w4 := wrapU_in h2 r2 c' ec' bc'
      have E1 := hid ehi; have E2 := hid elo; have E3 := hid er1; have E4 := hid er2; have E5 := hid hs; have E6 := hid bc'; have E7 := hid bo'
      clear ehi elo er1 er2 hs bc' bo' el2 eh2 bh2 eo ec'
      go_wp2_with fail
      refine (mul64_any y f _ hy1 hf hi lo E1.out E2.out).mono ?_
      rintro e v1 ⟨rfl, rfl⟩
      go_wp2_with fail
      refine (less_any _ _ _ r1 E3.out).mono ?_
      rintro e v2 ⟨rfl, rfl⟩
      go_wp2_with fail
      refine (less_any _ _ _ r2 E4.out).mono ?_
      rintro e w3' ⟨rfl, rfl⟩
      go_wp2_with fail
      have hW3 := hW.set k o (by omega) E7.out
      go_roundw
      case rel =>
        have R : ∃ (k1 : Nat) (cur1 : List Nat) (c1 : Nat), k1 ≤ N ∧ Value.int .i64 ((k : Int) + 1) = .int .i64 k1 ∧ Value.int .u64 (c' : Int) = .int .u64 c1 ∧ c1 < 18446744073709551616 ∧ Blk (w3'.setCell ⟨g, off + k, none⟩ (.int .u64 (o : Int))) g cur1 ∧ M.Wrote 18446744073709551616 zs off N cur1 ∧ w.grownBy (w3'.setCell ⟨g, off + k, none⟩ (.int .u64 (o : Int))) (some g) ∧ V (M.seg cur1 off N) + f * V (ys.take k1) = V (M.seg zs off N) + c1 * 18446744073709551616 ^ k1 := by
          refine ⟨k + 1, cur.set (off + k) o, c', by omega, by go_num, rfl, E6.out, HB.out.set _ _ _ rfl, hW3, grown_trans HG.out (grown_setCell _ _ _ _), ?_⟩
          unfold V
          rw [M.val_take_succ, ← HY.out, Nat.pow_succ]
          have h2 := M.val_seg_set 18446744073709551616 cur off N k o (by omega) (by have := hW.len; omega)
          rw [← HX.out] at h2
          exact M.less_over HV.out h2 E5.out
        first | exact R | ((repeat apply Exists.intro); exact ⟨R, rfl⟩) | ((repeat apply Exists.intro); exact ⟨R, by rw [hao', hbo]⟩)
      case measure => simp [intOf]; omega
    · have e : k = N := by omega
      subst e
      have HBk := hid hBk; clear hBk
      have HG := hid hg; clear hg
      go_wp2_with fail
      go_ret
      refine ⟨c, rfl, HG.out, hc, cur, HBk.out, hW, ?_⟩
      have := HV.out
      rwa [List.take_of_length_le (by omega)] at this

/-- The estimate of a place: the guess and what is left (as a number of any size). -/
theorem M.est_ge {hi lo top q g : Nat} (ht : 0 < top) (hg : g = (hi * 18446744073709551616 + lo) / top) (h : q * top ≤ hi * 18446744073709551616 + lo) : q ≤ g := by
  rw [hg]; exact (Nat.le_div_iff_mul_le ht).2 h

def estG (hi lo top : Nat) : Nat := if hi < top then (hi * 18446744073709551616 + lo) / top else 18446744073709551615

def estL (hi lo top : Nat) : Nat := if hi < top then (hi * 18446744073709551616 + lo) % top else lo + top

theorem est_facts (hi lo top : Nat) (hlo : lo < 18446744073709551616) (htb : top < 18446744073709551616) (ht : 9223372036854775808 ≤ top) (hht : hi ≤ top) :
    estG hi lo top * top + estL hi lo top = hi * 18446744073709551616 + lo ∧ estG hi lo top < 18446744073709551616 ∧ estL hi lo top < 2 * 18446744073709551616 ∧ ∀ q, q < 18446744073709551616 → q * top ≤ hi * 18446744073709551616 + lo → q ≤ estG hi lo top := by
  unfold estG estL
  split
  · next h =>
    refine ⟨by rw [Nat.mul_comm]; exact Nat.div_add_mod _ _, ?_, by have := Nat.mod_lt (hi * 18446744073709551616 + lo) (show 0 < top by omega); omega, fun q _ h => M.est_ge (by omega) rfl h⟩
    rw [Nat.div_lt_iff_lt_mul (by omega)]
    have h1 : (hi + 1) * 18446744073709551616 ≤ top * 18446744073709551616 := Nat.mul_le_mul_right _ h
    rw [Nat.mul_comm 18446744073709551616 top]; omega
  · next h =>
    have e : hi = top := by omega
    subst e
    exact ⟨by omega, by omega, by omega, fun q h _ => by omega⟩

set_option maxHeartbeats 1000000 in
theorem estimate_any (hi lo top : Nat) (w : World) (hlo : lo < 18446744073709551616) (htb : top < 18446744073709551616) (ht : 9223372036854775808 ≤ top) (hht : hi ≤ top) (g l' : Nat) (sm : Bool) (hg : g = estG hi lo top) (hl' : l' = estL hi lo top % 18446744073709551616) (hsm : sm = decide (estL hi lo top < 18446744073709551616)) :
    Calls Tryd.prog 100 #[.int .u64 (hi : Int), .int .u64 (lo : Int), .int .u64 (top : Int)] w fun e w' => e = .returned (.tuple #[.int .u64 (g : Int), .int .u64 (l' : Int), .bool sm]) ∧ ∃ q, w' = w.drewN q := by
  by_cases hlt : hi < top
  · have hlt' : ¬ (top : Int) ≤ (hi : Int) := by omega
    have hQ : g = (hi * 18446744073709551616 + lo) / top := by rw [hg]; unfold estG; rw [if_pos hlt]
    have hR0 : estL hi lo top = (hi * 18446744073709551616 + lo) % top := by unfold estL; rw [if_pos hlt]
    have hRt := Nat.mod_lt (hi * 18446744073709551616 + lo) (show 0 < top by omega)
    rw [← hR0] at hRt
    rw [Nat.mod_eq_of_lt (by omega), hR0] at hl'
    have hsm' : sm = true := by rw [hsm]; exact decide_eq_true (by omega)
    rw [hsm']
    have EQ := hid hQ; have ER := hid hl'
    clear hQ hR0 hRt hl' hsm hsm' hg
    go_enter Tryd.func100, Tryd.ntmps100
    go_wp2_with fail
    refine (div64_any hi lo top _ hlo htb hlt g l' EQ.out ER.out).mono ?_
    rintro e w1 ⟨rfl, q1, rfl⟩
    go_wp2_with fail
    go_ret3
    exact ⟨rfl, _, rfl⟩
  · have e : hi = top := by omega
    subst e
    have hlt' : (hi : Int) ≤ (hi : Int) := by omega
    have hg' : g = 18446744073709551615 := by rw [hg]; unfold estG; rw [if_neg hlt]
    have hl0 : estL hi lo hi = lo + hi := by unfold estL; rw [if_neg hlt]
    rw [hl0] at hl' hsm
    rw [hg']
    have hmod : ((lo : Int) + (hi : Int)) % 18446744073709551616 = (l' : Int) := by omega
    have e1 : sm = decide ((hi : Int) ≤ ((lo : Int) + (hi : Int)) % 18446744073709551616) := by
      rw [hsm]; congr 1; apply propext; omega
    have HM := hid hmod; have E1 := hid e1
    clear hg hg' hl0 hl' hsm hmod e1
    go_enter Tryd.func100, Tryd.ntmps100
    go_wp2_with fail
    go_ret3
    refine ⟨?_, 0, rfl⟩
    rw [E1.out, ← HM.out]
    rfl

end Go.Proofs.YtehplfmnipadmafDoor

namespace Go.Proofs.YtehplfmnipadmafDoor

open Go.RowKit

set_option linter.unusedVariables false
set_option maxRecDepth 100000

/-- What addIn leaves: the view holds the sum but for a carry beyond it. -/
def AddInPost (w w' : World) (g : Nat) (zs : List Nat) (off N : Nat) (t : Nat) : Prop :=
  w.grownBy w' (some g) ∧ ∃ cur c, Blk w' g cur ∧ M.Wrote 18446744073709551616 zs off N cur ∧ c ≤ 1 ∧ V (M.seg cur off N) + c * 18446744073709551616 ^ N = V (M.seg zs off N) + t

set_option maxHeartbeats 400000 in
theorem addIn_any (g off N cap : Nat) (bo : Option Addr) (m d : Nat) (zs ys : List Nat) (w : World) (hB : Blk w g zs) (hz : F64 zs) (ho : off + N ≤ zs.length) (hN : N ≤ 4194304) (hm : ys.length = m) (hmN : m ≤ N) (hy : F64 ys) (hr : Rd w bo ys) (hsep : 0 < ys.length → ∀ b2 o2, bo = some ⟨b2, o2, none⟩ → b2 ≠ g) :
    Calls Tryd.prog 103 #[.slice (some ⟨g, off, none⟩) N cap, .slice bo m d] w fun e w' => e = .returned (.tuple #[]) ∧ AddInPost w w' g zs off N (V ys) := by
  go_enter Tryd.func103, Tryd.ntmps103
  go_wp2_with fail
  go_loopw [4, 11] (fun cy i wr => ∃ (k : Nat) (cur : List Nat) (c : Nat), k ≤ m ∧ i = .int .i64 k ∧ cy = .int .u64 c ∧ c ≤ 1 ∧ Blk wr g cur ∧ M.Wrote 18446744073709551616 zs off N cur ∧ w.grownBy wr (some g) ∧ V (M.seg cur off N) + c * 18446744073709551616 ^ k = V (M.seg zs off N) + V (ys.take k)) (fun _ i _ => m - (intOf i).toNat)
  case atStart => exact ⟨0, zs, 0, by omega, rfl, rfl, by omega, hB, M.Wrote.refl hz _ _, World.grownBy.refl _ _, by simp [V, M.val]⟩
  case round =>
    obtain ⟨k, cur, c, hk, rfl, rfl, hc, hBk, hW, hg, hv⟩ := hrel
    have HV := hid hv; clear hv
    by_cases hlt : k < m
    · obtain ⟨b2, o2, hbo, hcl⟩ := hr (by omega)
      have hck : wr.cell? ⟨b2, o2 + k, none⟩ = some (.int .u64 ((ys.getD k 0 : Nat) : Int)) := hg.cell (hcl k (by omega)) (by simpa using hsep (by omega) b2 o2 hbo)
      clear hcl
      have hy1 := hy.get k
      obtain ⟨y, hyy⟩ : ∃ y : Nat, y = ys.getD k 0 := ⟨_, rfl⟩
      rw [← hyy] at hck hy1
      have HY := hid hyy; clear hyy
      have hca := hBk.cell (off + k) (by have := hW.len; omega)
      have hfa := hBk.frozen (off + k)
      have hx1 : cur.getD (off + k) 0 < 18446744073709551616 := M.getD_lt (by omega) hW.lt _
      obtain ⟨x, hxx⟩ : ∃ x : Nat, x = cur.getD (off + k) 0 := ⟨_, rfl⟩
      rw [← hxx] at hca hx1
      have HX := hid hxx; clear hxx
      have hlt' : (k : Int) < (m : Int) := by omega
      have hlt2 : (k : Int) < (N : Int) := by omega
      have HB := hid hBk; clear hBk
      have HG := hid hg; clear hg
      obtain ⟨p, hp⟩ : ∃ p : Nat, p = (x + y) % 18446744073709551616 := ⟨_, rfl⟩
      have hwp := wrapU2 x y p hp
      obtain ⟨o, hoo⟩ : ∃ o : Nat, o = (p + c) % 18446744073709551616 := ⟨_, rfl⟩
      have hwo := wrapU2 p c o hoo
      obtain ⟨r1, hr1⟩ : ∃ r : Nat, r = if (p : Int) < (y : Int) then 1 else 0 := ⟨_, rfl⟩
      obtain ⟨r2, hr2⟩ : ∃ r : Nat, r = if (o : Int) < (c : Int) then 1 else 0 := ⟨_, rfl⟩
      have hsum : o + 18446744073709551616 * (r1 + r2) = x + y + c ∧ r1 + r2 ≤ 1 ∧ o < 18446744073709551616 := by
        split at hr1 <;> split at hr2 <;> omega
      have hle1 : r1 ≤ 1 := by omega
      have hle2 : r2 ≤ 1 := by omega
      have HP := hid hp; clear hp
      have HO := hid hoo; clear hoo
      have HR1 := hid hr1; clear hr1
      have HR2 := hid hr2; clear hr2
      have HS := hid hsum; clear hsum
      go_wp2_with fail
      generalize hwy : wr.setCell ⟨g, off + k, none⟩ (.int .u64 (o : Int)) = wy
      have hBy : Blk wy g (cur.set (off + k) o) := by rw [← hwy]; exact HB.out.set _ _ _ rfl
      have hgy : w.grownBy wy (some g) := by rw [← hwy]; exact grown_trans HG.out (grown_setCell _ _ _ _)
      have hWy := hW.set k o (by omega) HS.out.2.2
      have hcy := hBy.cell (off + k) (by rw [List.length_set]; have := hW.len; omega)
      rw [M.getD_set_eq _ _ _ (by have := hW.len; omega)] at hcy
      have HBy := hid hBy; clear hBy
      have HGy := hid hgy; clear hgy
      clear hwy hca hfa hck
      go_quiet ((first | (go_at_call_of 82 p; exact Calls.quiet_of_same (less_any _ _ _ r1 HR1.out)) | (go_at_call_of 82 o; exact Calls.quiet_of_same (less_any _ _ _ r2 HR2.out))))
      go_wp2_with fail
      go_roundw
      case rel =>
        have R : ∃ (k1 : Nat) (cur1 : List Nat) (c1 : Nat), k1 ≤ m ∧ Value.int .i64 ((k : Int) + 1) = .int .i64 k1 ∧ Value.int .u64 ((r1 : Int) + (r2 : Int)) = .int .u64 c1 ∧ c1 ≤ 1 ∧ Blk (wy.drewN nq) g cur1 ∧ M.Wrote 18446744073709551616 zs off N cur1 ∧ w.grownBy (wy.drewN nq) (some g) ∧ V (M.seg cur1 off N) + c1 * 18446744073709551616 ^ k1 = V (M.seg zs off N) + V (ys.take k1) := by
          refine ⟨k + 1, cur.set (off + k) o, r1 + r2, by omega, by go_num, by go_num, HS.out.2.1, HBy.out.drewN _, hWy, grown_trans HGy.out (grown_drewN _ _ _), ?_⟩
          unfold V
          rw [M.val_take_succ, ← HY.out, Nat.pow_succ]
          have h2 := M.val_seg_set 18446744073709551616 cur off N k o (by omega) (by have := hW.len; omega)
          rw [← HX.out] at h2
          exact M.add_over HV.out h2 HS.out.1
        first | exact R | ((repeat apply Exists.intro); exact ⟨R, rfl⟩) | ((repeat apply Exists.intro); exact ⟨R, by rw [hbo]⟩)
      case measure => simp [intOf]; omega
    · have e : k = m := by omega
      subst e
      have hv : V (M.seg cur off N) + c * 18446744073709551616 ^ k = V (M.seg zs off N) + V ys := by
        have := HV.out
        rwa [List.take_of_length_le (by omega)] at this
      clear HV
      have HBk := hid hBk; clear hBk
      have HG := hid hg; clear hg
      have HV := hid hv; clear hv
      obtain ⟨wo, hwo⟩ : ∃ wo : World, wo = wr := ⟨_, rfl⟩
      rw [← hwo] at HBk HG ⊢
      clear hwo
      go_wp2_with fail
      go_loopw [4, 8] (fun cy i wr => ∃ (j : Nat) (cur : List Nat) (c : Nat), j ≤ N ∧ i = .int .i64 j ∧ cy = .int .u64 c ∧ c ≤ 1 ∧ Blk wr g cur ∧ M.Wrote 18446744073709551616 zs off N cur ∧ w.grownBy wr (some g) ∧ V (M.seg cur off N) + c * 18446744073709551616 ^ j = V (M.seg zs off N) + V ys) (fun _ i _ => N - (intOf i).toNat)
      case atStart => exact ⟨k, cur, c, by omega, rfl, rfl, hc, HBk.out, hW, HG.out, HV.out⟩
      case round =>
        clear HBk HG HV hW hc
        obtain ⟨j, cur2, c2, hj, rfl, rfl, hc, hBk, hW, hg, hv⟩ := hrel
        have HV := hid hv; clear hv
        by_cases hcc : c2 = 0
        · subst hcc
          have hgt : ¬ (0 : Int) < ((0 : Nat) : Int) := by omega
          have HBk := hid hBk; clear hBk
          have HG := hid hg; clear hg
          go_wp2_with fail
          go_end0
          refine ⟨rfl, HG.out, cur2, 0, HBk.out, hW, by omega, ?_⟩
          have := HV.out
          simpa using this
        · have hc1 : c2 = 1 := by omega
          have hc0 : (0 : Int) < (c2 : Int) := by omega
          have HC1 := hid hc1; clear hc1
          by_cases hlt : j < N
          · have hca := hBk.cell (off + j) (by have := hW.len; omega)
            have hfa := hBk.frozen (off + j)
            have hx1 : cur2.getD (off + j) 0 < 18446744073709551616 := M.getD_lt (by omega) hW.lt _
            obtain ⟨x, hxx⟩ : ∃ x : Nat, x = cur2.getD (off + j) 0 := ⟨_, rfl⟩
            rw [← hxx] at hca hx1
            have HX := hid hxx; clear hxx
            have hlt2 : (j : Int) < (N : Int) := by omega
            obtain ⟨o, hoo⟩ : ∃ o : Nat, o = (x + c2) % 18446744073709551616 := ⟨_, rfl⟩
            have hwo := wrapU2 x c2 o hoo
            obtain ⟨r2, hr2⟩ : ∃ r : Nat, r = if (o : Int) < (c2 : Int) then 1 else 0 := ⟨_, rfl⟩
            have hsum : o + 18446744073709551616 * r2 = x + 0 + c2 ∧ r2 ≤ 1 ∧ o < 18446744073709551616 := by
              split at hr2 <;> omega
            have HO := hid hoo; clear hoo
            have HR2 := hid hr2; clear hr2
            have HS := hid hsum; clear hsum
            have HB := hid hBk; clear hBk
            have HG := hid hg; clear hg
            go_wp2_with fail
            refine (less_any _ _ _ r2 HR2.out).mono ?_
            rintro e w3 ⟨rfl, hw3⟩
            have hB3 : Blk w3 g (cur2.set (off + j) o) := by rw [hw3]; exact HB.out.set _ _ _ rfl
            have hg3 : w.grownBy w3 (some g) := by rw [hw3]; exact grown_trans HG.out (grown_setCell _ _ _ _)
            have hW3 := hW.set j o (by omega) HS.out.2.2
            have HB3 := hid hB3; clear hB3
            have HG3 := hid hg3; clear hg3
            clear hw3 hca hfa
            go_wp2_with fail
            go_roundw
            case rel =>
              have R : ∃ (j1 : Nat) (cur1 : List Nat) (c1 : Nat), j1 ≤ N ∧ Value.int .i64 ((j : Int) + 1) = .int .i64 j1 ∧ Value.int .u64 (r2 : Int) = .int .u64 c1 ∧ c1 ≤ 1 ∧ Blk w3 g cur1 ∧ M.Wrote 18446744073709551616 zs off N cur1 ∧ w.grownBy w3 (some g) ∧ V (M.seg cur1 off N) + c1 * 18446744073709551616 ^ j1 = V (M.seg zs off N) + V ys := by
                refine ⟨j + 1, cur2.set (off + j) o, r2, by omega, by go_num, rfl, HS.out.2.1, HB3.out, hW3, HG3.out, ?_⟩
                unfold V
                rw [Nat.pow_succ]
                have h2 := M.val_seg_set 18446744073709551616 cur2 off N j o (by omega) (by have := hW.len; omega)
                rw [← HX.out] at h2
                exact M.add_over (y := 0) HV.out h2 HS.out.1
              first | exact R | ((repeat apply Exists.intro); exact ⟨R, rfl⟩)
            case measure => simp [intOf]; omega
          · have hlt2 : ¬ (j : Int) < (N : Int) := by omega
            have e : j = N := by omega
            subst e
            have HBk := hid hBk; clear hBk
            have HG := hid hg; clear hg
            go_wp2_with fail
            go_end0
            exact ⟨rfl, HG.out, cur2, c2, HBk.out, hW, by omega, HV.out⟩

end Go.Proofs.YtehplfmnipadmafDoor

