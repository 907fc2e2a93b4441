import Derived.Test.YtehplfmnipadmadDiv7
import Derived.Test.YtehplfmnipadmadW4
namespace Go.Proofs.Ytehplfmnipadmad
open Go.RowKit
set_option linter.unusedVariables false
set_option maxRecDepth 100000

/-- What the model's division hands back: two lists that can be read. -/
def RetM (w w' : World) (e : Ending) (q r : List Nat) : Prop :=
  ∃ ao ca bo cb, e = .returned (.tuple #[.slice ao q.length ca, .slice bo r.length cb]) ∧ Rd w' ao q ∧ Rd w' bo r ∧ Below w.heap.size w w'

/-- What holds ahead of the bit t - 1: qs is the quotient so far, R the rest. -/
structure BitI (a b t : Nat) (qs : List Nat) (R : Nat) : Prop where
  sum : a = b * X qs + R
  lt : R < b * 2 ^ t
  top : ∃ y, qs.getD (t / 32) 0 = y * 2 ^ (t % 32)
  low : ∀ j, j < t / 32 → qs.getD j 0 = 0

theorem BitI.le_a {a b t : Nat} {qs : List Nat} {R : Nat} (h : BitI a b t qs R) : R ≤ a := by have := h.sum; omega

theorem BitI.place {a b i : Nat} {qs : List Nat} {R : Nat} (h : BitI a b (i + 1) qs R) : (∃ y, qs.getD (i / 32) 0 = y * 2 ^ (i % 32 + 1)) ∧ ∀ j, j < i / 32 → qs.getD j 0 = 0 := by
  rcases Nat.lt_or_ge (i % 32) 31 with hp | hp
  · obtain ⟨y, hy⟩ := h.top
    rw [show (i + 1) / 32 = i / 32 by omega, show (i + 1) % 32 = i % 32 + 1 by omega] at hy
    exact ⟨⟨y, hy⟩, fun j hj => h.low j (by omega)⟩
  · exact ⟨⟨0, by rw [Nat.zero_mul]; exact h.low _ (by omega)⟩, fun j hj => h.low j (by omega)⟩

theorem BitI.skip {a b i : Nat} {qs : List Nat} {R : Nat} (h : BitI a b (i + 1) qs R) (hlt : R < b * 2 ^ i) : BitI a b i qs R := by
  obtain ⟨⟨y, hy⟩, hl⟩ := h.place
  exact ⟨h.sum, hlt, ⟨y * 2, by rw [hy, Nat.pow_succ, Nat.mul_assoc, Nat.mul_comm 2]⟩, hl⟩

/-- The word with its bit set. -/
theorem bit_word {x p : Nat} (hx : x < 4294967296) (hp : p < 32) (h : ∃ y, x = y * 2 ^ (p + 1)) : 2 ^ p ||| x = x + 2 ^ p ∧ x + 2 ^ p < 4294967296 := by
  obtain ⟨y, rfl⟩ := h
  have h1 : 2 ^ p < 2 ^ (p + 1) := Nat.pow_lt_pow_right (by omega) (by omega)
  constructor
  · rw [or_nat (2 ^ p) y (p + 1) h1, Nat.add_comm]
  · have hKP : 2 ^ (32 - (p + 1)) * 2 ^ (p + 1) = 4294967296 := by rw [← Nat.pow_add, show 32 - (p + 1) + (p + 1) = 32 by omega]
    have h2 : y < 2 ^ (32 - (p + 1)) := by
      have : y * 2 ^ (p + 1) < 2 ^ (32 - (p + 1)) * 2 ^ (p + 1) := by rw [hKP]; exact hx
      exact Nat.lt_of_mul_lt_mul_right this
    have h3 : (y + 1) * 2 ^ (p + 1) ≤ 2 ^ (32 - (p + 1)) * 2 ^ (p + 1) := Nat.mul_le_mul_right _ h2
    rw [hKP, Nat.add_mul] at h3
    omega

theorem BitI.set {a b i : Nat} {qs : List Nat} {R : Nat} (h : BitI a b (i + 1) qs R) (hle : b * 2 ^ i ≤ R) (hl : i / 32 < qs.length) : BitI a b i (qs.set (i / 32) (qs.getD (i / 32) 0 + 2 ^ (i % 32))) (R - b * 2 ^ i) := by
  obtain ⟨⟨y, hy⟩, hlow⟩ := h.place
  have hs := M.val_set 4294967296 (i / 32) qs (qs.getD (i / 32) 0 + 2 ^ (i % 32)) hl
  have e2 : 4294967296 ^ (i / 32) * 2 ^ (i % 32) = 2 ^ i := by
    rw [show (4294967296 : Nat) = 2 ^ 32 from rfl, ← Nat.pow_mul, ← Nat.pow_add]; congr 1; omega
  rw [Nat.mul_add, e2] at hs
  refine ⟨?_, ?_, ⟨y * 2 + 1, ?_⟩, fun j hj => ?_⟩
  · have h1 : X (qs.set (i / 32) (qs.getD (i / 32) 0 + 2 ^ (i % 32))) = X qs + 2 ^ i := by unfold X; omega
    rw [h1, Nat.mul_add]
    have := h.sum
    omega
  · have := h.lt
    rw [Nat.pow_succ, ← Nat.mul_assoc] at this
    omega
  · rw [M.getD_set_eq _ _ _ hl, hy, Nat.pow_succ, Nat.add_mul, Nat.mul_assoc, Nat.mul_comm 2, Nat.one_mul]
  · rw [M.getD_set_ne _ _ _ _ (by omega)]; exact hlow j hj

theorem BitI.start {a b k : Nat} (m : Nat) (h : a < b * 2 ^ (k + 1)) : BitI a b (k + 1) (List.replicate m 0) a := by
  have h0 : ∀ j, (List.replicate m 0).getD j 0 = 0 := fun j => by rw [List.getD_eq_getElem?_getD, List.getElem?_replicate]; split <;> rfl
  refine ⟨?_, h, ⟨0, by rw [h0, Nat.zero_mul]⟩, fun j _ => h0 j⟩
  unfold X; rw [M.val_replicate]; omega

theorem BitI.done {a b : Nat} {qs : List Nat} {R : Nat} (h : BitI a b 0 qs R) : X qs = a / b ∧ R = a % b := by
  have h1 := h.sum
  have h2 := h.lt
  rw [Nat.pow_zero, Nat.mul_one] at h2
  rw [h1]
  exact ⟨by rw [Nat.mul_add_div (by omega), Nat.div_eq_of_lt h2, Nat.add_zero], by rw [Nat.mul_add_mod, Nat.mod_eq_of_lt h2]⟩

theorem half_pow (b i : Nat) : b * 2 ^ (i + 1) / 2 = b * 2 ^ i := by rw [Nat.pow_succ, ← Nat.mul_assoc, Nat.mul_div_cancel _ (by omega)]

/-- A list lies apart from a block. -/
def Apart (ao : Option Addr) (xs : List Nat) (g : Nat) : Prop := 0 < xs.length → ∀ b2 o2, ao = some ⟨b2, o2, none⟩ → b2 ≠ g

theorem Rd.apart {w w' : World} {bo : Option Addr} {ys : List Nat} {g : Nat} (h : Rd w bo ys) (hg : w.grownBy w' (some g)) (hsep : Apart bo ys g) : Rd w' bo ys := by
  intro hp
  obtain ⟨b, off, e, hc⟩ := h hp
  exact ⟨b, off, e, fun i hi => hg.cell (hc i hi) (by simpa using hsep hp b off e)⟩

theorem apart_own {w : World} {base cap g : Nat} {ao : Option Addr} {xs : List Nat} (h : w.ownsRow base 32 1 (.slice ao xs.length cap) xs.length (U xs)) (hg : g < base) : Apart ao xs g := by
  intro h0 b2 o2 e
  obtain ⟨g3, e3, hg3⟩ := own_addr h h0
  rw [e3] at e
  cases e
  omega

theorem apart_lt {w : World} {ao : Option Addr} {xs : List Nat} {g : Nat} (h : Rd w ao xs) (hg : w.heap.size ≤ g) : Apart ao xs g := by
  intro h0 b2 o2 e
  obtain ⟨b, off, e2, hc⟩ := h h0
  have h1 : b < w.heap.size := World.block_lt_of_cell? w _ (hc 0 h0)
  rw [e2] at e
  cases e
  omega

set_option maxHeartbeats 2000000 in
theorem l1Div_wide (ao bo : Option Addr) (n m c d : Nat) (a b : Nat) (w : World) (hl : (D a).length = n) (hm : (D b).length = m) (hb : 0 < b) (hn : n ≤ 2600) (hn2 : m ≤ 2600) (hcn : n ≤ c) (hr : Rd w ao (D a)) (hr2 : Rd w bo (D b)) :
    Calls Try.prog 52 #[.slice ao n c, .slice bo m d] w fun e w' => RetM w w' e (D (a / b)) (D (a % b)) := by
  obtain ⟨i0, hi, hz0, hz1, hz2⟩ := info_parts Try.infoU
  obtain ⟨x, ex⟩ : ∃ x, x = blen a := ⟨_, rfl⟩
  obtain ⟨y, ey⟩ : ∃ x, x = blen b := ⟨_, rfl⟩
  have hbits : ∀ v l, (D v).length = l → blen v ≤ 32 * l := by
    intro v l hv
    refine blen_le_of v (32 * l) ?_
    have h1 := M.lt_dig (B := 4294967296) (by omega) v
    rw [show (M.dig 4294967296 v).length = l from hv, show (4294967296 : Nat) = 2 ^ 32 from rfl, ← Nat.pow_mul] at h1
    exact h1
  have hxb : x ≤ 83200 := by have := hbits a n hl; omega
  have hyb : y ≤ 83200 := by have := hbits b m hm; omega
  clear hbits
  have ha1 : a < 2 ^ x := by rw [ex]; exact lt_blen a
  have hb1 : 2 ^ (y - 1) ≤ b := by rw [ey]; exact blen_le b hb
  have hy0 : 0 < y := by rw [ey]; exact blen_pos b hb
  have EX := hid ex; have EY := hid ey; have HA1 := hid ha1; have HB1 := hid hb1
  clear ex ey ha1 hb1
  by_cases hxy : x < y
  · have hab : a < b := by
      have h1 : 2 ^ x ≤ 2 ^ (y - 1) := Nat.pow_le_pow_right (by omega) (by omega)
      have := HA1.out; have := HB1.out; omega
    rw [Nat.div_eq_of_lt hab, Nat.mod_eq_of_lt hab, show D 0 = [] from M.dig_zero _]
    have hneg : (x : Int) - (y : Int) < 0 := by omega
    go_enter Try.func52, Try.ntmps52
    go_wp2_with fail
    refine (l1Bits_any ao n c a _ hl (by omega) hr x EX.out).mono ?_
    rintro e w1 ⟨rfl, rfl⟩
    go_wp2_with fail
    refine (l1Bits_any bo m d b _ hm (by omega) hr2 y EY.out).mono ?_
    rintro e w2 ⟨rfl, rfl⟩
    go_wp2_with fail
    refine (l1Trim_any 4294967296 (by omega) ao n c (D a) _ hl hcn (by omega) (F32_D a) hr).mono ?_
    rw [show M.val 4294967296 (D a) = a from X_D a]
    rintro e w3 ⟨xa, xc, rfl, hox, hb3⟩
    go_wp2_with fail
    go_ret2
    exact ⟨none, 0, xa, xc, rfl, Rd.nil _ _, Rd.own hox, hb3⟩
  · obtain ⟨k, ek⟩ : ∃ k, k = x - y := ⟨_, rfl⟩
    have hkI : (x : Int) - (y : Int) = (k : Int) := by omega
    have hneg : ¬ (k : Int) < 0 := by omega
    have hkb : k ≤ 83200 := by omega
    obtain ⟨kj, ekj⟩ : ∃ j, j = k / 32 := ⟨_, rfl⟩
    have hkjI : (k : Int) / 32 = (kj : Int) := by omega
    have hmk := fun (wx : World) => run_make (P := Try.prog) wx 23 32 i0 (.int .u64 0) Try.underlying23 hi hz0 .i64 .i64 ((kj + 1 : Nat) : Int) ((kj + 1 : Nat) : Int) (by omega) (Int.le_refl _) (by rw [hz2]; omega) (by omega)
    have es : ((kj + 1 : Nat) : Int) = (kj : Int) + 1 := by omega
    rw [es] at hmk
    have et : ((kj : Int) + 1).toNat = kj + 1 := by omega
    rw [et] at hmk
    clear es et
    have EK := hid ek; have EKJ := hid ekj
    clear ek ekj
    go_enter Try.func52, Try.ntmps52
    go_wp2_with fail
    refine (l1Bits_any ao n c a _ hl (by omega) hr x EX.out).mono ?_
    rintro e w1 ⟨rfl, rfl⟩
    go_wp2_with fail
    refine (l1Bits_any bo m d b _ hm (by omega) hr2 y EY.out).mono ?_
    rintro e w2 ⟨rfl, rfl⟩
    go_wp2_with fail
    refine (l1Trim_any 4294967296 (by omega) ao n c (D a) _ hl hcn (by omega) (F32_D a) hr).mono ?_
    rw [show M.val 4294967296 (D a) = a from X_D a]
    rintro e w3 ⟨xa, xc, rfl, hox, hb3⟩
    have hB4 := blk_made w3 (kj + 1)
    have hb4 : Below w3.heap.size w3 (w3.alloc (.cells (madeCells #[Value.int .u64 0] (kj + 1)) 32)) := (Below.refl _ _).alloc (Nat.le_refl _) _
    have HB4 := hid hB4; have Hb4 := hid hb4
    clear hB4 hb4
    go_wp2_with fail
    have hB4 := HB4.out; have hb4 := Hb4.out
    generalize w3.alloc (.cells (madeCells #[Value.int .u64 0] (kj + 1)) 32) = w4 at hB4 hb4 ⊢
    have hbw4 := hb3.trans (hb4.mono hb3.size)
    refine (l1Left_any bo m d k b _ hm (by omega) (by omega) (hr2.below hbw4)).mono ?_
    rintro e w5 ⟨da, dc, rfl, hod, hb5⟩
    have hbw5 := hbw4.trans (hb5.mono hbw4.size)
    have hB5 := hB4.keep hb5
    have hrr := ((Rd.own hox).below hb4).below hb5
    have hrd := Rd.own hod
    have har : Apart xa (D a) w3.heap.size := apart_lt (Rd.own hox) (Nat.le_refl _)
    have had : Apart da (D (b * 2 ^ k)) w3.heap.size := apart_own hod (by have := hB4.lt; omega)
    have hab : a < b * 2 ^ (k + 1) := by
      have h1 := HA1.out
      have h2 := HB1.out
      have h3 : 2 ^ (y - 1) * 2 ^ (k + 1) ≤ b * 2 ^ (k + 1) := Nat.mul_le_mul_right _ h2
      rw [← Nat.pow_add, show y - 1 + (k + 1) = x by have := EK.out; omega] at h3
      omega
    have hst := BitI.start (kj + 1) hab
    have hdd := half_pow b k
    have hlen : ∀ v, v < 2 ^ x → (D v).length ≤ 2600 := by
      intro v hv
      obtain ⟨NN, eNN⟩ : ∃ NN, NN = 2600 := ⟨_, rfl⟩
      rw [← eNN]
      refine M.len_of_lt (B := 4294967296) (by omega) _ _ ?_
      rw [show (4294967296 : Nat) = 2 ^ 32 from rfl, ← Nat.pow_mul]
      exact Nat.lt_of_lt_of_le hv (Nat.pow_le_pow_right (by omega) (by omega))
    have hln : ∀ R, R ≤ a → (D R).length ≤ 2600 := fun R h => hlen R (Nat.lt_of_le_of_lt h HA1.out)
    have hldd : ∀ i, i ≤ k → (D (b * 2 ^ i)).length ≤ 2600 := by
      intro i hi
      refine hlen _ ?_
      have h1 : b < 2 ^ y := by rw [EY.out]; exact lt_blen b
      have h2 : b * 2 ^ i < 2 ^ y * 2 ^ i := Nat.mul_lt_mul_of_pos_right h1 (Nat.pow_pos (by omega))
      have h3 : 2 ^ y * 2 ^ i ≤ 2 ^ x := by rw [← Nat.pow_add]; exact Nat.pow_le_pow_right (by omega) (by have := EK.out; omega)
      omega
    have HAR := hid har; have HAD := hid had; have HST := hid hst; have HLN := hid hln; have HLD := hid hldd
    clear har had hab hst hlen hln hldd
    have HB5 := hid hB5; have HBW5 := hid hbw5; have HRR := hid hrr; have HRD := hid hrd
    clear hmk HB4 Hb4 hB4 hb4 hbw4 hbw5 hB5 hrr hrd hox hod
    go_wp2_with fail
    obtain ⟨g, eg⟩ : ∃ g, g = w3.heap.size := ⟨_, rfl⟩
    have hgw : w2.heap.size ≤ w3.heap.size := hb3.size
    go_loopw [7, 9, 10] (fun rs dv i wr => ∃ (t : Nat) (qs : List Nat) (R : Nat) (ra da : Option Addr) (rc dc : Nat), t ≤ k + 1 ∧ i = .int .i64 ((t : Int) - 1) ∧ rs = .slice ra (D R).length rc ∧ Rd wr ra (D R) ∧ dv = .slice da (D (b * 2 ^ t / 2)).length dc ∧ Rd wr da (D (b * 2 ^ t / 2)) ∧ Blk wr w3.heap.size qs ∧ qs.length = kj + 1 ∧ F32 qs ∧ BitI a b t qs R ∧ Apart ra (D R) w3.heap.size ∧ Apart da (D (b * 2 ^ t / 2)) w3.heap.size ∧ Below w2.heap.size w2 wr) (fun _ _ i _ => (intOf i + 1).toNat)
    case atStart =>
      refine ⟨k + 1, List.replicate (kj + 1) 0, a, xa, da, xc, dc, Nat.le_refl _, by go_num, rfl, HRR.out, ?_, ?_, HB5.out, by simp, fun x hx => by simp at hx; omega, ?_, HAR.out, ?_, HBW5.out⟩
      · rw [hdd]
      · rw [hdd]; exact HRD.out
      · exact HST.out
      · rw [hdd]; exact HAD.out
    case round =>
      obtain ⟨t, qs, R, ra, da, rc, dc, ht, rfl, rfl, hrR, rfl, hrD, hBq, hql, hqf, hI, hAR, hAD, hbl⟩ := hrel
      by_cases ht0 : 0 < t
      · obtain ⟨i, rfl⟩ : ∃ i, t = i + 1 := ⟨t - 1, by omega⟩
        have e1 : (((i + 1 : Nat) : Int) - 1) = (i : Int) := by omega
        rw [e1]
        rw [half_pow] at hrD hAD ⊢
        have hlr : (D R).length ≤ 2600 := HLN.out R (hI.le_a)
        have hld : (D (b * 2 ^ i)).length ≤ 2600 := HLD.out i (by omega)
        obtain ⟨j, ej⟩ : ∃ j, j = i / 32 := ⟨_, rfl⟩
        obtain ⟨p, ep⟩ : ∃ p, p = i % 32 := ⟨_, rfl⟩
        have ijI : (i : Int) / 32 = (j : Int) := by omega
        have ipI : (i : Int) % 32 = (p : Int) := by omega
        have hjb : j < kj + 1 := by have := EKJ.out; omega
        have hjI : (j : Int) < (kj : Int) + 1 := by omega
        have hpb : p < 32 := by omega
        have EJ := hid ej; have EP := hid ep
        clear ej ep
        have hge0 : (0 : Int) ≤ (i : Int) := by omega
        obtain ⟨dd, edd⟩ : ∃ dd, dd = b * 2 ^ i := ⟨_, rfl⟩
        rw [← edd] at hrD hAD hld ⊢
        have EDD := hid edd; clear edd
        by_cases hcm : dd ≤ R
        · have hcmp := cmpI_nonneg hcm
          have HI := hid hI; clear hI
          obtain ⟨x0, ex0⟩ : ∃ x0, x0 = qs.getD j 0 := ⟨_, rfl⟩
          have hx0 : x0 < 4294967296 := by rw [ex0]; exact hqf.get j
          have hpl := HI.out.place
          rw [← EJ.out, ← EP.out, ← ex0] at hpl
          obtain ⟨hor, hob⟩ := bit_word hx0 hpb hpl.1
          have hset := HI.out.set (by rw [← EDD.out]; exact hcm) (by rw [← EJ.out]; omega)
          rw [← EJ.out, ← EP.out, ← ex0, ← EDD.out] at hset
          obtain ⟨tp, etp⟩ : ∃ tp, tp = 2 ^ p := ⟨_, rfl⟩
          rw [← etp] at hor hob hset
          have wsh : ((2 : Int) ^ p) = (tp : Int) := by rw [pow_cast, etp]
          obtain ⟨x1, ex1⟩ : ∃ x1, x1 = x0 + tp := ⟨_, rfl⟩
          have wor : bits BinOp.or IntKind.u64 (x0 : Int) (tp : Int) = (x1 : Int) := by
            rw [or_comm_nat _ _ (by omega) (by omega), hor, ex1]
          rw [← ex1] at hset hob
          have htpb : tp < 18446744073709551616 := by omega
          have HSET := hid hset; have EX0 := hid ex0; have HOB := hid hob
          clear hset ex0 hob hor hpl etp ex1
          go_wp2_with fail
          refine (l1Cmp_any ra da _ _ rc dc R dd _ rfl rfl (by omega) (by omega) hrR hrD).mono ?_
          rintro e v1 ⟨rfl, rfl⟩
          go_wp2_with fail
          refine (l1Sub_any ra da _ _ rc dc R dd _ rfl rfl hcm (by omega) hrR hrD).mono ?_
          rintro e v2 ⟨sa, sc, rfl, hos, hbs⟩
          have hBq2 := hBq.keep hbs
          have hcq := hBq2.cell j (by omega)
          rw [← EX0.out] at hcq
          have hfq := hBq2.frozen j
          have hbl2 := hbl.trans (hbs.mono hbl.size)
          have hgs : v2.grownBy (v2.setCell ⟨w3.heap.size, j, none⟩ (.int .u64 (x1 : Int))) (some w3.heap.size) := grown_setCell _ _ _ _
          have hBq3 : Blk (v2.setCell ⟨w3.heap.size, j, none⟩ (.int .u64 (x1 : Int))) w3.heap.size (qs.set j x1) := hBq2.set _ _ _ rfl
          have hbl3 : Below w2.heap.size w2 (v2.setCell ⟨w3.heap.size, j, none⟩ (.int .u64 (x1 : Int))) := hbl2.setCell (by simpa using hgw) _
          have haps : Apart sa (D (R - dd)) w3.heap.size := apart_own hos (by have := hBq.lt; omega)
          have hrs3 := (Rd.own hos).apart hgs haps
          have hrd3 := (hrD.below hbs).apart hgs hAD
          have HBq3 := hid hBq3; have Hbl3 := hid hbl3; have Hrs3 := hid hrs3; have Hrd3 := hid hrd3
          clear hBq3 hbl3 hrs3 hrd3 hBq2 hgs hos hbs hbl2
          go_wp2_with fail
          have hBq3 := HBq3.out; have hbl3 := Hbl3.out; have hrs3 := Hrs3.out; have hrd3 := Hrd3.out
          generalize v2.setCell ⟨w3.heap.size, j, none⟩ (.int .u64 (x1 : Int)) = v3 at hBq3 hbl3 hrs3 hrd3 ⊢
          clear HBq3 Hbl3 Hrs3 Hrd3 hcq hfq
          refine (l1Right_any da _ dc 1 dd _ rfl (by omega) (by omega) hrd3).mono ?_
          rw [Nat.pow_one]
          rintro e v4 ⟨ta, tc, rfl, hot, hbt⟩
          have hbl4 := hbl3.trans (hbt.mono hbl3.size)
          have hBq4 := hBq3.keep hbt
          have hrs4 := hrs3.below hbt
          have hrt4 := Rd.own hot
          have hapt : Apart ta (D (dd / 2)) w3.heap.size := apart_own hot (by have := hBq3.lt; omega)
          have Hbl4 := hid hbl4; have HBq4 := hid hBq4; have Hrs4 := hid hrs4; have Hrt4 := hid hrt4; have Hapt := hid hapt; have Haps := hid haps
          clear hbl4 hBq4 hrs4 hrt4 hapt haps hot hbt hBq3 hbl3 hrs3 hrd3
          go_wp2_with fail
          go_roundw
          case rel =>
            have hfs : F32 (qs.set j x1) := by
              intro v hv
              rcases List.mem_or_eq_of_mem_set hv with hv | rfl
              · exact hqf v hv
              · exact HOB.out
            have R1 : ∃ (t : Nat) (qs : List Nat) (R' : Nat) (ra da : Option Addr) (rc dc : Nat), t ≤ k + 1 ∧ Value.int .i64 ((i : Int) - 1) = .int .i64 ((t : Int) - 1) ∧ Value.slice sa (D (R - dd)).length sc = .slice ra (D R').length rc ∧ Rd v4 ra (D R') ∧ Value.slice ta (D (dd / 2)).length tc = .slice da (D (b * 2 ^ t / 2)).length dc ∧ Rd v4 da (D (b * 2 ^ t / 2)) ∧ Blk v4 w3.heap.size qs ∧ qs.length = kj + 1 ∧ F32 qs ∧ BitI a b t qs R' ∧ Apart ra (D R') w3.heap.size ∧ Apart da (D (b * 2 ^ t / 2)) w3.heap.size ∧ Below w2.heap.size w2 v4 := by
              refine ⟨i, qs.set j x1, R - dd, sa, ta, sc, tc, by omega, rfl, rfl, Hrs4.out, ?_, ?_, HBq4.out, by rw [List.length_set]; exact hql, hfs, HSET.out, Haps.out, ?_, Hbl4.out⟩
              · rw [← EDD.out]
              · rw [← EDD.out]; exact Hrt4.out
              · rw [← EDD.out]; exact Hapt.out
            first | exact R1 | ((repeat apply Exists.intro); exact ⟨R1, rfl⟩)
          case measure => simp [intOf] <;> omega
        · have hcmp := cmpI_neg (show R < dd by omega)
          have hset := hI.skip (by rw [← EDD.out]; omega)
          have HSET := hid hset; clear hset hI
          go_wp2_with fail
          refine (l1Cmp_any ra da _ _ rc dc R dd _ rfl rfl (by omega) (by omega) hrR hrD).mono ?_
          rintro e v3 ⟨rfl, rfl⟩
          go_wp2_with fail
          refine (l1Right_any da _ dc 1 dd _ rfl (by omega) (by omega) hrD).mono ?_
          rw [Nat.pow_one]
          rintro e v4 ⟨ta, tc, rfl, hot, hbt⟩
          have hbl4 := hbl.trans (hbt.mono hbl.size)
          have hBq4 := hBq.keep hbt
          have hrs4 := hrR.below hbt
          have hrt4 := Rd.own hot
          have hapt : Apart ta (D (dd / 2)) w3.heap.size := apart_own hot (by have := hBq.lt; omega)
          have Hbl4 := hid hbl4; have HBq4 := hid hBq4; have Hrs4 := hid hrs4; have Hrt4 := hid hrt4; have Hapt := hid hapt
          clear hbl4 hBq4 hrs4 hrt4 hapt hot hbt
          go_wp2_with fail
          go_roundw
          case rel =>
            have R1 : ∃ (t : Nat) (qs : List Nat) (R' : Nat) (ra' da : Option Addr) (rc' dc : Nat), t ≤ k + 1 ∧ Value.int .i64 ((i : Int) - 1) = .int .i64 ((t : Int) - 1) ∧ Value.slice ra (D R).length rc = .slice ra' (D R').length rc' ∧ Rd v4 ra' (D R') ∧ Value.slice ta (D (dd / 2)).length tc = .slice da (D (b * 2 ^ t / 2)).length dc ∧ Rd v4 da (D (b * 2 ^ t / 2)) ∧ Blk v4 w3.heap.size qs ∧ qs.length = kj + 1 ∧ F32 qs ∧ BitI a b t qs R' ∧ Apart ra' (D R') w3.heap.size ∧ Apart da (D (b * 2 ^ t / 2)) w3.heap.size ∧ Below w2.heap.size w2 v4 := by
              refine ⟨i, qs, R, ra, ta, rc, tc, by omega, rfl, rfl, Hrs4.out, ?_, ?_, HBq4.out, hql, hqf, HSET.out, hAR, ?_, Hbl4.out⟩
              · rw [← EDD.out]
              · rw [← EDD.out]; exact Hrt4.out
              · rw [← EDD.out]; exact Hapt.out
            first | exact R1 | ((repeat apply Exists.intro); exact ⟨R1, rfl⟩)
          case measure => simp [intOf] <;> omega
      · have e : t = 0 := by omega
        subst e
        obtain ⟨hq, hR⟩ := hI.done
        have hge0 : ¬ (0 : Int) ≤ ((0 : Nat) : Int) - 1 := by omega
        have hrdq := hBq.rd0
        have HQ := hid hq; have HR := hid hR
        clear hI hq hR hrD hAD
        go_wp2_with fail
        refine (l1Trim_any 4294967296 (by omega) _ (kj + 1) (kj + 1) qs _ hql (Nat.le_refl _) (by omega) hqf hrdq).mono ?_
        rw [show M.val 4294967296 qs = a / b from HQ.out]
        rintro e v1 ⟨qa, qc, rfl, hoq, hbq⟩
        go_wp2_with fail
        go_ret2
        rw [← HR.out]
        exact ⟨qa, qc, ra, rc, rfl, Rd.own hoq, hrR.below hbq, hbl.trans (hbq.mono hbl.size)⟩

theorem l1Div_any (ao bo : Option Addr) (n m c d : Nat) (a b : Nat) (w : World) (hl : (D a).length = n) (hm : (D b).length = m) (hb : 0 < b) (hn : n ≤ 2400) (hn2 : m ≤ 2400) (hcn : n ≤ c) (hr : Rd w ao (D a)) (hr2 : Rd w bo (D b)) :
    Calls Try.prog 52 #[.slice ao n c, .slice bo m d] w fun e w' => RetM w w' e (D (a / b)) (D (a % b)) :=
  l1Div_wide ao bo n m c d a b w hl hm hb (by omega) (by omega) hcn hr hr2

end Go.Proofs.Ytehplfmnipadmad
