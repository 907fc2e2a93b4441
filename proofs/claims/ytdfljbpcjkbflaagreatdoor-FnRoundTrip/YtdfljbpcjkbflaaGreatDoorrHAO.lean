import Derived.Test.YtdfljbpcjkbflaaGreatDoorrHAN
set_option maxHeartbeats 4000000
set_option maxRecDepth 100000
namespace Go.Proofs.YtdfljbpcjkbflaaGreatDoor
open Go.RowKit
set_option linter.unusedVariables false
set_option maxRecDepth 100000
def K6 (w w' : World) (e : Ending) (q r : List Nat) : Prop :=
 ∃ ao ca bo cb, e = .returned (.tuple #[.slice ao q.length ca, .slice bo r.length cb]) ∧ Rd w' ao q ∧ Rd w' bo r ∧ Below w.heap.size w w' ∧ q.length ≤ ca

structure BitI (a b t : Nat) (qs : List Nat) (R : Nat) : Prop where
 sum : a = b * X qs + R
 lt : R < b * 2 ^ t
 top : ∃ y, qs.getD (t / 32) 0 = y * 2 ^ (t % 32)
 low : ∀ j, j < t / 32 → qs.getD j 0 = 0

theorem BitI.le_a {a b t : Nat} {qs : List Nat} {R : Nat} (h : BitI a b t qs R) : R ≤ a := by have := h.sum; omega

theorem BitI.place {a b i : Nat} {qs : List Nat} {R : Nat} (h : BitI a b (i + 1) qs R) : (∃ y, qs.getD (i / 32) 0 = y * 2 ^ (i % 32 + 1)) ∧ ∀ j, j < i / 32 → qs.getD j 0 = 0 := by
 rcases Nat.lt_or_ge (i % 32) 31 with hp | hp
 · obtain ⟨y, hy⟩ := h.top
   rw [show (i + 1) / 32 = i / 32 by omega, show (i + 1) % 32 = i % 32 + 1 by omega] at hy
   exact ⟨⟨y, hy⟩, fun j hj => h.low j (by omega)⟩
 · exact ⟨⟨0, by rw [Nat.zero_mul]; exact h.low _ (by omega)⟩, fun j hj => h.low j (by omega)⟩

theorem BitI.skip {a b i : Nat} {qs : List Nat} {R : Nat} (h : BitI a b (i + 1) qs R) (hlt : R < b * 2 ^ i) : BitI a b i qs R := by
 obtain ⟨⟨y, hy⟩, hl⟩ := h.place
 exact ⟨h.sum, hlt, ⟨y * 2, by rw [hy, Nat.pow_succ, Nat.mul_assoc, Nat.mul_comm 2]⟩, hl⟩

theorem BX {x p : Nat} (hx : x < 4294967296) (hp : p < 32) (h : ∃ y, x = y * 2 ^ (p + 1)) : 2 ^ p ||| x = x + 2 ^ p ∧ x + 2 ^ p < 4294967296 := by
 obtain ⟨y, rfl⟩ := h
 have h1 : 2 ^ p < 2 ^ (p + 1) := Nat.pow_lt_pow_right (by omega) (by omega)
 constructor
 · rw [iG (2 ^ p) y (p + 1) h1, Nat.add_comm]
 · have hKP : 2 ^ (32 - (p + 1)) * 2 ^ (p + 1) = 4294967296 := by rw [← Nat.pow_add, show 32 - (p + 1) + (p + 1) = 32 by omega]
   have h2 : y < 2 ^ (32 - (p + 1)) := by
    have : y * 2 ^ (p + 1) < 2 ^ (32 - (p + 1)) * 2 ^ (p + 1) := by rw [hKP]; exact hx
    exact Nat.lt_of_mul_lt_mul_right this
   have h3 : (y + 1) * 2 ^ (p + 1) ≤ 2 ^ (32 - (p + 1)) * 2 ^ (p + 1) := Nat.mul_le_mul_right _ h2
   rw [hKP, Nat.add_mul] at h3
   omega

theorem BitI.set {a b i : Nat} {qs : List Nat} {R : Nat} (h : BitI a b (i + 1) qs R) (hle : b * 2 ^ i ≤ R) (hl : i / 32 < qs.length) : BitI a b i (qs.set (i / 32) (qs.getD (i / 32) 0 + 2 ^ (i % 32))) (R - b * 2 ^ i) := by
 obtain ⟨⟨y, hy⟩, hlow⟩ := h.place
 have hs := M.gT 4294967296 (i / 32) qs (qs.getD (i / 32) 0 + 2 ^ (i % 32)) hl
 have e2 : 4294967296 ^ (i / 32) * 2 ^ (i % 32) = 2 ^ i := by
  rw [show (4294967296 : Nat) = 2 ^ 32 from rfl, ← Nat.pow_mul, ← Nat.pow_add]; congr 1; omega
 rw [Nat.mul_add, e2] at hs
 refine ⟨?_, ?_, ⟨y * 2 + 1, ?_⟩, fun j hj => ?_⟩
 · have h1 : X (qs.set (i / 32) (qs.getD (i / 32) 0 + 2 ^ (i % 32))) = X qs + 2 ^ i := by unfold X; omega
   rw [h1, Nat.mul_add]
   have := h.sum
   omega
 · have := h.lt
   rw [Nat.pow_succ, ← Nat.mul_assoc] at this
   omega
 · rw [M.aY _ _ _ hl, hy, Nat.pow_succ, Nat.add_mul, Nat.mul_assoc, Nat.mul_comm 2, Nat.one_mul]
 · rw [M.aX _ _ _ _ (by omega)]; exact hlow j hj

theorem BitI.start {a b k : Nat} (m : Nat) (h : a < b * 2 ^ (k + 1)) : BitI a b (k + 1) (List.replicate m 0) a := by
 have h0 : ∀ j, (List.replicate m 0).getD j 0 = 0 := fun j => by rw [List.getD_eq_getElem?_getD, List.getElem?_replicate]; split <;> rfl
 refine ⟨?_, h, ⟨0, by rw [h0, Nat.zero_mul]⟩, fun j _ => h0 j⟩
 unfold X; rw [M.cM]; omega

theorem BitI.done {a b : Nat} {qs : List Nat} {R : Nat} (h : BitI a b 0 qs R) : X qs = a / b ∧ R = a % b := by
 have h1 := h.sum
 have h2 := h.lt
 rw [Nat.pow_zero, Nat.mul_one] at h2
 rw [h1]
 exact ⟨by rw [Nat.mul_add_div (by omega), Nat.div_eq_of_lt h2, Nat.add_zero], by rw [Nat.mul_add_mod, Nat.mod_eq_of_lt h2]⟩

theorem tZ (b i : Nat) : b * 2 ^ (i + 1) / 2 = b * 2 ^ i := by rw [Nat.pow_succ, ← Nat.mul_assoc, Nat.mul_div_cancel _ (by omega)]

def bL (ao : Option Addr) (xs : List Nat) (g : Nat) : Prop := 0 < xs.length → ∀ b2 o2, ao = some ⟨b2, o2, none⟩ → b2 ≠ g

theorem Rd.apart {w w' : World} {bo : Option Addr} {ys : List Nat} {g : Nat} (h : Rd w bo ys) (hg : w.grownBy w' (some g)) (hsep : bL bo ys g) : Rd w' bo ys := by
 intro hp
 obtain ⟨b, off, e, hc⟩ := h hp
 exact ⟨b, off, e, fun i hi => hg.cell (hc i hi) (by simpa using hsep hp b off e)⟩

theorem fO {w : World} {base cap g : Nat} {ao : Option Addr} {xs : List Nat} (h : w.ownsRow base 23 1 (.slice ao xs.length cap) xs.length (U xs)) (hg : g < base) : bL ao xs g := by
 intro h0 b2 o2 e
 obtain ⟨g3, e3, hg3⟩ := nX h h0
 rw [e3] at e
 cases e
 omega

theorem oY {w : World} {ao : Option Addr} {xs : List Nat} {g : Nat} (h : Rd w ao xs) (hg : w.heap.size ≤ g) : bL ao xs g := by
 intro h0 b2 o2 e
 obtain ⟨b, off, e2, hc⟩ := h h0
 have h1 : b < w.heap.size := World.block_lt_of_cell? w _ (hc 0 h0)
 rw [e2] at e
 cases e
 omega

theorem qH (ao bo : Option Addr) (n m c d : Nat) (a b : Nat) (w : World) (hl : (D a).length = n) (hm : (D b).length = m) (hb : 0 < b) (hn : n ≤ 2600) (hn2 : m ≤ 2600) (hcn : n ≤ c) (hr : Rd w ao (D a)) (hr2 : Rd w bo (D b)) :
 Calls Tryz.prog 43 #[.slice ao n c, .slice bo m d] w fun e w' => K6 w w' e (D (a / b)) (D (a % b)) := by
 obtain ⟨i0, hi, hz0, hz1, hz2⟩ := info_parts Tryz.infoU
 obtain ⟨x, ex⟩ : ∃ x, x = aC a := ⟨_, rfl⟩
 obtain ⟨y, ey⟩ : ∃ x, x = aC b := ⟨_, rfl⟩
 have hbits : ∀ v l, (D v).length = l → aC v ≤ 32 * l := by
  intro v l hv
  refine bW v (32 * l) ?_
  have h1 := M.iR (B := 4294967296) (by omega) v
  rw [show (M.dig 4294967296 v).length = l from hv, show (4294967296 : Nat) = 2 ^ 32 from rfl, ← Nat.pow_mul] at h1
  exact h1
 have hxb : x ≤ 83200 := by have := hbits a n hl; omega
 have hyb : y ≤ 83200 := by have := hbits b m hm; omega
 clear hbits
 have ha1 : a < 2 ^ x := by rw [ex]; exact eH a
 have hb1 : 2 ^ (y - 1) ≤ b := by rw [ey]; exact gD b hb
 have hy0 : 0 < y := by rw [ey]; exact fT b hb
 have EX := hid ex; have EY := hid ey; have HA1 := hid ha1; have HB1 := hid hb1
 clear ex ey ha1 hb1
 by_cases hxy : x < y
 · have hab : a < b := by
    have h1 : 2 ^ x ≤ 2 ^ (y - 1) := Nat.pow_le_pow_right (by omega) (by omega)
    have := HA1.out; have := HB1.out; omega
   rw [Nat.div_eq_of_lt hab, Nat.mod_eq_of_lt hab, show D 0 = [] from M.aJ _]
   have hneg : (x : Int) - (y : Int) < 0 := by omega
   go_enter Tryz.func43, Tryz.ntmps43
   go_wp2_with fail
   refine (cO ao n c a _ hl (by omega) hr x EX.out).mono ?_
   rintro e w1 ⟨rfl, rfl⟩
   go_wp2_with fail
   refine (cO bo m d b _ hm (by omega) hr2 y EY.out).mono ?_
   rintro e w2 ⟨rfl, rfl⟩
   go_wp2_with fail
   refine (aZ 4294967296 (by omega) ao n c (D a) _ hl hcn (by omega) (fS a) hr).mono ?_
   rw [show M.val 4294967296 (D a) = a from X_D a]
   rintro e w3 ⟨xa, xc, rfl, hox, hb3⟩
   go_wp2_with fail
   go_ret2
   exact ⟨none, 0, xa, xc, rfl, Rd.nil _ _, Rd.own hox, hb3, Nat.le_refl _⟩
 · obtain ⟨k, ek⟩ : ∃ k, k = x - y := ⟨_, rfl⟩
   have hkI : (x : Int) - (y : Int) = (k : Int) := by omega
   have hneg : ¬ (k : Int) < 0 := by omega
   have hkb : k ≤ 83200 := by omega
   obtain ⟨kj, ekj⟩ : ∃ j, j = k / 32 := ⟨_, rfl⟩
   have hkjI : (k : Int) / 32 = (kj : Int) := by omega
   have hmk := fun (wx : World) => run_make (P := Tryz.prog) wx 53 23 i0 (.int .u64 0) Tryz.underlying53 hi hz0 .i64 .i64 ((kj + 1 : Nat) : Int) ((kj + 1 : Nat) : Int) (by omega) (Int.le_refl _) (by rw [hz2]; omega) (by omega)
   have es : ((kj + 1 : Nat) : Int) = (kj : Int) + 1 := by omega
   rw [es] at hmk
   have et : ((kj : Int) + 1).toNat = kj + 1 := by omega
   rw [et] at hmk
   clear es et
   have EK := hid ek; have EKJ := hid ekj
   clear ek ekj
   go_enter Tryz.func43, Tryz.ntmps43
   go_wp2_with fail
   refine (cO ao n c a _ hl (by omega) hr x EX.out).mono ?_
   rintro e w1 ⟨rfl, rfl⟩
   go_wp2_with fail
   refine (cO bo m d b _ hm (by omega) hr2 y EY.out).mono ?_
   rintro e w2 ⟨rfl, rfl⟩
   go_wp2_with fail
   refine (aZ 4294967296 (by omega) ao n c (D a) _ hl hcn (by omega) (fS a) hr).mono ?_
   rw [show M.val 4294967296 (D a) = a from X_D a]
   rintro e w3 ⟨xa, xc, rfl, hox, hb3⟩
   have hB4 := dQ w3 (kj + 1)
   have hb4 : Below w3.heap.size w3 (w3.alloc (.cells (madeCells #[Value.int .u64 0] (kj + 1)) 23)) := (Below.refl _ _).alloc (Nat.le_refl _) _
   have HB4 := hid hB4; have Hb4 := hid hb4
   clear hB4 hb4
   go_wp2_with fail
   have hB4 := HB4.out; have hb4 := Hb4.out
   generalize w3.alloc (.cells (madeCells #[Value.int .u64 0] (kj + 1)) 23) = w4 at hB4 hb4 ⊢
   have hbw4 := hb3.trans (hb4.mono hb3.size)
   refine (bU bo m d k b _ hm (by omega) (by omega) (hr2.below hbw4)).mono ?_
   rintro e w5 ⟨da, dc, rfl, hod, hb5⟩
   have hbw5 := hbw4.trans (hb5.mono hbw4.size)
   have hB5 := hB4.keep hb5
   have hrr := ((Rd.own hox).below hb4).below hb5
   have hrd := Rd.own hod
   have har : bL xa (D a) w3.heap.size := oY (Rd.own hox) (Nat.le_refl _)
   have had : bL da (D (b * 2 ^ k)) w3.heap.size := fO hod (by have := hB4.lt; omega)
   have hab : a < b * 2 ^ (k + 1) := by
    have h1 := HA1.out
    have h2 := HB1.out
    have h3 : 2 ^ (y - 1) * 2 ^ (k + 1) ≤ b * 2 ^ (k + 1) := Nat.mul_le_mul_right _ h2
    rw [← Nat.pow_add, show y - 1 + (k + 1) = x by have := EK.out; omega] at h3
    omega
   have hst := BitI.start (kj + 1) hab
   have hdd := tZ b k
   have hlen : ∀ v, v < 2 ^ x → (D v).length ≤ 2600 := by
    intro v hv
    obtain ⟨NN, eNN⟩ : ∃ NN, NN = 2600 := ⟨_, rfl⟩
    rw [← eNN]
    refine M.len_of_lt (B := 4294967296) (by omega) _ _ ?_
    rw [show (4294967296 : Nat) = 2 ^ 32 from rfl, ← Nat.pow_mul]
    exact Nat.lt_of_lt_of_le hv (Nat.pow_le_pow_right (by omega) (by omega))
   have hln : ∀ R, R ≤ a → (D R).length ≤ 2600 := fun R h => hlen R (Nat.lt_of_le_of_lt h HA1.out)
   have hldd : ∀ i, i ≤ k → (D (b * 2 ^ i)).length ≤ 2600 := by
    intro i hi
    refine hlen _ ?_
    have h1 : b < 2 ^ y := by rw [EY.out]; exact eH b
    have h2 : b * 2 ^ i < 2 ^ y * 2 ^ i := Nat.mul_lt_mul_of_pos_right h1 (Nat.pow_pos (by omega))
    have h3 : 2 ^ y * 2 ^ i ≤ 2 ^ x := by rw [← Nat.pow_add]; exact Nat.pow_le_pow_right (by omega) (by have := EK.out; omega)
    omega
   have HAR := hid har; have HAD := hid had; have HST := hid hst; have HLN := hid hln; have HLD := hid hldd
   clear har had hab hst hlen hln hldd
   have HB5 := hid hB5; have HBW5 := hid hbw5; have HRR := hid hrr; have HRD := hid hrd
   clear hmk HB4 Hb4 hB4 hb4 hbw4 hbw5 hB5 hrr hrd hox hod
   go_wp2_with fail
   obtain ⟨g, eg⟩ : ∃ g, g = w3.heap.size := ⟨_, rfl⟩
   have hgw : w2.heap.size ≤ w3.heap.size := hb3.size
   go_loopw [7, 9, 10] (fun rs dv i wr => ∃ (t : Nat) (qs : List Nat) (R : Nat) (ra da : Option Addr) (rc dc : Nat), t ≤ k + 1 ∧ i = .int .i64 ((t : Int) - 1) ∧ rs = .slice ra (D R).length rc ∧ Rd wr ra (D R) ∧ dv = .slice da (D (b * 2 ^ t / 2)).length dc ∧ Rd wr da (D (b * 2 ^ t / 2)) ∧ Blk wr w3.heap.size qs ∧ qs.length = kj + 1 ∧ F32 qs ∧ BitI a b t qs R ∧ bL ra (D R) w3.heap.size ∧ bL da (D (b * 2 ^ t / 2)) w3.heap.size ∧ Below w2.heap.size w2 wr) (fun _ _ i _ => (intOf i + 1).toNat)
   case atStart =>
    refine ⟨k + 1, List.replicate (kj + 1) 0, a, xa, da, xc, dc, Nat.le_refl _, by go_num, rfl, HRR.out, ?_, ?_, HB5.out, by simp, fun x hx => by simp at hx; omega, ?_, HAR.out, ?_, HBW5.out⟩
    · rw [hdd]
    · rw [hdd]; exact HRD.out
    · exact HST.out
    · rw [hdd]; exact HAD.out
   case round =>
    obtain ⟨t, qs, R, ra, da, rc, dc, ht, rfl, rfl, hrR, rfl, hrD, hBq, hql, hqf, hI, hAR, hAD, hbl⟩ := hrel
    by_cases ht0 : 0 < t
    · obtain ⟨i, rfl⟩ : ∃ i, t = i + 1 := ⟨t - 1, by omega⟩
      have e1 : (((i + 1 : Nat) : Int) - 1) = (i : Int) := by omega
      rw [e1]
      rw [tZ] at hrD hAD ⊢
      have hlr : (D R).length ≤ 2600 := HLN.out R (hI.le_a)
      have hld : (D (b * 2 ^ i)).length ≤ 2600 := HLD.out i (by omega)
      obtain ⟨j, ej⟩ : ∃ j, j = i / 32 := ⟨_, rfl⟩
      obtain ⟨p, ep⟩ : ∃ p, p = i % 32 := ⟨_, rfl⟩
      have ijI : (i : Int) / 32 = (j : Int) := by omega
      have ipI : (i : Int) % 32 = (p : Int) := by omega
      have hjb : j < kj + 1 := by have := EKJ.out; omega
      have hjI : (j : Int) < (kj : Int) + 1 := by omega
      have hpb : p < 32 := by omega
      have EJ := hid ej; have EP := hid ep
      clear ej ep
      have hge0 : (0 : Int) ≤ (i : Int) := by omega
      obtain ⟨dd, edd⟩ : ∃ dd, dd = b * 2 ^ i := ⟨_, rfl⟩
      rw [← edd] at hrD hAD hld ⊢
      have EDD := hid edd; clear edd
      by_cases hcm : dd ≤ R
      · have hcmp := iV hcm
        have HI := hid hI; clear hI
        obtain ⟨x0, ex0⟩ : ∃ x0, x0 = qs.getD j 0 := ⟨_, rfl⟩
        have hx0 : x0 < 4294967296 := by rw [ex0]; exact hqf.get j
        have hpl := HI.out.place
        rw [← EJ.out, ← EP.out, ← ex0] at hpl
        obtain ⟨hor, hob⟩ := BX hx0 hpb hpl.1
        have hset := HI.out.set (by rw [← EDD.out]; exact hcm) (by rw [← EJ.out]; omega)
        rw [← EJ.out, ← EP.out, ← ex0, ← EDD.out] at hset
        obtain ⟨tp, etp⟩ : ∃ tp, tp = 2 ^ p := ⟨_, rfl⟩
        rw [← etp] at hor hob hset
        have wsh : ((2 : Int) ^ p) = (tp : Int) := by rw [eI, etp]
        obtain ⟨x1, ex1⟩ : ∃ x1, x1 = x0 + tp := ⟨_, rfl⟩
        have wor : bits BinOp.or IntKind.u64 (x0 : Int) (tp : Int) = (x1 : Int) := by
         rw [bQ _ _ (by omega) (by omega), hor, ex1]
        rw [← ex1] at hset hob
        have htpb : tp < 18446744073709551616 := by omega
        have HSET := hid hset; have EX0 := hid ex0; have HOB := hid hob
        clear hset ex0 hob hor hpl etp ex1
        go_wp2_with fail
        refine (eZ ra da _ _ rc dc R dd _ rfl rfl (by omega) (by omega) hrR hrD).mono ?_
        rintro e v1 ⟨rfl, rfl⟩
        go_wp2_with fail
        refine (gP ra da _ _ rc dc R dd _ rfl rfl hcm (by omega) hrR hrD).mono ?_
        rintro e v2 ⟨sa, sc, rfl, hos, hbs⟩
        have hBq2 := hBq.keep hbs
        have hcq := hBq2.cell j (by omega)
        rw [← EX0.out] at hcq
        have hfq := hBq2.frozen j
        have hbl2 := hbl.trans (hbs.mono hbl.size)
        have hgs : v2.grownBy (v2.setCell ⟨w3.heap.size, j, none⟩ (.int .u64 (x1 : Int))) (some w3.heap.size) := aE _ _ _ _
        have hBq3 : Blk (v2.setCell ⟨w3.heap.size, j, none⟩ (.int .u64 (x1 : Int))) w3.heap.size (qs.set j x1) := hBq2.set _ _ _ rfl
        have hbl3 : Below w2.heap.size w2 (v2.setCell ⟨w3.heap.size, j, none⟩ (.int .u64 (x1 : Int))) := hbl2.setCell (by simpa using hgw) _
        have haps : bL sa (D (R - dd)) w3.heap.size := fO hos (by have := hBq.lt; omega)
        have hrs3 := (Rd.own hos).apart hgs haps
        have hrd3 := (hrD.below hbs).apart hgs hAD
        have HBq3 := hid hBq3; have Hbl3 := hid hbl3; have Hrs3 := hid hrs3; have Hrd3 := hid hrd3
        clear hBq3 hbl3 hrs3 hrd3 hBq2 hgs hos hbs hbl2
        go_wp2_with fail
        have hBq3 := HBq3.out; have hbl3 := Hbl3.out; have hrs3 := Hrs3.out; have hrd3 := Hrd3.out
        generalize v2.setCell ⟨w3.heap.size, j, none⟩ (.int .u64 (x1 : Int)) = v3 at hBq3 hbl3 hrs3 hrd3 ⊢
        clear HBq3 Hbl3 Hrs3 Hrd3 hcq hfq
        refine (gH da _ dc 1 dd _ rfl (by omega) (by omega) hrd3).mono ?_
        rw [Nat.pow_one]
        rintro e v4 ⟨ta, tc, rfl, hot, hbt⟩
        have hbl4 := hbl3.trans (hbt.mono hbl3.size)
        have hBq4 := hBq3.keep hbt
        have hrs4 := hrs3.below hbt
        have hrt4 := Rd.own hot
        have hapt : bL ta (D (dd / 2)) w3.heap.size := fO hot (by have := hBq3.lt; omega)
        have Hbl4 := hid hbl4; have HBq4 := hid hBq4; have Hrs4 := hid hrs4; have Hrt4 := hid hrt4; have Hapt := hid hapt; have Haps := hid haps
        clear hbl4 hBq4 hrs4 hrt4 hapt haps hot hbt hBq3 hbl3 hrs3 hrd3
        go_wp2_with fail
        go_roundw
        case rel =>
         have hfs : F32 (qs.set j x1) := by
          intro v hv
          rcases List.mem_or_eq_of_mem_set hv with hv | rfl
          · exact hqf v hv
          · exact HOB.out
         have R1 : ∃ (t : Nat) (qs : List Nat) (R' : Nat) (ra da : Option Addr) (rc dc : Nat), t ≤ k + 1 ∧ Value.int .i64 ((i : Int) - 1) = .int .i64 ((t : Int) - 1) ∧ Value.slice sa (D (R - dd)).length sc = .slice ra (D R').length rc ∧ Rd v4 ra (D R') ∧ Value.slice ta (D (dd / 2)).length tc = .slice da (D (b * 2 ^ t / 2)).length dc ∧ Rd v4 da (D (b * 2 ^ t / 2)) ∧ Blk v4 w3.heap.size qs ∧ qs.length = kj + 1 ∧ F32 qs ∧ BitI a b t qs R' ∧ bL ra (D R') w3.heap.size ∧ bL da (D (b * 2 ^ t / 2)) w3.heap.size ∧ Below w2.heap.size w2 v4 := by
          refine ⟨i, qs.set j x1, R - dd, sa, ta, sc, tc, by omega, rfl, rfl, Hrs4.out, ?_, ?_, HBq4.out, by rw [List.length_set]; exact hql, hfs, HSET.out, Haps.out, ?_, Hbl4.out⟩
          · rw [← EDD.out]
          · rw [← EDD.out]; exact Hrt4.out
          · rw [← EDD.out]; exact Hapt.out
         first | exact R1 | ((repeat apply Exists.intro); exact ⟨R1, rfl⟩)
        case measure => simp [intOf] <;> omega
      · have hcmp := vB (show R < dd by omega)
        have hset := hI.skip (by rw [← EDD.out]; omega)
        have HSET := hid hset; clear hset hI
        go_wp2_with fail
        refine (eZ ra da _ _ rc dc R dd _ rfl rfl (by omega) (by omega) hrR hrD).mono ?_
        rintro e v3 ⟨rfl, rfl⟩
        go_wp2_with fail
        refine (gH da _ dc 1 dd _ rfl (by omega) (by omega) hrD).mono ?_
        rw [Nat.pow_one]
        rintro e v4 ⟨ta, tc, rfl, hot, hbt⟩
        have hbl4 := hbl.trans (hbt.mono hbl.size)
        have hBq4 := hBq.keep hbt
        have hrs4 := hrR.below hbt
        have hrt4 := Rd.own hot
        have hapt : bL ta (D (dd / 2)) w3.heap.size := fO hot (by have := hBq.lt; omega)
        have Hbl4 := hid hbl4; have HBq4 := hid hBq4; have Hrs4 := hid hrs4; have Hrt4 := hid hrt4; have Hapt := hid hapt
        clear hbl4 hBq4 hrs4 hrt4 hapt hot hbt
        go_wp2_with fail
        go_roundw
        case rel =>
         have R1 : ∃ (t : Nat) (qs : List Nat) (R' : Nat) (ra' da : Option Addr) (rc' dc : Nat), t ≤ k + 1 ∧ Value.int .i64 ((i : Int) - 1) = .int .i64 ((t : Int) - 1) ∧ Value.slice ra (D R).length rc = .slice ra' (D R').length rc' ∧ Rd v4 ra' (D R') ∧ Value.slice ta (D (dd / 2)).length tc = .slice da (D (b * 2 ^ t / 2)).length dc ∧ Rd v4 da (D (b * 2 ^ t / 2)) ∧ Blk v4 w3.heap.size qs ∧ qs.length = kj + 1 ∧ F32 qs ∧ BitI a b t qs R' ∧ bL ra' (D R') w3.heap.size ∧ bL da (D (b * 2 ^ t / 2)) w3.heap.size ∧ Below w2.heap.size w2 v4 := by
          refine ⟨i, qs, R, ra, ta, rc, tc, by omega, rfl, rfl, Hrs4.out, ?_, ?_, HBq4.out, hql, hqf, HSET.out, hAR, ?_, Hbl4.out⟩
          · rw [← EDD.out]
          · rw [← EDD.out]; exact Hrt4.out
          · rw [← EDD.out]; exact Hapt.out
         first | exact R1 | ((repeat apply Exists.intro); exact ⟨R1, rfl⟩)
        case measure => simp [intOf] <;> omega
    · have e : t = 0 := by omega
      subst e
      obtain ⟨hq, hR⟩ := hI.done
      have hge0 : ¬ (0 : Int) ≤ ((0 : Nat) : Int) - 1 := by omega
      have hrdq := hBq.rd0
      have HQ := hid hq; have HR := hid hR
      clear hI hq hR hrD hAD
      go_wp2_with fail
      refine (aZ 4294967296 (by omega) _ (kj + 1) (kj + 1) qs _ hql (Nat.le_refl _) (by omega) hqf hrdq).mono ?_
      rw [show M.val 4294967296 qs = a / b from HQ.out]
      rintro e v1 ⟨qa, qc, rfl, hoq, hbq⟩
      go_wp2_with fail
      go_ret2
      rw [← HR.out]
      exact ⟨qa, qc, ra, rc, rfl, Rd.own hoq, hrR.below hbq, hbl.trans (hbq.mono hbl.size), dC hoq⟩

theorem aV {w w' : World} (h : Below w.heap.size w w') (row : Option Nat) : w.grownBy w' row := ⟨h.os, h.tape, h.output, h.size, fun k hk _ => h.block k hk⟩

theorem Rd.gb {w w' : World} {ao : Option Addr} {xs : List Nat} {g : Nat} (h : Rd w ao xs) (hs : bL ao xs g) (hg : w.grownBy w' (some g)) : Rd w' ao xs := h.apart hg hs

theorem xR (g : Nat) (e0 e1 e2 e3 e4 : Int) (e5 : Bool) (a b : Option Addr) (c d N De Z : Nat) (q : Int) (w : World) (hB : Rb w g e0 e1 e2 e3 e4 e5 a (L N).length c b (L De).length d Z q) (ra : Rd w a (L N)) (rb : Rd w b (L De)) (sa : bL a (L N) g) (sb : bL b (L De) g)
 (E qm Q : Int) (he0 : 0 ≤ e0) (he0' : e0 ≤ 200) (hE1 : -100000 ≤ E) (hE2 : E ≤ 100000) (hQ : max (E - e0 + 1) qm = Q) (hQ1 : -100000 ≤ Q) (hQ2 : Q ≤ 100000)
 (kE : ∀ v : World, Rb v g e0 e1 e2 e3 e4 e5 a (L N).length c b (L De).length d Z q → Rd v a (L N) → Rd v b (L De) → Calls Tryz.prog 142 #[.pointer (some ⟨g, 0, none⟩)] v fun e w' => e = .returned (.int .i64 E) ∧ Below v.heap.size v w')
 (kQ : ∀ v : World, Calls Tryz.prog 70 #[.agg #[.int .i64 e0, .int .i64 e1, .int .i64 e2, .int .i64 e3, .int .i64 e4, .bool e5]] v fun e w' => e = .returned (.int .i64 qm) ∧ Below v.heap.size v w')
 (s1 s2 : Int) (hs1 : max (-Q) 0 = s1) (hs2 : max Q 0 = s2) (X Y : Nat)
 (kX : ∀ v : World, Rd v a (L N) → Calls Tryz.prog 77 #[.slice a (L N).length c, .int .i64 s1] v fun e w' => Ret v w' e (L X))
 (kY : ∀ v : World, Rd v b (L De) → Calls Tryz.prog 77 #[.slice b (L De).length d, .int .i64 s2] v fun e w' => Ret v w' e (L Y)) :
 Calls Tryz.prog 120 #[.pointer (some ⟨g, 0, none⟩)] w fun e w' => (∃ v, e = .returned v) ∧ ∃ (a1 : Option Addr) (c1 : Nat) (a2 : Option Addr) (c2 : Nat), Rb w' g e0 e1 e2 e3 e4 e5 a1 (L X).length c1 a2 (L Y).length c2 Z Q ∧ Rd w' a1 (L X) ∧ Rd w' a2 (L Y) ∧ bL a1 (L X) g ∧ bL a2 (L Y) g ∧ w.grownBy w' (some g) := by
 have w1 : IntKind.i64.wrap (E - e0) = E - e0 := by rw [IntKind.wrap_i64]; omega
 have w2 : IntKind.i64.wrap (E - e0 + 1) = E - e0 + 1 := by rw [IntKind.wrap_i64]; omega
 have w3 : IntKind.i64.wrap (-Q) = -Q := by rw [IntKind.wrap_i64]; omega
 have hQ' : (if E - e0 + 1 < qm then qm else E - e0 + 1) = Q := by split <;> omega
 have hs1' : (if -Q < 0 then 0 else -Q) = s1 := by split <;> omega
 have hs2' : (if Q < 0 then 0 else Q) = s2 := by split <;> omega
 have lg : g < w.heap.size := Cls.lt hB
 go_enter Tryz.func120, Tryz.ntmps120
 go_upto_region 0 with fail
 go_cut [18] (fun x wx => x = .pointer (some ⟨g, 0, none⟩) ∧ Rb wx g e0 e1 e2 e3 e4 e5 a (L N).length c b (L De).length d Z Q ∧ w.grownBy wx (some g))
 case first =>
  have A0 : Below w.heap.size w w.drew := (Below.refl _ _).drew
  have KB : ∀ v, Below w.heap.size w v → (fun v => v.cell? ⟨g, 0, none⟩ = some (.int .i64 e0) ∧ v.cell? ⟨g, 1, none⟩ = some (.int .i64 e1) ∧ v.cell? ⟨g, 2, none⟩ = some (.int .i64 e2) ∧ v.cell? ⟨g, 3, none⟩ = some (.int .i64 e3) ∧ v.cell? ⟨g, 4, none⟩ = some (.int .i64 e4) ∧ v.cell? ⟨g, 5, none⟩ = some (.bool e5)) v := fun v hv => ⟨Cls.cell (hB.below hv) 0 rfl, Cls.cell (hB.below hv) 1 rfl, Cls.cell (hB.below hv) 2 rfl, Cls.cell (hB.below hv) 3 rfl, Cls.cell (hB.below hv) 4 rfl, Cls.cell (hB.below hv) 5 rfl⟩
  have KS : ∀ v x, Below w.heap.size w v → (fun v => v.cell? ⟨g, 0, none⟩ = some (.int .i64 e0) ∧ v.cell? ⟨g, 1, none⟩ = some (.int .i64 e1) ∧ v.cell? ⟨g, 2, none⟩ = some (.int .i64 e2) ∧ v.cell? ⟨g, 3, none⟩ = some (.int .i64 e3) ∧ v.cell? ⟨g, 4, none⟩ = some (.int .i64 e4) ∧ v.cell? ⟨g, 5, none⟩ = some (.bool e5)) (v.setCell ⟨g, 10, none⟩ x) := fun v x hv => by
   have h := Cls.set (hB.below hv) 10 x _ rfl
   exact ⟨h.cell 0 rfl, h.cell 1 rfl, h.cell 2 rfl, h.cell 3 rfl, h.cell 4 rfl, h.cell 5 rfl⟩
  go_region_held3 (fun v => v.cell? ⟨g, 0, none⟩ = some (.int .i64 e0) ∧ v.cell? ⟨g, 1, none⟩ = some (.int .i64 e1) ∧ v.cell? ⟨g, 2, none⟩ = some (.int .i64 e2) ∧ v.cell? ⟨g, 3, none⟩ = some (.int .i64 e3) ∧ v.cell? ⟨g, 4, none⟩ = some (.int .i64 e4) ∧ v.cell? ⟨g, 5, none⟩ = some (.bool e5)) (first | with_reducible exact KB _ hb2 | with_reducible exact KB _ hb1 | with_reducible exact KB _ A0 | with_reducible exact KS _ _ hb2)
   (first | (have hq := hb1; clear hq; go_at_call 70; refine (kQ _).mono ?_; rintro e u2 ⟨rfl, hb0⟩; have hb2 := aB (w1 := w) hb1 hb0; clear hb0; have b10 := Cls.cell (hB.below hb2) 10 rfl; have f10 := Cls.frozen (hB.below hb2) 10) | (go_at_call 142; refine (kE _ (hB.below A0) (ra.below A0) (rb.below A0)).mono ?_; rintro e u1 ⟨rfl, hb0⟩; have hb1 := aB (w1 := w) A0 hb0; clear hb0))
  all_goals go_wp2_with fail
  all_goals go_meet
  all_goals exact ⟨rfl, Cls.set (hB.below hb2) 10 _ _ rfl, aA (aV hb2 _) (aE _ _ _ _)⟩
 case rest =>
 obtain ⟨rfl, hB1, hg1⟩ := hcut
 replace ra := ra.gb sa hg1
 replace rb := rb.gb sb hg1
 clear hB kE kQ
 have lg1 : g < wc.heap.size := Cls.lt hB1
 go_upto_region 1 with fail
 go_cut [32] (fun x wx => x = .pointer (some ⟨g, 0, none⟩) ∧ ∃ (a1 : Option Addr) (c1 : Nat), Rb wx g e0 e1 e2 e3 e4 e5 a1 (L X).length c1 b (L De).length d Z Q ∧ Rd wx a1 (L X) ∧ bL a1 (L X) g ∧ wc.grownBy wx (some g))
 case first =>
  have A0 : Below wc.heap.size wc wc.drew := (Below.refl _ _).drew
  have c6 := Cls.cell (hB1.below A0) 6 rfl
  have c10 := Cls.cell (hB1.below A0) 10 rfl
  have d6 := Cls.cell hB1 6 rfl
  have d10 := Cls.cell hB1 10 rfl
  go_region_with (first | (go_at_call 77; refine (kX _ (ra.below A0)).mono ?_; rintro e u1 ⟨x1, k1, rfl, o1, hb0⟩; have hb1 := aB (w1 := wc) A0 hb0; clear hb0; have b6 := Cls.cell (hB1.below hb1) 6 rfl; have f6 := Cls.frozen (hB1.below hb1) 6))
  all_goals go_wp2_with fail
  all_goals go_meet
  all_goals (have ap := fO (g := g) o1 lg1; exact ⟨rfl, x1, k1, Cls.set (hB1.below hb1) 6 _ _ rfl, (Rd.own o1).apart (aE u1 g 6 _) ap, ap, aA (aV hb1 _) (aE _ _ _ _)⟩)
 case rest =>
 rename_i wd
 obtain ⟨rfl, x1, k1, hB2, rx, sx, hg2⟩ := hcut
 replace rb := rb.gb sb hg2
 have hg12 := aA hg1 hg2
 clear hB1 kX ra sa hg1 hg2
 have lg2 : g < wc.heap.size := Cls.lt hB2
 go_upto_region 2 with fail
 have A0 : Below wc.heap.size wc wc.drew := (Below.refl _ _).drew
 have c7 := Cls.cell (hB2.below A0) 7 rfl
 have c10 := Cls.cell (hB2.below A0) 10 rfl
 have d7 := Cls.cell hB2 7 rfl
 have d10 := Cls.cell hB2 10 rfl
 go_region_with (first | (go_at_call 77; refine (kY _ (rb.below A0)).mono ?_; rintro e u1 ⟨x2, k2, rfl, o1, hb0⟩; have hb1 := aB (w1 := wc) A0 hb0; clear hb0; have b7 := Cls.cell (hB2.below hb1) 7 rfl; have f7 := Cls.frozen (hB2.below hb1) 7))
 all_goals go_wp2_with fail
 all_goals go_end0
 all_goals (have ap := fO (g := g) o1 lg2; have gg := aA (aV hb1 _) (aE u1 g 7 (.slice x2 (L Y).length k2)); exact ⟨⟨_, rfl⟩, x1, k1, x2, k2, Cls.set (hB2.below hb1) 7 _ _ rfl, rx.gb sx gg, (Rd.own o1).apart (aE u1 g 7 _) ap, sx, ap, aA hg12 gg⟩)

theorem Own.away {w : World} {lo hi : Nat} {ao : Option Addr} {cap : Nat} {r : List Nat} {g : Nat} (h : Own w lo hi ao cap r) (hg : g < lo) : bL ao r g := by
 intro hp b2 o2 e
 obtain ⟨g', e', _⟩ := nX h.row hp
 rw [e] at e'
 simp only [Option.some.injEq, Addr.mk.injEq] at e'
 obtain ⟨rfl, rfl, _⟩ := e'
 have := (h.place b2 (by rw [e]; rfl)).1
 omega

theorem Rb.set2 {v : World} {g : Nat} {e0 e1 e2 e3 e4 : Int} {e5 : Bool} {a b : Option Addr} {n c m d Z : Nat} {q : Int} (h : Rb v g e0 e1 e2 e3 e4 e5 a n c b m d Z q) (Y : Nat) : Rb ((v.setCell ⟨g, 8, none⟩ (.int .u64 (M.hiN Y : Int))).setCell ⟨g, 9, none⟩ (.int .u64 (M.loN Y : Int))) g e0 e1 e2 e3 e4 e5 a n c b m d Y q :=
 Cls.set (Cls.set h 8 _ _ rfl) 9 _ _ rfl

theorem xB (v : World) (g i j : Nat) (x y : Value) : v.grownBy ((v.setCell ⟨g, i, none⟩ x).setCell ⟨g, j, none⟩ y) (some g) := aA (aE _ _ _ _) (aE _ _ _ _)

theorem zE (g : Nat) (e0 e1 e2 e3 e4 : Int) (e5 : Bool) (a b : Option Addr) (c d N De Z : Nat) (q : Int) (w : World) (hB : Rb w g e0 e1 e2 e3 e4 e5 a (L N).length c b (L De).length d Z q) (ra : Rd w a (L N)) (rb : Rd w b (L De)) (sa : bL a (L N) g) (sb : bL b (L De) g)
 (S0 R0 : Nat) (kD : ∀ v : World, Rd v a (L N) → Rd v b (L De) → Calls Tryz.prog 103 #[.slice a (L N).length c, .slice b (L De).length d] v fun e w' => BR v w' e (L S0) (L R0))
 (kW : ∀ (v : World) (ao : Option Addr) (cc : Nat), Rd v ao (L S0) → Calls Tryz.prog 143 #[.slice ao (L S0).length cc] v fun e w' => e = .returned (.agg #[.int .u64 (M.hiN S0 : Int), .int .u64 (M.loN S0 : Int)]) ∧ Below v.heap.size v w')
 (kS : ∀ (v : World) (ao : Option Addr) (cc : Nat), Rd v ao (L R0) → Calls Tryz.prog 77 #[.slice ao (L R0).length cc, .int .i64 1] v fun e w' => Ret v w' e (L (R0 * 2)))
 (cz : Int) (kC : ∀ (v : World) (ao : Option Addr) (cc : Nat), Rd v ao (L (R0 * 2)) → Rd v b (L De) → Calls Tryz.prog 83 #[.slice ao (L (R0 * 2)).length cc, .slice b (L De).length d] v fun e w' => e = .returned (.int .i64 cz) ∧ ∃ q, w' = v.drewN q)
 (kV : ∀ v : World, Calls Tryz.prog 78 #[.agg #[.int .u64 (M.hiN S0 : Int), .int .u64 (M.loN S0 : Int)]] v fun e w' => e = .returned (.bool (decide (S0 % 2 = 0))) ∧ Below v.heap.size v w')
 (kP : ∀ v : World, Calls Tryz.prog 67 #[.agg #[.int .u64 (M.hiN S0 : Int), .int .u64 (M.loN S0 : Int)], .agg #[.int .u64 0, .int .u64 1]] v fun e w' => e = .returned (.agg #[.int .u64 (M.hiN (S0 + 1) : Int), .int .u64 (M.loN (S0 + 1) : Int)]) ∧ Below v.heap.size v w')
 (S1 : Nat) (hS1 : S1 = if 0 < cz ∨ (cz = 0 ∧ S0 % 2 = 1) then S0 + 1 else S0) :
 Calls Tryz.prog 121 #[.pointer (some ⟨g, 0, none⟩)] w fun e w' => (∃ v, e = .returned v) ∧ Rb w' g e0 e1 e2 e3 e4 e5 a (L N).length c b (L De).length d S1 q ∧ w.grownBy w' (some g) := by
 have HS1 := hid hS1; clear hS1
 have lg : g < w.heap.size := Cls.lt hB
 go_enter Tryz.func121, Tryz.ntmps121
 go_upto_region 0 with fail
 go_cut [2, 3] (fun x y wx => ∃ (a1 : Option Addr) (c1 : Nat) (a2 : Option Addr) (c2 : Nat), x = .slice a1 (L S0).length c1 ∧ y = .slice a2 (L R0).length c2 ∧ Rd wx a1 (L S0) ∧ Rd wx a2 (L R0) ∧ bL a2 (L R0) g ∧ Below w.heap.size w wx)
 case first =>
  have A0 : Below w.heap.size w w.drew := (Below.refl _ _).drew
  have c6 := Cls.cell (hB.below A0) 6 rfl
  have c7 := Cls.cell (hB.below A0) 7 rfl
  have d6 := Cls.cell hB 6 rfl
  have d7 := Cls.cell hB 7 rfl
  go_region_with (first | (go_at_call 103; refine (kD _ (ra.below A0) (rb.below A0)).mono ?_; rintro e u1 ⟨a1, c1, a2, c2, mid, rfl, g1, g2, o1, o2, hb0⟩; have hb1 := aB (w1 := w) A0 hb0; clear hb0))
  all_goals go_wp2_with fail
  all_goals go_meet
  all_goals exact ⟨a1, c1, a2, c2, rfl, rfl, o1.rd, o2.rd, o2.away (Nat.lt_of_lt_of_le lg g1), hb1⟩
 case rest =>
 obtain ⟨a1, c1, a2, c2, rfl, rfl, r1, r2, s2, hbx⟩ := hcut
 replace hB := hB.below hbx
 replace rb := rb.below hbx
 clear kD ra sa
 go_wp2_with fail
 refine (kW _ _ _ r1).mono ?_
 rintro e v2 ⟨rfl, hb2⟩
 replace hB := hB.below hb2
 replace rb := rb.below hb2
 replace r2 := r2.below hb2
 replace hbx := hbx.trans (hb2.mono hbx.size)
 clear kW r1 hb2
 have b8 := Cls.cell hB 8 rfl
 have b9 := Cls.cell hB 9 rfl
 have f8 := Cls.frozen hB 8
 have f9 := Cls.frozen hB 9
 go_upto_region 2 with fail
 clear b8 b9 f8 f9
 have gg := xB v2 g 8 9 (.int .u64 (M.hiN S0 : Int)) (.int .u64 (M.loN S0 : Int))
 replace hB := hB.set2 S0
 replace rb := rb.gb sb gg
 replace r2 := r2.gb s2 gg
 have hg := aA (aV hbx (some g)) gg
 clear gg hbx
 generalize ((v2.setCell ⟨g, 8, none⟩ (.int .u64 (M.hiN S0 : Int))).setCell ⟨g, 9, none⟩ (.int .u64 (M.loN S0 : Int))) = v3 at *
 go_cut [4] (fun x wx => x = .int .i64 cz ∧ Below v3.heap.size v3 wx)
 case first =>
  have A0 : Below v3.heap.size v3 v3.drew := (Below.refl _ _).drew
  have KB : ∀ v, Below v3.heap.size v3 v → (fun v => v.cell? ⟨g, 7, none⟩ = some (.slice b (L De).length d)) v := fun v hv => Cls.cell (hB.below hv) 7 rfl
  go_region_held3 (fun v => v.cell? ⟨g, 7, none⟩ = some (.slice b (L De).length d)) (first | with_reducible exact KB _ hb2 | with_reducible exact KB _ hb1 | with_reducible exact KB _ A0)
   (first | (have hq := hb1; clear hq; go_at_call 83; refine (kC _ _ _ rt (rb.below hb1)).mono ?_; rintro e u2 ⟨rfl, qq, hu2⟩; have hb2 := DQ (w1 := v3) hb1 hu2; clear hu2) | (go_at_call 77; refine (kS _ _ _ (r2.below A0)).mono ?_; rintro e u1 ⟨x1, k1, rfl, o1, hb0⟩; have hb1 := aB (w1 := v3) A0 hb0; have rt := Rd.own o1; clear hb0 o1))
  all_goals go_wp2_with fail
  all_goals go_meet
  all_goals exact ⟨rfl, hb2⟩
 case rest =>
 obtain ⟨rfl, hbx⟩ := hcut
 replace hB := hB.below hbx
 replace hg := aA hg (aV hbx (some g))
 clear kS kC r2 rb s2 sb hbx
 go_upto_region 3 with fail
 go_cut [42] (fun x wx => x = .bool (decide (0 < cz ∨ (cz = 0 ∧ S0 % 2 = 1))) ∧ Below wc.heap.size wc wx)
 case first =>
  by_cases hp : 0 < cz
  · have e1 : decide (0 < cz ∨ (cz = 0 ∧ S0 % 2 = 1)) = true := decide_eq_true (.inl hp)
    have E1 := hid e1; clear e1
    go_wp2_with fail
    go_meet
    case rel => exact ⟨by rw [E1.out], Below.refl _ _⟩
  · by_cases hz : cz = 0
    · have hzb : (cz == 0) = true := by simp [hz]
      have e1 : decide (0 < cz ∨ (cz = 0 ∧ S0 % 2 = 1)) = !(decide (S0 % 2 = 0)) := by
       rw [Bool.eq_iff_iff]; simp only [decide_eq_true_eq, Bool.not_eq_true', decide_eq_false_iff_not]; omega
      have HZ := hid hz; clear hz
      have E1 := hid e1; clear e1
      have b8 := Cls.cell hB 8 rfl
      have b9 := Cls.cell hB 9 rfl
      generalize hbz : decide (S0 % 2 = 0) = bz at *
      go_wp2_with (go_at_call 78; refine (kV _).mono ?_; rintro e v9 ⟨rfl, hb9⟩)
      go_meet
      case rel => exact ⟨by rw [E1.out], hb9⟩
    · have hzb : (cz == 0) = false := by simp [hz]
      have e1 : decide (0 < cz ∨ (cz = 0 ∧ S0 % 2 = 1)) = false := decide_eq_false (by omega)
      have E1 := hid e1; clear e1
      go_wp2_with fail
      go_meet
      case rel => exact ⟨by rw [E1.out], Below.refl _ _⟩
 case rest =>
 obtain ⟨rfl, hbx⟩ := hcut
 replace hB := hB.below hbx
 replace hg := aA hg (aV hbx (some g))
 clear kV hbx
 have h := HS1.out
 by_cases hp : 0 < cz ∨ (cz = 0 ∧ S0 % 2 = 1)
 · rw [if_pos hp] at h
   have e1 : decide (0 < cz ∨ (cz = 0 ∧ S0 % 2 = 1)) = true := decide_eq_true hp
   rw [e1]
   have HP := hid hp; have H := hid h; clear hp h e1
   have b8 := Cls.cell hB 8 rfl
   have b9 := Cls.cell hB 9 rfl
   go_wp2_with fail
   refine (kP _).mono ?_
   rintro e v4 ⟨rfl, hb4⟩
   replace hB := hB.below hb4
   replace hg := aA hg (aV hb4 (some g))
   clear b8 b9 kP hb4
   have b8 := Cls.cell hB 8 rfl
   have b9 := Cls.cell hB 9 rfl
   have f8 := Cls.frozen hB 8
   have f9 := Cls.frozen hB 9
   have HH := hid (And.intro (hB.set2 (S0 + 1)) (aA hg (xB v4 g 8 9 (.int .u64 (M.hiN (S0 + 1) : Int)) (.int .u64 (M.loN (S0 + 1) : Int)))))
   clear hB hg
   go_wp2_with fail
   go_end0
   exact ⟨⟨_, rfl⟩, by rw [H.out]; exact HH.out.1, HH.out.2⟩
 · rw [if_neg hp] at h
   have e1 : decide (0 < cz ∨ (cz = 0 ∧ S0 % 2 = 1)) = false := decide_eq_false hp
   rw [e1]
   have HP := hid hp; have H := hid h; clear hp h e1
   have HH := hid (And.intro hB hg)
   clear hB hg
   go_wp2_with fail
   go_end0
   exact ⟨⟨_, rfl⟩, by rw [H.out]; exact HH.out.1, HH.out.2⟩

theorem vL (g : Nat) (e0 e1 e2 e3 e4 : Int) (e5 : Bool) (a b : Option Addr) (n c m d S1 : Nat) (q : Int) (w : World) (hB : Rb w g e0 e1 e2 e3 e4 e5 a n c b m d S1 q)
 (B Ld : Nat) (kA : ∀ v : World, Calls Tryz.prog 93 #[.int .i64 e0] v fun e w' => e = .returned (.agg #[.int .u64 (M.hiN B : Int), .int .u64 (M.loN B : Int)]) ∧ Below v.heap.size v w') (kL : ∀ v : World, Calls Tryz.prog 68 #[.agg #[.int .i64 e0, .int .i64 e1, .int .i64 e2, .int .i64 e3, .int .i64 e4, .bool e5]] v fun e w' => e = .returned (.agg #[.int .u64 (M.hiN Ld : Int), .int .u64 (M.loN Ld : Int)]) ∧ Below v.heap.size v w')
 (hq1 : -100000 ≤ q) (hq2 : q ≤ 100001) (S : Nat) (X : Int) (hS : S = if S1 = B then Ld else S1) (hX : X = if S1 = B then q + 1 else q) :
 Calls Tryz.prog 122 #[.pointer (some ⟨g, 0, none⟩)] w fun e w' => (∃ v, e = .returned v) ∧ Rb w' g e0 e1 e2 e3 e4 e5 a n c b m d S X ∧ w.grownBy w' (some g) := by
 have HS := hid hS; have HX := hid hX; clear hS hX
 have w1 : IntKind.i64.wrap (q + 1) = q + 1 := by rw [IntKind.wrap_i64]; omega
 go_enter Tryz.func122, Tryz.ntmps122
 go_upto_region 0 with fail
 go_cut [12] (fun x wx => x = .bool (decide (S1 = B)) ∧ Below w.heap.size w wx)
 case first =>
  have A0 : Below w.heap.size w w.drew := (Below.refl _ _).drew
  have KB : ∀ v, Below w.heap.size w v → (fun v => v.cell? ⟨g, 8, none⟩ = some (.int .u64 (M.hiN S1 : Int)) ∧ v.cell? ⟨g, 9, none⟩ = some (.int .u64 (M.loN S1 : Int)) ∧ v.cell? ⟨g, 0, none⟩ = some (.int .i64 e0)) v := fun v hv => ⟨Cls.cell (hB.below hv) 8 rfl, Cls.cell (hB.below hv) 9 rfl, Cls.cell (hB.below hv) 0 rfl⟩
  by_cases heq : S1 = B
  · have E1 : Hid (decide (S1 = B) = true) := decide_eq_true heq
    subst heq
    go_region_held3 (fun v => v.cell? ⟨g, 8, none⟩ = some (.int .u64 (M.hiN S1 : Int)) ∧ v.cell? ⟨g, 9, none⟩ = some (.int .u64 (M.loN S1 : Int)) ∧ v.cell? ⟨g, 0, none⟩ = some (.int .i64 e0)) (first | with_reducible exact KB _ hb1 | with_reducible exact KB _ A0) (first | (go_at_call 93; refine (kA _).mono ?_; rintro e u1 ⟨rfl, hb0⟩; have hb1 := aB (w1 := w) A0 hb0; clear hb0))
    all_goals go_wp2_with fail
    all_goals go_meet
    all_goals exact ⟨by rw [E1.out], hb1⟩
  · have E1 : Hid (decide (S1 = B) = false) := decide_eq_false heq
    by_cases q0 : M.hiN S1 = M.hiN B
    · have q1 : ¬ M.loN S1 = M.loN B := fun hh => heq (M.uI q0 hh)
      have q2 : ((M.loN S1 : Int) == (M.loN B : Int)) = false := by simp; omega
      have q3 : ((M.hiN S1 : Int) == (M.hiN B : Int)) = true := by simp; omega
      have H0 := hid q0; have H1 := hid q1; have H2 := hid heq; clear q0 q1 heq
      go_region_held3 (fun v => v.cell? ⟨g, 8, none⟩ = some (.int .u64 (M.hiN S1 : Int)) ∧ v.cell? ⟨g, 9, none⟩ = some (.int .u64 (M.loN S1 : Int)) ∧ v.cell? ⟨g, 0, none⟩ = some (.int .i64 e0)) (first | with_reducible exact KB _ hb1 | with_reducible exact KB _ A0) (first | (go_at_call 93; refine (kA _).mono ?_; rintro e u1 ⟨rfl, hb0⟩; have hb1 := aB (w1 := w) A0 hb0; clear hb0))
      all_goals go_wp2_with fail
      all_goals go_meet
      all_goals exact ⟨by rw [E1.out], hb1⟩
    · have q2 : ((M.hiN S1 : Int) == (M.hiN B : Int)) = false := by simp; omega
      have H0 := hid q0; have H2 := hid heq; clear q0 heq
      go_region_held3 (fun v => v.cell? ⟨g, 8, none⟩ = some (.int .u64 (M.hiN S1 : Int)) ∧ v.cell? ⟨g, 9, none⟩ = some (.int .u64 (M.loN S1 : Int)) ∧ v.cell? ⟨g, 0, none⟩ = some (.int .i64 e0)) (first | with_reducible exact KB _ hb1 | with_reducible exact KB _ A0) (first | (go_at_call 93; refine (kA _).mono ?_; rintro e u1 ⟨rfl, hb0⟩; have hb1 := aB (w1 := w) A0 hb0; clear hb0))
      all_goals go_wp2_with fail
      all_goals go_meet
      all_goals exact ⟨by rw [E1.out], hb1⟩
 case rest =>
 obtain ⟨rfl, hbx⟩ := hcut
 replace hB := hB.below hbx
 have hg := aV hbx (some g)
 clear hbx kA
 have h1 := HS.out
 have h2 := HX.out
 by_cases heq : S1 = B
 · rw [if_pos heq] at h1 h2
   have e1 : decide (S1 = B) = true := decide_eq_true heq
   rw [e1]
   have H0 := hid heq; have H1 := hid h1; have H2 := hid h2; clear heq h1 h2 e1
   have b0 := Cls.cell hB 0 rfl
   have b1 := Cls.cell hB 1 rfl
   have b2 := Cls.cell hB 2 rfl
   have b3 := Cls.cell hB 3 rfl
   have b4 := Cls.cell hB 4 rfl
   have b5 := Cls.cell hB 5 rfl
   go_wp2_with fail
   refine (kL _).mono ?_
   rintro e v2 ⟨rfl, hb2⟩
   replace hB := hB.below hb2
   replace hg := aA hg (aV hb2 (some g))
   clear hb2 b0 b1 b2 b3 b4 b5 kL
   have b8 := Cls.cell hB 8 rfl
   have b9 := Cls.cell hB 9 rfl
   have f8 := Cls.frozen hB 8
   have f9 := Cls.frozen hB 9
   go_upto_region 2 with fail
   clear b8 b9 f8 f9
   replace hB := hB.set2 Ld
   replace hg := aA hg (xB v2 g 8 9 (.int .u64 (M.hiN Ld : Int)) (.int .u64 (M.loN Ld : Int)))
   generalize ((v2.setCell ⟨g, 8, none⟩ (.int .u64 (M.hiN Ld : Int))).setCell ⟨g, 9, none⟩ (.int .u64 (M.loN Ld : Int))) = v3 at *
   have b10 := Cls.cell hB 10 rfl
   have f10 := Cls.frozen hB 10
   have HH := hid (And.intro (Cls.set hB 10 (.int .i64 (q + 1)) _ rfl) (aA hg (aE v3 g 10 (.int .i64 (q + 1)))))
   clear hB hg
   go_wp2_with fail
   go_end0
   refine ⟨⟨_, rfl⟩, ?_, HH.out.2⟩
   rw [H1.out, H2.out]
   exact HH.out.1
 · rw [if_neg heq] at h1 h2
   have e1 : decide (S1 = B) = false := decide_eq_false heq
   rw [e1]
   have H0 := hid heq; have H1 := hid h1; have H2 := hid h2; clear heq h1 h2 e1
   have HH := hid (And.intro hB hg)
   clear hB hg
   go_wp2_with fail
   go_end0
   refine ⟨⟨_, rfl⟩, ?_, HH.out.2⟩
   rw [H1.out, H2.out]
   exact HH.out.1

end Go.Proofs.YtdfljbpcjkbflaaGreatDoor
