import Derived.Test.YtehplfmnipadmadSml
import Derived.Test.YtehplfmnipadmadZBJ
import Derived.Test.YtehplfmnipadmadByw
import Derived.Deep.LoopGhost
import Derived.Lib.SlBytesConst
namespace Go.Proofs.Ytehplfmnipadmad
open Go.RowKit
set_option linter.unusedVariables false
set_option maxRecDepth 100000

theorem D_zero (v : Nat) : (D v).length = 0 ↔ v = 0 := by
  constructor
  · intro h
    have := D_lt v 0 (by omega)
    omega
  · rintro rfl
    have := M.len_of_lt (B := 4294967296) (by omega) 0 0 (by omega)
    have e : (D 0).length ≤ 0 := this
    omega

/-- What is asked of an answer that is a list of bytes. -/
def RetY (w w' : World) (e : Ending) (r : List Nat) : Prop :=
  ∃ ra rc, e = .returned (.slice ra r.length rc) ∧ w'.ownsRow w.heap.size 5 1 (.slice ra r.length rc) r.length (UB r) ∧ Below w.heap.size w w'

theorem RetY.later {w0 w w' : World} {e : Ending} {r : List Nat} (h : RetY w w' e r) (hb : Below w0.heap.size w0 w) : RetY w0 w' e r := by
  obtain ⟨ra, rc, h1, h2, h3⟩ := h
  exact ⟨ra, rc, h1, ownY_base h2 hb.size, hb.trans (h3.mono hb.size)⟩

/-- What can be read of an answer that is a list of bytes. -/
def RetR (w w' : World) (e : Ending) (r : List Nat) : Prop :=
  ∃ ra rc, e = .returned (.slice ra r.length rc) ∧ RdY w' ra r ∧ r.length ≤ rc ∧ Below w.heap.size w w'

theorem RetY.toR {w w' : World} {e : Ending} {r : List Nat} (h : RetY w w' e r) : RetR w w' e r := by
  obtain ⟨ra, rc, h1, h2, h3⟩ := h
  exact ⟨ra, rc, h1, RdY.own h2, ownY_cap h2, h3⟩

theorem RetR.later {w0 w w' : World} {e : Ending} {r : List Nat} (h : RetR w w' e r) (hb : Below w0.heap.size w0 w) : RetR w0 w' e r := by
  obtain ⟨ra, rc, h1, h2, h4, h3⟩ := h
  exact ⟨ra, rc, h1, h2, h4, hb.trans (h3.mono hb.size)⟩

theorem small_split (u t : Nat) (h : t ≤ 9) : u / 10 ^ t = u / 1000000000 * 10 ^ (9 - t) + u % 1000000000 / 10 ^ t := by
  have e : (1000000000 : Nat) = 10 ^ t * 10 ^ (9 - t) := by rw [← Nat.pow_add, show t + (9 - t) = 9 by omega]
  have h1 : 10 ^ t * (10 ^ (9 - t) * (u / 1000000000)) + u % 1000000000 = u := by
    rw [← Nat.mul_assoc, ← e]; exact Nat.div_add_mod u 1000000000
  have h2 : u / 10 ^ t = (10 ^ t * (10 ^ (9 - t) * (u / 1000000000)) + u % 1000000000) / 10 ^ t := by rw [h1]
  rw [h2, Nat.mul_add_div (Nat.pow_pos (by omega)), Nat.mul_comm (10 ^ (9 - t))]

theorem rows_ne {W : World} {b1 b2 e1 e2 k1 k2 : Nat} {v1 v2 : Value} {xs ys : List Value} (h1 : W.ownsRow b1 e1 1 v1 k1 xs) (h2 : W.ownsRow b2 e2 1 v2 k2 ys) (hne : e1 ≠ e2) : v1.ownBlock = none ∨ v1.ownBlock ≠ v2.ownBlock := by
  rcases h1.2 with ⟨rfl, _⟩ | ⟨g, cap, cur, rfl, _, hg, _⟩
  · exact .inl rfl
  · rcases h2.2 with ⟨rfl, _⟩ | ⟨g2, cap2, cur2, rfl, _, hg2, _⟩
    · exact .inr (by simp [Value.ownBlock])
    · refine .inr ?_
      intro e
      simp only [Value.ownBlock, Option.some.injEq] at e
      subst e
      have := hg.symm.trans hg2
      simp at this
      exact hne this.2

theorem tl_bound (a n : Nat) (h : (D a).length ≤ n) : (M.tl a).length ≤ 10 * n := by
  refine M.tl_len _ _ ?_
  have h1 := D_lt a n h
  have h2 : (4294967296 : Nat) ^ n ≤ 10 ^ (10 * n) := by rw [Nat.pow_mul]; exact Nat.pow_le_pow_left (by decide) _
  omega

theorem div_bound (a d n : Nat) (h : (D a).length ≤ n) : (D (a / d)).length ≤ n :=
  M.len_of_lt (B := 4294967296) (by omega) _ _ (Nat.lt_of_le_of_lt (Nat.div_le_self _ _) (D_lt a n h))

theorem own_place {W : World} {base e k j : Nat} {v : Value} {xs : List Value} (h : W.ownsRow base e 1 v k xs) (hj : v.ownBlock = some j) : base ≤ j := by
  rcases h.2 with ⟨rfl, _⟩ | ⟨g, cap, cur, rfl, hb, _⟩
  · simp [Value.ownBlock] at hj
  · simp only [Value.ownBlock, Option.some.injEq] at hj
    omega

set_option maxHeartbeats 2000000 in
theorem l1Text_any (ao : Option Addr) (n cap v : Nat) (w : World) (hl : (D v).length = n) (hn : n ≤ 100000) (hr : Rd w ao (D v)) :
    Calls Try.prog 41 #[.slice ao n cap] w fun e w' => RetR w w' e (M.txt v) ∧ (v ≠ 0 → RetY w w' e (M.txt v)) := by
  obtain ⟨i0, hi, hz0, hz1, hz2⟩ := info_parts Try.infoY
  by_cases hv : v = 0
  · subst hv
    have hn0 : n = 0 := by rw [← hl]; exact (D_zero 0).2 rfl
    subst hn0
    have hcv := fun (W : World) => Go.Lib.run_convert_bytes_const (P := Try.prog) W 22 5 #[.int .u8 48] 1 1 Try.underlying22 Try.underlying5
    go_enter Try.func41, Try.ntmps41
    go_wp2_with fail
    go_ret
    refine ⟨⟨some ⟨w.heap.size, 0, none⟩, 1, rfl, ?_, by decide, (Below.refl _ _).alloc (Nat.le_refl _) _⟩, fun h => absurd rfl h⟩
    intro _
    refine ⟨w.heap.size, 0, rfl, fun i hi => ?_⟩
    have hi0 : i = 0 := by have : (M.txt 0).length = 1 := rfl; omega
    subst hi0
    have hh : (w.alloc (Obj.cells #[Value.int IntKind.u8 48] 5 (1, 2))).heap[w.heap.size]? = some (Obj.cells #[Value.int IntKind.u8 48] 5 (1, 2)) := heap_alloc_new w _
    show World.cell? _ _ = _
    unfold World.cell?
    rw [Nat.zero_add]
    simp only [hh]
    rfl
  · have hn0 : ¬ n = 0 := by rw [← hl]; intro e; exact hv ((D_zero v).1 e)
    have hn0' : ((n : Int) == 0) = false := by simp; omega
    have HV := hid hv; clear hv
    go_enter Try.func41, Try.ntmps41
    go_wp2_with fail
    go_loopg [0, 3] v (fun u av bk wr => ∃ (m c1 k c2 : Nat) (aa bb : Option Addr) (bs : List Nat), av = .slice aa m c1 ∧ (D u).length = m ∧ m ≤ n ∧ Rd wr aa (D u) ∧ bk = .slice bb k c2 ∧ wr.ownsRow w.heap.size 5 1 (.slice bb k c2) k (UB bs) ∧ M.tl v = bs ++ M.tl u ∧ Below w.heap.size w wr)
    case atStart => exact ⟨n, cap, 0, 0, ao, none, [], rfl, hl, Nat.le_refl _, hr, rfl, World.ownsRow_nil _ _ _ _, rfl, Below.refl _ _⟩
    case round =>
      obtain ⟨m, c1, k, c2, aa, bb, bs, rfl, hlm, hmn, hrd, rfl, hown, htl, hbl⟩ := hrel
      obtain ⟨u, hgk⟩ : ∃ u, u = gk := ⟨_, rfl⟩
      subst hgk
      by_cases hu : u = 0
      · have hm0 : m = 0 := by rw [← hlm, hu]; exact (D_zero 0).2 rfl
        subst hm0
        have hbs : M.tl v = bs := by rw [htl, hu, M.tl_zero, List.append_nil]
        have hkl : bs.length = k := ownY_len hown
        have hkb : k ≤ 1000000 := by rw [← hkl, ← hbs]; have := tl_bound v n (by omega); omega
        have hrb := RdY.own hown
        have hk0 : 0 < bs.length := by rw [← hbs, M.tl_pos HV.out]; simp
        obtain ⟨b2, o2, rfl, hcc⟩ := hrb hk0
        have HBS := hid hbs; have HBL := hid hbl
        clear hown htl hbl hbs hrd hu
        go_wp2_with fail
        go_loopw [7, 8] (fun ov i wx => ∃ (t oc : Nat) (oa : Option Addr), t ≤ k ∧ i = .int .i64 ((k : Int) - 1 - t) ∧ ov = .slice oa t oc ∧ wx.ownsRow wr.heap.size 5 1 (.slice oa t oc) t (UB (bs.reverse.take t)) ∧ Below wr.heap.size wr wx) (fun _ i _ => (intOf i + 1).toNat)
        case atStart => exact ⟨0, 0, none, by omega, by go_num, rfl, by rw [List.take_zero]; exact World.ownsRow_nil _ _ _ _, Below.refl _ _⟩
        case round =>
          rename World => wx
          obtain ⟨t, oc, oa, ht, rfl, rfl, own3, b3⟩ := hrel
          by_cases hlt : t < k
          · obtain ⟨j, hj⟩ : ∃ j, j + 1 + t = k := ⟨k - 1 - t, by omega⟩
            have e1 : (k : Int) - 1 - t = (j : Int) := by omega
            rw [e1]
            have hcj := (b3.cell (p := ⟨b2, o2 + j, none⟩) (World.block_lt_of_cell? wr _ (hcc j (by omega)))).trans (hcc j (by omega))
            have hge : (0 : Int) ≤ (j : Int) := by omega
            have hjk : (j : Int) < (k : Int) := by omega
            have hst := M.rev_take bs t (by omega)
            rw [show bs.length - 1 - t = j by omega] at hst
            obtain ⟨x, hx⟩ : ∃ x, x = bs.getD j 0 := ⟨_, rfl⟩
            rw [← hx] at hcj hst
            have HST := hid hst; have OWN3 := hid own3; have B3 := hid b3
            clear hx hst own3 b3
            go_wp2_with (at_builtin; refine wpList_append_own _ rfl _ _ 22 rfl wr.heap.size 5 i0 (.int .u8 0) 1 1 Try.underlying22 hi hz0 hz1 hz2 rfl (by decide) _ _ _ rfl (OWN3.out.alloc _) ⟨wx.heap.size, 0, none⟩ 1 1 (UB [x]) rfl rfl ?c1 ?c2 ?c3 ?c4 ?c5 ?_)
            case c1 =>
              intro j u hj
              match j, hj with
              | 0, hj => simp [UB] at hj; subst hj; simp [Addr.add]
            case c2 => exact UB_one _
            case c3 => unfold maxLen; omega
            case c4 => omega
            case c5 => have := B3.out.size; simp; omega
            intro v' w3 hown' hgrow _
            obtain ⟨oa3, cap', rfl⟩ := ownY_shape hown'
            go_wp2_with fail
            go_roundw
            case rel =>
              refine ⟨t + 1, cap', oa3, by omega, by congr 1; omega, rfl, by rw [HST.out, UB_append]; exact hown', ?_⟩
              exact (B3.out.alloc B3.out.size _).grown hgrow (by have := B3.out.size; simp; omega) (fun j e => own_place OWN3.out e)
            case measure => simp [intOf]
          · have e : t = k := by omega
            subst e
            have hge : ¬ (0 : Int) ≤ (t : Int) - 1 - t := by omega
            have OWN3 := hid own3; have B3 := hid b3
            clear own3 b3
            go_wp2_with fail
            go_ret
            have etx : M.txt v = bs.reverse := by unfold M.txt; rw [if_neg HV.out, HBS.out]
            have hy : RetY w wx (.returned (.slice oa t oc)) (M.txt v) := by
              have h1 := OWN3.out
              rw [List.take_of_length_le (by simp; omega)] at h1
              have eln : (M.txt v).length = t := by rw [etx]; simp [hkl]
              unfold RetY
              rw [eln, etx]
              exact ⟨oa, oc, rfl, ownY_base h1 HBL.out.size, HBL.out.trans (B3.out.mono HBL.out.size)⟩
            exact ⟨hy.toR, fun _ => hy⟩
      · have hm0 : (0 : Int) < (m : Int) := by
          have : m ≠ 0 := by rw [← hlm]; intro e; exact hu ((D_zero u).1 e)
          omega
        have HOWN := hid hown; have HTL := hid htl; have HBL := hid hbl
        clear hown htl hbl
        have kS := l1Small_any aa m c1 1000000000 u wr hlm (by omega) (by omega) (by omega) hrd
        go_wp2_with fail
        refine kS.mono ?_
        rintro e w1 ⟨qa, qc, rfl, hq1, hb1⟩
        have hqn := div_bound u 1000000000 m (by omega)
        have own1 := ownY_below HOWN.out hb1
        have b1 := HBL.out.trans (hb1.mono HBL.out.size)
        have BB := hid HBL.out.size
        clear hb1 HOWN HBL
        obtain ⟨q, hq⟩ : ∃ q, q = u / 1000000000 := ⟨_, rfl⟩
        obtain ⟨r0, hr0⟩ : ∃ r0, r0 = u % 1000000000 := ⟨_, rfl⟩
        rw [← hq] at hq1 hqn ⊢
        rw [← hr0]
        obtain ⟨m2, hm2⟩ : ∃ m2, m2 = (D q).length := ⟨_, rfl⟩
        rw [← hm2] at hq1 hqn ⊢
        have HQ := hid hq; have HR0 := hid hr0; have HM2 := hid hm2; have OWN1 := hid own1; have HQ1 := hid hq1; have B1 := hid b1
        clear hq hr0 hm2 own1 hq1 b1
        go_wp2_with fail
        go_loopw [3, 5, 6] (fun bk rs j wi => ∃ (t k2 c3 : Nat) (bb2 : Option Addr) (bs2 : List Nat), t ≤ 9 ∧ j = .int .i64 (t : Int) ∧ rs = .int .u64 ((r0 / 10 ^ t : Nat) : Int) ∧ bk = .slice bb2 k2 c3 ∧ wi.ownsRow w.heap.size 5 1 (.slice bb2 k2 c3) k2 (UB bs2) ∧ M.tl v = bs2 ++ M.tl (u / 10 ^ t) ∧ wi.ownsRow w.heap.size 32 1 (.slice qa m2 qc) m2 (U (D q)) ∧ Below w.heap.size w wi) (fun _ _ j _ => 9 - (intOf j).toNat)
        case atStart => exact ⟨0, k, c2, bb, bs, by omega, rfl, by simp, rfl, OWN1.out, by rw [Nat.pow_zero, Nat.div_one]; exact HTL.out, own_base HQ1.out BB.out, B1.out⟩
        case round =>
          rename World => wi
          obtain ⟨t, k2, c3, bb2, bs2, ht, rfl, rfl, rfl, own2, htl2, hq2, b2⟩ := hrel
          by_cases ht9 : t < 9
          · have hlt' : (t : Int) < 9 := by omega
            by_cases hq0 : 0 < m2
            · have hc2' : (0 : Int) < (m2 : Int) := by omega
              have hqp : 0 < q := by
                rcases Nat.eq_zero_or_pos q with e | e
                · have h1 := HM2.out; rw [e] at h1; rw [(D_zero 0).2 rfl] at h1; omega
                · exact e
              have hk1 : bs2.length ≤ 1000000 := by have h1 := congrArg List.length htl2; rw [List.length_append] at h1; have h2 := tl_bound v n (by omega); omega
              have hk2 : bs2.length = k2 := ownY_len own2
              have hut : u / 10 ^ t ≠ 0 := by
                rw [small_split u t ht, ← HQ.out, ← HR0.out]
                generalize r0 / 10 ^ t = z at *
                have h2 : 0 < q * 10 ^ (9 - t) := Nat.mul_pos hqp (Nat.pow_pos (by omega))
                omega
              have htl3 := M.tl_pos hut
              have hdg : u / 10 ^ t % 10 = r0 / 10 ^ t % 10 := by
                rw [small_split u t ht, ← HQ.out, ← HR0.out, show 9 - t = (8 - t) + 1 by omega, Nat.pow_succ, ← Nat.mul_assoc, Nat.add_comm, Nat.add_mul_mod_self_right]
              obtain ⟨x, hx⟩ : ∃ x, x = r0 / 10 ^ t := ⟨_, rfl⟩
              have hxl : x < 1000000000 := by rw [hx]; exact Nat.lt_of_le_of_lt (Nat.div_le_self _ _) (by rw [HR0.out]; exact Nat.mod_lt _ (by omega))
              rw [← hx] at hdg ⊢
              obtain ⟨c, hcv⟩ : ∃ c, c = 48 + x % 10 := ⟨_, rfl⟩
              have hcb : c ≤ 57 := by omega
              have s1 : (x : Int).tmod 10 = ((x % 10 : Nat) : Int) := by rw [Int.tmod_eq_emod_of_nonneg (by omega)]; omega
              have s2 : IntKind.u64.wrap (48 + (x : Int) % 10) = (c : Int) := by rw [IntKind.wrap_u64]; omega
              have s3 : (c : Int) % 256 = (c : Int) := by omega
              have s4 : (x : Int).tdiv 10 = ((x / 10 : Nat) : Int) := by rw [Int.tdiv_eq_ediv_of_nonneg (by omega)]; omega
              have HX := hid hx; have HC := hid hcv; have HD := hid hdg; have OWN2 := hid own2; have HTL2 := hid htl2; have HTL3 := hid htl3; have HQ2 := hid hq2; have B2 := hid b2
              clear hx hcv hdg own2 htl2 htl3 hq2 b2
              have hnew : ∀ j u, (UB [c])[j]? = some u → (wi.alloc (.cells #[.int .u8 (c : Int)] 5)).cell? ((⟨wi.heap.size, 0, none⟩ : Addr).add j) = some u := by
                intro j u hj
                match j, hj with
                | 0, hj => simp [UB] at hj; subst hj; simp [Addr.add]
              go_wp2_with (at_builtin; refine wpList_append_own _ rfl _ _ 22 rfl w.heap.size 5 i0 (.int .u8 0) 1 1 Try.underlying22 hi hz0 hz1 hz2 rfl (by decide) _ _ _ rfl (OWN2.out.alloc _) ⟨wi.heap.size, 0, none⟩ 1 1 (UB [c]) rfl rfl ?c1 ?c2 ?c3 ?c4 ?c5 ?_)
              case c1 => first | exact hnew | (intro j u hj; simpa [UB] using hj)
              case c2 => exact UB_one _
              case c3 => unfold maxLen; omega
              case c4 => omega
              case c5 => have := B2.out.size; simp; omega
              intro v' w3 hown' hgrow _
              obtain ⟨oa3, cap', rfl⟩ := ownY_shape hown'
              go_wp2_with fail
              go_roundw
              case rel =>
                refine ⟨t + 1, k2 + 1, cap', oa3, bs2 ++ [c], by omega, by go_num, ?_, rfl, by rw [UB_append]; exact hown', ?_, ?_, ?_⟩
                · rw [Nat.pow_succ, ← Nat.div_div_eq_div_mul, ← HX.out]; congr 1
                · rw [HTL2.out, HTL3.out, HD.out, ← HC.out, Nat.pow_succ, ← Nat.div_div_eq_div_mul, List.append_assoc]; rfl
                · exact (HQ2.out.alloc _).kept hgrow (rows_ne HQ2.out OWN2.out (by decide))
                · exact (B2.out.alloc B2.out.size _).grown hgrow (by have := B2.out.size; simp; omega) (fun j e => own_place OWN2.out e)
              case measure => simp [intOf]; omega
            · have hq1 : q = 0 := (D_zero q).1 (by rw [← HM2.out]; omega)
              have hq3 : ¬ (0 : Int) < (m2 : Int) := by omega
              by_cases hr1 : 0 < r0 / 10 ^ t
              · have hc2' : 0 < r0 / 10 ^ t := hr1
                have hc4 : (0 : Int) < ((r0 / 10 ^ t : Nat) : Int) := by omega
                have hk1 : bs2.length ≤ 1000000 := by have h1 := congrArg List.length htl2; rw [List.length_append] at h1; have h2 := tl_bound v n (by omega); omega
                have hk2 : bs2.length = k2 := ownY_len own2
                have hut : u / 10 ^ t ≠ 0 := by
                  rw [small_split u t ht, ← HQ.out, ← HR0.out]
                  generalize r0 / 10 ^ t = z at *
                  omega
                have htl3 := M.tl_pos hut
                have hdg : u / 10 ^ t % 10 = r0 / 10 ^ t % 10 := by
                  rw [small_split u t ht, ← HQ.out, ← HR0.out, show 9 - t = (8 - t) + 1 by omega, Nat.pow_succ, ← Nat.mul_assoc, Nat.add_comm, Nat.add_mul_mod_self_right]
                obtain ⟨x, hx⟩ : ∃ x, x = r0 / 10 ^ t := ⟨_, rfl⟩
                have hxl : x < 1000000000 := by rw [hx]; exact Nat.lt_of_le_of_lt (Nat.div_le_self _ _) (by rw [HR0.out]; exact Nat.mod_lt _ (by omega))
                rw [← hx] at hdg hc2' hc4 hr1 ⊢
                obtain ⟨c, hcv⟩ : ∃ c, c = 48 + x % 10 := ⟨_, rfl⟩
                have hcb : c ≤ 57 := by omega
                have s1 : (x : Int).tmod 10 = ((x % 10 : Nat) : Int) := by rw [Int.tmod_eq_emod_of_nonneg (by omega)]; omega
                have s2 : IntKind.u64.wrap (48 + (x : Int) % 10) = (c : Int) := by rw [IntKind.wrap_u64]; omega
                have s3 : (c : Int) % 256 = (c : Int) := by omega
                have s4 : (x : Int).tdiv 10 = ((x / 10 : Nat) : Int) := by rw [Int.tdiv_eq_ediv_of_nonneg (by omega)]; omega
                have HX := hid hx; have HC := hid hcv; have HD := hid hdg; have OWN2 := hid own2; have HTL2 := hid htl2; have HTL3 := hid htl3; have HQ2 := hid hq2; have B2 := hid b2
                clear hx hcv hdg own2 htl2 htl3 hq2 b2
                have hnew : ∀ j u, (UB [c])[j]? = some u → (wi.alloc (.cells #[.int .u8 (c : Int)] 5)).cell? ((⟨wi.heap.size, 0, none⟩ : Addr).add j) = some u := by
                  intro j u hj
                  match j, hj with
                  | 0, hj => simp [UB] at hj; subst hj; simp [Addr.add]
                go_wp2_with (at_builtin; refine wpList_append_own _ rfl _ _ 22 rfl w.heap.size 5 i0 (.int .u8 0) 1 1 Try.underlying22 hi hz0 hz1 hz2 rfl (by decide) _ _ _ rfl (OWN2.out.alloc _) ⟨wi.heap.size, 0, none⟩ 1 1 (UB [c]) rfl rfl ?c1 ?c2 ?c3 ?c4 ?c5 ?_)
                case c1 => first | exact hnew | (intro j u hj; simpa [UB] using hj)
                case c2 => exact UB_one _
                case c3 => unfold maxLen; omega
                case c4 => omega
                case c5 => have := B2.out.size; simp; omega
                intro v' w3 hown' hgrow _
                obtain ⟨oa3, cap', rfl⟩ := ownY_shape hown'
                go_wp2_with fail
                go_roundw
                case rel =>
                  refine ⟨t + 1, k2 + 1, cap', oa3, bs2 ++ [c], by omega, by go_num, ?_, rfl, by rw [UB_append]; exact hown', ?_, ?_, ?_⟩
                  · rw [Nat.pow_succ, ← Nat.div_div_eq_div_mul, ← HX.out]; congr 1
                  · rw [HTL2.out, HTL3.out, HD.out, ← HC.out, Nat.pow_succ, ← Nat.div_div_eq_div_mul, List.append_assoc]; rfl
                  · exact (HQ2.out.alloc _).kept hgrow (rows_ne HQ2.out OWN2.out (by decide))
                  · exact (B2.out.alloc B2.out.size _).grown hgrow (by have := B2.out.size; simp; omega) (fun j e => own_place OWN2.out e)
                case measure => simp [intOf]; omega
              · have hz : r0 / 10 ^ t = 0 := Nat.eq_zero_of_not_pos hr1
                rw [hz]
                have htlq : M.tl v = bs2 ++ M.tl q := by
                  rw [htl2, small_split u t ht, ← HQ.out, ← HR0.out, hz, hq1]
                  simp
                have HU := hid htlq; have OWN2 := hid own2; have HQ2 := hid hq2; have B2 := hid b2
                clear htlq own2 hq2 b2 htl2
                go_wp2_with fail
                go_roundg q
                case measure => rw [HQ.out]; omega
                case rel => exact ⟨m2, qc, k2, c3, qa, bb2, bs2, rfl, HM2.out.symm, by omega, Rd.own HQ2.out, rfl, OWN2.out, HU.out, B2.out⟩
          · have hlt' : ¬ (t : Int) < 9 := by omega
            have e9 : t = 9 := by omega
            subst e9
            have htlq : M.tl v = bs2 ++ M.tl q := by rw [htl2, HQ.out]
            obtain ⟨x9, hx9⟩ : ∃ x, x = r0 / 10 ^ 9 := ⟨_, rfl⟩
            rw [← hx9]
            clear hx9
            have HU := hid htlq; have OWN2 := hid own2; have HQ2 := hid hq2; have B2 := hid b2
            clear htlq own2 hq2 b2 htl2
            go_wp2_with fail
            go_roundg q
            case measure => rw [HQ.out]; omega
            case rel => exact ⟨m2, qc, k2, c3, qa, bb2, bs2, rfl, HM2.out.symm, by omega, Rd.own HQ2.out, rfl, OWN2.out, HU.out, B2.out⟩

end Go.Proofs.Ytehplfmnipadmad
