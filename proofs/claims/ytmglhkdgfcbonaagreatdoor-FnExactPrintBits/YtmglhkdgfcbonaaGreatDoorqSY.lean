import Derived.Deep.LoopGhost
import Derived.Lib.SlBytesConst
import Derived.Deep.AppendLies
import Derived.Test.YtmglhkdgfcbonaaGreatDoorqTB
import Derived.Test.YtmglhkdgfcbonaaGreatDoorqSrI
import Derived.Test.YtmglhkdgfcbonaaGreatDoorqBG
namespace Go.Proofs.YtmglhkdgfcbonaaGreatDoor

open Go.RowKit

set_option linter.unusedVariables false
set_option maxRecDepth 100000

theorem X_drop (xs : List Nat) (k : Nat) (h : k < xs.length) : X (xs.drop k) = xs.getD k 0 + 4294967296 * X (xs.drop (k + 1)) := by
  rw [List.drop_eq_getElem_cons h]
  simp [X, M.val, List.getD_eq_getElem?_getD, List.getElem?_eq_getElem h]

theorem small_step {T' T r x q r' d : Nat} {B : Nat} (h : T' * d + r = T) (hq : q * d + r' = r * B + x) : (q + B * T') * d + r' = x + B * T := by
  rw [← h, Nat.add_mul, Nat.mul_add, Nat.mul_assoc, Nat.mul_comm B r]
  omega

set_option maxHeartbeats 1000000 in
theorem l1Small_any (ao : Option Addr) (n cap d a : Nat) (w : World) (hl : (D a).length = n) (hn : n ≤ 4194304) (hd : 0 < d) (hdb : d ≤ 4294967296) (hr : Rd w ao (D a)) :
    Calls Tryz.prog 73 #[.slice ao n cap, .int .u64 (d : Int)] w fun e w' => ∃ qa qc, e = .returned (.tuple #[.slice qa (D (a / d)).length qc, .int .u64 ((a % d : Nat) : Int)]) ∧ w'.ownsRow w.heap.size 22 1 (.slice qa (D (a / d)).length qc) (D (a / d)).length (U (D (a / d))) ∧ Below w.heap.size w w' := by
  obtain ⟨i0, hi, hz0, hz1, hz2⟩ := info_parts Tryz.infoU
  have hmk := fun (wx : World) => run_make (P := Tryz.prog) wx 44 22 i0 (.int .u64 0) Tryz.underlying44 hi hz0 .i64 .i64 (n : Int) (n : Int) (by omega) (Int.le_refl _) (by rw [hz2]; omega) (by omega)
  have et : ((n : Int)).toNat = n := by omega
  rw [et] at hmk
  go_enter Tryz.func73, Tryz.ntmps73
  go_wp2
  go_loopw [7, 8] (fun rs i wr => ∃ (k : Nat) (cur : List Nat) (r : Nat), k ≤ n ∧ i = .int .i64 ((k : Int) - 1) ∧ rs = .int .u64 (r : Int) ∧ r < d ∧ Blk wr w.heap.size cur ∧ cur.length = n ∧ (∀ x ∈ cur, x < 4294967296) ∧ Below w.heap.size w wr ∧ X (cur.drop k) * d + r = X ((D a).drop k)) (fun _ i _ => (intOf i + 1).toNat)
  case atStart =>
    refine ⟨n, List.replicate n 0, 0, Nat.le_refl _, by go_num, rfl, hd, blk_made _ _, by simp, ?_, (Below.refl _ _).alloc (Nat.le_refl _) _, ?_⟩
    · intro x hx; rw [List.eq_of_mem_replicate hx]; omega
    · rw [List.drop_of_length_le (by simp), List.drop_of_length_le (by omega)]; simp [X, M.val]
  case round =>
    obtain ⟨k, cur, r, hk, rfl, rfl, hrd, hB, hcl, hcf, hbl, hv⟩ := hrel
    have HV := hid hv; clear hv
    by_cases hlt : 0 < k
    · obtain ⟨k, rfl⟩ : ∃ k', k = k' + 1 := ⟨k - 1, by omega⟩
      have e1 : (((k + 1 : Nat) : Int) - 1) = (k : Int) := by omega
      rw [e1]
      obtain ⟨b2, o2, hao, hc2⟩ := hr (by omega)
      subst hao
      have hca := (hbl.cell (p := ⟨b2, o2 + k, none⟩) (World.block_lt_of_cell? w _ (hc2 k (by omega)))).trans (hc2 k (by omega))
      clear hc2
      have hcs := hB.cell k (by omega)
      have hfs := hB.frozen k
      have hx1 : (D a).getD k 0 < 4294967296 := (F32_D a).get k
      have hxs := X_drop (D a) k (by omega)
      obtain ⟨x, hxx⟩ : ∃ x : Nat, x = (D a).getD k 0 := ⟨_, rfl⟩
      rw [← hxx] at hca hx1 hxs
      obtain ⟨o, hoo⟩ : ∃ o : Nat, o = cur.getD k 0 := ⟨_, rfl⟩
      rw [← hoo] at hcs
      clear hxx hoo
      have hge : (0 : Int) ≤ (k : Int) := by omega
      have hlt2 : (k : Int) < (n : Int) := by omega
      obtain ⟨s, hs⟩ : ∃ s, s = x + r * 4294967296 := ⟨_, rfl⟩
      have hsb : s < d * 4294967296 := by
        have : (r + 1) * 4294967296 ≤ d * 4294967296 := Nat.mul_le_mul_right _ hrd
        omega
      have hs64 : s < 18446744073709551616 := by omega
      have hor : bits BinOp.or IntKind.u64 ((r : Int) * 4294967296) (x : Int) = (s : Int) := by
        have h1 := or_pair x r hx1 (by omega)
        have h2 : bits BinOp.or IntKind.u64 ((r : Int) * 4294967296) (x : Int) = bits BinOp.or IntKind.u64 (x : Int) ((r : Int) * 4294967296) := by
          simp only [bits]
          rw [BitVec.or_comm]
        rw [h2, h1, hs]
      have hsh : IntKind.u64.wrap ((r : Int) * 4294967296) = (r : Int) * 4294967296 := by rw [IntKind.wrap_u64]; omega
      obtain ⟨Q, hQ⟩ : ∃ Q, Q = s / d := ⟨_, rfl⟩
      obtain ⟨R, hR⟩ : ∃ R, R = s % d := ⟨_, rfl⟩
      have hRd : R < d := by rw [hR]; exact Nat.mod_lt _ hd
      have hsum : Q * d + R = r * 4294967296 + x := by rw [hQ, hR, Nat.mul_comm, Nat.div_add_mod, hs]; omega
      have hQb : Q < 4294967296 := by rw [hQ, Nat.div_lt_iff_lt_mul hd, Nat.mul_comm]; exact hsb
      have hq' : (s : Int).tdiv (d : Int) = (Q : Int) := by rw [hQ]; rfl
      have hr' : (s : Int).tmod (d : Int) = (R : Int) := by rw [hR]; rfl
      have hd0 : ((d : Int) == 0) = false := by simp; omega
      have hd1 : ¬ (d : Int) = 0 := by omega
      have HS := hid hs; have HQ := hid hQ; have HR := hid hR; have HSM := hid hsum; have HB := hid hB; have HBL := hid hbl; have HXS := hid hxs
      clear hs hQ hR hsum hB hbl hxs
      go_wp2_with fail
      go_roundw
      case rel =>
        refine ⟨k, cur.set k Q, R, by omega, rfl, rfl, hRd, HB.out.set k Q _ rfl, by simp [hcl], ?_, HBL.out.setCell (p := ⟨w.heap.size, k, none⟩) (Nat.le_refl _) _, ?_⟩
        · intro y hy
          rcases List.mem_or_eq_of_mem_set hy with h | h
          · exact hcf y h
          · omega
        · rw [X_drop _ k (by simp; omega), M.getD_set_eq _ _ _ (by omega), List.drop_set_of_lt (by omega), HXS.out]
          exact small_step HV.out HSM.out
      case measure => simp [intOf]
    · have hk0 : k = 0 := by omega
      subst hk0
      have hv := HV.out
      rw [List.drop_zero, List.drop_zero, X_D] at hv
      have hq : X cur = a / d := by
        rw [← hv, Nat.mul_comm, Nat.mul_add_div hd, Nat.div_eq_of_lt hrd, Nat.add_zero]
      have hm : a % d = r := by rw [← hv, Nat.mul_comm, Nat.mul_add_mod, Nat.mod_eq_of_lt hrd]
      have kT := l1Trim_any 4294967296 (by omega) (some ⟨w.heap.size, 0, none⟩) n n cur wr hcl (Nat.le_refl _) (by omega) hcf hB.rd0
      have HB := hid hB; have HBL := hid hbl; have HM := hid hm; have HQ := hid hq
      clear hB hbl hm hq hv
      go_wp2_with fail
      refine kT.mono ?_
      rintro e w2 ⟨qa, qc, rfl, ho, hb⟩
      have e1 : M.dig 4294967296 (M.val 4294967296 cur) = D (a / d) := by show D (X cur) = _; rw [HQ.out]
      rw [e1] at ho ⊢
      go_wp2_with fail
      go_ret2
      rw [HM.out]
      exact ⟨qa, qc, rfl, own_base ho HBL.out.size, HBL.out.trans (hb.mono HBL.out.size)⟩

end Go.Proofs.YtmglhkdgfcbonaaGreatDoor

namespace Go.Proofs.YtmglhkdgfcbonaaGreatDoor

open Go.RowKit

set_option linter.unusedVariables false
set_option maxRecDepth 100000

theorem D_zero (v : Nat) : (D v).length = 0 ↔ v = 0 := by
  constructor
  · intro h
    have := D_lt v 0 (by omega)
    omega
  · rintro rfl
    have := M.len_of_lt (B := 4294967296) (by omega) 0 0 (by omega)
    have e : (D 0).length ≤ 0 := this
    omega

theorem small_split (u t : Nat) (h : t ≤ 9) : u / 10 ^ t = u / 1000000000 * 10 ^ (9 - t) + u % 1000000000 / 10 ^ t := by
  have e : (1000000000 : Nat) = 10 ^ t * 10 ^ (9 - t) := by rw [← Nat.pow_add, show t + (9 - t) = 9 by omega]
  have h1 : 10 ^ t * (10 ^ (9 - t) * (u / 1000000000)) + u % 1000000000 = u := by
    rw [← Nat.mul_assoc, ← e]; exact Nat.div_add_mod u 1000000000
  have h2 : u / 10 ^ t = (10 ^ t * (10 ^ (9 - t) * (u / 1000000000)) + u % 1000000000) / 10 ^ t := by rw [h1]
  rw [h2, Nat.mul_add_div (Nat.pow_pos (by omega)), Nat.mul_comm (10 ^ (9 - t))]

theorem rows_ne {W : World} {b1 b2 e1 e2 k1 k2 : Nat} {v1 v2 : Value} {xs ys : List Value} (h1 : W.ownsRow b1 e1 1 v1 k1 xs) (h2 : W.ownsRow b2 e2 1 v2 k2 ys) (hne : e1 ≠ e2) : v1.ownBlock = none ∨ v1.ownBlock ≠ v2.ownBlock := by
  rcases h1.2 with ⟨rfl, _⟩ | ⟨g, cap, cur, rfl, _, hg, _⟩
  · exact .inl rfl
  · rcases h2.2 with ⟨rfl, _⟩ | ⟨g2, cap2, cur2, rfl, _, hg2, _⟩
    · exact .inr (by simp [Value.ownBlock])
    · refine .inr ?_
      intro e
      simp only [Value.ownBlock, Option.some.injEq] at e
      subst e
      have := hg.symm.trans hg2
      simp at this
      exact hne this.2

theorem tl_bound (a n : Nat) (h : (D a).length ≤ n) : (M.tl a).length ≤ 10 * n := by
  refine M.tl_len _ _ ?_
  have h1 := D_lt a n h
  have h2 : (4294967296 : Nat) ^ n ≤ 10 ^ (10 * n) := by rw [Nat.pow_mul]; exact Nat.pow_le_pow_left (by decide) _
  omega

theorem div_bound (a d n : Nat) (h : (D a).length ≤ n) : (D (a / d)).length ≤ n :=
  M.len_of_lt (B := 4294967296) (by omega) _ _ (Nat.lt_of_le_of_lt (Nat.div_le_self _ _) (D_lt a n h))

set_option maxHeartbeats 2000000 in
theorem l1Text_any (ao : Option Addr) (n cap v : Nat) (w : World) (hl : (D v).length = n) (hn : n ≤ 100000) (hr : Rd w ao (D v)) :
    Calls Tryz.prog 43 #[.slice ao n cap] w fun e w' => RetR w w' e (M.txt v) ∧ (v ≠ 0 → RetY w w' e (M.txt v)) := by
  obtain ⟨i0, hi, hz0, hz1, hz2⟩ := info_parts Tryz.infoY
  by_cases hv : v = 0
  · subst hv
    have hn0 : n = 0 := by rw [← hl]; exact (D_zero 0).2 rfl
    subst hn0
    have hcv := fun (W : World) => Go.Lib.run_convert_bytes_const (P := Tryz.prog) W 25 5 #[.int .u8 48] 1 1 Tryz.underlying25 Tryz.underlying5
    go_enter Tryz.func43, Tryz.ntmps43
    go_wp2_with fail
    go_ret
    refine ⟨⟨some ⟨w.heap.size, 0, none⟩, 1, rfl, ?_, by decide, (Below.refl _ _).alloc (Nat.le_refl _) _⟩, fun h => absurd rfl h⟩
    intro _
    refine ⟨w.heap.size, 0, rfl, fun i hi => ?_⟩
    have hi0 : i = 0 := by have : (M.txt 0).length = 1 := rfl; omega
    subst hi0
    have hh : (w.alloc (Obj.cells #[Value.int IntKind.u8 48] 5 (1, 2))).heap[w.heap.size]? = some (Obj.cells #[Value.int IntKind.u8 48] 5 (1, 2)) := heap_alloc_new w _
    show World.cell? _ _ = _
    unfold World.cell?
    rw [Nat.zero_add]
    simp only [hh]
    rfl
  · have hn0 : ¬ n = 0 := by rw [← hl]; intro e; exact hv ((D_zero v).1 e)
    have hn0' : ((n : Int) == 0) = false := by simp; omega
    have HV := hid hv; clear hv
    go_enter Tryz.func43, Tryz.ntmps43
    go_wp2_with fail
    go_loopg [0, 3] v (fun u av bk wr => ∃ (m c1 k c2 : Nat) (aa bb : Option Addr) (bs : List Nat), av = .slice aa m c1 ∧ (D u).length = m ∧ m ≤ n ∧ Rd wr aa (D u) ∧ bk = .slice bb k c2 ∧ wr.ownsRow w.heap.size 5 1 (.slice bb k c2) k (UB bs) ∧ M.tl v = bs ++ M.tl u ∧ Below w.heap.size w wr)
    case atStart => exact ⟨n, cap, 0, 0, ao, none, [], rfl, hl, Nat.le_refl _, hr, rfl, World.ownsRow_nil _ _ _ _, rfl, Below.refl _ _⟩
    case round =>
      obtain ⟨m, c1, k, c2, aa, bb, bs, rfl, hlm, hmn, hrd, rfl, hown, htl, hbl⟩ := hrel
      obtain ⟨u, hgk⟩ : ∃ u, u = gk := ⟨_, rfl⟩
      subst hgk
      by_cases hu : u = 0
      · have hm0 : m = 0 := by rw [← hlm, hu]; exact (D_zero 0).2 rfl
        subst hm0
        have hbs : M.tl v = bs := by rw [htl, hu, M.tl_zero, List.append_nil]
        have hkl : bs.length = k := ownY_len hown
        have hkb : k ≤ 1000000 := by rw [← hkl, ← hbs]; have := tl_bound v n (by omega); omega
        have hrb := RdY.own hown
        have hk0 : 0 < bs.length := by rw [← hbs, M.tl_pos HV.out]; simp
        obtain ⟨b2, o2, rfl, hcc⟩ := hrb hk0
        have HBS := hid hbs; have HBL := hid hbl
        clear hown htl hbl hbs hrd hu
        go_wp2_with fail
        go_loopw [7, 8] (fun ov i wx => ∃ (t oc : Nat) (oa : Option Addr), t ≤ k ∧ i = .int .i64 ((k : Int) - 1 - t) ∧ ov = .slice oa t oc ∧ wx.ownsRow wr.heap.size 5 1 (.slice oa t oc) t (UB (bs.reverse.take t)) ∧ Below wr.heap.size wr wx) (fun _ i _ => (intOf i + 1).toNat)
        case atStart => exact ⟨0, 0, none, by omega, by go_num, rfl, by rw [List.take_zero]; exact World.ownsRow_nil _ _ _ _, Below.refl _ _⟩
        case round =>
          rename World => wx
          obtain ⟨t, oc, oa, ht, rfl, rfl, own3, b3⟩ := hrel
          by_cases hlt : t < k
          · obtain ⟨j, hj⟩ : ∃ j, j + 1 + t = k := ⟨k - 1 - t, by omega⟩
            have e1 : (k : Int) - 1 - t = (j : Int) := by omega
            rw [e1]
            have hcj := (b3.cell (p := ⟨b2, o2 + j, none⟩) (World.block_lt_of_cell? wr _ (hcc j (by omega)))).trans (hcc j (by omega))
            have hge : (0 : Int) ≤ (j : Int) := by omega
            have hjk : (j : Int) < (k : Int) := by omega
            have hst := M.rev_take bs t (by omega)
            rw [show bs.length - 1 - t = j by omega] at hst
            obtain ⟨x, hx⟩ : ∃ x, x = bs.getD j 0 := ⟨_, rfl⟩
            rw [← hx] at hcj hst
            have HST := hid hst; have OWN3 := hid own3; have B3 := hid b3
            clear hx hst own3 b3
            go_wp2_with (at_builtin; refine wpList_append_own _ rfl _ _ 25 rfl wr.heap.size 5 i0 (.int .u8 0) 1 1 Tryz.underlying25 hi hz0 hz1 hz2 rfl (by decide) _ _ _ rfl (OWN3.out.alloc _) ⟨wx.heap.size, 0, none⟩ 1 1 (UB [x]) rfl rfl ?c1 ?c2 ?c3 ?c4 ?c5 ?_)
            case c1 =>
              intro j u hj
              match j, hj with
              | 0, hj => simp [UB] at hj; subst hj; simp [Addr.add]
            case c2 => exact UB_one _
            case c3 => unfold maxLen; omega
            case c4 => omega
            case c5 => have := B3.out.size; simp; omega
            intro v' w3 hown' hgrow _
            obtain ⟨oa3, cap', rfl⟩ := ownY_shape hown'
            go_wp2_with fail
            go_roundw
            case rel =>
              refine ⟨t + 1, cap', oa3, by omega, by congr 1; omega, rfl, by rw [HST.out, UB_append]; exact hown', ?_⟩
              exact (B3.out.alloc B3.out.size _).grown hgrow (by have := B3.out.size; simp; omega) (fun j e => own_place OWN3.out e)
            case measure => simp [intOf]
          · have e : t = k := by omega
            subst e
            have hge : ¬ (0 : Int) ≤ (t : Int) - 1 - t := by omega
            have OWN3 := hid own3; have B3 := hid b3
            clear own3 b3
            go_wp2_with fail
            go_ret
            have etx : M.txt v = bs.reverse := by unfold M.txt; rw [if_neg HV.out, HBS.out]
            have hy : RetY w wx (.returned (.slice oa t oc)) (M.txt v) := by
              have h1 := OWN3.out
              rw [List.take_of_length_le (by simp; omega)] at h1
              have eln : (M.txt v).length = t := by rw [etx]; simp [hkl]
              unfold RetY
              rw [eln, etx]
              exact ⟨oa, oc, rfl, ownY_base h1 HBL.out.size, HBL.out.trans (B3.out.mono HBL.out.size)⟩
            exact ⟨hy.toR, fun _ => hy⟩
      · have hm0 : (0 : Int) < (m : Int) := by
          have : m ≠ 0 := by rw [← hlm]; intro e; exact hu ((D_zero u).1 e)
          omega
        have HOWN := hid hown; have HTL := hid htl; have HBL := hid hbl
        clear hown htl hbl
        have kS := l1Small_any aa m c1 1000000000 u wr hlm (by omega) (by omega) (by omega) hrd
        go_wp2_with fail
        refine kS.mono ?_
        rintro e w1 ⟨qa, qc, rfl, hq1, hb1⟩
        have hqn := div_bound u 1000000000 m (by omega)
        have own1 := ownY_below HOWN.out hb1
        have b1 := HBL.out.trans (hb1.mono HBL.out.size)
        have BB := hid HBL.out.size
        clear hb1 HOWN HBL
        obtain ⟨q, hq⟩ : ∃ q, q = u / 1000000000 := ⟨_, rfl⟩
        obtain ⟨r0, hr0⟩ : ∃ r0, r0 = u % 1000000000 := ⟨_, rfl⟩
        rw [← hq] at hq1 hqn ⊢
        rw [← hr0]
        obtain ⟨m2, hm2⟩ : ∃ m2, m2 = (D q).length := ⟨_, rfl⟩
        rw [← hm2] at hq1 hqn ⊢
        have HQ := hid hq; have HR0 := hid hr0; have HM2 := hid hm2; have OWN1 := hid own1; have HQ1 := hid hq1; have B1 := hid b1
        clear hq hr0 hm2 own1 hq1 b1
        go_wp2_with fail
        go_loopw [3, 5, 6] (fun bk rs j wi => ∃ (t k2 c3 : Nat) (bb2 : Option Addr) (bs2 : List Nat), t ≤ 9 ∧ j = .int .i64 (t : Int) ∧ rs = .int .u64 ((r0 / 10 ^ t : Nat) : Int) ∧ bk = .slice bb2 k2 c3 ∧ wi.ownsRow w.heap.size 5 1 (.slice bb2 k2 c3) k2 (UB bs2) ∧ M.tl v = bs2 ++ M.tl (u / 10 ^ t) ∧ wi.ownsRow w.heap.size 22 1 (.slice qa m2 qc) m2 (U (D q)) ∧ Below w.heap.size w wi) (fun _ _ j _ => 9 - (intOf j).toNat)
        case atStart => exact ⟨0, k, c2, bb, bs, by omega, rfl, by simp, rfl, OWN1.out, by rw [Nat.pow_zero, Nat.div_one]; exact HTL.out, own_base HQ1.out BB.out, B1.out⟩
        case round =>
          rename World => wi
          obtain ⟨t, k2, c3, bb2, bs2, ht, rfl, rfl, rfl, own2, htl2, hq2, b2⟩ := hrel
          by_cases ht9 : t < 9
          · have hlt' : (t : Int) < 9 := by omega
            by_cases hq0 : 0 < m2
            · have hc2' : (0 : Int) < (m2 : Int) := by omega
              have hqp : 0 < q := by
                rcases Nat.eq_zero_or_pos q with e | e
                · have h1 := HM2.out; rw [e] at h1; rw [(D_zero 0).2 rfl] at h1; omega
                · exact e
              have hk1 : bs2.length ≤ 1000000 := by have h1 := congrArg List.length htl2; rw [List.length_append] at h1; have h2 := tl_bound v n (by omega); omega
              have hk2 : bs2.length = k2 := ownY_len own2
              have hut : u / 10 ^ t ≠ 0 := by
                rw [small_split u t ht, ← HQ.out, ← HR0.out]
                generalize r0 / 10 ^ t = z at *
                have h2 : 0 < q * 10 ^ (9 - t) := Nat.mul_pos hqp (Nat.pow_pos (by omega))
                omega
              have htl3 := M.tl_pos hut
              have hdg : u / 10 ^ t % 10 = r0 / 10 ^ t % 10 := by
                rw [small_split u t ht, ← HQ.out, ← HR0.out, show 9 - t = (8 - t) + 1 by omega, Nat.pow_succ, ← Nat.mul_assoc, Nat.add_comm, Nat.add_mul_mod_self_right]
              obtain ⟨x, hx⟩ : ∃ x, x = r0 / 10 ^ t := ⟨_, rfl⟩
              have hxl : x < 1000000000 := by rw [hx]; exact Nat.lt_of_le_of_lt (Nat.div_le_self _ _) (by rw [HR0.out]; exact Nat.mod_lt _ (by omega))
              rw [← hx] at hdg ⊢
              obtain ⟨c, hcv⟩ : ∃ c, c = 48 + x % 10 := ⟨_, rfl⟩
              have hcb : c ≤ 57 := by omega
              have s1 : (x : Int).tmod 10 = ((x % 10 : Nat) : Int) := by rw [Int.tmod_eq_emod_of_nonneg (by omega)]; omega
              have s2 : IntKind.u64.wrap (48 + (x : Int) % 10) = (c : Int) := by rw [IntKind.wrap_u64]; omega
              have s3 : (c : Int) % 256 = (c : Int) := by omega
              have s4 : (x : Int).tdiv 10 = ((x / 10 : Nat) : Int) := by rw [Int.tdiv_eq_ediv_of_nonneg (by omega)]; omega
              have HX := hid hx; have HC := hid hcv; have HD := hid hdg; have OWN2 := hid own2; have HTL2 := hid htl2; have HTL3 := hid htl3; have HQ2 := hid hq2; have B2 := hid b2
              clear hx hcv hdg own2 htl2 htl3 hq2 b2
              have hnew : ∀ j u, (UB [c])[j]? = some u → (wi.alloc (.cells #[.int .u8 (c : Int)] 5)).cell? ((⟨wi.heap.size, 0, none⟩ : Addr).add j) = some u := by
                intro j u hj
                match j, hj with
                | 0, hj => simp [UB] at hj; subst hj; simp [Addr.add]
              go_wp2_with (at_builtin; refine wpList_append_own _ rfl _ _ 25 rfl w.heap.size 5 i0 (.int .u8 0) 1 1 Tryz.underlying25 hi hz0 hz1 hz2 rfl (by decide) _ _ _ rfl (OWN2.out.alloc _) ⟨wi.heap.size, 0, none⟩ 1 1 (UB [c]) rfl rfl ?c1 ?c2 ?c3 ?c4 ?c5 ?_)
              case c1 => first | exact hnew | (intro j u hj; simpa [UB] using hj)
              case c2 => exact UB_one _
              case c3 => unfold maxLen; omega
              case c4 => omega
              case c5 => have := B2.out.size; simp; omega
              intro v' w3 hown' hgrow _
              obtain ⟨oa3, cap', rfl⟩ := ownY_shape hown'
              go_wp2_with fail
              go_roundw
              case rel =>
                refine ⟨t + 1, k2 + 1, cap', oa3, bs2 ++ [c], by omega, by go_num, ?_, rfl, by rw [UB_append]; exact hown', ?_, ?_, ?_⟩
                · rw [Nat.pow_succ, ← Nat.div_div_eq_div_mul, ← HX.out]; congr 1
                · rw [HTL2.out, HTL3.out, HD.out, ← HC.out, Nat.pow_succ, ← Nat.div_div_eq_div_mul, List.append_assoc]; rfl
                · exact (HQ2.out.alloc _).kept hgrow (rows_ne HQ2.out OWN2.out (by decide))
                · exact (B2.out.alloc B2.out.size _).grown hgrow (by have := B2.out.size; simp; omega) (fun j e => own_place OWN2.out e)
              case measure => simp [intOf]; omega
            · have hq1 : q = 0 := (D_zero q).1 (by rw [← HM2.out]; omega)
              have hq3 : ¬ (0 : Int) < (m2 : Int) := by omega
              by_cases hr1 : 0 < r0 / 10 ^ t
              · have hc2' : 0 < r0 / 10 ^ t := hr1
                have hc4 : (0 : Int) < ((r0 / 10 ^ t : Nat) : Int) := by omega
                have hk1 : bs2.length ≤ 1000000 := by have h1 := congrArg List.length htl2; rw [List.length_append] at h1; have h2 := tl_bound v n (by omega); omega
                have hk2 : bs2.length = k2 := ownY_len own2
                have hut : u / 10 ^ t ≠ 0 := by
                  rw [small_split u t ht, ← HQ.out, ← HR0.out]
                  generalize r0 / 10 ^ t = z at *
                  omega
                have htl3 := M.tl_pos hut
                have hdg : u / 10 ^ t % 10 = r0 / 10 ^ t % 10 := by
                  rw [small_split u t ht, ← HQ.out, ← HR0.out, show 9 - t = (8 - t) + 1 by omega, Nat.pow_succ, ← Nat.mul_assoc, Nat.add_comm, Nat.add_mul_mod_self_right]
                obtain ⟨x, hx⟩ : ∃ x, x = r0 / 10 ^ t := ⟨_, rfl⟩
                have hxl : x < 1000000000 := by rw [hx]; exact Nat.lt_of_le_of_lt (Nat.div_le_self _ _) (by rw [HR0.out]; exact Nat.mod_lt _ (by omega))
                rw [← hx] at hdg hc2' hc4 hr1 ⊢
                obtain ⟨c, hcv⟩ : ∃ c, c = 48 + x % 10 := ⟨_, rfl⟩
                have hcb : c ≤ 57 := by omega
                have s1 : (x : Int).tmod 10 = ((x % 10 : Nat) : Int) := by rw [Int.tmod_eq_emod_of_nonneg (by omega)]; omega
                have s2 : IntKind.u64.wrap (48 + (x : Int) % 10) = (c : Int) := by rw [IntKind.wrap_u64]; omega
                have s3 : (c : Int) % 256 = (c : Int) := by omega
                have s4 : (x : Int).tdiv 10 = ((x / 10 : Nat) : Int) := by rw [Int.tdiv_eq_ediv_of_nonneg (by omega)]; omega
                have HX := hid hx; have HC := hid hcv; have HD := hid hdg; have OWN2 := hid own2; have HTL2 := hid htl2; have HTL3 := hid htl3; have HQ2 := hid hq2; have B2 := hid b2
                clear hx hcv hdg own2 htl2 htl3 hq2 b2
                have hnew : ∀ j u, (UB [c])[j]? = some u → (wi.alloc (.cells #[.int .u8 (c : Int)] 5)).cell? ((⟨wi.heap.size, 0, none⟩ : Addr).add j) = some u := by
                  intro j u hj
                  match j, hj with
                  | 0, hj => simp [UB] at hj; subst hj; simp [Addr.add]
                go_wp2_with (at_builtin; refine wpList_append_own _ rfl _ _ 25 rfl w.heap.size 5 i0 (.int .u8 0) 1 1 Tryz.underlying25 hi hz0 hz1 hz2 rfl (by decide) _ _ _ rfl (OWN2.out.alloc _) ⟨wi.heap.size, 0, none⟩ 1 1 (UB [c]) rfl rfl ?c1 ?c2 ?c3 ?c4 ?c5 ?_)
                case c1 => first | exact hnew | (intro j u hj; simpa [UB] using hj)
                case c2 => exact UB_one _
                case c3 => unfold maxLen; omega
                case c4 => omega
                case c5 => have := B2.out.size; simp; omega
                intro v' w3 hown' hgrow _
                obtain ⟨oa3, cap', rfl⟩ := ownY_shape hown'
                go_wp2_with fail
                go_roundw
                case rel =>
                  refine ⟨t + 1, k2 + 1, cap', oa3, bs2 ++ [c], by omega, by go_num, ?_, rfl, by rw [UB_append]; exact hown', ?_, ?_, ?_⟩
                  · rw [Nat.pow_succ, ← Nat.div_div_eq_div_mul, ← HX.out]; congr 1
                  · rw [HTL2.out, HTL3.out, HD.out, ← HC.out, Nat.pow_succ, ← Nat.div_div_eq_div_mul, List.append_assoc]; rfl
                  · exact (HQ2.out.alloc _).kept hgrow (rows_ne HQ2.out OWN2.out (by decide))
                  · exact (B2.out.alloc B2.out.size _).grown hgrow (by have := B2.out.size; simp; omega) (fun j e => own_place OWN2.out e)
                case measure => simp [intOf]; omega
              · have hz : r0 / 10 ^ t = 0 := Nat.eq_zero_of_not_pos hr1
                rw [hz]
                have htlq : M.tl v = bs2 ++ M.tl q := by
                  rw [htl2, small_split u t ht, ← HQ.out, ← HR0.out, hz, hq1]
                  simp
                have HU := hid htlq; have OWN2 := hid own2; have HQ2 := hid hq2; have B2 := hid b2
                clear htlq own2 hq2 b2 htl2
                go_wp2_with fail
                go_roundg q
                case measure => rw [HQ.out]; omega
                case rel => exact ⟨m2, qc, k2, c3, qa, bb2, bs2, rfl, HM2.out.symm, by omega, Rd.own HQ2.out, rfl, OWN2.out, HU.out, B2.out⟩
          · have hlt' : ¬ (t : Int) < 9 := by omega
            have e9 : t = 9 := by omega
            subst e9
            have htlq : M.tl v = bs2 ++ M.tl q := by rw [htl2, HQ.out]
            obtain ⟨x9, hx9⟩ : ∃ x, x = r0 / 10 ^ 9 := ⟨_, rfl⟩
            rw [← hx9]
            clear hx9
            have HU := hid htlq; have OWN2 := hid own2; have HQ2 := hid hq2; have B2 := hid b2
            clear htlq own2 hq2 b2 htl2
            go_wp2_with fail
            go_roundg q
            case measure => rw [HQ.out]; omega
            case rel => exact ⟨m2, qc, k2, c3, qa, bb2, bs2, rfl, HM2.out.symm, by omega, Rd.own HQ2.out, rfl, OWN2.out, HU.out, B2.out⟩

end Go.Proofs.YtmglhkdgfcbonaaGreatDoor

namespace Go.Proofs.YtmglhkdgfcbonaaGreatDoor

open Go.RowKit

set_option linter.unusedVariables false
set_option maxRecDepth 100000

theorem D_len_le {a b : Nat} (h : a ≤ b) : (D a).length ≤ (D b).length :=
  M.len_of_lt (B := 4294967296) (by omega) _ _ (Nat.lt_of_le_of_lt h (M.lt_dig (by omega) b))

theorem D_mul_len (a b K J : Nat) (h1 : (D a).length ≤ K) (h2 : (D b).length ≤ J) : (D (a * b)).length ≤ K + J := by
  refine M.len_of_lt (B := 4294967296) (by omega) _ _ ?_
  rw [Nat.pow_add]
  exact Nat.mul_lt_mul'' (D_lt a K h1) (D_lt b J h2)

set_option maxHeartbeats 1000000 in
theorem l5Ten_any (m den : Nat) (y : Int) (a b : Option Addr) (c d : Nat) (w : World) (h1 : -9000 ≤ y) (h2 : y ≤ 9000) (lm : (D m).length ≤ 20000) (ld : (D den).length ≤ 20000) (ra : Rd w a (D m)) (rb : Rd w b (D den)) :
    Calls Tryz.prog 34 #[.slice a (D m).length c, .slice b (D den).length d, .int .i64 y] w fun e w' => e = .returned (.bool (decide (M.un m y < M.ud den y))) ∧ Below w.heap.size w w' := by
  unfold M.un M.ud
  by_cases hy : 0 ≤ y
  · obtain ⟨k, rfl⟩ := Int.eq_ofNat_of_zero_le hy
    have e0 : (-(k : Int)).toNat = 0 := by omega
    have e1 : ((k : Int)).toNat = k := by omega
    rw [e0, e1, Nat.pow_zero, Nat.mul_one]
    have lt : (D (10 ^ k)).length ≤ 2401 := D_pow_len 10 k (ten_ok k (by omega))
    have lp := D_mul_len den (10 ^ k) 20000 2401 ld lt
    obtain ⟨P, hP⟩ : ∃ P, P = den * 10 ^ k := ⟨_, rfl⟩
    have kM := fun (v : World) (x : Option Addr) (cx : Nat) hr hr2 => l1Mul_any b x _ _ d cx den (10 ^ k) v rfl rfl (by omega) (by omega) hr hr2
    rw [← hP] at kM lp ⊢
    clear hP e0 e1
    have kc := cmpI_lt (x := m) (y := P)
    go_enter Tryz.func34, Tryz.ntmps34
    go_wp2_with fail
    refine (l1Ten_any k _ (by omega)).mono ?_
    rintro e v1 ⟨ta, tc, rfl, ot, hb⟩
    go_wp2_with fail
    refine (kM _ _ _ (rb.below hb) (Rd.own ot)).mono ?_
    rintro e v2 ⟨pa, pc, rfl, po, hb2⟩
    have b0 := hb.trans (hb2.mono hb.size)
    clear ot hb hb2 kM
    go_wp2_with fail
    refine (l1Cmp_any a pa _ _ c pc m P _ rfl rfl (by omega) (by omega) (ra.below b0) (Rd.own po)).mono ?_
    rintro e v3 ⟨rfl, rfl⟩
    have HB := hid b0; clear b0
    go_wp2_with fail
    go_ret
    exact ⟨by simp, HB.out⟩
  · obtain ⟨k, hk⟩ := Int.eq_ofNat_of_zero_le (show 0 ≤ -y by omega)
    have ey : y = -(k : Int) := by omega
    subst ey
    have hy' : ¬ (0 : Int) ≤ -(k : Int) := hy
    have e0 : (-(-(k : Int))).toNat = k := by omega
    have e1 : (-(k : Int)).toNat = 0 := by omega
    rw [e0, e1, Nat.pow_zero, Nat.mul_one]
    have lt : (D (10 ^ k)).length ≤ 2401 := D_pow_len 10 k (ten_ok k (by omega))
    have lp := D_mul_len m (10 ^ k) 20000 2401 lm lt
    obtain ⟨P, hP⟩ : ∃ P, P = m * 10 ^ k := ⟨_, rfl⟩
    have kM := fun (v : World) (x : Option Addr) (cx : Nat) hr hr2 => l1Mul_any a x _ _ c cx m (10 ^ k) v rfl rfl (by omega) (by omega) hr hr2
    rw [← hP] at kM lp ⊢
    clear hP e0 e1 hk
    have kc := cmpI_lt (x := P) (y := den)
    have e2 : -(-(k : Int)) = (k : Int) := by omega
    go_enter Tryz.func34, Tryz.ntmps34
    go_wp2_with fail
    refine (l1Ten_any k _ (by omega)).mono ?_
    rintro e v1 ⟨ta, tc, rfl, ot, hb⟩
    go_wp2_with fail
    refine (kM _ _ _ (ra.below hb) (Rd.own ot)).mono ?_
    rintro e v2 ⟨pa, pc, rfl, po, hb2⟩
    have b0 := hb.trans (hb2.mono hb.size)
    clear ot hb hb2 kM
    go_wp2_with fail
    refine (l1Cmp_any pa b _ _ pc d P den _ rfl rfl (by omega) (by omega) (Rd.own po) (rb.below b0)).mono ?_
    rintro e v3 ⟨rfl, rfl⟩
    have HB := hid b0; clear b0
    go_wp2_with fail
    go_ret
    exact ⟨by simp, HB.out⟩

theorem l5Scaled_any (N u x den : Nat) (up : Bool) (a b c d : Option Addr) (ca cb cc cd : Nat) (w : World) (lN : (D N).length ≤ 20000) (lu : (D u).length ≤ 20000) (lx : (D x).length ≤ 20000) (ld : (D den).length ≤ 20000)
    (ra : Rd w a (D N)) (rb : Rd w b (D u)) (rc : Rd w c (D x)) (rd : Rd w d (D den)) :
    Calls Tryz.prog 41 #[.slice a (D N).length ca, .slice b (D u).length cb, .bool up, .slice c (D x).length cc, .slice d (D den).length cd] w fun e w' => e = .returned (.int .i64 (cmpI ((N * (if up then u else den) : Nat) : Int) (x : Int))) ∧ Below w.heap.size w w' := by
  cases up
  · simp only [Bool.false_eq_true, if_false]
    have lp := D_mul_len N den 20000 20000 lN ld
    obtain ⟨P, hP⟩ : ∃ P, P = N * den := ⟨_, rfl⟩
    have kM := fun (v : World) hr hr2 => l1Mul_any a d _ _ ca cd N den v rfl rfl (by omega) (by omega) hr hr2
    rw [← hP] at kM lp ⊢
    clear hP
    go_enter Tryz.func41, Tryz.ntmps41
    go_wp2_with fail
    refine (kM _ ra rd).mono ?_
    rintro e v1 ⟨pa, pc, rfl, po, hb⟩
    go_wp2_with fail
    refine (l1Cmp_any pa c _ _ pc cc P x _ rfl rfl (by omega) (by omega) (Rd.own po) (rc.below hb)).mono ?_
    rintro e v2 ⟨rfl, rfl⟩
    have HB := hid hb; clear hb
    go_wp2_with fail
    go_ret
    exact ⟨rfl, HB.out⟩
  · simp only [if_true]
    have lp := D_mul_len N u 20000 20000 lN lu
    obtain ⟨P, hP⟩ : ∃ P, P = N * u := ⟨_, rfl⟩
    have kM := fun (v : World) hr hr2 => l1Mul_any a b _ _ ca cb N u v rfl rfl (by omega) (by omega) hr hr2
    rw [← hP] at kM lp ⊢
    clear hP
    go_enter Tryz.func41, Tryz.ntmps41
    go_wp2_with fail
    refine (kM _ ra rb).mono ?_
    rintro e v1 ⟨pa, pc, rfl, po, hb⟩
    go_wp2_with fail
    refine (l1Cmp_any pa c _ _ pc cc P x _ rfl rfl (by omega) (by omega) (Rd.own po) (rc.below hb)).mono ?_
    rintro e v2 ⟨rfl, rfl⟩
    have HB := hid hb; clear hb
    go_wp2_with fail
    go_ret
    exact ⟨rfl, HB.out⟩

def wIn (P lo hi : Nat) (cl : Bool) : Bool := (if cl then decide (lo ≤ P) else decide (lo < P)) && (if cl then decide (P ≤ hi) else decide (P < hi))

theorem cmpI3 (x y : Nat) : cmpI (x : Int) (y : Int) = if x < y then -1 else if x = y then 0 else 1 := by
  unfold cmpI
  by_cases x1 : x < y
  · rw [if_pos (by omega), if_pos x1]
  · rw [if_neg (by omega), if_neg x1]
    by_cases x2 : x = y
    · rw [if_neg (by omega), if_pos x2]
    · rw [if_pos (by omega), if_neg x2]

set_option maxHeartbeats 2000000 in
set_option maxRecDepth 10000 in
theorem l5Within_any (N u lo hi den : Nat) (up cl : Bool) (a b c d e : Option Addr) (ca cb cc cd ce : Nat) (w : World) (lN : (D N).length ≤ 20000) (lu : (D u).length ≤ 20000) (ll : (D lo).length ≤ 20000) (lh : (D hi).length ≤ 20000) (ld : (D den).length ≤ 20000)
    (ra : Rd w a (D N)) (rb : Rd w b (D u)) (rc : Rd w c (D lo)) (rd : Rd w d (D hi)) (re : Rd w e (D den)) :
    Calls Tryz.prog 40 #[.slice a (D N).length ca, .slice b (D u).length cb, .bool up, .slice c (D lo).length cc, .slice d (D hi).length cd, .slice e (D den).length ce, .bool cl] w fun r w' => r = .returned (.bool (wIn (N * (if up then u else den)) lo hi cl)) ∧ Below w.heap.size w w' := by
  have k1 := fun (v : World) h1 h2 h3 h4 => l5Scaled_any N u lo den up a b c e ca cb cc ce v lN lu ll ld h1 h2 h3 h4
  have k2 := fun (v : World) h1 h2 h3 h4 => l5Scaled_any N u hi den up a b d e ca cb cd ce v lN lu lh ld h1 h2 h3 h4
  obtain ⟨P, hP⟩ : ∃ P, P = N * (if up then u else den) := ⟨_, rfl⟩
  rw [← hP] at k1 k2 ⊢
  clear hP
  obtain ⟨R, hR⟩ : ∃ R, R = wIn P lo hi cl := ⟨_, rfl⟩
  rw [← hR]
  have HR := hid hR; clear hR
  have tri : ∀ y : Nat, ∃ z : Int, cmpI (P : Int) (y : Int) = z ∧ ((z = -1 ∧ P < y) ∨ (z = 0 ∧ P = y) ∨ (z = 1 ∧ y < P)) := fun y => by
    refine ⟨_, rfl, ?_⟩
    rw [cmpI3]
    rcases Nat.lt_trichotomy P y with x | x | x
    · rw [if_pos x]; exact .inl ⟨rfl, x⟩
    · rw [if_neg (by omega), if_pos x]; exact .inr (.inl ⟨rfl, x⟩)
    · rw [if_neg (by omega), if_neg (by omega)]; exact .inr (.inr ⟨rfl, x⟩)
  obtain ⟨z1, e1, y1⟩ := tri lo
  obtain ⟨z2, e2, y2⟩ := tri hi
  rw [e1] at k1
  rw [e2] at k2
  clear e1 e2 tri
  rcases y1 with ⟨rfl, x1⟩ | ⟨rfl, x1⟩ | ⟨rfl, x1⟩
  all_goals rcases y2 with ⟨rfl, x2⟩ | ⟨rfl, x2⟩ | ⟨rfl, x2⟩
  all_goals cases cl
  all_goals (
    go_enter Tryz.func40, Tryz.ntmps40
    go_wp2_with fail
    refine (k1 _ ra rb rc re).mono ?_
    rintro r v1 ⟨rfl, hb⟩
    go_wp2_with fail
    refine (k2 _ (ra.below hb) (rb.below hb) (rd.below hb) (re.below hb)).mono ?_
    rintro r v2 ⟨rfl, hb2⟩
    have HB := hid (hb.trans (hb2.mono hb.size))
    clear hb hb2 k1 k2
    go_wp2_with fail
    go_ret
    refine ⟨?_, HB.out⟩
    rw [HR.out]
    unfold wIn
    simp
    try omega)

end Go.Proofs.YtmglhkdgfcbonaaGreatDoor

namespace Go.Proofs.YtmglhkdgfcbonaaGreatDoor

open Go.RowKit

set_option linter.unusedVariables false
set_option maxRecDepth 100000

theorem fld_dp (a b c d e : Int) (x : Bool) (v : World) : Sem.run Tryz.prog (Instr.field 61 (.agg #[.int .i64 a, .int .i64 b, .int .i64 c, .int .i64 d, .int .i64 e, .bool x]) 0) v = .ok (.int .i64 a) v := by kernel_rfl

theorem D_sum_len (a b K : Nat) (h1 : (D a).length ≤ K) (h2 : (D b).length ≤ K) : (D (a + b)).length ≤ K + 1 := by
  refine M.len_of_lt (B := 4294967296) (by omega) _ _ ?_
  have x1 := D_lt a K h1
  have x2 := D_lt b K h2
  rw [Nat.pow_succ]
  omega

theorem ten_lt1 (m : Nat) : 10 ^ m < 2 ^ (4 * m + 1) := by
  have := pow_le_two 10 m
  rw [blen10] at this
  exact Nat.lt_of_le_of_lt this (Nat.pow_lt_pow_right (by omega) (by omega))

theorem M.uB_le (m : Int) (h1 : -20000 ≤ m) (h2 : m ≤ 20000) : -8000 ≤ (m * 30103).tdiv 100000 ∧ (m * 30103).tdiv 100000 ≤ 8000 := by
  obtain ⟨a, b⟩ := uB_ok m h1 h2
  unfold M.uB at a b
  omega

theorem step_app {ops : Array Oper} {o : Oper} {a : Act} {K : Act → World → Prop} {Q : Exit → Act → World → Prop} {E : Prop} (hgd : o.guard = none) (s x : Operand)
    (ho : o.op = .call { callee := .builtin .append, args := #[s, x], argTypes := #[25, 25] }) (w : World) (hs : a.eval s = .slice none 0 0) (ad : Addr) (m c : Nat) (ys : List Nat) (hx : a.eval x = .slice (some ad) m c) (hl : ys.length = m) (hm : 0 < m) (hm2 : m ≤ 1000000) (hr : RdB w (some ad) ys)
    (h : ∀ g cap w', w'.ownsRow w.heap.size 5 1 (.slice (some ⟨g, 0, none⟩) m cap) m (UB ys) → Below w.heap.size w w' → K (a.put o.dst (.slice (some ⟨g, 0, none⟩) m cap)) w') :
    if Region.wanted o (yielded ops a.tmps) = true then Oper.wp Tryz.prog o a w K Q else E := by
  obtain ⟨i0, hi, hz0, hz1, hz2⟩ := info_parts Tryz.infoY
  refine step_append_lies w hgd s x 25 ho w.heap.size 5 i0 (.int .u8 0) 1 1 Tryz.underlying25 hi hz0 hz1 hz2 rfl (by decide) (.slice none 0 0) 0 [] hs (World.ownsRow_nil _ _ _ _) ad m c (UB ys) hx (by rw [UB_length, hl, Nat.mul_one]) ?_ (UB_one _) hm (by unfold maxLen; omega) (by omega) (Nat.le_refl _) w.heap.size rfl ?_
  · intro j u hj
    have hjl : j < ys.length := by
      rcases Nat.lt_or_ge j ys.length with k | k
      · exact k
      · rw [List.getElem?_eq_none (by rw [UB_length]; exact k)] at hj; cases hj
    obtain ⟨b, off, e2, hc⟩ := hr.2 (by omega)
    cases e2
    rw [UB_get ys j hjl] at hj
    cases hj
    rw [Addr.add_lit]
    exact hc j hjl
  · intro g cap w' h1 h2 _ _
    rw [Nat.zero_add, List.nil_append] at h1
    rw [Nat.zero_add]
    exact h g cap w' h1 ((Below.refl _ _).grown h2 (Nat.le_refl _) (fun j e => by cases e))

theorem own_at {w : World} {B n c : Nat} {a : Option Addr} {bs : List Nat} (h : w.ownsRow B 5 1 (.slice a n c) n (UB bs)) (hl : bs.length = n) (hb : ∀ x ∈ bs, x < 256) : OwnV w B (.slice a bs.length c) bs := by
  subst hl
  exact OwnV.of_own h hb

theorem cfar4 {v : World} {g b o : Nat} {x y z u : Value} (h : b ≠ g) : ((((v.setCell ⟨g, 0, none⟩ x).setCell ⟨g, 1, none⟩ y).setCell ⟨g, 2, none⟩ z).setCell ⟨g, 3, none⟩ u).cell? ⟨b, o, none⟩ = v.cell? ⟨b, o, none⟩ :=
  World.cell?_of_block (w := v) (a := ⟨b, o, none⟩) ((((Below.heap_setCell _ _ _ _ h).trans (Below.heap_setCell _ _ _ _ h)).trans (Below.heap_setCell _ _ _ _ h)).trans (Below.heap_setCell _ _ _ _ h))

theorem OwnV.far4y {w : World} {lo g : Nat} {v : Value} {xs : List Nat} (h : OwnV w lo v xs) (hg : g < lo) (a b c d : Value) : OwnV ((((w.setCell ⟨g, 0, none⟩ a).setCell ⟨g, 1, none⟩ b).setCell ⟨g, 2, none⟩ c).setCell ⟨g, 3, none⟩ d) lo v xs :=
  (((h.far ⟨g, 0, none⟩ hg a).far ⟨g, 1, none⟩ hg b).far ⟨g, 2, none⟩ hg c).far ⟨g, 3, none⟩ hg d

theorem below4y {w v : World} (h : Below w.heap.size w v) {g : Nat} (hg : w.heap.size ≤ g) (a b c d : Value) : Below w.heap.size w ((((v.setCell ⟨g, 0, none⟩ a).setCell ⟨g, 1, none⟩ b).setCell ⟨g, 2, none⟩ c).setCell ⟨g, 3, none⟩ d) :=
  (((h.setCell (p := ⟨g, 0, none⟩) hg _).setCell (p := ⟨g, 1, none⟩) hg _).setCell (p := ⟨g, 2, none⟩) hg _).setCell (p := ⟨g, 3, none⟩) hg _

theorem rev_drop_take (l : List Nat) (k n : Nat) (h : l.length = k + n) : (l.drop k).reverse = l.reverse.take n := by
  rw [List.take_reverse, h, Nat.add_sub_cancel]

theorem RdB.pre {w : World} {a : Option Addr} {xs : List Nat} (h : RdB w a xs) (n : Nat) : RdB w a (xs.take n) := by
  refine ⟨fun x hx => h.1 x (List.mem_of_mem_take hx), fun hp => ?_⟩
  rw [List.length_take] at hp
  obtain ⟨b, off, e, hk⟩ := h.2 (by omega)
  refine ⟨b, off, e, fun i hi => ?_⟩
  rw [List.length_take] at hi
  rw [hk i (by omega), List.getD_eq_getElem?_getD, List.getD_eq_getElem?_getD, List.getElem?_take_of_lt (by omega)]

theorem sd_end (Pk : Nat) (pk1 : 1 ≤ Pk) (k m TL : Nat) (h1 : TL = (M.txt Pk).length) (h2 : TL = (M.tl Pk).length) (hk : k < TL) (hm : TL - k = m + 1) (hz : ∀ i, i < k → (M.tl Pk).getD i 0 = 48) (hne : (M.tl Pk).getD k 0 ≠ 48) :
    M.sd Pk = (M.txt Pk).take (m + 1) ∧ (M.sd Pk).length = m + 1 := by
  have esd := M.sd_step Pk pk1 k (by omega) hz hne
  have etk : M.sd Pk = (M.txt Pk).take (m + 1) := by
    rw [esd, M.txt_one Pk pk1]
    exact rev_drop_take (M.tl Pk) k (m + 1) (by omega)
  exact ⟨etk, by rw [etk, List.length_take]; omega⟩

theorem txt_tl (Pk : Nat) (pk1 : 1 ≤ Pk) (k m TL : Nat) (h2 : TL = (M.tl Pk).length) (hk : k < TL) (hm : TL - k = m + 1) : (M.txt Pk).getD m 0 = (M.tl Pk).getD k 0 := by
  rw [M.txt_one Pk pk1, List.getD_eq_getElem?_getD, List.getElem?_reverse (by omega), List.getD_eq_getElem?_getD, show (M.tl Pk).length - 1 - m = k by omega]

theorem tl_last_ne (v : Nat) (h : 1 ≤ v) (k : Nat) (hk : k + 1 = (M.tl v).length) : (M.tl v).getD k 0 ≠ 48 := by
  obtain ⟨l, c, e, hc⟩ := M.tl_last (v + 1) v (by omega) (by omega)
  rw [e] at hk ⊢
  rw [List.length_append, List.length_singleton] at hk
  rw [List.getD_eq_getElem?_getD, List.getElem?_append_right (by omega), show k - l.length = 0 by omega]
  simpa using hc

end Go.Proofs.YtmglhkdgfcbonaaGreatDoor

namespace Go.Proofs.YtmglhkdgfcbonaaGreatDoor.M

set_option linter.unusedVariables false
set_option maxRecDepth 100000

theorem Wd.Ok.low_doc {t : Wd} (h : t.Ok) (x : Int) (k : Nat) : wIn (un t.mid x / ud t.den x / 10 ^ k * 10 ^ k * ud t.den x) (un t.lo x) (un t.hi x) t.cl = decide (lowOK t.lo t.mid t.den t.cl (x + k)) := by
  have e : un t.mid x / ud t.den x / 10 ^ k = uT t.mid t.den (x + k) := (uT_add _ _ h.den_pos _ _).symm
  have a := lowOK_at t.lo t.mid t.den h.den_pos t.cl x k
  have b : un t.mid x / ud t.den x / 10 ^ k * 10 ^ k * ud t.den x ≤ un t.mid x := Nat.le_trans (Nat.mul_le_mul_right _ (Nat.div_mul_le_self _ _)) (Nat.div_mul_le_self _ _)
  have c := un_lt h.mid_hi x
  rw [← e] at a
  obtain ⟨P, hP⟩ : ∃ P, P = un t.mid x / ud t.den x / 10 ^ k * 10 ^ k * ud t.den x := ⟨_, rfl⟩
  rw [← hP] at a b ⊢
  clear hP
  rw [Bool.eq_iff_iff, decide_eq_true_iff, a]
  unfold wIn
  by_cases hc : t.cl = true
  · simp only [if_pos hc, Bool.and_eq_true, decide_eq_true_eq]
    omega
  · simp only [if_neg hc, Bool.and_eq_true, decide_eq_true_eq]
    omega

theorem Wd.Ok.high_doc {t : Wd} (h : t.Ok) (x : Int) (k : Nat) : wIn ((un t.mid x / ud t.den x / 10 ^ k + 1) * 10 ^ k * ud t.den x) (un t.lo x) (un t.hi x) t.cl = decide (highOK t.hi t.mid t.den t.cl (x + k)) := by
  have e : un t.mid x / ud t.den x / 10 ^ k = uT t.mid t.den (x + k) := (uT_add _ _ h.den_pos _ _).symm
  have a := highOK_at t.hi t.mid t.den h.den_pos t.cl x k
  have p := ud_pos h.den_pos x
  have b : un t.mid x < (un t.mid x / ud t.den x / 10 ^ k + 1) * 10 ^ k * ud t.den x := by
    rw [← Nat.div_lt_iff_lt_mul p, ← Nat.div_lt_iff_lt_mul (Nat.pow_pos (by omega))]
    omega
  have c := un_lt h.lo_mid x
  rw [← e] at a
  obtain ⟨P, hP⟩ : ∃ P, P = (un t.mid x / ud t.den x / 10 ^ k + 1) * 10 ^ k * ud t.den x := ⟨_, rfl⟩
  rw [← hP] at a b ⊢
  clear hP
  rw [Bool.eq_iff_iff, decide_eq_true_iff, a]
  unfold wIn
  by_cases hc : t.cl = true
  · simp only [if_pos hc, Bool.and_eq_true, decide_eq_true_eq]
    omega
  · simp only [if_neg hc, Bool.and_eq_true, decide_eq_true_eq]
    omega

theorem Wd.Best.doc_no {t : Wd} (h : t.Ok) {r : Nat} (b : t.Best r) (n : Nat) (h1 : 1 ≤ n) (h2 : n < t.N - r) :
    wIn (un t.mid (t.e - 40 + 1) / ud t.den (t.e - 40 + 1) / 10 ^ (40 - n) * 10 ^ (40 - n) * ud t.den (t.e - 40 + 1)) (un t.lo (t.e - 40 + 1)) (un t.hi (t.e - 40 + 1)) t.cl = false ∧
    wIn ((un t.mid (t.e - 40 + 1) / ud t.den (t.e - 40 + 1) / 10 ^ (40 - n) + 1) * 10 ^ (40 - n) * ud t.den (t.e - 40 + 1)) (un t.lo (t.e - 40 + 1)) (un t.hi (t.e - 40 + 1)) t.cl = false := by
  have hN := h.N_le
  have k := b.try n h1 (by omega)
  have e : t.e - 40 + 1 + ((40 - n : Nat) : Int) = t.e + 1 - n := by omega
  rw [h.low_doc, h.high_doc, e, decide_eq_false_iff_not, decide_eq_false_iff_not]
  unfold Wd.ok at k
  have : ¬ n = t.N - r := by omega
  exact ⟨fun x => this (k.1 (.inl x)), fun x => this (k.1 (.inr x))⟩

theorem Wd.Best.doc_yes {t : Wd} (h : t.Ok) {r : Nat} (b : t.Best r) :
    wIn (un t.mid (t.e - 40 + 1) / ud t.den (t.e - 40 + 1) / 10 ^ (40 - (t.N - r)) * 10 ^ (40 - (t.N - r)) * ud t.den (t.e - 40 + 1)) (un t.lo (t.e - 40 + 1)) (un t.hi (t.e - 40 + 1)) t.cl = true ∨
    wIn ((un t.mid (t.e - 40 + 1) / ud t.den (t.e - 40 + 1) / 10 ^ (40 - (t.N - r)) + 1) * 10 ^ (40 - (t.N - r)) * ud t.den (t.e - 40 + 1)) (un t.lo (t.e - 40 + 1)) (un t.hi (t.e - 40 + 1)) t.cl = true := by
  have hN := h.N_le
  have hl := b.lt
  have k := b.try (t.N - r) (by omega) (by omega)
  have e : t.e - 40 + 1 + ((40 - (t.N - r) : Nat) : Int) = t.e + 1 - (t.N - r : Nat) := by omega
  rw [h.low_doc, h.high_doc, e, decide_eq_true_iff, decide_eq_true_iff]
  unfold Wd.ok at k
  exact k.2 rfl

def pkD (f1 f2 : Bool) (cz : Int) (d : Nat) : Nat := if f1 && f2 then (if cz < 0 ∨ (cz = 0 ∧ d % 2 = 1) then d + 1 else d) else if f2 then d + 1 else d

theorem _root_.Go.Proofs.YtmglhkdgfcbonaaGreatDoor.pkD_or (f1 f2 : Bool) (cz : Int) (d : Nat) (h : ¬ pkD f1 f2 cz d = d + 1) : pkD f1 f2 cz d = d := by
  unfold pkD at h ⊢
  split
  · split
    · rename_i h1 h2; rw [if_pos h1, if_pos h2] at h; exact absurd rfl h
    · rfl
  · split
    · rename_i h1 h2; rw [if_neg h1, if_pos h2] at h; exact absurd rfl h
    · rfl

theorem Wd.Best.doc_pick {t : Wd} (h : t.Ok) {r : Nat} (b : t.Best r) (x : Int) (k d : Nat) (hx : x = t.e - 40 + 1) (hk : k = 40 - (t.N - r)) (hd : d = un t.mid x / ud t.den x / 10 ^ k) :
    pkD (wIn (d * 10 ^ k * ud t.den x) (un t.lo x) (un t.hi x) t.cl) (wIn ((d + 1) * 10 ^ k * ud t.den x) (un t.lo x) (un t.hi x) t.cl) (cmpI (((d + (d + 1)) * 10 ^ k * ud t.den x : Nat) : Int) ((un t.mid x * 2 ^ 1 : Nat) : Int)) d = t.pick (t.X + r) := by
  have hN := h.N_le
  have hl := b.lt
  have e : t.X + r = x + (k : Int) := by subst hx hk; show t.X + (r : Int) = t.X + (t.N : Int) - 1 - 40 + 1 + _; omega
  have eT : t.T (x + k) = d := by rw [hd]; exact uT_add _ _ h.den_pos _ _
  have g1 := h.low_doc x k
  have g2 := h.high_doc x k
  rw [← hd] at g1 g2
  have o : lowOK t.lo t.mid t.den t.cl (x + k) ∨ highOK t.hi t.mid t.den t.cl (x + k) := by
    have := b.ok
    rwa [e] at this
  have b1 := un_ge (2 * t.mid) t.den (2 * d + 1) h.den_pos x k
  have b2 := un_le (2 * t.mid) t.den (2 * d + 1) h.den_pos x k
  rw [un_mul, un_mul] at b1 b2
  rw [g1, g2, e]
  have es : (d + (d + 1)) * 10 ^ k * ud t.den x = (2 * d + 1) * 10 ^ k * ud t.den x := by rw [show d + (d + 1) = 2 * d + 1 by omega]
  have em : un t.mid x * 2 ^ 1 = 2 * un t.mid x := by omega
  rw [es, em]
  unfold Wd.pick
  rw [eT]
  generalize (2 * d + 1) * 10 ^ k * ud t.den x = S at *
  generalize 2 * un t.mid x = Q at *
  generalize 2 * un t.mid (x + k) = Q2 at *
  generalize (2 * d + 1) * ud t.den (x + k) = S2 at *
  unfold pkD
  by_cases y1 : lowOK t.lo t.mid t.den t.cl (x + k)
  · by_cases y2 : highOK t.hi t.mid t.den t.cl (x + k)
    · simp only [y1, y2, decide_true, Bool.and_self, if_true, not_true_eq_false, if_false]
      rw [cmpI3]
      rcases Nat.lt_trichotomy S Q with z | z | z
      · have c0 : (if S < Q then (-1 : Int) else if S = Q then 0 else 1) = -1 := if_pos z
        rw [c0, if_pos (show (-1 : Int) < 0 ∨ ((-1 : Int) = 0 ∧ d % 2 = 1) by omega), if_neg (show ¬ (Q2 < S2 ∨ Q2 = S2 ∧ d % 2 = 0) by omega)]
      · have c0 : (if S < Q then (-1 : Int) else if S = Q then 0 else 1) = 0 := by rw [if_neg (show ¬ S < Q by omega), if_pos z]
        rw [c0]
        by_cases z2 : d % 2 = 0
        · rw [if_neg (show ¬ ((0 : Int) < 0 ∨ ((0 : Int) = 0 ∧ d % 2 = 1)) by omega), if_pos (show Q2 < S2 ∨ Q2 = S2 ∧ d % 2 = 0 by omega)]
        · rw [if_pos (show (0 : Int) < 0 ∨ ((0 : Int) = 0 ∧ d % 2 = 1) by omega), if_neg (show ¬ (Q2 < S2 ∨ Q2 = S2 ∧ d % 2 = 0) by omega)]
      · have c0 : (if S < Q then (-1 : Int) else if S = Q then 0 else 1) = 1 := by rw [if_neg (show ¬ S < Q by omega), if_neg (show ¬ S = Q by omega)]
        rw [c0, if_neg (show ¬ ((1 : Int) < 0 ∨ ((1 : Int) = 0 ∧ d % 2 = 1)) by omega), if_pos (show Q2 < S2 ∨ Q2 = S2 ∧ d % 2 = 0 by omega)]
    · simp [y1, y2]
  · have y2 := o.resolve_left y1
    simp [y1, y2]

theorem Wd.Ok.exists_best {t : Wd} (h : t.Ok) : ∃ r, t.Best r := by
  have hN := h.N_le
  have key : ∀ m : Nat, 1 ≤ m → m ≤ t.N → ∃ r, r < m ∧ t.ok (t.X + (r : Nat)) ∧ ∀ z : Nat, r < z → z < m → ¬ t.ok (t.X + z) := by
    intro m
    induction m with
    | zero => intro h1; omega
    | succ m ih =>
      intro _ h2
      rcases Nat.eq_zero_or_pos m with e | e
      · subst e
        exact ⟨0, by omega, by have := h.first.2.2; simpa using this, fun z h3 h4 => by omega⟩
      · by_cases hk : t.ok (t.X + (m : Nat))
        · exact ⟨m, by omega, hk, fun z h3 h4 => by omega⟩
        · obtain ⟨r, r1, r2, r3⟩ := ih e (by omega)
          refine ⟨r, by omega, r2, fun z h3 h4 => ?_⟩
          by_cases hz : z = m
          · subst hz; exact hk
          · exact r3 z h3 (by omega)
  obtain ⟨r, r1, r2, r3⟩ := key t.N hN.1 (Nat.le_refl _)
  exact ⟨r, r1, r2, r3⟩

end Go.Proofs.YtmglhkdgfcbonaaGreatDoor.M

