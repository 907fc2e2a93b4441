import Derived.Laws.BytesArg
import Derived.Laws.AppendOwnNone
import Derived.Lib.AppendStr
import Derived.Test.YtfdgkleoaehjaaaGreatDoorsGAP
import Derived.Test.YtfdgkleoaehjaaaGreatDoorsGAQ
set_option maxHeartbeats 1000000
namespace Go.Proofs.YtfdgkleoaehjaaaGreatDoor
open Go.RowKit
set_option linter.unusedVariables false
set_option maxRecDepth 100000
theorem nY (bs : List Nat) (k : Nat) (hk : k < bs.length) (h : bs.getD k 0 < 48 \/ 57 < bs.getD k 0) : bs.all M.dgt = false := by
 rw [List.all_eq_false];refine ⟨bs.getD k 0, ?_, ?_⟩
 . rw [List.getD_eq_getElem?_getD, List.getElem?_eq_getElem hk]; exact List.getElem_mem hk
 . rw [M.xW _ h]; decide

theorem gH (ao : Option Addr) (n c : Nat) (bs : List Nat) (w : World) (hl : bs.length = n) (hn : n <= 20000) (hr : RdB w ao bs) (b : Bool) (hb : b = bs.all M.dgt) :
 Calls Tryz.prog 72 #[.slice ao n c] w fun e w' => e = .returned (.bool b) /\ w' = w := by
 have HB := hid hb; clear hb;go_enter Tryz.func72, Tryz.ntmps72;go_wp2_with fail
 go_loopw [7] (fun i wr => ∃ k : Nat, k <= n /\ i = .int .i64 k /\ (∀ j, j < k -> 48 <= bs.getD j 0 /\ bs.getD j 0 <= 57) /\ wr = w) (fun i _ => n - (intOf i).toNat)
 case atStart => exact ⟨0, by omega, rfl, fun j hj => by omega, rfl⟩
 case round =>
  obtain ⟨k, hk, rfl, hd, hwr⟩ := hrel;subst hwr
  by_cases hlt : k < n
  . have hlt' : (k : Int) < (n : Int) := by omega
    obtain ⟨b2, o2, hbo, hc2⟩ := hr.2 (by omega);have hck := hc2 k (by omega);clear hc2;obtain ⟨cv, ecv⟩ : ∃ x, x = bs.getD k 0 := ⟨_, rfl⟩;rw [<- ecv] at hck;have ECV := hid ecv; clear ecv;have HD := hid hd; clear hd
    by_cases h1 : cv < 48
    . have h1' : (cv : Int) < 48 := by omega
      have hbf : b = false := by rw [HB.out]; exact nY bs k (by omega) (by rw [<- ECV.out]; omega)
      have HBF := hid hbf; clear hbf;go_wp2_with fail;go_ret;exact ⟨by rw [HBF.out]; rfl, rfl⟩
    . have h1' : ¬ (cv : Int) < 48 := by omega
      by_cases h2 : 57 < cv
      . have h2' : (57 : Int) < (cv : Int) := by omega
        have hbf : b = false := by rw [HB.out]; exact nY bs k (by omega) (by rw [<- ECV.out]; omega)
        have HBF := hid hbf; clear hbf;go_wp2_with fail;go_ret;exact ⟨by rw [HBF.out]; rfl, rfl⟩
      . have h2' : ¬ (57 : Int) < (cv : Int) := by omega
        go_wp2_with fail;go_roundw
        case rel =>
         have hd2 : ∀ j, j < k + 1 -> 48 <= bs.getD j 0 /\ bs.getD j 0 <= 57 := by
          intro j hj
          by_cases e : j = k
          . rw [e, <- ECV.out]; omega
          . exact HD.out j (by omega)
         first | exact ⟨k + 1, by omega, by go_num, hd2, by first | rfl | trivial⟩ | ((repeat apply Exists.intro); exact ⟨⟨k + 1, by omega, by go_num, hd2, by first | rfl | trivial⟩, by first | rfl | rw [hbo]⟩)
        case measure => simp [intOf]; omega
  . have e : k = n := by omega
    have hbt : b = true := by
     rw [HB.out, List.all_eq_true];intro c hc;obtain ⟨i, hi, rfl⟩ := List.getElem_of_mem hc;have := hd i (by omega);rw [List.getD_eq_getElem?_getD, List.getElem?_eq_getElem hi] at this
     simpa [M.dgt] using this
    have hlt' : ¬ (k : Int) < (n : Int) := by omega
    have HBT := hid hbt; clear hbt hd;go_wp2_with fail;go_ret;exact ⟨by rw [HBT.out]; rfl, rfl⟩

def RdV (w : World) (v : Value) (bs : List Nat) : Prop := ∃ a c, v = .slice a bs.length c /\ bs.length <= c /\ c <= 9223372036854775807 /\ (a = none -> c = 0) /\ RdB w a bs

theorem RdB.tail {w : World} {b off : Nat} {bs : List Nat} (h : RdB w (some ⟨b, off, none⟩) bs) (k : Nat) : RdB w (some ⟨b, off + k, none⟩) (bs.drop k) := by
 refine ⟨fun x hx => h.1 x (List.mem_of_mem_drop hx), fun hp => ⟨b, off + k, rfl, fun i hi => ?_⟩⟩
 rw [List.length_drop] at hi;obtain ⟨b', o', e, hc⟩ := h.2 (by omega);simp only [Option.some.injEq, Addr.mk.injEq, and_true] at e;obtain ⟨rfl, rfl⟩ := e;have := hc (k + i) (by omega);rw [Nat.add_assoc, this]
 simp [List.getD_eq_getElem?_getD, List.getElem?_drop]

theorem RdB.front {w : World} {a : Option Addr} {bs : List Nat} (h : RdB w a bs) (k : Nat) : RdB w a (bs.take k) := by
 refine ⟨fun x hx => h.1 x (List.mem_of_mem_take hx), fun hp => ?_⟩
 rw [List.length_take] at hp;obtain ⟨b, off, e, hc⟩ := h.2 (by omega)
 refine ⟨b, off, e, fun i hi => ?_⟩
 rw [List.length_take] at hi;rw [hc i (by omega)]
 simp [List.getD_eq_getElem?_getD, show i < k by omega]

theorem RdB.view {w : World} {b off : Nat} {bs : List Nat} (h : RdB w (some ⟨b, off, none⟩) bs) (k c : Nat) (hk : k <= bs.length) (hc : bs.length <= c) : RdB w (if c = k then some ⟨b, off, none⟩ else some ⟨b, off + k, none⟩) (bs.drop k) := by
 split
 next e =>
  have : bs.drop k = [] := List.drop_eq_nil_of_le (by omega);rw [this]
  exact ⟨fun x hx => by simp at hx, fun hp => by simp at hp⟩
 next e => exact h.tail k

theorem RdB.drewN {w : World} {a : Option Addr} {bs : List Nat} (h : RdB w a bs) (q : Nat) : RdB (w.drewN q) a bs := h.below (below_drewN (Below.refl _ _) q)

theorem mG (ao : Option Addr) (n c : Nat) (bs : List Nat) (w : World) (hl : bs.length = n) (hcap : n <= c) (hcm : c <= 9223372036854775807) (hno : ao = none -> c = 0) (hr : RdB w ao bs) :
 Calls Tryz.prog 68 #[.slice ao n c] w fun e w' => ∃ v, e = .returned (.tuple #[v, .bool (M.signed bs).2]) /\ RdV w' v (M.signed bs).1 /\ Below w.heap.size w w' := by
 cases bs with
 | nil =>
   obtain rfl : n = 0 := by simpa using hl.symm
   go_enter Tryz.func68, Tryz.ntmps68;go_wp2_with fail
   go_ret2
   exact ⟨_, rfl, ⟨ao, c, rfl, hcap, hcm, hno, hr⟩, Below.refl _ _⟩
 | cons x r =>
   have hn0 : (0 : Int) < (n : Int) := by rw [List.length_cons] at hl; omega
   obtain ⟨b2, o2, hbo, hc2⟩ := hr.2 (by simp);have hck := hc2 0 (by simp);have hx0 : (x :: r).getD 0 0 = x := rfl;rw [hx0, Nat.add_zero] at hck;subst hbo;have HR := hid hr;have HL := hid hl;clear hc2 hx0 hr hl
   by_cases h1 : x = 43
   . subst h1;go_enter Tryz.func68, Tryz.ntmps68;go_wp2_with fail
     go_quiet (fail)
     have k := (HR.out.view 1 c (by simp) (by rw [HL.out]; exact hcap)).drewN nq
     have kn : (if c = 1 then some (⟨b2, o2, none⟩ : Addr) else some ⟨b2, o2 + 1, none⟩) ≠ none := by split <;> simp
     generalize (if c = 1 then some (⟨b2, o2, none⟩ : Addr) else some ⟨b2, o2 + 1, none⟩) = av at k kn |-;go_wp2_with fail
     go_ret2
     have hl := HL.out;rw [List.length_cons] at hl
     exact ⟨_, rfl, ⟨av, c - 1, by show Value.slice av (n - 1) (c - 1) = .slice av r.length (c - 1); rw [show n - 1 = r.length by omega], by show r.length <= _; omega, by omega, fun h => absurd h kn, k⟩, below_drewN (Below.refl _ _) _⟩
   . have h1' : ((x : Int) == 43) = false := by simp; omega
     by_cases h2 : x = 45
     . subst h2;go_enter Tryz.func68, Tryz.ntmps68;go_wp2_with fail
       go_quiet (fail)
       have k := (HR.out.view 1 c (by simp) (by rw [HL.out]; exact hcap)).drewN nq
       have kn : (if c = 1 then some (⟨b2, o2, none⟩ : Addr) else some ⟨b2, o2 + 1, none⟩) ≠ none := by split <;> simp
       generalize (if c = 1 then some (⟨b2, o2, none⟩ : Addr) else some ⟨b2, o2 + 1, none⟩) = av at k kn |-;go_wp2_with fail
       go_ret2
       have hl := HL.out;rw [List.length_cons] at hl
       exact ⟨_, rfl, ⟨av, c - 1, by show Value.slice av (n - 1) (c - 1) = .slice av r.length (c - 1); rw [show n - 1 = r.length by omega], by show r.length <= _; omega, by omega, fun h => absurd h kn, k⟩, below_drewN (Below.refl _ _) _⟩
     . have h2' : ((x : Int) == 45) = false := by simp; omega
       go_enter Tryz.func68, Tryz.ntmps68;go_wp2_with fail
       go_ret2
       rw [M.gF r (by omega)];exact ⟨_, rfl, ⟨_, c, by rw [HL.out]; rfl, by rw [HL.out]; exact hcap, hcm, hno, HR.out⟩, Below.refl _ _⟩

theorem ED (k : Nat) (bs : List Nat) (h : ∀ j, j < bs.length -> bs.getD j 0 ≠ k) : M.cut k bs = (bs, [], false) := by
 induction bs with
 | nil => rfl
 | cons c r ih =>
   rw [M.bL r (by simpa using h 0 (by simp)), ih fun j hj => by simpa using h (j + 1) (by simp; omega)]

theorem F9 (k : Nat) (bs : List Nat) (i : Nat) (hi : i < bs.length) (h : ∀ j, j < i -> bs.getD j 0 ≠ k) (hk : bs.getD i 0 = k) : M.cut k bs = (bs.take i, bs.drop (i + 1), true) := by
 induction bs generalizing i with
 | nil => simp at hi
 | cons c r ih =>
   cases i with
   | zero =>
     have : c = k := by simpa using hk
     subst this;rw [M.lV]; simp
   | succ i => rw [M.bL r (by simpa using h 0 (by omega)), ih i (by simpa using hi) (fun j hj => by simpa using h (j + 1) (by omega)) (by simpa using hk)]; simp

theorem qW (ao : Option Addr) (n c k : Nat) (bs : List Nat) (w : World) (hl : bs.length = n) (hn : n <= 20000) (hcap : n <= c) (hcm : c <= 9223372036854775807) (hno : ao = none -> c = 0) (hk : k < 256) (hr : RdB w ao bs) :
 Calls Tryz.prog 71 #[.slice ao n c, .int .u8 (k : Int)] w fun e w' => ∃ v u, e = .returned (.tuple #[v, u, .bool (M.cut k bs).2.2]) /\ RdV w' v (M.cut k bs).1 /\ RdV w' u (M.cut k bs).2.1 /\ Below w.heap.size w w' := by
 go_enter Tryz.func71, Tryz.ntmps71;go_wp2_with fail
 go_loopw [7] (fun i wr => ∃ j : Nat, j <= n /\ i = .int .i64 j /\ (∀ j', j' < j -> bs.getD j' 0 ≠ k) /\ wr = w) (fun i _ => n - (intOf i).toNat)
 case atStart => exact ⟨0, by omega, rfl, fun j hj => by omega, rfl⟩
 case round =>
  obtain ⟨i, hi, rfl, hd, hwr⟩ := hrel;subst hwr;have HD := hid hd; clear hd
  by_cases hlt : i < n
  . have hlt' : (i : Int) < (n : Int) := by omega
    obtain ⟨b2, o2, hbo, hc2⟩ := hr.2 (by omega);have hck := hc2 i (by omega);clear hc2;subst hbo
    by_cases h1 : bs.getD i 0 = k
    . rw [h1] at hck;have HR := hid hr; clear hr;go_wp2_with fail
      go_quiet (fail)
      have k2 := (HR.out.view (i + 1) c (by omega) (by omega)).drewN nq
      have kn : (if c = i + 1 then some (⟨b2, o2, none⟩ : Addr) else some ⟨b2, o2 + (i + 1), none⟩) ≠ none := by split <;> simp
      generalize (if c = i + 1 then some (⟨b2, o2, none⟩ : Addr) else some ⟨b2, o2 + (i + 1), none⟩) = av at k2 kn |-;go_wp2_with fail;refine bodyPost_ret (v := .tuple #[.slice (some ⟨b2, o2, none⟩) i c, .slice av (n - (i + 1)) (c - (i + 1)), .bool true]) (by simp [results, Tryz.results71, go_sem]) rfl ?_;rw [F9 k bs i (by omega) HD.out h1];have e1 : (bs.take i).length = i := by rw [List.length_take]; omega
      have e2 : (bs.drop (i + 1)).length = n - (i + 1) := by rw [List.length_drop, hl]
      exact ⟨_, _, rfl, ⟨_, c, by rw [e1], by rw [e1]; omega, hcm, hno, (HR.out.front i).drewN nq⟩, ⟨av, _, by rw [e2], by rw [e2]; omega, by omega, fun h => absurd h kn, k2⟩, below_drewN (Below.refl _ _) _⟩
    . have h1' : (((bs.getD i 0 : Nat) : Int) == (k : Int)) = false := beq_eq_false_iff_ne.2 (by omega);obtain ⟨cv, ecv⟩ : ∃ x, x = bs.getD i 0 := ⟨_, rfl⟩;rw [<- ecv] at hck h1 h1';have ECV := hid ecv; have H1 := hid h1; clear ecv h1;go_wp2_with fail;go_roundw
      case rel =>
       have hd2 : ∀ j, j < i + 1 -> bs.getD j 0 ≠ k := by
        intro j hj
        by_cases e : j = i
        . rw [e, <- ECV.out]; exact H1.out
        . exact HD.out j (by omega)
       exact ⟨i + 1, by omega, by go_num, hd2, by first | rfl | trivial⟩
      case measure => simp [intOf]; omega
  . have hlt' : ¬ (i : Int) < (n : Int) := by omega
    go_wp2_with fail;refine bodyPost_ret (v := .tuple #[.slice ao n c, .slice none 0 0, .bool false]) (by simp [results, Tryz.results71, go_sem]) rfl ?_
    rw [ED k bs fun j hj => HD.out j (by omega)]
    refine ⟨_, _, rfl, ⟨ao, c, by rw [hl], by rw [hl]; exact hcap, hcm, hno, hr⟩, ⟨none, 0, rfl, by simp, by omega, fun _ => rfl, ?_⟩, Below.refl _ _⟩
    exact ⟨fun x hx => by simp at hx, fun hp => by simp at hp⟩

theorem uE (ao : Option Addr) (n c : Nat) (bs : List Nat) (w : World) (hl : bs.length = n) (hn : n <= 20000) (hr : RdB w ao bs) :
 Calls Tryz.prog 69 #[.slice ao n c] w fun e w' => RetY w w' e (bs.map M.low) := by
 obtain ⟨i0, hi, hz0, hz1, hz2⟩ := info_parts Tryz.infoY;go_enter Tryz.func69, Tryz.ntmps69;go_wp2_with fail
 go_loopw [3, 8] (fun ov i wx => ∃ (t oc : Nat) (oa : Option Addr), t <= n /\ i = .int .i64 (t : Int) /\ ov = .slice oa t oc /\ wx.ownsRow w.heap.size 5 1 (.slice oa t oc) t (UB ((bs.map M.low).take t)) /\ Below w.heap.size w wx) (fun _ i _ => n - (intOf i).toNat)
 case atStart => exact ⟨0, 0, none, by omega, rfl, rfl, by rw [List.take_zero]; exact World.ownsRow_nil _ _ _ _, Below.refl _ _⟩
 case round =>
  rename World => wx
  obtain ⟨t, oc, oa, ht, rfl, rfl, own3, b3⟩ := hrel;have OWN3 := hid own3; have B3 := hid b3;clear own3 b3
  by_cases hlt : t < n
  . have hlt' : (t : Int) < (n : Int) := by omega
    obtain ⟨b2, o2, hbo, hc2⟩ := hr.2 (by omega);have hck := (B3.out.cell (p := ⟨b2, o2 + t, none⟩) (World.block_lt_of_cell? w _ (hc2 t (by omega)))).trans (hc2 t (by omega));clear hc2;subst hbo;have hx256 : bs.getD t 0 < 256 := M.aZ (by omega) hr.1 t
    have hst : (bs.map M.low).take (t + 1) = (bs.map M.low).take t ++ [M.low (bs.getD t 0)] := by
     rw [List.take_add_one, List.getElem?_map, List.getD_eq_getElem?_getD, List.getElem?_eq_getElem (show t < bs.length by omega)]; rfl
    obtain ⟨x, hx⟩ : ∃ x, x = bs.getD t 0 := ⟨_, rfl⟩;rw [<- hx] at hck hst hx256;clear hx;have HST := hid hst; clear hst
    by_cases h1 : 65 <= x
    . have h1' : (65 : Int) <= (x : Int) := by omega
      by_cases h2 : x <= 90
      . have h2' : (x : Int) <= 90 := by omega
        have hlo : M.low x = x + 32 := by unfold M.low; rw [if_pos ⟨h1, h2⟩]
        rw [hlo] at HST
        go_wp2_with (at_builtin; refine wpList_append_own _ rfl _ _ 22 rfl w.heap.size 5 i0 (.int .u8 0) 1 1 Tryz.underlying22 hi hz0 hz1 hz2 rfl (by decide) _ _ _ rfl (OWN3.out.alloc _) ⟨wx.heap.size, 0, none⟩ 1 1 (UB [x + 32]) rfl rfl ?c1 ?c2 ?c3 ?c4 ?c5 ?_)
        case c1 =>
         intro j u hj
         match j, hj with
         | 0, hj => simp [UB] at hj; subst hj; simp [Addr.add]
        case c2 => exact gQ _
        case c3 => unfold maxLen; omega
        case c4 => omega
        case c5 => have := B3.out.size; simp; omega
        intro v' w3 hown' hgrow _;obtain ⟨oa3, cap', rfl⟩ := dH hown';go_wp2_with fail;go_roundw
        case rel =>
         refine ⟨t + 1, cap', oa3, by omega, by go_num, rfl, by rw [HST.out, cQ]; exact hown', ?_⟩
         exact (B3.out.alloc B3.out.size _).grown hgrow (by have := B3.out.size; simp; omega) (fun j e => bM OWN3.out e)
        case measure => simp [intOf]; omega
      . have h2' : ¬ (x : Int) <= 90 := by omega
        have hlo : M.low x = x := by unfold M.low; rw [if_neg (by omega)]
        rw [hlo] at HST
        go_wp2_with (at_builtin; refine wpList_append_own _ rfl _ _ 22 rfl w.heap.size 5 i0 (.int .u8 0) 1 1 Tryz.underlying22 hi hz0 hz1 hz2 rfl (by decide) _ _ _ rfl (OWN3.out.alloc _) ⟨wx.heap.size, 0, none⟩ 1 1 (UB [x]) rfl rfl ?c1 ?c2 ?c3 ?c4 ?c5 ?_)
        case c1 =>
         intro j u hj
         match j, hj with
         | 0, hj => simp [UB] at hj; subst hj; simp
        case c2 => exact gQ _
        case c3 => unfold maxLen; omega
        case c4 => omega
        case c5 => have := B3.out.size; simp; omega
        intro v' w3 hown' hgrow _;obtain ⟨oa3, cap', rfl⟩ := dH hown';go_wp2_with fail;go_roundw
        case rel =>
         refine ⟨t + 1, cap', oa3, by omega, by go_num, rfl, by rw [HST.out, cQ]; exact hown', ?_⟩
         exact (B3.out.alloc B3.out.size _).grown hgrow (by have := B3.out.size; simp; omega) (fun j e => bM OWN3.out e)
        case measure => simp [intOf]; omega
    . have h1' : ¬ (65 : Int) <= (x : Int) := by omega
      have hlo : M.low x = x := by unfold M.low; rw [if_neg (by omega)]
      rw [hlo] at HST
      go_wp2_with (at_builtin; refine wpList_append_own _ rfl _ _ 22 rfl w.heap.size 5 i0 (.int .u8 0) 1 1 Tryz.underlying22 hi hz0 hz1 hz2 rfl (by decide) _ _ _ rfl (OWN3.out.alloc _) ⟨wx.heap.size, 0, none⟩ 1 1 (UB [x]) rfl rfl ?c1 ?c2 ?c3 ?c4 ?c5 ?_)
      case c1 =>
       intro j u hj
       match j, hj with
       | 0, hj => simp [UB] at hj; subst hj; simp
      case c2 => exact gQ _
      case c3 => unfold maxLen; omega
      case c4 => omega
      case c5 => have := B3.out.size; simp; omega
      intro v' w3 hown' hgrow _;obtain ⟨oa3, cap', rfl⟩ := dH hown';go_wp2_with fail;go_roundw
      case rel =>
       refine ⟨t + 1, cap', oa3, by omega, by go_num, rfl, by rw [HST.out, cQ]; exact hown', ?_⟩
       exact (B3.out.alloc B3.out.size _).grown hgrow (by have := B3.out.size; simp; omega) (fun j e => bM OWN3.out e)
      case measure => simp [intOf]; omega
  . have e : t = n := by omega
    subst e;have hlt' : ¬ (t : Int) < (t : Int) := by omega
    go_wp2_with fail;go_ret;have h1 := OWN3.out;have hl2 : (bs.map M.low).length = t := by rw [List.length_map, hl]
    rw [List.take_of_length_le (by omega)] at h1;exact ⟨oa, oc, by rw [hl2]; rfl, by rw [hl2]; exact h1, B3.out⟩

def aV (s : ByteArray) : List Nat := s.data.toList.map (·.toNat)

def pK (bs : List Nat) : ByteArray := strOfNums (bs.map fun x : Nat => (x : Int))

theorem iJ (bs : List Nat) (h : ∀ x ∈ bs, x < 256) : aV (pK bs) = bs := by
 unfold aV pK;rw [strOfNums_data, List.map_map, List.map_map]
 refine (List.map_congr_left fun x hx => ?_).trans (List.map_id bs)
 have := h x hx
 simp [UInt8.toNat_ofNat']
 omega

theorem F4 {s t : ByteArray} (h : aV s = aV t) : s = t := by
 unfold aV at h
 have : s.data.toList = t.data.toList := (List.map_inj_right (f := UInt8.toNat) (fun x y hxy => UInt8.toNat_inj.1 hxy)).1 h
 cases s; cases t;simp only [ByteArray.mk.injEq];exact Array.toList_inj.1 this

theorem mP (ao : Option Addr) (n c : Nat) (bs : List Nat) (w : World) (hl : bs.length = n) (hr : RdB w ao bs) :
 ∀ dst, Tryz.prog.underlying dst = some .string -> (convert 22 dst (.slice ao n c)).run Tryz.prog w = .ok (.string (pK bs)) w := by
 cases bs with
 | nil =>
   obtain rfl : n = 0 := by simpa using hl.symm
   cases ao with
   | none => exact run_convert_bytes_nil w 22 5 Tryz.underlying22 Tryz.underlying5 0 c
   | some a =>
     intro dst hd
     rw [run_convert_bytes_string w 22 dst 5 _ 0 c Tryz.underlying22 Tryz.underlying5 hd, run_bytesToString w a 0 c [] (run_loadCells_list w a [] (fun j v h => by simp at h))]
     rfl
 | cons x r =>
   obtain ⟨b2, o2, rfl, hc⟩ := hr.2 (by simp)
   exact run_convert_bytes_arg w 22 5 Tryz.underlying22 Tryz.underlying5 b2 o2 n c _ (by simpa using hl) fun i hi => by
    rw [hc i (by omega)];simp only [List.getD_eq_getElem?_getD, List.getElem?_map];rw [List.getElem?_eq_getElem (by omega)]; rfl

theorem K8 (bs : List Nat) (h : ∀ x ∈ bs, x < 256) (s : ByteArray) : ((pK bs).toList == s.toList) = decide (bs = aV s) := by
 by_cases e : bs = aV s
 . have : pK bs = s := F4 (by rw [iJ bs h, e]);rw [this, beq_self_eq_true, decide_eq_true e]
 . rw [decide_eq_false e, beq_eq_false_iff_ne];intro k
   apply e
   rw [ByteArray.toList_eq, ByteArray.toList_eq] at k;rw [<- iJ bs h];unfold aV;rw [k]

theorem iI (ao : Option Addr) (n c : Nat) (bs : List Nat) (s : ByteArray) (w : World) (hl : bs.length = n) (hr : RdB w ao bs) (b : Bool) (hb : b = decide (bs = aV s)) :
 Calls Tryz.prog 70 #[.slice ao n c, .string s] w fun e w' => e = .returned (.bool b) /\ w' = w := by
 have hcv := mP ao n c bs w hl hr;have HE := hid (hb.trans (K8 bs hr.1 s).symm);go_enter Tryz.func70, Tryz.ntmps70;go_wp2_with fail;go_ret;exact ⟨by rw [HE.out]; rfl, rfl⟩

theorem yV (w : World) (row : Option Nat) : w.grownBy w row := ⟨rfl, rfl, rfl, Nat.le_refl _, fun _ _ _ => rfl⟩

theorem dD {ops : Array Oper} {rest : List Oper} {o : Oper} {a : Act} {Q : Exit -> Act -> World -> Prop} (hgd : o.guard = none) (s x : Operand)
 (ho : o.op = .call { callee := .builtin .append, args := #[s, x], argTypes := #[22, 22] }) (w : World) (base : Nat)
 (v : Value) (n : Nat) (xs : List Nat) (hs : a.eval s = v) (hown : w.ownsRow base 5 1 v n (UB xs)) (ao : Option Addr) (m c : Nat) (ys : List Nat) (hx : a.eval x = .slice ao m c) (hl : ys.length = m)
 (hno : ao = none -> c = 0) (hr : RdB w ao ys) (hn : n + m <= 1000000) (hbase : base <= w.heap.size)
 (h : ∀ ra rc w', w'.ownsRow base 5 1 (.slice ra (n + m) rc) (n + m) (UB (xs ++ ys)) -> w.grownBy w' v.ownBlock -> wpList Tryz.prog ops Q rest (a.put o.dst (.slice ra (n + m) rc)) w') : wpList Tryz.prog ops Q (o :: rest) a w := by
 obtain ⟨i0, hi, hz0, hz1, hz2⟩ := info_parts Tryz.infoY
 cases ao with
 | none =>
   obtain rfl := hno rfl
   have hm : m = 0 := by
    rcases Nat.eq_zero_or_pos m with e | e
    . exact e
    . obtain ⟨b, off, e2, _⟩ := hr.2 (by omega);cases e2
   subst hm;have hys : ys = [] := List.length_eq_zero_iff.1 hl;subst hys;obtain ⟨ra, rc, rfl⟩ := dH hown;refine wpList_append_own_none hgd s x 22 ho base 5 i0 1 Tryz.underlying22 hi _ n (UB xs) hs hown hx ?_;exact h ra rc w (by rw [List.append_nil]; exact hown) (yV _ _)
 | some ad =>
   refine wpList_append_own w hgd s x 22 ho base 5 i0 (.int .u8 0) 1 1 Tryz.underlying22 hi hz0 hz1 hz2 rfl (by decide) v n (UB xs) hs hown ad m c (UB ys) hx (by rw [aN, hl, Nat.mul_one]) ?_ (gQ _) (by unfold maxLen; omega) (by omega) hbase ?_
   . intro j u hj
     have hjl : j < ys.length := by
      rcases Nat.lt_or_ge j ys.length with k | k
      . exact k
      . rw [List.getElem?_eq_none (by rw [aN]; exact k)] at hj; cases hj
     obtain ⟨b, off, e2, hc⟩ := hr.2 (by omega);cases e2;rw [eH ys j hjl] at hj;cases hj;rw [Addr.add_lit];exact hc j hjl
   . intro v' w' hown' hg _;obtain ⟨ra, rc, rfl⟩ := dH hown';exact h ra rc w' (by rw [cQ]; exact hown') hg

theorem pV (s : ByteArray) : Lib.strCells s = UB (aV s) := by
 unfold Lib.strCells UB aV;rw [List.map_map]; rfl

theorem oP {ops : Array Oper} {rest : List Oper} {o : Oper} {a : Act} {Q : Exit -> Act -> World -> Prop} (hgd : o.guard = none) (sl x : Operand)
 (ho : o.op = .call { callee := .builtin .append, args := #[sl, x], argTypes := #[22, 9] }) (w : World) (base : Nat)
 (v : Value) (n : Nat) (xs : List Nat) (hs : a.eval sl = v) (hown : w.ownsRow base 5 1 v n (UB xs)) (s : ByteArray) (hx : a.eval x = .string s) (hn : n + s.size <= 1000000) (hbase : base <= w.heap.size)
 (h : ∀ ra rc w', w'.ownsRow base 5 1 (.slice ra (n + s.size) rc) (n + s.size) (UB (xs ++ aV s)) -> w.grownBy w' v.ownBlock -> wpList Tryz.prog ops Q rest (a.put o.dst (.slice ra (n + s.size) rc)) w') : wpList Tryz.prog ops Q (o :: rest) a w := by
 obtain ⟨i0, hi, hz0, hz1, hz2⟩ := info_parts Tryz.infoY;refine Lib.wpList_append_own_string w hgd sl x 22 9 ho base 5 i0 Tryz.underlying22 Tryz.underlying9 hi hz0 hz1 hz2 v n (UB xs) hs hown s hx (by unfold maxLen; omega) (by omega) hbase ?_;intro v' w' hown' hg _;obtain ⟨ra, rc, rfl⟩ := dH hown';exact h ra rc w' (by rw [cQ, <- pV]; exact hown') hg

theorem jB (c : Nat) (hc : c <= 2147483647) (w : World) (x : Int) (hx : x = (M.low c : Int)) :
 Calls Tryz.prog 144 #[.int .i32 (c : Int)] w fun e w' => e = .returned (.int .i32 x) /\ w' = w := by
 have HX := hid hx; clear hx;unfold M.low at HX
 by_cases h1 : 65 <= c
 . have h1' : (65 : Int) <= (c : Int) := by omega
   by_cases h2 : c <= 90
   . have h2' : (c : Int) <= 90 := by omega
     rw [if_pos ⟨h1, h2⟩] at HX;go_enter Tryz.func144, Tryz.ntmps144;go_wp2_with fail;go_ret;exact ⟨cE (by rw [HX.out]; omega), rfl⟩
   . have h2' : ¬ (c : Int) <= 90 := by omega
     rw [if_neg (by omega)] at HX;go_enter Tryz.func144, Tryz.ntmps144;go_wp2_with fail;go_ret;exact ⟨cE (by rw [HX.out]), rfl⟩
 . have h1' : ¬ (65 : Int) <= (c : Int) := by omega
   rw [if_neg (by omega)] at HX;go_enter Tryz.func144, Tryz.ntmps144;go_wp2_with fail;go_ret;exact ⟨cE (by rw [HX.out]), rfl⟩

theorem LK (c : Nat) (hc : c <= 2147483647) : M.low c <= 2147483647 := by unfold M.low; split <;> omega

theorem xT (c : Nat) (hc : c <= 2147483647) (w : World) (x : Int) (hx : x = (M.aF c : Int)) :
 Calls Tryz.prog 121 #[.int .i32 (c : Int)] w fun e w' => e = .returned (.int .i64 x) /\ w' = w := by
 have HX := hid hx; clear hx;have k1 := jB c hc w _ rfl;have hl := LK c hc;unfold M.aF at HX;generalize M.low c = y at *
 by_cases h1 : 48 <= y /\ y <= 57
 . have h1' : (48 : Int) <= (y : Int) := by omega
   have h2' : (y : Int) <= 57 := by omega
   rw [if_pos h1] at HX;go_enter Tryz.func121, Tryz.ntmps121;go_wp2_with fail;refine k1.mono ?_;rintro e w1 ⟨rfl, rfl⟩;go_wp2_with fail;go_ret;exact ⟨cE (by rw [HX.out]; rfl), rfl⟩
 . rw [if_neg h1] at HX;have h1' : (decide ((48 : Int) <= (y : Int)) && decide ((y : Int) <= 57)) = false := by simp; omega
   by_cases h2 : y = 43 \/ y = 45
   . rw [if_pos h2] at HX
     rcases h2 with rfl | rfl <;>
     . go_enter Tryz.func121, Tryz.ntmps121;go_wp2_with fail;refine k1.mono ?_;rintro e w1 ⟨rfl, rfl⟩;go_wp2_with fail;go_ret;exact ⟨cE (by rw [HX.out]; rfl), rfl⟩
   . rw [if_neg h2] at HX
     by_cases h3 : y = 46
     . rw [if_pos h3] at HX;subst h3;go_enter Tryz.func121, Tryz.ntmps121;go_wp2_with fail;refine k1.mono ?_;rintro e w1 ⟨rfl, rfl⟩;go_wp2_with fail;go_ret;exact ⟨cE (by rw [HX.out]; rfl), rfl⟩
     . rw [if_neg h3] at HX
       by_cases h4 : y = 101
       . rw [if_pos h4] at HX;subst h4;go_enter Tryz.func121, Tryz.ntmps121;go_wp2_with fail;refine k1.mono ?_;rintro e w1 ⟨rfl, rfl⟩;go_wp2_with fail;go_ret;exact ⟨cE (by rw [HX.out]; rfl), rfl⟩
       . rw [if_neg h4] at HX
         by_cases h5 : y = 105 \/ y = 110
         . rw [if_pos h5] at HX
           rcases h5 with rfl | rfl <;>
           . go_enter Tryz.func121, Tryz.ntmps121;go_wp2_with fail;refine k1.mono ?_;rintro e w1 ⟨rfl, rfl⟩;go_wp2_with fail;go_ret;exact ⟨cE (by rw [HX.out]; rfl), rfl⟩
         . rw [if_neg h5] at HX;have a1 : ((y : Int) == 43) = false := by rw [beq_eq_false_iff_ne]; omega
           have a2 : ((y : Int) == 45) = false := by rw [beq_eq_false_iff_ne]; omega
           have a3 : ((y : Int) == 46) = false := by rw [beq_eq_false_iff_ne]; omega
           have a4 : ((y : Int) == 101) = false := by rw [beq_eq_false_iff_ne]; omega
           have a5 : ((y : Int) == 105) = false := by rw [beq_eq_false_iff_ne]; omega
           have a6 : ((y : Int) == 110) = false := by rw [beq_eq_false_iff_ne]; omega
           by_cases h6 : 48 <= y
           . have h6' : (48 : Int) <= (y : Int) := by omega
             have h7' : ¬ (y : Int) <= 57 := by omega
             clear h1';go_enter Tryz.func121, Tryz.ntmps121;go_wp2_with fail;refine k1.mono ?_;rintro e w1 ⟨rfl, rfl⟩;go_wp2_with fail;go_ret;exact ⟨cE (by rw [HX.out]; rfl), rfl⟩
           . have h6' : ¬ (48 : Int) <= (y : Int) := by omega
             clear h1';go_enter Tryz.func121, Tryz.ntmps121;go_wp2_with fail;refine k1.mono ?_;rintro e w1 ⟨rfl, rfl⟩;go_wp2_with fail;go_ret;exact ⟨cE (by rw [HX.out]; rfl), rfl⟩

end Go.Proofs.YtfdgkleoaehjaaaGreatDoor
