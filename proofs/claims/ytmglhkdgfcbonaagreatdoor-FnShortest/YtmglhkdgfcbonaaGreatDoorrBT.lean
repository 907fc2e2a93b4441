import Derived.Laws.BytesArg
import Derived.Laws.AppendOwnNone
import Derived.Lib.AppendStr
import Derived.Deep.CutBlock
import Derived.Deep.DeepCutAuto
import Derived.Test.YtmglhkdgfcbonaaGreatDoorrBD
import Derived.Test.YtmglhkdgfcbonaaGreatDoorrBY
import Derived.Test.YtmglhkdgfcbonaaGreatDoorrBS
set_option maxHeartbeats 1000000
set_option maxRecDepth 100000
namespace Go.Proofs.YtmglhkdgfcbonaaGreatDoor
open Go.RowKit
set_option linter.unusedVariables false
set_option maxRecDepth 100000
def RdV (w : World) (v : Value) (bs : List Nat) : Prop := ∃ a c, v = .slice a bs.length c ∧ bs.length ≤ c ∧ c ≤ 9223372036854775807 ∧ (a = none → c = 0) ∧ RdB w a bs

theorem RdB.tail {w : World} {b off : Nat} {bs : List Nat} (h : RdB w (some ⟨b, off, none⟩) bs) (k : Nat) : RdB w (some ⟨b, off + k, none⟩) (bs.drop k) := by
 refine ⟨fun x hx => h.1 x (List.mem_of_mem_drop hx), fun hp => ⟨b, off + k, rfl, fun i hi => ?_⟩⟩
 rw [List.length_drop] at hi
 obtain ⟨b', o', e, hc⟩ := h.2 (by omega)
 simp only [Option.some.injEq, Addr.mk.injEq, and_true] at e
 obtain ⟨rfl, rfl⟩ := e
 have := hc (k + i) (by omega)
 rw [Nat.add_assoc, this]
 simp [List.getD_eq_getElem?_getD, List.getElem?_drop]

theorem RdB.front {w : World} {a : Option Addr} {bs : List Nat} (h : RdB w a bs) (k : Nat) : RdB w a (bs.take k) := by
 refine ⟨fun x hx => h.1 x (List.mem_of_mem_take hx), fun hp => ?_⟩
 rw [List.length_take] at hp
 obtain ⟨b, off, e, hc⟩ := h.2 (by omega)
 refine ⟨b, off, e, fun i hi => ?_⟩
 rw [List.length_take] at hi
 rw [hc i (by omega)]
 simp [List.getD_eq_getElem?_getD, show i < k by omega]

theorem RdB.view {w : World} {b off : Nat} {bs : List Nat} (h : RdB w (some ⟨b, off, none⟩) bs) (k c : Nat) (hk : k ≤ bs.length) (hc : bs.length ≤ c) : RdB w (if c = k then some ⟨b, off, none⟩ else some ⟨b, off + k, none⟩) (bs.drop k) := by
 split
 next e =>
  have : bs.drop k = [] := List.drop_eq_nil_of_le (by omega)
  rw [this]
  exact ⟨fun x hx => by simp at hx, fun hp => by simp at hp⟩
 next e => exact h.tail k

theorem RdB.drewN {w : World} {a : Option Addr} {bs : List Nat} (h : RdB w a bs) (q : Nat) : RdB (w.drewN q) a bs := h.below (below_drewN (Below.refl _ _) q)

theorem RdV.below {w w' : World} {v : Value} {bs : List Nat} (h : RdV w v bs) (hb : Below w.heap.size w w') : RdV w' v bs := by
 obtain ⟨a, c, e, hc, hm, hno, hr⟩ := h
 exact ⟨a, c, e, hc, hm, hno, hr.below hb⟩

theorem ownY_max {w : World} {base n cap : Nat} {ao : Option Addr} {xs : List Value} (h : w.ownsRow base 5 1 (.slice ao n cap) n xs) : cap ≤ 9223372036854775807 := by
 rcases h.2 with ⟨he, h0⟩ | ⟨g, cap', cur, he, _, hg, hc, hm, _⟩
 · simp at he; omega
 · simp only [Value.slice.injEq] at he
   obtain ⟨_, _, rfl⟩ := he
   unfold maxLen at hm
   omega

theorem ownY_none {w : World} {base n cap : Nat} {ao : Option Addr} {xs : List Value} (h : w.ownsRow base 5 1 (.slice ao n cap) n xs) (e : ao = none) : cap = 0 := by
 rcases h.2 with ⟨he, h0⟩ | ⟨g, cap', cur, he, _⟩
 · simp at he; omega
 · simp only [Value.slice.injEq] at he
   rw [e] at he
   cases he.1

theorem RdV.of_own {w : World} {base n c : Nat} {a : Option Addr} {bs : List Nat} (h : w.ownsRow base 5 1 (.slice a n c) n (UB bs)) (hb : ∀ x ∈ bs, x < 256) : RdV w (.slice a n c) bs := by
 have hl := ownY_len h
 subst hl
 exact ⟨a, c, rfl, ownY_cap h, ownY_max h, ownY_none h, RdB.of (RdY.own h) hb⟩

def RdX (w : World) (B : Nat) (ao : Option Addr) (bs : List Nat) : Prop :=
 (∀ x ∈ bs, x < 256) ∧ (0 < bs.length → ∃ b off, ao = some ⟨b, off, none⟩ ∧ B ≤ b ∧ ∀ i, i < bs.length → w.cell? ⟨b, off + i, none⟩ = some (.int .u8 ((bs.getD i 0 : Nat) : Int)))

theorem RdX.rd {w : World} {B : Nat} {ao : Option Addr} {bs : List Nat} (h : RdX w B ao bs) : RdB w ao bs :=
 ⟨h.1, fun hp => by obtain ⟨b, off, e, _, hc⟩ := h.2 hp; exact ⟨b, off, e, hc⟩⟩

theorem RdX.below {w w' : World} {B : Nat} {ao : Option Addr} {bs : List Nat} (h : RdX w B ao bs) (hb : Below w.heap.size w w') : RdX w' B ao bs := by
 refine ⟨h.1, fun hp => ?_⟩
 obtain ⟨b, off, e, hB, hc⟩ := h.2 hp
 exact ⟨b, off, e, hB, fun i hi => (hb.cell (p := ⟨b, off + i, none⟩) (World.block_lt_of_cell? w _ (hc i hi))).trans (hc i hi)⟩

theorem cell_far (w : World) (p : Addr) (b o : Nat) (x : Value) (h : p.block ≠ b) : (w.setCell p x).cell? ⟨b, o, none⟩ = w.cell? ⟨b, o, none⟩ := by
 have e := Below.heap_setCell w p x b (fun e => h e.symm)
 unfold World.cell?
 simp only [e]

theorem RdX.far {w : World} {B : Nat} {ao : Option Addr} {bs : List Nat} (h : RdX w B ao bs) (p : Addr) (hp : p.block < B) (x : Value) : RdX (w.setCell p x) B ao bs := by
 refine ⟨h.1, fun hl => ?_⟩
 obtain ⟨b, off, e, hB, hc⟩ := h.2 hl
 exact ⟨b, off, e, hB, fun i hi => by rw [cell_far w p b (off + i) x (by omega)]; exact hc i hi⟩

theorem RdX.of_own {w : World} {B n c : Nat} {a : Option Addr} {bs : List Nat} (h : w.ownsRow B 5 1 (.slice a n c) n (UB bs)) (hb : ∀ x ∈ bs, x < 256) : RdX w B a bs := by
 refine ⟨hb, fun hp => ?_⟩
 have hl := ownY_len h
 obtain ⟨g, hg, hB⟩ := ownY_addr h (by omega)
 obtain ⟨b, off, e, hc⟩ := RdY.own h hp
 rw [hg] at e
 cases e
 exact ⟨g, 0, hg, hB, hc⟩

theorem trimL_48 (r : List Nat) : M.trimL (48 :: r) = M.trimL r := by simp [M.trimL]

theorem trimL_no {x : Nat} (r : List Nat) (h : x ≠ 48) : M.trimL (x :: r) = x :: r := by simp [M.trimL, h]

theorem trimR_48 (r : List Nat) : M.trimR (r ++ [48]) = M.trimR r := by simp [M.trimR]

theorem trimR_no {x : Nat} (r : List Nat) (h : x ≠ 48) : M.trimR (r ++ [x]) = r ++ [x] := by simp [M.trimR, h]

theorem list_end (zs : List Nat) : zs = [] ∨ ∃ q x, zs = q ++ [x] := by
 rcases List.eq_nil_or_concat zs with h | ⟨q, x, h⟩
 · exact .inl h
 · exact .inr ⟨q, x, by rw [h, List.concat_eq_append]⟩

def sliceLen : Value → Nat
 | .slice _ n _ => n
 | _ => 0

structure KpX (B g : Nat) (v v' : World) : Prop where
 below : Below g v v'
 keep : ∀ j, j < B → j ≠ g → v'.heap[j]? = v.heap[j]?

theorem KpX.refl (B g : Nat) (v : World) : KpX B g v v := ⟨Below.refl _ _, fun _ _ _ => rfl⟩

theorem KpX.set {B g : Nat} {w v : World} (h : KpX B g w v) (i : Nat) (x : Value) : KpX B g w (v.setCell ⟨g, i, none⟩ x) :=
 ⟨h.below.setCell (p := ⟨g, i, none⟩) (Nat.le_refl _) _, fun j hj hne => by rw [Below.heap_setCell v ⟨g, i, none⟩ x j hne]; exact h.keep j hj hne⟩

theorem KpX.alloc {B g : Nat} {w v : World} (h : KpX B g w v) (hB : B ≤ v.heap.size) (hg : g ≤ v.heap.size) (o : Obj) : KpX B g w (v.alloc o) :=
 ⟨h.below.alloc hg _, fun j hj hne => by rw [Below.heap_alloc v o j (by omega)]; exact h.keep j hj hne⟩

theorem KpX.grown {B g : Nat} {w v v' : World} {row : Option Nat} (h : KpX B g w v) (hg : v.grownBy v' row) (hB : B ≤ v.heap.size) (hgB : g < B) (hr : ∀ j, row = some j → B ≤ j) : KpX B g w v' :=
 ⟨h.below.grown hg (by omega) (fun j e => by have := hr j e; omega), fun j hj hne => by rw [hg.block j (by omega) (fun e => by have := hr j e.symm; omega)]; exact h.keep j hj hne⟩

theorem KpX.trans {B g : Nat} {a b c : World} (h : KpX B g a b) (k : KpX B g b c) : KpX B g a c := ⟨h.below.trans k.below, fun j hj hne => (k.keep j hj hne).trans (h.keep j hj hne)⟩

def OwnV (w : World) (lo : Nat) (v : Value) (xs : List Nat) : Prop :=
 ∃ a c, v = .slice a xs.length c ∧ xs.length ≤ c ∧ c ≤ 9223372036854775807 ∧ (a = none → c = 0) ∧ (∀ x ∈ xs, x < 256) ∧
   (0 < xs.length → ∃ b off cur, a = some ⟨b, off, none⟩ ∧ lo ≤ b ∧ w.heap[b]? = some (.cells cur 5) ∧ ∀ i, i < xs.length → cur[off + i]? = some (.int .u8 ((xs.getD i 0 : Nat) : Int)))

theorem drop_cons (bs : List Nat) (p : Nat) (h : p < bs.length) : bs.drop p = bs.getD p 0 :: bs.drop (p + 1) := by
 rw [List.drop_eq_getElem_cons h, List.getD_eq_getElem?_getD, List.getElem?_eq_getElem h]; rfl

theorem OwnV.rd {w : World} {lo : Nat} {a : Option Addr} {c : Nat} {xs : List Nat} (h : OwnV w lo (.slice a xs.length c) xs) : RdB w a xs := by
 obtain ⟨a', c', e, _, _, _, hx, h2⟩ := h
 cases e
 refine ⟨hx, fun hp => ?_⟩
 obtain ⟨b, off, cur, e1, _, hb, hc⟩ := h2 hp
 exact ⟨b, off, e1, fun i hi => by rw [cell_of_row w b (off + i) _ _ (0, 0) hb, hc i hi]⟩

theorem OwnV.below {w w' : World} {lo : Nat} {v : Value} {xs : List Nat} (h : OwnV w lo v xs) (hb : Below w.heap.size w w') : OwnV w' lo v xs := by
 obtain ⟨a, c, e, h1, h2, h3, h4, h5⟩ := h
 refine ⟨a, c, e, h1, h2, h3, h4, fun hp => ?_⟩
 obtain ⟨b, off, cur, e1, e2, e3, e4⟩ := h5 hp
 exact ⟨b, off, cur, e1, e2, (hb.block b (Array.getElem?_eq_some_iff.1 e3).1).trans e3, e4⟩

theorem OwnV.far {w : World} {lo : Nat} {v : Value} {xs : List Nat} (h : OwnV w lo v xs) (p : Addr) (hp : p.block < lo) (x : Value) : OwnV (w.setCell p x) lo v xs := by
 obtain ⟨a, c, e, h1, h2, h3, h4, h5⟩ := h
 refine ⟨a, c, e, h1, h2, h3, h4, fun hq => ?_⟩
 obtain ⟨b, off, cur, e1, e2, e3, e4⟩ := h5 hq
 exact ⟨b, off, cur, e1, e2, by rw [Below.heap_setCell w p x b (by omega)]; exact e3, e4⟩

theorem OwnV.low {w : World} {lo lo' : Nat} {v : Value} {xs : List Nat} (h : OwnV w lo v xs) (hl : lo' ≤ lo) : OwnV w lo' v xs := by
 obtain ⟨a, c, e, h1, h2, h3, h4, h5⟩ := h
 refine ⟨a, c, e, h1, h2, h3, h4, fun hp => ?_⟩
 obtain ⟨b, off, cur, e1, e2, e3, e4⟩ := h5 hp
 exact ⟨b, off, cur, e1, Nat.le_trans hl e2, e3, e4⟩

theorem OwnV.of_own {w : World} {B n c : Nat} {a : Option Addr} {bs : List Nat} (h : w.ownsRow B 5 1 (.slice a n c) n (UB bs)) (hb : ∀ x ∈ bs, x < 256) : OwnV w B (.slice a n c) bs := by
 have hl := ownY_len h
 subst hl
 refine ⟨a, c, rfl, ownY_cap h, ownY_max h, ownY_none h, hb, fun hp => ?_⟩
 rcases h.2 with ⟨e, h0⟩ | ⟨g, cap, cur, e, h1, h2, h3, h4, h5, h6⟩
 · omega
 · simp only [Value.slice.injEq] at e
   obtain ⟨rfl, _, rfl⟩ := e
   refine ⟨g, 0, cur, rfl, h1, h2, fun i hi => ?_⟩
   rw [Nat.zero_add, ← UB_get bs i hi, ← h6, Nat.mul_one, List.getElem?_take_of_lt hi, Array.getElem?_toList]

theorem OwnV.nil (w : World) (lo : Nat) : OwnV w lo (.slice none 0 0) [] := ⟨none, 0, rfl, by simp, by omega, fun _ => rfl, fun x hx => by simp at hx, fun hp => by simp at hp⟩

def tlV (a : Option Addr) (c : Nat) (xs : List Nat) : Value :=
 if M.trimL xs = [] then .slice none 0 0 else match a with
  | some p => .slice (some ⟨p.block, p.off + (xs.length - (M.trimL xs).length), none⟩) (M.trimL xs).length (c - (xs.length - (M.trimL xs).length))
  | none => .slice none 0 0

theorem trimL_len (xs : List Nat) : (M.trimL xs).length ≤ xs.length := (List.dropWhile_suffix _).length_le

theorem trimL_drop (xs : List Nat) : M.trimL xs = xs.drop (xs.length - (M.trimL xs).length) := by
 have h : M.trimL xs <:+ xs := List.dropWhile_suffix _
 exact List.suffix_iff_eq_drop.1 h

theorem trimR_take (xs : List Nat) : M.trimR xs = xs.take (M.trimR xs).length := by
 have h : (xs.reverse.dropWhile (fun c => decide (c = 48))) <:+ xs.reverse := List.dropWhile_suffix _
 have h2 : M.trimR xs <+: xs := by
  unfold M.trimR
  have := List.reverse_prefix.2 h
  rwa [List.reverse_reverse] at this
 exact List.prefix_iff_eq_take.1 h2

theorem trimR_len (xs : List Nat) : (M.trimR xs).length ≤ xs.length := by
 have := congrArg List.length (trimR_take xs)
 rw [List.length_take] at this
 omega

theorem OwnV.tl {w : World} {lo c : Nat} {a : Option Addr} {xs : List Nat} (h : OwnV w lo (.slice a xs.length c) xs) : OwnV w lo (tlV a c xs) (M.trimL xs) := by
 unfold tlV
 by_cases e : M.trimL xs = []
 · rw [if_pos e, e]; exact OwnV.nil _ _
 · rw [if_neg e]
   have hl := trimL_len xs
   have hd := trimL_drop xs
   have hp : 0 < (M.trimL xs).length := List.length_pos_iff.2 e
   obtain ⟨a', c', ee, h1, h2, h3, h4, h5⟩ := h
   cases ee
   obtain ⟨b, off, cur, rfl, e2, e3, e4⟩ := h5 (by omega)
   refine ⟨_, _, rfl, by omega, by omega, (fun h => by cases h), fun y hy => h4 y (by rw [hd] at hy; exact List.mem_of_mem_drop hy), fun _ => ⟨b, _, cur, rfl, e2, e3, fun i hi => ?_⟩⟩
   rw [Nat.add_assoc, e4 _ (by omega)]
   conv => rhs; rw [hd]
   simp [List.getD_eq_getElem?_getD, List.getElem?_drop]

theorem OwnV.tr {w : World} {lo c : Nat} {a : Option Addr} {xs : List Nat} (h : OwnV w lo (.slice a xs.length c) xs) : OwnV w lo (.slice a (M.trimR xs).length c) (M.trimR xs) := by
 have hl := trimR_len xs
 have hd := trimR_take xs
 obtain ⟨a', c', ee, h1, h2, h3, h4, h5⟩ := h
 cases ee
 refine ⟨_, _, rfl, by omega, h2, h3, fun y hy => h4 y (by rw [hd] at hy; exact List.mem_of_mem_take hy), fun hp => ?_⟩
 obtain ⟨b, off, cur, e1, e2, e3, e4⟩ := h5 (by omega)
 refine ⟨b, off, cur, e1, e2, e3, fun i hi => ?_⟩
 rw [e4 i (by omega)]
 conv => rhs; rw [hd]
 rw [List.getD_eq_getElem?_getD, List.getD_eq_getElem?_getD, List.getElem?_take_of_lt hi]

theorem trimLB_any (a : Option Addr) (n c : Nat) (xs : List Nat) (w : World) (hl : xs.length = n) (hcap : n ≤ c) (h : RdB w a xs) (x : Value) (hx : x = tlV a c xs) :
 Calls Tryz.prog 138 #[.slice a n c, .int .u8 48] w fun e w' => e = .returned x ∧ w' = w := by
 subst hl
 have HX := hid hx; clear hx
 go_enter Tryz.func138, Tryz.ntmps138
 go_wp2_with fail
 go_loopw [0] (fun ov wr => ∃ (k : Nat) (a' : Option Addr), k ≤ xs.length ∧ ov = .slice a' (xs.length - k) (c - k) ∧ (k < xs.length → a' = a.map fun p => ⟨p.block, p.off + k, none⟩) ∧ M.trimL xs = M.trimL (xs.drop k) ∧ wr = w) (fun ov _ => sliceLen ov)
 case atStart => exact ⟨0, a, by omega, rfl, fun hp => by obtain ⟨b, off, e, _⟩ := h.2 hp; rw [e]; rfl, by rw [List.drop_zero], rfl⟩
 case round =>
  obtain ⟨k, a', hk, rfl, h4, h5, rfl⟩ := hrel
  have H5 := hid h5; clear h5
  by_cases hlt : k < xs.length
  · obtain ⟨b2, o2, hbo, hc2⟩ := h.2 (by omega)
    have hck := hc2 k hlt
    have ha' := h4 hlt
    subst hbo
    simp only [Option.map_some] at ha'
    subst ha'
    obtain ⟨m, hm⟩ : ∃ m, xs.length - k = m + 1 := ⟨xs.length - k - 1, by omega⟩
    have hdr := drop_cons xs k hlt
    rw [hm]
    have hpos : (0 : Int) < ((m + 1 : Nat) : Int) := by omega
    have hne0 : (((m + 1 : Nat) : Int) == 0) = false := by rw [beq_eq_false_iff_ne]; omega
    have hcc : m + 1 ≤ c - k := by omega
    have H := hid h; have HDR := hid hdr; have HM := hid hm
    clear h hc2 h4 hdr hm
    generalize hxk : xs.getD k 0 = y at *
    by_cases hy : y = 48
    · subst hy
      go_wp2_with fail
      refine ⟨⟨k + 1, _, by omega, by rw [show xs.length - (k + 1) = m by have := HM.out; omega, show c - (k + 1) = c - k - 1 by omega], fun hq => ?_, by rw [H5.out, HDR.out, trimL_48], by first | rfl | trivial⟩, by simp [sliceLen]⟩
      rw [if_neg (by have := HM.out; omega)]
      rfl
    · have hy' : ((y : Int) == 48) = false := by rw [beq_eq_false_iff_ne]; omega
      have HY := hid hy; clear hy
      go_wp2_with fail
      go_ret
      refine ⟨?_, rfl⟩
      rw [HX.out]
      have e : M.trimL xs = xs.drop k := by rw [H5.out, HDR.out, trimL_no _ HY.out]
      have e2 : (M.trimL xs).length = m + 1 := by rw [e, List.length_drop]; exact HM.out
      have e3 : xs.length - (M.trimL xs).length = k := by have := HM.out; omega
      unfold tlV
      rw [if_neg (fun q => by rw [q] at e2; simp at e2), e3, e2]
      rfl
  · have e : k = xs.length := by omega
    subst e
    have hnil : M.trimL xs = [] := by rw [H5.out, List.drop_length]; rfl
    have HN := hid hnil
    clear hnil h4
    rw [Nat.sub_self]
    go_wp2_with fail
    go_ret
    refine ⟨?_, rfl⟩
    rw [HX.out]
    unfold tlV
    rw [if_pos HN.out]
    rfl

theorem trimRB_any (a : Option Addr) (n c : Nat) (xs : List Nat) (w : World) (hl : xs.length = n) (hn : n ≤ 10000) (hcap : n ≤ c) (h : RdB w a xs) (m : Nat) (hm : m = (M.trimR xs).length) :
 Calls Tryz.prog 142 #[.slice a n c, .int .u8 48] w fun e w' => e = .returned (.slice a m c) ∧ w' = w := by
 subst hl
 have HM := hid hm; clear hm
 go_enter Tryz.func142, Tryz.ntmps142
 go_wp2_with fail
 go_loopw [0] (fun ov wr => ∃ (ys : List Nat), ov = .slice a ys.length c ∧ ys.length ≤ 10000 ∧ ys.length ≤ c ∧ RdB w a ys ∧ M.trimR xs = M.trimR ys ∧ wr = w) (fun ov _ => sliceLen ov)
 case atStart => exact ⟨xs, rfl, hn, hcap, h, rfl, rfl⟩
 case round =>
  obtain ⟨ys, rfl, hyl, hyc, hrd, h5, rfl⟩ := hrel
  have H5 := hid h5
  clear h5
  rcases list_end ys with rfl | ⟨q, x, rfl⟩
  · clear hrd
    go_wp2_with fail
    go_ret
    exact ⟨by rw [HM.out, H5.out]; rfl, rfl⟩
  · obtain ⟨b2, o2, hbo, hc2⟩ := hrd.2 (by simp)
    subst hbo
    have hck := hc2 q.length (by simp)
    rw [show (q ++ [x]).getD q.length 0 = x by simp] at hck
    have hql : (q ++ [x]).length = q.length + 1 := by simp
    rw [hql] at hyl hyc ⊢
    have hpos : (0 : Int) < ((q.length + 1 : Nat) : Int) := by omega
    have hm1 : ((q.length + 1 : Nat) : Int) - 1 = (q.length : Int) := by omega
    have hcc2 : q.length ≤ c := by omega
    have HRD := hid hrd
    clear hc2 hrd
    by_cases hx : x = 48
    · subst hx
      clear hql
      go_wp2_with fail
      refine ⟨⟨q, rfl, by omega, by omega, ?_, by rw [H5.out, trimR_48], by first | rfl | trivial⟩, by simp [sliceLen]⟩
      have := HRD.out.front q.length
      rwa [List.take_left] at this
    · have hx' : ((x : Int) == 48) = false := by rw [beq_eq_false_iff_ne]; omega
      have HX := hid hx; have HQ := hid hql
      clear hx hql
      go_wp2_with fail
      go_ret
      have e : (M.trimR xs).length = q.length + 1 := by rw [H5.out, trimR_no q HX.out, HQ.out]
      exact ⟨by rw [HM.out, e]; rfl, rfl⟩

theorem trimL_any (a : Option Addr) (n c : Nat) (xs : List Nat) (w : World) (hl : xs.length = n) (hcap : n ≤ c) (h : RdB w a xs) (x : Value) (hx : x = tlV a c xs) :
 Calls Tryz.prog 121 #[.slice a n c, .string ⟨#[48]⟩] w fun e w' => e = .returned x ∧ w' = w := by
 subst hl
 have k := trimLB_any a xs.length c xs w rfl hcap h x hx
 have HX := hid hx; clear h hx
 by_cases h0 : xs = []
 · subst h0
   clear k
   go_enter Tryz.func121, Tryz.ntmps121
   go_wp2_with fail
   go_ret
   exact ⟨by rw [HX.out]; rfl, rfl⟩
 · have h0' : (((xs.length : Nat) : Int) == 0) = false := by
    rw [beq_eq_false_iff_ne]
    have : xs.length ≠ 0 := fun e => h0 (List.length_eq_zero_iff.1 e)
    omega
   go_enter Tryz.func121, Tryz.ntmps121
   go_wp2_with fail
   refine Calls.mono (k) ?_
   rintro e w1 ⟨rfl, rfl⟩
   go_wp2_with fail
   go_ret
   exact ⟨rfl, rfl⟩

theorem trimR_any (a : Option Addr) (n c : Nat) (xs : List Nat) (w : World) (hl : xs.length = n) (hn : n ≤ 10000) (hcap : n ≤ c) (h : RdB w a xs) (m : Nat) (hm : m = (M.trimR xs).length) :
 Calls Tryz.prog 122 #[.slice a n c, .string ⟨#[48]⟩] w fun e w' => e = .returned (.slice a m c) ∧ w' = w := by
 subst hl
 have k := trimRB_any a xs.length c xs w rfl hn hcap h m hm
 have HM := hid hm; clear h hm
 by_cases h0 : xs = []
 · subst h0
   clear k
   go_enter Tryz.func122, Tryz.ntmps122
   go_wp2_with fail
   go_ret
   exact ⟨by rw [HM.out]; rfl, rfl⟩
 · have h0' : (((xs.length : Nat) : Int) == 0) = false := by
    rw [beq_eq_false_iff_ne]
    have : xs.length ≠ 0 := fun e => h0 (List.length_eq_zero_iff.1 e)
    omega
   go_enter Tryz.func122, Tryz.ntmps122
   go_wp2_with fail
   refine Calls.mono (k) ?_
   rintro e w1 ⟨rfl, rfl⟩
   go_wp2_with fail
   go_ret
   exact ⟨rfl, rfl⟩

def bV (a : Option Addr) (c : Nat) (xs : List Nat) : Value :=
 if M.bareD xs = [] then .slice none 0 0 else match tlV a c xs with
  | .slice a' _ c' => .slice a' (M.bareD xs).length c'
  | v => v

theorem OwnV.bv {w : World} {lo c : Nat} {a : Option Addr} {xs : List Nat} (h : OwnV w lo (.slice a xs.length c) xs) : OwnV w lo (bV a c xs) (M.bareD xs) := by
 unfold bV
 by_cases e : M.bareD xs = []
 · rw [if_pos e, e]; exact OwnV.nil _ _
 · rw [if_neg e]
   have ht := h.tl
   obtain ⟨a1, c1, e1, _⟩ := id ht
   rw [e1] at ht ⊢
   exact ht.tr

theorem bare_any (lo : Nat) (a : Option Addr) (n c : Nat) (xs : List Nat) (x : Int) (w : World) (hl : xs.length = n) (hn : n ≤ 10000) (hx : -2000000 ≤ x ∧ x ≤ 2000000) (h : OwnV w lo (.slice a n c) xs) :
 Calls Tryz.prog 98 #[.slice a n c, .int .i64 x] w fun e w' => e = .returned (.tuple #[bV a c xs, .int .i64 (M.bareE xs x)]) ∧ w' = w := by
 subst hl
 have hcap : xs.length ≤ c := by obtain ⟨_, _, e, h1, _⟩ := h; cases e; exact h1
 have k1 := trimL_any a xs.length c xs w rfl hcap h.rd _ rfl
 have hll := trimL_len xs
 have hv1 := h.tl
 obtain ⟨a1, c1, e1, hc1, _⟩ := id hv1
 rw [e1] at hv1 k1
 have k2 := trimR_any a1 (M.trimL xs).length c1 (M.trimL xs) w rfl (by omega) hc1 hv1.rd _ rfl
 have hE : M.bareE xs x = if M.bareD xs = [] then 0 else x + (M.trimL xs).length - (M.bareD xs).length := rfl
 have hB : bV a c xs = if M.bareD xs = [] then .slice none 0 0 else .slice a1 (M.bareD xs).length c1 := by unfold bV; rw [e1]
 have hD : M.trimR (M.trimL xs) = M.bareD xs := rfl
 have hdl := trimR_len (M.trimL xs)
 rw [hD] at k2 hdl
 go_enter Tryz.func98, Tryz.ntmps98
 go_wp2_with fail
 refine k1.mono ?_
 rintro e w1 ⟨rfl, rfl⟩
 go_wp2_with fail
 refine k2.mono ?_
 rintro e w2 ⟨rfl, rfl⟩
 by_cases hz : M.bareD xs = []
 · have hE0 : M.bareE xs x = 0 := by rw [hE, if_pos hz]
   have hB0 : bV a c xs = .slice none 0 0 := by rw [hB, if_pos hz]
   have hz0 : (M.bareD xs).length = 0 := by rw [hz]; rfl
   have HE := hid hE0; have HB := hid hB0
   clear hE hE0 hB hB0 hv1 k1 k2 e1 h hz hD
   rw [hz0]
   go_wp2_with fail
   go_ret2
   exact ⟨by rw [HE.out, HB.out]; rfl, rfl⟩
 · have hz0 : (((M.bareD xs).length : Int) == 0) = false := by
    rw [beq_eq_false_iff_ne]
    have : (M.bareD xs).length ≠ 0 := fun e => hz (List.length_eq_zero_iff.1 e)
    omega
   have hE0 : M.bareE xs x = x + (M.trimL xs).length - (M.bareD xs).length := by rw [hE, if_neg hz]
   have hB0 : bV a c xs = .slice a1 (M.bareD xs).length c1 := by rw [hB, if_neg hz]
   have HE := hid hE0; have HB := hid hB0
   clear hE hE0 hB hB0 hv1 k1 k2 e1 h hz hD
   generalize (M.bareD xs).length = nd at *
   generalize (M.trimL xs).length = nl at *
   go_wp2_with fail
   go_ret2
   exact ⟨by rw [HE.out, HB.out]; rfl, rfl⟩

end Go.Proofs.YtmglhkdgfcbonaaGreatDoor
