import Derived.Deep.AppendLies
import Derived.Shelf.Strconv.AppendIntPublic10
import Derived.Shelf.Lay
import Derived.Ground.NamesProg
import Derived.Deep.RegionHeld3
import Derived.Test.YtmglhkdgfcbonaaGreatDoorqBT
namespace Go.Proofs.YtmglhkdgfcbonaaGreatDoor

open Go.RowKit

set_option linter.unusedVariables false
set_option maxRecDepth 100000

def Tx (B : Nat) (w0 w : World) (ra : Option Addr) (n rc : Nat) (xs : List Nat) : Prop :=
  xs.length = n ∧ w.ownsRow B 5 1 (.slice ra n rc) n (UB xs) ∧ Below B w0 w ∧ B ≤ w.heap.size

theorem Tx.nil (w : World) : Tx w.heap.size w w none 0 0 [] := ⟨rfl, World.ownsRow_nil _ _ _ _, Below.refl _ _, Nat.le_refl _⟩

theorem Tx.alloc {B n rc : Nat} {w0 w : World} {ra : Option Addr} {xs : List Nat} (h : Tx B w0 w ra n rc xs) (o : Obj) : Tx B w0 (w.alloc o) ra n rc xs :=
  ⟨h.1, h.2.1.alloc o, h.2.2.1.alloc h.2.2.2 o, by rw [World.size_alloc]; exact Nat.le_succ_of_le h.2.2.2⟩

theorem Tx.on {B n rc : Nat} {w0 w : World} {ra : Option Addr} {xs : List Nat} (h : Tx B w0 w ra n rc xs) : Tx B w w ra n rc xs :=
  ⟨h.1, h.2.1, Below.refl _ _, h.2.2.2⟩

theorem Tx.src {ops : Array Oper} {rest : List Oper} {o : Oper} {a : Act} {Q : Exit → Act → World → Prop} {B n rc : Nat} {w0 w : World} {ra : Option Addr} {xs : List Nat} (h : Tx B w0 w ra n rc xs) (hgd : o.guard = none) (s x : Operand)
    (ho : o.op = .call { callee := .builtin .append, args := #[s, x], argTypes := #[25, 25] }) (hs : a.eval s = .slice ra n rc) (ao : Option Addr) (m c : Nat) (ys : List Nat) (hx : a.eval x = .slice ao m c) (hl : ys.length = m)
    (hno : ao = none → c = 0) (hr : RdB w ao ys) (hn : n + m ≤ 1000000)
    (k : ∀ ra' rc' w', Tx B w0 w' ra' (n + m) rc' (xs ++ ys) → wpList Tryz.prog ops Q rest (a.put o.dst (.slice ra' (n + m) rc')) w') : wpList Tryz.prog ops Q (o :: rest) a w := by
  obtain ⟨h1, h2, h3, h4⟩ := h
  refine append_src hgd s x ho w B _ n xs hs h2 ao m c ys hx hl hno hr hn h4 ?_
  intro ra' rc' w' ho hg
  exact k ra' rc' w' ⟨by rw [List.length_append, h1, hl], ho, h3.grown hg h4 (fun j e => own_place h2 e), Nat.le_trans h4 hg.size⟩

theorem rdb_one (w : World) (c : Nat) (hc : c < 256) : RdB (w.alloc (.cells #[.int .u8 (c : Int)] 5)) (some ⟨w.heap.size, 0, none⟩) [c] := by
  refine ⟨fun x hx => by simp at hx; omega, fun _ => ⟨w.heap.size, 0, rfl, fun i hi => ?_⟩⟩
  obtain rfl : i = 0 := by simp at hi; exact hi
  exact (Cls.new w #[.int .u8 (c : Int)] 5).cell 0 (x := .int .u8 (c : Int)) rfl

theorem Tx.one {ops : Array Oper} {rest : List Oper} {o : Oper} {a : Act} {Q : Exit → Act → World → Prop} {B n rc : Nat} {w0 w : World} {ra : Option Addr} {xs : List Nat} (h : Tx B w0 w ra n rc xs) (ci : Int) (c : Nat) (hci : ci = (c : Int)) (hc : c < 256) (hgd : o.guard = none) (s x : Operand)
    (ho : o.op = .call { callee := .builtin .append, args := #[s, x], argTypes := #[25, 25] }) (hs : a.eval s = .slice ra n rc) (hx : a.eval x = .slice (some ⟨w.heap.size, 0, none⟩) 1 1) (hn : n + 1 ≤ 1000000)
    (k : ∀ ra' rc' w', Tx B w0 w' ra' (n + 1) rc' (xs ++ [c]) → wpList Tryz.prog ops Q rest (a.put o.dst (.slice ra' (n + 1) rc')) w') : wpList Tryz.prog ops Q (o :: rest) a (w.alloc (.cells #[.int .u8 ci] 5)) := by
  subst hci
  exact (h.alloc _).src hgd s x ho hs _ 1 1 [c] hx rfl (fun e => by cases e) (rdb_one w c hc) hn k

theorem Tx.str {ops : Array Oper} {rest : List Oper} {o : Oper} {a : Act} {Q : Exit → Act → World → Prop} {B n rc : Nat} {w0 w : World} {ra : Option Addr} {xs : List Nat} (h : Tx B w0 w ra n rc xs) (hgd : o.guard = none) (s x : Operand)
    (ho : o.op = .call { callee := .builtin .append, args := #[s, x], argTypes := #[25, 9] }) (hs : a.eval s = .slice ra n rc) (st : ByteArray) (m : Nat) (ys : List Nat) (hx : a.eval x = .string st) (hm : st.size = m) (hy : lett st = ys) (hn : n + m ≤ 1000000)
    (k : ∀ ra' rc' w', Tx B w0 w' ra' (n + m) rc' (xs ++ ys) → wpList Tryz.prog ops Q rest (a.put o.dst (.slice ra' (n + m) rc')) w') : wpList Tryz.prog ops Q (o :: rest) a w := by
  subst hm
  subst hy
  obtain ⟨h1, h2, h3, h4⟩ := h
  refine append_str hgd s x ho w B _ n xs hs h2 st hx hn h4 ?_
  intro ra' rc' w' ho hg
  have hl := ownY_len ho
  exact k ra' rc' w' ⟨hl, ho, h3.grown hg h4 (fun j e => own_place h2 e), Nat.le_trans h4 hg.size⟩

theorem Tx.below {B n rc : Nat} {w0 w w' : World} {ra : Option Addr} {xs : List Nat} (h : Tx B w0 w ra n rc xs) (hb : Below w.heap.size w w') : Tx B w0 w' ra n rc xs := by
  obtain ⟨h1, h2, h3, h4⟩ := h
  refine ⟨h1, ⟨h2.1, ?_⟩, h3.trans (hb.mono h4), Nat.le_trans h4 hb.size⟩
  rcases h2.2 with e | ⟨g, cap, cur, e1, e2, e3, e4⟩
  · exact .inl e
  · exact .inr ⟨g, cap, cur, e1, e2, (hb.block g (Array.getElem?_eq_some_iff.1 e3).1).trans e3, e4⟩

theorem Tx.drew {B n rc : Nat} {w0 w : World} {ra : Option Addr} {xs : List Nat} (h : Tx B w0 w ra n rc xs) : Tx B w0 w.drew ra n rc xs := h.below (Below.refl _ _).drew

theorem Tx.step {ops : Array Oper} {o : Oper} {a : Act} {K : Act → World → Prop} {Q : Exit → Act → World → Prop} {E : Prop} {B n rc : Nat} {w0 w : World} {ra : Option Addr} {xs : List Nat} (h : Tx B w0 w ra n rc xs) (hgd : o.guard = none) (s x : Operand)
    (ho : o.op = .call { callee := .builtin .append, args := #[s, x], argTypes := #[25, 25] }) (hs : a.eval s = .slice ra n rc) (ad : Addr) (m c : Nat) (ys : List Nat) (hx : a.eval x = .slice (some ad) m c) (hl : ys.length = m) (hm : 0 < m)
    (hr : RdB w (some ad) ys) (hn : n + m ≤ 1000000)
    (k : ∀ g rc' w', Tx B w0 w' (some ⟨g, 0, none⟩) (n + m) rc' (xs ++ ys) → w.grownBy w' (Value.ownBlock (.slice ra n rc)) → K (a.put o.dst (.slice (some ⟨g, 0, none⟩) (n + m) rc')) w') :
    if Region.wanted o (yielded ops a.tmps) = true then Oper.wp Tryz.prog o a w K Q else E := by
  obtain ⟨i0, hi, hz0, hz1, hz2⟩ := info_parts Tryz.infoY
  obtain ⟨h1, h2, h3, h4⟩ := h
  refine step_append_lies w hgd s x 25 ho B 5 i0 (.int .u8 0) 1 1 Tryz.underlying25 hi hz0 hz1 hz2 rfl (by decide) (.slice ra n rc) n (UB xs) hs h2 ad m c (UB ys) hx (by rw [UB_length, hl, Nat.mul_one]) ?_ (UB_one _) hm (by unfold maxLen; omega) (by omega) h4 w.heap.size rfl ?_
  · intro j u hj
    have hjl : j < ys.length := by
      rcases Nat.lt_or_ge j ys.length with k | k
      · exact k
      · rw [List.getElem?_eq_none (by rw [UB_length]; exact k)] at hj; cases hj
    obtain ⟨b, off, e2, hc⟩ := hr.2 (by omega)
    cases e2
    rw [UB_get ys j hjl] at hj
    cases hj
    rw [Addr.add_lit]
    exact hc j hjl
  · intro g cap w' ho' hg _ _
    rw [← UB_append] at ho'
    exact k g cap w' ⟨by rw [List.length_append, h1, hl], ho', h3.grown hg h4 (fun j e => own_place h2 e), Nat.le_trans h4 hg.size⟩ hg

theorem append_full {ops : Array Oper} {rest : List Oper} {o : Oper} {a : Act} {Q : Exit → Act → World → Prop} (hgd : o.guard = none) (s x : Operand)
    (ho : o.op = .call { callee := .builtin .append, args := #[s, x], argTypes := #[25, 25] }) (w : World) (ad : Addr) (n : Nat) (xs : List Nat) (hs : a.eval s = .slice (some ad) n n) (hxl : xs.length = n) (hn0 : 0 < n) (hrs : RdB w (some ad) xs)
    (ao : Addr) (m c : Nat) (ys : List Nat) (hx : a.eval x = .slice (some ao) m c) (hl : ys.length = m) (hm : 0 < m) (hr : RdB w (some ao) ys) (hn : n + m ≤ 1000000)
    (k : ∀ ra rc w', w'.ownsRow w.heap.size 5 1 (.slice ra (n + m) rc) (n + m) (UB (xs ++ ys)) → Below w.heap.size w w' → wpList Tryz.prog ops Q rest (a.put o.dst (.slice ra (n + m) rc)) w') : wpList Tryz.prog ops Q (o :: rest) a w := by
  obtain ⟨i0, hi, hz0, hz1, hz2⟩ := info_parts Tryz.infoY
  have reads : ∀ (p : Addr) (zs : List Nat), 0 < zs.length → RdB w (some p) zs → ∀ j u, (UB zs)[j]? = some u → w.cell? (p.add j) = some u := by
    intro p zs h0 hz j u hj
    have hjl : j < zs.length := by
      rcases Nat.lt_or_ge j zs.length with k | k
      · exact k
      · rw [List.getElem?_eq_none (by rw [UB_length]; exact k)] at hj; cases hj
    obtain ⟨b, off, e2, hc⟩ := hz.2 h0
    cases e2
    rw [UB_get zs j hjl] at hj
    cases hj
    rw [Addr.add_lit]
    exact hc j hjl
  have hr' := run_append_grow (P := Tryz.prog) w 25 o.type 5 i0 (.int .u8 0) Tryz.underlying25 hi hz0 ad n n (UB xs) (by rw [UB_length, hxl, hz1, Nat.mul_one]) (reads ad xs (by omega) hrs) ao m c (UB ys) (by rw [UB_length, hl, hz1, Nat.mul_one]) (reads ao ys (by omega) hr) (by omega) (by omega) (growslice_fits (by omega) (by rw [hz2]; omega))
  refine wpList_plain hgd fun _ hK => ?_
  unfold Oper.wp execOp
  simp only [ho, resolve, invoke, builtin, Sem.run_bind, Sem.run_pure, Result.andThen_ok, List.map_toArray, List.map_cons, List.map_nil, hs, hx, hr']
  have hge := grownCap_ge w (n + m) n 5
  refine hK _ _ (k _ _ _ ⟨by rw [UB_length, List.length_append, hxl, hl, Nat.mul_one], .inr ⟨w.heap.size, _, _, rfl, Nat.le_refl _, heap_alloc_new w.drew _, hge, grownCap_le_maxLen w (n + m) n 5 (by unfold maxLen; omega), ?_, ?_⟩⟩ ⟨rfl, rfl, rfl, by simp, fun k hk => heap_alloc_old w.drew _ hk⟩)
  · simp only [Array.size_append, List.size_toArray, size_zeroCells, UB_length, hxl, hl]
    show n + m + (grownCap w (n + m) n 5 - (n + m)) * 1 = _
    omega
  · rw [UB_append]
    simp only [Array.toList_append, List.append_assoc]
    rw [← List.append_assoc]
    have : (n + m) * 1 = (UB xs ++ UB ys).length := by rw [List.length_append, UB_length, UB_length, hxl, hl]; omega
    rw [this]
    exact List.take_left

end Go.Proofs.YtmglhkdgfcbonaaGreatDoor

namespace Go.Proofs.YtmglhkdgfcbonaaGreatDoor

set_option linter.unusedVariables false
set_option maxRecDepth 100000

namespace M

def eint (z : Int) : List Nat := (if z < 0 then [45] else []) ++ txt z.natAbs

def pt (ds : List Nat) (p : Int) : List Nat :=
  if p < -5 ∨ 21 < p then ds.take 1 ++ ((if 1 < ds.length then 46 :: ds.drop 1 else []) ++ (101 :: eint (p - 1)))
  else if p ≤ 0 then 48 :: 46 :: (List.replicate (-p).toNat 48 ++ ds)
  else if (ds.length : Int) ≤ p then ds ++ List.replicate (p - ds.length).toNat 48
  else ds.take p.toNat ++ (46 :: ds.drop p.toNat)

def sgl (ng : Bool) : List Nat := if ng then [45] else []

theorem sgl_len (ng : Bool) : (sgl ng).length ≤ 1 := by cases ng <;> simp [sgl]

theorem sgl_256 (ng : Bool) : ∀ x ∈ sgl ng, x < 256 := by cases ng <;> simp [sgl]

theorem txt_256 (v : Nat) : ∀ x ∈ txt v, x < 256 := fun x hx => by
  have := txt_dig v x hx
  omega

theorem eint_256 (z : Int) : ∀ x ∈ eint z, x < 256 := by
  intro x hx
  unfold eint at hx
  rcases List.mem_append.1 hx with h | h
  · split at h
    · simp at h; omega
    · simp at h
  · exact txt_256 _ x h

theorem eint_len (z : Int) (h : z.natAbs < 10000) : (eint z).length ≤ 5 := by
  unfold eint
  rw [List.length_append]
  have := txt_len 3 z.natAbs (by omega)
  split <;> simp <;> omega

theorem eint_pos (z : Int) : 0 < (eint z).length := by
  unfold eint
  rw [List.length_append]
  have := txt_pos z.natAbs
  omega

theorem pt_256 (ds : List Nat) (p : Int) (h : ∀ x ∈ ds, x < 256) : ∀ x ∈ pt ds p, x < 256 := by
  intro x hx
  unfold pt at hx
  split at hx
  · rcases List.mem_append.1 hx with g | g
    · exact h x (List.mem_of_mem_take g)
    · rcases List.mem_append.1 g with g | g
      · split at g
        · rcases List.mem_cons.1 g with g | g
          · omega
          · exact h x (List.mem_of_mem_drop g)
        · simp at g
      · rcases List.mem_cons.1 g with g | g
        · omega
        · exact eint_256 _ x g
  · split at hx
    · rcases List.mem_cons.1 hx with g | g
      · omega
      · rcases List.mem_cons.1 g with g | g
        · omega
        · rcases List.mem_append.1 g with g | g
          · have := (List.mem_replicate.1 g).2; omega
          · exact h x g
    · split at hx
      · rcases List.mem_append.1 hx with g | g
        · exact h x g
        · have := (List.mem_replicate.1 g).2; omega
      · rcases List.mem_append.1 hx with g | g
        · exact h x (List.mem_of_mem_take g)
        · rcases List.mem_cons.1 g with g | g
          · omega
          · exact h x (List.mem_of_mem_drop g)

theorem pt_len (ds : List Nat) (p : Int) (h : (p - 1).natAbs < 10000) : (pt ds p).length ≤ ds.length + 40 := by
  have e := eint_len (p - 1) h
  unfold pt
  split
  · rw [List.length_append, List.length_append, List.length_cons, List.length_take]
    split
    · rw [List.length_cons, List.length_drop]; omega
    · simp; omega
  · split
    · simp; omega
    · split
      · simp; omega
      · simp; omega

end M

end Go.Proofs.YtmglhkdgfcbonaaGreatDoor

namespace Go.Proofs.YtmglhkdgfcbonaaGreatDoor

open Go.RowKit Go.Shelf

set_option linter.unusedVariables false
set_option maxRecDepth 100000

shelf_lay LaysM.n176 Nm 176 at Tryz as Tryz.laysAI

theorem dd_txt (u : Nat) : Lib.byteCells (Lib.decDigits u) = UB (M.txt u) := by
  induction u using Nat.strongRecOn with
  | _ u ih =>
    by_cases h : u < 10
    · rw [Lib.decDigits_one h]
      have e : M.txt u = [48 + u] := by
        unfold M.txt
        by_cases h0 : u = 0
        · rw [if_pos h0, h0]
        · rw [if_neg h0, M.tl_pos h0, show u / 10 = 0 by omega, M.tl_zero, Nat.mod_eq_of_lt h]; rfl
      rw [e]
      have h8 : (UInt8.ofNat (48 + u)).toNat = 48 + u := by simp; omega
      show [Value.int .u8 ((UInt8.ofNat (48 + u)).toNat : Int)] = [Value.int .u8 ((48 + u : Nat) : Int)]
      rw [h8]
    · rw [Lib.decDigits, dif_neg h, Lib.byteCells_append, ih (u / 10) (by omega)]
      have e : M.txt u = M.txt (u / 10) ++ [48 + u % 10] := by
        unfold M.txt
        rw [if_neg (by omega), if_neg (by omega), M.tl_pos (by omega), List.reverse_cons]
      rw [e, UB_append]
      have h8 : (UInt8.ofNat (48 + u % 10)).toNat = 48 + u % 10 := by simp; omega
      show _ ++ [Value.int .u8 ((UInt8.ofNat (48 + u % 10)).toNat : Int)] = _ ++ [Value.int .u8 ((48 + u % 10 : Nat) : Int)]
      rw [h8]

theorem itoa_eint (z : Int) : Lib.byteCells (Lib.itoa z) = UB (M.eint z) := by
  unfold Lib.itoa M.eint
  by_cases h : z < 0
  · rw [if_pos h, if_pos h, UB_append, ← dd_txt]; rfl
  · rw [if_neg h, if_neg h, List.nil_append, ← dd_txt, show z.toNat = z.natAbs by omega]

abbrev Pw (B : Nat) (w : World) : Prop := Lib.TabBelow Tryz.prog B w "internal/strconv.uint64pow10" .u64 Lib.pow10Tab

theorem appendInt_any (B : Nat) (w0 w : World) (ra : Option Addr) (n rc : Nat) (xs : List Nat) (z : Int) (hz : -10000 < z ∧ z < 10000) (hn : n ≤ 20000) (h : Tx B w0 w ra n rc xs) (ht : Pw B w0) :
    Calls Tryz.prog 124 #[.slice ra n rc, .int .i64 z, .int .i64 10] w fun e w' => ∃ ra' rc' n', e = .returned (.slice ra' n' rc') ∧ Tx B w0 w' ra' n' rc' (xs ++ M.eint z) := by
  obtain ⟨h1, h2, h3, h4⟩ := h
  refine (Any.strconv_AppendInt_10 Tryz.laysAI B n z (by omega) (by omega) (.slice ra n rc) (UB xs) w h2 h4 (by omega) (ht.on h3)).mono ?_
  rintro e w' ⟨v', rfl, ho, hb, _⟩
  rw [itoa_eint, ← UB_append] at ho
  obtain ⟨ra', rc', rfl⟩ := ownY_shape ho
  exact ⟨ra', rc', _, rfl, ownY_len ho, ho, h3.trans hb, Nat.le_trans h4 hb.size⟩

end Go.Proofs.YtmglhkdgfcbonaaGreatDoor

namespace Go.Proofs.YtmglhkdgfcbonaaGreatDoor

open Go.RowKit

set_option linter.unusedVariables false
set_option maxRecDepth 100000

set_option maxHeartbeats 1000000 in
theorem appendZeros_any (B : Nat) (w0 w : World) (ra : Option Addr) (n rc z : Nat) (xs : List Nat) (hn : n ≤ 20000) (hz : z ≤ 100) (h : Tx B w0 w ra n rc xs) :
    Calls Tryz.prog 101 #[.slice ra n rc, .int .i64 (z : Int)] w fun e w' => ∃ ra' rc', e = .returned (.slice ra' (n + z) rc') ∧ Tx B w0 w' ra' (n + z) rc' (xs ++ List.replicate z 48) := by
  go_enter Tryz.func101, Tryz.ntmps101
  go_wp2_with fail
  go_loopw [0, 6] (fun tv i wx => ∃ (t : Nat) (oa : Option Addr) (oc : Nat), t ≤ z ∧ i = .int .i64 (t : Int) ∧ tv = .slice oa (n + t) oc ∧ Tx B w0 wx oa (n + t) oc (xs ++ List.replicate t 48)) (fun _ i _ => z - (intOf i).toNat)
  case atStart => exact ⟨0, ra, rc, Nat.zero_le _, rfl, rfl, by simpa using h⟩
  case round =>
    rename World => wx
    obtain ⟨t, oa, oc, ht, rfl, rfl, hx⟩ := hrel
    by_cases hlt : t < z
    · have hlt' : (t : Int) < (z : Int) := by omega
      go_wp2_with (at_builtin; refine hx.one 48 48 rfl (by omega) rfl _ _ rfl rfl rfl (by omega) ?_)
      intro oa2 oc2 w2 h2
      go_wp2_with fail
      go_roundw
      case rel =>
        refine ⟨t + 1, oa2, oc2, by omega, by go_num, rfl, ?_⟩
        rw [List.replicate_succ']
        exact h2
      case measure => simp [intOf]; omega
    · have hlt' : ¬ (t : Int) < (z : Int) := by omega
      have e : t = z := by omega
      subst e
      go_wp2_with fail
      go_ret
      exact ⟨oa, oc, rfl, hx⟩

theorem fld_cls (a : Int) (n : Bool) (h l q : Int) (v : World) : Sem.run Tryz.prog (Instr.field 42 (.agg #[.int .i64 a, .bool n, .int .u64 h, .int .u64 l, .int .i64 q]) 0) v = .ok (.int .i64 a) v := by kernel_rfl

theorem take_one (ds : List Nat) (h : 1 ≤ ds.length) : ds.take 1 = [ds.getD 0 0] := by
  match ds, h with
  | x :: r, _ => rfl

set_option maxHeartbeats 2000000 in
theorem appExp_any (B : Nat) (w0 w : World) (ra : Option Addr) (n rc : Nat) (xs : List Nat) (h : Tx B w0 w ra n rc xs) (hn : n ≤ 1000) (b off m dc : Nat) (ds : List Nat) (hm : ds.length = m) (hm1 : 1 ≤ m) (hm2 : m ≤ 10000) (hc1 : m ≤ dc) (hc2 : dc ≤ 9223372036854775807)
    (hr : ∀ u, Below B w0 u → RdB u (some ⟨b, off, none⟩) ds) (z : Int) (hz : -10000 < z ∧ z < 10000) (ht : Pw B w0) (ys : List Nat) (hy : ys = xs ++ (ds.take 1 ++ ((if 1 < ds.length then 46 :: ds.drop 1 else []) ++ (101 :: M.eint z)))) :
    Calls Tryz.prog 100 #[.slice ra n rc, .slice (some ⟨b, off, none⟩) m dc, .int .i64 z] w fun e w' => ∃ ra' rc' n', e = .returned (.slice ra' n' rc') ∧ Tx B w0 w' ra' n' rc' ys := by
  have hrw := hr w h.2.2.1
  have h256 : ds.getD 0 0 < 256 := M.getD_lt (by omega) hrw.1 0
  obtain ⟨b', off', e, hcell⟩ := hrw.2 (by omega)
  cases e
  have c00 := hcell 0 (by omega)
  rw [Nat.add_zero] at c00
  have htk := take_one ds (by omega)
  obtain ⟨c0, ec⟩ : ∃ c0, c0 = ds.getD 0 0 := ⟨_, rfl⟩
  rw [← ec] at c00 htk h256
  have HTK := hid htk; have HR := hid hr; have HZ := hid hz; have HT := hid ht; have HM := hid hm; have HY := hid hy
  clear htk hr hz ht ec hcell hrw hm hy
  have m0 : (0 : Int) < (m : Int) := by omega
  by_cases h1 : 1 < m
  · have h1' : (1 : Int) < (m : Int) := by omega
    have d1 : ¬ dc = 1 := by omega
    have q1 : (1 : Int) ≤ (m : Int) := by omega
    have q2 : (m : Int) ≤ (dc : Int) := by omega
    have q3 : 1 ≤ dc := by omega
    have q4 : (1 : Int) ≤ (dc : Int) := by omega
    go_enter Tryz.func100, Tryz.ntmps100
    go_wp2_with (at_builtin; refine h.one (c0 : Int) c0 rfl h256 rfl _ _ rfl rfl rfl (by omega) ?_)
    intro ra1 rc1 w1 T1
    go_wp2_with fail
    go_region_held3 (fun _ => True) (trivial)
      (first
        | (refine (T1.drew.alloc (.cells #[.int .u8 46] 5)).step rfl _ _ rfl rfl ⟨w1.heap.size, 0, none⟩ 1 1 [46] rfl rfl (by omega) (rdb_one w1.drew 46 (by omega)) (by omega) ?_; intro g2 rc2 w2 T2 G2)
        | (refine T2.step rfl _ _ rfl rfl ⟨b, off + 1, none⟩ (m - 1) (dc - 1) (ds.drop 1) rfl (by rw [List.length_drop, HM.out]) (by omega) ((HR.out w2 T2.2.2.1).tail 1) (by omega) ?_; intro g3 rc3 w3 T3 G3))
    go_wp2_with (at_builtin; refine T3.one 101 101 rfl (by omega) rfl _ _ rfl rfl rfl (by omega) ?_)
    intro ra4 rc4 w4 T4
    go_wp2_with fail
    refine (appendInt_any B w0 w4 ra4 _ rc4 _ z HZ.out (by omega) T4 HT.out).mono ?_
    rintro e w5 ⟨ra5, rc5, n5, rfl, T5⟩
    go_wp2_with fail
    go_ret
    refine ⟨ra5, rc5, n5, rfl, ?_⟩
    rw [HY.out, HTK.out, if_pos (by rw [HM.out]; exact h1)]
    simpa using T5
  · have h1' : ¬ (1 : Int) < (m : Int) := by omega
    go_enter Tryz.func100, Tryz.ntmps100
    go_wp2_with (at_builtin; refine h.one (c0 : Int) c0 rfl h256 rfl _ _ rfl rfl rfl (by omega) ?_)
    intro ra3 rc3 w3 T3
    go_wp2_with (at_builtin; refine T3.one 101 101 rfl (by omega) rfl _ _ rfl rfl rfl (by omega) ?_)
    intro ra4 rc4 w4 T4
    go_wp2_with fail
    refine (appendInt_any B w0 w4 ra4 _ rc4 _ z HZ.out (by omega) T4 HT.out).mono ?_
    rintro e w5 ⟨ra5, rc5, n5, rfl, T5⟩
    go_wp2_with fail
    go_ret
    refine ⟨ra5, rc5, n5, rfl, ?_⟩
    rw [HY.out, HTK.out, if_neg (by rw [HM.out]; exact h1)]
    simpa using T5

set_option maxHeartbeats 2000000 in
theorem appDec_any (B : Nat) (w0 w : World) (ra : Option Addr) (n rc : Nat) (xs : List Nat) (h : Tx B w0 w ra n rc xs) (hn : n ≤ 1000) (b off m dc : Nat) (ds : List Nat) (hm : ds.length = m) (hm1 : 1 ≤ m) (hm2 : m ≤ 10000) (hc1 : m ≤ dc) (hc2 : dc ≤ 9223372036854775807)
    (hr : ∀ u, Below B w0 u → RdB u (some ⟨b, off, none⟩) ds) (x p : Int) (ep : (m : Int) + x = p) (hp : -9000 < p ∧ p < 9000) (ht : Pw B w0) :
    Calls Tryz.prog 55 #[.slice ra n rc, .slice (some ⟨b, off, none⟩) m dc, .int .i64 x] w fun e w' => ∃ ra' rc' n', e = .returned (.slice ra' n' rc') ∧ Tx B w0 w' ra' n' rc' (xs ++ M.pt ds p) := by
  have hw : IntKind.i64.wrap ((m : Int) + x) = p := by rw [IntKind.wrap_i64]; omega
  have hw1 : IntKind.i64.wrap (p - 1) = p - 1 := by rw [IntKind.wrap_i64]; omega
  have HR := hid hr; have HT := hid ht; have HM := hid hm; have HEP := hid ep
  clear hr ht hm ep
  by_cases hA : p < -5 ∨ 21 < p
  · have hpt : M.pt ds p = ds.take 1 ++ ((if 1 < ds.length then 46 :: ds.drop 1 else []) ++ (101 :: M.eint (p - 1))) := by unfold M.pt; rw [if_pos hA]
    have HPT := hid hpt; clear hpt
    by_cases hA1 : p < -5
    · go_enter Tryz.func55, Tryz.ntmps55
      go_wp2_with fail
      refine (appExp_any B w0 w ra n rc xs h hn b off m dc ds HM.out hm1 hm2 hc1 hc2 HR.out (p - 1) (by omega) HT.out _ rfl).mono ?_
      rintro e w5 ⟨ra5, rc5, n5, rfl, T5⟩
      go_wp2_with fail
      go_ret
      exact ⟨ra5, rc5, n5, rfl, by rw [HPT.out]; exact T5⟩
    · have hA2 : 21 < p := by omega
      go_enter Tryz.func55, Tryz.ntmps55
      go_wp2_with fail
      refine (appExp_any B w0 w ra n rc xs h hn b off m dc ds HM.out hm1 hm2 hc1 hc2 HR.out (p - 1) (by omega) HT.out _ rfl).mono ?_
      rintro e w5 ⟨ra5, rc5, n5, rfl, T5⟩
      go_wp2_with fail
      go_ret
      exact ⟨ra5, rc5, n5, rfl, by rw [HPT.out]; exact T5⟩
  · have hA1 : ¬ p < -5 := by omega
    have hA2 : ¬ 21 < p := by omega
    by_cases hC : p ≤ 0
    · obtain ⟨z, ez⟩ : ∃ z : Nat, p = -(z : Int) := ⟨(-p).toNat, by omega⟩
      have hpt : M.pt ds p = 48 :: 46 :: (List.replicate z 48 ++ ds) := by unfold M.pt; rw [if_neg hA, if_pos hC, show (-p).toNat = z by omega]
      have hng : IntKind.i64.wrap (-p) = (z : Int) := by rw [IntKind.wrap_i64]; omega
      have HPT := hid hpt; have HEZ := hid ez; clear hpt ez
      go_enter Tryz.func55, Tryz.ntmps55
      go_wp2_with (at_builtin; refine h.str rfl _ _ rfl rfl _ 2 [48, 46] rfl rfl rfl (by omega) ?_)
      intro ra1 rc1 w1 T1
      go_wp2_with fail
      refine (appendZeros_any B w0 w1 ra1 (n + 2) rc1 z _ (by omega) (by have := HEZ.out; omega) T1).mono ?_
      rintro e w2 ⟨ra2, rc2, rfl, T2⟩
      go_wp2_with (at_builtin; refine T2.src rfl _ _ rfl rfl (some ⟨b, off, none⟩) m dc ds rfl HM.out (fun e => by cases e) (HR.out w2 T2.2.2.1) (by have := HEZ.out; omega) ?_)
      intro ra3 rc3 w3 T3
      go_wp2_with fail
      go_ret
      exact ⟨ra3, rc3, _, rfl, by rw [HPT.out]; simpa using T3⟩
    · by_cases hD : (m : Int) ≤ p
      · obtain ⟨z, ez⟩ : ∃ z : Nat, p - (m : Int) = (z : Int) := ⟨(p - (m : Int)).toNat, by omega⟩
        have hpt : M.pt ds p = ds ++ List.replicate z 48 := by unfold M.pt; rw [if_neg hA, if_neg hC, HM.out, if_pos hD, show (p - (m : Int)).toNat = z by omega]
        have hng : IntKind.i64.wrap (p - (m : Int)) = (z : Int) := by rw [IntKind.wrap_i64]; omega
        have HPT := hid hpt; have HEZ := hid ez; clear hpt ez
        go_enter Tryz.func55, Tryz.ntmps55
        go_wp2_with (at_builtin; refine h.src rfl _ _ rfl rfl (some ⟨b, off, none⟩) m dc ds rfl HM.out (fun e => by cases e) (HR.out w h.2.2.1) (by omega) ?_)
        intro ra1 rc1 w1 T1
        go_wp2_with fail
        refine (appendZeros_any B w0 w1 ra1 (n + m) rc1 z _ (by omega) (by have := HEZ.out; omega) T1).mono ?_
        rintro e w2 ⟨ra2, rc2, rfl, T2⟩
        go_wp2_with fail
        go_ret
        exact ⟨ra2, rc2, _, rfl, by rw [HPT.out]; simpa using T2⟩
      · obtain ⟨q, eq⟩ : ∃ q : Nat, p = (q : Int) := ⟨p.toNat, by omega⟩
        have hpt : M.pt ds p = ds.take q ++ (46 :: ds.drop q) := by unfold M.pt; rw [if_neg hA, if_neg hC, HM.out, if_neg hD, show p.toNat = q by omega]
        have HPT := hid hpt; clear hpt
        subst eq
        have c1 : (0 : Int) ≤ (q : Int) := by omega
        have c2 : (q : Int) ≤ (m : Int) := by omega
        have c3 : (q : Int) ≤ (dc : Int) := by omega
        have c4 : (m : Int) ≤ (dc : Int) := by omega
        have c5 : ¬ dc - q = 0 := by omega
        have c6 : ¬ dc = q := by omega
        go_enter Tryz.func55, Tryz.ntmps55
        go_wp2_with (at_builtin; refine h.src rfl _ _ rfl rfl (some ⟨b, off, none⟩) q dc (ds.take q) rfl (by rw [List.length_take, HM.out]; omega) (fun e => by cases e) ((HR.out w h.2.2.1).front q) (by omega) ?_)
        intro ra1 rc1 w1 T1
        go_wp2_with (at_builtin; refine T1.one 46 46 rfl (by omega) rfl _ _ rfl rfl rfl (by omega) ?_)
        intro ra2 rc2 w2 T2
        go_wp2_with (at_builtin; refine T2.src rfl _ _ rfl rfl (some ⟨b, off + q, none⟩) (m - q) (dc - q) (ds.drop q) rfl (by rw [List.length_drop, HM.out]) (fun e => by cases e) ((HR.out w2 T2.2.2.1).tail q) (by omega) ?_)
        intro ra3 rc3 w3 T3
        go_wp2_with fail
        go_ret
        exact ⟨ra3, rc3, _, rfl, by rw [HPT.out]; simpa using T3⟩

end Go.Proofs.YtmglhkdgfcbonaaGreatDoor

