/-
  impl.scan: the walk through the states.
-/
import Derived.Test.YtehplfmnipadmacDoorSi2
import Derived.Lib.OthersKept
import Derived.Laws.RangeAny
import Derived.WalkSmall
namespace Go.Proofs.YtehplfmnipadmacDoor
open Go.RowKit
set_option linter.unusedVariables false

/-- The table of the states. -/
def Fol (w : World) : Prop := 0 < w.heap.size ∧ ∀ st so, st < 10 → so < 6 → w.cell? ⟨0, st * 6 + so, none⟩ = some (.int .i64 (M.next st so : Int))

theorem Fol.below {w w' : World} (h : Fol w) (hb : Below w.heap.size w w') : Fol w' :=
  ⟨Nat.lt_of_lt_of_le h.1 hb.size, fun st so h1 h2 => (hb.cell (p := ⟨0, st * 6 + so, none⟩) h.1).trans (h.2 st so h1 h2)⟩

/-- A list of bytes in a block of one's own, as a value: a row or a part of one. -/
def OwnV (w : World) (lo : Nat) (v : Value) (xs : List Nat) : Prop :=
  ∃ a c, v = .slice a xs.length c ∧ xs.length ≤ c ∧ c ≤ 9223372036854775807 ∧ (a = none → c = 0) ∧ (∀ x ∈ xs, x < 256) ∧
    (0 < xs.length → ∃ b off cur, a = some ⟨b, off, none⟩ ∧ lo ≤ b ∧ w.heap[b]? = some (.cells cur 5) ∧ ∀ i, i < xs.length → cur[off + i]? = some (.int .u8 ((xs.getD i 0 : Nat) : Int)))

/-- How a scan ends. -/
def ScanP (w w' : World) (e : Ending) : M.Dec ⊕ Nat → Prop
  | .inl d => ∃ v, e = .returned (decV d v) ∧ OwnV w' w.heap.size v d.digits ∧ Below w.heap.size w w'
  | .inr k => e = .panicked [{ v := .iface 37 (.agg #[.int .i64 (k : Int)]), recovered := false }] ∧ Below w.heap.size w w'

theorem sort_lt (c : Nat) : M.sortOf c < 6 := by
  have h := M.sort_cases (M.low c) (M.low_low c)
  rw [M.sort_low] at h
  omega
theorem sort_high (c : Nat) (h : 128 ≤ c) : M.sortOf c = 0 := by
  have : M.low c = c := by unfold M.low; rw [if_neg (by omega)]
  unfold M.sortOf
  rw [this, if_neg (by omega), if_neg (by omega), if_neg (by omega), if_neg (by omega), if_neg (by omega)]

theorem next_digit {st so : Nat} (h : M.next st so = 3 ∨ M.next st so = 6 ∨ M.next st so = 9) : so = 1 := by
  unfold M.next at h
  split at h <;> omega
theorem next_two {st so : Nat} (h1 : 1 ≤ st) (h : M.next st so ≠ 0) : 2 ≤ M.next st so := by
  unfold M.next at h ⊢
  split at h <;> omega

theorem digit_of_sort {c : Nat} (h : M.sortOf c = 1) : 48 ≤ c ∧ c ≤ 57 := by
  have hc := M.sort_cases (M.low c) (M.low_low c)
  rw [M.sort_low] at hc
  have : M.low c = c ∨ M.low c = c + 32 := by unfold M.low; split <;> omega
  have k : M.low c = c + 32 → 65 ≤ c := by unfold M.low; split <;> omega
  omega

theorem lett_len (s : ByteArray) : (lett s).length = s.size := by unfold lett; rw [List.length_map, Array.length_toList]; rfl
theorem lett_get (s : ByteArray) (i : Nat) (h : i < s.size) : (lett s).getD i 0 = (s[i]'h).toNat := by
  unfold lett
  have : i < s.data.toList.length := by rw [Array.length_toList]; exact h
  rw [List.getD_eq_getElem?_getD, List.getElem?_map, List.getElem?_eq_getElem this]
  rfl

/-- What a range over a string hands out. -/
theorem next_letter (wr : World) (k : Nat) (s : ByteArray) (pos : Nat) (hk : wr.heap[k]? = some (.stringIter s pos)) (h : pos < s.size) :
    ∃ (l p' : Nat), (∀ ty, (Instr.next (.pointer (some ⟨k, 0, none⟩)) true ty).run Tryd.prog wr = .ok (.tuple #[.bool true, .int .i64 pos, .int .i32 (l : Int)]) (wr.iterAt k s p')) ∧ l ≤ 2147483647 ∧
      (((lett s).getD pos 0 < 128 ∧ l = (lett s).getD pos 0 ∧ p' = pos + 1) ∨ (128 ≤ (lett s).getD pos 0 ∧ 128 ≤ l ∧ pos < p')) := by
  refine ⟨(Utf8.decode s pos).1, pos + (Utf8.decode s pos).2, fun ty => Lib.run_next_any_at wr k s pos ty hk h, decode_le s pos, ?_⟩
  rw [lett_get s pos h]
  by_cases c : (s[pos]'h).toNat < 128
  · rw [decode_ascii s pos h c]; exact .inl ⟨c, rfl, rfl⟩
  · have := decode_high s pos h (by omega)
    exact .inr ⟨by omega, this.1, by omega⟩

theorem SnR.below {v v' : World} {g B : Nat} {sn : M.Sn} (h : SnR v g B sn) (hb : Below v.heap.size v v') : SnR v' g B sn := by
  obtain ⟨h1, h2, a, cap, hC, hO⟩ := h
  exact ⟨h1, Nat.le_trans h2 hb.size, a, cap, hC.below hb, ownY_below hO hb⟩

theorem SnR.iterAt {v : World} {g B : Nat} {sn : M.Sn} (h : SnR v g B sn) (k : Nat) (hk : k < B) (hg : k ≠ g) (s : ByteArray) (p : Nat) : SnR (v.iterAt k s p) g B sn := by
  obtain ⟨h1, h2, a, cap, hC, hO⟩ := h
  refine ⟨h1, by simpa [World.iterAt] using h2, a, cap, ?_, ownsRow_iterAt hO (k := k) (by omega) s p⟩
  unfold Cls at hC ⊢
  simp only [World.iterAt]
  rw [Array.getElem?_setIfInBounds_ne (by omega)]
  exact hC

theorem Cls.iterAt {v : World} {g : Nat} {xs : Array Value} {t : TypeId} (h : Cls v g xs t) (k : Nat) (hg : k ≠ g) (s : ByteArray) (p : Nat) : Cls (v.iterAt k s p) g xs t := by
  unfold Cls at h ⊢
  simp only [World.iterAt]
  rw [Array.getElem?_setIfInBounds_ne (by omega)]
  exact h

theorem drop_cons (bs : List Nat) (p : Nat) (h : p < bs.length) : bs.drop p = bs.getD p 0 :: bs.drop (p + 1) := by
  rw [List.drop_eq_getElem_cons h, List.getD_eq_getElem?_getD, List.getElem?_eq_getElem h]; rfl

/-- The scan's walk, up to where it stands behind the loop. -/
def AfterW (w wr : World) (bs : List Nat) (stv bv : Value) : Prop :=
  ∃ (st : Nat) (sn : M.Sn), stv = .int .i64 (st : Int) ∧ SnR wr (w.heap.size + 1) (w.heap.size + 3) sn ∧ Cls wr w.heap.size zDec 24 ∧ Below w.heap.size w wr ∧
    ((st ≤ 9 ∧ 1 ≤ st ∧ M.walk bs 0 1 (M.s0 false) = .fin st sn ∧ sn.digits.length ≤ 800 ∧ sn.behind ≤ 800 ∧ sn.exponent ≤ 1000000 ∧ ∀ x ∈ sn.digits, x < 256) ∨ (st = 10 ∧ ∃ b : Nat, bv = .int .i64 (b : Int) ∧ b < bs.length ∧ M.walk bs 0 1 (M.s0 false) = .word b sn.neg))

theorem take_len (st c : Nat) (s : M.Sn) (p : Nat) (h1 : s.digits.length ≤ p) (h2 : s.behind ≤ p) (h3 : s.exponent ≤ 1000000) : (M.take st c s).digits.length ≤ p + 1 ∧ (M.take st c s).behind ≤ p + 1 ∧ (M.take st c s).exponent ≤ 1000000 := by
  unfold M.take
  by_cases e2 : st = 2
  · rw [if_pos e2]; exact ⟨Nat.le_succ_of_le h1, Nat.le_succ_of_le h2, h3⟩
  · rw [if_neg e2]
    by_cases e6 : st = 6
    · rw [if_pos e6]; exact ⟨by simp; omega, by show s.behind + 1 ≤ p + 1; omega, h3⟩
    · rw [if_neg e6]
      by_cases e3 : st = 3
      · rw [if_pos e3]; exact ⟨by simp; omega, Nat.le_succ_of_le h2, h3⟩
      · rw [if_neg e3]
        by_cases e8 : st = 8
        · rw [if_pos e8]; exact ⟨Nat.le_succ_of_le h1, Nat.le_succ_of_le h2, h3⟩
        · rw [if_neg e8]
          by_cases e9 : st = 9
          · rw [if_pos e9]; exact ⟨Nat.le_succ_of_le h1, Nat.le_succ_of_le h2, by show min _ _ ≤ _; omega⟩
          · rw [if_neg e9]; exact ⟨Nat.le_succ_of_le h1, Nat.le_succ_of_le h2, h3⟩

theorem take_256 (st c : Nat) (s : M.Sn) (hc : c < 256) (h : ∀ x ∈ s.digits, x < 256) : ∀ x ∈ (M.take st c s).digits, x < 256 := by
  have k : ∀ x ∈ s.digits ++ [c], x < 256 := fun x hx => by
    rcases List.mem_append.1 hx with hx | hx
    · exact h x hx
    · simp at hx; omega
  unfold M.take
  by_cases e2 : st = 2
  · rw [if_pos e2]; exact h
  · rw [if_neg e2]
    by_cases e6 : st = 6
    · rw [if_pos e6]; exact k
    · rw [if_neg e6]
      by_cases e3 : st = 3
      · rw [if_pos e3]; exact k
      · rw [if_neg e3]
        by_cases e8 : st = 8
        · rw [if_pos e8]; exact h
        · rw [if_neg e8]
          by_cases e9 : st = 9
          · rw [if_pos e9]; exact h
          · rw [if_neg e9]; exact h

abbrev snZ : Array Value := #[.bool false, .slice none 0 0, .int .i64 0, .bool false, .int .i64 0]

theorem start_ok (w : World) (s : ByteArray) (W : World) (hW : W = (((w.alloc (.cells zDec 24)).alloc (.cells snZ 49)).iter s 0)) :
    W.heap[w.heap.size + 2]? = some (.stringIter s 0) ∧ SnR W (w.heap.size + 1) (w.heap.size + 3) (M.s0 false) ∧ Cls W w.heap.size zDec 24 ∧ Below w.heap.size w W := by
  have h1 : (w.alloc (.cells zDec 24)).heap.size = w.heap.size + 1 := by simp
  have C1 : Cls (w.alloc (.cells zDec 24)) w.heap.size zDec 24 := Cls.new _ _ _
  have B1 : Below w.heap.size w (w.alloc (.cells zDec 24)) := (Below.refl _ _).alloc (Nat.le_refl _) _
  generalize w.alloc (.cells zDec 24) = w1 at *
  have h2 : (w1.alloc (.cells snZ 49)).heap.size = w.heap.size + 2 := by simp [h1]
  have C2 : Cls (w1.alloc (.cells snZ 49)) (w.heap.size + 1) snZ 49 := by rw [← h1]; exact Cls.new _ _ _
  have B2 : Below w1.heap.size w1 (w1.alloc (.cells snZ 49)) := (Below.refl _ _).alloc (Nat.le_refl _) _
  have C3 := C1.below B2
  have B3 := B1.trans (B2.mono B1.size)
  generalize w1.alloc (.cells snZ 49) = w2 at *
  have B4 : Below w2.heap.size w2 W := by rw [hW]; exact (Below.refl _ _).alloc (Nat.le_refl _) _
  have h4 : W.heap.size = w.heap.size + 3 := by rw [hW]; simp [World.iter, h2]
  refine ⟨?_, ⟨by omega, by omega, none, 0, C2.below B4, World.ownsRow_nil _ _ _ _⟩, C3.below B4, B3.trans (B4.mono B3.size)⟩
  rw [hW, ← h2]
  exact World.iter_heap w2 s 0

end Go.Proofs.YtehplfmnipadmacDoor
