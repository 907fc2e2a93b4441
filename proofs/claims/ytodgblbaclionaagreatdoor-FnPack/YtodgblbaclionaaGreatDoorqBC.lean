import Derived.Lib.BitFns
import Derived.Test.YtodgblbaclionaaGreatDoorqBB
namespace Go.Proofs.YtodgblbaclionaaGreatDoor.M

set_option linter.unusedVariables false
set_option maxRecDepth 100000

theorem getD_set_ne (xs : List Nat) (i j x : Nat) (h : i ≠ j) : (xs.set i x).getD j 0 = xs.getD j 0 := by
  simp [List.getD_eq_getElem?_getD, h]

/-- What a function that writes into a view leaves: the length, the limbs' size, all that lies outside. -/
structure Wrote (B : Nat) (zs : List Nat) (off n : Nat) (cur : List Nat) : Prop where
  len : cur.length = zs.length
  lt : ∀ x ∈ cur, x < B
  out : ∀ j, (j < off ∨ off + n ≤ j) → cur.getD j 0 = zs.getD j 0

theorem Wrote.refl {B : Nat} {zs : List Nat} (h : ∀ x ∈ zs, x < B) (off n : Nat) : Wrote B zs off n zs := ⟨rfl, h, fun _ _ => rfl⟩

theorem Wrote.set {B : Nat} {zs cur : List Nat} {off n : Nat} (h : Wrote B zs off n cur) (k x : Nat) (hk : k < n) (hx : x < B) : Wrote B zs off n (cur.set (off + k) x) := by
  refine ⟨by rw [List.length_set]; exact h.len, fun y hy => ?_, fun j hj => ?_⟩
  · rcases List.mem_or_eq_of_mem_set hy with hy | rfl
    · exact h.lt y hy
    · exact hx
  · rw [getD_set_ne _ _ _ _ (by omega)]; exact h.out j hj

end Go.Proofs.YtodgblbaclionaaGreatDoor.M

namespace Go.Proofs.YtodgblbaclionaaGreatDoor

open Go.RowKit

set_option linter.unusedVariables false
set_option maxRecDepth 100000

theorem wrapU (n : Nat) : IntKind.u64.wrap (n : Int) = ((n % 18446744073709551616 : Nat) : Int) := by
  simp only [IntKind.wrap_u64]; omega

theorem wrapU2 (x y p : Nat) (hp : p = (x + y) % 18446744073709551616) : IntKind.u64.wrap ((x : Int) + (y : Int)) = (p : Int) := by
  have := wrapU (x + y)
  rw [← hp] at this
  rw [← this]; congr 1

theorem Rd.other {w w' : World} {bo : Option Addr} {ys : List Nat} {g : Nat} (h : Rd w bo ys) (hg : w.grownBy w' (some g)) (hsep : ∀ b2 o2, bo = some ⟨b2, o2, none⟩ → b2 ≠ g) : Rd w' bo ys := by
  intro hp
  obtain ⟨b, off, e, hc⟩ := h hp
  exact ⟨b, off, e, fun i hi => hg.cell (hc i hi) (by simpa using hsep b off e)⟩

theorem grown_trans {a b c : World} {row : Option Nat} (h : a.grownBy b row) (k : b.grownBy c row) : a.grownBy c row :=
  ⟨k.os.trans h.os, k.tape.trans h.tape, k.output.trans h.output, Nat.le_trans h.size k.size, fun i hi hne => (k.block i (Nat.lt_of_lt_of_le hi h.size) hne).trans (h.block i hi hne)⟩

theorem grown_setCell (w : World) (g i : Nat) (v : Value) : w.grownBy (w.setCell ⟨g, i, none⟩ v) (some g) :=
  ⟨rfl, rfl, rfl, by simp [World.setCell], fun k _ hk => Below.heap_setCell _ _ _ _ (fun e => hk (by simp [e]))⟩

theorem grown_drewN (w : World) (q : Nat) (row : Option Nat) : w.grownBy (w.drewN q) row := ⟨rfl, rfl, rfl, Nat.le_refl _, fun _ _ _ => rfl⟩

set_option maxHeartbeats 400000 in
theorem less_any (a b : Int) (w : World) (r : Nat) (hr : r = if a < b then 1 else 0) :
    Calls Tryz.prog 71 #[.int .u64 a, .int .u64 b] w fun e w' => e = .returned (.int .u64 (r : Int)) ∧ w' = w := by
  by_cases h : a < b
  · have : r = 1 := by rw [hr, if_pos h]
    subst this
    clear hr
    go_enter Tryz.func71, Tryz.ntmps71
    go_wp2
    go_ret
    exact ⟨rfl, rfl⟩
  · have : r = 0 := by rw [hr, if_neg h]
    subst this
    clear hr
    go_enter Tryz.func71, Tryz.ntmps71
    go_wp2
    go_ret
    exact ⟨rfl, rfl⟩

end Go.Proofs.YtodgblbaclionaaGreatDoor

namespace Go.Proofs.YtodgblbaclionaaGreatDoor

open Go.RowKit

set_option linter.unusedVariables false
set_option maxRecDepth 100000

theorem D_lt (a : Nat) (m : Nat) (h : (D a).length ≤ m) : a < 4294967296 ^ m :=
  Nat.lt_of_lt_of_le (M.lt_dig (by omega) a) (Nat.pow_le_pow_right (by omega) h)

theorem X_takeD (a k : Nat) (h : (D a).length ≤ k) : X ((D a).take k) = a := by rw [List.take_of_length_le h, X_D]

/-- A new list of limbs is handed back; nothing old has turned. -/
def Ret (w w' : World) (e : Ending) (r : List Nat) : Prop :=
  ∃ ao cap, e = .returned (.slice ao r.length cap) ∧ w'.ownsRow w.heap.size 23 1 (.slice ao r.length cap) r.length (U r) ∧ Below w.heap.size w w'

theorem Ret.nil {w w' : World} (h : Below w.heap.size w w') : Ret w w' (.returned (.slice none 0 0)) [] := ⟨none, 0, rfl, World.ownsRow_nil _ _ _ _, h⟩

theorem Ret.later {w0 w w' : World} {e : Ending} {r : List Nat} (h : Ret w w' e r) (hb : Below w0.heap.size w0 w) : Ret w0 w' e r := by
  obtain ⟨ao, cap, he, ho, hb'⟩ := h
  exact ⟨ao, cap, he, own_base ho hb.size, hb.trans (hb'.mono hb.size)⟩

theorem M.len_of_lt {B : Nat} (hB : 1 < B) (a K : Nat) (h : a < B ^ K) : (M.dig B a).length ≤ K := by
  rcases Nat.lt_or_ge K (M.dig B a).length with h1 | h1
  · have h8 : 0 < a := by
      rcases Nat.eq_zero_or_pos a with e | e
      · rw [e] at h1; simp [M.dig_zero] at h1
      · exact e
    have h9 := M.dig_le hB _ h8
    have h10 : B ^ K ≤ B ^ ((M.dig B a).length - 1) := Nat.pow_le_pow_right (by omega) (by omega)
    omega
  · exact h1

end Go.Proofs.YtodgblbaclionaaGreatDoor

namespace Go.Proofs.YtodgblbaclionaaGreatDoor.M

set_option linter.unusedVariables false
set_option maxRecDepth 100000

theorem pow_split (p n : Nat) (hp : p ≤ n) : 2 ^ (n - p) * 2 ^ p = 2 ^ n := by rw [← Nat.pow_add]; congr 1; omega

/-- The places of a shift to the left add up. -/
theorem shl_over {V V' c c' Q Pk B P x o T : Nat} (h : V + c * (Q * Pk) = (Q * P) * T) (hv : V' = V + Q * Pk * o) (hs : o + B * c' = x * P + c) : V' + c' * (Q * Pk * B) = (Q * P) * (T + Pk * x) := by
  have e : Q * Pk * (o + B * c') = Q * Pk * (x * P + c) := by rw [hs]
  simp only [Nat.mul_add] at e
  have e2 : (Q * P) * (Pk * x) = Q * Pk * (x * P) := by simp only [Nat.mul_comm, Nat.mul_left_comm]
  rw [Nat.mul_add, e2, Nat.mul_comm c' (Q * Pk * B), Nat.mul_assoc]
  rw [Nat.mul_comm c (Q * Pk)] at h
  omega

end Go.Proofs.YtodgblbaclionaaGreatDoor.M

namespace Go.Proofs.YtodgblbaclionaaGreatDoor

open Go.RowKit

set_option linter.unusedVariables false
set_option maxRecDepth 100000

theorem wrapSub (x y p : Nat) (hp : p = (x + 18446744073709551616 - y) % 18446744073709551616) (hy : y ≤ 18446744073709551616) : IntKind.u64.wrap ((x : Int) - (y : Int)) = (p : Int) := by
  rw [IntKind.wrap_u64]; omega

theorem M.no_borrow {S c P t a : Nat} (h : S + t = a + c * P) (hS : S < P) (ht : t ≤ a) : c = 0 ∧ S = a - t := by
  rcases Nat.eq_zero_or_pos c with rfl | hc
  · simp at h; exact ⟨rfl, by omega⟩
  · have := Nat.le_mul_of_pos_left P hc; omega

/-- One place of a difference. -/
theorem M.sub_place {S c P B A A' x y o c' : Nat} (h : S + A' = A + c * P) (hs : o + y + c = x + B * c') : S + P * o + (A' + P * y) = A + P * x + c' * (P * B) := by
  have e : P * (o + y + c) = P * (x + B * c') := by rw [hs]
  simp only [Nat.mul_add] at e
  rw [Nat.mul_comm c' (P * B), Nat.mul_assoc]
  rw [Nat.mul_comm c P] at h
  omega

end Go.Proofs.YtodgblbaclionaaGreatDoor

namespace Go.Proofs.YtodgblbaclionaaGreatDoor

open Go.RowKit

set_option linter.unusedVariables false
set_option maxRecDepth 100000

/-- The number of places of the binary form. -/
def blen (n : Nat) : Nat := (M.dig 2 n).length

theorem lt_blen (n : Nat) : n < 2 ^ blen n := M.lt_dig (by omega) n

theorem blen_le (n : Nat) (h : 0 < n) : 2 ^ (blen n - 1) ≤ n := M.dig_le (by omega) n h

theorem blen_zero : blen 0 = 0 := by simp [blen, M.dig_zero]

theorem blen_pos (n : Nat) (h : 0 < n) : 0 < blen n := by
  unfold blen; rw [M.dig_pos (by omega) h]; simp

theorem blen_half (n : Nat) (h : 0 < n) : blen n = 1 + blen (n / 2) := by
  unfold blen; rw [M.dig_pos (by omega) h]; simp; omega

theorem blen_unique (n k : Nat) (h1 : 2 ^ (k - 1) ≤ n) (h2 : n < 2 ^ k) (hk : 0 < k) : blen n = k := by
  have hn : 0 < n := Nat.lt_of_lt_of_le (Nat.pow_pos (by omega)) h1
  have h3 := lt_blen n
  have h4 := blen_le n hn
  have h5 := blen_pos n hn
  rcases Nat.lt_trichotomy (blen n) k with h | h | h
  · have : 2 ^ blen n ≤ 2 ^ (k - 1) := Nat.pow_le_pow_right (by omega) (by omega)
    omega
  · exact h
  · have : 2 ^ k ≤ 2 ^ (blen n - 1) := Nat.pow_le_pow_right (by omega) (by omega)
    omega

theorem blen_shift (k n : Nat) (h : 2 ^ k ≤ n) : blen n = k + blen (n / 2 ^ k) := by
  have hq : 0 < n / 2 ^ k := Nat.div_pos h (Nat.pow_pos (by omega))
  have h1 := lt_blen (n / 2 ^ k)
  have h2 := blen_le (n / 2 ^ k) hq
  have h3 := blen_pos _ hq
  refine blen_unique n _ ?_ ?_ (by omega)
  · rw [show k + blen (n / 2 ^ k) - 1 = (blen (n / 2 ^ k) - 1) + k by omega, Nat.pow_add]
    exact Nat.le_trans (Nat.mul_le_mul_right _ h2) (Nat.div_mul_le_self n _)
  · rw [Nat.pow_add]
    exact (Nat.div_lt_iff_lt_mul (Nat.pow_pos (by omega))).1 h1 |> fun h => by rwa [Nat.mul_comm] at h

theorem blen_le_of (n k : Nat) (h : n < 2 ^ k) : blen n ≤ k := M.len_of_lt (by omega) n k h

/-- The places of a number of digits of 32 bits: those of the highest digit and 32 for each other. -/
theorem blen_D (a : Nat) (h : 0 < a) : blen a = 32 * ((D a).length - 1) + blen ((D a).getD ((D a).length - 1) 0) := by
  have h1 := M.dig_le (B := 4294967296) (by omega) a h
  have h2 := M.lt_dig (B := 4294967296) (by omega) a
  have hl : (D a).length ≠ 0 := by unfold D; rw [M.dig_pos (by omega) h]; simp
  obtain ⟨m, hm⟩ : ∃ m, (D a).length = m + 1 := ⟨(D a).length - 1, by omega⟩
  have hm' : (M.dig 4294967296 a).length = m + 1 := hm
  rw [hm'] at h1 h2
  rw [hm, Nat.add_sub_cancel] at *
  have e : (4294967296 : Nat) ^ m = 2 ^ (32 * m) := by rw [show (4294967296 : Nat) = 2 ^ 32 from rfl, ← Nat.pow_mul]
  have hg : (D a).getD m 0 = a / 4294967296 ^ m := by
    have hh : (M.dig 4294967296 a).getD m 0 = a / 4294967296 ^ m % 4294967296 := by
      have : ∀ k n, (M.dig 4294967296 n).getD k 0 = n / 4294967296 ^ k % 4294967296 := by
        intro k
        induction k with
        | zero =>
          intro n
          by_cases hn : 0 < n
          · rw [M.dig_pos (by omega) hn]; simp
          · have : n = 0 := by omega
            subst this; simp [M.dig_zero]
        | succ k ih =>
          intro n
          by_cases hn : 0 < n
          · rw [M.dig_pos (by omega) hn, List.getD_cons_succ, ih, Nat.div_div_eq_div_mul, Nat.pow_succ, Nat.mul_comm 4294967296]
          · have : n = 0 := by omega
            subst this; simp [M.dig_zero]
      exact this m a
    unfold D
    rw [hh]
    apply Nat.mod_eq_of_lt
    apply Nat.div_lt_of_lt_mul
    rw [← Nat.pow_succ]; exact h2
  rw [hg, e]
  exact blen_shift (32 * m) a (by rw [← e]; exact h1)

end Go.Proofs.YtodgblbaclionaaGreatDoor

