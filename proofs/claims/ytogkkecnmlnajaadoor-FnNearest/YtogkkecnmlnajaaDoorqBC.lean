import Derived.Lib.BitFns
import Derived.Test.YtogkkecnmlnajaaDoorqBB
set_option maxHeartbeats 1000000
namespace Go.Proofs.YtogkkecnmlnajaaDoor
open Go.RowKit
set_option linter.unusedVariables false
set_option maxRecDepth 100000
theorem L_len (xs : List Nat) (hx : F64 xs) : (L (V xs)).length ≤ xs.length := M.length_dig_le (by omega) xs hx

theorem L_take (xs : List Nat) (hx : F64 xs) : xs.take (L (V xs)).length = L (V xs) := by
 have key : ∀ (k : Nat), k ≤ xs.length → (∀ j, k ≤ j → j < xs.length → xs.getD j 0 = 0) → xs.take (L (V xs)).length = L (V xs) := by
  intro k
  induction k with
  | zero =>
    intro h hz
    have := M.take_dig (B := 18446744073709551616) (by omega) xs hx 0 h hz (Or.inl rfl)
    unfold L V; rw [← this]; simp
  | succ k ih =>
    intro h hz
    by_cases h0 : xs.getD k 0 = 0
    · exact ih (by omega) (fun j h1 h2 => by
       by_cases e : j = k
       · subst e; exact h0
       · exact hz j (by omega) h2)
    · have := M.take_dig (B := 18446744073709551616) (by omega) xs hx (k + 1) h hz (Or.inr h0)
      unfold L V; rw [← this]; simp [h]
 exact key xs.length (Nat.le_refl _) (fun j h1 h2 => by omega)

theorem Rd.trim {w : World} {ao : Option Addr} {xs : List Nat} (h : Rd w ao xs) (hx : F64 xs) : Rd w ao (L (V xs)) := by
 have := h.take (L (V xs)).length
 rwa [L_take xs hx] at this

theorem two_cells (w : World) (t : TypeId) (ao bo : Option Addr) (n m c d : Nat) : ∀ i, i < 2 → ∃ ao' cap, (w.alloc (.cells #[.slice ao n c, .slice bo m d] t)).cell? ⟨w.heap.size, i, none⟩ = some (.slice ao' ([n, m].getD i 0) cap) := by
 intro i hi
 match i, hi with
 | 0, _ => exact ⟨ao, c, by simp⟩
 | 1, _ => exact ⟨bo, d, by simp⟩

theorem D_lt (a : Nat) (m : Nat) (h : (D a).length ≤ m) : a < 4294967296 ^ m :=
 Nat.lt_of_lt_of_le (M.lt_dig (by omega) a) (Nat.pow_le_pow_right (by omega) h)

theorem X_takeD (a k : Nat) (h : (D a).length ≤ k) : X ((D a).take k) = a := by rw [List.take_of_length_le h, X_D]

def Ret (w w' : World) (e : Ending) (r : List Nat) : Prop :=
 ∃ ao cap, e = .returned (.slice ao r.length cap) ∧ w'.ownsRow w.heap.size 26 1 (.slice ao r.length cap) r.length (U r) ∧ Below w.heap.size w w'

theorem Ret.nil {w w' : World} (h : Below w.heap.size w w') : Ret w w' (.returned (.slice none 0 0)) [] := ⟨none, 0, rfl, World.ownsRow_nil _ _ _ _, h⟩

theorem Ret.later {w0 w w' : World} {e : Ending} {r : List Nat} (h : Ret w w' e r) (hb : Below w0.heap.size w0 w) : Ret w0 w' e r := by
 obtain ⟨ao, cap, he, ho, hb'⟩ := h
 exact ⟨ao, cap, he, own_base ho hb.size, hb.trans (hb'.mono hb.size)⟩

theorem Blk.ownPre {w : World} {base g n c : Nat} {zs : List Nat} (h : Blk w g zs) (hb : base ≤ g) (hn : n ≤ zs.length) (hc : zs.length = c) (hm : c ≤ maxLen) : w.ownsRow base 26 1 (.slice (some ⟨g, 0, none⟩) n c) n (U (zs.take n)) := by
 subst hc
 refine ⟨by rw [U_length]; simp; omega, .inr ⟨g, zs.length, (U zs).toArray, rfl, hb, h, hn, hm, by simp [U], ?_⟩⟩
 simp [U, List.map_take]

theorem D_len (xs : List Nat) (hx : F64 xs) : (D (V xs)).length ≤ 2 * xs.length := by
 have := M.length_dig_le (B := 4294967296) (by omega) (M.halves xs) (M.halves_lt xs hx)
 rw [M.val_halves, M.halves_length] at this
 exact this

theorem M.len_of_lt {B : Nat} (hB : 1 < B) (a K : Nat) (h : a < B ^ K) : (M.dig B a).length ≤ K := by
 rcases Nat.lt_or_ge K (M.dig B a).length with h1 | h1
 · have h8 : 0 < a := by
    rcases Nat.eq_zero_or_pos a with e | e
    · rw [e] at h1; simp [M.dig_zero] at h1
    · exact e
   have h9 := M.dig_le hB _ h8
   have h10 : B ^ K ≤ B ^ ((M.dig B a).length - 1) := Nat.pow_le_pow_right (by omega) (by omega)
   omega
 · exact h1

theorem M.len_add {B : Nat} (hB : 1 < B) (a b K : Nat) (ha : (M.dig B a).length ≤ K) (hb : (M.dig B b).length ≤ K) : (M.dig B (a + b)).length ≤ K + 1 := by
 refine M.len_of_lt hB _ _ ?_
 have h1 := Nat.lt_of_lt_of_le (M.lt_dig hB a) (Nat.pow_le_pow_right (by omega) ha)
 have h2 := Nat.lt_of_lt_of_le (M.lt_dig hB b) (Nat.pow_le_pow_right (by omega) hb)
 rw [Nat.pow_succ]
 have h3 : B ^ K * 2 ≤ B ^ K * B := Nat.mul_le_mul_left _ hB
 omega

theorem L_lt (a : Nat) (m : Nat) (h : (L a).length ≤ m) : a < 18446744073709551616 ^ m :=
 Nat.lt_of_lt_of_le (M.lt_dig (by omega) a) (Nat.pow_le_pow_right (by omega) h)

end Go.Proofs.YtogkkecnmlnajaaDoor
namespace Go.Proofs.YtogkkecnmlnajaaDoor.M
set_option linter.unusedVariables false
set_option maxRecDepth 100000
def seg (xs : List Nat) (off n : Nat) : List Nat := (xs.drop off).take n

theorem seg_length (xs : List Nat) (off n : Nat) (h : off + n ≤ xs.length) : (seg xs off n).length = n := by simp [seg]; omega

theorem seg_get (xs : List Nat) (off n k : Nat) (hk : k < n) : (seg xs off n).getD k 0 = xs.getD (off + k) 0 := by
 simp [seg, List.getD_eq_getElem?_getD, hk]

theorem seg_lt {B : Nat} {xs : List Nat} (h : ∀ x ∈ xs, x < B) (off n : Nat) : ∀ x ∈ seg xs off n, x < B := fun x hx => h x (List.mem_of_mem_drop (List.mem_of_mem_take hx))

theorem val_set (B : Nat) (k : Nat) : ∀ (xs : List Nat) (x : Nat), k < xs.length → val B (xs.set k x) + B ^ k * xs.getD k 0 = val B xs + B ^ k * x := by
 induction k with
 | zero =>
   intro xs x h
   cases xs with
   | nil => simp at h
   | cons y r => simp [val]; omega
 | succ k ih =>
   intro xs x h
   cases xs with
   | nil => simp at h
   | cons y r =>
     have := ih r x (by simpa using h)
     simp only [List.set_cons_succ, val, List.getD_cons_succ, Nat.pow_succ]
     have e : B * (val B (r.set k x) + B ^ k * r.getD k 0) = B * (val B r + B ^ k * x) := by rw [this]
     simp only [Nat.mul_add] at e
     rw [Nat.mul_comm (B ^ k) B, Nat.mul_assoc, Nat.mul_assoc]
     omega

theorem seg_set (xs : List Nat) (off n k x : Nat) (hk : k < n) : seg (xs.set (off + k) x) off n = (seg xs off n).set k x := by
 unfold seg
 rw [List.drop_set, if_neg (by omega), List.take_set, Nat.add_sub_cancel_left]

theorem val_seg_set (B : Nat) (xs : List Nat) (off n k x : Nat) (hk : k < n) (hl : off + n ≤ xs.length) :
 val B (seg (xs.set (off + k) x) off n) + B ^ k * xs.getD (off + k) 0 = val B (seg xs off n) + B ^ k * x := by
 rw [seg_set xs off n k x hk]
 have := val_set B k (seg xs off n) x (by rw [seg_length xs off n hl]; exact hk)
 rwa [seg_get xs off n k hk] at this

theorem getD_set_ne (xs : List Nat) (i j x : Nat) (h : i ≠ j) : (xs.set i x).getD j 0 = xs.getD j 0 := by
 simp [List.getD_eq_getElem?_getD, h]

theorem getD_set_eq (xs : List Nat) (i x : Nat) (h : i < xs.length) : (xs.set i x).getD i 0 = x := by
 simp [List.getD_eq_getElem?_getD, h]

structure Wrote (B : Nat) (zs : List Nat) (off n : Nat) (cur : List Nat) : Prop where
 len : cur.length = zs.length
 lt : ∀ x ∈ cur, x < B
 out : ∀ j, (j < off ∨ off + n ≤ j) → cur.getD j 0 = zs.getD j 0

theorem Wrote.refl {B : Nat} {zs : List Nat} (h : ∀ x ∈ zs, x < B) (off n : Nat) : Wrote B zs off n zs := ⟨rfl, h, fun _ _ => rfl⟩

theorem Wrote.set {B : Nat} {zs cur : List Nat} {off n : Nat} (h : Wrote B zs off n cur) (k x : Nat) (hk : k < n) (hx : x < B) : Wrote B zs off n (cur.set (off + k) x) := by
 refine ⟨by rw [List.length_set]; exact h.len, fun y hy => ?_, fun j hj => ?_⟩
 · rcases List.mem_or_eq_of_mem_set hy with hy | rfl
   · exact h.lt y hy
   · exact hx
 · rw [getD_set_ne _ _ _ _ (by omega)]; exact h.out j hj

theorem add_over {V V' V0 T c c' P B x y o : Nat} (h : V + c * P = V0 + T) (hv : V' + P * x = V + P * o) (hs : o + B * c' = x + y + c) : V' + c' * (P * B) = V0 + (T + P * y) := by
 have e : P * (o + B * c') = P * (x + y + c) := by rw [hs]
 simp only [Nat.mul_add] at e
 rw [Nat.mul_comm c' (P * B), Nat.mul_assoc]
 rw [Nat.mul_comm c P] at h
 omega

end Go.Proofs.YtogkkecnmlnajaaDoor.M
namespace Go.Proofs.YtogkkecnmlnajaaDoor
open Go.RowKit
set_option linter.unusedVariables false
set_option maxRecDepth 100000
theorem wrapU (n : Nat) : IntKind.u64.wrap (n : Int) = ((n % 18446744073709551616 : Nat) : Int) := by
 simp only [IntKind.wrap_u64]; omega

theorem wrapU2 (x y p : Nat) (hp : p = (x + y) % 18446744073709551616) : IntKind.u64.wrap ((x : Int) + (y : Int)) = (p : Int) := by
 have := wrapU (x + y)
 rw [← hp] at this
 rw [← this]; congr 1

theorem Rd.other {w w' : World} {bo : Option Addr} {ys : List Nat} {g : Nat} (h : Rd w bo ys) (hg : w.grownBy w' (some g)) (hsep : ∀ b2 o2, bo = some ⟨b2, o2, none⟩ → b2 ≠ g) : Rd w' bo ys := by
 intro hp
 obtain ⟨b, off, e, hc⟩ := h hp
 exact ⟨b, off, e, fun i hi => hg.cell (hc i hi) (by simpa using hsep b off e)⟩

theorem grown_trans {a b c : World} {row : Option Nat} (h : a.grownBy b row) (k : b.grownBy c row) : a.grownBy c row :=
 ⟨k.os.trans h.os, k.tape.trans h.tape, k.output.trans h.output, Nat.le_trans h.size k.size, fun i hi hne => (k.block i (Nat.lt_of_lt_of_le hi h.size) hne).trans (h.block i hi hne)⟩

theorem grown_setCell (w : World) (g i : Nat) (v : Value) : w.grownBy (w.setCell ⟨g, i, none⟩ v) (some g) :=
 ⟨rfl, rfl, rfl, by simp [World.setCell], fun k _ hk => Below.heap_setCell _ _ _ _ (fun e => hk (by simp [e]))⟩

theorem grown_drewN (w : World) (q : Nat) (row : Option Nat) : w.grownBy (w.drewN q) row := ⟨rfl, rfl, rfl, Nat.le_refl _, fun _ _ _ => rfl⟩

theorem less_any (a b : Int) (w : World) (r : Nat) (hr : r = if a < b then 1 else 0) :
 Calls Tryd.prog 72 #[.int .u64 a, .int .u64 b] w fun e w' => e = .returned (.int .u64 (r : Int)) ∧ w' = w := by
 by_cases h : a < b
 · have : r = 1 := by rw [hr, if_pos h]
   subst this
   clear hr
   go_enter Tryd.func72, Tryd.ntmps72
   go_wp2
   go_ret
   exact ⟨rfl, rfl⟩
 · have : r = 0 := by rw [hr, if_neg h]
   subst this
   clear hr
   go_enter Tryd.func72, Tryd.ntmps72
   go_wp2
   go_ret
   exact ⟨rfl, rfl⟩

theorem clone_any (ao : Option Addr) (n cap s : Nat) (xs : List Nat) (w : World) (hl : xs.length = n) (hn : n ≤ 2097152) (hs : s ≤ 2097152) (hr : Rd w ao xs) :
 Calls Tryd.prog 83 #[.slice ao n cap, .int .i64 (s : Int)] w fun e w' => e = .returned (.slice (some ⟨w.heap.size, 0, none⟩) (n + s) (n + s)) ∧ Blk w' w.heap.size (xs ++ List.replicate s 0) ∧ Below w.heap.size w w' := by
 obtain ⟨i0, hi, hz0, hz1, hz2⟩ := info_parts Tryd.infoU
 have hmk := fun (wx : World) => run_make (P := Tryd.prog) wx 60 26 i0 (.int .u64 0) Tryd.underlying60 hi hz0 .i64 .i64 ((n + s : Nat) : Int) ((n + s : Nat) : Int) (by omega) (Int.le_refl _) (by rw [hz2]; omega) (by omega)
 have es : ((n + s : Nat) : Int) = (n : Int) + (s : Int) := by omega
 rw [es] at hmk
 have et : ((n : Int) + (s : Int)).toNat = n + s := by omega
 rw [et] at hmk
 have hb1 : Below w.heap.size w (w.alloc (.cells (madeCells #[Value.int .u64 0] (n + s)) 26)) := (Below.refl _ _).alloc (Nat.le_refl _) _
 have hbk := blk_made w (n + s)
 obtain ⟨w2, hcp, hg2, hgr2⟩ := copy_pre 60 Tryd.underlying60 _ w.heap.size (n + s) (n + s) _ hbk ao xs n cap hl (hr.below hb1) (by omega) (by simp [U])
 clear es et
 go_enter Tryd.func83, Tryd.ntmps83
 go_wp2
 go_ret
 refine ⟨rfl, ?_, hb1.trans ((Below.refl _ _).grown hgr2 (by simp) (fun _ h => by cases h; exact Nat.le_refl _))⟩
 have e : U xs ++ (U (List.replicate (n + s) 0)).drop n = U (xs ++ List.replicate s 0) := by simp [U]
 rw [e] at hg2
 exact hg2

end Go.Proofs.YtogkkecnmlnajaaDoor
namespace Go.Proofs.YtogkkecnmlnajaaDoor.M
set_option linter.unusedVariables false
set_option maxRecDepth 100000
theorem pow_split (p n : Nat) (hp : p ≤ n) : 2 ^ (n - p) * 2 ^ p = 2 ^ n := by rw [← Nat.pow_add]; congr 1; omega

theorem shl_place {K P x cc : Nat} (hP : 0 < P) (hK : 0 < K) (hx : x < K * P) (hc : cc < P) :
 (cc + x % K * P) + K * P * (x / K) = x * P + cc ∧ cc + x % K * P < K * P ∧ x / K < P := by
 have h1 := Nat.mod_add_div x K
 have h2 := Nat.mod_lt x hK
 refine ⟨?_, ?_, ?_⟩
 · have e : x * P = (x % K + K * (x / K)) * P := by rw [h1]
   rw [e, Nat.add_mul, Nat.mul_right_comm K P (x / K)]
   omega
 · have : (x % K + 1) * P ≤ K * P := Nat.mul_le_mul_right _ h2
   rw [Nat.add_mul] at this
   omega
 · exact Nat.div_lt_of_lt_mul hx

theorem shl_over {V V' c c' Q Pk B P x o T : Nat} (h : V + c * (Q * Pk) = (Q * P) * T) (hv : V' = V + Q * Pk * o) (hs : o + B * c' = x * P + c) : V' + c' * (Q * Pk * B) = (Q * P) * (T + Pk * x) := by
 have e : Q * Pk * (o + B * c') = Q * Pk * (x * P + c) := by rw [hs]
 simp only [Nat.mul_add] at e
 have e2 : (Q * P) * (Pk * x) = Q * Pk * (x * P) := by simp only [Nat.mul_comm, Nat.mul_left_comm]
 rw [Nat.mul_add, e2, Nat.mul_comm c' (Q * Pk * B), Nat.mul_assoc]
 rw [Nat.mul_comm c (Q * Pk)] at h
 omega

theorem shr_place {K P x T : Nat} (hP : 0 < P) (hK : 0 < K) : (x / P + T % P * K) + K * P * (T / P) = (x + K * P * T) / P ∧ (x + K * P * T) % P = x % P := by
 have h1 := Nat.mod_add_div T P
 constructor
 · have e : x + K * P * T = x + P * (K * T) := by rw [Nat.mul_comm K P, Nat.mul_assoc]
   rw [e, Nat.add_mul_div_left _ _ hP]
   have e2 : K * T = K * (T % P + P * (T / P)) := by rw [h1]
   rw [e2, Nat.mul_add, Nat.mul_comm (T % P) K, Nat.mul_assoc]
   omega
 · rw [Nat.mul_comm K P, Nat.mul_assoc, Nat.add_mul_mod_self_left]

theorem shr_lt {K P x T : Nat} (hP : 0 < P) (hx : x < K * P) : x / P + T % P * K < P * K := by
 have h1 : x / P < K := Nat.div_lt_of_lt_mul (by rw [Nat.mul_comm]; exact hx)
 have h2 := Nat.mod_lt T hP
 have h3 : (T % P + 1) * K ≤ P * K := Nat.mul_le_mul_right _ h2
 rw [Nat.add_mul] at h3
 omega

end Go.Proofs.YtogkkecnmlnajaaDoor.M
namespace Go.Proofs.YtogkkecnmlnajaaDoor
open Go.RowKit
set_option linter.unusedVariables false
set_option maxRecDepth 100000
theorem pow_cast (p : Nat) : ((2 : Int) ^ p) = ((2 ^ p : Nat) : Int) := by simp

theorem or_comm_nat (a b : Nat) (ha : a < 18446744073709551616) (hb : b < 18446744073709551616) : bits BinOp.or IntKind.u64 (a : Int) (b : Int) = ((b ||| a : Nat) : Int) := by
 rw [u64_or_nat a b ha hb, Nat.or_comm]

theorem shl_word (x p cc : Nat) (hp : p < 64) (hx : x < 18446744073709551616) (hc : cc < 2 ^ p) :
 bits BinOp.or IntKind.u64 (IntKind.u64.wrap ((x : Int) * 2 ^ p)) (cc : Int) = ((cc + x % 2 ^ (64 - p) * 2 ^ p : Nat) : Int) := by
 have hKP : 2 ^ (64 - p) * 2 ^ p = 18446744073709551616 := M.pow_split p 64 (by omega)
 have hb := (M.shl_place (K := 2 ^ (64 - p)) (P := 2 ^ p) (x := x) (cc := cc) (Nat.pow_pos (by omega)) (Nat.pow_pos (by omega)) (by omega) hc).2.1
 have e1 : IntKind.u64.wrap ((x : Int) * 2 ^ p) = ((x % 2 ^ (64 - p) * 2 ^ p : Nat) : Int) := by
  rw [pow_cast, ← Int.natCast_mul, wrapU, ← hKP, Nat.mul_mod_mul_right]
 rw [e1, or_comm_nat _ _ (by omega) (by omega), or_nat cc _ p hc]

theorem div_cast (x k : Nat) : (x : Int) / 2 ^ k = ((x / 2 ^ k : Nat) : Int) := by
 rw [pow_cast]; exact (Int.natCast_ediv x (2 ^ k)).symm

theorem shiftLeft_any (ao : Option Addr) (n c s : Nat) (a : Nat) (w : World) (hl : (L a).length = n) (hn : n ≤ 1048576) (hs : s ≤ 100000) (hr : Rd w ao (L a)) :
 Calls Tryd.prog 75 #[.slice ao n c, .int .i64 (s : Int)] w fun e w' => Ret w w' e (L (a * 2 ^ s)) := by
 obtain ⟨i0, hi, hz0, hz1, hz2⟩ := info_parts Tryd.infoU
 obtain ⟨q, hq⟩ : ∃ q : Nat, q = s / 64 := ⟨_, rfl⟩
 obtain ⟨p, hp⟩ : ∃ p : Nat, p = s % 64 := ⟨_, rfl⟩
 have hqI : (s : Int) / 64 = (q : Int) := by omega
 have hpI : (s : Int) % 64 = (p : Int) := by omega
 have hpb : p < 64 := by omega
 have hqb : q ≤ 100000 := by omega
 have HQ := hid hq; clear hq
 have HP := hid hp; clear hp
 have hmk := fun (wx : World) => run_make (P := Tryd.prog) wx 60 26 i0 (.int .u64 0) Tryd.underlying60 hi hz0 .i64 .i64 ((q + n + 1 : Nat) : Int) ((q + n + 1 : Nat) : Int) (by omega) (Int.le_refl _) (by rw [hz2]; omega) (by omega)
 have es : ((q + n + 1 : Nat) : Int) = (q : Int) + (n : Int) + 1 := by omega
 rw [es] at hmk
 have et : ((q : Int) + (n : Int) + 1).toNat = q + n + 1 := by omega
 rw [et] at hmk
 clear es et
 have fa := F64_L a
 go_enter Tryd.func75, Tryd.ntmps75
 go_wp2_with fail
 go_loopw [8, 23] (fun cy i wr => ∃ (k : Nat) (cur : List Nat) (cc : Nat), k ≤ n ∧ i = .int .i64 k ∧ cy = .int .u64 cc ∧ cc < 2 ^ p ∧ Blk wr w.heap.size cur ∧ cur.length = q + n + 1 ∧ F64 cur ∧ (∀ j, q + k ≤ j → cur.getD j 0 = 0) ∧ V cur + cc * 18446744073709551616 ^ (q + k) = (18446744073709551616 ^ q * 2 ^ p) * V ((L a).take k) ∧ Below w.heap.size w wr) (fun _ i _ => n - (intOf i).toNat)
 case atStart =>
  refine ⟨0, List.replicate (q + n + 1) 0, 0, by omega, rfl, rfl, Nat.pow_pos (by omega), blk_made w (q + n + 1), by simp, fun x hx => by simp at hx; omega, fun j _ => ?_, ?_, (Below.refl _ _).alloc (Nat.le_refl _) _⟩
  · rw [List.getD_eq_getElem?_getD, List.getElem?_replicate]; split <;> rfl
  · unfold V; rw [M.val_replicate]; simp [M.val]
 case round =>
  obtain ⟨k, cur, cc, hk, rfl, rfl, hcc, hBk, hcl, hcf, hz, hv, hbl⟩ := hrel
  clear hmk
  have HZ := hid hz; clear hz
  have HV := hid hv; clear hv
  have HCL := hid hcl; clear hcl
  by_cases hlt : k < n
  · obtain ⟨b2, o2, hbo, hc2⟩ := (hr.below hbl) (by omega)
    have hck := hc2 k (by omega)
    clear hc2
    have hx1 := fa.get k
    obtain ⟨x, hxx⟩ : ∃ x : Nat, x = (L a).getD k 0 := ⟨_, rfl⟩
    rw [← hxx] at hck hx1
    have HX := hid hxx; clear hxx
    have hlt' : (k : Int) < (n : Int) := by omega
    have hltq : (q : Int) + (k : Int) < ((q + n + 1 : Nat) : Int) := by omega
    have hcs := hBk.cell (q + k) (by have := HCL.out; omega)
    rw [HZ.out (q + k) (by omega)] at hcs
    have hfs := hBk.frozen (q + k)
    have hKP : 2 ^ (64 - p) * 2 ^ p = 18446744073709551616 := M.pow_split p 64 (by omega)
    have hpl := M.shl_place (K := 2 ^ (64 - p)) (P := 2 ^ p) (x := x) (cc := cc) (Nat.pow_pos (by omega)) (Nat.pow_pos (by omega)) (by omega) hcc
    rw [hKP] at hpl
    have hwo := shl_word x p cc hpb hx1 hcc
    have hwc := div_cast x (64 - p)
    obtain ⟨o, eo⟩ : ∃ o : Nat, o = cc + x % 2 ^ (64 - p) * 2 ^ p := ⟨_, rfl⟩
    obtain ⟨c', ec'⟩ : ∃ c' : Nat, c' = x / 2 ^ (64 - p) := ⟨_, rfl⟩
    rw [← eo] at hwo hpl
    rw [← ec'] at hpl hwc
    have HPL := hid hpl; clear hpl hKP eo ec'
    clear hcc
    have HB := hid hBk; clear hBk
    go_wp2_with fail
    go_roundw
    case rel =>
     have R : ∃ (k1 : Nat) (cur1 : List Nat) (cc1 : Nat), k1 ≤ n ∧ Value.int .i64 ((k : Int) + 1) = .int .i64 k1 ∧ Value.int .u64 (c' : Int) = .int .u64 cc1 ∧ cc1 < 2 ^ p ∧ Blk (wr.setCell ⟨w.heap.size, q + k, none⟩ (.int .u64 (o : Int))) w.heap.size cur1 ∧ cur1.length = q + n + 1 ∧ F64 cur1 ∧ (∀ j, q + k1 ≤ j → cur1.getD j 0 = 0) ∧ V cur1 + cc1 * 18446744073709551616 ^ (q + k1) = (18446744073709551616 ^ q * 2 ^ p) * V ((L a).take k1) ∧ Below w.heap.size w (wr.setCell ⟨w.heap.size, q + k, none⟩ (.int .u64 (o : Int))) := by
      refine ⟨k + 1, cur.set (q + k) o, c', by omega, by go_num, rfl, HPL.out.2.2, HB.out.set _ _ _ rfl, by rw [List.length_set]; exact HCL.out, ?_, ?_, ?_, hbl.setCell (Nat.le_refl _) _⟩
      · intro v hv
        rcases List.mem_or_eq_of_mem_set hv with hv | rfl
        · exact hcf v hv
        · exact HPL.out.2.1
      · intro j hj
        rw [M.getD_set_ne _ _ _ _ (by omega)]; exact HZ.out j (by omega)
      · have e2 := M.val_set 18446744073709551616 (q + k) cur o (by have := HCL.out; omega)
        rw [HZ.out (q + k) (by omega), Nat.mul_zero, Nat.add_zero] at e2
        have e3 := HV.out
        unfold V at *
        rw [M.val_take_succ, ← HX.out, show q + (k + 1) = q + k + 1 by omega, Nat.pow_succ]
        rw [Nat.pow_add] at e2 e3 ⊢
        exact M.shl_over e3 e2 HPL.out.1
     first | exact R | ((repeat apply Exists.intro); exact ⟨R, rfl⟩) | ((repeat apply Exists.intro); exact ⟨R, by rw [hbo]⟩)
    case measure => simp [intOf]; omega
  · have e : k = n := by omega
    subst e
    have hcs := hBk.cell (q + k) (by have := HCL.out; omega)
    rw [HZ.out (q + k) (by omega)] at hcs
    have hfs := hBk.frozen (q + k)
    have hlt' : ¬ (k : Int) < (k : Int) := by omega
    have hltq : (q : Int) + (k : Int) < ((q + k + 1 : Nat) : Int) := by omega
    have hpp : 2 ^ p ≤ 2 ^ 64 := Nat.pow_le_pow_right (by omega) (by omega)
    have hccb : cc < 18446744073709551616 := by omega
    clear hpp
    have HB := hid hBk; clear hBk
    have HCB := hid hccb; clear hccb hcc
    go_wp2_with fail
    have hB2 : Blk (wr.setCell ⟨w.heap.size, q + k, none⟩ (.int .u64 (cc : Int))) w.heap.size (cur.set (q + k) cc) := HB.out.set _ _ _ rfl
    have hb2 : Below w.heap.size w (wr.setCell ⟨w.heap.size, q + k, none⟩ (.int .u64 (cc : Int))) := hbl.setCell (Nat.le_refl _) _
    have hf2 : F64 (cur.set (q + k) cc) := by
     intro v hv
     rcases List.mem_or_eq_of_mem_set hv with hv | rfl
     · exact hcf v hv
     · exact HCB.out
    have hfin : V (cur.set (q + k) cc) = a * 2 ^ s := by
     have e2 := M.val_set 18446744073709551616 (q + k) cur cc (by have := HCL.out; omega)
     rw [HZ.out (q + k) (by omega), Nat.mul_zero, Nat.add_zero] at e2
     have e3 := HV.out
     rw [List.take_of_length_le (by omega), V_L] at e3
     unfold V at *
     rw [e2, Nat.mul_comm (18446744073709551616 ^ (q + k)) cc, e3, show (18446744073709551616 : Nat) = 2 ^ 64 from rfl, ← Nat.pow_mul, ← Nat.pow_add, Nat.mul_comm]
     congr 2
     have := HQ.out; have := HP.out; omega
    generalize wr.setCell ⟨w.heap.size, q + k, none⟩ (.int .u64 (cc : Int)) = w2 at hB2 hb2 ⊢
    refine (trim_any _ (q + k + 1) (q + k + 1) _ _ (by rw [List.length_set]; exact HCL.out) (Nat.le_refl _) (by omega) hf2 hB2.rd0).mono ?_
    rw [hfin]
    rintro e w3 ⟨rfl, rfl⟩
    go_wp2_with fail
    go_ret
    have h1 := L_len _ hf2
    have h2 := L_take _ hf2
    rw [hfin] at h1 h2
    have h3 := hB2.ownPre (base := w.heap.size) (c := q + k + 1) (Nat.le_refl _) h1 (by rw [List.length_set]; exact HCL.out) (by unfold maxLen; omega)
    rw [h2] at h3
    exact ⟨_, _, rfl, h3, hb2⟩

theorem shr_word (x p t : Nat) (hp : p < 64) (hx : x < 18446744073709551616) (ht : t < 2 ^ p) :
 bits BinOp.or IntKind.u64 ((x : Int) / 2 ^ p) ((t * 2 ^ (64 - p) : Nat) : Int) = ((x / 2 ^ p + t * 2 ^ (64 - p) : Nat) : Int) := by
 have hKP : 2 ^ (64 - p) * 2 ^ p = 18446744073709551616 := M.pow_split p 64 (by omega)
 have h1 : x / 2 ^ p < 2 ^ (64 - p) := Nat.div_lt_of_lt_mul (by rw [Nat.mul_comm]; omega)
 have h2 : t * 2 ^ (64 - p) < 18446744073709551616 := by
  have : t * 2 ^ (64 - p) < 2 ^ p * 2 ^ (64 - p) := Nat.mul_lt_mul_of_pos_right ht (Nat.pow_pos (by omega))
  rw [Nat.mul_comm (2 ^ p)] at this
  omega
 have h3 : x / 2 ^ p ≤ x := Nat.div_le_self _ _
 rw [div_cast, u64_or_nat _ _ (by omega) h2, or_nat _ _ _ h1]

theorem shl_carry (x p : Nat) (hp : p < 64) : IntKind.u64.wrap ((x : Int) * 2 ^ (64 - p)) = ((x % 2 ^ p * 2 ^ (64 - p) : Nat) : Int) := by
 have hKP : 2 ^ p * 2 ^ (64 - p) = 18446744073709551616 := by rw [Nat.mul_comm]; exact M.pow_split p 64 (by omega)
 rw [pow_cast, ← Int.natCast_mul, wrapU, ← hKP, Nat.mul_mod_mul_right]

theorem V_drop (xs : List Nat) (k : Nat) (h : k < xs.length) : V (xs.drop k) = xs.getD k 0 + 18446744073709551616 * V (xs.drop (k + 1)) := by
 rw [List.drop_eq_getElem_cons h]
 unfold V
 rw [M.val, List.getD_eq_getElem?_getD, List.getElem?_eq_getElem h]
 rfl

theorem shiftRight_any (ao : Option Addr) (n c s : Nat) (a : Nat) (w : World) (hl : (L a).length = n) (hc : n ≤ c) (hn : n ≤ 1048576) (hs : s ≤ 100000) (hr : Rd w ao (L a)) :
 Calls Tryd.prog 87 #[.slice ao n c, .int .i64 (s : Int)] w fun e w' => Ret w w' e (L (a / 2 ^ s)) := by
 obtain ⟨q, hq⟩ : ∃ q : Nat, q = s / 64 := ⟨_, rfl⟩
 obtain ⟨p, hp⟩ : ∃ p : Nat, p = s % 64 := ⟨_, rfl⟩
 have hqI : (s : Int) / 64 = (q : Int) := by omega
 have hpI : (s : Int) % 64 = (p : Int) := by omega
 have hpb : p < 64 := by omega
 have hqb : q ≤ 100000 := by omega
 have HQ := hid hq; clear hq
 have HP := hid hp; clear hp
 have fa := F64_L a
 have hsq : 2 ^ s = 18446744073709551616 ^ q * 2 ^ p := by
  rw [show (18446744073709551616 : Nat) = 2 ^ 64 from rfl, ← Nat.pow_mul, ← Nat.pow_add]
  congr 1
  have := HQ.out; have := HP.out; omega
 have HSQ := hid hsq; clear hsq
 by_cases hqn : n ≤ q
 · have hz : a / 2 ^ s = 0 := by
    apply Nat.div_eq_of_lt
    have h1 := L_lt a q (by omega)
    rw [HSQ.out]
    exact Nat.lt_of_lt_of_le h1 (Nat.le_mul_of_pos_right _ (Nat.pow_pos (by omega)))
   rw [hz, show L 0 = [] from M.dig_zero _]
   clear hz
   go_enter Tryd.func87, Tryd.ntmps87
   go_wp2_with fail
   go_ret
   exact Ret.nil (Below.refl _ _)
 · have hqn' : ¬ (n : Int) ≤ (q : Int) := by omega
   obtain ⟨b0, o0, hao, hcl⟩ := hr (by omega)
   have hrd : Rd w (some ⟨b0, o0 + q, none⟩) ((L a).drop q) := by
    intro hp
    refine ⟨b0, o0 + q, rfl, fun i hi => ?_⟩
    have := hcl (q + i) (by simp at hi; omega)
    rw [Nat.add_assoc, this]
    simp [List.getD_eq_getElem?_getD]
   have hdl : ((L a).drop q).length = n - q := by simp [hl]
   have hne : ¬ c = q := by omega
   have fd : F64 ((L a).drop q) := fun x hx => fa x (List.mem_of_mem_drop hx)
   have hvd : V ((L a).drop q) = a / 18446744073709551616 ^ q := by
    have h1 := M.val_append 18446744073709551616 ((L a).take q) ((L a).drop q)
    rw [List.take_append_drop] at h1
    have h2 : ((L a).take q).length = q := by simp; omega
    have h3 := M.val_lt (B := 18446744073709551616) (by omega) ((L a).take q) (fun x hx => fa x (List.mem_of_mem_take hx))
    rw [h2] at h1 h3
    have h4 : a = M.val 18446744073709551616 ((L a).take q) + 18446744073709551616 ^ q * V ((L a).drop q) := by
     conv => lhs; rw [← V_L a]
     exact h1
    conv => rhs; rw [h4]
    rw [Nat.add_mul_div_left _ _ (Nat.pow_pos (by omega)), Nat.div_eq_of_lt h3, Nat.zero_add]
   obtain ⟨xs, hxs⟩ : ∃ xs, xs = (L a).drop q := ⟨_, rfl⟩
   rw [← hxs] at hrd hdl fd hvd
   clear hxs hcl
   obtain ⟨m, hm⟩ : ∃ m, m = n - q := ⟨_, rfl⟩
   have hmI : n - q = m := hm.symm
   rw [hmI] at hdl
   have hmb : m ≤ 1048576 := by omega
   have HVD := hid hvd; clear hvd
   have HDL := hid hdl; clear hdl
   clear hm
   go_enter Tryd.func87, Tryd.ntmps87
   go_wp2_with fail
   refine (clone_any _ m (c - q) 0 xs _ HDL.out (by omega) (by omega) hrd).mono ?_
   rw [List.replicate_zero, List.append_nil]
   rintro e w1 ⟨rfl, hB1, hb1⟩
   have HB1 := hid hB1; clear hB1
   have Hb1 := hid hb1; clear hb1
   go_wp2_with fail
   go_loopw [8, 9] (fun cy i wr => ∃ (k : Nat) (cur : List Nat), k ≤ m ∧ i = .int .i64 ((k : Int) - 1) ∧ cy = .int .u64 ((V (xs.drop k) % 2 ^ p * 2 ^ (64 - p) : Nat) : Int) ∧ Blk wr w.heap.size cur ∧ cur.length = m ∧ F64 cur ∧ (∀ j, j < k → cur.getD j 0 = xs.getD j 0) ∧ V (cur.drop k) = V (xs.drop k) / 2 ^ p ∧ Below w.heap.size w wr) (fun _ i _ => (intOf i + 1).toNat)
   case atStart =>
    refine ⟨m, xs, by omega, by go_num, ?_, HB1.out, HDL.out, fd, fun _ _ => rfl, ?_, Hb1.out⟩
    · rw [List.drop_of_length_le (by have := HDL.out; omega)]; simp [V, M.val]
    · rw [List.drop_of_length_le (by have := HDL.out; omega)]; simp [V, M.val]
   case round =>
    obtain ⟨k, cur, hk, rfl, rfl, hBk, hcl, hcf, hz, hv, hbl⟩ := hrel
    have HZ := hid hz; clear hz
    have HV := hid hv; clear hv
    have HCL := hid hcl; clear hcl
    by_cases hlt : 0 < k
    · obtain ⟨k, rfl⟩ : ∃ k', k = k' + 1 := ⟨k - 1, by omega⟩
      have e1 : (((k + 1 : Nat) : Int) - 1) = (k : Int) := by omega
      rw [e1]
      have hcs := hBk.cell k (by have := HCL.out; omega)
      have hfs := hBk.frozen k
      rw [HZ.out k (by omega)] at hcs
      have hx1 : xs.getD k 0 < 18446744073709551616 := F64.get fd k
      obtain ⟨x, hxx⟩ : ∃ x : Nat, x = xs.getD k 0 := ⟨_, rfl⟩
      rw [← hxx] at hcs hx1
      have HX := hid hxx; clear hxx
      obtain ⟨T, hT⟩ : ∃ T : Nat, T = V (xs.drop (k + 1)) := ⟨_, rfl⟩
      rw [← hT]
      have hKP : 2 ^ (64 - p) * 2 ^ p = 18446744073709551616 := M.pow_split p 64 (by omega)
      have hwo := shr_word x p (T % 2 ^ p) hpb hx1 (Nat.mod_lt _ (Nat.pow_pos (by omega)))
      have hwc := shl_carry x p hpb
      have hpl := M.shr_place (K := 2 ^ (64 - p)) (P := 2 ^ p) (x := x) (T := T) (Nat.pow_pos (by omega)) (Nat.pow_pos (by omega))
      have hob := M.shr_lt (K := 2 ^ (64 - p)) (P := 2 ^ p) (x := x) (T := T) (Nat.pow_pos (by omega)) (by omega)
      rw [Nat.mul_comm (2 ^ p) (2 ^ (64 - p)), hKP] at hob
      rw [hKP] at hpl
      obtain ⟨o, eo⟩ : ∃ o : Nat, o = x / 2 ^ p + T % 2 ^ p * 2 ^ (64 - p) := ⟨_, rfl⟩
      rw [← eo] at hwo hpl hob
      obtain ⟨ci, eci⟩ : ∃ ci : Nat, ci = T % 2 ^ p * 2 ^ (64 - p) := ⟨_, rfl⟩
      rw [← eci] at hwo ⊢
      obtain ⟨c', ec'⟩ : ∃ c' : Nat, c' = x % 2 ^ p * 2 ^ (64 - p) := ⟨_, rfl⟩
      rw [← ec'] at hwc
      have HPL := hid hpl; have HOB := hid hob; have HT := hid hT; have HC' := hid ec'
      clear hpl hob hKP eo eci ec' hT
      have HB := hid hBk; clear hBk
      have hltk : (k : Int) < (m : Int) := by omega
      go_wp2_with fail
      go_roundw
      case rel =>
       have R : ∃ (k1 : Nat) (cur1 : List Nat), k1 ≤ m ∧ Value.int .i64 ((k : Int) - 1) = .int .i64 ((k1 : Int) - 1) ∧ Value.int .u64 (c' : Int) = .int .u64 ((V (xs.drop k1) % 2 ^ p * 2 ^ (64 - p) : Nat) : Int) ∧ Blk (wr.setCell ⟨w.heap.size, k, none⟩ (.int .u64 (o : Int))) w.heap.size cur1 ∧ cur1.length = m ∧ F64 cur1 ∧ (∀ j, j < k1 → cur1.getD j 0 = xs.getD j 0) ∧ V (cur1.drop k1) = V (xs.drop k1) / 2 ^ p ∧ Below w.heap.size w (wr.setCell ⟨w.heap.size, k, none⟩ (.int .u64 (o : Int))) := by
        have hd := V_drop xs k (by have := HDL.out; omega)
        rw [← HX.out, ← HT.out] at hd
        refine ⟨k, cur.set k o, by omega, rfl, ?_, HB.out.set _ _ _ rfl, by rw [List.length_set]; exact HCL.out, ?_, ?_, ?_, hbl.setCell (Nat.le_refl _) _⟩
        · rw [hd, HPL.out.2, HC'.out]
        · intro v hv
          rcases List.mem_or_eq_of_mem_set hv with hv | rfl
          · exact hcf v hv
          · exact HOB.out
        · intro j hj
          rw [M.getD_set_ne _ _ _ _ (by omega)]; exact HZ.out j (by omega)
        · rw [V_drop _ k (by rw [List.length_set]; have := HCL.out; omega), M.getD_set_eq _ _ _ (by have := HCL.out; omega), List.drop_set_of_lt (by omega), HV.out, hd, ← HT.out]
          exact HPL.out.1
       first | exact R | ((repeat apply Exists.intro); exact ⟨R, rfl⟩) | ((repeat apply Exists.intro); exact ⟨R, by rw [hao]⟩)
      case measure => simp [intOf]
    · have : k = 0 := by omega
      subst this
      have hfin : V cur = a / 2 ^ s := by
       have := HV.out
       rw [List.drop_zero, List.drop_zero, HVD.out, Nat.div_div_eq_div_mul, ← HSQ.out] at this
       exact this
      go_wp2_with fail
      refine (trim_any _ m m cur _ HCL.out (Nat.le_refl _) (by omega) hcf hBk.rd0).mono ?_
      rw [hfin]
      rintro e w3 ⟨rfl, rfl⟩
      go_wp2_with fail
      go_ret
      have h1 := L_len cur hcf
      have h2 := L_take cur hcf
      rw [hfin] at h1 h2
      have h3 := hBk.ownPre (base := w.heap.size) (c := m) (Nat.le_refl _) h1 HCL.out (by unfold maxLen; omega)
      rw [h2] at h3
      exact ⟨_, _, rfl, h3, hbl⟩

def blen (n : Nat) : Nat := (M.dig 2 n).length

theorem lt_blen (n : Nat) : n < 2 ^ blen n := M.lt_dig (by omega) n

theorem blen_le (n : Nat) (h : 0 < n) : 2 ^ (blen n - 1) ≤ n := M.dig_le (by omega) n h

theorem blen_zero : blen 0 = 0 := by simp [blen, M.dig_zero]

theorem blen_pos (n : Nat) (h : 0 < n) : 0 < blen n := by
 unfold blen; rw [M.dig_pos (by omega) h]; simp

theorem blen_half (n : Nat) (h : 0 < n) : blen n = 1 + blen (n / 2) := by
 unfold blen; rw [M.dig_pos (by omega) h]; simp; omega

theorem blen_unique (n k : Nat) (h1 : 2 ^ (k - 1) ≤ n) (h2 : n < 2 ^ k) (hk : 0 < k) : blen n = k := by
 have hn : 0 < n := Nat.lt_of_lt_of_le (Nat.pow_pos (by omega)) h1
 have h3 := lt_blen n
 have h4 := blen_le n hn
 have h5 := blen_pos n hn
 rcases Nat.lt_trichotomy (blen n) k with h | h | h
 · have : 2 ^ blen n ≤ 2 ^ (k - 1) := Nat.pow_le_pow_right (by omega) (by omega)
   omega
 · exact h
 · have : 2 ^ k ≤ 2 ^ (blen n - 1) := Nat.pow_le_pow_right (by omega) (by omega)
   omega

theorem bitLen_eq : ∀ (k n : Nat), n < 2 ^ k → k ≤ 64 → Lib.bitLen n = blen n := by
 intro k
 induction k with
 | zero =>
   intro n h _
   have : n = 0 := by simpa using h
   subst this
   rw [blen_zero]; rfl
 | succ k ih =>
   intro n h hk
   by_cases hn : n = 0
   · subst hn; rw [blen_zero]; rfl
   · rw [blen_half n (by omega), Lib.bitLen_half n hn (Nat.lt_of_lt_of_le h (Nat.pow_le_pow_right (by omega) hk)), ih (n / 2) (by rw [Nat.pow_succ] at h; omega) (by omega)]

theorem bitLen_64 (n : Nat) (h : n < 18446744073709551616) : Lib.bitLen n = blen n := bitLen_eq 64 n h (by omega)

theorem blen_shift (k n : Nat) (h : 2 ^ k ≤ n) : blen n = k + blen (n / 2 ^ k) := by
 have hq : 0 < n / 2 ^ k := Nat.div_pos h (Nat.pow_pos (by omega))
 have h1 := lt_blen (n / 2 ^ k)
 have h2 := blen_le (n / 2 ^ k) hq
 have h3 := blen_pos _ hq
 refine blen_unique n _ ?_ ?_ (by omega)
 · rw [show k + blen (n / 2 ^ k) - 1 = (blen (n / 2 ^ k) - 1) + k by omega, Nat.pow_add]
   exact Nat.le_trans (Nat.mul_le_mul_right _ h2) (Nat.div_mul_le_self n _)
 · rw [Nat.pow_add]
   exact (Nat.div_lt_iff_lt_mul (Nat.pow_pos (by omega))).1 h1 |> fun h => by rwa [Nat.mul_comm] at h

theorem blen_le_of (n k : Nat) (h : n < 2 ^ k) : blen n ≤ k := M.len_of_lt (by omega) n k h

theorem blen_D (a : Nat) (h : 0 < a) : blen a = 32 * ((D a).length - 1) + blen ((D a).getD ((D a).length - 1) 0) := by
 have h1 := M.dig_le (B := 4294967296) (by omega) a h
 have h2 := M.lt_dig (B := 4294967296) (by omega) a
 have hl : (D a).length ≠ 0 := by unfold D; rw [M.dig_pos (by omega) h]; simp
 obtain ⟨m, hm⟩ : ∃ m, (D a).length = m + 1 := ⟨(D a).length - 1, by omega⟩
 have hm' : (M.dig 4294967296 a).length = m + 1 := hm
 rw [hm'] at h1 h2
 rw [hm, Nat.add_sub_cancel] at *
 have e : (4294967296 : Nat) ^ m = 2 ^ (32 * m) := by rw [show (4294967296 : Nat) = 2 ^ 32 from rfl, ← Nat.pow_mul]
 have hg : (D a).getD m 0 = a / 4294967296 ^ m := by
  have hh : (M.dig 4294967296 a).getD m 0 = a / 4294967296 ^ m % 4294967296 := by
   have : ∀ k n, (M.dig 4294967296 n).getD k 0 = n / 4294967296 ^ k % 4294967296 := by
    intro k
    induction k with
    | zero =>
      intro n
      by_cases hn : 0 < n
      · rw [M.dig_pos (by omega) hn]; simp
      · have : n = 0 := by omega
        subst this; simp [M.dig_zero]
    | succ k ih =>
      intro n
      by_cases hn : 0 < n
      · rw [M.dig_pos (by omega) hn, List.getD_cons_succ, ih, Nat.div_div_eq_div_mul, Nat.pow_succ, Nat.mul_comm 4294967296]
      · have : n = 0 := by omega
        subst this; simp [M.dig_zero]
   exact this m a
  unfold D
  rw [hh]
  apply Nat.mod_eq_of_lt
  apply Nat.div_lt_of_lt_mul
  rw [← Nat.pow_succ]; exact h2
 rw [hg, e]
 exact blen_shift (32 * m) a (by rw [← e]; exact h1)

theorem wrapSub (x y p : Nat) (hp : p = (x + 18446744073709551616 - y) % 18446744073709551616) (hy : y ≤ 18446744073709551616) : IntKind.u64.wrap ((x : Int) - (y : Int)) = (p : Int) := by
 rw [IntKind.wrap_u64]; omega

theorem M.no_borrow {S c P t a : Nat} (h : S + t = a + c * P) (hS : S < P) (ht : t ≤ a) : c = 0 ∧ S = a - t := by
 rcases Nat.eq_zero_or_pos c with rfl | hc
 · simp at h; exact ⟨rfl, by omega⟩
 · have := Nat.le_mul_of_pos_left P hc; omega

theorem M.sub_place {S c P B A A' x y o c' : Nat} (h : S + A' = A + c * P) (hs : o + y + c = x + B * c') : S + P * o + (A' + P * y) = A + P * x + c' * (P * B) := by
 have e : P * (o + y + c) = P * (x + B * c') := by rw [hs]
 simp only [Nat.mul_add] at e
 rw [Nat.mul_comm c' (P * B), Nat.mul_assoc]
 rw [Nat.mul_comm c P] at h
 omega

end Go.Proofs.YtogkkecnmlnajaaDoor
