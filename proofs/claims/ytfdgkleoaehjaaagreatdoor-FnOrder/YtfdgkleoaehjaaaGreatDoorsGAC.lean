import Derived.Test.YtfdgkleoaehjaaaGreatDoorsGAB
set_option maxHeartbeats 1000000
namespace Go.Proofs.YtfdgkleoaehjaaaGreatDoor
open Go.RowKit
set_option linter.unusedVariables false
set_option maxRecDepth 100000
def fmtC : Array Value := #[.int .i64 24, .int .i64 (-126), .int .i64 127, .int .i64 32, .int .i64 8, .bool false,
 .int .i64 53, .int .i64 (-1022), .int .i64 1023, .int .i64 64, .int .i64 11, .bool false,
 .int .i64 64, .int .i64 (-16382), .int .i64 16383, .int .i64 80, .int .i64 15, .bool true,
 .int .i64 113, .int .i64 (-16382), .int .i64 16383, .int .i64 128, .int .i64 15, .bool false]

def Fmt (w : World) : Prop := 0 < w.heap.size /\ ∀ j, j < 24 -> w.cell? ⟨0, j, none⟩ = fmtC[j]?

theorem Fmt.below {w w' : World} (h : Fmt w) (hb : Below w.heap.size w w') : Fmt w' :=
 ⟨Nat.lt_of_lt_of_le h.1 hb.size, fun j hj => (hb.cell (p := ⟨0, j, none⟩) h.1).trans (h.2 j hj)⟩

theorem CE (w : World) (h : Fmt w) : Calls Tryz.prog 19 #[.int .i64 0] w fun e w' => e = .returned (.agg #[.int .i64 24, .int .i64 (-126), .int .i64 127, .int .i64 32, .int .i64 8, .bool false]) /\ Below w.heap.size w w' := by
 have h1 := h.1;have c0 := h.2 0 (by omega);have c1 := h.2 1 (by omega);have c2 := h.2 2 (by omega);have c3 := h.2 3 (by omega);have c4 := h.2 4 (by omega);have c5 := h.2 5 (by omega)
 simp [fmtC] at c0 c1 c2 c3 c4 c5
 clear h;go_enter Tryz.func19, Tryz.ntmps19;go_wp2_with fail;exact bodyPost_ret (v := .agg #[.int .i64 24, .int .i64 (-126), .int .i64 127, .int .i64 32, .int .i64 8, .bool false]) (by simp [results, Tryz.results19, go_sem]) rfl ⟨rfl, (Below.refl _ _).alloc (Nat.le_refl _) _⟩

theorem wJ (w : World) : Calls Tryz.prog 9 #[.int .i64 0] w fun e w' => e = .returned (.agg #[.int .i64 24, .int .i64 (-126), .int .i64 127, .int .i64 32, .int .i64 8, .bool false]) /\ Below w.heap.size w w' := by
 go_enter Tryz.func9, Tryz.ntmps9;go_wp2_with fail;exact bodyPost_ret (v := .agg #[.int .i64 24, .int .i64 (-126), .int .i64 127, .int .i64 32, .int .i64 8, .bool false]) (by simp [results, Tryz.results9, go_sem]) rfl ⟨rfl, (Below.refl _ _).alloc (Nat.le_refl _) _⟩

theorem DF (w : World) (h : Fmt w) : Calls Tryz.prog 19 #[.int .i64 1] w fun e w' => e = .returned (.agg #[.int .i64 53, .int .i64 (-1022), .int .i64 1023, .int .i64 64, .int .i64 11, .bool false]) /\ Below w.heap.size w w' := by
 have h1 := h.1;have c0 := h.2 6 (by omega);have c1 := h.2 7 (by omega);have c2 := h.2 8 (by omega);have c3 := h.2 9 (by omega);have c4 := h.2 10 (by omega);have c5 := h.2 11 (by omega)
 simp [fmtC] at c0 c1 c2 c3 c4 c5
 clear h;go_enter Tryz.func19, Tryz.ntmps19;go_wp2_with fail;exact bodyPost_ret (v := .agg #[.int .i64 53, .int .i64 (-1022), .int .i64 1023, .int .i64 64, .int .i64 11, .bool false]) (by simp [results, Tryz.results19, go_sem]) rfl ⟨rfl, (Below.refl _ _).alloc (Nat.le_refl _) _⟩

theorem yD (w : World) : Calls Tryz.prog 9 #[.int .i64 1] w fun e w' => e = .returned (.agg #[.int .i64 53, .int .i64 (-1022), .int .i64 1023, .int .i64 64, .int .i64 11, .bool false]) /\ Below w.heap.size w w' := by
 go_enter Tryz.func9, Tryz.ntmps9;go_wp2_with fail;exact bodyPost_ret (v := .agg #[.int .i64 53, .int .i64 (-1022), .int .i64 1023, .int .i64 64, .int .i64 11, .bool false]) (by simp [results, Tryz.results9, go_sem]) rfl ⟨rfl, (Below.refl _ _).alloc (Nat.le_refl _) _⟩

theorem A7 (w : World) (h : Fmt w) : Calls Tryz.prog 19 #[.int .i64 2] w fun e w' => e = .returned (.agg #[.int .i64 64, .int .i64 (-16382), .int .i64 16383, .int .i64 80, .int .i64 15, .bool true]) /\ Below w.heap.size w w' := by
 have h1 := h.1;have c0 := h.2 12 (by omega);have c1 := h.2 13 (by omega);have c2 := h.2 14 (by omega);have c3 := h.2 15 (by omega);have c4 := h.2 16 (by omega);have c5 := h.2 17 (by omega)
 simp [fmtC] at c0 c1 c2 c3 c4 c5
 clear h;go_enter Tryz.func19, Tryz.ntmps19;go_wp2_with fail;exact bodyPost_ret (v := .agg #[.int .i64 64, .int .i64 (-16382), .int .i64 16383, .int .i64 80, .int .i64 15, .bool true]) (by simp [results, Tryz.results19, go_sem]) rfl ⟨rfl, (Below.refl _ _).alloc (Nat.le_refl _) _⟩

theorem x8 (w : World) : Calls Tryz.prog 9 #[.int .i64 2] w fun e w' => e = .returned (.agg #[.int .i64 64, .int .i64 (-16382), .int .i64 16383, .int .i64 80, .int .i64 15, .bool true]) /\ Below w.heap.size w w' := by
 go_enter Tryz.func9, Tryz.ntmps9;go_wp2_with fail;exact bodyPost_ret (v := .agg #[.int .i64 64, .int .i64 (-16382), .int .i64 16383, .int .i64 80, .int .i64 15, .bool true]) (by simp [results, Tryz.results9, go_sem]) rfl ⟨rfl, (Below.refl _ _).alloc (Nat.le_refl _) _⟩

theorem AO (w : World) (h : Fmt w) : Calls Tryz.prog 19 #[.int .i64 3] w fun e w' => e = .returned (.agg #[.int .i64 113, .int .i64 (-16382), .int .i64 16383, .int .i64 128, .int .i64 15, .bool false]) /\ Below w.heap.size w w' := by
 have h1 := h.1;have c0 := h.2 18 (by omega);have c1 := h.2 19 (by omega);have c2 := h.2 20 (by omega);have c3 := h.2 21 (by omega);have c4 := h.2 22 (by omega);have c5 := h.2 23 (by omega)
 simp [fmtC] at c0 c1 c2 c3 c4 c5
 clear h;go_enter Tryz.func19, Tryz.ntmps19;go_wp2_with fail;exact bodyPost_ret (v := .agg #[.int .i64 113, .int .i64 (-16382), .int .i64 16383, .int .i64 128, .int .i64 15, .bool false]) (by simp [results, Tryz.results19, go_sem]) rfl ⟨rfl, (Below.refl _ _).alloc (Nat.le_refl _) _⟩

theorem yS (w : World) : Calls Tryz.prog 9 #[.int .i64 3] w fun e w' => e = .returned (.agg #[.int .i64 113, .int .i64 (-16382), .int .i64 16383, .int .i64 128, .int .i64 15, .bool false]) /\ Below w.heap.size w w' := by
 go_enter Tryz.func9, Tryz.ntmps9;go_wp2_with fail;exact bodyPost_ret (v := .agg #[.int .i64 113, .int .i64 (-16382), .int .i64 16383, .int .i64 128, .int .i64 15, .bool false]) (by simp [results, Tryz.results9, go_sem]) rfl ⟨rfl, (Below.refl _ _).alloc (Nat.le_refl _) _⟩

theorem xF (f : Int) (w : World) (h : f < 0 \/ 4 <= f) : Calls Tryz.prog 19 #[.int .i64 f] w fun e w' => e = .returned (.agg #[.int .i64 0, .int .i64 0, .int .i64 0, .int .i64 0, .int .i64 0, .bool false]) /\ Below w.heap.size w w' := by
 by_cases h1 : f < 0
 . go_enter Tryz.func19, Tryz.ntmps19;go_wp2_with fail;exact bodyPost_ret (v := .agg #[.int .i64 0, .int .i64 0, .int .i64 0, .int .i64 0, .int .i64 0, .bool false]) (by simp [results, Tryz.results19, go_sem]) rfl ⟨rfl, (Below.refl _ _).alloc (Nat.le_refl _) _⟩
 . have h2 : 4 <= f := by omega
   clear h;go_enter Tryz.func19, Tryz.ntmps19;go_wp2_with fail;exact bodyPost_ret (v := .agg #[.int .i64 0, .int .i64 0, .int .i64 0, .int .i64 0, .int .i64 0, .bool false]) (by simp [results, Tryz.results19, go_sem]) rfl ⟨rfl, (Below.refl _ _).alloc (Nat.le_refl _) _⟩

theorem iB (f : Int) (w : World) (h : f < 0 \/ 4 <= f) : Calls Tryz.prog 9 #[.int .i64 f] w fun e w' => e = .returned (.agg #[.int .i64 0, .int .i64 0, .int .i64 0, .int .i64 0, .int .i64 0, .bool false]) /\ Below w.heap.size w w' := by
 have h0 : (f == 0) = false := by simp; omega
 have h1 : (f == 1) = false := by simp; omega
 have h2 : (f == 2) = false := by simp; omega
 have h3 : (f == 3) = false := by simp; omega
 clear h;go_enter Tryz.func9, Tryz.ntmps9;go_wp2_with fail;exact bodyPost_ret (v := .agg #[.int .i64 0, .int .i64 0, .int .i64 0, .int .i64 0, .int .i64 0, .bool false]) (by simp [results, Tryz.results9, go_sem]) rfl ⟨rfl, (Below.refl _ _).alloc (Nat.le_refl _) _⟩

def dv (F : M.Fm) : Value := .agg #[.int .i64 (F.p : Int), .int .i64 (1 - (F.emax : Int)), .int .i64 (F.emax : Int), .int .i64 (F.wd : Int), .int .i64 (F.e : Int), .bool F.x]

theorem jG (f : Nat) (hf : f < 4) (w : World) (h : Fmt w) : Calls Tryz.prog 19 #[.int .i64 (f : Int)] w fun e w' => e = .returned (dv (M.fm f)) /\ Below w.heap.size w w' := by
 match f, hf with
 | 0, _ => exact CE w h
 | 1, _ => exact DF w h
 | 2, _ => exact A7 w h
 | 3, _ => exact AO w h

theorem bU (f : Nat) (hf : f < 4) (w : World) : Calls Tryz.prog 9 #[.int .i64 (f : Int)] w fun e w' => e = .returned (dv (M.fm f)) /\ Below w.heap.size w w' := by
 match f, hf with
 | 0, _ => exact wJ w
 | 1, _ => exact yD w
 | 2, _ => exact x8 w
 | 3, _ => exact yS w

theorem nH (ao : Option Addr) (n cap s : Nat) (xs : List Nat) (w : World) (hl : xs.length = n) (hn : n <= 2097152) (hs : s <= 2097152) (hr : Rd w ao xs) :
 Calls Tryz.prog 138 #[.slice ao n cap, .int .i64 (s : Int)] w fun e w' => e = .returned (.slice (some ⟨w.heap.size, 0, none⟩) (n + s) (n + s)) /\ Blk w' w.heap.size (xs ++ List.replicate s 0) /\ Below w.heap.size w w' := by
 obtain ⟨i0, hi, hz0, hz1, hz2⟩ := info_parts Tryz.infoU
 have hmk := fun (wx : World) => run_make (P := Tryz.prog) wx 87 25 i0 (.int .u64 0) Tryz.underlying87 hi hz0 .i64 .i64 ((n + s : Nat) : Int) ((n + s : Nat) : Int) (by omega) (Int.le_refl _) (by rw [hz2]; omega) (by omega)
 have es : ((n + s : Nat) : Int) = (n : Int) + (s : Int) := by omega
 rw [es] at hmk;have et : ((n : Int) + (s : Int)).toNat = n + s := by omega
 rw [et] at hmk;have hb1 : Below w.heap.size w (w.alloc (.cells (madeCells #[Value.int .u64 0] (n + s)) 25)) := (Below.refl _ _).alloc (Nat.le_refl _) _;have hbk := fC w (n + s);obtain ⟨w2, hcp, hg2, hgr2⟩ := mY 87 Tryz.underlying87 _ w.heap.size (n + s) (n + s) _ hbk ao xs n cap hl (hr.below hb1) (by omega) (by simp [U]);clear es et;go_enter Tryz.func138, Tryz.ntmps138
 go_wp2
 go_ret
 refine ⟨rfl, ?_, hb1.trans ((Below.refl _ _).grown hgr2 (by simp) (fun _ h => by cases h; exact Nat.le_refl _))⟩
 have e : U xs ++ (U (List.replicate (n + s) 0)).drop n = U (xs ++ List.replicate s 0) := by simp [U]
 rw [e] at hg2;exact hg2

end Go.Proofs.YtfdgkleoaehjaaaGreatDoor
namespace Go.Proofs.YtfdgkleoaehjaaaGreatDoor.M
set_option linter.unusedVariables false
set_option maxRecDepth 100000
theorem jV (B : Nat) (xs : List Nat) (off n : Nat) (h : off + n <= xs.length) :
 val B xs = val B (xs.take off) + B ^ off * (val B (seg xs off n) + B ^ n * val B (xs.drop (off + n))) := by
 have e1 : xs.take off ++ xs.drop off = xs := List.take_append_drop off xs
 have e2 : seg xs off n ++ xs.drop (off + n) = xs.drop off := by
  unfold seg; rw [<- List.drop_drop]; exact List.take_append_drop n _
 have l1 : (xs.take off).length = off := by simp; omega
 have l2 := dF xs off n h
 have h2 : val B (xs.drop off) = val B (seg xs off n) + B ^ n * val B (xs.drop (off + n)) := by
  rw [<- e2, eJ, l2]
 rw [<- h2];have h1 := eJ B (xs.take off) (xs.drop off);rw [e1, l1] at h1;exact h1

theorem yL (xs ys : List Nat) (k : Nat) (hl : xs.length = ys.length) (h : ∀ j, j < k -> xs.getD j 0 = ys.getD j 0) : xs.take k = ys.take k := by
 apply List.ext_getElem (by simp [hl])
 intro j h1 h2;have := h j (by simp at h1; omega)
 simp at h1 h2
 simpa [List.getD_eq_getElem?_getD, show j < xs.length by omega, show j < ys.length by omega] using this

theorem pD (xs ys : List Nat) (k : Nat) (hl : xs.length = ys.length) (h : ∀ j, k <= j -> xs.getD j 0 = ys.getD j 0) : xs.drop k = ys.drop k := by
 apply List.ext_getElem (by simp [hl])
 intro j h1 h2;have := h (k + j) (by omega)
 simp at h1 h2
 simpa [List.getD_eq_getElem?_getD, show k + j < xs.length by omega, show k + j < ys.length by omega] using this

theorem qO {B : Nat} {zs cur : List Nat} {off n : Nat} (h : Wrote B zs off n cur) (hl : off + n <= zs.length) :
 val B cur + B ^ off * val B (seg zs off n) = val B zs + B ^ off * val B (seg cur off n) := by
 rw [jV B cur off n (by rw [h.len]; exact hl), jV B zs off n hl, yL cur zs off h.len (fun j hj => h.out j (by omega)), pD cur zs (off + n) h.len (fun j hj => h.out j (by omega))]
 simp only [Nat.mul_add];omega

theorem tQ (x y f c p : Nat) (hp : p = y * f) (hx : x < 18446744073709551616) (hy : y < 18446744073709551616) (hf : f < 18446744073709551616) (hc : c < 18446744073709551616) :
 ∃ l2 r1 h2 o r2 c' : Nat, l2 = (p % 18446744073709551616 + c) % 18446744073709551616 /\ r1 = (if (l2 : Int) < (c : Int) then 1 else 0) /\ h2 = p / 18446744073709551616 + r1 /\ h2 < 18446744073709551616 /\
   o = (x + l2) % 18446744073709551616 /\ r2 = (if (o : Int) < (l2 : Int) then 1 else 0) /\ c' = h2 + r2 /\ c' < 18446744073709551616 /\ o < 18446744073709551616 /\ o + 18446744073709551616 * c' = x + p + c := by
 have hb : p <= 18446744073709551615 * 18446744073709551615 := by rw [hp]; exact Nat.mul_le_mul (by omega) (by omega)
 refine ⟨_, _, _, _, _, _, rfl, rfl, rfl, ?_, rfl, rfl, rfl, ?_, ?_, ?_⟩
 . split <;> omega
 . split <;> split <;> omega
 . omega
 . split <;> split <;> omega

theorem yX {V V' V0 T c c' P B x y o f : Nat} (h : V + c * P = V0 + f * T) (hv : V' + P * x = V + P * o) (hs : o + B * c' = x + y * f + c) : V' + c' * (P * B) = V0 + f * (T + P * y) := by
 have e : P * (o + B * c') = P * (x + y * f + c) := by rw [hs]
 simp only [Nat.mul_add] at e |-;rw [Nat.mul_comm c' (P * B), Nat.mul_assoc];rw [Nat.mul_comm c P] at h;have e2 : f * (P * y) = P * (y * f) := by rw [Nat.mul_comm f, Nat.mul_assoc]
 rw [e2];omega

theorem IB {V V1 V2 S S1 c Pk Bn a y T : Nat} (h : V = a * T) (h1 : V1 + Pk * S = V + Pk * S1) (hs : S1 + c * Bn = S + y * a) (h2 : V2 = V1 + Pk * Bn * c) : V2 = a * (T + Pk * y) := by
 have e : Pk * (S1 + c * Bn) = Pk * (S + y * a) := by rw [hs]
 simp only [Nat.mul_add] at e |-;have e1 : Pk * Bn * c = Pk * (c * Bn) := by rw [Nat.mul_assoc, Nat.mul_comm Bn c]
 have e2 : a * (Pk * y) = Pk * (y * a) := by rw [Nat.mul_left_comm, Nat.mul_comm a y]
 rw [e2, <- h];omega

theorem eP (p n : Nat) (hp : p <= n) : 2 ^ (n - p) * 2 ^ p = 2 ^ n := by rw [<- Nat.pow_add]; congr 1; omega

theorem qE {K P x cc : Nat} (hP : 0 < P) (hK : 0 < K) (hx : x < K * P) (hc : cc < P) :
 (cc + x % K * P) + K * P * (x / K) = x * P + cc /\ cc + x % K * P < K * P /\ x / K < P := by
 have h1 := Nat.mod_add_div x K;have h2 := Nat.mod_lt x hK;refine ⟨?_, ?_, ?_⟩
 . have e : x * P = (x % K + K * (x / K)) * P := by rw [h1]
   rw [e, Nat.add_mul, Nat.mul_right_comm K P (x / K)];omega
 . have : (x % K + 1) * P <= K * P := Nat.mul_le_mul_right _ h2;rw [Nat.add_mul] at this;omega
 . exact Nat.div_lt_of_lt_mul hx

theorem uX {V V' c c' Q Pk B P x o T : Nat} (h : V + c * (Q * Pk) = (Q * P) * T) (hv : V' = V + Q * Pk * o) (hs : o + B * c' = x * P + c) : V' + c' * (Q * Pk * B) = (Q * P) * (T + Pk * x) := by
 have e : Q * Pk * (o + B * c') = Q * Pk * (x * P + c) := by rw [hs]
 simp only [Nat.mul_add] at e;have e2 : (Q * P) * (Pk * x) = Q * Pk * (x * P) := by simp only [Nat.mul_comm, Nat.mul_left_comm]
 rw [Nat.mul_add, e2, Nat.mul_comm c' (Q * Pk * B), Nat.mul_assoc];rw [Nat.mul_comm c (Q * Pk)] at h;omega

theorem A4 {K P x T : Nat} (hP : 0 < P) (hK : 0 < K) : (x / P + T % P * K) + K * P * (T / P) = (x + K * P * T) / P /\ (x + K * P * T) % P = x % P := by
 have h1 := Nat.mod_add_div T P
 constructor
 . have e : x + K * P * T = x + P * (K * T) := by rw [Nat.mul_comm K P, Nat.mul_assoc]
   rw [e, Nat.add_mul_div_left _ _ hP];have e2 : K * T = K * (T % P + P * (T / P)) := by rw [h1]
   rw [e2, Nat.mul_add, Nat.mul_comm (T % P) K, Nat.mul_assoc];omega
 . rw [Nat.mul_comm K P, Nat.mul_assoc, Nat.add_mul_mod_self_left]

theorem LI {K P x T : Nat} (hP : 0 < P) (hx : x < K * P) : x / P + T % P * K < P * K := by
 have h1 : x / P < K := Nat.div_lt_of_lt_mul (by rw [Nat.mul_comm]; exact hx);have h2 := Nat.mod_lt T hP;have h3 : (T % P + 1) * K <= P * K := Nat.mul_le_mul_right _ h2;rw [Nat.add_mul] at h3;omega

end Go.Proofs.YtfdgkleoaehjaaaGreatDoor.M
namespace Go.Proofs.YtfdgkleoaehjaaaGreatDoor
open Go.RowKit
set_option linter.unusedVariables false
set_option maxRecDepth 100000
theorem eZ (p : Nat) : ((2 : Int) ^ p) = ((2 ^ p : Nat) : Int) := by simp

theorem cI (a b : Nat) (ha : a < 18446744073709551616) (hb : b < 18446744073709551616) : bits BinOp.or IntKind.u64 (a : Int) (b : Int) = ((b ||| a : Nat) : Int) := by
 rw [u64_or_nat a b ha hb, Nat.or_comm]

theorem GB (x p cc : Nat) (hp : p < 64) (hx : x < 18446744073709551616) (hc : cc < 2 ^ p) :
 bits BinOp.or IntKind.u64 (IntKind.u64.wrap ((x : Int) * 2 ^ p)) (cc : Int) = ((cc + x % 2 ^ (64 - p) * 2 ^ p : Nat) : Int) := by
 have hKP : 2 ^ (64 - p) * 2 ^ p = 18446744073709551616 := M.eP p 64 (by omega);have hb := (M.qE (K := 2 ^ (64 - p)) (P := 2 ^ p) (x := x) (cc := cc) (Nat.pow_pos (by omega)) (Nat.pow_pos (by omega)) (by omega) hc).2.1
 have e1 : IntKind.u64.wrap ((x : Int) * 2 ^ p) = ((x % 2 ^ (64 - p) * 2 ^ p : Nat) : Int) := by
  rw [eZ, <- Int.natCast_mul, fW, <- hKP, Nat.mul_mod_mul_right]
 rw [e1, cI _ _ (by omega) (by omega), i8 cc _ p hc]

theorem cN (x k : Nat) : (x : Int) / 2 ^ k = ((x / 2 ^ k : Nat) : Int) := by
 rw [eZ]; exact (Int.natCast_ediv x (2 ^ k)).symm

theorem cM (ao : Option Addr) (n c s : Nat) (a : Nat) (w : World) (hl : (L a).length = n) (hn : n <= 1048576) (hs : s <= 100000) (hr : Rd w ao (L a)) :
 Calls Tryz.prog 116 #[.slice ao n c, .int .i64 (s : Int)] w fun e w' => Ret w w' e (L (a * 2 ^ s)) := by
 obtain ⟨i0, hi, hz0, hz1, hz2⟩ := info_parts Tryz.infoU;obtain ⟨q, hq⟩ : ∃ q : Nat, q = s / 64 := ⟨_, rfl⟩;obtain ⟨p, hp⟩ : ∃ p : Nat, p = s % 64 := ⟨_, rfl⟩;have hqI : (s : Int) / 64 = (q : Int) := by omega
 have hpI : (s : Int) % 64 = (p : Int) := by omega
 have hpb : p < 64 := by omega
 have hqb : q <= 100000 := by omega
 have HQ := hid hq; clear hq;have HP := hid hp; clear hp
 have hmk := fun (wx : World) => run_make (P := Tryz.prog) wx 87 25 i0 (.int .u64 0) Tryz.underlying87 hi hz0 .i64 .i64 ((q + n + 1 : Nat) : Int) ((q + n + 1 : Nat) : Int) (by omega) (Int.le_refl _) (by rw [hz2]; omega) (by omega)
 have es : ((q + n + 1 : Nat) : Int) = (q : Int) + (n : Int) + 1 := by omega
 rw [es] at hmk;have et : ((q : Int) + (n : Int) + 1).toNat = q + n + 1 := by omega
 rw [et] at hmk;clear es et;have fa := jO a;go_enter Tryz.func116, Tryz.ntmps116;go_wp2_with fail
 go_loopw [8, 23] (fun cy i wr => ∃ (k : Nat) (cur : List Nat) (cc : Nat), k <= n /\ i = .int .i64 k /\ cy = .int .u64 cc /\ cc < 2 ^ p /\ Blk wr w.heap.size cur /\ cur.length = q + n + 1 /\ F64 cur /\ (∀ j, q + k <= j -> cur.getD j 0 = 0) /\ V cur + cc * 18446744073709551616 ^ (q + k) = (18446744073709551616 ^ q * 2 ^ p) * V ((L a).take k) /\ Below w.heap.size w wr) (fun _ i _ => n - (intOf i).toNat)
 case atStart =>
  refine ⟨0, List.replicate (q + n + 1) 0, 0, by omega, rfl, rfl, Nat.pow_pos (by omega), fC w (q + n + 1), by simp, fun x hx => by simp at hx; omega, fun j _ => ?_, ?_, (Below.refl _ _).alloc (Nat.le_refl _) _⟩
  . rw [List.getD_eq_getElem?_getD, List.getElem?_replicate]; split <;> rfl
  . unfold V; rw [M.dM]; simp [M.val]
 case round =>
  obtain ⟨k, cur, cc, hk, rfl, rfl, hcc, hBk, hcl, hcf, hz, hv, hbl⟩ := hrel;clear hmk;have HZ := hid hz; clear hz;have HV := hid hv; clear hv;have HCL := hid hcl; clear hcl
  by_cases hlt : k < n
  . obtain ⟨b2, o2, hbo, hc2⟩ := (hr.below hbl) (by omega);have hck := hc2 k (by omega);clear hc2;have hx1 := fa.get k;obtain ⟨x, hxx⟩ : ∃ x : Nat, x = (L a).getD k 0 := ⟨_, rfl⟩;rw [<- hxx] at hck hx1;have HX := hid hxx; clear hxx;have hlt' : (k : Int) < (n : Int) := by omega
    have hltq : (q : Int) + (k : Int) < ((q + n + 1 : Nat) : Int) := by omega
    have hcs := hBk.cell (q + k) (by have := HCL.out; omega);rw [HZ.out (q + k) (by omega)] at hcs;have hfs := hBk.frozen (q + k);have hKP : 2 ^ (64 - p) * 2 ^ p = 18446744073709551616 := M.eP p 64 (by omega);have hpl := M.qE (K := 2 ^ (64 - p)) (P := 2 ^ p) (x := x) (cc := cc) (Nat.pow_pos (by omega)) (Nat.pow_pos (by omega)) (by omega) hcc;rw [hKP] at hpl;have hwo := GB x p cc hpb hx1 hcc;have hwc := cN x (64 - p);obtain ⟨o, eo⟩ : ∃ o : Nat, o = cc + x % 2 ^ (64 - p) * 2 ^ p := ⟨_, rfl⟩;obtain ⟨c', ec'⟩ : ∃ c' : Nat, c' = x / 2 ^ (64 - p) := ⟨_, rfl⟩;rw [<- eo] at hwo hpl;rw [<- ec'] at hpl hwc;have HPL := hid hpl; clear hpl hKP eo ec';clear hcc;have HB := hid hBk; clear hBk;go_wp2_with fail;go_roundw
    case rel =>
     have R : ∃ (k1 : Nat) (cur1 : List Nat) (cc1 : Nat), k1 <= n /\ Value.int .i64 ((k : Int) + 1) = .int .i64 k1 /\ Value.int .u64 (c' : Int) = .int .u64 cc1 /\ cc1 < 2 ^ p /\ Blk (wr.setCell ⟨w.heap.size, q + k, none⟩ (.int .u64 (o : Int))) w.heap.size cur1 /\ cur1.length = q + n + 1 /\ F64 cur1 /\ (∀ j, q + k1 <= j -> cur1.getD j 0 = 0) /\ V cur1 + cc1 * 18446744073709551616 ^ (q + k1) = (18446744073709551616 ^ q * 2 ^ p) * V ((L a).take k1) /\ Below w.heap.size w (wr.setCell ⟨w.heap.size, q + k, none⟩ (.int .u64 (o : Int))) := by
      refine ⟨k + 1, cur.set (q + k) o, c', by omega, by go_num, rfl, HPL.out.2.2, HB.out.set _ _ _ rfl, by rw [List.length_set]; exact HCL.out, ?_, ?_, ?_, hbl.setCell (Nat.le_refl _) _⟩
      . intro v hv;rcases List.mem_or_eq_of_mem_set hv with hv | rfl
        . exact hcf v hv
        . exact HPL.out.2.1
      . intro j hj;rw [M.cH _ _ _ _ (by omega)]; exact HZ.out j (by omega)
      . have e2 := M.iU 18446744073709551616 (q + k) cur o (by have := HCL.out; omega);rw [HZ.out (q + k) (by omega), Nat.mul_zero, Nat.add_zero] at e2;have e3 := HV.out;unfold V at *;rw [M.aK, <- HX.out, show q + (k + 1) = q + k + 1 by omega, Nat.pow_succ];rw [Nat.pow_add] at e2 e3 |-;exact M.uX e3 e2 HPL.out.1
     first | exact R | ((repeat apply Exists.intro); exact ⟨R, rfl⟩) | ((repeat apply Exists.intro); exact ⟨R, by rw [hbo]⟩)
    case measure => simp [intOf]; omega
  . have e : k = n := by omega
    subst e;have hcs := hBk.cell (q + k) (by have := HCL.out; omega);rw [HZ.out (q + k) (by omega)] at hcs;have hfs := hBk.frozen (q + k);have hlt' : ¬ (k : Int) < (k : Int) := by omega
    have hltq : (q : Int) + (k : Int) < ((q + k + 1 : Nat) : Int) := by omega
    have hpp : 2 ^ p <= 2 ^ 64 := Nat.pow_le_pow_right (by omega) (by omega);have hccb : cc < 18446744073709551616 := by omega
    clear hpp;have HB := hid hBk; clear hBk;have HCB := hid hccb; clear hccb hcc;go_wp2_with fail;have hB2 : Blk (wr.setCell ⟨w.heap.size, q + k, none⟩ (.int .u64 (cc : Int))) w.heap.size (cur.set (q + k) cc) := HB.out.set _ _ _ rfl;have hb2 : Below w.heap.size w (wr.setCell ⟨w.heap.size, q + k, none⟩ (.int .u64 (cc : Int))) := hbl.setCell (Nat.le_refl _) _
    have hf2 : F64 (cur.set (q + k) cc) := by
     intro v hv;rcases List.mem_or_eq_of_mem_set hv with hv | rfl
     . exact hcf v hv
     . exact HCB.out
    have hfin : V (cur.set (q + k) cc) = a * 2 ^ s := by
     have e2 := M.iU 18446744073709551616 (q + k) cur cc (by have := HCL.out; omega);rw [HZ.out (q + k) (by omega), Nat.mul_zero, Nat.add_zero] at e2;have e3 := HV.out;rw [List.take_of_length_le (by omega), V_L] at e3;unfold V at *;rw [e2, Nat.mul_comm (18446744073709551616 ^ (q + k)) cc, e3, show (18446744073709551616 : Nat) = 2 ^ 64 from rfl, <- Nat.pow_mul, <- Nat.pow_add, Nat.mul_comm]
     congr 2
     have := HQ.out; have := HP.out; omega
    generalize wr.setCell ⟨w.heap.size, q + k, none⟩ (.int .u64 (cc : Int)) = w2 at hB2 hb2 |-;refine (fP _ (q + k + 1) (q + k + 1) _ _ (by rw [List.length_set]; exact HCL.out) (Nat.le_refl _) (by omega) hf2 hB2.rd0).mono ?_;rw [hfin];rintro e w3 ⟨rfl, rfl⟩;go_wp2_with fail;go_ret;have h1 := qP _ hf2;have h2 := pB _ hf2;rw [hfin] at h1 h2;have h3 := hB2.ownPre (base := w.heap.size) (c := q + k + 1) (Nat.le_refl _) h1 (by rw [List.length_set]; exact HCL.out) (by unfold maxLen; omega);rw [h2] at h3;exact ⟨_, _, rfl, h3, hb2⟩

theorem DM (x p t : Nat) (hp : p < 64) (hx : x < 18446744073709551616) (ht : t < 2 ^ p) :
 bits BinOp.or IntKind.u64 ((x : Int) / 2 ^ p) ((t * 2 ^ (64 - p) : Nat) : Int) = ((x / 2 ^ p + t * 2 ^ (64 - p) : Nat) : Int) := by
 have hKP : 2 ^ (64 - p) * 2 ^ p = 18446744073709551616 := M.eP p 64 (by omega);have h1 : x / 2 ^ p < 2 ^ (64 - p) := Nat.div_lt_of_lt_mul (by rw [Nat.mul_comm]; omega)
 have h2 : t * 2 ^ (64 - p) < 18446744073709551616 := by
  have : t * 2 ^ (64 - p) < 2 ^ p * 2 ^ (64 - p) := Nat.mul_lt_mul_of_pos_right ht (Nat.pow_pos (by omega));rw [Nat.mul_comm (2 ^ p)] at this;omega
 have h3 : x / 2 ^ p <= x := Nat.div_le_self _ _;rw [cN, u64_or_nat _ _ (by omega) h2, i8 _ _ _ h1]

theorem DD (x p : Nat) (hp : p < 64) : IntKind.u64.wrap ((x : Int) * 2 ^ (64 - p)) = ((x % 2 ^ p * 2 ^ (64 - p) : Nat) : Int) := by
 have hKP : 2 ^ p * 2 ^ (64 - p) = 18446744073709551616 := by rw [Nat.mul_comm]; exact M.eP p 64 (by omega)
 rw [eZ, <- Int.natCast_mul, fW, <- hKP, Nat.mul_mod_mul_right]

theorem pH (xs : List Nat) (k : Nat) (h : k < xs.length) : V (xs.drop k) = xs.getD k 0 + 18446744073709551616 * V (xs.drop (k + 1)) := by
 rw [List.drop_eq_getElem_cons h];unfold V;rw [M.val, List.getD_eq_getElem?_getD, List.getElem?_eq_getElem h]
 rfl

theorem oU (ao : Option Addr) (n c s : Nat) (a : Nat) (w : World) (hl : (L a).length = n) (hc : n <= c) (hn : n <= 1048576) (hs : s <= 100000) (hr : Rd w ao (L a)) :
 Calls Tryz.prog 169 #[.slice ao n c, .int .i64 (s : Int)] w fun e w' => Ret w w' e (L (a / 2 ^ s)) := by
 obtain ⟨q, hq⟩ : ∃ q : Nat, q = s / 64 := ⟨_, rfl⟩;obtain ⟨p, hp⟩ : ∃ p : Nat, p = s % 64 := ⟨_, rfl⟩;have hqI : (s : Int) / 64 = (q : Int) := by omega
 have hpI : (s : Int) % 64 = (p : Int) := by omega
 have hpb : p < 64 := by omega
 have hqb : q <= 100000 := by omega
 have HQ := hid hq; clear hq;have HP := hid hp; clear hp;have fa := jO a
 have hsq : 2 ^ s = 18446744073709551616 ^ q * 2 ^ p := by
  rw [show (18446744073709551616 : Nat) = 2 ^ 64 from rfl, <- Nat.pow_mul, <- Nat.pow_add]
  congr 1
  have := HQ.out; have := HP.out; omega
 have HSQ := hid hsq; clear hsq
 by_cases hqn : n <= q
 . have hz : a / 2 ^ s = 0 := by
    apply Nat.div_eq_of_lt
    have h1 := tD a q (by omega);rw [HSQ.out];exact Nat.lt_of_lt_of_le h1 (Nat.le_mul_of_pos_right _ (Nat.pow_pos (by omega)))
   rw [hz, show L 0 = [] from M.aG _];clear hz;go_enter Tryz.func169, Tryz.ntmps169;go_wp2_with fail;go_ret;exact Ret.nil (Below.refl _ _)
 . have hqn' : ¬ (n : Int) <= (q : Int) := by omega
   obtain ⟨b0, o0, hao, hcl⟩ := hr (by omega)
   have hrd : Rd w (some ⟨b0, o0 + q, none⟩) ((L a).drop q) := by
    intro hp
    refine ⟨b0, o0 + q, rfl, fun i hi => ?_⟩
    have := hcl (q + i) (by simp at hi; omega);rw [Nat.add_assoc, this]
    simp [List.getD_eq_getElem?_getD]
   have hdl : ((L a).drop q).length = n - q := by simp [hl]
   have hne : ¬ c = q := by omega
   have fd : F64 ((L a).drop q) := fun x hx => fa x (List.mem_of_mem_drop hx)
   have hvd : V ((L a).drop q) = a / 18446744073709551616 ^ q := by
    have h1 := M.eJ 18446744073709551616 ((L a).take q) ((L a).drop q);rw [List.take_append_drop] at h1;have h2 : ((L a).take q).length = q := by simp; omega
    have h3 := M.fU (B := 18446744073709551616) (by omega) ((L a).take q) (fun x hx => fa x (List.mem_of_mem_take hx))
    rw [h2] at h1 h3
    have h4 : a = M.val 18446744073709551616 ((L a).take q) + 18446744073709551616 ^ q * V ((L a).drop q) := by
     conv => lhs; rw [<- V_L a]
     exact h1
    conv => rhs; rw [h4]
    rw [Nat.add_mul_div_left _ _ (Nat.pow_pos (by omega)), Nat.div_eq_of_lt h3, Nat.zero_add]
   obtain ⟨xs, hxs⟩ : ∃ xs, xs = (L a).drop q := ⟨_, rfl⟩;rw [<- hxs] at hrd hdl fd hvd;clear hxs hcl;obtain ⟨m, hm⟩ : ∃ m, m = n - q := ⟨_, rfl⟩;have hmI : n - q = m := hm.symm;rw [hmI] at hdl;have hmb : m <= 1048576 := by omega
   have HVD := hid hvd; clear hvd;have HDL := hid hdl; clear hdl;clear hm;go_enter Tryz.func169, Tryz.ntmps169;go_wp2_with fail;refine (nH _ m (c - q) 0 xs _ HDL.out (by omega) (by omega) hrd).mono ?_;rw [List.replicate_zero, List.append_nil];rintro e w1 ⟨rfl, hB1, hb1⟩;have HB1 := hid hB1; clear hB1;have Hb1 := hid hb1; clear hb1;go_wp2_with fail
   go_loopw [8, 9] (fun cy i wr => ∃ (k : Nat) (cur : List Nat), k <= m /\ i = .int .i64 ((k : Int) - 1) /\ cy = .int .u64 ((V (xs.drop k) % 2 ^ p * 2 ^ (64 - p) : Nat) : Int) /\ Blk wr w.heap.size cur /\ cur.length = m /\ F64 cur /\ (∀ j, j < k -> cur.getD j 0 = xs.getD j 0) /\ V (cur.drop k) = V (xs.drop k) / 2 ^ p /\ Below w.heap.size w wr) (fun _ i _ => (intOf i + 1).toNat)
   case atStart =>
    refine ⟨m, xs, by omega, by go_num, ?_, HB1.out, HDL.out, fd, fun _ _ => rfl, ?_, Hb1.out⟩
    . rw [List.drop_of_length_le (by have := HDL.out; omega)]; simp [V, M.val]
    . rw [List.drop_of_length_le (by have := HDL.out; omega)]; simp [V, M.val]
   case round =>
    obtain ⟨k, cur, hk, rfl, rfl, hBk, hcl, hcf, hz, hv, hbl⟩ := hrel;have HZ := hid hz; clear hz;have HV := hid hv; clear hv;have HCL := hid hcl; clear hcl
    by_cases hlt : 0 < k
    . obtain ⟨k, rfl⟩ : ∃ k', k = k' + 1 := ⟨k - 1, by omega⟩;have e1 : (((k + 1 : Nat) : Int) - 1) = (k : Int) := by omega
      rw [e1];have hcs := hBk.cell k (by have := HCL.out; omega);have hfs := hBk.frozen k;rw [HZ.out k (by omega)] at hcs;have hx1 : xs.getD k 0 < 18446744073709551616 := F64.get fd k;obtain ⟨x, hxx⟩ : ∃ x : Nat, x = xs.getD k 0 := ⟨_, rfl⟩;rw [<- hxx] at hcs hx1;have HX := hid hxx; clear hxx;obtain ⟨T, hT⟩ : ∃ T : Nat, T = V (xs.drop (k + 1)) := ⟨_, rfl⟩;rw [<- hT];have hKP : 2 ^ (64 - p) * 2 ^ p = 18446744073709551616 := M.eP p 64 (by omega);have hwo := DM x p (T % 2 ^ p) hpb hx1 (Nat.mod_lt _ (Nat.pow_pos (by omega)));have hwc := DD x p hpb;have hpl := M.A4 (K := 2 ^ (64 - p)) (P := 2 ^ p) (x := x) (T := T) (Nat.pow_pos (by omega)) (Nat.pow_pos (by omega));have hob := M.LI (K := 2 ^ (64 - p)) (P := 2 ^ p) (x := x) (T := T) (Nat.pow_pos (by omega)) (by omega);rw [Nat.mul_comm (2 ^ p) (2 ^ (64 - p)), hKP] at hob;rw [hKP] at hpl;obtain ⟨o, eo⟩ : ∃ o : Nat, o = x / 2 ^ p + T % 2 ^ p * 2 ^ (64 - p) := ⟨_, rfl⟩;rw [<- eo] at hwo hpl hob;obtain ⟨ci, eci⟩ : ∃ ci : Nat, ci = T % 2 ^ p * 2 ^ (64 - p) := ⟨_, rfl⟩;rw [<- eci] at hwo |-;obtain ⟨c', ec'⟩ : ∃ c' : Nat, c' = x % 2 ^ p * 2 ^ (64 - p) := ⟨_, rfl⟩;rw [<- ec'] at hwc;have HPL := hid hpl; have HOB := hid hob; have HT := hid hT; have HC' := hid ec';clear hpl hob hKP eo eci ec' hT;have HB := hid hBk; clear hBk;have hltk : (k : Int) < (m : Int) := by omega
      go_wp2_with fail;go_roundw
      case rel =>
       have R : ∃ (k1 : Nat) (cur1 : List Nat), k1 <= m /\ Value.int .i64 ((k : Int) - 1) = .int .i64 ((k1 : Int) - 1) /\ Value.int .u64 (c' : Int) = .int .u64 ((V (xs.drop k1) % 2 ^ p * 2 ^ (64 - p) : Nat) : Int) /\ Blk (wr.setCell ⟨w.heap.size, k, none⟩ (.int .u64 (o : Int))) w.heap.size cur1 /\ cur1.length = m /\ F64 cur1 /\ (∀ j, j < k1 -> cur1.getD j 0 = xs.getD j 0) /\ V (cur1.drop k1) = V (xs.drop k1) / 2 ^ p /\ Below w.heap.size w (wr.setCell ⟨w.heap.size, k, none⟩ (.int .u64 (o : Int))) := by
        have hd := pH xs k (by have := HDL.out; omega);rw [<- HX.out, <- HT.out] at hd;refine ⟨k, cur.set k o, by omega, rfl, ?_, HB.out.set _ _ _ rfl, by rw [List.length_set]; exact HCL.out, ?_, ?_, ?_, hbl.setCell (Nat.le_refl _) _⟩
        . rw [hd, HPL.out.2, HC'.out]
        . intro v hv;rcases List.mem_or_eq_of_mem_set hv with hv | rfl
          . exact hcf v hv
          . exact HOB.out
        . intro j hj;rw [M.cH _ _ _ _ (by omega)]; exact HZ.out j (by omega)
        . rw [pH _ k (by rw [List.length_set]; have := HCL.out; omega), M.cJ _ _ _ (by have := HCL.out; omega), List.drop_set_of_lt (by omega), HV.out, hd, <- HT.out];exact HPL.out.1
       first | exact R | ((repeat apply Exists.intro); exact ⟨R, rfl⟩) | ((repeat apply Exists.intro); exact ⟨R, by rw [hao]⟩)
      case measure => simp [intOf]
    . have : k = 0 := by omega
      subst this
      have hfin : V cur = a / 2 ^ s := by
       have := HV.out;rw [List.drop_zero, List.drop_zero, HVD.out, Nat.div_div_eq_div_mul, <- HSQ.out] at this;exact this
      go_wp2_with fail;refine (fP _ m m cur _ HCL.out (Nat.le_refl _) (by omega) hcf hBk.rd0).mono ?_;rw [hfin];rintro e w3 ⟨rfl, rfl⟩;go_wp2_with fail;go_ret;have h1 := qP cur hcf;have h2 := pB cur hcf;rw [hfin] at h1 h2;have h3 := hBk.ownPre (base := w.heap.size) (c := m) (Nat.le_refl _) h1 HCL.out (by unfold maxLen; omega);rw [h2] at h3;exact ⟨_, _, rfl, h3, hbl⟩

end Go.Proofs.YtfdgkleoaehjaaaGreatDoor
