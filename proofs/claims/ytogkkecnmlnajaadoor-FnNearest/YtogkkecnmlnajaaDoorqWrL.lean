import Derived.Test.YtogkkecnmlnajaaDoorqWrLa
import Derived.Test.YtogkkecnmlnajaaDoorqWrLb
namespace Go.Proofs.YtogkkecnmlnajaaDoor
open Go.RowKit
set_option linter.unusedVariables false
set_option maxRecDepth 100000
theorem word_at (P P1 Wd A1 : Nat) (f f' e1 e2 e4 qm Em : Int) (x5 : Bool) (ans : M.Pt → Nat) (ok : M.Pt → Bool) (hans : ∀ t, ans t < 2 ^ 128) {w0 v : World} {ao : Option Addr} {n c i : Nat} {bs : List Nat} (hl : bs.length = n) (hn : n ≤ 1048576) (hb : RdB w0 ao bs) (h : Rp w0 v ao n c i)
 (hP1 : P = P1 + 1) (hPa : 23 ≤ P1) (hPb : P1 ≤ 112) (hA1 : A1 + P = 129) (hWd : Wd ≤ 128) (hqm : qm = e1 - P + 1) (hEm : Em = e2 - e1 + 1) (he1 : -17000 ≤ e1) (he1' : e1 ≤ 0) (he2 : 0 ≤ e2) (he2' : e2 ≤ 17000)
 (g0 g1 g2 g3 g4 : Int) (g5 : Bool) (kE : ∀ u : World, Calls Tryd.prog 25 #[.int .i64 f] u fun e u' => e = .returned (.agg #[.int .i64 g0, .int .i64 g1, .int .i64 g2, .int .i64 g3, .int .i64 g4, .bool g5]) ∧ Below u.heap.size u u')
 (hg : (g0 = (P : Int) ∧ g1 = e1 ∧ g2 = e2 ∧ g3 = (Wd : Int) ∧ g4 = e4 ∧ g5 = x5 ∧ f' = f) ∨ (g0 = 0 ∧ (∀ u : World, Calls Tryd.prog 25 #[.int .i64 1] u fun e u' => e = .returned (.agg #[.int .i64 (P : Int), .int .i64 e1, .int .i64 e2, .int .i64 (Wd : Int), .int .i64 e4, .bool x5]) ∧ Below u.heap.size u u') ∧ f' = 1))
 (kP : ∀ (cl : Int) (ng : Bool) (s : Nat) (q : Int) (u : World), s < 2 ^ 128 → -1000000 ≤ q → q ≤ 1000000 → Calls Tryd.prog 28 #[.int .i64 f', .agg #[.int .i64 cl, .bool ng, .int .u64 (M.hiN s : Int), .int .u64 (M.loN s : Int), .int .i64 q]] u fun e u' => e = .returned (.tuple #[.agg #[.int .u64 (M.hiN (ans ⟨cl, ng, s, q⟩) : Int), .int .u64 (M.loN (ans ⟨cl, ng, s, q⟩) : Int)], .bool (ok ⟨cl, ng, s, q⟩)]) ∧ Below u.heap.size u u') :
 Calls Tryd.prog 16 #[.pointer (some ⟨w0.heap.size, 0, none⟩), .int .i64 f] v fun e v' => ∃ X j : Nat, Hid ((X, j) = wdF P Wd e1 e2 qm ans ok bs i) ∧ X < 2 ^ 128 ∧ e = .returned (.agg #[.int .u64 (M.hiN X : Int), .int .u64 (M.loN X : Int)]) ∧ Rp w0 v' ao n c j := by
 by_cases hcs : rdB bs i % 12 < 6
 · exact word_a P P1 Wd A1 f f' e1 e2 e4 qm Em x5 ans ok hans hl hn hb h hcs hP1 hPa hPb hA1 hWd hqm hEm he1 he1' he2 he2' g0 g1 g2 g3 g4 g5 kE hg kP
 · exact word_b P P1 Wd A1 f f' e1 e2 e4 qm Em x5 ans ok hans hl hn hb h (by omega) hP1 hPa hPb hA1 hWd hqm hEm he1 he1' he2 he2' g0 g1 g2 g3 g4 g5 kE hg kP

end Go.Proofs.YtogkkecnmlnajaaDoor
