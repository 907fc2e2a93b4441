import Derived.Test.YtcilemkeljcidaaDoorFd1
namespace Go.Proofs.YtcilemkeljcidaaDoor
open Go.RowKit
set_option linter.unusedVariables false
set_option maxRecDepth 100000

set_option maxHeartbeats 400000 in
theorem eqDesc_same (a b c d e : Int) (x : Bool) (w : World) :
    Calls Tryd.prog 10 #[.agg #[.int .i64 a, .int .i64 b, .int .i64 c, .int .i64 d, .int .i64 e, .bool x], .agg #[.int .i64 a, .int .i64 b, .int .i64 c, .int .i64 d, .int .i64 e, .bool x]] w fun r w' => r = .returned (.bool true) ∧ Below w.heap.size w w' := by
  go_enter Tryd.func10, Tryd.ntmps10
  go_wp2_with fail
  go_ret
  exact ⟨rfl, ((Below.refl _ _).alloc (Nat.le_refl _) _).alloc (by simp) _⟩

set_option maxHeartbeats 400000 in
theorem lawDescribe (a0 : Int) (w : World) (w0 : (Lit.int .i64 a0).wf = true) (h : Fmt w) :
    Calls Tryd.prog 3 #[.int .i64 a0] w fun e w' => e = .returned (.bool true) ∧ Below w.heap.size w w' := by
  have key : ∀ (p q r s t : Int) (x : Bool), (∀ v : World, Calls Tryd.prog 8 #[.int .i64 a0] v fun e w' => e = .returned (.agg #[.int .i64 p, .int .i64 q, .int .i64 r, .int .i64 s, .int .i64 t, .bool x]) ∧ Below v.heap.size v w') →
      (∀ v : World, Fmt v → Calls Tryd.prog 9 #[.int .i64 a0] v fun e w' => e = .returned (.agg #[.int .i64 p, .int .i64 q, .int .i64 r, .int .i64 s, .int .i64 t, .bool x]) ∧ Below v.heap.size v w') →
      Calls Tryd.prog 3 #[.int .i64 a0] w fun e w' => e = .returned (.bool true) ∧ Below w.heap.size w w' := by
    intro p q r s t x hS hI
    go_enter Tryd.func3, Tryd.ntmps3
    go_wp2_with fail
    refine (hS _).mono ?_
    rintro e v1 ⟨rfl, b1⟩
    go_wp2_with fail
    have b2 := b1.alloc b1.size (.cells #[.int .i64 p, .int .i64 q, .int .i64 r, .int .i64 s, .int .i64 t, .bool x] 23)
    refine (hI _ (h.below b2)).mono ?_
    rintro e v2 ⟨rfl, b3⟩
    have b4 := b2.trans (b3.mono b2.size)
    have b5 := b4.alloc b4.size (.cells #[.int .i64 p, .int .i64 q, .int .i64 r, .int .i64 s, .int .i64 t, .bool x] 23)
    obtain ⟨hc, hf⟩ := bcell b3
    have hz : v1.heap.size < v2.heap.size := by have := b3.size; simp at this; omega
    clear b1 b2 b3 b4 hf hS hI h
    go_wp2_with fail
    refine (eqDesc_same p q r s t x _).mono ?_
    rintro e v3 ⟨rfl, b6⟩
    go_wp2_with fail
    go_ret
    exact ⟨rfl, b5.trans (b6.mono b5.size)⟩
  rcases (by omega : a0 = 0 ∨ a0 = 1 ∨ a0 = 2 ∨ a0 = 3 ∨ a0 < 0 ∨ 4 ≤ a0) with rfl | rfl | rfl | rfl | hn
  · exact key _ _ _ _ _ _ (fun v => sdescribe0 v) (fun v hv => describe0 v hv)
  · exact key _ _ _ _ _ _ (fun v => sdescribe1 v) (fun v hv => describe1 v hv)
  · exact key _ _ _ _ _ _ (fun v => sdescribe2 v) (fun v hv => describe2 v hv)
  · exact key _ _ _ _ _ _ (fun v => sdescribe3 v) (fun v hv => describe3 v hv)
  · exact key _ _ _ _ _ _ (fun v => sdescribeNo a0 v hn) (fun v hv => describeNo a0 v hn)

end Go.Proofs.YtcilemkeljcidaaDoor
