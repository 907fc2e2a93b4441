import Derived.Deep.RegionHeld3
import Derived.Test.YtdpbhbpcpnlbkaaaCa3
set_option maxHeartbeats 2000000
namespace Go.Proofs.Ytdpbhbpcpnlbkaa
open Go.RowKit Go.Maps
set_option linter.unusedVariables false
set_option maxRecDepth 100000
theorem search_key (cb hb N S j0 h0 : Nat) (nk k m : Int) (w : World) (tn : Nat → Prop) (PN : World → Prop) (hPN : ∀ v v', PN v → Below v.heap.size v v' → PN v') (htn : ∀ g, tn g → g < w.heap.size) (lc : cb < w.heap.size) (hj : j0 < N)
 (c5 : w.cell? ⟨cb, 5, none⟩ = some (.int .i64 N)) (c6 : w.cell? ⟨cb, 6, none⟩ = some (.int .i64 S)) (c9 : w.cell? ⟨cb, 9, none⟩ = some (.slice (some ⟨hb, 0, none⟩) N N))
 (kS : ∀ v : World, Calls Try.prog 39 #[.agg #[.int .i64 N, .int .i64 S], .agg #[.int .i64 k, .int .i64 m]] v fun e v' => e = .returned (.int .i64 (j0 : Int)) ∧ Below v.heap.size v v')
 (kH : ∀ v : World, Calls Try.prog 90 #[.agg #[.int .i64 N, .int .i64 S], .agg #[.int .i64 k, .int .i64 m]] v fun e v' => e = .returned (.int .i64 (h0 : Int)) ∧ Below v.heap.size v v')
 (kN : ∀ v : World, Below w.heap.size w v → Calls Try.prog 89 #[.pointer (some ⟨cb, 7, none⟩), .agg #[.int .i64 k, .int .i64 m]] v fun e v' => e = .returned (.int .i64 nk) ∧ Tn (fun g => g = cb ∨ tn g) v v' ∧ PN v' ∧ v'.cell? ⟨cb, 5, none⟩ = some (.int .i64 N) ∧ v'.cell? ⟨cb, 6, none⟩ = some (.int .i64 S) ∧ v'.cell? ⟨cb, 9, none⟩ = some (.slice (some ⟨hb, 0, none⟩) N N)) :
 Calls Try.prog 88 #[.pointer (some ⟨cb, 0, none⟩), .agg #[.int .i64 k, .int .i64 m]] w fun e w' => ∃ q, e = .returned (.pointer (some ⟨q, 0, none⟩)) ∧ w.heap.size ≤ q ∧ Cls w' q #[.pointer (some ⟨cb, 0, none⟩), .pointer (some ⟨hb, j0 * 2, none⟩), .int .i64 nk, .int .i64 h0, .func (.func 92) #[.pointer (some ⟨q, 0, none⟩)] #[], .int .i64 0, .pointer none, .int .i64 0] 153 ∧ PN w' ∧ Tn (fun g => g = cb ∨ tn g) w w' := by
 obtain ⟨W0, hW⟩ : ∃ W0, W0 = w.alloc (.cells #[.int .i64 k, .int .i64 m] 36) := ⟨_, rfl⟩
 have b0 : Below w.heap.size w W0 := by rw [hW]; exact (Below.refl _ _).alloc (Nat.le_refl _) _
 have s0 : w.heap.size < W0.heap.size := by rw [hW]; simp
 have q0 : W0.cell? ⟨w.heap.size, 0, none⟩ = some (.int .i64 k) := by rw [hW]; simp [go_sem]
 have q1 : W0.cell? ⟨w.heap.size, 1, none⟩ = some (.int .i64 m) := by rw [hW]; simp [go_sem]
 have d5 := (b0.cell (p := ⟨cb, 5, none⟩) lc).trans c5
 have d6 := (b0.cell (p := ⟨cb, 6, none⟩) lc).trans c6
 have d9 := (b0.cell (p := ⟨cb, 9, none⟩) lc).trans c9
 have ncw : ¬ (w.heap.size = cb ∨ tn w.heap.size) := by
  rintro (h | h)
  · omega
  · have := htn _ h; omega
 have hmf : ∀ (fn : Fn) (first cap : Array Value) (w : World), (Instr.makeFunc fn first cap).run Try.prog w = .ok (.func fn first cap) w := fun _ _ _ _ => rfl
 clear c5 c6 c9
 go_enter Try.func88, Try.ntmps88
 go_upto_region 1 with fail
 rw [← hW]
 clear hW
 have A0 : Below W0.heap.size W0 W0.drew := (Below.refl _ _).drew
 have KB : ∀ u v : World, u.cell? ⟨cb, 5, none⟩ = some (.int .i64 N) → u.cell? ⟨cb, 6, none⟩ = some (.int .i64 S) → u.cell? ⟨cb, 9, none⟩ = some (.slice (some ⟨hb, 0, none⟩) N N) → u.cell? ⟨w.heap.size, 0, none⟩ = some (.int .i64 k) → u.cell? ⟨w.heap.size, 1, none⟩ = some (.int .i64 m) → w.heap.size < u.heap.size → Below u.heap.size u v → (fun v : World => v.cell? ⟨cb, 5, none⟩ = some (.int .i64 N) ∧ v.cell? ⟨cb, 6, none⟩ = some (.int .i64 S) ∧ v.cell? ⟨cb, 9, none⟩ = some (.slice (some ⟨hb, 0, none⟩) N N) ∧ v.cell? ⟨w.heap.size, 0, none⟩ = some (.int .i64 k) ∧ v.cell? ⟨w.heap.size, 1, none⟩ = some (.int .i64 m)) v :=
  fun u v h5 h6 h9 p0 p1 hs hb => ⟨(hb.cell (p := ⟨cb, 5, none⟩) (by simp only; omega)).trans h5, (hb.cell (p := ⟨cb, 6, none⟩) (by simp only; omega)).trans h6, (hb.cell (p := ⟨cb, 9, none⟩) (by simp only; omega)).trans h9, (hb.cell (p := ⟨w.heap.size, 0, none⟩) hs).trans p0, (hb.cell (p := ⟨w.heap.size, 1, none⟩) hs).trans p1⟩
 go_region_held3 (fun v : World => v.cell? ⟨cb, 5, none⟩ = some (.int .i64 N) ∧ v.cell? ⟨cb, 6, none⟩ = some (.int .i64 S) ∧ v.cell? ⟨cb, 9, none⟩ = some (.slice (some ⟨hb, 0, none⟩) N N) ∧ v.cell? ⟨w.heap.size, 0, none⟩ = some (.int .i64 k) ∧ v.cell? ⟨w.heap.size, 1, none⟩ = some (.int .i64 m)) (first | with_reducible exact KB _ _ d5 d6 d9 q0 q1 s0 A0 | with_reducible exact KB _ _ d5 d6 d9 q0 q1 s0 B1 | with_reducible exact KB _ _ e5 e6 e9 r0 r1 s2 (Below.refl _ _) | with_reducible exact KB _ _ e5 e6 e9 r0 r1 s2 B3 | with_reducible exact KB _ _ e5 e6 e9 r0 r1 s2 (B3.alloc s3 _))
  (first
    | (go_at_call 39; refine (kS _).mono ?_; rintro e u1 ⟨rfl, hb⟩; have B1 := keepC1 (w1 := W0) (by with_reducible exact A0) hb; clear hb)
    | (go_at_call 89; refine (kN _ (by with_reducible exact b0.trans (B1.mono (Nat.le_of_lt s0)))).mono ?_; rintro e u2 ⟨rfl, t2, p2, e5, e6, e9⟩; have s1 := Nat.lt_of_lt_of_le s0 B1.size; have s2 := Nat.lt_of_lt_of_le s1 t2.size; have r0 := (t2.cell 0 s1 ncw).trans ((B1.cell (p := ⟨w.heap.size, 0, none⟩) s0).trans q0); have r1 := (t2.cell 1 s1 ncw).trans ((B1.cell (p := ⟨w.heap.size, 1, none⟩) s0).trans q1))
    | (go_at_call 90; refine (kH _).mono ?_; rintro e u3 ⟨rfl, B3⟩; have s3 := B3.size))
 go_wp2_with fail
 refine (begin_any u3.heap.size _ .nilFunc (.int .i64 0) (by simp [go_sem]) (by simp [go_sem]) (by simp [go_sem]) (by simp [go_sem])).mono ?_
 rintro e v ⟨rfl, rfl⟩
 go_wp2_with fail
 go_ret
 have bE := (Below.refl u3.heap.size u3).alloc (Nat.le_refl _) (.cells #[.pointer (some ⟨cb, 0, none⟩), .pointer (some ⟨hb, j0 * 2, none⟩), .int .i64 nk, .int .i64 (h0 : Int), .func (.func 92) #[.pointer (some ⟨u3.heap.size, 0, none⟩)] #[], .int .i64 0, .pointer none, .int .i64 0] 153)
 refine ⟨u3.heap.size, rfl, by omega, Cls.new u3 _ 153, hPN _ _ (hPN _ _ p2 B3) bE, ?_⟩
 exact (Tn.below _ b0).trans ((Tn.below _ B1).trans (t2.trans ((Tn.below _ B3).trans (Tn.below _ bE))))

end Go.Proofs.Ytdpbhbpcpnlbkaa
