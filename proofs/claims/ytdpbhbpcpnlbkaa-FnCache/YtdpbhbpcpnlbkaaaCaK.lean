import Derived.Test.YtdpbhbpcpnlbkaaaGQ
import Derived.Test.YtdpbhbpcpnlbkaaaCaJ
set_option maxHeartbeats 1000000
namespace Go.Proofs.Ytdpbhbpcpnlbkaa
open Go.RowKit Go.Maps
set_option linter.unusedVariables false
set_option maxRecDepth 100000
theorem index_empty (ao : Option Addr) (c : Nat) (w : World) :
 Calls Try.prog 68 #[.slice ao 0 c, .func (.func 54) #[] #[]] w fun e w' => e = .returned (.int .i64 (-1)) ∧ w' = w := by
 go_enter Try.func68, Try.ntmps68
 go_wp2_with fail
 go_loopw [8] (fun i wr => i = .int .i64 0 ∧ wr = w) (fun _ _ => 0)
 case atStart => exact ⟨rfl, rfl⟩
 case round =>
  obtain ⟨rfl, rfl⟩ := hrel
  go_wp2_with fail
  go_ret
  exact ⟨rfl, rfl⟩

theorem contains_empty (ao : Option Addr) (c : Nat) (w : World) :
 Calls Try.prog 53 #[.slice ao 0 c, .func (.func 54) #[] #[]] w fun e w' => e = .returned (.bool false) ∧ w' = w := by
 go_enter Try.func53, Try.ntmps53
 go_wp2_with fail
 refine (index_empty ao c w).mono ?_
 rintro e v ⟨rfl, rfl⟩
 go_wp2_with fail
 go_ret
 exact ⟨rfl, rfl⟩

theorem contains_any (ao : Option Addr) (n c : Nat) (ks : List (Int × Int)) (w : World) (hn : ks.length = n) (hn2 : n ≤ 1048576) (hr : RdK w ao ks) :
 Calls Try.prog 53 #[.slice ao n c, .func (.func 54) #[] #[]] w fun e w' => e = .returned (.bool (ks.any fun x => !decide (keyOk x.1 x.2))) ∧ Below w.heap.size w w' := by
 by_cases h0 : n = 0
 · subst h0
   have : ks = [] := List.eq_nil_of_length_eq_zero hn
   subst this
   refine (contains_empty ao c w).mono ?_
   rintro e v ⟨rfl, rfl⟩
   exact ⟨rfl, Below.refl _ _⟩
 · obtain ⟨b, off, rfl, hb, hc⟩ := hr (by omega)
   exact contains_some b off n c ks w hn hn2 hb hc

def TkIn (w : World) (ta : Option Addr) (tasks : List (List (Int × Int))) (kx : Nat → Option Addr) (kc : Nat → Nat) : Prop :=
 0 < tasks.length → ∃ b off, ta = some ⟨b, off, none⟩ ∧ ∀ t, t < tasks.length → w.cell? ⟨b, off + t, none⟩ = some (.slice (kx t) (Q.lenAt tasks t) (kc t)) ∧ RdK w (kx t) (tasks.getD t []) ∧ b < w.heap.size

def tOk (ks : List (Int × Int)) : Bool := decide (ks.length ≤ 60) && !ks.any fun x => !decide (keyOk x.1 x.2)

theorem RdK.below {w v : World} {ao : Option Addr} {ks : List (Int × Int)} (h : RdK w ao ks) (hb : Below w.heap.size w v) : RdK v ao ks := by
 intro h0
 obtain ⟨b, off, e, hl, hc⟩ := h h0
 refine ⟨b, off, e, Nat.lt_of_lt_of_le hl hb.size, fun j hj => ?_⟩
 exact ⟨(hb.cell (p := ⟨b, _, none⟩) hl).trans (hc j hj).1, (hb.cell (p := ⟨b, _, none⟩) hl).trans (hc j hj).2⟩

theorem tall_false {tasks : List (List (Int × Int))} {k : Nat} (hk : k < tasks.length) (h : tOk (tasks.getD k []) = false) : tasks.all tOk = false := by
 rw [List.all_eq_false]
 refine ⟨tasks[k], List.getElem_mem hk, ?_⟩
 rw [List.getD_eq_getElem?_getD, List.getElem?_eq_getElem hk] at h
 simpa using h

theorem tall_true {tasks : List (List (Int × Int))} (h : ∀ t, t < tasks.length → tOk (tasks.getD t []) = true) : tasks.all tOk = true := by
 rw [List.all_eq_true]
 intro x hx
 obtain ⟨i, hi, rfl⟩ := List.getElem_of_mem hx
 have := h i hi
 rw [List.getD_eq_getElem?_getD, List.getElem?_eq_getElem hi] at this
 exact this

theorem good_tasks (ta : Option Addr) (n c : Nat) (tasks : List (List (Int × Int))) (kx : Nat → Option Addr) (kc : Nat → Nat) (w : World) (hn : tasks.length = n) (hn2 : n ≤ 1048576) (hl : ∀ t, Q.lenAt tasks t ≤ 1048576) (hr : TkIn w ta tasks kx kc) :
 Calls Try.prog 26 #[.slice ta n c] w fun e w' => e = .returned (.bool (decide (n ≤ 8) && tasks.all tOk)) ∧ Below w.heap.size w w' := by
 by_cases h8 : n ≤ 8
 · rw [decide_eq_true h8, Bool.true_and]
   have g8 : ¬ (8 : Int) < (n : Int) := by omega
   have g8' : decide ((8 : Int) < (n : Int)) = false := decide_eq_false g8
   go_enter Try.func26, Try.ntmps26
   go_wp2_with fail
   go_loopw [10] (fun i wr => ∃ k : Nat, k ≤ n ∧ i = .int .i64 k ∧ (∀ t, t < k → tOk (tasks.getD t []) = true) ∧ Below w.heap.size w wr) (fun i _ => n - (intOf i).toNat)
   case atStart => exact ⟨0, by omega, rfl, fun t h => by omega, Below.refl _ _⟩
   case round =>
    obtain ⟨k, hk, rfl, hg, hb⟩ := hrel
    have HG : Hid _ := hg; have HB : Hid _ := hb
    by_cases hlt : k < n
    · obtain ⟨b, off, rfl, hc⟩ := hr (by omega)
      obtain ⟨h1, h2, h3⟩ := hc k (by omega)
      have h1' := (hb.cell (p := ⟨b, off + k, none⟩) h3).trans h1
      have kC := fun v (hv : Below w.heap.size w v) => contains_any (kx k) (Q.lenAt tasks k) (kc k) (tasks.getD k []) v rfl (hl k) (h2.below hv)
      have etk : tOk (tasks.getD k []) = (decide (Q.lenAt tasks k ≤ 60) && !(tasks.getD k []).any fun x => !decide (keyOk x.1 x.2)) := rfl
      have ETK : Hid _ := etk
      generalize (tasks.getD k []).any (fun x => !decide (keyOk x.1 x.2)) = bd at *
      generalize Q.lenAt tasks k = m at *
      clear hc h1 h2 etk hg hb
      by_cases h60 : m ≤ 60
      · have g60 : decide ((60 : Int) < (m : Int)) = false := decide_eq_false (by omega)
        obtain rfl | rfl : bd = true ∨ bd = false := by cases bd <;> simp
        · have hf : tasks.all tOk = false := tall_false (k := k) (by omega) (by rw [ETK.out]; simp)
          go_wp2_with fail
          refine (kC _ HB.out).mono ?_
          rintro e v ⟨rfl, hb2⟩
          go_wp2_with fail
          go_ret
          exact ⟨by rw [hf]; rfl, HB.out.trans (hb2.mono HB.out.size)⟩
        · go_wp2_with fail
          refine (kC _ HB.out).mono ?_
          rintro e v ⟨rfl, hb2⟩
          have f1 : IntKind.i64.wrap ((k : Int) + 1) = (k : Int) + 1 := by simp only [IntKind.wrap_i64]; omega
          go_wp2_with fail
          go_roundw
          case rel =>
           refine ⟨k + 1, by omega, by simp, fun t ht => ?_, HB.out.trans (hb2.mono HB.out.size)⟩
           rcases Nat.lt_or_ge t k with h | h
           · exact HG.out t h
           · have : t = k := by omega
             rw [this, ETK.out]; simp [h60]
          case measure => simp [intOf]; omega
      · have g60 : (60 : Int) < (m : Int) := by omega
        have hf : tasks.all tOk = false := tall_false (k := k) (by omega) (by rw [ETK.out]; simp [h60])
        go_wp2_with fail
        go_ret
        exact ⟨by rw [hf]; rfl, HB.out⟩
    · have hkn : k = n := by omega
      subst hkn
      have ht : tasks.all tOk = true := tall_true (fun t h => hg t (by omega))
      clear hg hb
      go_wp2_with fail
      go_ret
      exact ⟨by rw [ht]; rfl, HB.out⟩
 · rw [decide_eq_false h8, Bool.false_and]
   have g8 : (8 : Int) < (n : Int) := by omega
   clear h8 hn hn2 hl hr
   go_enter Try.func26, Try.ntmps26
   go_wp2_with fail
   go_ret
   exact ⟨rfl, Below.refl _ _⟩

end Go.Proofs.Ytdpbhbpcpnlbkaa
