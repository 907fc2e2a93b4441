import Derived.Test.YtmglhkdgfcbonaaGreatDoorqSB
namespace Go.Proofs.YtmglhkdgfcbonaaGreatDoor

set_option linter.unusedVariables false
set_option maxRecDepth 100000

def wdX (t : M.Wd) (r : Nat) : Int := t.X + r + ((M.txt (t.pick (t.X + r))).length : Int) - ((M.sd (t.pick (t.X + r))).length : Int)

namespace M

theorem Wd.Best.same {t : Wd} {r s : Nat} (a : t.Best r) (b : t.Best s) : r = s := by
  rcases Nat.lt_trichotomy r s with h | h | h
  · exact absurd b.ok (a.no s h b.lt)
  · exact h
  · exact absurd a.ok (b.no r h a.lt)

def Wd.asks (t : Wd) (z : Nat) : Bool := decide (t.least ≤ t.T t.X / 10 ^ z * 10 ^ z) || decide (t.T t.X / 10 ^ z * 10 ^ z + 10 ^ z ≤ t.most)

theorem Wd.Ok.asks_iff {t : Wd} (h : t.Ok) (z : Nat) : t.asks z = true ↔ t.ok (t.X + z) := by
  unfold Wd.asks Wd.ok
  rw [Bool.or_eq_true, decide_eq_true_iff, decide_eq_true_iff, h.low_at, h.high_at]

theorem Wd.Ok.best_of {t : Wd} (h : t.Ok) (r : Nat) (h1 : r < t.N) (h2 : 0 < r → t.asks r = true) (h3 : r + 1 < t.N → t.asks (r + 1) = false) : t.Best r :=
  h.best r h1 (fun hp => (h.asks_iff r).1 (h2 hp)) (fun hp hk => by have := (h.asks_iff (r + 1)).2 hk; rw [h3 hp] at this; cases this)

theorem un_lt {a b : Nat} (h : a < b) (x : Int) : un a x < un b x := Nat.mul_lt_mul_of_pos_right h (Nat.pow_pos (by omega))

theorem Wd.Ok.lo_mid {t : Wd} (h : t.Ok) : t.lo < t.mid := Nat.mul_lt_mul_of_pos_right h.l1 (Nat.pow_pos (by omega))

theorem Wd.Ok.mid_hi {t : Wd} (h : t.Ok) : t.mid < t.hi := Nat.mul_lt_mul_of_pos_right (by omega) (Nat.pow_pos (by omega))

theorem Wd.Ok.e_le {t : Wd} (h : t.Ok) : -7001 ≤ t.e ∧ t.e ≤ 7039 ∧ -7000 ≤ t.X ∧ t.X ≤ 7000 := by
  have hN := h.N_le
  have q1 := h.q1
  have q2 := h.q2
  have := uB_ok (t.q - 2) (by omega) (by omega)
  show -7001 ≤ t.X + (t.N : Int) - 1 ∧ t.X + (t.N : Int) - 1 ≤ 7039 ∧ -7000 ≤ t.X ∧ t.X ≤ 7000
  simp only [Wd.X]
  omega

end M

end Go.Proofs.YtmglhkdgfcbonaaGreatDoor

