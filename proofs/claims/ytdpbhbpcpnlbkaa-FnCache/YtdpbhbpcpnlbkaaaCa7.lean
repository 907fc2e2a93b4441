import Derived.Test.YtdpbhbpcpnlbkaaaGB
import Derived.Test.YtdpbhbpcpnlbkaaaCa4
namespace Go.Proofs.Ytdpbhbpcpnlbkaa
open Go.RowKit Go.Maps
set_option linter.unusedVariables false
set_option maxRecDepth 100000
structure Fr (B : Nat) (w v : World) : Prop where
 below : Below B w v
 keep : ∀ (g : Nat) (A : Array Value) (t : TypeId) (z : Nat × Nat), w.heap[g]? = some (.cells A t z) → (t = 69 ∨ t = 120 ∨ t = 66) → v.heap[g]? = w.heap[g]?

theorem Fr.refl (B : Nat) (w : World) : Fr B w w := ⟨Below.refl _ _, fun _ _ _ _ _ _ => rfl⟩

theorem Fr.trans {B : Nat} {a b c : World} (h : Fr B a b) (k : Fr B b c) : Fr B a c :=
 ⟨h.below.trans k.below, fun g A t z e ht => (k.keep g A t z ((h.keep g A t z e ht).trans e) ht).trans (h.keep g A t z e ht)⟩

theorem Fr.qt {B : Nat} {w v : World} (h : Qt w v) : Fr B w v := ⟨h.below _, fun g _ _ _ _ _ => by rw [h.heap]⟩

theorem Fr.set {B : Nat} {w v : World} (h : Fr B w v) {b n : Nat} {t : TypeId} {f : Nat → Value} (hb : B ≤ b) (k : Bf w b t n f) (ht : t ≠ 69 ∧ t ≠ 120 ∧ t ≠ 66) (i : Nat) (x : Value) : Fr B w (v.setCell ⟨b, i, none⟩ x) := by
 refine ⟨h.below.setCell hb x, fun g A t' z e ht' => ?_⟩
 refine (Below.heap_setCell _ _ _ _ ?_).trans (h.keep g A t' z e ht')
 intro e2
 simp only at e2
 subst e2
 obtain ⟨A', k, _⟩ := k
 rw [e] at k; injection k with k; injection k with _ k
 rw [← k] at ht
 rcases ht' with h | h | h
 · exact ht.1 h
 · exact ht.2.1 h
 · exact ht.2.2 h

theorem Fr.tn {p : Nat → Prop} {w v : World} {B : Nat} (h : Tn p w v) (hB : B ≤ w.heap.size) (hp : ∀ k, p k → B ≤ k) (hq : ∀ k A t z, p k → w.heap[k]? = some (.cells A t z) → t ≠ 69 ∧ t ≠ 120 ∧ t ≠ 66) : Fr B w v :=
 ⟨h.under B hB hp, fun g A t z e ht => h.block g (Array.getElem?_eq_some_iff.1 e).1 (fun hpg => by
   have := hq g A t z hpg e
   rcases ht with h | h | h
   · exact this.1 h
   · exact this.2.1 h
   · exact this.2.2 h)⟩

structure Lay where
 base : Nat
 cb : Nat
 mb : Nat
 hb : Nat
 sb : Nat → Nat
 kb : Nat → Nat
 ob : Nat → Nat
 qb : Nat → Nat
 act : Nat → Bool
 N : Nat
 S : Nat
 T : Nat
 len : Nat → Nat

structure Raw where
 c : Nat → Value
 h : Nat → Value
 s : Nat → Nat → Value
 k : Nat → Nat → Value
 o : Nat → Nat → Value
 q : Nat → Nat → Value
 ks : List (Int × Int)
 kv : Value

structure RI (w : World) (L : Lay) (R : Raw) : Prop where
 c : Bf w L.cb 110 10 R.c
 h : Bf w L.hb 113 (L.N * 2) R.h
 s : ∀ i, i < L.N → Bf w (L.sb i) 131 (L.S * 3) (R.s i)
 k : ∀ t, t < L.T → Bf w (L.kb t) 116 6 (R.k t)
 o : ∀ t, t < L.T → Bf w (L.ob t) 3 (L.len t) (R.o t)
 q : ∀ t, t < L.T → L.act t = true → Bf w (L.qb t) 153 8 (R.q t)
 bk : Bk w L.mb R.ks
 ow : w.ownsRow L.base 36 2 R.kv R.ks.length (KL R.ks)
 si : ∀ i j, i < L.N → j < L.N → L.sb i = L.sb j → i = j
 ki : ∀ i j, i < L.T → j < L.T → L.kb i = L.kb j → i = j
 oi : ∀ i j, i < L.T → j < L.T → L.ob i = L.ob j → i = j
 qi : ∀ i j, i < L.T → j < L.T → L.act i = true → L.act j = true → L.qb i = L.qb j → i = j
 bc : L.base ≤ L.cb
 bm : L.base ≤ L.mb
 bh : L.base ≤ L.hb
 bs : ∀ i, i < L.N → L.base ≤ L.sb i
 bk' : ∀ i, i < L.T → L.base ≤ L.kb i
 bo : ∀ i, i < L.T → L.base ≤ L.ob i
 bq : ∀ i, i < L.T → L.act i = true → L.base ≤ L.qb i

theorem RI.qt {w v : World} {L : Lay} {R : Raw} (r : RI w L R) (h : Qt w v) : RI v L R :=
 { r with c := r.c.qt h, h := r.h.qt h, s := fun i hi => (r.s i hi).qt h, k := fun i hi => (r.k i hi).qt h, o := fun i hi => (r.o i hi).qt h, q := fun i hi ha => (r.q i hi ha).qt h, bk := r.bk.of_block (by rw [h.heap]), ow := own_tn r.ow (Tn.qt (fun _ => False) h) (fun _ _ e => e) }

theorem RI.setC {w : World} {L : Lay} {R : Raw} (r : RI w L R) (i : Nat) (x : Value) : RI (w.setCell ⟨L.cb, i, none⟩ x) L { R with c := upd R.c i x } :=
 { r with
   c := r.c.set i x
   h := r.h.far _ _ _ (r.h.ne r.c (by decide))
   s := fun b hb => (r.s b hb).far _ _ _ ((r.s b hb).ne r.c (by decide))
   k := fun b hb => (r.k b hb).far _ _ _ ((r.k b hb).ne r.c (by decide))
   o := fun b hb => (r.o b hb).far _ _ _ ((r.o b hb).ne r.c (by decide))
   q := fun b hb hc => (r.q b hb hc).far _ _ _ ((r.q b hb hc).ne r.c (by decide))
   bk := r.bk.of_block (Below.heap_setCell _ _ _ _ (r.bk.ne r.c))
   ow := own_tn r.ow (Tn.set (fun g => g = L.cb) L.cb i x rfl) (fun g e h => own_ty r.ow r.c (by decide) (h ▸ e)) }

theorem RI.setH {w : World} {L : Lay} {R : Raw} (r : RI w L R) (i : Nat) (x : Value) : RI (w.setCell ⟨L.hb, i, none⟩ x) L { R with h := upd R.h i x } :=
 { r with
   c := r.c.far _ _ _ (r.c.ne r.h (by decide))
   h := r.h.set i x
   s := fun b hb => (r.s b hb).far _ _ _ ((r.s b hb).ne r.h (by decide))
   k := fun b hb => (r.k b hb).far _ _ _ ((r.k b hb).ne r.h (by decide))
   o := fun b hb => (r.o b hb).far _ _ _ ((r.o b hb).ne r.h (by decide))
   q := fun b hb hc => (r.q b hb hc).far _ _ _ ((r.q b hb hc).ne r.h (by decide))
   bk := r.bk.of_block (Below.heap_setCell _ _ _ _ (r.bk.ne r.h))
   ow := own_tn r.ow (Tn.set (fun g => g = L.hb) L.hb i x rfl) (fun g e h => own_ty r.ow r.h (by decide) (h ▸ e)) }

theorem RI.setS {w : World} {L : Lay} {R : Raw} (r : RI w L R) (a : Nat) (ha : a < L.N) (i : Nat) (x : Value) : RI (w.setCell ⟨L.sb a, i, none⟩ x) L { R with s := Q.updN R.s a (upd (R.s a) i x) } :=
 { r with
   c := r.c.far _ _ _ (r.c.ne (r.s a ha) (by decide))
   h := r.h.far _ _ _ (r.h.ne (r.s a ha) (by decide))
   s := fun b hb => by
    by_cases e : b = a
    · subst e; simpa [Q.updN] using (r.s b hb).set i x
    · have := (r.s b hb).far (L.sb a) i x (fun h => e (r.si b a hb ha h))
      simpa [Q.updN, e] using this
   k := fun b hb => (r.k b hb).far _ _ _ ((r.k b hb).ne (r.s a ha) (by decide))
   o := fun b hb => (r.o b hb).far _ _ _ ((r.o b hb).ne (r.s a ha) (by decide))
   q := fun b hb hc => (r.q b hb hc).far _ _ _ ((r.q b hb hc).ne (r.s a ha) (by decide))
   bk := r.bk.of_block (Below.heap_setCell _ _ _ _ (r.bk.ne (r.s a ha)))
   ow := own_tn r.ow (Tn.set (fun g => g = (L.sb a)) (L.sb a) i x rfl) (fun g e h => own_ty r.ow (r.s a ha) (by decide) (h ▸ e)) }

theorem RI.setK {w : World} {L : Lay} {R : Raw} (r : RI w L R) (a : Nat) (ha : a < L.T) (i : Nat) (x : Value) : RI (w.setCell ⟨L.kb a, i, none⟩ x) L { R with k := Q.updN R.k a (upd (R.k a) i x) } :=
 { r with
   c := r.c.far _ _ _ (r.c.ne (r.k a ha) (by decide))
   h := r.h.far _ _ _ (r.h.ne (r.k a ha) (by decide))
   s := fun b hb => (r.s b hb).far _ _ _ ((r.s b hb).ne (r.k a ha) (by decide))
   k := fun b hb => by
    by_cases e : b = a
    · subst e; simpa [Q.updN] using (r.k b hb).set i x
    · have := (r.k b hb).far (L.kb a) i x (fun h => e (r.ki b a hb ha h))
      simpa [Q.updN, e] using this
   o := fun b hb => (r.o b hb).far _ _ _ ((r.o b hb).ne (r.k a ha) (by decide))
   q := fun b hb hc => (r.q b hb hc).far _ _ _ ((r.q b hb hc).ne (r.k a ha) (by decide))
   bk := r.bk.of_block (Below.heap_setCell _ _ _ _ (r.bk.ne (r.k a ha)))
   ow := own_tn r.ow (Tn.set (fun g => g = (L.kb a)) (L.kb a) i x rfl) (fun g e h => own_ty r.ow (r.k a ha) (by decide) (h ▸ e)) }

theorem RI.setO {w : World} {L : Lay} {R : Raw} (r : RI w L R) (a : Nat) (ha : a < L.T) (i : Nat) (x : Value) : RI (w.setCell ⟨L.ob a, i, none⟩ x) L { R with o := Q.updN R.o a (upd (R.o a) i x) } :=
 { r with
   c := r.c.far _ _ _ (r.c.ne (r.o a ha) (by decide))
   h := r.h.far _ _ _ (r.h.ne (r.o a ha) (by decide))
   s := fun b hb => (r.s b hb).far _ _ _ ((r.s b hb).ne (r.o a ha) (by decide))
   k := fun b hb => (r.k b hb).far _ _ _ ((r.k b hb).ne (r.o a ha) (by decide))
   o := fun b hb => by
    by_cases e : b = a
    · subst e; simpa [Q.updN] using (r.o b hb).set i x
    · have := (r.o b hb).far (L.ob a) i x (fun h => e (r.oi b a hb ha h))
      simpa [Q.updN, e] using this
   q := fun b hb hc => (r.q b hb hc).far _ _ _ ((r.q b hb hc).ne (r.o a ha) (by decide))
   bk := r.bk.of_block (Below.heap_setCell _ _ _ _ (r.bk.ne (r.o a ha)))
   ow := own_tn r.ow (Tn.set (fun g => g = (L.ob a)) (L.ob a) i x rfl) (fun g e h => own_ty r.ow (r.o a ha) (by decide) (h ▸ e)) }

theorem RI.setQ {w : World} {L : Lay} {R : Raw} (r : RI w L R) (a : Nat) (ha : a < L.T) (hq : L.act a = true) (i : Nat) (x : Value) : RI (w.setCell ⟨L.qb a, i, none⟩ x) L { R with q := Q.updN R.q a (upd (R.q a) i x) } :=
 { r with
   c := r.c.far _ _ _ (r.c.ne (r.q a ha hq) (by decide))
   h := r.h.far _ _ _ (r.h.ne (r.q a ha hq) (by decide))
   s := fun b hb => (r.s b hb).far _ _ _ ((r.s b hb).ne (r.q a ha hq) (by decide))
   k := fun b hb => (r.k b hb).far _ _ _ ((r.k b hb).ne (r.q a ha hq) (by decide))
   o := fun b hb => (r.o b hb).far _ _ _ ((r.o b hb).ne (r.q a ha hq) (by decide))
   q := fun b hb hc => by
    by_cases e : b = a
    · subst e; simpa [Q.updN] using (r.q b hb hc).set i x
    · have := (r.q b hb hc).far (L.qb a) i x (fun h => e (r.qi b a hb ha hc hq h))
      simpa [Q.updN, e] using this
   bk := r.bk.of_block (Below.heap_setCell _ _ _ _ (r.bk.ne (r.q a ha hq)))
   ow := own_tn r.ow (Tn.set (fun g => g = (L.qb a)) (L.qb a) i x rfl) (fun g e h => own_ty r.ow (r.q a ha hq) (by decide) (h ▸ e)) }

end Go.Proofs.Ytdpbhbpcpnlbkaa
