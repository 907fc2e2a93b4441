import Derived.Test.YtdfljbpcjkbflaaGreatDoorrHAD
namespace Go.Proofs.YtdfljbpcjkbflaaGreatDoor
open Go.RowKit
set_option linter.unusedVariables false
set_option maxRecDepth 100000
structure Own (w : World) (lo hi : Nat) (ao : Option Addr) (cap : Nat) (r : List Nat) : Prop where
 row : w.ownsRow 0 23 1 (.slice ao r.length cap) r.length (U r)
 place : ∀ k, (Value.slice ao r.length cap).ownBlock = some k → lo ≤ k ∧ k < hi

theorem Own.of {w : World} {base : Nat} {ao : Option Addr} {cap : Nat} {r : List Nat} (h : w.ownsRow base 23 1 (.slice ao r.length cap) r.length (U r)) : Own w base w.heap.size ao cap r :=
 ⟨aO h (Nat.zero_le _), fun k hk => h.lt k hk⟩

theorem Own.rd {w : World} {lo hi : Nat} {ao : Option Addr} {cap : Nat} {r : List Nat} (h : Own w lo hi ao cap r) : Rd w ao r := Rd.own h.row

theorem Own.keep {w w' : World} {lo hi : Nat} {ao : Option Addr} {cap : Nat} {r : List Nat} (h : Own w lo hi ao cap r) (hb : Below w.heap.size w w') : Own w' lo hi ao cap r := ⟨fM h.row hb, h.place⟩

theorem Own.grown {w w' : World} {lo hi : Nat} {ao : Option Addr} {cap : Nat} {r : List Nat} {row : Option Nat} (h : Own w lo hi ao cap r) (hg : w.grownBy w' row) (hne : ∀ k, lo ≤ k → k < hi → row ≠ some k) : Own w' lo hi ao cap r := by
 refine ⟨h.row.kept hg ?_, h.place⟩
 cases hv : (Value.slice ao r.length cap).ownBlock with
 | none => exact .inl rfl
 | some k => right; intro e; have := h.place k hv; exact hne k this.1 this.2 e.symm

theorem Blk.toOwn {w : World} {g : Nat} {zs : List Nat} (h : Blk w g zs) (hm : zs.length ≤ 4194304) : Own w g (g + 1) (some ⟨g, 0, none⟩) zs.length zs :=
 ⟨h.own (Nat.zero_le _) rfl (by unfold maxLen; omega), fun k hk => by simp [Value.ownBlock] at hk; omega⟩

structure I5 (v : World) (g : Nat) : Prop where
 c0 : v.cell? ⟨g, 0, none⟩ = some (.slice none 0 0)
 c1 : v.cell? ⟨g, 1, none⟩ = some (.slice none 0 0)
 c2 : v.cell? ⟨g, 2, none⟩ = some (.slice none 0 0)
 c3 : v.cell? ⟨g, 3, none⟩ = some (.bool false)
 c4 : v.cell? ⟨g, 4, none⟩ = some (.bool false)
 f0 : v.frozen? ⟨g, 0, none⟩ = false
 f1 : v.frozen? ⟨g, 1, none⟩ = false
 f2 : v.frozen? ⟨g, 2, none⟩ = false
 f3 : v.frozen? ⟨g, 3, none⟩ = false
 f4 : v.frozen? ⟨g, 4, none⟩ = false
 lt : g < v.heap.size

theorem JG (v : World) : I5 (v.alloc (.cells #[.slice none 0 0, .slice none 0 0, .slice none 0 0, .bool false, .bool false] 78)) v.heap.size := by
 constructor <;> simp [go_sem]

theorem I5.below {v v' : World} {g : Nat} (h : I5 v g) (hb : Below v.heap.size v v') : I5 v' g :=
 ⟨(hb.cell h.lt).trans h.c0, (hb.cell h.lt).trans h.c1, (hb.cell h.lt).trans h.c2, (hb.cell h.lt).trans h.c3, (hb.cell h.lt).trans h.c4, (hb.frozen h.lt).trans h.f0, (hb.frozen h.lt).trans h.f1, (hb.frozen h.lt).trans h.f2, (hb.frozen h.lt).trans h.f3, (hb.frozen h.lt).trans h.f4, Nat.lt_of_lt_of_le h.lt hb.size⟩

theorem I5.far {v : World} {g k : Nat} (h : I5 v g) (hk : g ≠ k) (a b : Value) : I5 ((v.setCell ⟨k, 0, none⟩ a).setCell ⟨k, 1, none⟩ b) g := by
 obtain ⟨c0, c1, c2, c3, c4, f0, f1, f2, f3, f4, l⟩ := h
 exact ⟨(far2 v _ _ hk).trans c0, (far2 v _ _ hk).trans c1, (far2 v _ _ hk).trans c2, (far2 v _ _ hk).trans c3, (far2 v _ _ hk).trans c4, (eL v _ _ hk).trans f0, (eL v _ _ hk).trans f1, (eL v _ _ hk).trans f2, (eL v _ _ hk).trans f3, (eL v _ _ hk).trans f4, by simpa using l⟩

theorem P5.far2 {v : World} {g k : Nat} {t : M.Pt} (h : P5 v g t) (hk : g ≠ k) (a b : Value) : P5 ((v.setCell ⟨k, 0, none⟩ a).setCell ⟨k, 1, none⟩ b) g t := by
 obtain ⟨c0, c1, c2, c3, c4, l⟩ := h
 exact ⟨(Go.Proofs.YtdfljbpcjkbflaaGreatDoor.far2 v _ _ hk).trans c0, (Go.Proofs.YtdfljbpcjkbflaaGreatDoor.far2 v _ _ hk).trans c1, (Go.Proofs.YtdfljbpcjkbflaaGreatDoor.far2 v _ _ hk).trans c2, (Go.Proofs.YtdfljbpcjkbflaaGreatDoor.far2 v _ _ hk).trans c3, (Go.Proofs.YtdfljbpcjkbflaaGreatDoor.far2 v _ _ hk).trans c4, by simpa using l⟩

def Iv (w w' : World) (e : Ending) (A B C : Nat) (cl : Bool) : Prop :=
 ∃ (a : Option Addr) (ca : Nat) (b : Option Addr) (cb : Nat) (c : Option Addr) (cc m1 m2 : Nat), e = .returned (.agg #[.slice a (L A).length ca, .slice b (L B).length cb, .slice c (L C).length cc, .bool cl, .bool true]) ∧ w.heap.size ≤ m1 ∧ m1 ≤ m2 ∧ m2 ≤ w'.heap.size ∧ Own w' w.heap.size m1 a ca (L A) ∧ Own w' m1 m2 b cb (L B) ∧ Own w' m2 w'.heap.size c cc (L C) ∧ Below w.heap.size w w'

theorem nV (W : World) (g j : Nat) (v : Value) : W.grownBy (W.setCell ⟨g, j, none⟩ v) (some g) :=
 ⟨rfl, rfl, rfl, by simp, fun k _ hk => Below.heap_setCell _ _ _ k (fun e => hk (by rw [e]))⟩

theorem Own.set5 {v : World} {lo hi : Nat} {ao : Option Addr} {cap : Nat} {r : List Nat} {g : Nat} (h : Own v lo hi ao cap r) (hg : g < lo) (a b c d e : Value) : Own (((((v.setCell ⟨g, 0, none⟩ a).setCell ⟨g, 1, none⟩ b).setCell ⟨g, 2, none⟩ c).setCell ⟨g, 3, none⟩ d).setCell ⟨g, 4, none⟩ e) lo hi ao cap r :=
 h.grown (aA (aA (aA (aA (nV _ _ _ _) (nV _ _ _ _)) (nV _ _ _ _)) (nV _ _ _ _)) (nV _ _ _ _)) (fun k h1 h2 e => by injection e; omega)

theorem Own.wide {v : World} {lo hi lo' hi' : Nat} {ao : Option Addr} {cap : Nat} {r : List Nat} (h : Own v lo hi ao cap r) (h1 : lo' ≤ lo) (h2 : hi ≤ hi') : Own v lo' hi' ao cap r :=
 ⟨h.row, fun k hk => by have := h.place k hk; omega⟩

theorem xN {u W' : World} (o : Obj) (hb : Below (u.alloc o).heap.size (u.alloc o) W') : Below u.heap.size u W' := ((Below.refl _ _).alloc (Nat.le_refl _) o).trans (hb.mono (by simp))

theorem sS {v W u : World} {ao : Option Addr} {cap : Nat} {r : List Nat} (hB : Below v.heap.size v W) (ho : u.ownsRow W.heap.size 23 1 (.slice ao r.length cap) r.length (U r)) : Own u v.heap.size u.heap.size ao cap r := (Own.of ho).wide hB.size (Nat.le_refl _)

theorem oN (u : World) (t : TypeId) : Rd (u.alloc (.cells #[.int .u64 1] t)) (some ⟨u.heap.size, 0, none⟩) [1] := by
 intro _
 refine ⟨u.heap.size, 0, rfl, fun i hi => ?_⟩
 have : i = 0 := by simp at hi; omega
 subst this
 simp [go_sem]

theorem qJ {v : World} {g k : Nat} (hk : g ≠ k) (a b c d e : Value) (j : Nat) : (((((v.setCell ⟨k, 0, none⟩ a).setCell ⟨k, 1, none⟩ b).setCell ⟨k, 2, none⟩ c).setCell ⟨k, 3, none⟩ d).setCell ⟨k, 4, none⟩ e).cell? ⟨g, j, none⟩ = v.cell? ⟨g, j, none⟩ := by
 have e1 : ∀ (u : World) (o : Nat) (x : Value), (u.setCell ⟨k, o, none⟩ x).cell? ⟨g, j, none⟩ = u.cell? ⟨g, j, none⟩ := fun u o x => World.cell?_setCell_other u ⟨k, o, none⟩ ⟨g, j, none⟩ x (by intro hh; have := congrArg Addr.block hh; simp only at this; omega)
 rw [e1, e1, e1, e1, e1]

structure Bv (w v : World) (gq gl : Nat) (e0 e1 e2 e3 e4 : Int) (e5 : Bool) (T : M.Pt) (Q X : Nat) : Prop where
 b : Below w.heap.size w v
 d : D6 v w.heap.size e0 e1 e2 e3 e4 e5
 p : P5 v (w.heap.size + 1) T
 r : I5 v (w.heap.size + 1 + 1)
 q : W2 v gq Q
 x : W2 v gl X
 l : w.heap.size + 1 + 1 < gq
 k : gq < gl

theorem Bv.below {w v v' : World} {gq gl : Nat} {e0 e1 e2 e3 e4 : Int} {e5 : Bool} {T : M.Pt} {Q X : Nat} (h : Bv w v gq gl e0 e1 e2 e3 e4 e5 T Q X) (hb : Below v.heap.size v v') : Bv w v' gq gl e0 e1 e2 e3 e4 e5 T Q X :=
 ⟨h.b.trans (hb.mono h.b.size), h.d.below hb, h.p.below hb, h.r.below hb, h.q.bl hb, h.x.bl hb, h.l, h.k⟩

theorem Bv.set {w v : World} {gq gl : Nat} {e0 e1 e2 e3 e4 : Int} {e5 : Bool} {T : M.Pt} {Q X : Nat} (h : Bv w v gq gl e0 e1 e2 e3 e4 e5 T Q X) (Y : Nat) : Bv w ((v.setCell ⟨gl, 0, none⟩ (.int .u64 (M.hiN Y : Int))).setCell ⟨gl, 1, none⟩ (.int .u64 (M.loN Y : Int))) gq gl e0 e1 e2 e3 e4 e5 T Q Y := by
 have l := h.l
 have k := h.k
 exact ⟨(h.b.setCell (p := ⟨gl, 0, none⟩) (by simp only; omega) _).setCell (p := ⟨gl, 1, none⟩) (by simp only; omega) _, h.d.far (by omega) _ _, h.p.far2 (by omega) _ _, h.r.far (by omega) _ _, h.q.farS (by omega) _ _, iD h.x.1 h.x.2.1 h.x.2.2.1 h.x.2.2.2.1, l, k⟩

end Go.Proofs.YtdfljbpcjkbflaaGreatDoor
