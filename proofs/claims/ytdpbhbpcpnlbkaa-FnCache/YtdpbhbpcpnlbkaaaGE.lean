import Derived.Test.YtdpbhbpcpnlbkaaaCs6
namespace Go.Proofs.Ytdpbhbpcpnlbkaa
open Go.RowKit Go.Maps
set_option linter.unusedVariables false
set_option maxRecDepth 100000
def OB (wr : World) (B : Nat) (tv : Value) (len ob : Nat → Nat) (k : Nat) : Prop :=
 (∀ t, t < k → Bf wr (ob t) 3 (len t) (fun _ => .int .i64 0) ∧ B ≤ ob t ∧ tv.ownBlock ≠ some (ob t)) ∧ ∀ t t', t < k → t' < k → ob t = ob t' → t = t'

theorem OB.below {wr wv : World} {B k : Nat} {tv : Value} {len ob : Nat → Nat} (h : OB wr B tv len ob k) (b : Below wr.heap.size wr wv) : OB wv B tv len ob k :=
 ⟨fun t ht => ⟨(h.1 t ht).1.below b, (h.1 t ht).2⟩, h.2⟩

def J1 (U0 : World) (rb : Nat) (len : Nat → Nat) (a b : Nat) (tv ov : Value) (ob : Nat → Nat) (wr : World) : Prop :=
 RJ U0 rb false 0 Q.Rst.init.c (fun _ => 0) len ob [] a b tv ov (.slice none 0 0) wr ∧ OB wr U0.heap.size tv len ob b

theorem J1.below {U0 wr wv : World} {rb a b : Nat} {len ob : Nat → Nat} {tv ov : Value} (h : J1 U0 rb len a b tv ov ob wr) (k : Below wr.heap.size wr wv) : J1 U0 rb len a b tv ov ob wv := by
 obtain ⟨⟨hC, ht, ho, hv, hb⟩, ob1⟩ := h
 have t := Tn.below (fun _ => False) k
 exact ⟨⟨hC.below k, own_tn ht t (fun _ _ h => h), own_tn ho t (fun _ _ h => h), own_tn hv t (fun _ _ h => h), hb.trans (k.mono hb.size)⟩, ob1.below k⟩

theorem J1.step5 {U0 wr U w1 : World} {rb k g cap : Nat} {len ob : Nat → Nat} {tv ov : Value} (h : J1 U0 rb len k k tv ov ob wr) (bU : Below wr.heap.size wr U) (t1 : Tn (fun k' => tv.ownBlock = some k') U w1)
 (own1 : w1.ownsRow U0.heap.size 3 1 (.slice (some ⟨g, 0, none⟩) (k + 1) cap) (k + 1) (((List.range k).map fun t => .int .i64 ((0 : Nat) : Int)) ++ [.int .i64 ((0 : Nat) : Int)])) (at1 : tv.ownBlock = some g ∨ g = U.heap.size) (hrb : U0.heap.size ≤ rb) : J1 U0 rb len (k + 1) k (.slice (some ⟨g, 0, none⟩) (k + 1) cap) ov ob (w1.setCell ⟨rb, 3, none⟩ (.slice (some ⟨g, 0, none⟩) (k + 1) cap)) := by
 obtain ⟨rj, ob1⟩ := h
 have r2 := rj.step5 bU t1 own1 hrb
 refine ⟨r2, fun t ht => ⟨?_, (ob1.1 t ht).2.1, ?_⟩, ob1.2⟩
 · have o := ((ob1.1 t ht).1.below bU).tn t1 (ob1.1 t ht).2.2
   have hC := rj.1
   have c1 : Cls w1 rb _ 32 := (t1.block rb (hC.below bU).lt (own_ty rj.2.1 (Bf.cls hC) (by decide))).trans (hC.below bU)
   exact o.far _ _ _ (o.ne (Bf.cls c1) (by decide))
 · intro e
   simp [Value.ownBlock] at e
   rcases at1 with h | h
   · exact (ob1.1 t ht).2.2 (by rw [h, e])
   · have := (ob1.1 t ht).1.lt; have := bU.size; omega

theorem J1.step6 {U0 wr U w1 : World} {rb k g cap nb : Nat} {len ob : Nat → Nat} {tv ov : Value} (h : J1 U0 rb len (k + 1) k tv ov ob wr) (bU : Below wr.heap.size wr U) (t1 : Tn (fun k' => ov.ownBlock = some k') U w1) (hnb : wr.heap.size ≤ nb) (nO : Bf U nb 3 (len k) (fun _ => .int .i64 0))
 (own1 : w1.ownsRow U0.heap.size 26 1 (.slice (some ⟨g, 0, none⟩) (k + 1) cap) (k + 1) (((List.range k).map fun t => .slice (some ⟨ob t, 0, none⟩) (len t) (len t)) ++ [.slice (some ⟨nb, 0, none⟩) (len k) (len k)])) (hrb : U0.heap.size ≤ rb) : J1 U0 rb len (k + 1) (k + 1) tv (.slice (some ⟨g, 0, none⟩) (k + 1) cap) (fun t => if t = k then nb else ob t) (w1.setCell ⟨rb, 4, none⟩ (.slice (some ⟨g, 0, none⟩) (k + 1) cap)) := by
 obtain ⟨rj, ob1⟩ := h
 have e0 : ((List.range k).map fun t => Value.slice (some ⟨ob t, 0, none⟩) (len t) (len t)) = ((List.range k).map fun t => Value.slice (some ⟨(fun t => if t = k then nb else ob t) t, 0, none⟩) (len t) (len t)) := by
  apply List.map_congr_left
  intro t ht
  have : t ≠ k := by have := List.mem_range.1 ht; omega
  simp only [if_neg this]
 have rj' : RJ U0 rb false 0 Q.Rst.init.c (fun _ => 0) len (fun t => if t = k then nb else ob t) [] (k + 1) k tv ov (.slice none 0 0) wr := by
  obtain ⟨a, b, c, d⟩ := rj
  rw [e0] at c
  exact ⟨a, b, c, d⟩
 have ek : nb = (fun t => if t = k then nb else ob t) k := by simp
 have r2 := rj'.step6 bU t1 (by rw [← e0]; simp only [if_true]; exact own1) hrb
 have hC := rj.1
 have hov := rj.2.2.1
 have htv := rj.2.1
 have c1 : Cls w1 rb _ 32 := (t1.block rb (hC.below bU).lt (own_ty hov (Bf.cls hC) (by decide))).trans (hC.below bU)
 have hne : ∀ g, ov.ownBlock = some g → g < wr.heap.size := fun g e => (own_lt hov e).1
 refine ⟨r2, fun t ht => ?_, fun t t' ht ht' => ?_⟩
 · by_cases e : t = k
   · subst e
     simp only [if_true]
     have o := nO.tn t1 (fun e => by have := hne _ e; omega)
     refine ⟨o.far _ _ _ (o.ne (Bf.cls c1) (by decide)), by have := rj.2.2.2.2.size; omega, fun e => ?_⟩
     have := (own_lt htv e).1; omega
   · simp only [if_neg e]
     have ht2 : t < k := by omega
     have o := ((ob1.1 t ht2).1.below bU).tn t1 (own_ty hov (ob1.1 t ht2).1 (by decide))
     exact ⟨o.far _ _ _ (o.ne (Bf.cls c1) (by decide)), (ob1.1 t ht2).2.1, (ob1.1 t ht2).2.2⟩
 · by_cases e1 : t = k <;> by_cases e2 : t' = k
   · intro _; rw [e1, e2]
   · simp only [if_pos e1, if_neg e2]; intro e; have := (ob1.1 t' (by omega)).1.lt; omega
   · simp only [if_neg e1, if_pos e2]; intro e; have := (ob1.1 t (by omega)).1.lt; omega
   · simp only [if_neg e1, if_neg e2]; exact ob1.2 t t' (by omega) (by omega)

theorem zero_new (w : World) (n : Nat) : Bf (w.alloc (.cells (madeCells #[.int .i64 0] n) 3)) w.heap.size 3 n (fun _ => .int .i64 0) := ⟨_, heap_alloc_new _ _, size_madeCells _ _, fun i hi => made1 _ i hi⟩

theorem out_new (w : World) (n : Nat) (o : Obj) : Bf ((w.alloc (.cells (madeCells #[.int .i64 0] n) 3)).alloc o).drew w.heap.size 3 n (fun _ => .int .i64 0) := ((zero_new w n).below ((Below.refl _ _).alloc (Nat.le_refl _) _)).qt (Qt.drew _)

def zOf (tasks : List (List (Int × Int))) (n : Nat) (r : Q.Rst) : SS := { nt := n, ns := n, c := r.c, fin := r.fin, ts := r.ts, cur := r.cur, out := r.out, ky := fun t => Q.keyAt tasks t (r.fin t), g := fun _ => true, dn := false }

theorem infoSe : (Try.prog.info? 84).map (fun i => (i.zero, i.size, i.bytes)) = some (some (.agg #[.int .i64 0, .int .i64 0, .int .i64 0, .int .i64 0, .int .i64 0, .int .i64 0]), 6, 48) := by kernel_rfl

theorem made6 (n : Nat) (i : Nat) (hi : i < n * 6) : (madeCells #[.int .i64 0, .int .i64 0, .int .i64 0, .int .i64 0, .int .i64 0, .int .i64 0] (n * 6))[i]? = some (.int .i64 0) := by
 have h2 : i % 6 = 0 ∨ i % 6 = 1 ∨ i % 6 = 2 ∨ i % 6 = 3 ∨ i % 6 = 4 ∨ i % 6 = 5 := by omega
 simp only [madeCells]
 rw [Array.getElem?_map, Array.getElem?_eq_getElem (by simpa using hi)]
 rcases h2 with h | h | h | h | h | h <;> simp [h]

theorem mj_first {u1 wr u4 : World} {N S n qb sb hb pc : Nat} {pa : Option Addr} {pn : Nat} {tasks : List (List (Int × Int))} {tv ov : Value} {ob : Nat → Nat} (hn : tasks.length = n) (j1 : J1 u1 u1.heap.size (Q.lenAt tasks) n n tv ov ob wr) (b4 : Below wr.heap.size wr u4)
 (hq : Bf u4 qb 89 9 (fnq N S (N * S) sb hb)) (hs : Bf u4 sb 123 (N * S * 5) fns) (hh : Bf u4 hb 3 N (fun _ => .int .i64 0)) (lq : wr.heap.size < qb) (ls : wr.heap.size < sb) (lh : wr.heap.size < hb) (u5 : World) (h5 : u5 = ((u4.alloc (.cells #[.slice pa pn pc, .int .i64 0, .int .i64 0] 80)).alloc (.cells (madeCells #[.int .i64 0] n) 3)).alloc (.cells (madeCells #[.int .i64 0, .int .i64 0, .int .i64 0, .int .i64 0, .int .i64 0, .int .i64 0] (n * 6)) 84)) :
 ∃ l : SL, l = { L := ⟨qb, sb, hb, u4.heap.size + 1 + 1, N, S, n⟩, rb := u1.heap.size, tb := u4.heap.size, ab := u4.heap.size + 1, tv := tv, ov := ov, ob := ob, len := Q.lenAt tasks, B := u1.heap.size } ∧ SOK u1 l ∧ MJ u1 l pa pn pc (zOf tasks 0 Q.Rst.init) u5 := by
 obtain ⟨⟨hC, ht, ho, hv, hb1⟩, hob⟩ := j1
 have s1 : (u4.alloc (.cells #[.slice pa pn pc, .int .i64 0, .int .i64 0] 80)).heap.size = u4.heap.size + 1 := by simp
 have s2 : ((u4.alloc (.cells #[.slice pa pn pc, .int .i64 0, .int .i64 0] 80)).alloc (.cells (madeCells #[.int .i64 0] n) 3)).heap.size = u4.heap.size + 1 + 1 := by simp
 have b5 : Below u4.heap.size u4 u5 := by rw [h5]; exact (((Below.refl _ _).alloc (Nat.le_refl _) _).alloc (by omega) _).alloc (by omega) _
 have nT : Bf u5 u4.heap.size 80 3 (ftu pa pn pc 0) := by
  rw [h5]
  refine ((Bf.of_new u4 #[.slice pa pn pc, .int .i64 0, .int .i64 0] 80).congr ?_).below (((Below.refl _ _).alloc (Nat.le_refl _) _).alloc (by omega) _)
  intro i hi
  match i, hi with
  | 0, _ => rfl
  | 1, _ => rfl
  | 2, _ => simp [ftu]
 have nA : Bf u5 (u4.heap.size + 1) 3 n (fun _ => .int .i64 0) := by
  rw [h5, ← s1]; exact (zero_new _ n).below ((Below.refl _ _).alloc (Nat.le_refl _) _)
 have nN : Bf u5 (u4.heap.size + 1 + 1) 84 (n * 6) (fun _ => .int .i64 0) := by
  rw [h5, ← s2]; exact ⟨_, heap_alloc_new _ _, size_madeCells _ _, fun i hi => made6 _ i hi⟩
 have b45 : Below wr.heap.size wr u5 := b4.trans (b5.mono b4.size)
 have t := Tn.below (fun _ => False) b45
 have z1 := hb1.size
 have lh4 := hh.lt; have z4 := b4.size
 refine ⟨_, rfl, ⟨rfl, fun g e => ?_, fun t ht => ?_, ?_, hob.2, fun t ht => (hob.1 t ht).2.2, ?_, ?_, ?_, ?_, ?_, ?_, ?_, fun t ht => (hob.1 t ht).2.1⟩, ⟨⟨⟨fnq N S (N * S) sb hb, fns, fun _ => .int .i64 0, fun _ => .int .i64 0⟩, ⟨hq.below b5, hs.below b5, hh.below b5, nN⟩, ?_, fun t ht _ => ?_⟩, hC.below b45, own_tn ht t (fun _ _ h => h), own_tn ho t (fun _ _ h => h), fun t ht => (hob.1 t ht).1.below b45, nA, nT, hb1.trans (b45.mono hb1.size)⟩⟩
 · have := (own_lt ht e).1; simp only; omega
 · have := (hob.1 t ht).1.lt; simp only; omega
 · simp only; omega
 · simp only; omega
 · simp only; omega
 · simp only; omega
 · simp only; omega
 · simp only; omega
 · simp only; omega
 · simp only; omega
 · refine ⟨rfl, rfl, rfl, rfl, rfl, rfl, rfl, rfl, rfl, fun i hi => rfl, fun i j hi hj => ⟨?_, ?_, ?_, ?_, ?_⟩⟩
   · have e : (i * S + j) * 5 % 5 = 0 := by omega
     simp [fns, zOf, Q.Rst.init]
   · have e : ((i * S + j) * 5 + 1) % 5 = 1 := by omega
     simp only [fns]; rw [if_neg (by omega)]; rfl
   · have e : ((i * S + j) * 5 + 2) % 5 = 2 := by omega
     simp only [fns]; rw [if_neg (by omega)]; rfl
   · have e : ((i * S + j) * 5 + 3) % 5 = 3 := by omega
     simp only [fns]; rw [if_pos (by omega)]; rfl
   · have e : ((i * S + j) * 5 + 4) % 5 = 4 := by omega
     simp only [fns]; rw [if_neg (by omega)]; rfl
 · exact ⟨rfl, rfl, fun h => by simp [zOf, Q.Rst.init, Q.new] at h⟩

theorem updN_same {α : Type} (f : Nat → α) (t : Nat) : Q.updN f t (f t) = f := by funext a; unfold Q.updN; split <;> simp_all

theorem z_on {N S n t : Nat} {tasks : List (List (Int × Int))} {r : Q.Rst} {x : Q.Cch × Q.Sea × Nat} (hx : x = Q.stp S (Q.keyAt tasks t (r.fin t)) (Q.shd N (Q.keyAt tasks t (r.fin t))) (Q.hom S (Q.keyAt tasks t (r.fin t))) r.c (r.cur t)) (h0 : x.2.2 = 0) :
 zOf tasks (n + 1) (Q.stepR N S tasks t r) = { zOf tasks n r with nt := n + 1, ns := n + 1, c := x.1, ts := Q.updN r.ts t (r.ts t + 1), cur := Q.updN r.cur t x.2.1, g := fun a => if a = t then decide (x.2.2 = 0) else true } := by
 subst hx
 have hg : (fun a => if a = t then decide ((Q.stp S (Q.keyAt tasks t (r.fin t)) (Q.shd N (Q.keyAt tasks t (r.fin t))) (Q.hom S (Q.keyAt tasks t (r.fin t))) r.c (r.cur t)).2.2 = 0) else true) = fun _ => true := by
  funext a; split
  · exact decide_eq_true h0
  · rfl
 rw [hg]
 unfold zOf Q.stepR
 simp only [if_pos h0, updN_same]

theorem z_end {N S n t : Nat} {tasks : List (List (Int × Int))} {r : Q.Rst} {x : Q.Cch × Q.Sea × Nat} {c1 : Nat → Q.Sea} {g1 : Nat → Bool} (hx : x = Q.stp S (Q.keyAt tasks t (r.fin t)) (Q.shd N (Q.keyAt tasks t (r.fin t))) (Q.hom S (Q.keyAt tasks t (r.fin t))) r.c (r.cur t)) (h0 : x.2.2 ≠ 0) (hc1 : c1 = Q.updN (Q.updN r.cur t x.2.1) t Q.new) (hg1 : g1 = fun a => if a = t then true else (if a = t then decide (x.2.2 = 0) else true)) :
 zOf tasks (n + 1) (Q.stepR N S tasks t r) = { zOf tasks n r with nt := n + 1, ns := n + 1, c := x.1, ts := Q.updN r.ts t (r.ts t + 1), out := Q.updN r.out t (Q.updN (r.out t) (r.fin t) x.2.2), fin := Q.updN r.fin t (r.fin t + 1), ky := fun a => Q.keyAt tasks a (Q.updN r.fin t (r.fin t + 1) a), cur := c1, g := g1 } := by
 subst hx; subst hc1; subst hg1
 have hg : (fun a => if a = t then true else (if a = t then decide ((Q.stp S (Q.keyAt tasks t (r.fin t)) (Q.shd N (Q.keyAt tasks t (r.fin t))) (Q.hom S (Q.keyAt tasks t (r.fin t))) r.c (r.cur t)).2.2 = 0) else true)) = fun _ => true := by
  funext a; split
  · rfl
  · rfl
 have hc : Q.updN (Q.updN r.cur t (Q.stp S (Q.keyAt tasks t (r.fin t)) (Q.shd N (Q.keyAt tasks t (r.fin t))) (Q.hom S (Q.keyAt tasks t (r.fin t))) r.c (r.cur t)).2.1) t Q.new = Q.updN r.cur t Q.new := by
  funext a; unfold Q.updN; split <;> rfl
 rw [hg, hc]
 unfold zOf Q.stepR
 simp only [if_neg h0]

def lI (tasks : List (List (Int × Int))) (r : Q.Rst) (j : Nat) : List Nat := (List.range j).filter fun t => decide (r.fin t < Q.lenAt tasks t)

theorem lI_yes {tasks : List (List (Int × Int))} {r : Q.Rst} {j : Nat} (h : r.fin j < Q.lenAt tasks j) : lI tasks r (j + 1) = lI tasks r j ++ [j] := by
 simp [lI, List.range_succ, List.filter_append, h]

theorem lI_no {tasks : List (List (Int × Int))} {r : Q.Rst} {j : Nat} (h : ¬ r.fin j < Q.lenAt tasks j) : lI tasks r (j + 1) = lI tasks r j := by
 simp only [lI, List.range_succ, List.filter_append]
 simp; omega

theorem lI_len (tasks : List (List (Int × Int))) (r : Q.Rst) (j : Nat) : (lI tasks r j).length ≤ j := Nat.le_trans (List.length_filter_le _ _) (by simp)

def OwI (w : World) (base : Nat) (v : Value) (xs : List Nat) : Prop := w.ownsRow base 3 1 v xs.length (xs.map fun t : Nat => Value.int .i64 (t : Int))

theorem OwI.below {w u : World} {base : Nat} {v : Value} {xs : List Nat} (h : OwI w base v xs) (k : Below w.heap.size w u) : OwI u base v xs := own_tn h (Tn.below (fun _ => False) k) (fun _ _ e => e)

def TL (u1 : World) (l : SL) (pa : Option Addr) (pc N S : Nat) (tasks : List (List (Int × Int))) (picks : List Int) (m : Nat) (wx : World) : Prop :=
 (Q.liv tasks (Q.run N S tasks picks m) = [] ∨ m = 40000) ∧ m ≤ 40000 ∧ (∀ m', m' < m → Q.liv tasks (Q.run N S tasks picks m') ≠ []) ∧ MJ u1 l pa picks.length pc { zOf tasks m (Q.run N S tasks picks m) with dn := decide (Q.liv tasks (Q.run N S tasks picks m) = []) } wx

theorem choose_mj {u1 wr : World} {l : SL} {pa : Option Addr} {pc : Nat} {picks : List Int} {z : SS} (m : MJ u1 l pa picks.length pc z wr) (k : SOK u1 l) (hn : z.nt < 100000) (hP : RdI wr pa picks) (L : Nat) (hL : 0 < L) (hL2 : L < 1000000) :
 Calls Try.prog 35 #[.pointer (some ⟨l.tb, 0, none⟩), .int .i64 L] wr fun e w' => e = .returned (.int .i64 (Q.plc picks z.nt L : Int)) ∧ MJ u1 l pa picks.length pc { z with nt := z.nt + 1 } w' ∧ Tn (fun g => g = l.tb) wr w' := by
 have nn := m.ne k
 have c0 := (m.tu.cell 0 (by omega)).trans (congrArg some (show ftu pa picks.length pc z.nt 0 = .slice pa picks.length pc from rfl))
 have c1 := (m.tu.cell 1 (by omega)).trans (congrArg some (show ftu pa picks.length pc z.nt 1 = .int .i64 (z.nt : Int) from rfl))
 have c2 := (m.tu.cell 2 (by omega)).trans (congrArg some (show ftu pa picks.length pc z.nt 2 = .int .i64 ((z.nt - picks.length : Nat) : Int) from rfl))
 by_cases h : z.nt < picks.length
 · obtain ⟨b, off, rfl, hc⟩ := hP (by omega)
   have hpl : (picks.getD z.nt 0) % (L : Int) = (Q.plc picks z.nt L : Int) := by
    unfold Q.plc; rw [if_pos h]; exact (Int.toNat_of_nonneg (Int.emod_nonneg _ (by omega))).symm
   refine (choose_pick l.tb picks.length pc b off (Q.plc picks z.nt L) z.nt L (picks.getD z.nt 0) wr c0 c1 m.tu.frozen h (by omega) (hc _ h) hL hL2 hpl).mono ?_
   rintro e w' ⟨rfl, q⟩
   exact ⟨rfl, (m.tun2 k nn _ rfl h).qt q, (Tn.set (fun g => g = l.tb) _ _ _ rfl).trans (Tn.qt _ q)⟩
 · have hpl : (z.nt - picks.length) % L = Q.plc picks z.nt L := by unfold Q.plc; rw [if_neg h]
   refine (choose_late l.tb picks.length pc (Q.plc picks z.nt L) pa z.nt (z.nt - picks.length) L wr c0 c1 c2 m.tu.frozen (by omega) (by omega) (by omega) hL hpl).mono ?_
   rintro e w' ⟨rfl, q⟩
   refine ⟨rfl, (m.tun1 k nn _ rfl _ ?_).qt q, ((Tn.set (fun g => g = l.tb) _ _ _ rfl).trans (Tn.set _ _ _ _ rfl)).trans (Tn.qt _ q)⟩
   have : z.nt + 1 - picks.length = z.nt - picks.length + 1 := by omega
   rw [this]; simp

theorem MJ.rows {w0 : World} {l : SL} {pa : Option Addr} {pn pc : Nat} {z : SS} {wr : World} (m : MJ w0 l pa pn pc z wr) (t : Nat) (ht : t < l.L.T) :
 (∃ g cap, l.tv = .slice (some ⟨g, 0, none⟩) l.L.T cap ∧ wr.cell? ⟨g, t, none⟩ = some (.int .i64 (z.ts t : Int)) ∧ wr.frozen? ⟨g, t, none⟩ = false) ∧ (∃ g cap, l.ov = .slice (some ⟨g, 0, none⟩) l.L.T cap ∧ wr.cell? ⟨g, t, none⟩ = some (.slice (some ⟨l.ob t, 0, none⟩) (l.len t) (l.len t))) := by
 obtain ⟨n, hn⟩ : ∃ n, l.L.T = n + 1 := ⟨l.L.T - 1, by omega⟩
 constructor
 · have tv := m.tv
   rw [hn] at tv ⊢
   obtain ⟨g, cap, e, -, -⟩ := own_form tv
   rw [e] at tv
   refine ⟨g, cap, e, ?_, tv.frozenAt t⟩
   have := tv.cellAt t (by omega)
   rw [this, List.getElem?_map, List.getElem?_range (by omega)]; rfl
 · have ov := m.ov
   rw [hn] at ov ⊢
   obtain ⟨g, cap, e, -, -⟩ := own_form ov
   rw [e] at ov
   refine ⟨g, cap, e, ?_⟩
   have := ov.cellAt t (by omega)
   rw [this, List.getElem?_map, List.getElem?_range (by omega)]; rfl

theorem MJ.rep1 {w0 : World} {l : SL} {pa : Option Addr} {pn pc : Nat} {z : SS} {wr : World} (m : MJ w0 l pa pn pc z wr) : Cls wr l.rb #[.bool true, .bool z.dn, .int .i64 z.ns, l.tv, l.ov, .int .i64 0, .int .i64 0, .int .i64 0, .int .i64 0, .int .i64 0, .slice none 0 0] 32 := m.rep

theorem OwI.at {w : World} {base : Nat} {v : Value} {xs : List Nat} (h : OwI w base v xs) (p t : Nat) (hp : xs[p]? = some t) : ∃ g cap, v = .slice (some ⟨g, 0, none⟩) xs.length cap ∧ w.cell? ⟨g, p, none⟩ = some (.int .i64 (t : Int)) := by
 have hl := (List.getElem?_eq_some_iff.1 hp).1
 obtain ⟨n, hn⟩ : ∃ n, xs.length = n + 1 := ⟨xs.length - 1, by omega⟩
 unfold OwI at h
 rw [hn] at h ⊢
 obtain ⟨g, cap, e, -, -⟩ := own_form h
 rw [e] at h
 refine ⟨g, cap, e, ?_⟩
 have := h.cellAt p (by omega)
 rw [this, List.getElem?_map, hp]; rfl

theorem step_mj {u1 wr v : World} {l : SL} {pa : Option Addr} {pn pc n t : Nat} {z : SS} {kk : Int × Int} (m : MJ u1 l pa pn pc z wr) (k : SOK u1 l) (d : SD l.L) (ht : t < l.L.T) (hg : z.g t = true) (hky : z.ky t = kk) (hk : keyOk kk.1 kk.2) (ok : Q.CchOk l.L.S n z.c) (sok : Q.SeaOk l.L.S (z.cur t)) (hn : n < 100000)
 (q : Qt ((wr.setCell ⟨l.L.nb, t * 6, none⟩ (.int .i64 kk.1)).setCell ⟨l.L.nb, t * 6 + 1, none⟩ (.int .i64 kk.2)) v) (x : Q.Cch × Q.Sea × Nat) (hx : x = Q.stp l.L.S kk (Q.shd l.L.N kk) (Q.hom l.L.S kk) z.c (z.cur t)) :
 Calls Try.prog 36 #[.pointer (some ⟨l.L.qb, 0, none⟩), .pointer (some ⟨l.L.nb, t * 6, none⟩)] v fun e w' => e = .returned (.int .i64 (x.2.2 : Int)) ∧ MJ u1 l pa pn pc { z with c := x.1, cur := Q.updN z.cur t x.2.1, g := fun t' => if t' = t then decide (x.2.2 = 0) else z.g t' } w' := by
 subst hx
 obtain ⟨mk, R, si, sc, sn, k0, k1⟩ := m.key k (m.ne k) t ht kk
 have sn1 := sn t ht hg
 rw [hky] at sn1
 refine (sstep_any d (si.qt q) sc sn1 ht k0 k1 hk ok sok hn).mono ?_
 rintro e w' ⟨x, rfl, rfl, so⟩
 exact ⟨rfl, (mk.qt q).step k (m.ne k) t kk _ sn hky so⟩

theorem fin_tn (u : World) (rb g : Nat) (y x0 x1 x2 x3 x4 x5 x6 x7 x8 x9 x10 : Value) : Tn (fun k => k = rb ∨ k = g) u ((((((((((((u.setCell ⟨rb, 10, none⟩ y).setCell ⟨g, 0, none⟩ x0).setCell ⟨g, 1, none⟩ x1).setCell ⟨g, 2, none⟩ x2).setCell ⟨g, 3, none⟩ x3).setCell ⟨g, 4, none⟩ x4).setCell ⟨g, 5, none⟩ x5).setCell ⟨g, 6, none⟩ x6).setCell ⟨g, 7, none⟩ x7).setCell ⟨g, 8, none⟩ x8).setCell ⟨g, 9, none⟩ x9).setCell ⟨g, 10, none⟩ x10) :=
 (Tn.set (fun k => k = rb ∨ k = g) rb 10 y (.inl rfl)).trans ((tn11 _ g x0 x1 x2 x3 x4 x5 x6 x7 x8 x9 x10).mono (fun k _ e => .inr e))

end Go.Proofs.Ytdpbhbpcpnlbkaa
