import Derived.Test.YtogkkecnmlnajaaDoorqBY
import Derived.Test.YtogkkecnmlnajaaDoorqBF
set_option maxHeartbeats 1000000
namespace Go.Proofs.YtogkkecnmlnajaaDoor
open Go.RowKit
set_option linter.unusedVariables false
set_option maxRecDepth 100000
def Rp (w0 v : World) (ao : Option Addr) (n c i : Nat) : Prop := i ≤ n ∧ IsRdr v w0.heap.size ao n c i ∧ Below w0.heap.size w0 v

theorem Rp.keep {w0 v v' : World} {ao : Option Addr} {n c i : Nat} (h : Rp w0 v ao n c i) (hb : Below v.heap.size v v') : Rp w0 v' ao n c i :=
 ⟨h.1, (hb.block _ h.2.1.lt).trans h.2.1, h.2.2.trans (hb.mono h.2.2.size)⟩

theorem Rp.alloc {w0 v : World} {ao : Option Addr} {n c i : Nat} (h : Rp w0 v ao n c i) (o : Obj) : Rp w0 (v.alloc o) ao n c i := h.keep ((Below.refl _ _).alloc (Nat.le_refl _) _)

theorem Rp.below {w0 v : World} {ao : Option Addr} {n c i : Nat} (h : Rp w0 v ao n c i) : Below w0.heap.size w0 v := h.2.2

theorem Rp.set {w0 v : World} {ao : Option Addr} {n c j : Nat} (h : Rp w0 v ao n c j) (b i : Nat) (x : Value) (hb : w0.heap.size < b) : Rp w0 (v.setCell ⟨b, i, none⟩ x) ao n c j := by
 obtain ⟨h1, h2, h3⟩ := h
 refine ⟨h1, ?_, h3.setCell (p := ⟨b, i, none⟩) (by simp only; omega) _⟩
 unfold IsRdr
 rw [Below.heap_setCell _ _ _ _ (by simp only; omega)]; exact h2

theorem sep0 {w : World} {ao : Option Addr} {bs : List Nat} (h : RdB w ao bs) : 0 < bs.length → ∀ b2 o2, ao = some ⟨b2, o2, none⟩ → b2 ≠ w.heap.size := by
 intro hp b2 o2 e
 obtain ⟨b3, o3, e3, hc⟩ := h.2 hp
 rw [e] at e3
 simp only [Option.some.injEq, Addr.mk.injEq] at e3
 have := World.block_lt_of_cell? w _ (hc 0 hp)
 simp at this
 omega

def Sx (g : Nat) (v v' : World) : Prop := v.heap.size ≤ v'.heap.size ∧ ∀ k, k < v.heap.size → k ≠ g → v'.heap[k]? = v.heap[k]?

theorem Sx.of {g : Nat} {v v' : World} (h : Below v.heap.size v v') : Sx g v v' := ⟨h.size, fun k hk _ => h.block k hk⟩

theorem Sx.grown {g : Nat} {v v' : World} (h : v.grownBy v' (some g)) : Sx g v v' := ⟨h.size, fun k hk hn => h.block k hk (by intro e; injection e with e; exact hn e)⟩

theorem Sx.cls {g b : Nat} {v v' : World} {xs : Array Value} {t : TypeId} (h : Sx g v v') (hc : Cls v b xs t) (hb : b ≠ g) : Cls v' b xs t := (h.2 b hc.lt hb).trans hc

theorem adv_leS (bs : List Nat) (i n : Nat) (hl : bs.length = n) (hi : i ≤ n) : adv bs i ≤ n := by unfold adv; split <;> omega

theorem nextP {w0 v : World} {ao : Option Addr} {n c i : Nat} {bs : List Nat} (hl : bs.length = n) (hn : n ≤ 1048576) (hb : RdB w0 ao bs) (h : Rp w0 v ao n c i) :
 Calls Tryd.prog 14 #[.pointer (some ⟨w0.heap.size, 0, none⟩)] v fun e v' => ∃ x j : Nat, Hid (x = rdB bs i ∧ j = adv bs i) ∧ x < 256 ∧ e = .returned (.int .i64 (x : Int)) ∧ Rp w0 v' ao n c j ∧ Sx w0.heap.size v v' := by
 obtain ⟨h1, h2, h3⟩ := h
 refine (next_any w0.heap.size ao n c i bs v hl hn h1 h2 (hb.below h3) _ rfl).mono ?_
 rintro e v' ⟨rfl, hR, hg⟩
 exact ⟨_, _, hid ⟨rfl, rfl⟩, rdB_lt hb i, rfl, ⟨adv_leS bs i n hl h1, hR, h3.grown hg h3.size (fun _ e => by cases e; exact Nat.le_refl _)⟩, Sx.grown hg⟩

theorem wideP {w0 v : World} {ao : Option Addr} {n c i : Nat} {bs : List Nat} (hl : bs.length = n) (hn : n ≤ 1048576) (hb : RdB w0 ao bs) (h : Rp w0 v ao n c i) :
 Calls Tryd.prog 52 #[.pointer (some ⟨w0.heap.size, 0, none⟩)] v fun e v' => ∃ x j : Nat, Hid (x = (wideK bs i 8).1 ∧ j = (wideK bs i 8).2) ∧ x < 18446744073709551616 ∧ e = .returned (.int .u64 (x : Int)) ∧ Rp w0 v' ao n c j ∧ Sx w0.heap.size v v' := by
 obtain ⟨h1, h2, h3⟩ := h
 refine (wide_any w0.heap.size ao n c i bs v hl hn h1 h2 (hb.below h3) (sep0 hb) _ _ rfl rfl).mono ?_
 rintro e v' ⟨rfl, hR, hg⟩
 have hlt := wideK_lt bs i hb.1 8
 exact ⟨_, _, hid ⟨rfl, rfl⟩, by simpa using hlt, rfl, ⟨wideK_le bs i n hl h1 8, hR, h3.grown hg h3.size (fun _ e => by cases e; exact Nat.le_refl _)⟩, Sx.grown hg⟩

def fmtF (bs : List Nat) (i : Nat) : Int := if 248 ≤ rdB bs i then (rdB bs i : Int) - 252 else ((rdB bs i % 4 : Nat) : Int)

theorem format_at {w0 v : World} {ao : Option Addr} {n c i : Nat} {bs : List Nat} (hl : bs.length = n) (hn : n ≤ 1048576) (hb : RdB w0 ao bs) (h : Rp w0 v ao n c i) :
 Calls Tryd.prog 13 #[.pointer (some ⟨w0.heap.size, 0, none⟩)] v fun e v' => e = .returned (.int .i64 (fmtF bs i)) ∧ Rp w0 v' ao n c (adv bs i) := by
 go_enter Tryd.func13, Tryd.ntmps13
 go_wp2_with fail
 refine (nextP hl hn hb h).mono ?_
 rintro e v1 ⟨x, j, HX, hx, rfl, h1, _⟩
 by_cases h8 : 248 ≤ x
 · have h8' : (248 : Int) ≤ (x : Int) := by omega
   go_wp2_with fail
   go_ret
   have := HX.out
   exact ⟨by unfold fmtF; rw [← this.1, if_pos h8]; rfl, by rw [← this.2]; exact h1⟩
 · have h8' : ¬ (248 : Int) ≤ (x : Int) := by omega
   have e4 : (x : Int).tmod 4 = ((x % 4 : Nat) : Int) := by rw [Int.tmod_eq_emod_of_nonneg (by omega)]; omega
   go_wp2_with fail
   go_ret
   have := HX.out
   exact ⟨by unfold fmtF; rw [← this.1, if_neg h8]; simp, by rw [← this.2]; exact h1⟩

structure Bx (w0 v : World) (ao : Option Addr) (n c i bR bD bP : Nat) (ds ps : Array Value) : Prop where
 rs : Rp w0 v ao n c i
 r : Cls v bR #[.int .u64 0, .int .u64 0] 28
 d : Cls v bD ds 56
 p : Cls v bP ps 33
 s0 : w0.heap.size < bR
 s1 : bR < bD
 s2 : bD < bP

theorem Bx.sx {w0 v v' : World} {ao : Option Addr} {n c i bR bD bP : Nat} {ds ps : Array Value} (h : Bx w0 v ao n c i bR bD bP ds ps) {j : Nat} (hx : Sx w0.heap.size v v') (hr : Rp w0 v' ao n c j) : Bx w0 v' ao n c j bR bD bP ds ps :=
 ⟨hr, hx.cls h.r (by have := h.s0; omega), hx.cls h.d (by have := h.s0; have := h.s1; omega), hx.cls h.p (by have := h.s0; have := h.s1; have := h.s2; omega), h.s0, h.s1, h.s2⟩

theorem Bx.keep {w0 v v' : World} {ao : Option Addr} {n c i bR bD bP : Nat} {ds ps : Array Value} (h : Bx w0 v ao n c i bR bD bP ds ps) (hb : Below v.heap.size v v') : Bx w0 v' ao n c i bR bD bP ds ps :=
 h.sx (Sx.of hb) (h.rs.keep hb)

theorem Bx.alloc {w0 v : World} {ao : Option Addr} {n c i bR bD bP : Nat} {ds ps : Array Value} (h : Bx w0 v ao n c i bR bD bP ds ps) (o : Obj) : Bx w0 (v.alloc o) ao n c i bR bD bP ds ps := h.keep ((Below.refl _ _).alloc (Nat.le_refl _) _)

theorem Bx.drew {w0 v : World} {ao : Option Addr} {n c i bR bD bP : Nat} {ds ps : Array Value} (h : Bx w0 v ao n c i bR bD bP ds ps) : Bx w0 v.drew ao n c i bR bD bP ds ps := h.keep (Below.refl _ _).drew

theorem Bx.setP {w0 v : World} {ao : Option Addr} {n c i bR bD bP : Nat} {ds ps : Array Value} (h : Bx w0 v ao n c i bR bD bP ds ps) (k : Nat) (x : Value) (qs : Array Value) (hq : ps.setIfInBounds k x = qs) : Bx w0 (v.setCell ⟨bP, k, none⟩ x) ao n c i bR bD bP ds qs :=
 ⟨h.rs.set bP k x (by have := h.s0; have := h.s1; have := h.s2; omega), h.r.far _ (by have := h.s1; have := h.s2; simp only; omega) _, h.d.far _ (by have := h.s2; simp only; omega) _, h.p.set k x qs hq, h.s0, h.s1, h.s2⟩

theorem Rd.sx {g : Nat} {v v' : World} {a : Option Addr} {xs : List Nat} (h : Rd v a xs) (hx : Sx g v v') (hg : ∀ b o, 0 < xs.length → a = some ⟨b, o, none⟩ → b ≠ g) : Rd v' a xs := by
 intro hp
 obtain ⟨b, o, e, hc⟩ := h hp
 refine ⟨b, o, e, fun i hi => ?_⟩
 have hb := hx.2 b (World.block_lt_of_cell? v _ (hc i hi)) (hg b o hp e)
 exact (World.cell?_of_block hb).trans (hc i hi)

structure Nw (w0 v : World) (a : Option Addr) (m c A : Nat) : Prop where
 len : (D A).length = m
 rd : Rd v a (D A)
 far : ∀ b o, 0 < (D A).length → a = some ⟨b, o, none⟩ → b ≠ w0.heap.size

theorem Nw.of {w0 v v' : World} {a : Option Addr} {c A : Nat} (h : v'.ownsRow v.heap.size 26 1 (.slice a (D A).length c) (D A).length (U (D A))) (hw : w0.heap.size < v.heap.size) : Nw w0 v' a (D A).length c A :=
 ⟨rfl, Rd.own h, fun b o hp e => by
   rcases h.2 with ⟨he, h0⟩ | ⟨g, cap', cur, he, hb, _⟩
   · omega
   · simp only [Value.slice.injEq] at he
     rw [e] at he
     simp only [Option.some.injEq, Addr.mk.injEq] at he
     omega⟩

theorem Nw.sx {w0 v v' : World} {a : Option Addr} {m c A : Nat} (h : Nw w0 v a m c A) (hx : Sx w0.heap.size v v') : Nw w0 v' a m c A := ⟨h.len, h.rd.sx hx h.far, h.far⟩

theorem Nw.keep {w0 v v' : World} {a : Option Addr} {m c A : Nat} (h : Nw w0 v a m c A) (hb : Below v.heap.size v v') : Nw w0 v' a m c A := h.sx (Sx.of hb)

theorem Nw.drew {w0 v : World} {a : Option Addr} {m c A : Nat} (h : Nw w0 v a m c A) : Nw w0 v.drew a m c A := h.keep (Below.refl _ _).drew

theorem Rp.lt {w0 v : World} {ao : Option Addr} {n c i : Nat} (h : Rp w0 v ao n c i) : w0.heap.size < v.heap.size := h.2.1.lt

theorem D_six {A : Nat} (h : A < 2 ^ 130) : (D A).length ≤ 6 := D_small A (by omega)

theorem inS {w0 : World} (x y : Nat) (u : World) (hx : x < 18446744073709551616) (hy : y < 18446744073709551616) (hw : w0.heap.size < u.heap.size) :
 Calls Tryd.prog 27 #[.slice (some ⟨u.heap.size, 0, none⟩) 2 2] (u.alloc (.cells #[.int .u64 (x : Int), .int .u64 (y : Int)] 26)) fun e u' => ∃ A a m c, Hid (A = x + y * 18446744073709551616) ∧ A < 2 ^ 128 ∧ e = .returned (.slice a m c) ∧ Nw w0 u' a m c A ∧ Below u.heap.size u u' := by
 have hB : Blk (u.alloc (.cells #[.int .u64 (x : Int), .int .u64 (y : Int)] 26)) u.heap.size [x, y] := heap_alloc_new u _
 have hs : u.heap.size ≤ (u.alloc (.cells #[.int .u64 (x : Int), .int .u64 (y : Int)] 26)).heap.size := by simp
 refine (l1In_any (some ⟨u.heap.size, 0, none⟩) 2 2 [x, y] _ rfl (by omega) (by intro z hz; simp at hz; omega) hB.rd0).mono ?_
 rintro e u' ⟨a, c, rfl, ho, hb⟩
 refine ⟨V [x, y], a, _, c, hid (by simp [V, M.val]; omega), ?_, rfl, Nw.of ho (by omega), ((Below.refl _ u).alloc (Nat.le_refl _) _).trans (hb.mono hs)⟩
 simp [V, M.val]; omega

theorem rightS {w0 : World} (A : Nat) (E : Int) (a : Option Addr) (m c : Nat) (u : World) (hA : A < 2 ^ 128) (hE1 : 0 ≤ E) (hE2 : E ≤ 1000) (hr : Nw w0 u a m c A) (hw : w0.heap.size < u.heap.size) :
 Calls Tryd.prog 51 #[.slice a m c, .int .i64 E] u fun e u' => ∃ B a' m' c', Hid (B = A / 2 ^ E.toNat) ∧ B < 2 ^ 128 ∧ e = .returned (.slice a' m' c') ∧ Nw w0 u' a' m' c' B ∧ Below u.heap.size u u' := by
 obtain ⟨s, rfl⟩ := Int.eq_ofNat_of_zero_le hE1
 have hl := hr.len
 have h6 := D_six (A := A) (by omega)
 refine (l1Right_any a m c s A u hl (by omega) (by omega) hr.rd).mono ?_
 rintro e u' ⟨a', c', rfl, ho, hb⟩
 exact ⟨_, a', _, c', hid (by rw [Int.toNat_natCast]), Nat.lt_of_le_of_lt (Nat.div_le_self _ _) hA, rfl, Nw.of ho hw, hb⟩

theorem lowS {w0 : World} (A s : Nat) (E : Int) (hE : E = (s : Int)) (a : Option Addr) (m c : Nat) (u : World) (hA : A < 2 ^ 128) (hs : s ≤ 128) (hr : Nw w0 u a m c A) (hw : w0.heap.size < u.heap.size) :
 Calls Tryd.prog 47 #[.slice a m c, .int .i64 E] u fun e u' => ∃ B a' m' c', Hid (B = A % 2 ^ s) ∧ B < 2 ^ s ∧ e = .returned (.slice a' m' c') ∧ Nw w0 u' a' m' c' B ∧ Below u.heap.size u u' := by
 subst hE
 have hl := hr.len
 have h6 := D_six (A := A) (by omega)
 refine (l2Low_any a m c s A u hl (by omega) hs hr.rd).mono ?_
 rintro e u' ⟨a', c', rfl, ho, hb⟩
 exact ⟨_, a', _, c', hid rfl, Nat.mod_lt _ (Nat.pow_pos (by omega)), rfl, Nw.of ho hw, hb⟩

theorem twoS {w0 : World} (s : Nat) (E : Int) (hE : E = (s : Int)) (u : World) (hs : s ≤ 128) (hw : w0.heap.size < u.heap.size) :
 Calls Tryd.prog 50 #[.int .i64 E] u fun e u' => ∃ a' m' c', e = .returned (.slice a' m' c') ∧ Nw w0 u' a' m' c' (2 ^ s) ∧ Below u.heap.size u u' := by
 subst hE
 refine (l2Two_any s u hs).mono ?_
 rintro e u' ⟨a', c', rfl, ho, hb⟩
 exact ⟨a', _, c', rfl, Nw.of ho hw, hb⟩

theorem ofS {w0 : World} (E : Int) (u : World) (hE1 : 0 ≤ E) (hE2 : E ≤ 1000) (hw : w0.heap.size < u.heap.size) :
 Calls Tryd.prog 21 #[.int .u64 E] u fun e u' => ∃ (B : Nat) (a' : Option Addr) (m' c' : Nat), (B : Int) = E ∧ e = .returned (.slice a' m' c') ∧ Nw w0 u' a' m' c' B ∧ Below u.heap.size u u' := by
 obtain ⟨s, rfl⟩ := Int.eq_ofNat_of_zero_le hE1
 refine (l1Of_any s u (by omega)).mono ?_
 rintro e u' ⟨a', c', rfl, ho, hb⟩
 exact ⟨s, a', _, c', rfl, rfl, Nw.of ho hw, hb⟩

theorem addS {w0 : World} (A B : Nat) (a b : Option Addr) (m k c d : Nat) (u : World) (hA : A < 2 ^ 129) (hB : B < 2 ^ 129) (hr : Nw w0 u a m c A) (hr2 : Nw w0 u b k d B) (hw : w0.heap.size < u.heap.size) :
 Calls Tryd.prog 19 #[.slice a m c, .slice b k d] u fun e u' => ∃ a' m' c', e = .returned (.slice a' m' c') ∧ Nw w0 u' a' m' c' (A + B) ∧ Below u.heap.size u u' := by
 have hl := hr.len
 have hl2 := hr2.len
 have h6 := D_six (A := A) (by omega)
 have h7 := D_six (A := B) (by omega)
 refine (l1Add_any a b m k c d A B u hl hl2 (by omega) (by omega) hr.rd hr2.rd).mono ?_
 rintro e u' ⟨a', c', rfl, ho, hb⟩
 exact ⟨a', _, c', rfl, Nw.of ho hw, hb⟩

theorem subS {w0 : World} (A B : Nat) (a b : Option Addr) (m k c d : Nat) (u : World) (hA : A < 2 ^ 129) (hB : B ≤ A) (hr : Nw w0 u a m c A) (hr2 : Nw w0 u b k d B) (hw : w0.heap.size < u.heap.size) :
 Calls Tryd.prog 22 #[.slice a m c, .slice b k d] u fun e u' => ∃ a' m' c', e = .returned (.slice a' m' c') ∧ Nw w0 u' a' m' c' (A - B) ∧ Below u.heap.size u u' := by
 have hl := hr.len
 have hl2 := hr2.len
 have h6 := D_six (A := A) (by omega)
 refine (l1Sub_any a b m k c d A B u hl hl2 hB (by omega) hr.rd hr2.rd).mono ?_
 rintro e u' ⟨a', c', rfl, ho, hb⟩
 exact ⟨a', _, c', rfl, Nw.of ho hw, hb⟩

theorem wordS {w0 : World} (A : Nat) (a : Option Addr) (m c : Nat) (u : World) (hA : A < 2 ^ 128) (hr : Nw w0 u a m c A) :
 Calls Tryd.prog 49 #[.slice a m c] u fun e u' => e = .returned (.agg #[.int .u64 (M.hiN A : Int), .int .u64 (M.loN A : Int)]) ∧ Below u.heap.size u u' := l2Word_any a m c A u hr.len hA hr.rd

theorem mk_word (x y : Nat) (hx : x < 18446744073709551616) (hy : y < 18446744073709551616) : ∃ Y, Hid (Y = x * 18446744073709551616 + y) ∧ Y < 2 ^ 128 ∧ M.hiN Y = x ∧ M.loN Y = y :=
 ⟨x * 18446744073709551616 + y, hid rfl, by omega, by unfold M.hiN; omega, by unfold M.loN; omega⟩

def bigF (bs : List Nat) (i : Nat) : Nat := (wideK bs i 8).1 + (wideK bs (wideK bs i 8).2 8).1 * 18446744073709551616

def two8 (bs : List Nat) (i : Nat) : Nat := (wideK bs (wideK bs i 8).2 8).2

def sgF (P : Nat) (bs : List Nat) (i : Nat) : Nat × Nat :=
 if rdB bs i % 5 = 0 then (2 ^ (P - 1), adv bs i) else if rdB bs i % 5 = 1 then (2 ^ P - (1 + rdB bs (adv bs i) % 3), adv bs (adv bs i))
 else if rdB bs i % 5 = 2 then (2 ^ (P - 1) + rdB bs (adv bs i) % 4, adv bs (adv bs i)) else (2 ^ (P - 1) + bigF bs (adv bs i) % 2 ^ (P - 1), two8 bs (adv bs i))

def eeF (bs : List Nat) (i : Nat) : Nat := rdB bs i * 256 + rdB bs (adv bs i)

def qqF (P : Nat) (e1 e2 qm : Int) (bs : List Nat) (i : Nat) : Int :=
 if rdB bs (adv bs (adv bs i)) % 4 = 0 then (eeF bs i : Int) % 120 - 60 - P + 1 else if rdB bs (adv bs (adv bs i)) % 4 = 1 then qm + (eeF bs i : Int) % 3
 else if rdB bs (adv bs (adv bs i)) % 4 = 2 then e2 - P + 1 - (eeF bs i : Int) % 3 else qm + (eeF bs i : Int) % (e2 - e1 + 1)

def ptF (P : Nat) (e1 e2 qm : Int) (bs : List Nat) (i m : Nat) (neg : Bool) : M.Pt × Nat :=
 if m = 0 then (⟨1, neg, 0, 0⟩, i) else if m = 1 then (⟨4, neg, 0, 0⟩, i) else if m = 2 then (⟨5, false, 0, 0⟩, i)
 else if m = 3 then (⟨2, neg, bigF bs i / 2 ^ (129 - P + rdB bs (two8 bs i) % (P - 1)), qm⟩, adv bs (two8 bs i))
 else (⟨3, neg, (sgF P bs i).1, qqF P e1 e2 qm bs (sgF P bs i).2⟩, adv bs (adv bs (adv bs (sgF P bs i).2)))

def wdF (P Wd : Nat) (e1 e2 qm : Int) (ans : M.Pt → Nat) (ok : M.Pt → Bool) (bs : List Nat) (i : Nat) : Nat × Nat :=
 if rdB bs i % 12 = 4 then ((wideK bs (adv bs (adv bs i)) 8).1 * 18446744073709551616 + (wideK bs (wideK bs (adv bs (adv bs i)) 8).2 8).1, two8 bs (adv bs (adv bs i)))
 else if rdB bs i % 12 = 5 then (bigF bs (adv bs (adv bs i)) % 2 ^ Wd, two8 bs (adv bs (adv bs i)))
 else if ok (ptF P e1 e2 qm bs (adv bs (adv bs i)) (rdB bs i % 12) (decide (rdB bs (adv bs i) % 3 = 1))).1
  then (ans (ptF P e1 e2 qm bs (adv bs (adv bs i)) (rdB bs i % 12) (decide (rdB bs (adv bs i) % 3 = 1))).1, (ptF P e1 e2 qm bs (adv bs (adv bs i)) (rdB bs i % 12) (decide (rdB bs (adv bs i) % 3 = 1))).2)
  else (ans ⟨2, decide (rdB bs (adv bs i) % 3 = 1), 1 + rdB bs i % 7, qm⟩, (ptF P e1 e2 qm bs (adv bs (adv bs i)) (rdB bs i % 12) (decide (rdB bs (adv bs i) % 3 = 1))).2)

theorem big_eq {bs : List Nat} {i x1 j1 x2 j2 A : Nat} (h1 : x1 = (wideK bs i 8).1 ∧ j1 = (wideK bs i 8).2) (h2 : x2 = (wideK bs j1 8).1 ∧ j2 = (wideK bs j1 8).2) (hA : A = x1 + x2 * 18446744073709551616) : A = bigF bs i ∧ j2 = two8 bs i := by
 unfold bigF two8
 rw [hA, h1.1, h2.1, h2.2, h1.2]
 exact ⟨rfl, rfl⟩

theorem pt_low {P : Nat} {e1 e2 qm : Int} {bs : List Nat} {i : Nat} {neg : Bool} : ((⟨1, neg, 0, 0⟩ : M.Pt), i) = ptF P e1 e2 qm bs i 0 neg ∧ ((⟨4, neg, 0, 0⟩ : M.Pt), i) = ptF P e1 e2 qm bs i 1 neg ∧ ((⟨5, false, 0, 0⟩ : M.Pt), i) = ptF P e1 e2 qm bs i 2 neg := ⟨rfl, rfl, rfl⟩

theorem pt3 {P P1 A1 : Nat} {e1 e2 qm : Int} {bs : List Nat} {i x1 j1 x2 j2 A z j3 sh G : Nat} {neg : Bool} (h1 : x1 = (wideK bs i 8).1 ∧ j1 = (wideK bs i 8).2) (h2 : x2 = (wideK bs j1 8).1 ∧ j2 = (wideK bs j1 8).2) (hA : A = x1 + x2 * 18446744073709551616) (hz : z = rdB bs j2 ∧ j3 = adv bs j2) (hs : sh = A1 + z % P1) (hG : G = A / 2 ^ ((sh : Int)).toNat) (hP : P = P1 + 1) (hA1 : A1 + P = 129) :
 ((⟨2, neg, G, qm⟩ : M.Pt), j3) = ptF P e1 e2 qm bs i 3 neg := by
 obtain ⟨a, b⟩ := big_eq h1 h2 hA
 unfold ptF
 rw [if_neg (by omega), if_neg (by omega), if_neg (by omega), if_pos rfl, ← b, ← a, ← hz.1, hz.2, hG, Int.toNat_natCast, hs, show 129 - P = A1 by omega, show P - 1 = P1 by omega]

theorem wd4 {P Wd : Nat} {e1 e2 qm : Int} {ans : M.Pt → Nat} {ok : M.Pt → Bool} {bs : List Nat} {i k i1 y i2 x1 j1 x2 j2 Y m : Nat} (hk : k = rdB bs i ∧ i1 = adv bs i) (hy : y = rdB bs i1 ∧ i2 = adv bs i1) (hm : m = k % 12) (h4 : m = 4) (h1 : x1 = (wideK bs i2 8).1 ∧ j1 = (wideK bs i2 8).2) (h2 : x2 = (wideK bs j1 8).1 ∧ j2 = (wideK bs j1 8).2) (hY : Y = x1 * 18446744073709551616 + x2) : (Y, j2) = wdF P Wd e1 e2 qm ans ok bs i := by
 unfold wdF two8
 rw [← hk.1, ← hk.2, ← hy.2, if_pos (by omega), ← h1.2, ← h1.1, ← h2.1, ← h2.2, hY]

theorem wd5 {P Wd : Nat} {e1 e2 qm : Int} {ans : M.Pt → Nat} {ok : M.Pt → Bool} {bs : List Nat} {i k i1 y i2 x1 j1 x2 j2 A G m : Nat} (hk : k = rdB bs i ∧ i1 = adv bs i) (hy : y = rdB bs i1 ∧ i2 = adv bs i1) (hm : m = k % 12) (h5 : m = 5) (h1 : x1 = (wideK bs i2 8).1 ∧ j1 = (wideK bs i2 8).2) (h2 : x2 = (wideK bs j1 8).1 ∧ j2 = (wideK bs j1 8).2) (hA : A = x1 + x2 * 18446744073709551616) (hG : G = A % 2 ^ Wd) : (G, j2) = wdF P Wd e1 e2 qm ans ok bs i := by
 obtain ⟨a, b⟩ := big_eq h1 h2 hA
 unfold wdF
 rw [← hk.1, ← hk.2, ← hy.2, if_neg (by omega), if_pos (by omega), ← b, ← a, hG]

theorem wd_ok {P Wd : Nat} {e1 e2 qm : Int} {ans : M.Pt → Nat} {ok : M.Pt → Bool} {bs : List Nat} {i k i1 y i2 j m : Nat} {neg : Bool} {t : M.Pt} (hk : k = rdB bs i ∧ i1 = adv bs i) (hy : y = rdB bs i1 ∧ i2 = adv bs i1) (hn : neg = decide (rdB bs (adv bs i) % 3 = 1)) (hm : m = k % 12) (h45 : m ≠ 4 ∧ m ≠ 5) (ht : (t, j) = ptF P e1 e2 qm bs i2 m neg) :
 (ok t = true → (ans t, j) = wdF P Wd e1 e2 qm ans ok bs i) ∧ (ok t = false → (ans ⟨2, neg, 1 + k % 7, qm⟩, j) = wdF P Wd e1 e2 qm ans ok bs i) := by
 unfold wdF
 rw [← hn, ← hk.1, ← hk.2, ← hy.2, if_neg (by omega), if_neg (by omega), ← hm, ← ht]
 constructor
 · intro h; simp only [h, if_true]
 · intro h; simp only [h, Bool.false_eq_true, if_false]

theorem sg0 {P P1 : Nat} {bs : List Nat} {i z j : Nat} (hz : z = rdB bs i ∧ j = adv bs i) (hP : P = P1 + 1) :
 (z % 5 = 0 → (2 ^ P1, j) = sgF P bs i) ∧ (∀ y2 j2, z % 5 = 1 → y2 = rdB bs j ∧ j2 = adv bs j → (2 ^ P - (1 + y2 % 3), j2) = sgF P bs i) ∧ (∀ y2 j2, z % 5 = 2 → y2 = rdB bs j ∧ j2 = adv bs j → (2 ^ P1 + y2 % 4, j2) = sgF P bs i) ∧
 (∀ x1 j1 x2 j2 A G, 3 ≤ z % 5 → x1 = (wideK bs j 8).1 ∧ j1 = (wideK bs j 8).2 → x2 = (wideK bs j1 8).1 ∧ j2 = (wideK bs j1 8).2 → A = x1 + x2 * 18446744073709551616 → G = A % 2 ^ P1 → (2 ^ P1 + G, j2) = sgF P bs i) := by
 unfold sgF
 rw [← hz.1, ← hz.2, show P - 1 = P1 by omega]
 refine ⟨fun h => by rw [if_pos h], fun y2 j2 h hy => by rw [if_neg (by omega), if_pos h, ← hy.1, ← hy.2], fun y2 j2 h hy => by rw [if_neg (by omega), if_neg (by omega), if_pos h, ← hy.1, ← hy.2], fun x1 j1 x2 j2 A G h h1 h2 hA hG => ?_⟩
 obtain ⟨a, b⟩ := big_eq h1 h2 hA
 rw [if_neg (by omega), if_neg (by omega), if_neg (by omega), ← a, ← b, hG]

theorem pt6 {P : Nat} {e1 e2 qm q : Int} {bs : List Nat} {i G j y1 j1 y2 j2 y3 j3 ee m : Nat} {neg : Bool} (hs : (G, j) = sgF P bs i) (h1 : y1 = rdB bs j ∧ j1 = adv bs j) (h2 : y2 = rdB bs j1 ∧ j2 = adv bs j1) (h3 : y3 = rdB bs j2 ∧ j3 = adv bs j2) (he : ee = y1 * 256 + y2) (hm : 6 ≤ m)
 (hq : (y3 % 4 = 0 ∧ q = (ee : Int) % 120 - 60 - P + 1) ∨ (y3 % 4 = 1 ∧ q = qm + (ee : Int) % 3) ∨ (y3 % 4 = 2 ∧ q = e2 - P + 1 - (ee : Int) % 3) ∨ (y3 % 4 = 3 ∧ q = qm + (ee : Int) % (e2 - e1 + 1))) :
 ((⟨3, neg, G, q⟩ : M.Pt), j3) = ptF P e1 e2 qm bs i m neg := by
 unfold ptF
 rw [if_neg (by omega), if_neg (by omega), if_neg (by omega), if_neg (by omega), ← hs]
 simp only
 unfold qqF eeF
 rw [← h1.1, ← h1.2, ← h2.1, ← h2.2, ← h3.1, ← h3.2, ← he]
 rcases hq with ⟨a, b⟩ | ⟨a, b⟩ | ⟨a, b⟩ | ⟨a, b⟩
 · rw [if_pos a, b]
 · rw [if_neg (by omega), if_pos a, b]
 · rw [if_neg (by omega), if_neg (by omega), if_pos a, b]
 · rw [if_neg (by omega), if_neg (by omega), if_neg (by omega), b]

end Go.Proofs.YtogkkecnmlnajaaDoor
