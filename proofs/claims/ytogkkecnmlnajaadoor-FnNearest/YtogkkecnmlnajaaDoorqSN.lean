import Derived.Test.YtogkkecnmlnajaaDoorqNN
set_option maxHeartbeats 2000000
set_option maxRecDepth 10000
namespace Go.Proofs.YtogkkecnmlnajaaDoor
open Go.RowKit
set_option linter.unusedVariables false
set_option maxRecDepth 100000
def Sn (w w' : World) (e : Ending) (N : Nat) : Prop := ∃ ao cap, e = .returned (.slice ao (L N).length cap) ∧ Rd w' ao (L N) ∧ Below w.heap.size w w'

theorem Ret.sn {w w' : World} {e : Ending} {N : Nat} (h : Ret w w' e (L N)) : Sn w w' e N := by
 obtain ⟨ao, cap, he, ho, hb⟩ := h
 exact ⟨ao, cap, he, Rd.own ho, hb⟩

theorem natSub (A B : Nat) (ao bo : Option Addr) (c d : Nat) (v : World) (h1 : (L A).length ≤ 1200) (h2 : (L B).length ≤ 1200) (r1 : Rd v ao (L A)) (r2 : Rd v bo (L B)) :
 Calls Tryd.prog 37 #[.slice ao (L A).length c, .slice bo (L B).length d] v fun e w' => ∃ x cap, e = .returned (.tuple #[.slice x (if B ≤ A then L (A - B) else []).length cap, .bool (decide (B ≤ A))]) ∧ Rd w' x (if B ≤ A then L (A - B) else []) ∧ Below v.heap.size v w' := by
 refine (specNatSub_any ao bo _ _ c d (L A) (L B) v rfl rfl (by omega) (by omega) (F64_L _) (F64_L _) r1 r2).mono ?_
 intro e w' h
 have e1 : subOk (L A) (L B) = decide (B ≤ A) := by unfold subOk; rw [V_L, V_L]; simp [h1, h2]
 have e2 : subDoc (L A) (L B) = if B ≤ A then L (A - B) else [] := by
  unfold subDoc
  rw [e1, V_L, V_L]
  by_cases g : B ≤ A <;> simp [g]
 rw [e1, e2] at h
 obtain ⟨x, cap, he, ho, hb⟩ := h
 exact ⟨x, cap, he, Rd.own ho, hb⟩

theorem cmpI_or (a b : Int) : cmpI a b = -1 ∨ cmpI a b = 0 ∨ cmpI a b = 1 := by
 unfold cmpI
 split
 · simp
 · split <;> simp

theorem apart_any (A B : Nat) (ao bo : Option Addr) (c d : Nat) (v : World) (h1 : (L A).length ≤ 1200) (h2 : (L B).length ≤ 1200) (r1 : Rd v ao (L A)) (r2 : Rd v bo (L B)) :
 Calls Tryd.prog 9 #[.slice ao (L A).length c, .slice bo (L B).length d] v fun e w' => Sn v w' e (if B ≤ A then A - B else B - A) := by
 have k1 := natSub A B ao bo c d v h1 h2 r1 r2
 have k2 := fun (u : World) (hu : Below v.heap.size v u) => natSub B A bo ao d c u h2 h1 (r2.below hu) (r1.below hu)
 clear r1 r2
 by_cases g : B ≤ A
 · simp only [g, decide_true] at k1 ⊢
   go_enter Tryd.func9, Tryd.ntmps9
   go_wp2_with fail
   refine k1.mono ?_
   rintro e v1 ⟨x, cap, rfl, rx, hb1⟩
   go_wp2_with fail
   go_ret
   exact ⟨x, cap, rfl, rx, hb1⟩
 · have g2 : A ≤ B := by omega
   simp only [g, decide_false] at k1 ⊢
   simp only [g2, decide_true] at k2
   go_enter Tryd.func9, Tryd.ntmps9
   go_wp2_with fail
   refine k1.mono ?_
   rintro e v1 ⟨x, cap, rfl, rx, hb1⟩
   go_wp2_with fail
   refine (k2 v1 hb1).mono ?_
   rintro e v2 ⟨y, cay, rfl, ry, hb2⟩
   go_wp2_with fail
   go_ret
   exact ⟨y, cay, rfl, ry, hb1.trans (hb2.mono hb1.size)⟩

def Num (v : World) (ao : Option Addr) (n N : Nat) : Prop := ∃ xs, xs.length = n ∧ F64 xs ∧ V xs = N ∧ n ≤ 1200 ∧ Rd v ao xs

theorem Num.below {v v' : World} {ao : Option Addr} {n N : Nat} (h : Num v ao n N) (hb : Below v.heap.size v v') : Num v' ao n N := by
 obtain ⟨xs, h1, h2, h3, h4, h5⟩ := h
 exact ⟨xs, h1, h2, h3, h4, h5.below hb⟩

theorem Num.of {v : World} {ao : Option Addr} {N : Nat} (h : (L N).length ≤ 1200) (r : Rd v ao (L N)) : Num v ao (L N).length N := ⟨L N, rfl, F64_L N, V_L N, h, r⟩

theorem mulN (A B n m : Nat) (ao bo : Option Addr) (c d : Nat) (v : World) (h1 : Num v ao n A) (h2 : Num v bo m B) :
 Calls Tryd.prog 10 #[.slice ao n c, .slice bo m d] v fun e w' => Sn v w' e (A * B) := by
 obtain ⟨xs, a1, a2, a3, a4, a5⟩ := h1
 obtain ⟨ys, b1, b2, b3, b4, b5⟩ := h2
 refine (specNatMul_any ao bo n m c d xs ys v a1 b1 (by omega) (by omega) a2 b2 a5 b5).mono ?_
 intro e w' h
 have e1 : mulDoc xs ys = L (A * B) := by unfold mulDoc; rw [if_pos ⟨by omega, by omega⟩, a3, b3]
 rw [e1] at h
 exact h.sn

theorem cmpN' (A B n m : Nat) (ao bo : Option Addr) (c d : Nat) (v : World) (h1 : Num v ao n A) (h2 : Num v bo m B) :
 Calls Tryd.prog 12 #[.slice ao n c, .slice bo m d] v fun e w' => e = .returned (.int .i64 (cmpI (A : Int) (B : Int))) ∧ Below v.heap.size v w' := by
 obtain ⟨xs, a1, a2, a3, a4, a5⟩ := h1
 obtain ⟨ys, b1, b2, b3, b4, b5⟩ := h2
 have := specNatCmp_any ao bo n m c d xs ys v a1 b1 (by omega) (by omega) a2 b2 a5 b5
 have e1 : cmpDoc xs ys = cmpI (A : Int) (B : Int) := by unfold cmpDoc; rw [if_pos ⟨by omega, by omega⟩, a3, b3]
 rwa [e1] at this

theorem shN (A n s : Nat) (ao : Option Addr) (c : Nat) (v : World) (hs : s ≤ 80000) (h1 : Num v ao n A) :
 Calls Tryd.prog 36 #[.slice ao n c, .int .i64 (s : Int)] v fun e w' => Sn v w' e (A * 2 ^ s) := by
 obtain ⟨xs, a1, a2, a3, a4, a5⟩ := h1
 refine (specNatShift_any ao n c xs (s : Int) v a1 (by omega) a2 a5).mono ?_
 intro e w' h
 have e1 : shDoc xs (s : Int) = L (A * 2 ^ s) := by unfold shDoc; rw [if_pos ⟨by omega, by omega, by omega⟩, a3, shVal_left]
 rw [e1] at h
 exact h.sn

theorem num_one (v : World) : Num (v.alloc (.cells #[.int .u64 1] 26)) (some ⟨v.heap.size, 0, none⟩) 1 1 := by
 have hB : Blk (v.alloc (.cells #[.int .u64 1] 26)) v.heap.size [1] := heap_alloc_new v _
 exact ⟨[1], rfl, by intro z hz; simp at hz; omega, by simp [V, M.val], by omega, hB.rd0⟩

theorem num_two (v : World) (x y : Nat) (hx : x < 18446744073709551616) (hy : y < 18446744073709551616) : Num (v.alloc (.cells #[.int .u64 (x : Int), .int .u64 (y : Int)] 26)) (some ⟨v.heap.size, 0, none⟩) 2 (x + y * 18446744073709551616) := by
 have hB : Blk (v.alloc (.cells #[.int .u64 (x : Int), .int .u64 (y : Int)] 26)) v.heap.size [x, y] := heap_alloc_new v _
 exact ⟨[x, y], rfl, by intro z hz; simp at hz; omega, by simp [V, M.val]; omega, by omega, hB.rd0⟩

def Vl (w w' : World) (e : Ending) (N De : Nat) : Prop := ∃ a n c b m d, e = .returned (.tuple #[.slice a n c, .slice b m d]) ∧ Num w' a n N ∧ Num w' b m De ∧ Below w.heap.size w w'

theorem fld_em (a b c d e : Int) (x : Bool) (v : World) : Sem.run Tryd.prog (Instr.field 56 (.agg #[.int .i64 a, .int .i64 b, .int .i64 c, .int .i64 d, .int .i64 e, .bool x]) 2) v = .ok (.int .i64 c) v := by kernel_rfl

theorem value_key (f cl q : Int) (ng : Bool) (X s : Nat) (w : World) (hs : s < 2 ^ 128) (g0 g1 g3 g4 : Int) (g5 : Bool) (em : Nat) (hem : em ≤ 20000) (N De : Nat) (hq1 : -20000 ≤ q) (hq2 : q ≤ 20000)
 (lN : (L N).length ≤ 1200) (lD : (L De).length ≤ 1200)
 (kU : ∀ v : World, Calls Tryd.prog 15 #[.int .i64 f, .agg #[.int .u64 (M.hiN X : Int), .int .u64 (M.loN X : Int)]] v fun e w' => e = .returned (.agg #[.int .i64 cl, .bool ng, .int .u64 (M.hiN s : Int), .int .u64 (M.loN s : Int), .int .i64 q]) ∧ Below v.heap.size v w')
 (kE : ∀ v : World, Calls Tryd.prog 25 #[.int .i64 f] v fun e w' => e = .returned (.agg #[.int .i64 g0, .int .i64 g1, .int .i64 (em : Int), .int .i64 g3, .int .i64 g4, .bool g5]) ∧ Below v.heap.size v w')
 (h4 : cl = 4 → N = 1 * 2 ^ (em + 1) ∧ De = 1) (hp : cl ≠ 4 → 0 ≤ q → N = s * 2 ^ q.toNat ∧ De = 1) (hn : cl ≠ 4 → q < 0 → N = s ∧ De = 1 * 2 ^ (-q).toNat) :
 Calls Tryd.prog 8 #[.int .i64 f, .agg #[.int .u64 (M.hiN X : Int), .int .u64 (M.loN X : Int)]] w fun e w' => Vl w w' e N De := by
 have b0 : Below w.heap.size w (w.alloc (.cells #[.int .u64 (M.hiN X : Int), .int .u64 (M.loN X : Int)] 28)) := (Below.refl _ _).alloc (Nat.le_refl _) _
 have H4 := hid h4; have HP := hid hp; have HN := hid hn
 clear h4 hp hn
 go_enter Tryd.func8, Tryd.ntmps8
 go_wp2_with fail
 refine (kU _).mono ?_
 rintro e v1 ⟨rfl, hb⟩
 replace b0 := b0.trans (hb.mono b0.size)
 clear hb kU
 have cp := Cls.new v1 #[.int .i64 cl, .bool ng, .int .u64 (M.hiN s : Int), .int .u64 (M.loN s : Int), .int .i64 q] 33
 have hb : Below v1.heap.size v1 (v1.alloc (.cells #[.int .i64 cl, .bool ng, .int .u64 (M.hiN s : Int), .int .u64 (M.loN s : Int), .int .i64 q] 33)) := (Below.refl _ _).alloc (Nat.le_refl _) _
 replace b0 := b0.trans (hb.mono b0.size)
 clear hb
 go_upto_region 2 with fail
 generalize v1.alloc (.cells #[.int .i64 cl, .bool ng, .int .u64 (M.hiN s : Int), .int .u64 (M.loN s : Int), .int .i64 q] 33) = v2 at *
 generalize v1.heap.size = gp at *
 have p0 := cp.cell 0 rfl
 by_cases hc : cl = 4
 · obtain ⟨eN, eD⟩ := H4.out hc
   subst hc
   have EN := hid eN; have ED := hid eD; clear eN eD
   have fe := fld_em
   have hw : IntKind.i64.wrap ((em : Int) + 1) = ((em + 1 : Nat) : Int) := by rw [IntKind.wrap_i64]; omega
   obtain ⟨e1, he1⟩ : ∃ e1 : Nat, e1 = em + 1 := ⟨_, rfl⟩
   rw [← he1] at hw
   have HE1 := hid he1
   have hle : e1 ≤ 80000 := by omega
   clear he1
   have n1 := num_one v2
   have hb1 : Below v2.heap.size v2 (v2.alloc (.cells #[.int .u64 1] 26)) := (Below.refl _ _).alloc (Nat.le_refl _) _
   go_wp2_with fail
   refine (kE _).mono ?_
   rintro e v3 ⟨rfl, hb⟩
   replace n1 := n1.below hb
   replace b0 := b0.trans ((hb1.trans (hb.mono hb1.size)).mono b0.size)
   clear hb hb1
   go_wp2_with fail
   refine (shN 1 1 e1 _ _ _ hle n1).mono ?_
   rintro e v4 ⟨a, c, rfl, r, hb⟩
   replace b0 := b0.trans (hb.mono b0.size)
   have hb2 : Below v4.heap.size v4 (v4.alloc (.cells #[.int .u64 1] 26)) := (Below.refl _ _).alloc (Nat.le_refl _) _
   have n2 := num_one v4
   have HA : Hid (Num (v4.alloc (.cells #[.int .u64 1] 26)) a (L (1 * 2 ^ e1)).length N) := hid (by rw [EN.out, ← HE1.out]; exact (Num.of (by rw [HE1.out, ← EN.out]; exact lN) r).below hb2)
   have HB := hid (b0.trans (hb2.mono b0.size))
   clear hb b0 r hb2
   go_wp2_with fail
   exact bodyPost_ret (v := .tuple #[.slice a (L (1 * 2 ^ e1)).length c, .slice (some ⟨v4.heap.size, 0, none⟩) 1 1]) (by simp [results, Tryd.results8, go_sem]) rfl ⟨_, _, _, _, _, _, rfl, HA.out, by rw [ED.out]; exact n2, HB.out⟩
 · have p2 := cp.cell 2 rfl
   have p3 := cp.cell 3 rfl
   have p4 := cp.cell 4 rfl
   have hb1 : Below v2.heap.size v2 (v2.alloc (.cells #[.int .u64 (M.loN s : Int), .int .u64 (M.hiN s : Int)] 26)) := (Below.refl _ _).alloc (Nat.le_refl _) _
   have n1 := num_two v2 (M.loN s) (M.hiN s) (by unfold M.loN; omega) (by unfold M.hiN; omega)
   rw [show M.loN s + M.hiN s * 18446744073709551616 = s by have := M.hl s; omega] at n1
   have p4' := (cp.below hb1).cell 4 rfl
   replace cp := cp.below hb1
   replace b0 := b0.trans (hb1.mono b0.size)
   by_cases hq : 0 ≤ q
   · obtain ⟨eN, eD⟩ := HP.out hc hq
     have EN := hid eN; have ED := hid eD; clear eN eD hb1
     obtain ⟨k, rfl⟩ := Int.eq_ofNat_of_zero_le hq
     have hk : k ≤ 80000 := by omega
     go_upto_region 6 with fail
     generalize v2.alloc (.cells #[.int .u64 (M.loN s : Int), .int .u64 (M.hiN s : Int)] 26) = v3 at *
     generalize v2.heap.size = g2 at *
     go_wp2_with fail
     refine (shN s 2 k _ _ _ hk n1).mono ?_
     rintro e v4 ⟨a, c, rfl, r, hb⟩
     replace b0 := b0.trans (hb.mono b0.size)
     have hb2 : Below v4.heap.size v4 (v4.alloc (.cells #[.int .u64 1] 26)) := (Below.refl _ _).alloc (Nat.le_refl _) _
     have n2 := num_one v4
     have HA : Hid (Num (v4.alloc (.cells #[.int .u64 1] 26)) a (L (s * 2 ^ k)).length N) := hid (by rw [EN.out, Int.toNat_natCast]; exact (Num.of (by rw [← Int.toNat_natCast k, ← EN.out]; exact lN) r).below hb2)
     have HB := hid (b0.trans (hb2.mono b0.size))
     clear hb b0 r hb2 n1
     go_wp2_with fail
     exact bodyPost_ret (v := .tuple #[.slice a (L (s * 2 ^ k)).length c, .slice (some ⟨v4.heap.size, 0, none⟩) 1 1]) (by simp [results, Tryd.results8, go_sem]) rfl ⟨_, _, _, _, _, _, rfl, HA.out, by rw [ED.out]; exact n2, HB.out⟩
   · obtain ⟨eN, eD⟩ := HN.out hc (by omega)
     have EN := hid eN; have ED := hid eD; clear eN eD hb1
     obtain ⟨k, hk⟩ := Int.eq_ofNat_of_zero_le (show 0 ≤ -q by omega)
     have hk8 : k ≤ 80000 := by omega
     have hw : IntKind.i64.wrap (-q) = (k : Int) := by rw [IntKind.wrap_i64]; omega
     have HK := hid hk; clear hk
     go_upto_region 7 with fail
     generalize v2.alloc (.cells #[.int .u64 (M.loN s : Int), .int .u64 (M.hiN s : Int)] 26) = v3 at *
     generalize v2.heap.size = g2 at *
     have hb2 : Below v3.heap.size v3 (v3.alloc (.cells #[.int .u64 1] 26)) := (Below.refl _ _).alloc (Nat.le_refl _) _
     have n2 := num_one v3
     have p4'' := (cp.below hb2).cell 4 rfl
     go_wp2_with fail
     refine (shN 1 1 k _ _ _ hk8 n2).mono ?_
     rintro e v4 ⟨a, c, rfl, r, hb⟩
     have HA : Hid (Num v4 (some ⟨g2, 0, none⟩) 2 N) := hid (by rw [EN.out]; exact n1.below (hb2.trans (hb.mono hb2.size)))
     have HD : Hid (Num v4 a (L (1 * 2 ^ k)).length De) := hid (by rw [ED.out, HK.out, Int.toNat_natCast]; exact Num.of (by rw [← Int.toNat_natCast k, ← HK.out, ← ED.out]; exact lD) r)
     have HB := hid (b0.trans ((hb2.trans (hb.mono hb2.size)).mono b0.size))
     clear hb b0 r hb2 n1 n2
     go_wp2_with fail
     exact bodyPost_ret (v := .tuple #[.slice (some ⟨g2, 0, none⟩) 2 2, .slice a (L (1 * 2 ^ k)).length c]) (by simp [results, Tryd.results8, go_sem]) rfl ⟨_, _, _, _, _, _, rfl, HA.out, HD.out, HB.out⟩

end Go.Proofs.YtogkkecnmlnajaaDoor
