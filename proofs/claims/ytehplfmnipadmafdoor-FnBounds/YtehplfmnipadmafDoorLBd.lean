/-
  The law FnBounds.
-/
import Derived.Test.YtehplfmnipadmafDoorDru
import Derived.Test.YtehplfmnipadmafDoorLBounds
import Derived.Test.YtehplfmnipadmafDoorBO
import Derived.Test.YtehplfmnipadmafDoorBP
import Derived.Test.YtehplfmnipadmafDoorBQ
namespace Go.Proofs.YtehplfmnipadmafDoor
open Go.RowKit
set_option linter.unusedVariables false
set_option maxRecDepth 100000

theorem drawB_any (ao : Option Addr) (n c : Nat) (bs : List Nat) (w : World) (hl : bs.length = n) (hn : n ≤ 1048576) (hb : RdB w ao bs) :
    Calls Tryd.prog 5 #[.slice ao n c] w fun e w' => ∃ (f : Int) (X : Nat), X < 2 ^ 128 ∧ e = .returned (.tuple #[.int .i64 f, .agg #[.int .u64 (M.hiN X : Int), .int .u64 (M.loN X : Int)]]) ∧ Below w.heap.size w w' := by
  have k := drawU_any ao n c bs
  go_enter Tryd.func5, Tryd.ntmps5
  go_wp2_with fail
  have b1 : Below w.heap.size w (w.alloc (.cells #[.int .u64 0, .int .u64 0] 25)) := (Below.refl _ _).alloc (Nat.le_refl _) _
  have R1 : Cls (w.alloc (.cells #[.int .u64 0, .int .u64 0] 25)) w.heap.size #[.int .u64 0, .int .u64 0] 25 := Cls.new _ _ _
  have hb1 := hb.below b1
  generalize w.alloc (.cells #[.int .u64 0, .int .u64 0] 25) = w1 at *
  refine (k w1 hl hn hb1).mono ?_
  rintro e w4 ⟨f, X, hX, rfl, b4⟩
  have R4 := R1.below b4
  have bw4 := b1.trans (b4.mono b1.size)
  have y0 := R4.cell 0 (x := .int .u64 0) rfl
  have y1 := R4.cell 1 (x := .int .u64 0) rfl
  have y2 := R4.frozen 0
  have y3 := R4.frozen 1
  clear R1 hb1 b1 b4 k
  go_wp2_with fail
  have R9 : Cls ((w4.setCell ⟨w.heap.size, 0, none⟩ (.int .u64 (M.hiN X : Int))).setCell ⟨w.heap.size, 1, none⟩ (.int .u64 (M.loN X : Int))) w.heap.size #[.int .u64 (M.hiN X : Int), .int .u64 (M.loN X : Int)] 25 := (R4.set 0 _ _ rfl).set 1 _ _ rfl
  have H9 : Below w.heap.size w ((w4.setCell ⟨w.heap.size, 0, none⟩ (.int .u64 (M.hiN X : Int))).setCell ⟨w.heap.size, 1, none⟩ (.int .u64 (M.loN X : Int))) := (bw4.setCell (p := ⟨w.heap.size, 0, none⟩) (Nat.le_refl _) _).setCell (p := ⟨w.heap.size, 1, none⟩) (Nat.le_refl _) _
  generalize (w4.setCell ⟨w.heap.size, 0, none⟩ (.int .u64 (M.hiN X : Int))).setCell ⟨w.heap.size, 1, none⟩ (.int .u64 (M.loN X : Int)) = w9 at R9 H9 ⊢
  have z0 := R9.cell 0 (x := .int .u64 (M.hiN X : Int)) rfl
  have z1 := R9.cell 1 (x := .int .u64 (M.loN X : Int)) rfl
  exact bodyPost_ret (v := .tuple #[.int .i64 f, .agg #[.int .u64 (M.hiN X : Int), .int .u64 (M.loN X : Int)]]) (by simp [results, Tryd.results5, go_sem, z0, z1]) rfl ⟨f, X, hX, rfl, H9⟩

def Sl (w w' : World) (e : Ending) (N : Nat) : Prop := ∃ ao cap, e = .returned (.slice ao (L N).length cap) ∧ (L N).length ≤ cap ∧ Rd w' ao (L N) ∧ Below w.heap.size w w'

theorem Ret.sl {w w' : World} {e : Ending} {N : Nat} (h : Ret w w' e (L N)) : Sl w w' e N := by
  obtain ⟨ao, cap, he, ho, hb⟩ := h
  exact ⟨ao, cap, he, own_cap ho, Rd.own ho, hb⟩

theorem one_V : V [1] = 1 := by decide
theorem one_F : F64 [1] := by intro x hx; simp at hx; omega

theorem sh70 (C N : Nat) (hN : N = C * 2 ^ 70) (ao : Option Addr) (c : Nat) (v : World) (h : (L C).length ≤ 300) (hr : Rd v ao (L C)) :
    Calls Tryd.prog 10 #[.slice ao (L C).length c, .int .i64 70] v fun e w' => Sl v w' e N := by
  rw [hN]
  refine (specNatShift_any ao _ c (L C) 70 v rfl (by omega) (F64_L C) hr).mono ?_
  intro e w' hq
  have e1 : shDoc (L C) 70 = L (C * 2 ^ 70) := by
    unfold shDoc
    rw [if_pos (by omega), V_L, show (70 : Int) = ((70 : Nat) : Int) by rfl, shVal_left]
  rw [e1] at hq
  exact hq.sl

theorem sub1 (N : Nat) (hN : 0 < N) (ao bo : Option Addr) (c d : Nat) (v : World) (h : (L N).length ≤ 302) (hr : Rd v ao (L N)) (hr2 : Rd v bo [1]) :
    Calls Tryd.prog 11 #[.slice ao (L N).length c, .slice bo 1 d] v fun e w' => ∃ ao cap, e = .returned (.tuple #[.slice ao (L (N - 1)).length cap, .bool true]) ∧ (L (N - 1)).length ≤ cap ∧ Rd w' ao (L (N - 1)) ∧ Below v.heap.size v w' := by
  refine (specNatSub_any ao bo _ 1 c d (L N) [1] v rfl rfl (by omega) (by omega) (F64_L N) one_F hr hr2).mono ?_
  rintro e w' ⟨ao, cap, he, ho, hb⟩
  have e0 : subOk (L N) [1] = true := by
    unfold subOk
    rw [V_L, one_V]
    simp
    omega
  have e1 : subDoc (L N) [1] = L (N - 1) := by
    unfold subDoc
    rw [e0, V_L, one_V]; rfl
  rw [e1] at he ho
  rw [e0] at he
  exact ⟨ao, cap, he, own_cap ho, Rd.own ho, hb⟩

theorem add1 (N : Nat) (ao bo : Option Addr) (c d : Nat) (v : World) (h : (L N).length ≤ 302) (hr : Rd v ao (L N)) (hr2 : Rd v bo [1]) :
    Calls Tryd.prog 13 #[.slice ao (L N).length c, .slice bo 1 d] v fun e w' => Sl v w' e (N + 1) := by
  refine (specNatAdd_any ao bo _ 1 c d (L N) [1] v rfl rfl (by omega) (by omega) (F64_L N) one_F hr hr2).mono ?_
  intro e w' hq
  have e1 : addDoc (L N) [1] = L (N + 1) := by
    unfold addDoc
    rw [if_pos (by simp; omega), V_L, one_V]
  rw [e1] at hq
  exact hq.sl

theorem len_lt (N K : Nat) (h : N < 2 ^ (64 * K)) : (L N).length ≤ K := by
  refine M.len_of_lt (by omega) _ _ ?_
  rwa [show (18446744073709551616 : Nat) = 2 ^ 64 by rfl, ← Nat.pow_mul]

theorem shl_len (E G : Nat) (hE : E = 17128) (hG : G = 300) (A N : Nat) (hN : N = A * 2 ^ 70) (h : A < 2 ^ E) : (L A).length ≤ 300 ∧ (L N).length ≤ 300 ∧ (L (N - 1)).length ≤ 300 ∧ (L (N + 1)).length ≤ 300 := by
  have e : 2 ^ (E + 72) ≤ 2 ^ (64 * G) := Nat.pow_le_pow_right (by omega) (by omega)
  rw [Nat.pow_add] at e
  have f : ∀ N, N < 2 ^ E * 2 ^ 72 → (L N).length ≤ 300 := fun N hN => hG ▸ len_lt N G (Nat.lt_of_lt_of_le hN e)
  clear e
  generalize 2 ^ E = p at h f
  exact ⟨f _ (by omega), f _ (by omega), f _ (by omega), f _ (by omega)⟩

theorem word_iff {F : M.Fm} (h : F.Ok) (t : M.Pt) (hp : F.Proper t) (N De : Nat) (hN : 0 < N) (hd : 0 < De) (y P : Nat) (hy : y = F.pk (F.rPt false N De)) (hP : P = F.pk t) :
    (M.hiN y = M.hiN P ∧ M.loN y = M.loN P) ↔ F.rPt false N De = t := by
  have e1 := h.upk_pk _ (h.rPt_proper false N De hN hd)
  have e2 := h.upk_pk _ hp
  rw [← hy] at e1
  rw [← hP] at e2
  constructor
  · rintro ⟨a, b⟩
    have e : y = P := by rw [M.hl y, M.hl P, a, b]
    rw [← e1.1, ← e2.1, e]
  · intro e
    rw [hy, hP, e]
    exact ⟨rfl, rfl⟩

theorem rr1 (k : Nat) (hk : k < 4) (N De y : Nat) (hN : 0 < N) (hD : 0 < De) (hy : y = (M.fm k).pk ((M.fm k).rPt false N De)) (ao bo : Option Addr) (c d : Nat) (v : World) (hF : Fmt v) (l1 : (L N).length ≤ 300) (l2 : (L De).length ≤ 300) (hc : (L N).length ≤ c) (hd : (L De).length ≤ d) (hr : Rd v ao (L N)) (hr2 : Rd v bo (L De)) :
    Calls Tryd.prog 12 #[.int .i64 (k : Int), .bool false, .slice ao (L N).length c, .slice bo (L De).length d] v fun e w' => ∃ fl, e = .returned (.agg #[.int .u64 (M.hiN y : Int), .int .u64 (M.loN y : Int), .int .i64 fl, .bool true]) ∧ Below v.heap.size v w' := by
  have kk := irr_pos k hk false ao bo _ _ c d (L N) (L De) v rfl rfl hc hd (by omega) (by omega) (F64_L _) (F64_L _) hr hr2 hF (by omega) (by omega) (by rw [V_L]; exact hD)
  rw [V_L, V_L] at kk
  have e : rY (M.fm k) false N De = y := by unfold rY; rw [if_neg (by omega), hy]
  rw [e] at kk
  exact kk.mono fun e w' hq => ⟨_, hq⟩

theorem fld_w (a b c : Int) (x : Bool) (v : World) : Sem.run Tryd.prog (Instr.field 41 (.agg #[.int .u64 a, .int .u64 b, .int .i64 c, .bool x]) 0) v = .ok (.agg #[.int .u64 a, .int .u64 b]) v := by kernel_rfl

theorem ifs {a b c d : Nat} {z : Bool} (h : (a = b ∧ c = d) ↔ z = true) (u : World) :
    (if (a : Int) = (b : Int) then if (c : Int) = (d : Int) then Result.ok (Next.value (.bool true)) u else Result.ok (Next.value (.bool false)) u else Result.ok (Next.value (.bool false)) u) = Result.ok (Next.value (.bool z)) u := by
  by_cases h1 : a = b
  · by_cases h2 : c = d
    · have := h.1 ⟨h1, h2⟩
      rw [if_pos (by omega), if_pos (by omega), this]
    · have : z = false := by
        cases z
        · rfl
        · exact absurd (h.2 rfl).2 h2
      rw [if_pos (by omega), if_neg (by omega), this]
  · have : z = false := by
      cases z
      · rfl
      · exact absurd (h.2 rfl).1 h1
    rw [if_neg (by omega), this]

set_option maxHeartbeats 6000000 in
theorem lawBdKey (a0 : Option Addr) (n c : Nat) (w : World) (hm : Fmt w) (h1 : n ≤ 1048576)
    (kD : ∀ v : World, Below w.heap.size w v → Calls Tryd.prog 5 #[.slice a0 n c] v fun e w' => ∃ (f : Int) (X : Nat), X < 2 ^ 128 ∧ e = .returned (.tuple #[.int .i64 f, .agg #[.int .u64 (M.hiN X : Int), .int .u64 (M.loN X : Int)]]) ∧ Below v.heap.size v w') :
    Calls Tryd.prog 3 #[.slice a0 n c] w fun e w' => e = .returned (.bool true) ∧ Below w.heap.size w w' := by
  have h1' : ¬ (1048576 : Int) < (n : Int) := by omega
  go_enter Tryd.func3, Tryd.ntmps3
  go_wp2_with fail
  refine (kD w (Below.refl _ _)).mono ?_
  rintro e v1 ⟨f, X, hX, rfl, b0⟩
  have B0 := hid b0; have M0 := hid (hm.below b0)
  clear b0
  obtain ⟨v1a, hv1a⟩ : ∃ v, v = v1.alloc (.cells #[.int .u64 (M.hiN X : Int), .int .u64 (M.loN X : Int)] 25) := ⟨_, rfl⟩
  have Wb := hid (show Cls v1a v1.heap.size #[.int .u64 (M.hiN X : Int), .int .u64 (M.loN X : Int)] 25 by rw [hv1a]; exact Cls.new _ _ _)
  have hb : Below v1.heap.size v1 v1a := by rw [hv1a]; exact (Below.refl _ _).alloc (Nat.le_refl _) _
  have ltWb := Wb.out.lt
  replace B0 := hid (B0.out.trans (hb.mono B0.out.size))
  replace M0 := hid (M0.out.below hb)
  clear hb
  have Wb0 := Wb.out.cell 0 (x := .int .u64 (M.hiN X : Int)) rfl
  have Wb1 := Wb.out.cell 1 (x := .int .u64 (M.loN X : Int)) rfl
  subst hv1a
  go_wp2_with fail
  generalize v1.alloc (.cells #[.int .u64 (M.hiN X : Int), .int .u64 (M.loN X : Int)] 25) = v1a at *
  clear Wb0 Wb1
  by_cases hf : 0 ≤ f ∧ f < 4
  · obtain ⟨k, rfl⟩ : ∃ k : Nat, f = (k : Int) := ⟨f.toNat, by omega⟩
    have hk : k < 4 := by omega
    obtain ⟨T, hT⟩ : ∃ T, T = (M.fm k).upk X := ⟨_, rfl⟩
    by_cases hc : T.c = 2 ∨ T.c = 3
    · have kI := ibounds_any k hk X hX v1a M0.out T hT hc
      have kS := fun (v : World) => sbounds_any k hk X hX v T hT hc
      have h' := M.fm_ok k
      have hpr : (M.fm k).Proper T := by
        rcases h'.upk_proper X with hp | hp
        · rw [hT, hp] at hc; simp at hc
        · rw [hT]; exact hp
      have hl := bnd_lt (fin_of h' hpr hc)
      have hfi := fin_of h' hpr hc
      have kU := sunpack_any k hk X hX
      rw [← hT] at kU
      simp only [pv] at kU
      obtain ⟨fs1, fs2, fq1, fq2, fq3, fq4, fs3, fs4⟩ := id hfi
      have HT := hid hT
      clear hT
      refine kI.mono ?_
      rintro e v2 ⟨ia, ca, ib, cb, ic, cc, m1, m2, rfl, e1, e2, e3, oA, oB, oC, hb⟩
      replace Wb := hid (Wb.out.below hb)
      replace B0 := hid (B0.out.trans (hb.mono B0.out.size))
      replace M0 := hid (M0.out.below hb)
      clear hb kI
      have RA := hid oA.rd; have RB := hid oB.rd; have RC := hid oC.rd
      clear oA oB oC e1 e2 e3
      have Wbo0 := Wb.out.cell 0 (x := .int .u64 (M.hiN X : Int)) rfl
      have Wbo1 := Wb.out.cell 1 (x := .int .u64 (M.loN X : Int)) rfl
      obtain ⟨v3, hv3⟩ : ∃ v, v = v2.alloc (.cells #[.slice ia (L (bA (M.fm k) T)).length ca, .slice ib (L (bB T)).length cb, .slice ic (L (bC T)).length cc, .bool (decide (T.s % 2 = 0)), .bool true] 30) := ⟨_, rfl⟩
      have Ib := hid (show Cls v3 v2.heap.size #[.slice ia (L (bA (M.fm k) T)).length ca, .slice ib (L (bB T)).length cb, .slice ic (L (bC T)).length cc, .bool (decide (T.s % 2 = 0)), .bool true] 30 by rw [hv3]; exact Cls.new _ _ _)
      have hb : Below v2.heap.size v2 v3 := by rw [hv3]; exact (Below.refl _ _).alloc (Nat.le_refl _) _
      have ltIb := Ib.out.lt
      replace Wb := hid (Wb.out.below hb)
      replace RA := hid (RA.out.below hb)
      replace RB := hid (RB.out.below hb)
      replace RC := hid (RC.out.below hb)
      replace B0 := hid (B0.out.trans (hb.mono B0.out.size))
      replace M0 := hid (M0.out.below hb)
      clear hb
      have Wb0 := Wb.out.cell 0 (x := .int .u64 (M.hiN X : Int)) rfl
      have Wb1 := Wb.out.cell 1 (x := .int .u64 (M.loN X : Int)) rfl
      have Ib0 := Ib.out.cell 0 (x := .slice ia (L (bA (M.fm k) T)).length ca) rfl
      have Ib1 := Ib.out.cell 1 (x := .slice ib (L (bB T)).length cb) rfl
      have Ib2 := Ib.out.cell 2 (x := .slice ic (L (bC T)).length cc) rfl
      have Ib3 := Ib.out.cell 3 (x := .bool (decide (T.s % 2 = 0))) rfl
      have Ib4 := Ib.out.cell 4 (x := .bool true) rfl
      subst hv3
      go_wp2_with fail
      generalize v2.alloc (.cells #[.slice ia (L (bA (M.fm k) T)).length ca, .slice ib (L (bB T)).length cb, .slice ic (L (bC T)).length cc, .bool (decide (T.s % 2 = 0)), .bool true] 30) = v3 at *
      clear Wbo0 Wbo1 Wb0 Wb1 Ib0 Ib1 Ib2 Ib3 Ib4
      refine (kS _).mono ?_
      rintro e v4 ⟨ja, da, jb, db, jc, dc, n1, n2, rfl, e1, e2, e3, oA, oB, oC, hb⟩
      replace Wb := hid (Wb.out.below hb)
      replace Ib := hid (Ib.out.below hb)
      replace RA := hid (RA.out.below hb)
      replace RB := hid (RB.out.below hb)
      replace RC := hid (RC.out.below hb)
      replace B0 := hid (B0.out.trans (hb.mono B0.out.size))
      replace M0 := hid (M0.out.below hb)
      clear hb kS oA oB oC e1 e2 e3
      have Wbo0 := Wb.out.cell 0 (x := .int .u64 (M.hiN X : Int)) rfl
      have Wbo1 := Wb.out.cell 1 (x := .int .u64 (M.loN X : Int)) rfl
      have Ibo0 := Ib.out.cell 0 (x := .slice ia (L (bA (M.fm k) T)).length ca) rfl
      have Ibo1 := Ib.out.cell 1 (x := .slice ib (L (bB T)).length cb) rfl
      have Ibo2 := Ib.out.cell 2 (x := .slice ic (L (bC T)).length cc) rfl
      have Ibo3 := Ib.out.cell 3 (x := .bool (decide (T.s % 2 = 0))) rfl
      have Ibo4 := Ib.out.cell 4 (x := .bool true) rfl
      obtain ⟨v5, hv5⟩ : ∃ v, v = v4.alloc (.cells #[.slice ja (L (bA (M.fm k) T)).length da, .slice jb (L (bB T)).length db, .slice jc (L (bC T)).length dc, .bool (decide (T.s % 2 = 0)), .bool true] 30) := ⟨_, rfl⟩
      have Iw := hid (show Cls v5 v4.heap.size #[.slice ja (L (bA (M.fm k) T)).length da, .slice jb (L (bB T)).length db, .slice jc (L (bC T)).length dc, .bool (decide (T.s % 2 = 0)), .bool true] 30 by rw [hv5]; exact Cls.new _ _ _)
      have hb : Below v4.heap.size v4 v5 := by rw [hv5]; exact (Below.refl _ _).alloc (Nat.le_refl _) _
      have ltIw := Iw.out.lt
      replace Wb := hid (Wb.out.below hb)
      replace Ib := hid (Ib.out.below hb)
      replace RA := hid (RA.out.below hb)
      replace RB := hid (RB.out.below hb)
      replace RC := hid (RC.out.below hb)
      replace B0 := hid (B0.out.trans (hb.mono B0.out.size))
      replace M0 := hid (M0.out.below hb)
      clear hb
      have Wb0 := Wb.out.cell 0 (x := .int .u64 (M.hiN X : Int)) rfl
      have Wb1 := Wb.out.cell 1 (x := .int .u64 (M.loN X : Int)) rfl
      have Ib0 := Ib.out.cell 0 (x := .slice ia (L (bA (M.fm k) T)).length ca) rfl
      have Ib1 := Ib.out.cell 1 (x := .slice ib (L (bB T)).length cb) rfl
      have Ib2 := Ib.out.cell 2 (x := .slice ic (L (bC T)).length cc) rfl
      have Ib3 := Ib.out.cell 3 (x := .bool (decide (T.s % 2 = 0))) rfl
      have Ib4 := Ib.out.cell 4 (x := .bool true) rfl
      have Iw0 := Iw.out.cell 0 (x := .slice ja (L (bA (M.fm k) T)).length da) rfl
      have Iw1 := Iw.out.cell 1 (x := .slice jb (L (bB T)).length db) rfl
      have Iw2 := Iw.out.cell 2 (x := .slice jc (L (bC T)).length dc) rfl
      have Iw3 := Iw.out.cell 3 (x := .bool (decide (T.s % 2 = 0))) rfl
      have Iw4 := Iw.out.cell 4 (x := .bool true) rfl
      subst hv5
      go_wp2_with fail
      generalize v4.alloc (.cells #[.slice ja (L (bA (M.fm k) T)).length da, .slice jb (L (bB T)).length db, .slice jc (L (bC T)).length dc, .bool (decide (T.s % 2 = 0)), .bool true] 30) = v5 at *
      clear Wbo0 Wbo1 Ibo0 Ibo1 Ibo2 Ibo3 Ibo4 Wb0 Wb1 Ib0 Ib1 Ib2 Ib3 Ib4 Iw0 Iw1 Iw2 Iw3 Iw4
      refine (kU _).mono ?_
      rintro e v6 ⟨rfl, hb⟩
      replace Wb := hid (Wb.out.below hb)
      replace Ib := hid (Ib.out.below hb)
      replace Iw := hid (Iw.out.below hb)
      replace RA := hid (RA.out.below hb)
      replace RB := hid (RB.out.below hb)
      replace RC := hid (RC.out.below hb)
      replace B0 := hid (B0.out.trans (hb.mono B0.out.size))
      replace M0 := hid (M0.out.below hb)
      clear hb kU
      obtain ⟨v7, hv7⟩ : ∃ v, v = v6.alloc (.cells #[.int .i64 T.c, .bool false, .int .u64 (M.hiN T.s : Int), .int .u64 (M.loN T.s : Int), .int .i64 T.q] 33) := ⟨_, rfl⟩
      have Pb := hid (show Cls v7 v6.heap.size #[.int .i64 T.c, .bool false, .int .u64 (M.hiN T.s : Int), .int .u64 (M.loN T.s : Int), .int .i64 T.q] 33 by rw [hv7]; exact Cls.new _ _ _)
      have hb : Below v6.heap.size v6 v7 := by rw [hv7]; exact (Below.refl _ _).alloc (Nat.le_refl _) _
      have ltPb := Pb.out.lt
      replace Wb := hid (Wb.out.below hb)
      replace Ib := hid (Ib.out.below hb)
      replace Iw := hid (Iw.out.below hb)
      replace RA := hid (RA.out.below hb)
      replace RB := hid (RB.out.below hb)
      replace RC := hid (RC.out.below hb)
      replace B0 := hid (B0.out.trans (hb.mono B0.out.size))
      replace M0 := hid (M0.out.below hb)
      clear hb
      have Pb0 := Pb.out.cell 0 (x := .int .i64 T.c) rfl
      have Pb1 := Pb.out.cell 1 (x := .bool false) rfl
      have Pb2 := Pb.out.cell 2 (x := .int .u64 (M.hiN T.s : Int)) rfl
      have Pb3 := Pb.out.cell 3 (x := .int .u64 (M.loN T.s : Int)) rfl
      have Pb4 := Pb.out.cell 4 (x := .int .i64 T.q) rfl
      subst hv7
      go_wp2_with fail
      generalize v6.alloc (.cells #[.int .i64 T.c, .bool false, .int .u64 (M.hiN T.s : Int), .int .u64 (M.loN T.s : Int), .int .i64 T.q] 33) = v7 at *
      clear Pb0 Pb1 Pb2 Pb3 Pb4
      have hpr' : (M.fm k).Proper ⟨T.c, false, T.s, T.q⟩ := by
        have := hpr
        unfold M.Fm.Proper at this ⊢
        simp only at this ⊢
        omega
      have ea : ansN (M.fm k) ⟨T.c, false, T.s, T.q⟩ = (M.fm k).pk ⟨T.c, false, T.s, T.q⟩ := by unfold ansN; rw [if_pos hpr']
      have kP := spack_any k hk T.c false T.s (by omega) T.q (by omega) (by omega)
      rw [ea] at kP
      refine (kP _).mono ?_
      rintro e v8 ⟨rfl, hb⟩
      replace Wb := hid (Wb.out.below hb)
      replace Ib := hid (Ib.out.below hb)
      replace Iw := hid (Iw.out.below hb)
      replace Pb := hid (Pb.out.below hb)
      replace RA := hid (RA.out.below hb)
      replace RB := hid (RB.out.below hb)
      replace RC := hid (RC.out.below hb)
      replace B0 := hid (B0.out.trans (hb.mono B0.out.size))
      replace M0 := hid (M0.out.below hb)
      clear hb kP
      obtain ⟨P, hP⟩ : ∃ P, P = (M.fm k).pk ⟨T.c, false, T.s, T.q⟩ := ⟨_, rfl⟩
      rw [← hP]
      have HP := hid hP
      clear hP
      have Ibo0 := Ib.out.cell 0 (x := .slice ia (L (bA (M.fm k) T)).length ca) rfl
      have Ibo1 := Ib.out.cell 1 (x := .slice ib (L (bB T)).length cb) rfl
      have Ibo2 := Ib.out.cell 2 (x := .slice ic (L (bC T)).length cc) rfl
      have Ibo3 := Ib.out.cell 3 (x := .bool (decide (T.s % 2 = 0))) rfl
      have Ibo4 := Ib.out.cell 4 (x := .bool true) rfl
      have Iwo0 := Iw.out.cell 0 (x := .slice ja (L (bA (M.fm k) T)).length da) rfl
      have Iwo1 := Iw.out.cell 1 (x := .slice jb (L (bB T)).length db) rfl
      have Iwo2 := Iw.out.cell 2 (x := .slice jc (L (bC T)).length dc) rfl
      have Iwo3 := Iw.out.cell 3 (x := .bool (decide (T.s % 2 = 0))) rfl
      have Iwo4 := Iw.out.cell 4 (x := .bool true) rfl
      obtain ⟨v9, hv9⟩ : ∃ v, v = v8.alloc (.cells #[.int .u64 (M.hiN P : Int), .int .u64 (M.loN P : Int)] 25) := ⟨_, rfl⟩
      have Lb := hid (show Cls v9 v8.heap.size #[.int .u64 (M.hiN P : Int), .int .u64 (M.loN P : Int)] 25 by rw [hv9]; exact Cls.new _ _ _)
      have hb : Below v8.heap.size v8 v9 := by rw [hv9]; exact (Below.refl _ _).alloc (Nat.le_refl _) _
      have ltLb := Lb.out.lt
      replace Wb := hid (Wb.out.below hb)
      replace Ib := hid (Ib.out.below hb)
      replace Iw := hid (Iw.out.below hb)
      replace Pb := hid (Pb.out.below hb)
      replace RA := hid (RA.out.below hb)
      replace RB := hid (RB.out.below hb)
      replace RC := hid (RC.out.below hb)
      replace B0 := hid (B0.out.trans (hb.mono B0.out.size))
      replace M0 := hid (M0.out.below hb)
      clear hb
      have Ib0 := Ib.out.cell 0 (x := .slice ia (L (bA (M.fm k) T)).length ca) rfl
      have Ib1 := Ib.out.cell 1 (x := .slice ib (L (bB T)).length cb) rfl
      have Ib2 := Ib.out.cell 2 (x := .slice ic (L (bC T)).length cc) rfl
      have Ib3 := Ib.out.cell 3 (x := .bool (decide (T.s % 2 = 0))) rfl
      have Ib4 := Ib.out.cell 4 (x := .bool true) rfl
      have Iw0 := Iw.out.cell 0 (x := .slice ja (L (bA (M.fm k) T)).length da) rfl
      have Iw1 := Iw.out.cell 1 (x := .slice jb (L (bB T)).length db) rfl
      have Iw2 := Iw.out.cell 2 (x := .slice jc (L (bC T)).length dc) rfl
      have Iw3 := Iw.out.cell 3 (x := .bool (decide (T.s % 2 = 0))) rfl
      have Iw4 := Iw.out.cell 4 (x := .bool true) rfl
      have Lb0 := Lb.out.cell 0 (x := .int .u64 (M.hiN P : Int)) rfl
      have Lb1 := Lb.out.cell 1 (x := .int .u64 (M.loN P : Int)) rfl
      subst hv9
      go_wp2_with fail
      generalize v8.alloc (.cells #[.int .u64 (M.hiN P : Int), .int .u64 (M.loN P : Int)] 25) = v9 at *
      clear Ibo0 Ibo1 Ibo2 Ibo3 Ibo4 Iwo0 Iwo1 Iwo2 Iwo3 Iwo4 Ib0 Ib1 Ib2 Ib3 Ib4 Iw0 Iw1 Iw2 Iw3 Iw4 Lb0 Lb1
      obtain ⟨A, hA⟩ : ∃ A, A = bA (M.fm k) T := ⟨_, rfl⟩
      obtain ⟨B, hB⟩ : ∃ B, B = bB T := ⟨_, rfl⟩
      obtain ⟨C, hC⟩ : ∃ C, C = bC T := ⟨_, rfl⟩
      rw [← hA, ← hB, ← hC] at hl ⊢
      rw [← hA] at RA Ib Iw
      rw [← hB] at RB Ib Iw
      rw [← hC] at RC Ib Iw
      have HA := hid hA; have HB := hid hB; have HC := hid hC
      clear hA hB hC
      obtain ⟨E, hE⟩ : ∃ E : Nat, E = 17128 := ⟨_, rfl⟩
      obtain ⟨G, hG⟩ : ∃ G : Nat, G = 300 := ⟨_, rfl⟩
      have hl3 : A < 2 ^ E ∧ B < 2 ^ E ∧ C < 2 ^ E := ⟨Nat.lt_of_lt_of_le hl.1 (Nat.pow_le_pow_right (by omega) (by omega)), Nat.lt_of_lt_of_le hl.2.1 (Nat.pow_le_pow_right (by omega) (by omega)), Nat.lt_of_lt_of_le hl.2.2.1 (Nat.pow_le_pow_right (by omega) (by omega))⟩
      clear hl
      obtain ⟨NA, hNA⟩ : ∃ N, N = A * 2 ^ 70 := ⟨_, rfl⟩
      obtain ⟨NB, hNB⟩ : ∃ N, N = B * 2 ^ 70 := ⟨_, rfl⟩
      obtain ⟨NC, hNC⟩ : ∃ N, N = C * 2 ^ 70 := ⟨_, rfl⟩
      have HL := hid (And.intro (shl_len E G hE hG A NA hNA hl3.1) (And.intro (shl_len E G hE hG B NB hNB hl3.2.1) (shl_len E G hE hG C NC hNC hl3.2.2)))
      clear hl3 hE hG E G
      have HNA := hid hNA; have HNB := hid hNB; have HNC := hid hNC
      clear hNA hNB hNC
      have en := h'.ends (t := ⟨T.c, false, T.s, T.q⟩) hpr' hc rfl (2 ^ 70) (by omega) A B C (HA.out.trans (by unfold bA bLow M.Fm.low4; rfl)) HB.out HC.out
      rw [← HNA.out, ← HNB.out, ← HNC.out] at en
      have pA : 0 < NA := by rw [HNA.out]; exact Nat.mul_pos en.1 (by omega)
      have pB : 0 < NB := by rw [HNB.out]; exact Nat.mul_pos en.2.1 (by omega)
      have pC : 0 < NC := by rw [HNC.out]; exact Nat.mul_pos en.2.2.1 (by omega)
      have EN := hid en.2.2.2
      clear en
      refine (sh70 C NC HNC.out _ _ _ HL.out.2.2.1 RC.out).mono ?_
      rintro e v10 ⟨xd, cd, rfl, hcd, hr, hb⟩
      replace Wb := hid (Wb.out.below hb)
      replace Ib := hid (Ib.out.below hb)
      replace Iw := hid (Iw.out.below hb)
      replace Pb := hid (Pb.out.below hb)
      replace Lb := hid (Lb.out.below hb)
      replace RA := hid (RA.out.below hb)
      replace RB := hid (RB.out.below hb)
      replace RC := hid (RC.out.below hb)
      replace B0 := hid (B0.out.trans (hb.mono B0.out.size))
      replace M0 := hid (M0.out.below hb)
      clear hb
      have RD := hid hr
      clear hr
      have Ib0 := Ib.out.cell 0 (x := .slice ia (L A).length ca) rfl
      have Ib1 := Ib.out.cell 1 (x := .slice ib (L B).length cb) rfl
      have Ib2 := Ib.out.cell 2 (x := .slice ic (L C).length cc) rfl
      have Ib3 := Ib.out.cell 3 (x := .bool (decide (T.s % 2 = 0))) rfl
      have Ib4 := Ib.out.cell 4 (x := .bool true) rfl
      go_wp2_with fail
      clear Ib0 Ib1 Ib2 Ib3 Ib4
      refine (sh70 A NA HNA.out _ _ _ HL.out.1.1 RA.out).mono ?_
      rintro e v11 ⟨xl, cl, rfl, hcl, hr, hb⟩
      replace Wb := hid (Wb.out.below hb)
      replace Ib := hid (Ib.out.below hb)
      replace Iw := hid (Iw.out.below hb)
      replace Pb := hid (Pb.out.below hb)
      replace Lb := hid (Lb.out.below hb)
      replace RA := hid (RA.out.below hb)
      replace RB := hid (RB.out.below hb)
      replace RC := hid (RC.out.below hb)
      replace RD := hid (RD.out.below hb)
      replace B0 := hid (B0.out.trans (hb.mono B0.out.size))
      replace M0 := hid (M0.out.below hb)
      clear hb
      have RL := hid hr
      clear hr
      have Ib0 := Ib.out.cell 0 (x := .slice ia (L A).length ca) rfl
      have Ib1 := Ib.out.cell 1 (x := .slice ib (L B).length cb) rfl
      have Ib2 := Ib.out.cell 2 (x := .slice ic (L C).length cc) rfl
      have Ib3 := Ib.out.cell 3 (x := .bool (decide (T.s % 2 = 0))) rfl
      have Ib4 := Ib.out.cell 4 (x := .bool true) rfl
      go_wp2_with fail
      clear Ib0 Ib1 Ib2 Ib3 Ib4
      refine (sh70 B NB HNB.out _ _ _ HL.out.2.1.1 RB.out).mono ?_
      rintro e v12 ⟨xh, ch, rfl, hch, hr, hb⟩
      replace Wb := hid (Wb.out.below hb)
      replace Ib := hid (Ib.out.below hb)
      replace Iw := hid (Iw.out.below hb)
      replace Pb := hid (Pb.out.below hb)
      replace Lb := hid (Lb.out.below hb)
      replace RA := hid (RA.out.below hb)
      replace RB := hid (RB.out.below hb)
      replace RC := hid (RC.out.below hb)
      replace RD := hid (RD.out.below hb)
      replace RL := hid (RL.out.below hb)
      replace B0 := hid (B0.out.trans (hb.mono B0.out.size))
      replace M0 := hid (M0.out.below hb)
      clear hb
      have RH := hid hr
      clear hr
      have Ib0 := Ib.out.cell 0 (x := .slice ia (L A).length ca) rfl
      have Ib1 := Ib.out.cell 1 (x := .slice ib (L B).length cb) rfl
      have Ib2 := Ib.out.cell 2 (x := .slice ic (L C).length cc) rfl
      have Ib3 := Ib.out.cell 3 (x := .bool (decide (T.s % 2 = 0))) rfl
      have Ib4 := Ib.out.cell 4 (x := .bool true) rfl
      go_wp2_with fail
      clear Ib0 Ib1 Ib2 Ib3 Ib4
      have R1 := hid (one_rd v12 23)
      have hb : Below v12.heap.size v12 (v12.alloc (.cells #[.int .u64 1] 23)) := (Below.refl _ _).alloc (Nat.le_refl _) _
      replace Wb := hid (Wb.out.below hb)
      replace Ib := hid (Ib.out.below hb)
      replace Iw := hid (Iw.out.below hb)
      replace Pb := hid (Pb.out.below hb)
      replace Lb := hid (Lb.out.below hb)
      replace RA := hid (RA.out.below hb)
      replace RB := hid (RB.out.below hb)
      replace RC := hid (RC.out.below hb)
      replace RD := hid (RD.out.below hb)
      replace RL := hid (RL.out.below hb)
      replace RH := hid (RH.out.below hb)
      replace B0 := hid (B0.out.trans (hb.mono B0.out.size))
      replace M0 := hid (M0.out.below hb)
      clear hb
      generalize hv13 : v12.alloc (.cells #[.int .u64 1] 23) = v13 at *
      clear hv13
      refine (sub1 NA pA _ _ _ _ _ (by have := HL.out.1.2.1; omega) RL.out R1.out).mono ?_
      rintro e v14 ⟨xu, cu, rfl, hcu, hr, hb⟩
      replace Wb := hid (Wb.out.below hb)
      replace Ib := hid (Ib.out.below hb)
      replace Iw := hid (Iw.out.below hb)
      replace Pb := hid (Pb.out.below hb)
      replace Lb := hid (Lb.out.below hb)
      replace RA := hid (RA.out.below hb)
      replace RB := hid (RB.out.below hb)
      replace RC := hid (RC.out.below hb)
      replace RD := hid (RD.out.below hb)
      replace RL := hid (RL.out.below hb)
      replace RH := hid (RH.out.below hb)
      replace R1 := hid (R1.out.below hb)
      replace B0 := hid (B0.out.trans (hb.mono B0.out.size))
      replace M0 := hid (M0.out.below hb)
      clear hb
      have RU := hid hr
      clear hr
      go_wp2_with fail
      refine (sub1 NB pB _ _ _ _ _ (by have := HL.out.2.1.2.1; omega) RH.out R1.out).mono ?_
      rintro e v15 ⟨xi, ci, rfl, hci, hr, hb⟩
      replace Wb := hid (Wb.out.below hb)
      replace Ib := hid (Ib.out.below hb)
      replace Iw := hid (Iw.out.below hb)
      replace Pb := hid (Pb.out.below hb)
      replace Lb := hid (Lb.out.below hb)
      replace RA := hid (RA.out.below hb)
      replace RB := hid (RB.out.below hb)
      replace RC := hid (RC.out.below hb)
      replace RD := hid (RD.out.below hb)
      replace RL := hid (RL.out.below hb)
      replace RH := hid (RH.out.below hb)
      replace R1 := hid (R1.out.below hb)
      replace RU := hid (RU.out.below hb)
      replace B0 := hid (B0.out.trans (hb.mono B0.out.size))
      replace M0 := hid (M0.out.below hb)
      clear hb
      have RI := hid hr
      clear hr
      go_wp2_with fail
      have qA : 0 < NA - 1 := by have := HNA.out; omega
      have qB : 0 < NB - 1 := by have := HNB.out; omega
      obtain ⟨y1, hy1⟩ : ∃ y, y = (M.fm k).pk ((M.fm k).rPt false NA NC) := ⟨_, rfl⟩
      have w1 := word_iff h' ⟨T.c, false, T.s, T.q⟩ hpr' NA NC pA pC y1 P hy1 HP.out
      obtain ⟨y2, hy2⟩ : ∃ y, y = (M.fm k).pk ((M.fm k).rPt false NB NC) := ⟨_, rfl⟩
      have w2 := word_iff h' ⟨T.c, false, T.s, T.q⟩ hpr' NB NC pB pC y2 P hy2 HP.out
      obtain ⟨y3, hy3⟩ : ∃ y, y = (M.fm k).pk ((M.fm k).rPt false (NA - 1) NC) := ⟨_, rfl⟩
      have w3 := word_iff h' ⟨T.c, false, T.s, T.q⟩ hpr' (NA - 1) NC qA pC y3 P hy3 HP.out
      obtain ⟨y4, hy4⟩ : ∃ y, y = (M.fm k).pk ((M.fm k).rPt false (NA + 1) NC) := ⟨_, rfl⟩
      have w4 := word_iff h' ⟨T.c, false, T.s, T.q⟩ hpr' (NA + 1) NC (by omega) pC y4 P hy4 HP.out
      obtain ⟨y5, hy5⟩ : ∃ y, y = (M.fm k).pk ((M.fm k).rPt false (NB - 1) NC) := ⟨_, rfl⟩
      have w5 := word_iff h' ⟨T.c, false, T.s, T.q⟩ hpr' (NB - 1) NC qB pC y5 P hy5 HP.out
      obtain ⟨y6, hy6⟩ : ∃ y, y = (M.fm k).pk ((M.fm k).rPt false (NB + 1) NC) := ⟨_, rfl⟩
      have w6 := word_iff h' ⟨T.c, false, T.s, T.q⟩ hpr' (NB + 1) NC (by omega) pC y6 P hy6 HP.out
      obtain ⟨n1, n2, n3, n4, n5, n6⟩ := EN.out
      clear EN
      rw [n1] at w1
      rw [n2] at w2
      replace n3 := mt w3.1 n3
      replace n4 := w4.2 n4
      replace n5 := w5.2 n5
      replace n6 := mt w6.1 n6
      clear n1 n2 w3 w4 w5 w6
      have k1 : ∀ u, Below v15.heap.size v15 u → Calls Tryd.prog 12 #[.int .i64 (k : Int), .bool false, .slice xl (L NA).length cl, .slice xd (L NC).length cd] u fun e w' => ∃ fl, e = .returned (.agg #[.int .u64 (M.hiN y1 : Int), .int .u64 (M.loN y1 : Int), .int .i64 fl, .bool true]) ∧ Below u.heap.size u w' := fun u hu => rr1 k hk NA NC y1 pA pC hy1 _ _ _ _ u (M0.out.below hu) HL.out.1.2.1 HL.out.2.2.2.1 hcl hcd (RL.out.below hu) (RD.out.below hu)
      have k2 : ∀ u, Below v15.heap.size v15 u → Calls Tryd.prog 12 #[.int .i64 (k : Int), .bool false, .slice xh (L NB).length ch, .slice xd (L NC).length cd] u fun e w' => ∃ fl, e = .returned (.agg #[.int .u64 (M.hiN y2 : Int), .int .u64 (M.loN y2 : Int), .int .i64 fl, .bool true]) ∧ Below u.heap.size u w' := fun u hu => rr1 k hk NB NC y2 pB pC hy2 _ _ _ _ u (M0.out.below hu) HL.out.2.1.2.1 HL.out.2.2.2.1 hch hcd (RH.out.below hu) (RD.out.below hu)
      have k3 : ∀ u, Below v15.heap.size v15 u → Calls Tryd.prog 12 #[.int .i64 (k : Int), .bool false, .slice xu (L (NA - 1)).length cu, .slice xd (L NC).length cd] u fun e w' => ∃ fl, e = .returned (.agg #[.int .u64 (M.hiN y3 : Int), .int .u64 (M.loN y3 : Int), .int .i64 fl, .bool true]) ∧ Below u.heap.size u w' := fun u hu => rr1 k hk (NA - 1) NC y3 qA pC hy3 _ _ _ _ u (M0.out.below hu) HL.out.1.2.2.1 HL.out.2.2.2.1 hcu hcd (RU.out.below hu) (RD.out.below hu)
      have k4 : ∀ u (ao : Option Addr) (c : Nat), Below v15.heap.size v15 u → (L (NA + 1)).length ≤ c → Rd u ao (L (NA + 1)) → Calls Tryd.prog 12 #[.int .i64 (k : Int), .bool false, .slice ao (L (NA + 1)).length c, .slice xd (L NC).length cd] u fun e w' => ∃ fl, e = .returned (.agg #[.int .u64 (M.hiN y4 : Int), .int .u64 (M.loN y4 : Int), .int .i64 fl, .bool true]) ∧ Below u.heap.size u w' := fun u ao c hu hc hr => rr1 k hk (NA + 1) NC y4 (by omega) pC hy4 _ _ _ _ u (M0.out.below hu) HL.out.1.2.2.2 HL.out.2.2.2.1 hc hcd hr (RD.out.below hu)
      have k5 : ∀ u, Below v15.heap.size v15 u → Calls Tryd.prog 12 #[.int .i64 (k : Int), .bool false, .slice xi (L (NB - 1)).length ci, .slice xd (L NC).length cd] u fun e w' => ∃ fl, e = .returned (.agg #[.int .u64 (M.hiN y5 : Int), .int .u64 (M.loN y5 : Int), .int .i64 fl, .bool true]) ∧ Below u.heap.size u w' := fun u hu => rr1 k hk (NB - 1) NC y5 qB pC hy5 _ _ _ _ u (M0.out.below hu) HL.out.2.1.2.2.1 HL.out.2.2.2.1 hci hcd (RI.out.below hu) (RD.out.below hu)
      have k6 : ∀ u (ao : Option Addr) (c : Nat), Below v15.heap.size v15 u → (L (NB + 1)).length ≤ c → Rd u ao (L (NB + 1)) → Calls Tryd.prog 12 #[.int .i64 (k : Int), .bool false, .slice ao (L (NB + 1)).length c, .slice xd (L NC).length cd] u fun e w' => ∃ fl, e = .returned (.agg #[.int .u64 (M.hiN y6 : Int), .int .u64 (M.loN y6 : Int), .int .i64 fl, .bool true]) ∧ Below u.heap.size u w' := fun u ao c hu hc hr => rr1 k hk (NB + 1) NC y6 (by omega) pC hy6 _ _ _ _ u (M0.out.below hu) HL.out.2.1.2.2.2 HL.out.2.2.2.1 hc hcd hr (RD.out.below hu)
      have aA : ∀ u, Below v15.heap.size v15 u → Calls Tryd.prog 13 #[.slice xl (L NA).length cl, .slice (some ⟨v12.heap.size, 0, none⟩) 1 1] u fun e w' => Sl u w' e (NA + 1) := fun u hu => add1 NA _ _ _ _ u (by have := HL.out.1.2.1; omega) (RL.out.below hu) (R1.out.below hu)
      have aB : ∀ u, Below v15.heap.size v15 u → Calls Tryd.prog 13 #[.slice xh (L NB).length ch, .slice (some ⟨v12.heap.size, 0, none⟩) 1 1] u fun e w' => Sl u w' e (NB + 1) := fun u hu => add1 NB _ _ _ _ u (by have := HL.out.2.1.2.1; omega) (RH.out.below hu) (R1.out.below hu)
      obtain ⟨cz, hcz⟩ : ∃ cz, cz = decide (T.s % 2 = 0) := ⟨_, rfl⟩
      rw [← hcz] at Iw ⊢
      have KB : ∀ u, Below v15.heap.size v15 u → (fun u => u.cell? ⟨v4.heap.size, 3, none⟩ = some (.bool cz) ∧ u.cell? ⟨v8.heap.size, 0, none⟩ = some (.int .u64 (M.hiN P : Int)) ∧ u.cell? ⟨v8.heap.size, 1, none⟩ = some (.int .u64 (M.loN P : Int))) u := fun u hu => ⟨(Iw.out.below hu).cell 3 rfl, (Lb.out.below hu).cell 0 rfl, (Lb.out.below hu).cell 1 rfl⟩
      have Z1 := hid (w1.trans (show T.s % 2 = 0 ↔ cz = true by rw [hcz]; exact decide_eq_true_iff.symm))
      have Z2 := hid (w2.trans (show T.s % 2 = 0 ↔ cz = true by rw [hcz]; exact decide_eq_true_iff.symm))
      have Z3 := hid (show (M.hiN y3 = M.hiN P ∧ M.loN y3 = M.loN P) ↔ false = true from ⟨fun q => absurd q n3, fun q => by cases q⟩)
      have Z6 := hid (show (M.hiN y6 = M.hiN P ∧ M.loN y6 = M.loN P) ↔ false = true from ⟨fun q => absurd q n6, fun q => by cases q⟩)
      have Z4 := hid (show (M.hiN y4 = M.hiN P ∧ M.loN y4 = M.loN P) ↔ true = true from ⟨fun _ => rfl, fun _ => n4⟩)
      have Z5 := hid (show (M.hiN y5 = M.hiN P ∧ M.loN y5 = M.loN P) ↔ true = true from ⟨fun _ => rfl, fun _ => n5⟩)
      have N3 := hid n3; have N6 := hid n6; have P4 := hid n4; have P5 := hid n5
      clear n3 n4 n5 n6
      clear hcz w1 w2 kD hm h1 hX hk hc hpr hpr' h' hf Wb Ib Iw Pb Lb RA RB RC RD RL RH R1 RU RI M0 HA HB HC HL HNA HNB HNC HT HP pA pB pC qA qB ea hfi fs1 fs2 fs3 fs4 fq1 fq2 fq3 fq4 hcd hcl hch hcu hci hy1 hy2 hy3 hy4 hy5 hy6
      have fw := fld_w
      have A0 : Below v15.heap.size v15 v15.drew := (Below.refl _ _).drew
      refine wp_region_held_drew (S := fun u => u.cell? ⟨v4.heap.size, 3, none⟩ = some (.bool cz) ∧ u.cell? ⟨v8.heap.size, 0, none⟩ = some (.int .u64 (M.hiN P : Int)) ∧ u.cell? ⟨v8.heap.size, 1, none⟩ = some (.int .u64 (M.loN P : Int))) (by kernel_rfl) (KB _ A0) (fun hS => ?_)
      refine wpAnyH_take (i := 0) (v := ?_) rfl (by kernel_rfl) (by kernel_rfl) (by kernel_rfl) (fun _ _ _ h => h) (Or.inl ⟨by kernel_rfl, ?_⟩) hS ?_
      rotate_left
      · (intro u hSu; obtain ⟨s1, s2, s3⟩ := hSu; first | (go_simp; done) | (go_simp; with_reducible rfl) | with_reducible rfl)
      refine wpAnyH_take (i := 1) (v := ?_) rfl (by kernel_rfl) (by kernel_rfl) (by kernel_rfl) (fun _ _ _ h => h) (Or.inl ⟨by kernel_rfl, ?_⟩) hS ?_
      rotate_left
      · (intro u hSu; obtain ⟨s1, s2, s3⟩ := hSu; first | (go_simp; done) | (go_simp; with_reducible rfl) | with_reducible rfl)
      refine wpAnyH_take (i := 2) (v := ?_) rfl (by kernel_rfl) (by kernel_rfl) (by kernel_rfl) (fun _ _ _ h => h) (Or.inl ⟨by kernel_rfl, ?_⟩) hS ?_
      rotate_left
      · (intro u hSu; obtain ⟨s1, s2, s3⟩ := hSu; first | (go_simp; done) | (go_simp; with_reducible rfl) | with_reducible rfl)
      refine wpAnyH_take (i := 5) (v := ?_) rfl (by kernel_rfl) (by kernel_rfl) (by kernel_rfl) (fun _ _ _ h => h) (Or.inl ⟨by kernel_rfl, ?_⟩) hS ?_
      rotate_left
      · (intro u hSu; obtain ⟨s1, s2, s3⟩ := hSu; first | (go_simp; done) | (go_simp; with_reducible rfl) | with_reducible rfl)
      refine wpAnyH_take (i := 7) (v := ?_) rfl (by kernel_rfl) (by kernel_rfl) (by kernel_rfl) (fun _ _ _ h => h) (Or.inl ⟨by kernel_rfl, ?_⟩) hS ?_
      rotate_left
      · (intro u hSu; obtain ⟨s1, s2, s3⟩ := hSu; first | (go_simp; done) | (go_simp; with_reducible rfl) | with_reducible rfl)
      refine wpAnyH_take (i := 8) (v := ?_) rfl (by kernel_rfl) (by kernel_rfl) (by kernel_rfl) (fun _ _ _ h => h) (Or.inl ⟨by kernel_rfl, ?_⟩) hS ?_
      rotate_left
      · (intro u hSu; obtain ⟨s1, s2, s3⟩ := hSu; first | (go_simp; done) | (go_simp; with_reducible rfl) | with_reducible rfl)
      refine wpAnyH_ready (rs := [3]) (by kernel_rfl) (by simp) ?_
      refine AllReadyH.cons rfl (fun K hK => ?_) AllReadyH.nil
      go_simp
      go_at_call 12
      refine (k1 _ A0).mono ?_
      rintro e u1 ⟨fl1, rfl, hb0⟩
      have A1 := A0.trans (hb0.mono A0.size)
      clear A0 hb0
      go_simp
      refine hK.out _ _ (KB _ A1) ?_
      clear hK K hS
      intro hS
      refine wpAnyH_take (i := 4) (v := ?_) rfl (by kernel_rfl) (by kernel_rfl) (by kernel_rfl) (fun _ _ _ h => h) (Or.inl ⟨by kernel_rfl, ?_⟩) hS ?_
      rotate_left
      · (intro u hSu; obtain ⟨s1, s2, s3⟩ := hSu; first | (go_simp; done) | (go_simp; with_reducible rfl) | with_reducible rfl)
      refine wpAnyH_take (i := 6) (v := .bool cz) rfl (by kernel_rfl) (by kernel_rfl) (by kernel_rfl) (fun _ _ _ h => h) (Or.inl ⟨by kernel_rfl, ?_⟩) hS ?_
      · (intro u hSu; obtain ⟨s1, s2, s3⟩ := hSu; go_simp; exact ifs Z1.out u)
      refine wpAnyH_take (i := 9) (v := .bool true) rfl (by kernel_rfl) (by kernel_rfl) (by kernel_rfl) (fun _ _ _ h => h) (Or.inl ⟨by kernel_rfl, ?_⟩) hS ?_
      · (intro u hSu; obtain ⟨s1, s2, s3⟩ := hSu; go_simp)
      refine wpAnyH_take (i := 10) (v := ?_) rfl (by kernel_rfl) (by kernel_rfl) (by kernel_rfl) (fun _ _ _ h => h) (Or.inl ⟨by kernel_rfl, ?_⟩) hS ?_
      rotate_left
      · (intro u hSu; obtain ⟨s1, s2, s3⟩ := hSu; first | (go_simp; done) | (go_simp; with_reducible rfl) | with_reducible rfl)
      refine wpAnyH_take (i := 11) (v := ?_) rfl (by kernel_rfl) (by kernel_rfl) (by kernel_rfl) (fun _ _ _ h => h) (Or.inl ⟨by kernel_rfl, ?_⟩) hS ?_
      rotate_left
      · (intro u hSu; obtain ⟨s1, s2, s3⟩ := hSu; first | (go_simp; done) | (go_simp; with_reducible rfl) | with_reducible rfl)
      refine wpAnyH_take (i := 12) (v := ?_) rfl (by kernel_rfl) (by kernel_rfl) (by kernel_rfl) (fun _ _ _ h => h) (Or.inl ⟨by kernel_rfl, ?_⟩) hS ?_
      rotate_left
      · (intro u hSu; obtain ⟨s1, s2, s3⟩ := hSu; first | (go_simp; done) | (go_simp; with_reducible rfl) | with_reducible rfl)
      refine wpAnyH_take (i := 13) (v := ?_) rfl (by kernel_rfl) (by kernel_rfl) (by kernel_rfl) (fun _ _ _ h => h) (Or.inl ⟨by kernel_rfl, ?_⟩) hS ?_
      rotate_left
      · (intro u hSu; obtain ⟨s1, s2, s3⟩ := hSu; first | (go_simp; done) | (go_simp; with_reducible rfl) | with_reducible rfl)
      refine wpAnyH_take (i := 16) (v := ?_) rfl (by kernel_rfl) (by kernel_rfl) (by kernel_rfl) (fun _ _ _ h => h) (Or.inl ⟨by kernel_rfl, ?_⟩) hS ?_
      rotate_left
      · (intro u hSu; obtain ⟨s1, s2, s3⟩ := hSu; first | (go_simp; done) | (go_simp; with_reducible rfl) | with_reducible rfl)
      refine wpAnyH_take (i := 18) (v := ?_) rfl (by kernel_rfl) (by kernel_rfl) (by kernel_rfl) (fun _ _ _ h => h) (Or.inl ⟨by kernel_rfl, ?_⟩) hS ?_
      rotate_left
      · (intro u hSu; obtain ⟨s1, s2, s3⟩ := hSu; first | (go_simp; done) | (go_simp; with_reducible rfl) | with_reducible rfl)
      refine wpAnyH_take (i := 19) (v := ?_) rfl (by kernel_rfl) (by kernel_rfl) (by kernel_rfl) (fun _ _ _ h => h) (Or.inl ⟨by kernel_rfl, ?_⟩) hS ?_
      rotate_left
      · (intro u hSu; obtain ⟨s1, s2, s3⟩ := hSu; first | (go_simp; done) | (go_simp; with_reducible rfl) | with_reducible rfl)
      refine wpAnyH_ready (rs := [14]) (by kernel_rfl) (by simp) ?_
      refine AllReadyH.cons rfl (fun K hK => ?_) AllReadyH.nil
      go_simp
      go_at_call 12
      refine (k2 _ A1).mono ?_
      rintro e u2 ⟨fl2, rfl, hb0⟩
      have A2 := A1.trans (hb0.mono A1.size)
      clear A1 hb0
      go_simp
      refine hK.out _ _ (KB _ A2) ?_
      clear hK K hS
      intro hS
      refine wpAnyH_take (i := 15) (v := ?_) rfl (by kernel_rfl) (by kernel_rfl) (by kernel_rfl) (fun _ _ _ h => h) (Or.inl ⟨by kernel_rfl, ?_⟩) hS ?_
      rotate_left
      · (intro u hSu; obtain ⟨s1, s2, s3⟩ := hSu; first | (go_simp; done) | (go_simp; with_reducible rfl) | with_reducible rfl)
      refine wpAnyH_take (i := 17) (v := .bool cz) rfl (by kernel_rfl) (by kernel_rfl) (by kernel_rfl) (fun _ _ _ h => h) (Or.inl ⟨by kernel_rfl, ?_⟩) hS ?_
      · (intro u hSu; obtain ⟨s1, s2, s3⟩ := hSu; go_simp; exact ifs Z2.out u)
      refine wpAnyH_take (i := 20) (v := .bool true) rfl (by kernel_rfl) (by kernel_rfl) (by kernel_rfl) (fun _ _ _ h => h) (Or.inl ⟨by kernel_rfl, ?_⟩) hS ?_
      · (intro u hSu; obtain ⟨s1, s2, s3⟩ := hSu; go_simp)
      refine wpAnyH_take (i := 21) (v := ?_) rfl (by kernel_rfl) (by kernel_rfl) (by kernel_rfl) (fun _ _ _ h => h) (Or.inl ⟨by kernel_rfl, ?_⟩) hS ?_
      rotate_left
      · (intro u hSu; obtain ⟨s1, s2, s3⟩ := hSu; first | (go_simp; done) | (go_simp; with_reducible rfl) | with_reducible rfl)
      refine wpAnyH_take (i := 22) (v := ?_) rfl (by kernel_rfl) (by kernel_rfl) (by kernel_rfl) (fun _ _ _ h => h) (Or.inl ⟨by kernel_rfl, ?_⟩) hS ?_
      rotate_left
      · (intro u hSu; obtain ⟨s1, s2, s3⟩ := hSu; first | (go_simp; done) | (go_simp; with_reducible rfl) | with_reducible rfl)
      refine wpAnyH_take (i := 23) (v := ?_) rfl (by kernel_rfl) (by kernel_rfl) (by kernel_rfl) (fun _ _ _ h => h) (Or.inl ⟨by kernel_rfl, ?_⟩) hS ?_
      rotate_left
      · (intro u hSu; obtain ⟨s1, s2, s3⟩ := hSu; first | (go_simp; done) | (go_simp; with_reducible rfl) | with_reducible rfl)
      refine wpAnyH_take (i := 24) (v := ?_) rfl (by kernel_rfl) (by kernel_rfl) (by kernel_rfl) (fun _ _ _ h => h) (Or.inl ⟨by kernel_rfl, ?_⟩) hS ?_
      rotate_left
      · (intro u hSu; obtain ⟨s1, s2, s3⟩ := hSu; first | (go_simp; done) | (go_simp; with_reducible rfl) | with_reducible rfl)
      refine wpAnyH_take (i := 25) (v := ?_) rfl (by kernel_rfl) (by kernel_rfl) (by kernel_rfl) (fun _ _ _ h => h) (Or.inl ⟨by kernel_rfl, ?_⟩) hS ?_
      rotate_left
      · (intro u hSu; obtain ⟨s1, s2, s3⟩ := hSu; first | (go_simp; done) | (go_simp; with_reducible rfl) | with_reducible rfl)
      refine wpAnyH_take (i := 28) (v := ?_) rfl (by kernel_rfl) (by kernel_rfl) (by kernel_rfl) (fun _ _ _ h => h) (Or.inl ⟨by kernel_rfl, ?_⟩) hS ?_
      rotate_left
      · (intro u hSu; obtain ⟨s1, s2, s3⟩ := hSu; first | (go_simp; done) | (go_simp; with_reducible rfl) | with_reducible rfl)
      refine wpAnyH_ready (rs := [26]) (by kernel_rfl) (by simp) ?_
      refine AllReadyH.cons rfl (fun K hK => ?_) AllReadyH.nil
      go_simp
      go_at_call 12
      refine (k3 _ A2).mono ?_
      rintro e u3 ⟨fl3, rfl, hb0⟩
      have A3 := A2.trans (hb0.mono A2.size)
      clear A2 hb0
      go_simp
      refine hK.out _ _ (KB _ A3) ?_
      clear hK K hS
      intro hS
      refine wpAnyH_take (i := 27) (v := ?_) rfl (by kernel_rfl) (by kernel_rfl) (by kernel_rfl) (fun _ _ _ h => h) (Or.inl ⟨by kernel_rfl, ?_⟩) hS ?_
      rotate_left
      · (intro u hSu; obtain ⟨s1, s2, s3⟩ := hSu; first | (go_simp; done) | (go_simp; with_reducible rfl) | with_reducible rfl)
      refine wpAnyH_take (i := 29) (v := .bool true) rfl (by kernel_rfl) (by kernel_rfl) (by kernel_rfl) (fun _ _ _ h => h) (Or.inl ⟨by kernel_rfl, ?_⟩) hS ?_
      · (intro u hSu; obtain ⟨s1, s2, s3⟩ := hSu; go_simp; intro q1 q2; exact N3.out ⟨by omega, by omega⟩)
      refine wpAnyH_take (i := 30) (v := ?_) rfl (by kernel_rfl) (by kernel_rfl) (by kernel_rfl) (fun _ _ _ h => h) (Or.inl ⟨by kernel_rfl, ?_⟩) hS ?_
      rotate_left
      · (intro u hSu; obtain ⟨s1, s2, s3⟩ := hSu; first | (go_simp; done) | (go_simp; with_reducible rfl) | with_reducible rfl)
      refine wpAnyH_take (i := 31) (v := ?_) rfl (by kernel_rfl) (by kernel_rfl) (by kernel_rfl) (fun _ _ _ h => h) (Or.inl ⟨by kernel_rfl, ?_⟩) hS ?_
      rotate_left
      · (intro u hSu; obtain ⟨s1, s2, s3⟩ := hSu; first | (go_simp; done) | (go_simp; with_reducible rfl) | with_reducible rfl)
      refine wpAnyH_take (i := 32) (v := ?_) rfl (by kernel_rfl) (by kernel_rfl) (by kernel_rfl) (fun _ _ _ h => h) (Or.inl ⟨by kernel_rfl, ?_⟩) hS ?_
      rotate_left
      · (intro u hSu; obtain ⟨s1, s2, s3⟩ := hSu; first | (go_simp; done) | (go_simp; with_reducible rfl) | with_reducible rfl)
      refine wpAnyH_take (i := 33) (v := ?_) rfl (by kernel_rfl) (by kernel_rfl) (by kernel_rfl) (fun _ _ _ h => h) (Or.inl ⟨by kernel_rfl, ?_⟩) hS ?_
      rotate_left
      · (intro u hSu; obtain ⟨s1, s2, s3⟩ := hSu; first | (go_simp; done) | (go_simp; with_reducible rfl) | with_reducible rfl)
      refine wpAnyH_take (i := 34) (v := ?_) rfl (by kernel_rfl) (by kernel_rfl) (by kernel_rfl) (fun _ _ _ h => h) (Or.inl ⟨by kernel_rfl, ?_⟩) hS ?_
      rotate_left
      · (intro u hSu; obtain ⟨s1, s2, s3⟩ := hSu; first | (go_simp; done) | (go_simp; with_reducible rfl) | with_reducible rfl)
      refine wpAnyH_take (i := 36) (v := ?_) rfl (by kernel_rfl) (by kernel_rfl) (by kernel_rfl) (fun _ _ _ h => h) (Or.inl ⟨by kernel_rfl, ?_⟩) hS ?_
      rotate_left
      · (intro u hSu; obtain ⟨s1, s2, s3⟩ := hSu; first | (go_simp; done) | (go_simp; with_reducible rfl) | with_reducible rfl)
      refine wpAnyH_take (i := 39) (v := ?_) rfl (by kernel_rfl) (by kernel_rfl) (by kernel_rfl) (fun _ _ _ h => h) (Or.inl ⟨by kernel_rfl, ?_⟩) hS ?_
      rotate_left
      · (intro u hSu; obtain ⟨s1, s2, s3⟩ := hSu; first | (go_simp; done) | (go_simp; with_reducible rfl) | with_reducible rfl)
      refine wpAnyH_ready (rs := [35]) (by kernel_rfl) (by simp) ?_
      refine AllReadyH.cons rfl (fun K hK => ?_) AllReadyH.nil
      go_simp
      go_at_call 13
      refine (aA _ A3).mono ?_
      rintro e u4 ⟨xp, cp, rfl, hcp, hrp, hb0⟩
      have A4 := A3.trans (hb0.mono A3.size)
      clear A3 hb0
      go_simp
      refine hK.out _ _ (KB _ A4) ?_
      clear hK K hS
      intro hS
      refine wpAnyH_ready (rs := [37]) (by kernel_rfl) (by simp) ?_
      refine AllReadyH.cons rfl (fun K hK => ?_) AllReadyH.nil
      go_simp
      go_at_call 12
      refine (k4 _ xp cp A4 hcp hrp).mono ?_
      rintro e u5 ⟨fl4, rfl, hb0⟩
      have A5 := A4.trans (hb0.mono A4.size)
      clear A4 hb0
      go_simp
      refine hK.out _ _ (KB _ A5) ?_
      clear hK K hS
      intro hS
      clear hcp hrp
      refine wpAnyH_take (i := 38) (v := ?_) rfl (by kernel_rfl) (by kernel_rfl) (by kernel_rfl) (fun _ _ _ h => h) (Or.inl ⟨by kernel_rfl, ?_⟩) hS ?_
      rotate_left
      · (intro u hSu; obtain ⟨s1, s2, s3⟩ := hSu; first | (go_simp; done) | (go_simp; with_reducible rfl) | with_reducible rfl)
      refine wpAnyH_take (i := 40) (v := .bool true) rfl (by kernel_rfl) (by kernel_rfl) (by kernel_rfl) (fun _ _ _ h => h) (Or.inl ⟨by kernel_rfl, ?_⟩) hS ?_
      · (intro u hSu; obtain ⟨s1, s2, s3⟩ := hSu; go_simp; have q := P4.out; first | exact ifs Z4.out u | (rw [q.1, q.2]; simp) | omega)
      refine wpAnyH_take (i := 41) (v := ?_) rfl (by kernel_rfl) (by kernel_rfl) (by kernel_rfl) (fun _ _ _ h => h) (Or.inl ⟨by kernel_rfl, ?_⟩) hS ?_
      rotate_left
      · (intro u hSu; obtain ⟨s1, s2, s3⟩ := hSu; first | (go_simp; done) | (go_simp; with_reducible rfl) | with_reducible rfl)
      refine wpAnyH_take (i := 42) (v := ?_) rfl (by kernel_rfl) (by kernel_rfl) (by kernel_rfl) (fun _ _ _ h => h) (Or.inl ⟨by kernel_rfl, ?_⟩) hS ?_
      rotate_left
      · (intro u hSu; obtain ⟨s1, s2, s3⟩ := hSu; first | (go_simp; done) | (go_simp; with_reducible rfl) | with_reducible rfl)
      refine wpAnyH_take (i := 43) (v := ?_) rfl (by kernel_rfl) (by kernel_rfl) (by kernel_rfl) (fun _ _ _ h => h) (Or.inl ⟨by kernel_rfl, ?_⟩) hS ?_
      rotate_left
      · (intro u hSu; obtain ⟨s1, s2, s3⟩ := hSu; first | (go_simp; done) | (go_simp; with_reducible rfl) | with_reducible rfl)
      refine wpAnyH_take (i := 44) (v := ?_) rfl (by kernel_rfl) (by kernel_rfl) (by kernel_rfl) (fun _ _ _ h => h) (Or.inl ⟨by kernel_rfl, ?_⟩) hS ?_
      rotate_left
      · (intro u hSu; obtain ⟨s1, s2, s3⟩ := hSu; first | (go_simp; done) | (go_simp; with_reducible rfl) | with_reducible rfl)
      refine wpAnyH_take (i := 45) (v := ?_) rfl (by kernel_rfl) (by kernel_rfl) (by kernel_rfl) (fun _ _ _ h => h) (Or.inl ⟨by kernel_rfl, ?_⟩) hS ?_
      rotate_left
      · (intro u hSu; obtain ⟨s1, s2, s3⟩ := hSu; first | (go_simp; done) | (go_simp; with_reducible rfl) | with_reducible rfl)
      refine wpAnyH_take (i := 48) (v := ?_) rfl (by kernel_rfl) (by kernel_rfl) (by kernel_rfl) (fun _ _ _ h => h) (Or.inl ⟨by kernel_rfl, ?_⟩) hS ?_
      rotate_left
      · (intro u hSu; obtain ⟨s1, s2, s3⟩ := hSu; first | (go_simp; done) | (go_simp; with_reducible rfl) | with_reducible rfl)
      refine wpAnyH_ready (rs := [46]) (by kernel_rfl) (by simp) ?_
      refine AllReadyH.cons rfl (fun K hK => ?_) AllReadyH.nil
      go_simp
      go_at_call 12
      refine (k5 _ A5).mono ?_
      rintro e u6 ⟨fl5, rfl, hb0⟩
      have A6 := A5.trans (hb0.mono A5.size)
      clear A5 hb0
      go_simp
      refine hK.out _ _ (KB _ A6) ?_
      clear hK K hS
      intro hS
      refine wpAnyH_take (i := 47) (v := ?_) rfl (by kernel_rfl) (by kernel_rfl) (by kernel_rfl) (fun _ _ _ h => h) (Or.inl ⟨by kernel_rfl, ?_⟩) hS ?_
      rotate_left
      · (intro u hSu; obtain ⟨s1, s2, s3⟩ := hSu; first | (go_simp; done) | (go_simp; with_reducible rfl) | with_reducible rfl)
      refine wpAnyH_take (i := 49) (v := .bool true) rfl (by kernel_rfl) (by kernel_rfl) (by kernel_rfl) (fun _ _ _ h => h) (Or.inl ⟨by kernel_rfl, ?_⟩) hS ?_
      · (intro u hSu; obtain ⟨s1, s2, s3⟩ := hSu; go_simp; have q := P5.out; first | exact ifs Z5.out u | (rw [q.1, q.2]; simp) | omega)
      refine wpAnyH_take (i := 50) (v := ?_) rfl (by kernel_rfl) (by kernel_rfl) (by kernel_rfl) (fun _ _ _ h => h) (Or.inl ⟨by kernel_rfl, ?_⟩) hS ?_
      rotate_left
      · (intro u hSu; obtain ⟨s1, s2, s3⟩ := hSu; first | (go_simp; done) | (go_simp; with_reducible rfl) | with_reducible rfl)
      refine wpAnyH_take (i := 51) (v := ?_) rfl (by kernel_rfl) (by kernel_rfl) (by kernel_rfl) (fun _ _ _ h => h) (Or.inl ⟨by kernel_rfl, ?_⟩) hS ?_
      rotate_left
      · (intro u hSu; obtain ⟨s1, s2, s3⟩ := hSu; first | (go_simp; done) | (go_simp; with_reducible rfl) | with_reducible rfl)
      refine wpAnyH_take (i := 52) (v := ?_) rfl (by kernel_rfl) (by kernel_rfl) (by kernel_rfl) (fun _ _ _ h => h) (Or.inl ⟨by kernel_rfl, ?_⟩) hS ?_
      rotate_left
      · (intro u hSu; obtain ⟨s1, s2, s3⟩ := hSu; first | (go_simp; done) | (go_simp; with_reducible rfl) | with_reducible rfl)
      refine wpAnyH_take (i := 53) (v := ?_) rfl (by kernel_rfl) (by kernel_rfl) (by kernel_rfl) (fun _ _ _ h => h) (Or.inl ⟨by kernel_rfl, ?_⟩) hS ?_
      rotate_left
      · (intro u hSu; obtain ⟨s1, s2, s3⟩ := hSu; first | (go_simp; done) | (go_simp; with_reducible rfl) | with_reducible rfl)
      refine wpAnyH_take (i := 54) (v := ?_) rfl (by kernel_rfl) (by kernel_rfl) (by kernel_rfl) (fun _ _ _ h => h) (Or.inl ⟨by kernel_rfl, ?_⟩) hS ?_
      rotate_left
      · (intro u hSu; obtain ⟨s1, s2, s3⟩ := hSu; first | (go_simp; done) | (go_simp; with_reducible rfl) | with_reducible rfl)
      refine wpAnyH_take (i := 56) (v := ?_) rfl (by kernel_rfl) (by kernel_rfl) (by kernel_rfl) (fun _ _ _ h => h) (Or.inl ⟨by kernel_rfl, ?_⟩) hS ?_
      rotate_left
      · (intro u hSu; obtain ⟨s1, s2, s3⟩ := hSu; first | (go_simp; done) | (go_simp; with_reducible rfl) | with_reducible rfl)
      refine wpAnyH_take (i := 59) (v := ?_) rfl (by kernel_rfl) (by kernel_rfl) (by kernel_rfl) (fun _ _ _ h => h) (Or.inl ⟨by kernel_rfl, ?_⟩) hS ?_
      rotate_left
      · (intro u hSu; obtain ⟨s1, s2, s3⟩ := hSu; first | (go_simp; done) | (go_simp; with_reducible rfl) | with_reducible rfl)
      refine wpAnyH_ready (rs := [55]) (by kernel_rfl) (by simp) ?_
      refine AllReadyH.cons rfl (fun K hK => ?_) AllReadyH.nil
      go_simp
      go_at_call 13
      refine (aB _ A6).mono ?_
      rintro e u7 ⟨xq, cq, rfl, hcq, hrq, hb0⟩
      have A7 := A6.trans (hb0.mono A6.size)
      clear A6 hb0
      go_simp
      refine hK.out _ _ (KB _ A7) ?_
      clear hK K hS
      intro hS
      refine wpAnyH_ready (rs := [57]) (by kernel_rfl) (by simp) ?_
      refine AllReadyH.cons rfl (fun K hK => ?_) AllReadyH.nil
      go_simp
      go_at_call 12
      refine (k6 _ xq cq A7 hcq hrq).mono ?_
      rintro e u8 ⟨fl6, rfl, hb0⟩
      have A8 := A7.trans (hb0.mono A7.size)
      clear A7 hb0
      go_simp
      refine hK.out _ _ (KB _ A8) ?_
      clear hK K hS
      intro hS
      clear hcq hrq
      refine wpAnyH_take (i := 58) (v := ?_) rfl (by kernel_rfl) (by kernel_rfl) (by kernel_rfl) (fun _ _ _ h => h) (Or.inl ⟨by kernel_rfl, ?_⟩) hS ?_
      rotate_left
      · (intro u hSu; obtain ⟨s1, s2, s3⟩ := hSu; first | (go_simp; done) | (go_simp; with_reducible rfl) | with_reducible rfl)
      refine wpAnyH_take (i := 60) (v := .bool true) rfl (by kernel_rfl) (by kernel_rfl) (by kernel_rfl) (fun _ _ _ h => h) (Or.inl ⟨by kernel_rfl, ?_⟩) hS ?_
      · (intro u hSu; obtain ⟨s1, s2, s3⟩ := hSu; go_simp; intro q1 q2; exact N6.out ⟨by omega, by omega⟩)
      refine wpAnyH_take (i := 61) (v := ?_) rfl (by kernel_rfl) (by kernel_rfl) (by kernel_rfl) (fun _ _ _ h => h) (Or.inl ⟨by kernel_rfl, ?_⟩) hS ?_
      rotate_left
      · (intro u hSu; obtain ⟨s1, s2, s3⟩ := hSu; first | (go_simp; done) | (go_simp; with_reducible rfl) | with_reducible rfl)
      refine wpAnyH_ready (rs := [62]) (by kernel_rfl) (by simp) ?_
      refine AllReadyH.cons rfl (fun K hK => ?_) AllReadyH.nil
      go_simp
      refine hK.out _ _ (KB _ A8) ?_
      clear hK K hS
      intro hS
      refine wpAnyH_done (by kernel_rfl) ?_ _
      have HB9 := hid (B0.out.trans (A8.mono B0.out.size))
      go_wp2_with fail
      go_ret
      exact ⟨rfl, HB9.out⟩
    · have c2 : ¬ T.c = 2 := fun q => hc (Or.inl q)
      have c3 : ¬ T.c = 3 := fun q => hc (Or.inr q)
      have kE := fun (v : World) (hv : Fmt v) => describe_ok k hk v hv
      have kU := fun (v : World) (hv : Fmt v) => iunpack_any k hk X hX v hv
      have kV := fun (v : World) => sunpack_any k hk X hX v
      rw [← hT] at kU kV
      simp only [dv, pv] at kE kU kV
      have kI0 := fun (v : World) (hv : Fmt v) => ibnd_out (k : Int) X T _ _ _ _ _ _ v hv kE kU c2 c3
      have kS0 := fun (v : World) => sbnd_out (k : Int) X T 0 0 0 0 0 false v kV c2 c3
      clear kE kU kV hT hc c2 c3
      refine (kI0 _ M0.out).mono ?_
      rintro e v2 ⟨rfl, hb⟩
      replace Wb := hid (Wb.out.below hb)
      replace B0 := hid (B0.out.trans (hb.mono B0.out.size))
      replace M0 := hid (M0.out.below hb)
      clear hb kI0
      have Wbo0 := Wb.out.cell 0 (x := .int .u64 (M.hiN X : Int)) rfl
      have Wbo1 := Wb.out.cell 1 (x := .int .u64 (M.loN X : Int)) rfl
      obtain ⟨v3, hv3⟩ : ∃ v, v = v2.alloc (.cells #[.slice none 0 0, .slice none 0 0, .slice none 0 0, .bool false, .bool false] 30) := ⟨_, rfl⟩
      have Ib := hid (show Cls v3 v2.heap.size #[.slice none 0 0, .slice none 0 0, .slice none 0 0, .bool false, .bool false] 30 by rw [hv3]; exact Cls.new _ _ _)
      have hb : Below v2.heap.size v2 v3 := by rw [hv3]; exact (Below.refl _ _).alloc (Nat.le_refl _) _
      have ltIb := Ib.out.lt
      replace Wb := hid (Wb.out.below hb)
      replace B0 := hid (B0.out.trans (hb.mono B0.out.size))
      replace M0 := hid (M0.out.below hb)
      clear hb
      have Wb0 := Wb.out.cell 0 (x := .int .u64 (M.hiN X : Int)) rfl
      have Wb1 := Wb.out.cell 1 (x := .int .u64 (M.loN X : Int)) rfl
      have Ib0 := Ib.out.cell 0 (x := .slice none 0 0) rfl
      have Ib1 := Ib.out.cell 1 (x := .slice none 0 0) rfl
      have Ib2 := Ib.out.cell 2 (x := .slice none 0 0) rfl
      have Ib3 := Ib.out.cell 3 (x := .bool false) rfl
      have Ib4 := Ib.out.cell 4 (x := .bool false) rfl
      subst hv3
      go_wp2_with fail
      generalize v2.alloc (.cells #[.slice none 0 0, .slice none 0 0, .slice none 0 0, .bool false, .bool false] 30) = v3 at *
      clear Wbo0 Wbo1 Wb0 Wb1 Ib0 Ib1 Ib2 Ib3 Ib4
      refine (kS0 _).mono ?_
      rintro e v4 ⟨rfl, hb⟩
      replace Wb := hid (Wb.out.below hb)
      replace Ib := hid (Ib.out.below hb)
      replace B0 := hid (B0.out.trans (hb.mono B0.out.size))
      replace M0 := hid (M0.out.below hb)
      clear hb kS0
      have Wbo0 := Wb.out.cell 0 (x := .int .u64 (M.hiN X : Int)) rfl
      have Wbo1 := Wb.out.cell 1 (x := .int .u64 (M.loN X : Int)) rfl
      have Ibo0 := Ib.out.cell 0 (x := .slice none 0 0) rfl
      have Ibo1 := Ib.out.cell 1 (x := .slice none 0 0) rfl
      have Ibo2 := Ib.out.cell 2 (x := .slice none 0 0) rfl
      have Ibo3 := Ib.out.cell 3 (x := .bool false) rfl
      have Ibo4 := Ib.out.cell 4 (x := .bool false) rfl
      obtain ⟨v5, hv5⟩ : ∃ v, v = v4.alloc (.cells #[.slice none 0 0, .slice none 0 0, .slice none 0 0, .bool false, .bool false] 30) := ⟨_, rfl⟩
      have Iw := hid (show Cls v5 v4.heap.size #[.slice none 0 0, .slice none 0 0, .slice none 0 0, .bool false, .bool false] 30 by rw [hv5]; exact Cls.new _ _ _)
      have hb : Below v4.heap.size v4 v5 := by rw [hv5]; exact (Below.refl _ _).alloc (Nat.le_refl _) _
      have ltIw := Iw.out.lt
      replace Wb := hid (Wb.out.below hb)
      replace Ib := hid (Ib.out.below hb)
      replace B0 := hid (B0.out.trans (hb.mono B0.out.size))
      replace M0 := hid (M0.out.below hb)
      clear hb
      have Wb0 := Wb.out.cell 0 (x := .int .u64 (M.hiN X : Int)) rfl
      have Wb1 := Wb.out.cell 1 (x := .int .u64 (M.loN X : Int)) rfl
      have Ib0 := Ib.out.cell 0 (x := .slice none 0 0) rfl
      have Ib1 := Ib.out.cell 1 (x := .slice none 0 0) rfl
      have Ib2 := Ib.out.cell 2 (x := .slice none 0 0) rfl
      have Ib3 := Ib.out.cell 3 (x := .bool false) rfl
      have Ib4 := Ib.out.cell 4 (x := .bool false) rfl
      have Iw0 := Iw.out.cell 0 (x := .slice none 0 0) rfl
      have Iw1 := Iw.out.cell 1 (x := .slice none 0 0) rfl
      have Iw2 := Iw.out.cell 2 (x := .slice none 0 0) rfl
      have Iw3 := Iw.out.cell 3 (x := .bool false) rfl
      have Iw4 := Iw.out.cell 4 (x := .bool false) rfl
      subst hv5
      go_wp2_with fail
      generalize v4.alloc (.cells #[.slice none 0 0, .slice none 0 0, .slice none 0 0, .bool false, .bool false] 30) = v5 at *
      clear Wbo0 Wbo1 Ibo0 Ibo1 Ibo2 Ibo3 Ibo4 Wb0 Wb1 Ib0 Ib1 Ib2 Ib3 Ib4 Iw0 Iw1 Iw2 Iw3 Iw4
      go_ret
      exact ⟨rfl, B0.out⟩
  · have hn : f < 0 ∨ 4 ≤ f := by omega
    have kU : ∀ v : World, Fmt v → Calls Tryd.prog 16 #[.int .i64 f, .agg #[.int .u64 (M.hiN X : Int), .int .u64 (M.loN X : Int)]] v fun e w' => e = .returned (.agg #[.int .i64 (⟨0, false, 0, 0⟩ : M.Pt).c, .bool (⟨0, false, 0, 0⟩ : M.Pt).n, .int .u64 (M.hiN (⟨0, false, 0, 0⟩ : M.Pt).s : Int), .int .u64 (M.loN (⟨0, false, 0, 0⟩ : M.Pt).s : Int), .int .i64 (⟨0, false, 0, 0⟩ : M.Pt).q]) ∧ Below v.heap.size v w' := fun v _ => by
      have := iunpack_no f hn (M.hiN X : Int) (M.loN X : Int) v
      simpa [hi0, lo0] using this
    have kV : ∀ v : World, Calls Tryd.prog 8 #[.int .i64 f, .agg #[.int .u64 (M.hiN X : Int), .int .u64 (M.loN X : Int)]] v fun e w' => e = .returned (.agg #[.int .i64 (⟨0, false, 0, 0⟩ : M.Pt).c, .bool (⟨0, false, 0, 0⟩ : M.Pt).n, .int .u64 (M.hiN (⟨0, false, 0, 0⟩ : M.Pt).s : Int), .int .u64 (M.loN (⟨0, false, 0, 0⟩ : M.Pt).s : Int), .int .i64 (⟨0, false, 0, 0⟩ : M.Pt).q]) ∧ Below v.heap.size v w' := fun v => by
      have := sunpack_no f hn (M.hiN X : Int) (M.loN X : Int) v
      simpa [hi0, lo0] using this
    have kI0 := fun (v : World) (hv : Fmt v) => ibnd_out f X ⟨0, false, 0, 0⟩ _ _ _ _ _ _ v hv (fun v hv => describeNo f v hn) kU (by simp) (by simp)
    have kS0 := fun (v : World) => sbnd_out f X ⟨0, false, 0, 0⟩ 0 0 0 0 0 false v kV (by simp) (by simp)
    clear kU kV
    refine (kI0 _ M0.out).mono ?_
    rintro e v2 ⟨rfl, hb⟩
    replace Wb := hid (Wb.out.below hb)
    replace B0 := hid (B0.out.trans (hb.mono B0.out.size))
    replace M0 := hid (M0.out.below hb)
    clear hb kI0
    have Wbo0 := Wb.out.cell 0 (x := .int .u64 (M.hiN X : Int)) rfl
    have Wbo1 := Wb.out.cell 1 (x := .int .u64 (M.loN X : Int)) rfl
    obtain ⟨v3, hv3⟩ : ∃ v, v = v2.alloc (.cells #[.slice none 0 0, .slice none 0 0, .slice none 0 0, .bool false, .bool false] 30) := ⟨_, rfl⟩
    have Ib := hid (show Cls v3 v2.heap.size #[.slice none 0 0, .slice none 0 0, .slice none 0 0, .bool false, .bool false] 30 by rw [hv3]; exact Cls.new _ _ _)
    have hb : Below v2.heap.size v2 v3 := by rw [hv3]; exact (Below.refl _ _).alloc (Nat.le_refl _) _
    have ltIb := Ib.out.lt
    replace Wb := hid (Wb.out.below hb)
    replace B0 := hid (B0.out.trans (hb.mono B0.out.size))
    replace M0 := hid (M0.out.below hb)
    clear hb
    have Wb0 := Wb.out.cell 0 (x := .int .u64 (M.hiN X : Int)) rfl
    have Wb1 := Wb.out.cell 1 (x := .int .u64 (M.loN X : Int)) rfl
    have Ib0 := Ib.out.cell 0 (x := .slice none 0 0) rfl
    have Ib1 := Ib.out.cell 1 (x := .slice none 0 0) rfl
    have Ib2 := Ib.out.cell 2 (x := .slice none 0 0) rfl
    have Ib3 := Ib.out.cell 3 (x := .bool false) rfl
    have Ib4 := Ib.out.cell 4 (x := .bool false) rfl
    subst hv3
    go_wp2_with fail
    generalize v2.alloc (.cells #[.slice none 0 0, .slice none 0 0, .slice none 0 0, .bool false, .bool false] 30) = v3 at *
    clear Wbo0 Wbo1 Wb0 Wb1 Ib0 Ib1 Ib2 Ib3 Ib4
    refine (kS0 _).mono ?_
    rintro e v4 ⟨rfl, hb⟩
    replace Wb := hid (Wb.out.below hb)
    replace Ib := hid (Ib.out.below hb)
    replace B0 := hid (B0.out.trans (hb.mono B0.out.size))
    replace M0 := hid (M0.out.below hb)
    clear hb kS0
    have Wbo0 := Wb.out.cell 0 (x := .int .u64 (M.hiN X : Int)) rfl
    have Wbo1 := Wb.out.cell 1 (x := .int .u64 (M.loN X : Int)) rfl
    have Ibo0 := Ib.out.cell 0 (x := .slice none 0 0) rfl
    have Ibo1 := Ib.out.cell 1 (x := .slice none 0 0) rfl
    have Ibo2 := Ib.out.cell 2 (x := .slice none 0 0) rfl
    have Ibo3 := Ib.out.cell 3 (x := .bool false) rfl
    have Ibo4 := Ib.out.cell 4 (x := .bool false) rfl
    obtain ⟨v5, hv5⟩ : ∃ v, v = v4.alloc (.cells #[.slice none 0 0, .slice none 0 0, .slice none 0 0, .bool false, .bool false] 30) := ⟨_, rfl⟩
    have Iw := hid (show Cls v5 v4.heap.size #[.slice none 0 0, .slice none 0 0, .slice none 0 0, .bool false, .bool false] 30 by rw [hv5]; exact Cls.new _ _ _)
    have hb : Below v4.heap.size v4 v5 := by rw [hv5]; exact (Below.refl _ _).alloc (Nat.le_refl _) _
    have ltIw := Iw.out.lt
    replace Wb := hid (Wb.out.below hb)
    replace Ib := hid (Ib.out.below hb)
    replace B0 := hid (B0.out.trans (hb.mono B0.out.size))
    replace M0 := hid (M0.out.below hb)
    clear hb
    have Wb0 := Wb.out.cell 0 (x := .int .u64 (M.hiN X : Int)) rfl
    have Wb1 := Wb.out.cell 1 (x := .int .u64 (M.loN X : Int)) rfl
    have Ib0 := Ib.out.cell 0 (x := .slice none 0 0) rfl
    have Ib1 := Ib.out.cell 1 (x := .slice none 0 0) rfl
    have Ib2 := Ib.out.cell 2 (x := .slice none 0 0) rfl
    have Ib3 := Ib.out.cell 3 (x := .bool false) rfl
    have Ib4 := Ib.out.cell 4 (x := .bool false) rfl
    have Iw0 := Iw.out.cell 0 (x := .slice none 0 0) rfl
    have Iw1 := Iw.out.cell 1 (x := .slice none 0 0) rfl
    have Iw2 := Iw.out.cell 2 (x := .slice none 0 0) rfl
    have Iw3 := Iw.out.cell 3 (x := .bool false) rfl
    have Iw4 := Iw.out.cell 4 (x := .bool false) rfl
    subst hv5
    go_wp2_with fail
    generalize v4.alloc (.cells #[.slice none 0 0, .slice none 0 0, .slice none 0 0, .bool false, .bool false] 30) = v5 at *
    clear Wbo0 Wbo1 Ibo0 Ibo1 Ibo2 Ibo3 Ibo4 Wb0 Wb1 Ib0 Ib1 Ib2 Ib3 Ib4 Iw0 Iw1 Iw2 Iw3 Iw4
    go_ret
    exact ⟨rfl, B0.out⟩

/-- An argument of bytes. -/
def InB (w : World) (a : Option Addr) (len cap : Nat) (bs : List Nat) : Prop := bs.length = len ∧ len ≤ cap ∧ RdB w a bs

set_option maxHeartbeats 1000000 in
set_option maxRecDepth 100000 in
theorem lawFnBounds (a0 : Option Addr) (n c : Nat) (bs : List Nat) (w : World) (w0 : InB w a0 n c bs) (hm : Fmt w) :
    Calls Tryd.prog 3 #[.slice a0 n c] w fun e w' => e = .returned (.bool true) ∧ Below w.heap.size w w' := by
  obtain ⟨hl, hc, hb⟩ := w0
  by_cases h1 : n ≤ 1048576
  · exact lawBdKey a0 n c w hm h1 (fun v hv => drawB_any a0 n c bs v hl h1 (hb.below hv))
  · have h1' : (1048576 : Int) < (n : Int) := by omega
    go_enter Tryd.func3, Tryd.ntmps3
    go_wp2_with fail
    go_ret
    exact ⟨rfl, Below.refl _ _⟩

end Go.Proofs.YtehplfmnipadmafDoor
