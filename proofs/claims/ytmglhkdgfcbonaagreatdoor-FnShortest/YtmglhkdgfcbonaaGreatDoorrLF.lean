import Derived.Deep.LoopGhost
import Derived.Lib.SlBytesConst
import Derived.Deep.AppendLies
import Derived.OpenShut
import Derived.Test.YtmglhkdgfcbonaaGreatDoorrLB
import Derived.Test.YtmglhkdgfcbonaaGreatDoorrLSs1
import Derived.Test.YtmglhkdgfcbonaaGreatDoorrNft
import Derived.Test.YtmglhkdgfcbonaaGreatDoorrPB
namespace Go.Proofs.YtmglhkdgfcbonaaGreatDoor
open Go.RowKit
set_option linter.unusedVariables false
set_option maxRecDepth 100000
theorem RdB.pre {w : World} {a : Option Addr} {xs : List Nat} (h : RdB w a xs) (n : Nat) : RdB w a (xs.take n) := by
 refine ⟨fun x hx => h.1 x (List.mem_of_mem_take hx), fun hp => ?_⟩
 rw [List.length_take] at hp
 obtain ⟨b, off, e, hk⟩ := h.2 (by omega)
 refine ⟨b, off, e, fun i hi => ?_⟩
 rw [List.length_take] at hi
 rw [hk i (by omega), List.getD_eq_getElem?_getD, List.getD_eq_getElem?_getD, List.getElem?_take_of_lt (by omega)]

end Go.Proofs.YtmglhkdgfcbonaaGreatDoor
namespace Go.Proofs.YtmglhkdgfcbonaaGreatDoor.M
set_option linter.unusedVariables false
set_option maxRecDepth 100000
theorem Wd.Ok.exists_best {t : Wd} (h : t.Ok) : ∃ r, t.Best r := by
 have hN := h.N_le
 have key : ∀ m : Nat, 1 ≤ m → m ≤ t.N → ∃ r, r < m ∧ t.ok (t.X + (r : Nat)) ∧ ∀ z : Nat, r < z → z < m → ¬ t.ok (t.X + z) := by
  intro m
  induction m with
  | zero => intro h1; omega
  | succ m ih =>
    intro _ h2
    rcases Nat.eq_zero_or_pos m with e | e
    · subst e
      exact ⟨0, by omega, by have := h.first.2.2; simpa using this, fun z h3 h4 => by omega⟩
    · by_cases hk : t.ok (t.X + (m : Nat))
      · exact ⟨m, by omega, hk, fun z h3 h4 => by omega⟩
      · obtain ⟨r, r1, r2, r3⟩ := ih e (by omega)
        refine ⟨r, by omega, r2, fun z h3 h4 => ?_⟩
        by_cases hz : z = m
        · subst hz; exact hk
        · exact r3 z h3 (by omega)
 obtain ⟨r, r1, r2, r3⟩ := key t.N hN.1 (Nat.le_refl _)
 exact ⟨r, r1, r2, r3⟩

end Go.Proofs.YtmglhkdgfcbonaaGreatDoor.M
namespace Go.Proofs.YtmglhkdgfcbonaaGreatDoor
open Go.RowKit
set_option linter.unusedVariables false
set_option maxRecDepth 100000
theorem drawS_any (ao : Option Addr) (n c : Nat) (bs : List Nat) (w : World) (hl : bs.length = n) (hn : n ≤ 1048576) (hb : RdB w ao bs) :
 Calls Tryz.prog 17 #[.slice ao n c] w fun e w' => ∃ (f : Int) (X : Nat), X < 2 ^ 128 ∧ e = .returned (.tuple #[.int .i64 f, .agg #[.int .u64 (M.hiN X : Int), .int .u64 (M.loN X : Int)]]) ∧ Below w.heap.size w w' := by
 have k := drawU_any ao n c bs
 go_enter Tryz.func17, Tryz.ntmps17
 go_wp2_with fail
 have b1 : Below w.heap.size w (w.alloc (.cells #[.int .u64 0, .int .u64 0] 29)) := (Below.refl _ _).alloc (Nat.le_refl _) _
 have R1 : Cls (w.alloc (.cells #[.int .u64 0, .int .u64 0] 29)) w.heap.size #[.int .u64 0, .int .u64 0] 29 := Cls.new _ _ _
 have hb1 := hb.below b1
 generalize w.alloc (.cells #[.int .u64 0, .int .u64 0] 29) = w1 at *
 refine (k w1 hl hn hb1).mono ?_
 rintro e w4 ⟨f, X, hX, rfl, b4⟩
 have R4 := R1.below b4
 have bw4 := b1.trans (b4.mono b1.size)
 have y0 := R4.cell 0 (x := .int .u64 0) rfl
 have y1 := R4.cell 1 (x := .int .u64 0) rfl
 have y2 := R4.frozen 0
 have y3 := R4.frozen 1
 clear R1 hb1 b1 b4 k
 go_wp2_with fail
 have R9 : Cls ((w4.setCell ⟨w.heap.size, 0, none⟩ (.int .u64 (M.hiN X : Int))).setCell ⟨w.heap.size, 1, none⟩ (.int .u64 (M.loN X : Int))) w.heap.size #[.int .u64 (M.hiN X : Int), .int .u64 (M.loN X : Int)] 29 := (R4.set 0 _ _ rfl).set 1 _ _ rfl
 have H9 : Below w.heap.size w ((w4.setCell ⟨w.heap.size, 0, none⟩ (.int .u64 (M.hiN X : Int))).setCell ⟨w.heap.size, 1, none⟩ (.int .u64 (M.loN X : Int))) := (bw4.setCell (p := ⟨w.heap.size, 0, none⟩) (Nat.le_refl _) _).setCell (p := ⟨w.heap.size, 1, none⟩) (Nat.le_refl _) _
 generalize (w4.setCell ⟨w.heap.size, 0, none⟩ (.int .u64 (M.hiN X : Int))).setCell ⟨w.heap.size, 1, none⟩ (.int .u64 (M.loN X : Int)) = w9 at R9 H9 ⊢
 have z0 := R9.cell 0 (x := .int .u64 (M.hiN X : Int)) rfl
 have z1 := R9.cell 1 (x := .int .u64 (M.loN X : Int)) rfl
 exact bodyPost_ret (v := .tuple #[.int .i64 f, .agg #[.int .u64 (M.hiN X : Int), .int .u64 (M.loN X : Int)]]) (by simp [results, Tryz.results17, go_sem, z0, z1]) rfl ⟨f, X, hX, rfl, H9⟩

theorem dig_all (bs : List Nat) (h : M.Dig bs) : bs.all isDig = true := by
 rw [List.all_eq_true]
 intro c hc
 have := h c hc
 unfold isDig
 simp; omega

theorem nat_txt (n : Nat) (hl : (M.txt n).length ≤ 41) (v : World) (ao : Option Addr) (c : Nat) (h1 : (M.txt n).length ≤ c) (h2 : c ≤ 9223372036854775807) (hr : RdB v ao (M.txt n)) :
 Calls Tryz.prog 19 #[.slice ao (M.txt n).length c] v fun e w' => ∃ na nc, e = .returned (.tuple #[.slice na (L n).length nc, .bool true]) ∧ Rd w' na (L n) ∧ Below v.heap.size v w' := by
 refine (implNatFromText_any ao _ c (M.txt n) v rfl (by omega) h1 h2 hr).mono ?_
 intro e w' h
 have e1 : ftOk (M.txt n) = true := by
  unfold ftOk
  have := M.txt_pos n
  rw [dig_all _ (M.txt_dig n)]
  simp
  omega
 have e2 : ftDoc (M.txt n) = L n := by unfold ftDoc; rw [e1, M.dec_txt]; rfl
 rw [e1, e2] at h
 obtain ⟨na, nc, he, ho, hb⟩ := h
 exact ⟨na, nc, he, Rd.own ho, hb⟩

theorem lawFnShort (a0 : Option Addr) (n c : Nat) (bs : List Nat) (w : World) (w0 : InB w a0 n c bs) (hm : Fmt w) :
 Calls Tryz.prog 5 #[.slice a0 n c] w fun e w' => e = .returned (.bool true) ∧ Below w.heap.size w w' := by
 obtain ⟨hl, hc, hb⟩ := w0
 by_cases h1 : n ≤ 1048576
 · refine lawSsKey a0 n c w hm h1 (drawS_any a0 n c bs w hl h1 hb) ?_
   intro f X hX
   by_cases hf : 0 ≤ f ∧ f < 4
   · obtain ⟨k, rfl⟩ : ∃ k : Nat, f = (k : Int) := ⟨f.toNat, by omega⟩
     have hk : k < 4 := by omega
     have h' := M.fm_ok k
     obtain ⟨T, hT⟩ : ∃ T, T = (M.fm k).upk X := ⟨_, rfl⟩
     have hp := h'.upk_proper X
     rw [← hT] at hp
     have kE := fun (v : World) (hv : Fmt v) => describe_ok k hk v hv
     have kK := fun v : World => dKnown (M.fm k) h' v
     have kU := fun v : World => unpack_any (M.fm k) h' X hX v
     have sU := fun v : World => sunpack_any k hk X hX v
     rw [← hT] at kU sU
     by_cases hc23 : T.c = 2 ∨ T.c = 3
     · have hpr : (M.fm k).Proper T := by
        rcases hp with hp | hp
        · rw [hp] at hc23; simp at hc23
        · exact hp
       obtain ⟨t, htt⟩ : ∃ t, t = wdOf (M.fm k) T := ⟨_, rfl⟩
       have hfi := fin_of h' hpr hc23
       have hok := wd_ok h' hfi
       rw [← htt] at hok
       obtain ⟨r, br⟩ := hok.exists_best
       have kI := fun (v : World) (hv : Fmt v) => ishort_any k hk X hX v hv T hT hc23 t htt r br
       have kB := fun v : World => sbounds_any k hk X hX v T hT hc23
       have eA : bA (M.fm k) T = t.lo := by rw [htt]; rfl
       have eB : bB T = t.hi := by rw [htt]; rfl
       have eC : bC T = t.den := by rw [htt]; rfl
       have eK : decide (T.s % 2 = 0) = t.cl := by rw [htt]; rfl
       have es : t.s = T.s := by rw [htt]; rfl
       have eq' : t.q = T.q := by rw [htt]; rfl
       rw [eA, eB, eC, eK] at kB
       obtain ⟨nn, kk, e1, e2, e3, e4⟩ := M.sd_split _ (br.pick_pos hok)
       have ex : wdX t r = t.X + r + kk := by unfold wdX; rw [e3, e4]; omega
       rw [e3, ex] at kI
       have s2 := hok.s2
       have q1 := hok.q1
       have q2 := hok.q2
       have ls : ∀ x : Nat, x < 2 ^ 128 → ∀ u : Nat, u ≤ 17000 → (L (x * 2 ^ u)).length ≤ 400 := fun x hx u hu => L_len_b _ (128 + u) 400 (mul_pow_lt hx) (by omega)
       have lA : (L t.lo).length ≤ 400 := ls t.l (by have := hok.l1; omega) _ (by omega)
       have lB : (L t.hi).length ≤ 400 := ls (4 * t.s + 2) (by omega) _ (by omega)
       have lM : (L t.mid).length ≤ 400 := ls (4 * t.s) (by omega) _ (by omega)
       have lC : (L t.den).length ≤ 400 := by have := ls 1 (by omega) (2 - t.q).toNat (by omega); rwa [Nat.one_mul] at this
       have lS : (L (T.s * 4)).length ≤ 600 := Nat.le_trans (L_len_b _ 130 10 (by omega) (by omega)) (by omega)
       have fx := fx_of t hok r br nn kk e1 e2 e4 lA lB lC lM
       have hmd : t.mid = 4 * T.s * 2 ^ (T.q - 2).toNat := by rw [← es, ← eq']; rfl
       have sc := fun (y : Int) (y1 : -5600 ≤ y) (y2 : y ≤ 5600) (v : World) => scaled_at (k : Int) (M.hiN X : Int) (M.loN X : Int) T.c T.q T.n T.s t.lo t.hi t.den t.mid t.cl v (by omega) (by omega) hmd (by omega) (by omega) (by omega) (by omega) lS kB sU y y1 y2
       have xr := fx.xr
       exact ⟨T.c, T.n, _, _, T.q, M.txt nn, t.X + r + kk, T.n, 0, sU, kI, .inr ⟨by omega, t.cl, nn, _, _, _, _, _, _, M.un t.mid (t.X + r + kk + 1), _, t.lo, t.hi, t.den, fx, fun v ao c g1 g2 g3 => nat_txt nn fx.dl.2 v ao c g1 g2 g3, kB, sc _ (by omega) (by omega), sc _ (by omega) (by omega)⟩⟩
     · have hcc : T.c = 0 ∨ T.c = 1 ∨ T.c = 4 ∨ T.c = 5 := by
        rcases hp with hp | hp
        · rw [hp]; exact .inl rfl
        · unfold M.Fm.Proper at hp; omega
       rcases hcc with hc | hc | hc | hc
       · exact ⟨T.c, T.n, _, _, T.q, [], 0, false, 3, sU, fun u hu => ishort_out0 (k : Int) X T (M.fm k) u hu hc kE kK kU, .inl ⟨by omega, by omega, rfl⟩⟩
       · exact ⟨T.c, T.n, _, _, T.q, [], 0, T.n, 0, sU, fun u hu => ishort_out1 (k : Int) X T (M.fm k) u hu hc kE kK kU, .inl ⟨by omega, by omega, rfl⟩⟩
       · exact ⟨T.c, T.n, _, _, T.q, [], 0, T.n, 0, sU, fun u hu => ishort_out4 (k : Int) X T (M.fm k) u hu hc kE kK kU, .inl ⟨by omega, by omega, rfl⟩⟩
       · exact ⟨T.c, T.n, _, _, T.q, [], 0, T.n, 0, sU, fun u hu => ishort_out5 (k : Int) X T (M.fm k) u hu hc kE kK kU, .inl ⟨by omega, by omega, rfl⟩⟩
   · have hn : f < 0 ∨ 4 ≤ f := by omega
     exact ⟨0, false, 0, 0, 0, [], 0, false, 4, fun v => sunpack_no f hn _ _ v, fun u hu => ishort_no f hn X u hu, .inl ⟨by omega, by omega, rfl⟩⟩
 · have h1' : (1048576 : Int) < (n : Int) := by omega
   go_enter Tryz.func5, Tryz.ntmps5
   go_wp2_with fail
   go_ret
   exact ⟨rfl, Below.refl _ _⟩

end Go.Proofs.YtmglhkdgfcbonaaGreatDoor
