import Derived.Test.YtjffpclidcloeaaGreatDoorrBY
import Derived.Test.YtjffpclidcloeaaGreatDoorrBS
import Derived.Test.YtjffpclidcloeaaGreatDoorrBE
set_option maxHeartbeats 2000000
namespace Go.Proofs.YtjffpclidcloeaaGreatDoor
open Go.RowKit
set_option linter.unusedVariables false
set_option maxRecDepth 100000
theorem cut_any (kd : Int) (ng : Bool) (a : Option Addr) (n c : Nat) (ex : Int) (m : Nat) (w : World) (hn : n ≤ 10000) (hm : m = n - 19) :
 Calls Tryz.prog 49 #[.agg #[.int .i64 kd, .bool ng, .slice a n c, .int .i64 ex]] w fun e w' => e = .returned (.int .i64 (m : Int)) ∧ Below w.heap.size w w' := by
 have h1 : IntKind.i64.wrap ((n : Int) - 19) = (n : Int) - 19 := by rw [IntKind.wrap_i64]; omega
 have h2 : (if (n : Int) - 19 < 0 then 0 else (n : Int) - 19) = (m : Int) := by split <;> omega
 have h3 : max ((n : Int) - 19) 0 = (m : Int) := by omega
 clear hm
 go_enter Tryz.func49, Tryz.ntmps49
 go_wp2_with fail
 go_ret
 exact ⟨rfl, (Below.refl _ _).alloc (Nat.le_refl _) _⟩

theorem fast_any (kd : Int) (ng : Bool) (a : Option Addr) (n c : Nat) (ex : Int) (m : Nat) (k : Int) (w : World) (hn : n ≤ 10000) (hm : m = n - 19) (he1 : -2000000 ≤ ex) (he2 : ex ≤ 2000000) (hk : k = ex + (m : Int)) :
 Calls Tryz.prog 46 #[.agg #[.int .i64 kd, .bool ng, .slice a n c, .int .i64 ex]] w fun e w' => e = .returned (.int .i64 k) ∧ Below w.heap.size w w' := by
 have h1 : IntKind.i64.wrap (ex + (m : Int)) = k := by rw [IntKind.wrap_i64]; omega
 have kC := fun v : World => cut_any kd ng a n c ex m v hn hm
 have cx := Cls.new w #[.int .i64 kd, .bool ng, .slice a n c, .int .i64 ex] 36
 have b0 : Below w.heap.size w (w.alloc (.cells #[.int .i64 kd, .bool ng, .slice a n c, .int .i64 ex] 36)) := (Below.refl _ _).alloc (Nat.le_refl _) _
 clear hm hk
 go_enter Tryz.func46, Tryz.ntmps46
 go_upto_region 1 with fail
 generalize w.alloc (.cells #[.int .i64 kd, .bool ng, .slice a n c, .int .i64 ex] 36) = v0 at *
 have A0 : Below v0.heap.size v0 v0.drew := (Below.refl _ _).drew
 have KB : ∀ v, Below v0.heap.size v0 v → (fun v : World => v.cell? ⟨w.heap.size, 0, none⟩ = some (.int .i64 kd) ∧ v.cell? ⟨w.heap.size, 1, none⟩ = some (.bool ng) ∧ v.cell? ⟨w.heap.size, 2, none⟩ = some (.slice a n c) ∧ v.cell? ⟨w.heap.size, 3, none⟩ = some (.int .i64 ex)) v := fun v hv => ⟨(cx.below hv).cell 0 rfl, (cx.below hv).cell 1 rfl, (cx.below hv).cell 2 rfl, (cx.below hv).cell 3 rfl⟩
 go_region_held3 (fun v : World => v.cell? ⟨w.heap.size, 0, none⟩ = some (.int .i64 kd) ∧ v.cell? ⟨w.heap.size, 1, none⟩ = some (.bool ng) ∧ v.cell? ⟨w.heap.size, 2, none⟩ = some (.slice a n c) ∧ v.cell? ⟨w.heap.size, 3, none⟩ = some (.int .i64 ex)) (first | with_reducible exact KB _ A0 | with_reducible exact KB _ B1)
  (first | (go_at_call 49; refine (kC _).mono ?_; rintro e u1 ⟨rfl, hb⟩; have B1 := keepC (w1 := v0) A0 hb; clear hb))
 all_goals go_wp2_with fail
 all_goals go_ret
 all_goals exact ⟨rfl, b0.trans (B1.mono b0.size)⟩

theorem dec_take (bs : List Nat) (k : Nat) (h : k < bs.length) : M.dec (bs.take (k + 1)) = M.dec (bs.take k) * 10 + (bs.getD k 0 - 48) := by
 rw [List.take_add_one, List.getElem?_eq_getElem h, Option.toList_some, M.dec_snoc, List.getD_eq_getElem?_getD, List.getElem?_eq_getElem h, Option.getD_some]

theorem dec19 (bs : List Nat) (hd : M.Dig bs) (k : Nat) (h : k ≤ 19) : M.dec (bs.take k) < 10000000000000000000 := by
 have h1 := M.dec_lt (bs.take k) (fun c hc => hd c (List.mem_of_mem_take hc))
 have h2 : 10 ^ (bs.take k).length ≤ 10 ^ 19 := Nat.pow_le_pow_right (by omega) (by rw [List.length_take]; omega)
 omega

theorem head_any (kd : Int) (ng : Bool) (b off n c : Nat) (ex : Int) (bs : List Nat) (m t X : Nat) (w : World) (hl : bs.length = n) (hn : n ≤ 10000) (hcap : n ≤ c) (hcm : c ≤ 9223372036854775807) (hd : M.Dig bs) (hm : m = n - 19) (ht : t + m = n) (hr : RdB w (some ⟨b, off, none⟩) bs) (hX : X = M.dec (bs.take t)) :
 Calls Tryz.prog 48 #[.agg #[.int .i64 kd, .bool ng, .slice (some ⟨b, off, none⟩) n c, .int .i64 ex]] w fun e w' => e = .returned (.int .u64 (X : Int)) ∧ Below w.heap.size w w' := by
 have h1 : IntKind.i64.wrap ((n : Int) - (m : Int)) = (t : Int) := by rw [IntKind.wrap_i64]; omega
 have t1 : (t : Int) ≤ (c : Int) := by omega
 have t0 : (0 : Int) ≤ (t : Int) := by omega
 have t5 : (t : Int) ≤ (n : Int) := by omega
 have t6 : (c : Int) ≤ 9223372036854775807 := by omega
 have t7 : ¬ (t : Int) < 0 := by omega
 have t8 : ¬ (c : Int) < (t : Int) := by omega
 have t2 : t ≤ 19 := by omega
 have t3 : t ≤ n := by omega
 have t4 : t ≤ c := by omega
 have kC := fun v : World => cut_any kd ng (some ⟨b, off, none⟩) n c ex m v hn hm
 have cx := Cls.new w #[.int .i64 kd, .bool ng, .slice (some ⟨b, off, none⟩) n c, .int .i64 ex] 36
 have b0 : Below w.heap.size w (w.alloc (.cells #[.int .i64 kd, .bool ng, .slice (some ⟨b, off, none⟩) n c, .int .i64 ex] 36)) := (Below.refl _ _).alloc (Nat.le_refl _) _
 have HX := hid hX; have HM := hid hm; have HT := hid ht; have HL := hid hl
 clear hm ht hX hl
 go_enter Tryz.func48, Tryz.ntmps48
 go_upto_region 2 with fail
 generalize w.alloc (.cells #[.int .i64 kd, .bool ng, .slice (some ⟨b, off, none⟩) n c, .int .i64 ex] 36) = v0 at *
 have A0 : Below v0.heap.size v0 v0.drew := (Below.refl _ _).drew
 have KB : ∀ v, Below v0.heap.size v0 v → (fun v : World => v.cell? ⟨w.heap.size, 0, none⟩ = some (.int .i64 kd) ∧ v.cell? ⟨w.heap.size, 1, none⟩ = some (.bool ng) ∧ v.cell? ⟨w.heap.size, 2, none⟩ = some (.slice (some ⟨b, off, none⟩) n c) ∧ v.cell? ⟨w.heap.size, 3, none⟩ = some (.int .i64 ex)) v := fun v hv => ⟨(cx.below hv).cell 0 rfl, (cx.below hv).cell 1 rfl, (cx.below hv).cell 2 rfl, (cx.below hv).cell 3 rfl⟩
 go_cut [14, 15, 16] (fun s l i wx => s = .slice (some ⟨b, off, none⟩) t c ∧ l = .int .i64 (t : Int) ∧ i = .int .i64 0 ∧ Below v0.heap.size v0 wx)
 case first =>
  go_region_held3 (fun v : World => v.cell? ⟨w.heap.size, 0, none⟩ = some (.int .i64 kd) ∧ v.cell? ⟨w.heap.size, 1, none⟩ = some (.bool ng) ∧ v.cell? ⟨w.heap.size, 2, none⟩ = some (.slice (some ⟨b, off, none⟩) n c) ∧ v.cell? ⟨w.heap.size, 3, none⟩ = some (.int .i64 ex)) (first | with_reducible exact KB _ A0 | with_reducible exact KB _ B1)
   (first | (go_at_call 49; refine (kC _).mono ?_; rintro e u1 ⟨rfl, hb⟩; have B1 := keepC (w1 := v0) A0 hb; clear hb))
  all_goals go_wp2_with fail
  all_goals go_meet
  all_goals exact ⟨rfl, rfl, rfl, B1⟩
 case rest =>
 obtain ⟨rfl, rfl, rfl, hb⟩ := hcut
 rename World => v1
 replace b0 := b0.trans (hb.mono b0.size)
 replace hr := hr.below b0
 clear hb KB A0 cx kC h1
 go_wp2_with fail
 go_loopw [3, 16] (fun x i wr => ∃ k : Nat, k ≤ t ∧ i = .int .i64 (k : Int) ∧ x = .int .u64 ((M.dec (bs.take k) : Nat) : Int) ∧ wr = v1) (fun _ i _ => t - (intOf i).toNat)
 case atStart => exact ⟨0, by omega, rfl, by simp [M.dec], rfl⟩
 case round =>
  obtain ⟨k, hk, rfl, rfl, hwr⟩ := hrel
  subst hwr
  have hx := dec19 bs hd k (by omega)
  obtain ⟨xv, exv⟩ : ∃ x, x = M.dec (bs.take k) := ⟨_, rfl⟩
  rw [← exv] at hx ⊢
  by_cases hlt : k < t
  · have hlt' : (k : Int) < (t : Int) := by omega
    have hkn : k < bs.length := by rw [HL.out]; omega
    obtain ⟨b2, o2, hbo, hc2⟩ := hr.2 (by omega)
    simp only [Option.some.injEq, Addr.mk.injEq, and_true] at hbo
    obtain ⟨rfl, rfl⟩ := hbo
    have hck := hc2 k hkn
    clear hc2
    have hcd := hd.get k hkn
    have hs := dec_take bs k hkn
    have hx2 := dec19 bs hd (k + 1) (by omega)
    obtain ⟨cv, ecv⟩ : ∃ x, x = bs.getD k 0 := ⟨_, rfl⟩
    rw [← ecv] at hck hcd hs
    rw [← exv] at hs
    obtain ⟨dv, edv⟩ : ∃ x, x = cv - 48 := ⟨_, rfl⟩
    have hdI : (cv : Int) - 48 = (dv : Int) := by omega
    have hdb : dv ≤ 9 := by omega
    rw [← edv] at hs
    rw [hs] at hx2
    have HS := hid hs; have ECV := hid ecv; have EXV := hid exv; have EDV := hid edv
    clear hs ecv exv edv hkn
    obtain ⟨x2, ex2⟩ : ∃ x, x = xv * 10 := ⟨_, rfl⟩
    have wx2 : (xv : Int) * 10 = (x2 : Int) := by omega
    obtain ⟨x3, ex3⟩ : ∃ x, x = x2 + dv := ⟨_, rfl⟩
    have wx3 : (x2 : Int) + (dv : Int) = (x3 : Int) := by omega
    have hb3 : x3 < 10000000000000000000 := by omega
    have hb2 : x2 < 10000000000000000000 := by omega
    have EX2 := hid ex2; have EX3 := hid ex3
    clear ex2 ex3 hx2
    go_wp2_with fail
    go_roundw
    case rel =>
     have e3 : M.dec (bs.take (k + 1)) = x3 := by rw [HS.out, EX3.out, EX2.out]
     first | exact ⟨k + 1, by omega, by go_num, by rw [e3], by first | rfl | trivial⟩ | ((repeat apply Exists.intro); exact ⟨⟨k + 1, by omega, by go_num, by rw [e3], by first | rfl | trivial⟩, by first | rfl | trivial⟩)
    case measure => simp [intOf]; omega
  · have e : k = t := by omega
    subst e
    have e2 : xv = X := by rw [exv, HX.out]
    subst e2
    have hlt' : ¬ (k : Int) < (k : Int) := by omega
    have HB := hid b0
    clear exv b0
    go_wp2_with fail
    go_ret
    exact ⟨rfl, HB.out⟩

end Go.Proofs.YtjffpclidcloeaaGreatDoor
