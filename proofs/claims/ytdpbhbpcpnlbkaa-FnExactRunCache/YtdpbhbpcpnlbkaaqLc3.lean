import Derived.Test.YtdpbhbpcpnlbkaaqGG
set_option maxHeartbeats 1000000
namespace Go.Proofs.Ytdpbhbpcpnlbkaa
open Go.RowKit Go.Maps
set_option linter.unusedVariables false
set_option maxRecDepth 100000
theorem eqIntS_any (ao bo : Option Addr) (n c c' : Nat) (x : Nat → Int) (w : World) (hn : n ≤ 1048576) (ha : Sl w ao n (fun i => .int .i64 (x i))) (hb : Sl w bo n (fun i => .int .i64 (x i))) :
 Calls Try.prog 16 #[.slice ao n c, .slice bo n c'] w fun e w' => e = .returned (.bool true) ∧ Qt w w' := by
 have HA := hidQ ha; have HB := hidQ hb
 clear ha hb
 go_enter Try.func16, Try.ntmps16
 go_wp2_with fail
 go_loopw [5] (fun i wr => ∃ k : Nat, k ≤ n ∧ i = .int .i64 k ∧ Qt w wr) (fun i _ => n - (intOf i).toNat)
 case atStart => exact ⟨0, by omega, rfl, Qt.refl _⟩
 case round =>
  obtain ⟨k, hk, rfl, hq⟩ := hrel
  have HQ := hidQ hq
  by_cases hlt : k < n
  · obtain ⟨g, off, rfl, hl, hc⟩ := HA.out (by omega)
    obtain ⟨g', off', rfl, hl', hc'⟩ := HB.out (by omega)
    have c0 := (hq.cell ⟨g, off + k, none⟩).trans (hc k hlt)
    have c1 := (hq.cell ⟨g', off' + k, none⟩).trans (hc' k hlt)
    have f1 : IntKind.i64.wrap ((k : Int) + 1) = (k : Int) + 1 := by simp only [IntKind.wrap_i64]; omega
    have hlt' : (k : Int) < (n : Int) := by omega
    generalize x k = xk at *
    clear hc hc' hq
    go_wp2_with fail
    go_quiet (fail)
    go_wp2_with fail
    go_roundw
    case rel => exact ⟨k + 1, by omega, by simp, HQ.out.trans (Qt.drewN _ _)⟩
    case measure => simp [intOf]; omega
  · have hkn : k = n := by omega
    subst hkn
    clear hq
    go_wp2_with fail
    go_ret
    exact ⟨rfl, HQ.out⟩

theorem eqKey_any (a b : Int) (w : World) :
 Calls Try.prog 67 #[.agg #[.int .i64 a, .int .i64 b], .agg #[.int .i64 a, .int .i64 b]] w fun e w' => e = .returned (.bool true) ∧ Below w.heap.size w w' := by
 have b0 : Below w.heap.size w ((w.alloc (.cells #[.int .i64 a, .int .i64 b] 36)).alloc (.cells #[.int .i64 a, .int .i64 b] 36)) := ((Below.refl w.heap.size w).alloc (Nat.le_refl _) _).alloc (by simp) _
 go_enter Try.func67, Try.ntmps67
 go_wp2_with fail
 go_ret
 exact ⟨rfl, b0⟩

theorem eqView_any (a b c d : Int) (m : Bool) (w : World) :
 Calls Try.prog 66 #[.agg #[.int .i64 a, .int .i64 b, .int .i64 c, .int .i64 d, .bool m], .agg #[.int .i64 a, .int .i64 b, .int .i64 c, .int .i64 d, .bool m]] w fun e w' => e = .returned (.bool true) ∧ Below w.heap.size w w' := by
 obtain ⟨U, hU⟩ : ∃ U, U = ((w.alloc (.cells #[.int .i64 a, .int .i64 b, .int .i64 c, .int .i64 d, .bool m] 38)).alloc (.cells #[.int .i64 a, .int .i64 b, .int .i64 c, .int .i64 d, .bool m] 38)) := ⟨_, rfl⟩
 have b0 : Below w.heap.size w U := by rw [hU]; exact ((Below.refl w.heap.size w).alloc (Nat.le_refl _) _).alloc (by simp) _
 have k0 : Cls U w.heap.size #[.int .i64 a, .int .i64 b, .int .i64 c, .int .i64 d, .bool m] 38 := by rw [hU]; exact (Cls.new w _ _).below ((Below.refl _ _).alloc (Nat.le_refl _) _)
 have k1 : Cls U (w.heap.size + 1) #[.int .i64 a, .int .i64 b, .int .i64 c, .int .i64 d, .bool m] 38 := by rw [hU]; have := Cls.new (w.alloc (.cells #[.int .i64 a, .int .i64 b, .int .i64 c, .int .i64 d, .bool m] 38)) #[.int .i64 a, .int .i64 b, .int .i64 c, .int .i64 d, .bool m] 38; simpa using this
 have x0 := k0.cell 0 rfl; have x1 := k0.cell 1 rfl; have x2 := k0.cell 2 rfl; have x3 := k0.cell 3 rfl; have x4 := k0.cell 4 rfl
 have y0 := k1.cell 0 rfl; have y1 := k1.cell 1 rfl; have y2 := k1.cell 2 rfl; have y3 := k1.cell 3 rfl; have y4 := k1.cell 4 rfl
 have K0 := hidQ k0; have K1 := hidQ k1; have B0 := hidQ b0
 clear k0 k1 b0
 go_enter Try.func66, Try.ntmps66
 go_upto_region 1 with fail
 rw [← hU]
 clear hU
 go_wp2_with fail
 refine (eqKey_any c d _).mono ?_
 rintro e v ⟨rfl, hv⟩
 have z4 := (K0.out.below hv).cell 4 rfl
 have z4' := (K1.out.below hv).cell 4 rfl
 go_wp2_with fail
 go_ret
 exact ⟨rfl, B0.out.trans (hv.mono B0.out.size)⟩

theorem eqIntSS_any (ao bo : Option Addr) (n c c' : Nat) (len : Nat → Nat) (ax bx : Nat → Option Addr) (ac bc : Nat → Nat) (x : Nat → Nat → Int) (w : World) (hn : n ≤ 1048576) (hl : ∀ t, t < n → len t ≤ 1048576) (ha : Sl w ao n (fun t => .slice (ax t) (len t) (ac t))) (hb : Sl w bo n (fun t => .slice (bx t) (len t) (bc t))) (ha2 : ∀ t, t < n → Sl w (ax t) (len t) (fun i => .int .i64 (x t i))) (hb2 : ∀ t, t < n → Sl w (bx t) (len t) (fun i => .int .i64 (x t i))) :
 Calls Try.prog 42 #[.slice ao n c, .slice bo n c'] w fun e w' => e = .returned (.bool true) ∧ Below w.heap.size w w' := by
 have HA := hidQ ha; have HB := hidQ hb
 have HC := hidQ (fun t (ht : t < n) (v : World) (hv : Below w.heap.size w v) => eqIntS_any (ax t) (bx t) (len t) (ac t) (bc t) (x t) v (hl t ht) ((ha2 t ht).below hv) ((hb2 t ht).below hv))
 clear ha hb ha2 hb2 hl
 go_enter Try.func42, Try.ntmps42
 go_wp2_with fail
 go_loopw [5] (fun i wr => ∃ k : Nat, k ≤ n ∧ i = .int .i64 k ∧ Below w.heap.size w wr) (fun i _ => n - (intOf i).toNat)
 case atStart => exact ⟨0, by omega, rfl, Below.refl _ _⟩
 case round =>
  obtain ⟨k, hk, rfl, hq⟩ := hrel
  have HQ := hidQ hq
  by_cases hlt : k < n
  · obtain ⟨g, off, rfl, hl, hc⟩ := HA.out (by omega)
    obtain ⟨g', off', rfl, hl', hc'⟩ := HB.out (by omega)
    have hls := hq.size
    have c0 := (hq.cell (p := ⟨g, off + (k), none⟩) hl).trans (hc (k) (by omega))
    have d0 := (hq.cell (p := ⟨g', off' + (k), none⟩) hl').trans (hc' (k) (by omega))
    have kE := hidQ (fun v hv => HC.out k hlt v (hq.trans (Below.mono hv hq.size)))
    have f1 : IntKind.i64.wrap ((k : Int) + 1) = (k : Int) + 1 := by simp only [IntKind.wrap_i64]; omega
    have hlt' : (k : Int) < (n : Int) := by omega
    replace hl := Nat.lt_of_lt_of_le hl hls
    replace hl' := Nat.lt_of_lt_of_le hl' hls
    clear hc hc' hq hls
    have A0 : Below wr.heap.size wr wr.drew := (Below.refl _ _).drew
    have KB : ∀ u : World, Below wr.heap.size wr u → (fun u : World => u.cell? ⟨g, off + k, none⟩ = some (.slice (ax k) (len k) (ac k)) ∧ u.cell? ⟨g', off' + k, none⟩ = some (.slice (bx k) (len k) (bc k))) u := fun u b => ⟨(b.cell (p := ⟨g, _, none⟩) hl).trans c0, (b.cell (p := ⟨g', _, none⟩) hl').trans d0⟩
    go_upto_region 6 with fail
    go_region_held3 (fun u : World => u.cell? ⟨g, off + k, none⟩ = some (.slice (ax k) (len k) (ac k)) ∧ u.cell? ⟨g', off' + k, none⟩ = some (.slice (bx k) (len k) (bc k))) (first | with_reducible exact KB _ A0 | with_reducible exact KB _ B1)
     (first | (go_at_call 16; refine (kE.out _ (by with_reducible exact A0)).mono ?_; rintro e u1 ⟨rfl, hb1⟩; have B1 := keepC1 A0 (Qt.below hb1 _); clear hb1))
    go_wp2_with fail
    go_roundw
    case rel => exact ⟨k + 1, by omega, by simp, HQ.out.trans (B1.mono HQ.out.size)⟩
    case measure => simp [intOf]; omega
  · have hkn : k = n := by omega
    subst hkn
    clear hq
    go_wp2_with fail
    go_ret
    exact ⟨rfl, HQ.out⟩

theorem eqKeyS_any (ao bo : Option Addr) (n c c' : Nat) (x : Nat → Int × Int) (w : World) (hn : n ≤ 1048576) (ha : Sl w ao (n * 2) (kf x)) (hb : Sl w bo (n * 2) (kf x)) :
 Calls Try.prog 44 #[.slice ao n c, .slice bo n c'] w fun e w' => e = .returned (.bool true) ∧ Below w.heap.size w w' := by
 have HA := hidQ ha; have HB := hidQ hb
 clear ha hb
 go_enter Try.func44, Try.ntmps44
 go_wp2_with fail
 go_loopw [5] (fun i wr => ∃ k : Nat, k ≤ n ∧ i = .int .i64 k ∧ Below w.heap.size w wr) (fun i _ => n - (intOf i).toNat)
 case atStart => exact ⟨0, by omega, rfl, Below.refl _ _⟩
 case round =>
  obtain ⟨k, hk, rfl, hq⟩ := hrel
  have HQ := hidQ hq
  by_cases hlt : k < n
  · obtain ⟨g, off, rfl, hl, hc⟩ := HA.out (by omega)
    obtain ⟨g', off', rfl, hl', hc'⟩ := HB.out (by omega)
    have hls := hq.size
    have c0 := (hq.cell (p := ⟨g, off + (k * 2), none⟩) hl).trans (hc (k * 2) (by omega))
    have d0 := (hq.cell (p := ⟨g', off' + (k * 2), none⟩) hl').trans (hc' (k * 2) (by omega))
    have c1 := (hq.cell (p := ⟨g, off + (k * 2 + 1), none⟩) hl).trans (hc (k * 2 + 1) (by omega))
    have d1 := (hq.cell (p := ⟨g', off' + (k * 2 + 1), none⟩) hl').trans (hc' (k * 2 + 1) (by omega))
    rw [kf0] at c0
    rw [kf0] at d0
    rw [kf1] at c1
    rw [kf1] at d1
    rw [← Nat.add_assoc] at c1 d1
    have kE := hidQ (fun v => eqKey_any (x k).1 (x k).2 v)
    have f1 : IntKind.i64.wrap ((k : Int) + 1) = (k : Int) + 1 := by simp only [IntKind.wrap_i64]; omega
    have hlt' : (k : Int) < (n : Int) := by omega
    replace hl := Nat.lt_of_lt_of_le hl hls
    replace hl' := Nat.lt_of_lt_of_le hl' hls
    clear hc hc' hq hls
    generalize x k = xk at *
    have A0 : Below wr.heap.size wr wr.drew := (Below.refl _ _).drew
    have KB : ∀ u : World, Below wr.heap.size wr u → (fun u : World => u.cell? ⟨g, off + k * 2, none⟩ = some (.int .i64 xk.1) ∧ u.cell? ⟨g, off + k * 2 + 1, none⟩ = some (.int .i64 xk.2) ∧ u.cell? ⟨g', off' + k * 2, none⟩ = some (.int .i64 xk.1) ∧ u.cell? ⟨g', off' + k * 2 + 1, none⟩ = some (.int .i64 xk.2)) u := fun u b => ⟨(b.cell (p := ⟨g, _, none⟩) hl).trans c0, (b.cell (p := ⟨g, _, none⟩) hl).trans c1, (b.cell (p := ⟨g', _, none⟩) hl').trans d0, (b.cell (p := ⟨g', _, none⟩) hl').trans d1⟩
    go_upto_region 6 with fail
    go_region_held3 (fun u : World => u.cell? ⟨g, off + k * 2, none⟩ = some (.int .i64 xk.1) ∧ u.cell? ⟨g, off + k * 2 + 1, none⟩ = some (.int .i64 xk.2) ∧ u.cell? ⟨g', off' + k * 2, none⟩ = some (.int .i64 xk.1) ∧ u.cell? ⟨g', off' + k * 2 + 1, none⟩ = some (.int .i64 xk.2)) (first | with_reducible exact KB _ A0 | with_reducible exact KB _ B1)
     (first | (go_at_call 67; refine (kE.out _).mono ?_; rintro e u1 ⟨rfl, hb1⟩; have B1 := keepC1 A0 hb1; clear hb1))
    go_wp2_with fail
    go_roundw
    case rel => exact ⟨k + 1, by omega, by simp, HQ.out.trans (B1.mono HQ.out.size)⟩
    case measure => simp [intOf]; omega
  · have hkn : k = n := by omega
    subst hkn
    clear hq
    go_wp2_with fail
    go_ret
    exact ⟨rfl, HQ.out⟩

theorem eqKeySS_any (ao bo : Option Addr) (n c c' : Nat) (len : Nat → Nat) (ax bx : Nat → Option Addr) (ac bc : Nat → Nat) (x : Nat → Nat → Int × Int) (w : World) (hn : n ≤ 1048576) (hl : ∀ t, t < n → len t ≤ 1048576) (ha : Sl w ao n (fun t => .slice (ax t) (len t) (ac t))) (hb : Sl w bo n (fun t => .slice (bx t) (len t) (bc t))) (ha2 : ∀ t, t < n → Sl w (ax t) (len t * 2) (kf (x t))) (hb2 : ∀ t, t < n → Sl w (bx t) (len t * 2) (kf (x t))) :
 Calls Try.prog 15 #[.slice ao n c, .slice bo n c'] w fun e w' => e = .returned (.bool true) ∧ Below w.heap.size w w' := by
 have HA := hidQ ha; have HB := hidQ hb
 have HC := hidQ (fun t (ht : t < n) (v : World) (hv : Below w.heap.size w v) => eqKeyS_any (ax t) (bx t) (len t) (ac t) (bc t) (x t) v (hl t ht) ((ha2 t ht).below hv) ((hb2 t ht).below hv))
 clear ha hb ha2 hb2 hl
 go_enter Try.func15, Try.ntmps15
 go_wp2_with fail
 go_loopw [5] (fun i wr => ∃ k : Nat, k ≤ n ∧ i = .int .i64 k ∧ Below w.heap.size w wr) (fun i _ => n - (intOf i).toNat)
 case atStart => exact ⟨0, by omega, rfl, Below.refl _ _⟩
 case round =>
  obtain ⟨k, hk, rfl, hq⟩ := hrel
  have HQ := hidQ hq
  by_cases hlt : k < n
  · obtain ⟨g, off, rfl, hl, hc⟩ := HA.out (by omega)
    obtain ⟨g', off', rfl, hl', hc'⟩ := HB.out (by omega)
    have hls := hq.size
    have c0 := (hq.cell (p := ⟨g, off + (k), none⟩) hl).trans (hc (k) (by omega))
    have d0 := (hq.cell (p := ⟨g', off' + (k), none⟩) hl').trans (hc' (k) (by omega))
    have kE := hidQ (fun v hv => HC.out k hlt v (hq.trans (Below.mono hv hq.size)))
    have f1 : IntKind.i64.wrap ((k : Int) + 1) = (k : Int) + 1 := by simp only [IntKind.wrap_i64]; omega
    have hlt' : (k : Int) < (n : Int) := by omega
    replace hl := Nat.lt_of_lt_of_le hl hls
    replace hl' := Nat.lt_of_lt_of_le hl' hls
    clear hc hc' hq hls
    have A0 : Below wr.heap.size wr wr.drew := (Below.refl _ _).drew
    have KB : ∀ u : World, Below wr.heap.size wr u → (fun u : World => u.cell? ⟨g, off + k, none⟩ = some (.slice (ax k) (len k) (ac k)) ∧ u.cell? ⟨g', off' + k, none⟩ = some (.slice (bx k) (len k) (bc k))) u := fun u b => ⟨(b.cell (p := ⟨g, _, none⟩) hl).trans c0, (b.cell (p := ⟨g', _, none⟩) hl').trans d0⟩
    go_upto_region 6 with fail
    go_region_held3 (fun u : World => u.cell? ⟨g, off + k, none⟩ = some (.slice (ax k) (len k) (ac k)) ∧ u.cell? ⟨g', off' + k, none⟩ = some (.slice (bx k) (len k) (bc k))) (first | with_reducible exact KB _ A0 | with_reducible exact KB _ B1)
     (first | (go_at_call 44; refine (kE.out _ (by with_reducible exact A0)).mono ?_; rintro e u1 ⟨rfl, hb1⟩; have B1 := keepC1 A0 hb1; clear hb1))
    go_wp2_with fail
    go_roundw
    case rel => exact ⟨k + 1, by omega, by simp, HQ.out.trans (B1.mono HQ.out.size)⟩
    case measure => simp [intOf]; omega
  · have hkn : k = n := by omega
    subst hkn
    clear hq
    go_wp2_with fail
    go_ret
    exact ⟨rfl, HQ.out⟩

def vf (x : Nat → Nat × Nat × (Int × Int) × Bool) : Nat → Value := fun i => if i % 5 = 0 then .int .i64 (x (i / 5)).1 else if i % 5 = 1 then .int .i64 (x (i / 5)).2.1 else if i % 5 = 2 then .int .i64 (x (i / 5)).2.2.1.1 else if i % 5 = 3 then .int .i64 (x (i / 5)).2.2.1.2 else .bool (x (i / 5)).2.2.2

theorem vf0 (x : Nat → Nat × Nat × (Int × Int) × Bool) (k : Nat) : vf x (k * 5) = .int .i64 (x k).1 := by
 simp only [vf]; rw [if_pos (show (k * 5) % 5 = 0 by omega), show (k * 5) / 5 = k by omega]

theorem vf1 (x : Nat → Nat × Nat × (Int × Int) × Bool) (k : Nat) : vf x (k * 5 + 1) = .int .i64 (x k).2.1 := by
 simp only [vf]; rw [if_neg (show ¬ (k * 5 + 1) % 5 = 0 by omega), if_pos (show (k * 5 + 1) % 5 = 1 by omega), show (k * 5 + 1) / 5 = k by omega]

theorem vf2 (x : Nat → Nat × Nat × (Int × Int) × Bool) (k : Nat) : vf x (k * 5 + 2) = .int .i64 (x k).2.2.1.1 := by
 simp only [vf]; rw [if_neg (show ¬ (k * 5 + 2) % 5 = 0 by omega), if_neg (show ¬ (k * 5 + 2) % 5 = 1 by omega), if_pos (show (k * 5 + 2) % 5 = 2 by omega), show (k * 5 + 2) / 5 = k by omega]

theorem vf3 (x : Nat → Nat × Nat × (Int × Int) × Bool) (k : Nat) : vf x (k * 5 + 3) = .int .i64 (x k).2.2.1.2 := by
 simp only [vf]; rw [if_neg (show ¬ (k * 5 + 3) % 5 = 0 by omega), if_neg (show ¬ (k * 5 + 3) % 5 = 1 by omega), if_neg (show ¬ (k * 5 + 3) % 5 = 2 by omega), if_pos (show (k * 5 + 3) % 5 = 3 by omega), show (k * 5 + 3) / 5 = k by omega]

theorem vf4 (x : Nat → Nat × Nat × (Int × Int) × Bool) (k : Nat) : vf x (k * 5 + 4) = .bool (x k).2.2.2 := by
 simp only [vf]; rw [if_neg (show ¬ (k * 5 + 4) % 5 = 0 by omega), if_neg (show ¬ (k * 5 + 4) % 5 = 1 by omega), if_neg (show ¬ (k * 5 + 4) % 5 = 2 by omega), if_neg (show ¬ (k * 5 + 4) % 5 = 3 by omega), show (k * 5 + 4) / 5 = k by omega]

theorem eqViewS_any (ao bo : Option Addr) (n c c' : Nat) (x : Nat → Nat × Nat × (Int × Int) × Bool) (w : World) (hn : n ≤ 1048576) (ha : Sl w ao (n * 5) (vf x)) (hb : Sl w bo (n * 5) (vf x)) :
 Calls Try.prog 43 #[.slice ao n c, .slice bo n c'] w fun e w' => e = .returned (.bool true) ∧ Below w.heap.size w w' := by
 have HA := hidQ ha; have HB := hidQ hb
 clear ha hb
 go_enter Try.func43, Try.ntmps43
 go_wp2_with fail
 go_loopw [5] (fun i wr => ∃ k : Nat, k ≤ n ∧ i = .int .i64 k ∧ Below w.heap.size w wr) (fun i _ => n - (intOf i).toNat)
 case atStart => exact ⟨0, by omega, rfl, Below.refl _ _⟩
 case round =>
  obtain ⟨k, hk, rfl, hq⟩ := hrel
  have HQ := hidQ hq
  by_cases hlt : k < n
  · obtain ⟨g, off, rfl, hl, hc⟩ := HA.out (by omega)
    obtain ⟨g', off', rfl, hl', hc'⟩ := HB.out (by omega)
    have hls := hq.size
    have c0 := (hq.cell (p := ⟨g, off + (k * 5), none⟩) hl).trans (hc (k * 5) (by omega))
    have d0 := (hq.cell (p := ⟨g', off' + (k * 5), none⟩) hl').trans (hc' (k * 5) (by omega))
    have c1 := (hq.cell (p := ⟨g, off + (k * 5 + 1), none⟩) hl).trans (hc (k * 5 + 1) (by omega))
    have d1 := (hq.cell (p := ⟨g', off' + (k * 5 + 1), none⟩) hl').trans (hc' (k * 5 + 1) (by omega))
    have c2 := (hq.cell (p := ⟨g, off + (k * 5 + 2), none⟩) hl).trans (hc (k * 5 + 2) (by omega))
    have d2 := (hq.cell (p := ⟨g', off' + (k * 5 + 2), none⟩) hl').trans (hc' (k * 5 + 2) (by omega))
    have c3 := (hq.cell (p := ⟨g, off + (k * 5 + 3), none⟩) hl).trans (hc (k * 5 + 3) (by omega))
    have d3 := (hq.cell (p := ⟨g', off' + (k * 5 + 3), none⟩) hl').trans (hc' (k * 5 + 3) (by omega))
    have c4 := (hq.cell (p := ⟨g, off + (k * 5 + 4), none⟩) hl).trans (hc (k * 5 + 4) (by omega))
    have d4 := (hq.cell (p := ⟨g', off' + (k * 5 + 4), none⟩) hl').trans (hc' (k * 5 + 4) (by omega))
    rw [vf0] at c0
    rw [vf0] at d0
    rw [vf1] at c1
    rw [vf1] at d1
    rw [vf2] at c2
    rw [vf2] at d2
    rw [vf3] at c3
    rw [vf3] at d3
    rw [vf4] at c4
    rw [vf4] at d4
    rw [← Nat.add_assoc] at c1 d1
    rw [← Nat.add_assoc] at c2 d2
    rw [← Nat.add_assoc] at c3 d3
    rw [← Nat.add_assoc] at c4 d4
    have kE := hidQ (fun v => eqView_any (x k).1 (x k).2.1 (x k).2.2.1.1 (x k).2.2.1.2 (x k).2.2.2 v)
    have f1 : IntKind.i64.wrap ((k : Int) + 1) = (k : Int) + 1 := by simp only [IntKind.wrap_i64]; omega
    have hlt' : (k : Int) < (n : Int) := by omega
    replace hl := Nat.lt_of_lt_of_le hl hls
    replace hl' := Nat.lt_of_lt_of_le hl' hls
    clear hc hc' hq hls
    generalize x k = xk at *
    have A0 : Below wr.heap.size wr wr.drew := (Below.refl _ _).drew
    have KB : ∀ u : World, Below wr.heap.size wr u → (fun u : World => u.cell? ⟨g, off + k * 5, none⟩ = some (.int .i64 (xk.1 : Int)) ∧ u.cell? ⟨g, off + k * 5 + 1, none⟩ = some (.int .i64 (xk.2.1 : Int)) ∧ u.cell? ⟨g, off + k * 5 + 2, none⟩ = some (.int .i64 xk.2.2.1.1) ∧ u.cell? ⟨g, off + k * 5 + 3, none⟩ = some (.int .i64 xk.2.2.1.2) ∧ u.cell? ⟨g, off + k * 5 + 4, none⟩ = some (.bool xk.2.2.2) ∧ u.cell? ⟨g', off' + k * 5, none⟩ = some (.int .i64 (xk.1 : Int)) ∧ u.cell? ⟨g', off' + k * 5 + 1, none⟩ = some (.int .i64 (xk.2.1 : Int)) ∧ u.cell? ⟨g', off' + k * 5 + 2, none⟩ = some (.int .i64 xk.2.2.1.1) ∧ u.cell? ⟨g', off' + k * 5 + 3, none⟩ = some (.int .i64 xk.2.2.1.2) ∧ u.cell? ⟨g', off' + k * 5 + 4, none⟩ = some (.bool xk.2.2.2)) u := fun u b => ⟨(b.cell (p := ⟨g, _, none⟩) hl).trans c0, (b.cell (p := ⟨g, _, none⟩) hl).trans c1, (b.cell (p := ⟨g, _, none⟩) hl).trans c2, (b.cell (p := ⟨g, _, none⟩) hl).trans c3, (b.cell (p := ⟨g, _, none⟩) hl).trans c4, (b.cell (p := ⟨g', _, none⟩) hl').trans d0, (b.cell (p := ⟨g', _, none⟩) hl').trans d1, (b.cell (p := ⟨g', _, none⟩) hl').trans d2, (b.cell (p := ⟨g', _, none⟩) hl').trans d3, (b.cell (p := ⟨g', _, none⟩) hl').trans d4⟩
    go_upto_region 6 with fail
    go_region_held3 (fun u : World => u.cell? ⟨g, off + k * 5, none⟩ = some (.int .i64 (xk.1 : Int)) ∧ u.cell? ⟨g, off + k * 5 + 1, none⟩ = some (.int .i64 (xk.2.1 : Int)) ∧ u.cell? ⟨g, off + k * 5 + 2, none⟩ = some (.int .i64 xk.2.2.1.1) ∧ u.cell? ⟨g, off + k * 5 + 3, none⟩ = some (.int .i64 xk.2.2.1.2) ∧ u.cell? ⟨g, off + k * 5 + 4, none⟩ = some (.bool xk.2.2.2) ∧ u.cell? ⟨g', off' + k * 5, none⟩ = some (.int .i64 (xk.1 : Int)) ∧ u.cell? ⟨g', off' + k * 5 + 1, none⟩ = some (.int .i64 (xk.2.1 : Int)) ∧ u.cell? ⟨g', off' + k * 5 + 2, none⟩ = some (.int .i64 xk.2.2.1.1) ∧ u.cell? ⟨g', off' + k * 5 + 3, none⟩ = some (.int .i64 xk.2.2.1.2) ∧ u.cell? ⟨g', off' + k * 5 + 4, none⟩ = some (.bool xk.2.2.2)) (first | with_reducible exact KB _ A0 | with_reducible exact KB _ B1)
     (first | (go_at_call 66; refine (kE.out _).mono ?_; rintro e u1 ⟨rfl, hb1⟩; have B1 := keepC1 A0 hb1; clear hb1))
    go_wp2_with fail
    go_roundw
    case rel => exact ⟨k + 1, by omega, by simp, HQ.out.trans (B1.mono HQ.out.size)⟩
    case measure => simp [intOf]; omega
  · have hkn : k = n := by omega
    subst hkn
    clear hq
    go_wp2_with fail
    go_ret
    exact ⟨rfl, HQ.out⟩

end Go.Proofs.Ytdpbhbpcpnlbkaa
