import Derived.Test.YtdpbhbpcpnlbkaaqGE
namespace Go.Proofs.Ytdpbhbpcpnlbkaa
open Go.RowKit Go.Maps
set_option linter.unusedVariables false
set_option maxRecDepth 100000
def Sl (w : World) (ao : Option Addr) (n : Nat) (f : Nat → Value) : Prop := 0 < n → ∃ b off, ao = some ⟨b, off, none⟩ ∧ b < w.heap.size ∧ ∀ i, i < n → w.cell? ⟨b, off + i, none⟩ = some (f i)

theorem Sl.below {w v : World} {ao : Option Addr} {n : Nat} {f : Nat → Value} (h : Sl w ao n f) (b : Below w.heap.size w v) : Sl v ao n f := by
 intro h0
 obtain ⟨g, off, e, hl, hc⟩ := h h0
 exact ⟨g, off, e, Nat.lt_of_lt_of_le hl b.size, fun i hi => (b.cell (p := ⟨g, off + i, none⟩) hl).trans (hc i hi)⟩

theorem Sl.of {w : World} {g n : Nat} {t : TypeId} {f : Nat → Value} (h : Bf w g t n f) : Sl w (some ⟨g, 0, none⟩) n f := fun _ => ⟨g, 0, rfl, h.lt, fun i hi => by rw [Nat.zero_add]; exact h.cell i hi⟩

def kf (x : Nat → Int × Int) : Nat → Value := fun i => if i % 2 = 0 then .int .i64 (x (i / 2)).1 else .int .i64 (x (i / 2)).2

theorem kf0 (x : Nat → Int × Int) (k : Nat) : kf x (k * 2) = .int .i64 (x k).1 := by
 have e1 : k * 2 % 2 = 0 := by omega
 have e2 : k * 2 / 2 = k := by omega
 simp only [kf]; rw [if_pos e1, e2]

theorem kf1 (x : Nat → Int × Int) (k : Nat) : kf x (k * 2 + 1) = .int .i64 (x k).2 := by
 have e1 : ¬ (k * 2 + 1) % 2 = 0 := by omega
 have e2 : (k * 2 + 1) / 2 = k := by omega
 simp only [kf]; rw [if_neg e1, e2]

theorem toIntS_any (ao : Option Addr) (n c : Nat) (x : Nat → Int) (w : World) (hn : n ≤ 1048576) (hr : Sl w ao n (fun i => .int .i64 (x i))) :
 Calls Try.prog 13 #[.slice ao n c] w fun e w' => e = .returned (.slice (some ⟨w.heap.size, 0, none⟩) n n) ∧ Bf w' w.heap.size 3 n (fun i => .int .i64 (x i)) ∧ Below w.heap.size w w' := by
 obtain ⟨i0, hi, hz0, hz1, hz2⟩ := info_parts infoI
 have hmk := fun (wx : World) => run_make (P := Try.prog) wx 26 3 i0 (.int .i64 0) Try.underlying26 hi hz0 .i64 .i64 ((n : Nat) : Int) ((n : Nat) : Int) (by omega) (Int.le_refl _) (by rw [hz2]; omega) (by omega)
 simp only [Int.toNat_natCast, hz1, Nat.mul_one, Value.cells] at hmk
 have b0 := hidQ (zero_new w n)
 have HR := hidQ hr
 clear hi hz0 hz1 hz2 hr
 go_enter Try.func13, Try.ntmps13
 go_wp2_with fail
 clear hmk
 go_loopw [4] (fun i wr => ∃ k : Nat, k ≤ n ∧ i = .int .i64 k ∧ Bf wr w.heap.size 3 n (fun i => if i < k then .int .i64 (x i) else .int .i64 0) ∧ Below w.heap.size w wr) (fun i _ => n - (intOf i).toNat)
 case atStart => exact ⟨0, by omega, rfl, b0.out.congr (fun i hi => by simp), (Below.refl _ _).alloc (Nat.le_refl _) _⟩
 case round =>
  obtain ⟨k, hk, rfl, hB, hb⟩ := hrel
  have HB := hidQ hb; have HBB := hidQ hB
  by_cases hlt : k < n
  · obtain ⟨g, off, rfl, hl, hc⟩ := HR.out (by omega)
    have c0 := (hb.cell (p := ⟨g, off + k, none⟩) hl).trans (hc k hlt)
    have d0 := hB.cell k hlt
    rw [if_neg (by omega)] at d0
    have df := hB.frozen k
    have f1 : IntKind.i64.wrap ((k : Int) + 1) = (k : Int) + 1 := by simp only [IntKind.wrap_i64]; omega
    clear hc hB hb
    go_wp2_with fail
    go_roundw
    case rel =>
     refine ⟨k + 1, by omega, by simp, (HBB.out.set k _).congr ?_, HB.out.setCell (p := ⟨w.heap.size, k, none⟩) (Nat.le_refl _) _⟩
     intro i hi
     by_cases e : i = k
     · subst e; rw [upd_at]; simp
     · rw [upd_ne _ _ e]
       by_cases e2 : i < k
       · rw [if_pos e2, if_pos (by omega)]
       · rw [if_neg e2, if_neg (by omega)]
    case measure => simp [intOf]; omega
  · have hkn : k = n := by omega
    subst hkn
    clear hB hb
    go_wp2_with fail
    go_ret
    exact ⟨rfl, HBB.out.congr (fun i hi => by rw [if_pos hi]), HB.out⟩

theorem toKeyS_any (ao : Option Addr) (n c : Nat) (x : Nat → Int × Int) (w : World) (hn : n ≤ 1048576) (hr : Sl w ao (n * 2) (kf x)) :
 Calls Try.prog 41 #[.slice ao n c] w fun e w' => e = .returned (.slice (some ⟨w.heap.size, 0, none⟩) n n) ∧ Bf w' w.heap.size 36 (n * 2) (kf x) ∧ Below w.heap.size w w' := by
 obtain ⟨i0, hi, hz0, hz1, hz2⟩ := info_parts Try.infoK
 have hmk := fun (wx : World) => run_make (P := Try.prog) wx 34 36 i0 _ Try.underlying34 hi hz0 .i64 .i64 ((n : Nat) : Int) ((n : Nat) : Int) (by omega) (Int.le_refl _) (by rw [hz2]; omega) (by omega)
 simp only [Int.toNat_natCast, hz1, Value.cells] at hmk
 have b0 := hidQ (show Bf (w.alloc (.cells (madeCells #[.int .i64 0, .int .i64 0] (n * 2)) 36)) w.heap.size 36 (n * 2) (fun _ => .int .i64 0) from ⟨_, heap_alloc_new _ _, size_madeCells _ _, fun i hi => by
  have h2 : i % 2 = 0 ∨ i % 2 = 1 := by omega
  simp only [madeCells]
  rw [Array.getElem?_map, Array.getElem?_eq_getElem (by simpa using hi)]
  rcases h2 with h | h <;> simp [h]⟩)
 have HR := hidQ hr
 clear hi hz0 hz1 hz2 hr
 go_enter Try.func41, Try.ntmps41
 go_wp2_with fail
 clear hmk
 go_loopw [4] (fun i wr => ∃ k : Nat, k ≤ n ∧ i = .int .i64 k ∧ Bf wr w.heap.size 36 (n * 2) (fun i => if i < k * 2 then kf x i else .int .i64 0) ∧ Below w.heap.size w wr) (fun i _ => n - (intOf i).toNat)
 case atStart => exact ⟨0, by omega, rfl, b0.out.congr (fun i hi => by simp), (Below.refl _ _).alloc (Nat.le_refl _) _⟩
 case round =>
  obtain ⟨k, hk, rfl, hB, hb⟩ := hrel
  have HB := hidQ hb; have HBB := hidQ hB
  by_cases hlt : k < n
  · obtain ⟨g, off, rfl, hl, hc⟩ := HR.out (by omega)
    have c0 := (hb.cell (p := ⟨g, off + k * 2, none⟩) hl).trans (hc (k * 2) (by omega))
    have c1 := (hb.cell (p := ⟨g, off + (k * 2 + 1), none⟩) hl).trans (hc (k * 2 + 1) (by omega))
    rw [kf0] at c0
    rw [kf1, ← Nat.add_assoc] at c1
    have kT := hidQ (toKey_any (x k).1 (x k).2 wr)
    have f1 : IntKind.i64.wrap ((k : Int) + 1) = (k : Int) + 1 := by simp only [IntKind.wrap_i64]; omega
    clear hc hB hb
    go_wp2_with fail
    refine kT.out.mono ?_
    rintro e v ⟨rfl, hv⟩
    have hB := HBB.out.below hv
    have HV := hidQ hB
    have bv := hidQ (HB.out.trans (hv.mono HB.out.size))
    have d0 := hB.cell (k * 2) (by omega)
    have d1 := hB.cell (k * 2 + 1) (by omega)
    rw [if_neg (by omega)] at d0 d1
    have df := hB.frozen
    clear hB hv
    go_wp2_with fail
    go_roundw
    case rel =>
     refine ⟨k + 1, by omega, by simp, ((HV.out.set (k * 2) _).set (k * 2 + 1) _).congr ?_, (bv.out.setCell (p := ⟨w.heap.size, k * 2, none⟩) (Nat.le_refl _) _).setCell (p := ⟨w.heap.size, k * 2 + 1, none⟩) (Nat.le_refl _) _⟩
     intro i hi
     by_cases e1 : i = k * 2 + 1
     · rw [e1, upd_at, if_pos (by omega), kf1]
     · rw [upd_ne _ _ e1]
       by_cases e : i = k * 2
       · rw [e, upd_at, if_pos (by omega), kf0]
       · rw [upd_ne _ _ e]
         by_cases e2 : i < k * 2
         · rw [if_pos e2, if_pos (by omega)]
         · rw [if_neg e2, if_neg (by omega)]
    case measure => simp [intOf]; omega
  · have hkn : k = n := by omega
    subst hkn
    clear hB hb
    go_wp2_with fail
    go_ret
    exact ⟨rfl, HBB.out.congr (fun i hi => by rw [if_pos hi]), HB.out⟩

theorem infoKs : (Try.prog.info? 34).map (fun i => (i.zero, i.size, i.bytes)) = some (some (.slice none 0 0), 1, 24) := by kernel_rfl

def TS (B g n : Nat) (len : Nat → Nat) (x : Nat → Nat → Int × Int) (kb : Nat → Nat) (k : Nat) (wr : World) : Prop :=
 Bf wr g 34 n (fun t => if t < k then .slice (some ⟨kb t, 0, none⟩) (len t) (len t) else .slice none 0 0) ∧ (∀ t, t < k → Bf wr (kb t) 36 (len t * 2) (kf (x t)) ∧ B ≤ kb t) ∧ ∀ t t', t < k → t' < k → kb t = kb t' → t = t'

theorem TS.below {B g n k : Nat} {len : Nat → Nat} {x : Nat → Nat → Int × Int} {kb : Nat → Nat} {wr wv : World} (h : TS B g n len x kb k wr) (b : Below wr.heap.size wr wv) : TS B g n len x kb k wv := ⟨h.1.below b, fun t ht => ⟨(h.2.1 t ht).1.below b, (h.2.1 t ht).2⟩, h.2.2⟩

theorem TS.step {B g n k : Nat} {len : Nat → Nat} {x : Nat → Nat → Int × Int} {kb : Nat → Nat} {wr v : World} (h : TS B g n len x kb k wr) (b : Below wr.heap.size wr v) (nb : Nat) (hn : wr.heap.size ≤ nb) (hB : B ≤ nb) (hb : Bf v nb 36 (len k * 2) (kf (x k))) :
 TS B g n len x (fun t => if t = k then nb else kb t) (k + 1) (v.setCell ⟨g, k, none⟩ (.slice (some ⟨nb, 0, none⟩) (len k) (len k))) := by
 obtain ⟨hG, hS, hi⟩ := h
 have G' := hG.below b
 refine ⟨(G'.set k _).congr ?_, fun t ht => ?_, fun t t' ht ht' => ?_⟩
 · intro t ht
   by_cases e : t = k
   · subst e; rw [upd_at]; simp
   · rw [upd_ne _ _ e]
     by_cases e2 : t < k
     · rw [if_pos e2, if_pos (by omega)]; simp only [if_neg e]
     · rw [if_neg e2, if_neg (by omega)]
 · by_cases e : t = k
   · subst e
     simp only [if_true]
     exact ⟨hb.far _ _ _ (hb.ne G' (by decide)), hB⟩
   · simp only [if_neg e]
     have a := (hS t (by omega)).1.below b
     exact ⟨a.far _ _ _ (a.ne G' (by decide)), (hS t (by omega)).2⟩
 · by_cases e1 : t = k <;> by_cases e2 : t' = k
   · intro _; rw [e1, e2]
   · simp only [if_pos e1, if_neg e2]; intro e; have := (hS t' (by omega)).1.lt; omega
   · simp only [if_neg e1, if_pos e2]; intro e; have := (hS t (by omega)).1.lt; omega
   · simp only [if_neg e1, if_neg e2]; exact hi t t' (by omega) (by omega)

theorem toKeySS_any (ao : Option Addr) (n c : Nat) (len : Nat → Nat) (ax : Nat → Option Addr) (ac : Nat → Nat) (x : Nat → Nat → Int × Int) (w : World) (hn : n ≤ 1048576) (hl : ∀ t, t < n → len t ≤ 1048576) (hr : Sl w ao n (fun t => .slice (ax t) (len t) (ac t))) (hr2 : ∀ t, t < n → Sl w (ax t) (len t * 2) (kf (x t))) :
 Calls Try.prog 12 #[.slice ao n c] w fun e w' => ∃ kb, e = .returned (.slice (some ⟨w.heap.size, 0, none⟩) n n) ∧ TS w.heap.size w.heap.size n len x kb n w' ∧ Below w.heap.size w w' := by
 obtain ⟨i0, hi, hz0, hz1, hz2⟩ := info_parts infoKs
 have hmk := fun (wx : World) => run_make (P := Try.prog) wx 25 34 i0 _ Try.underlying25 hi hz0 .i64 .i64 ((n : Nat) : Int) ((n : Nat) : Int) (by omega) (Int.le_refl _) (by rw [hz2]; omega) (by omega)
 simp only [Int.toNat_natCast, hz1, Nat.mul_one, Value.cells] at hmk
 have b0 := hidQ (show Bf (w.alloc (.cells (madeCells #[.slice none 0 0] n) 34)) w.heap.size 34 n (fun _ => .slice none 0 0) from ⟨_, heap_alloc_new _ _, size_madeCells _ _, fun i hi => by simp only [madeCells]; rw [Array.getElem?_map, Array.getElem?_eq_getElem (by simpa using hi)]; simp [Nat.mod_one]⟩)
 have HR := hidQ hr; have HR2 := hidQ hr2; have HL := hidQ hl
 clear hi hz0 hz1 hz2 hr hr2 hl
 go_enter Try.func12, Try.ntmps12
 go_wp2_with fail
 clear hmk
 go_loopw [4] (fun i wr => ∃ (k : Nat) (kb : Nat → Nat), k ≤ n ∧ i = .int .i64 k ∧ TS w.heap.size w.heap.size n len x kb k wr ∧ Below w.heap.size w wr) (fun i _ => n - (intOf i).toNat)
 case atStart => exact ⟨0, fun _ => 0, by omega, rfl, ⟨b0.out.congr (fun i hi => by simp), fun t ht => by omega, fun t t' ht => by omega⟩, (Below.refl _ _).alloc (Nat.le_refl _) _⟩
 case round =>
  obtain ⟨k, kb, hk, rfl, hS, hb⟩ := hrel
  have HB := hidQ hb; have HS := hidQ hS
  by_cases hlt : k < n
  · obtain ⟨g, off, rfl, hl, hc⟩ := HR.out (by omega)
    have c0 := (hb.cell (p := ⟨g, off + k, none⟩) hl).trans (hc k hlt)
    have kT := hidQ (toKeyS_any (ax k) (len k) (ac k) (x k) wr (HL.out k hlt) ((HR2.out k hlt).below hb))
    have f1 : IntKind.i64.wrap ((k : Int) + 1) = (k : Int) + 1 := by simp only [IntKind.wrap_i64]; omega
    clear hc hS hb
    go_wp2_with fail
    refine kT.out.mono ?_
    rintro e v ⟨rfl, hK, hv⟩
    have hB := HS.out.1.below hv
    have d0 := hB.cell k hlt
    rw [if_neg (by omega)] at d0
    have df := hB.frozen k
    have bv := hidQ (HB.out.trans (hv.mono HB.out.size))
    have ST := hidQ (HS.out.step hv wr.heap.size (Nat.le_refl _) HB.out.size hK)
    clear hB hv hK
    go_wp2_with fail
    go_roundw
    case rel => exact ⟨k + 1, _, by omega, by simp, ST.out, bv.out.setCell (p := ⟨w.heap.size, k, none⟩) (Nat.le_refl _) _⟩
    case measure => simp [intOf]; omega
  · have hkn : k = n := by omega
    subst hkn
    clear hS hb
    go_wp2_with fail
    go_ret
    exact ⟨kb, rfl, HS.out, HB.out⟩

theorem szKeyS_any (ao : Option Addr) (n c : Nat) (l : Int) (w : World) (hn : (n : Int) < 9223372036854775808) (h0 : 0 ≤ l ∧ l ≤ 1048576) :
 Calls Try.prog 40 #[.slice ao n c, .int .i64 l] w fun e w' => ∃ r : Int, e = .returned (.int .i64 r) ∧ r ≤ l ∧ (r < 0 ∨ (n : Int) ≤ l) ∧ w' = w := by
 obtain ⟨d, hd⟩ : ∃ d, l - (n : Int) = d := ⟨_, rfl⟩
 have f1 : IntKind.i64.wrap (l - (n : Int)) = d := by simp only [IntKind.wrap_i64]; omega
 by_cases h : d < 0
 · have HD := hidQ hd
   clear hd
   go_enter Try.func40, Try.ntmps40
   go_wp2_with fail
   go_ret
   exact ⟨-1, rfl, by omega, .inl (by omega), rfl⟩
 · have h' : decide (d < 0) = false := decide_eq_false h
   have HD := hidQ hd
   clear hd
   go_enter Try.func40, Try.ntmps40
   go_wp2_with fail
   go_ret
   have := HD.out
   exact ⟨d, rfl, by omega, .inr (by omega), rfl⟩

theorem szKeySS_any (ao : Option Addr) (n c : Nat) (len : Nat → Nat) (ax : Nat → Option Addr) (ac : Nat → Nat) (w : World) (hn : (n : Int) < 9223372036854775808) (hl : ∀ t, t < n → (len t : Int) < 9223372036854775808) (hr : Sl w ao n (fun t => .slice (ax t) (len t) (ac t))) :
 Calls Try.prog 10 #[.slice ao n c, .int .i64 1048576] w fun e w' => ∃ r : Int, e = .returned (.int .i64 r) ∧ (r < 0 ∨ (n ≤ 1048576 ∧ ∀ t, t < n → len t ≤ 1048576)) ∧ w' = w := by
 obtain ⟨d, hd⟩ : ∃ d : Int, 1048576 - (n : Int) = d := ⟨_, rfl⟩
 have f1 : IntKind.i64.wrap (1048576 - (n : Int)) = d := by simp only [IntKind.wrap_i64]; omega
 have HR := hidQ hr; have HL := hidQ hl
 clear hr hl
 by_cases h : d < 0
 · have HD := hidQ hd
   clear hd
   go_enter Try.func10, Try.ntmps10
   go_wp2_with fail
   go_ret
   exact ⟨-1, rfl, .inl (by omega), rfl⟩
 · have h' : decide (d < 0) = false := decide_eq_false h
   have HD := hidQ hd
   clear hd
   go_enter Try.func10, Try.ntmps10
   go_wp2_with fail
   go_loopw [1, 5] (fun lv i wr => ∃ (k : Nat) (l : Int), k ≤ n ∧ i = .int .i64 k ∧ lv = .int .i64 l ∧ 0 ≤ l ∧ l ≤ 1048576 ∧ (∀ t, t < k → len t ≤ 1048576) ∧ wr = w) (fun _ i _ => n - (intOf i).toNat)
   case atStart => exact ⟨0, d, by omega, rfl, rfl, by omega, by have := HD.out; omega, fun t ht => by omega, rfl⟩
   case round =>
    obtain ⟨k, l, hk, rfl, rfl, h0, h1, h2, rfl⟩ := hrel
    have H2 := hidQ h2
    have hnn : n ≤ 1048576 := by have := HD.out; omega
    by_cases hlt : k < n
    · obtain ⟨g, off, rfl, hl, hc⟩ := HR.out (by omega)
      have c0 := hc k hlt
      have kS := hidQ (szKeyS_any (ax k) (len k) (ac k) l wr (HL.out k hlt) ⟨h0, h1⟩)
      have fk : IntKind.i64.wrap ((k : Int) + 1) = (k : Int) + 1 := by simp only [IntKind.wrap_i64]; omega
      clear hc h2
      go_wp2_with fail
      refine kS.out.mono ?_
      rintro e v ⟨r, rfl, hr1, hr2, rfl⟩
      by_cases hr0 : r < 0
      · go_wp2_with fail
        go_ret
        exact ⟨-1, rfl, .inl (by omega), rfl⟩
      · have hr0' : decide (r < 0) = false := decide_eq_false hr0
        have H3 := hidQ hr2
        clear hr2
        go_wp2_with fail
        go_roundw
        case rel =>
         refine ⟨k + 1, r, by omega, by simp, rfl, by omega, by omega, fun t ht => ?_, by first | rfl | trivial⟩
         rcases Nat.lt_or_ge t k with h | h
         · exact H2.out t h
         · have e : t = k := by omega
           rcases H3.out with h3 | h3
           · omega
           · rw [e]; omega
        case measure => simp [intOf]; omega
    · have hkn : k = n := by omega
      subst hkn
      clear h2
      go_wp2_with fail
      go_ret
      exact ⟨l, rfl, .inr ⟨hnn, H2.out⟩, rfl⟩

end Go.Proofs.Ytdpbhbpcpnlbkaa
