import Derived.Test.YtchfkmompciooabW7
import Derived.Test.YtchfkmompciooabW8
import Derived.Test.YtchfkmompciooabCom
namespace Go.Proofs.Ytchfkmompciooab
open Go.RowKit
set_option linter.unusedVariables false

theorem V_snoc0 (xs : List Nat) : V (xs ++ List.replicate 1 0) = V xs := by
  unfold V; rw [M.val_append]; simp [M.val]

set_option maxHeartbeats 1000000 in
theorem add_ge (ao bo : Option Addr) (n m c d : Nat) (a b : Nat) (w : World) (sw : Bool) (hl : (L a).length = n) (hm : (L b).length = m) (hnm : m ≤ n) (hn : n ≤ 1048576) (hr : Rd w ao (L a)) (hr2 : Rd w bo (L b)) (hsw : sw = true → m < n) :
    Calls Try.prog 29 (if sw then #[.slice bo m d, .slice ao n c] else #[.slice ao n c, .slice bo m d]) w fun e w' => Ret w w' e (L (a + b)) := by
  have fin : ∀ (w1 w2 : World), Blk w1 w.heap.size (L a ++ List.replicate 1 0) → Below w.heap.size w w1 → AddInPost w1 w2 w.heap.size (L a ++ List.replicate 1 0) 0 (n + 1) (V (L b)) →
      ∃ cur, Blk w2 w.heap.size cur ∧ cur.length = n + 1 ∧ F64 cur ∧ V cur = a + b ∧ Below w.heap.size w w2 := by
    intro w1 w2 hB hb hp
    obtain ⟨hg, cur, cc, hBc, hW, hc1, hv⟩ := hp
    have hlen : cur.length = n + 1 := by rw [hW.len]; simp [hl]
    refine ⟨cur, hBc, hlen, hW.lt, ?_, hb.trans ((Below.refl _ _).grown hg hb.size (fun _ h => by cases h; exact Nat.le_refl _))⟩
    rw [M.seg_all cur _ hlen, M.seg_all _ _ (by simp [hl]), V_snoc0, V_L, V_L] at hv
    have h1 := L_lt a n (by omega)
    have h2 := L_lt b n (by omega)
    exact (M.no_carry hv (by rw [Nat.pow_succ]; omega)).2
  have hsep : ∀ b2 o2, 0 < (L b).length → bo = some ⟨b2, o2, none⟩ → b2 ≠ w.heap.size := by
    intro b2 o2 hp e
    obtain ⟨b3, o3, e3, hc⟩ := hr2 hp
    rw [e] at e3
    simp only [Option.some.injEq, Addr.mk.injEq] at e3
    have := World.block_lt_of_cell? w _ (hc 0 hp)
    simp at this
    omega
  cases sw
  · have hlt : ¬ (n : Int) < (m : Int) := by omega
    simp only [Bool.false_eq_true, if_false]
    go_enter Try.func29, Try.ntmps29
    go_wp2_with fail
    refine (clone_any ao n c 1 (L a) _ hl (by omega) (by omega) hr).mono ?_
    rintro e w1 ⟨rfl, hB1, hb1⟩
    go_wp2_with fail
    refine (addIn_any w.heap.size 0 (n + 1) (n + 1) bo m d _ (L b) _ hB1 (fun x hx => ?_) (by simp [hl]) (by omega) hm (by omega) (F64_L b) (hr2.below hb1) (fun hp b2 o2 => hsep b2 o2 hp)).mono ?_
    · rcases List.mem_append.1 hx with hx | hx
      · exact F64_L a x hx
      · simp at hx; omega
    rintro e w2 ⟨rfl, hp⟩
    obtain ⟨cur, hB2, hlen, hf, hv, hb2⟩ := fin w1 w2 hB1 hb1 hp
    clear hp fin hB1
    go_wp2_with fail
    refine (trim_any _ (n + 1) (n + 1) cur _ hlen (Nat.le_refl _) (by omega) hf hB2.rd0).mono ?_
    rw [hv]
    rintro e w3 ⟨rfl, rfl⟩
    go_wp2_with fail
    go_ret
    have h1 := L_len cur hf
    have h2 := L_take cur hf
    rw [hv] at h1 h2
    have h3 := hB2.ownPre (base := w.heap.size) (Nat.le_refl _) h1 hlen (by unfold maxLen; omega)
    rw [h2] at h3
    exact ⟨_, _, rfl, h3, hb2⟩
  · have hlt : (m : Int) < (n : Int) := by have := hsw rfl; omega
    simp only [if_true]
    go_enter Try.func29, Try.ntmps29
    go_wp2_with fail
    refine (clone_any ao n c 1 (L a) _ hl (by omega) (by omega) hr).mono ?_
    rintro e w1 ⟨rfl, hB1, hb1⟩
    go_wp2_with fail
    refine (addIn_any w.heap.size 0 (n + 1) (n + 1) bo m d _ (L b) _ hB1 (fun x hx => ?_) (by simp [hl]) (by omega) hm (by omega) (F64_L b) (hr2.below hb1) (fun hp b2 o2 => hsep b2 o2 hp)).mono ?_
    · rcases List.mem_append.1 hx with hx | hx
      · exact F64_L a x hx
      · simp at hx; omega
    rintro e w2 ⟨rfl, hp⟩
    obtain ⟨cur, hB2, hlen, hf, hv, hb2⟩ := fin w1 w2 hB1 hb1 hp
    clear hp fin hB1
    go_wp2_with fail
    refine (trim_any _ (n + 1) (n + 1) cur _ hlen (Nat.le_refl _) (by omega) hf hB2.rd0).mono ?_
    rw [hv]
    rintro e w3 ⟨rfl, rfl⟩
    go_wp2_with fail
    go_ret
    have h1 := L_len cur hf
    have h2 := L_take cur hf
    rw [hv] at h1 h2
    have h3 := hB2.ownPre (base := w.heap.size) (Nat.le_refl _) h1 hlen (by unfold maxLen; omega)
    rw [h2] at h3
    exact ⟨_, _, rfl, h3, hb2⟩

theorem add_any (ao bo : Option Addr) (n m c d : Nat) (a b : Nat) (w : World) (hl : (L a).length = n) (hm : (L b).length = m) (hn : n ≤ 1048576) (hm2 : m ≤ 1048576) (hr : Rd w ao (L a)) (hr2 : Rd w bo (L b)) :
    Calls Try.prog 29 #[.slice ao n c, .slice bo m d] w fun e w' => Ret w w' e (L (a + b)) := by
  by_cases h : m ≤ n
  · exact add_ge ao bo n m c d a b w false hl hm h hn hr hr2 (fun h => by cases h)
  · have := add_ge bo ao m n d c b a w true hm hl (by omega) (by omega) hr2 hr (fun _ => by omega)
    rw [Nat.add_comm b a] at this
    exact this

/-- What NatAdd is to answer. -/
def addDoc (xs ys : List Nat) : List Nat := if xs.length ≤ 1200 ∧ ys.length ≤ 1200 then L (V xs + V ys) else []

theorem addDoc_len (xs ys : List Nat) (hx : F64 xs) (hy : F64 ys) : (addDoc xs ys).length ≤ 2400 := by
  unfold addDoc
  split
  · next h =>
    have h1 := L_len xs hx
    have h2 := L_len ys hy
    have := M.len_add (B := 18446744073709551616) (by omega) (V xs) (V ys) 1200 (show (L (V xs)).length ≤ 1200 by omega) (show (L (V ys)).length ≤ 1200 by omega)
    exact Nat.le_trans this (by omega)
  · simp

set_option maxHeartbeats 1000000 in
theorem implNatAdd_any (ao bo : Option Addr) (n m c d : Nat) (xs ys : List Nat) (w : World) (hl : xs.length = n) (hm : ys.length = m) (hc : n ≤ c) (hd : m ≤ d) (hn : n ≤ 1048576) (hn2 : m ≤ 1048576) (hx : F64 xs) (hy : F64 ys) (hr : Rd w ao xs) (hr2 : Rd w bo ys) :
    Calls Try.prog 9 #[.slice ao n c, .slice bo m d] w fun e w' => Ret w w' e (addDoc xs ys) := by
  by_cases h1 : n ≤ 1200 ∧ m ≤ 1200
  · have hdoc : addDoc xs ys = L (V xs + V ys) := by unfold addDoc; rw [if_pos (by omega)]
    rw [hdoc]
    have hall : true = [n, m].all (fun x => decide (x ≤ 1200)) := by simp [h1]
    have hall' := hid hall; clear hall
    go_enter Try.func9, Try.ntmps9
    go_wp2_with fail
    refine (short_any _ 2 [n, m] true _ rfl (by omega) (by simp; omega) hall'.out (two_cells _ _ _ _ _ _ _ _)).mono ?_
    rintro e w1 ⟨rfl, hw1⟩
    have hb1 : Below w.heap.size w w1 := by rw [hw1]; exact (Below.refl _ _).alloc (Nat.le_refl _) _
    clear hw1
    go_wp2_with fail
    refine (trim_any ao n c xs _ hl hc (by omega) hx (hr.below hb1)).mono ?_
    rintro e w2 ⟨rfl, rfl⟩
    go_wp2_with fail
    refine (trim_any bo m d ys _ hm hd (by omega) hy (hr2.below hb1)).mono ?_
    rintro e w3 ⟨rfl, rfl⟩
    go_wp2_with fail
    have s1 := L_len xs hx
    have s2 := L_len ys hy
    refine (add_any ao bo _ _ c d (V xs) (V ys) _ rfl rfl (by omega) (by omega) ((hr.below hb1).trim hx) ((hr2.below hb1).trim hy)).mono ?_
    rintro e w4 hret
    obtain ⟨ao', cap', rfl, ho, hb⟩ := hret.later hb1
    go_wp2_with fail
    go_ret
    exact ⟨ao', cap', rfl, ho, hb⟩
  · have hdoc : addDoc xs ys = [] := by unfold addDoc; rw [if_neg (by omega)]
    rw [hdoc]
    have hall : false = [n, m].all (fun x => decide (x ≤ 1200)) := by simp; omega
    have hall' := hid hall; clear hall
    go_enter Try.func9, Try.ntmps9
    go_wp2_with fail
    refine (short_any _ 2 [n, m] false _ rfl (by omega) (by simp; omega) hall'.out (two_cells _ _ _ _ _ _ _ _)).mono ?_
    rintro e w1 ⟨rfl, hw1⟩
    have hb1 : Below w.heap.size w w1 := by rw [hw1]; exact (Below.refl _ _).alloc (Nat.le_refl _) _
    clear hw1
    go_wp2_with fail
    go_ret
    exact Ret.nil hb1

set_option maxHeartbeats 1000000 in
theorem specNatAdd_any (ao bo : Option Addr) (n m c d : Nat) (xs ys : List Nat) (w : World) (hl : xs.length = n) (hm : ys.length = m) (hn : n ≤ 1048576) (hn2 : m ≤ 1048576) (hx : F64 xs) (hy : F64 ys) (hr : Rd w ao xs) (hr2 : Rd w bo ys) :
    Calls Try.prog 7 #[.slice ao n c, .slice bo m d] w fun e w' => Ret w w' e (addDoc xs ys) := by
  by_cases h1 : n ≤ 1200
  · by_cases h2 : m ≤ 1200
    · have hdoc : addDoc xs ys = L (V xs + V ys) := by unfold addDoc; rw [if_pos (by omega)]
      rw [hdoc]
      have d1 : decide (n ≤ 1200) = true := by simpa using h1
      have d2 : decide (m ≤ 1200) = true := by simpa using h2
      go_enter Try.func7, Try.ntmps7
      go_wp2_with fail
      refine (l1Fits_any ao n c _ (by omega)).mono ?_
      rintro e w1 ⟨rfl, rfl⟩
      rw [d1]
      go_wp2_with fail
      refine (l1Fits_any bo m d _ (by omega)).mono ?_
      rintro e w2 ⟨rfl, rfl⟩
      rw [d2]
      go_wp2_with fail
      refine (l1In_any ao n c xs _ hl (by omega) hx hr).mono ?_
      rintro e w3 ⟨ao1, cap1, rfl, ho1, hb1⟩
      go_wp2_with fail
      refine (l1In_any bo m d ys _ hm (by omega) hy (hr2.below hb1)).mono ?_
      rintro e w4 ⟨ao2, cap2, rfl, ho2, hb2⟩
      go_wp2_with fail
      have hs1 := D_len xs hx
      have hs2 := D_len ys hy
      refine (l1Add_any ao1 ao2 _ _ cap1 cap2 (V xs) (V ys) _ rfl rfl (by omega) (by omega) ((Rd.own ho1).below hb2) (Rd.own ho2)).mono ?_
      rintro e w5 ⟨ao3, cap3, rfl, ho3, hb3⟩
      have b3 := (hb1.trans (hb2.mono hb1.size)).trans (hb3.mono (Nat.le_trans hb1.size hb2.size))
      go_wp2_with fail
      have hs3 : (D (V xs + V ys)).length ≤ 2400 + 1 := M.len_add (by omega) (V xs) (V ys) 2400 (show (D (V xs)).length ≤ 2400 by omega) (show (D (V ys)).length ≤ 2400 by omega)
      refine (l1Out_any ao3 _ cap3 (V xs + V ys) _ rfl (by omega) (Rd.own ho3)).mono ?_
      rintro e w6 ⟨ao4, cap4, rfl, ho4, hb4⟩
      go_wp2_with fail
      go_ret
      exact ⟨ao4, cap4, rfl, own_base ho4 b3.size, b3.trans (hb4.mono b3.size)⟩
    · have hdoc : addDoc xs ys = [] := by unfold addDoc; rw [if_neg (by omega)]
      rw [hdoc]
      have d1 : decide (n ≤ 1200) = true := by simpa using h1
      have d2 : decide (m ≤ 1200) = false := by simpa using h2
      go_enter Try.func7, Try.ntmps7
      go_wp2_with fail
      refine (l1Fits_any ao n c _ (by omega)).mono ?_
      rintro e w1 ⟨rfl, rfl⟩
      rw [d1]
      go_wp2_with fail
      refine (l1Fits_any bo m d _ (by omega)).mono ?_
      rintro e w2 ⟨rfl, rfl⟩
      rw [d2]
      go_wp2_with fail
      go_ret
      exact Ret.nil (Below.refl _ _)
  · have hdoc : addDoc xs ys = [] := by unfold addDoc; rw [if_neg (by omega)]
    rw [hdoc]
    have d1 : decide (n ≤ 1200) = false := by simpa using h1
    go_enter Try.func7, Try.ntmps7
    go_wp2_with fail
    refine (l1Fits_any ao n c _ (by omega)).mono ?_
    rintro e w1 ⟨rfl, rfl⟩
    rw [d1]
    go_wp2_with fail
    go_ret
    exact Ret.nil (Below.refl _ _)

end Go.Proofs.Ytchfkmompciooab
