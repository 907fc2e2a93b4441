import Derived.Test.YtmglhkdgfcbonaaGreatDoorrNfd
set_option maxHeartbeats 1000000
namespace Go.Proofs.YtmglhkdgfcbonaaGreatDoor
open Go.RowKit
set_option linter.unusedVariables false
set_option maxRecDepth 100000
theorem implNatFromText_any (ao : Option Addr) (n c : Nat) (bs : List Nat) (w : World) (hl : bs.length = n) (hn : n ≤ 1048576) (hcap : n ≤ c) (hcm : c ≤ 9223372036854775807) (hr : RdB w ao bs) :
 Calls Tryz.prog 19 #[.slice ao n c] w fun e w' => RetB w w' e (ftDoc bs) (ftOk bs) := by
 by_cases h0 : n < 1
 · have hok : ftOk bs = false := by simp [ftOk, hl]; omega
   have hdoc : ftDoc bs = [] := by unfold ftDoc; rw [hok]; rfl
   rw [hok, hdoc]
   have h0' : (n : Int) < 1 := by omega
   go_enter Tryz.func19, Tryz.ntmps19
   go_wp2_with fail
   go_ret2
   exact RetB.nil (Below.refl _ _)
 · have h0' : ¬ (n : Int) < 1 := by omega
   by_cases h2 : 20000 < n
   · have hok : ftOk bs = false := by simp [ftOk, hl]; omega
     have hdoc : ftDoc bs = [] := by unfold ftDoc; rw [hok]; rfl
     rw [hok, hdoc]
     have h2' : 20000 < (n : Int) := by omega
     go_enter Tryz.func19, Tryz.ntmps19
     go_wp2_with fail
     go_ret2
     exact RetB.nil (Below.refl _ _)
   · have h2' : ¬ 20000 < (n : Int) := by omega
     have kA := fun (v : World) (hr : RdB v ao bs) (b : Bool) (hb : b = bs.all isDig) => allDigits_any ao n c bs v hl (by omega) hr b hb
     cases ha : bs.all isDig
     · have hok : ftOk bs = false := by unfold ftOk; rw [ha, Bool.and_false]
       have hdoc : ftDoc bs = [] := by unfold ftDoc; rw [hok]; rfl
       rw [hok, hdoc]
       have HA := hid ha; clear ha
       go_enter Tryz.func19, Tryz.ntmps19
       go_wp2_with (go_at_call 61; refine (kA _ hr false HA.out.symm).mono ?_; rintro e w1 ⟨rfl, rfl⟩)
       go_ret2
       exact RetB.nil (Below.refl _ _)
     · have hok : ftOk bs = true := by unfold ftOk; rw [ha, hl]; simp; omega
       have hdoc : ftDoc bs = L (M.dec bs) := by unfold ftDoc; rw [hok]; rfl
       rw [hok, hdoc]
       obtain ⟨b, off, rfl, _⟩ := hr.2 (by omega)
       have kN := fun (v : World) (hr : RdB v (some ⟨b, off, none⟩) bs) => natFromDigits_any b off n c bs v hl (by omega) (by omega) hcap hcm (all_dig ha) hr
       have HA := hid ha; clear ha
       go_enter Tryz.func19, Tryz.ntmps19
       go_wp2_with (go_at_call 61; refine (kA _ hr true HA.out.symm).mono ?_; rintro e w1 ⟨rfl, rfl⟩)
       refine (kN _ hr).mono ?_
       rintro e w1 ⟨a1, c1, rfl, ho, hb⟩
       go_wp2_with fail
       go_ret2
       exact ⟨a1, c1, rfl, ho, hb⟩

end Go.Proofs.YtmglhkdgfcbonaaGreatDoor
